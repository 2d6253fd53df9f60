/-
  A board behind calls, one by one: for every slice of calls; no condition but that each number fits.
-/
import Derived.Test.YtonmnpadmphbdaaDoorOpn
import Derived.Deep.Cut
import Derived.BigQuiet
import Derived.WalkSmall
import Derived.Deep.LoopGhost
namespace Go.Proofs.YtonmnpadmphbdaaDoor
open Go.ChangeShapes Go.WideShapes Go.ChangeAt Go.RowKit
set_option linter.unusedVariables false
set_option linter.unusedSimpArgs false
set_option maxRecDepth 100000
def playN (f g h : Nat → Int) : Nat → M
  | 0 => zeroM
  | t + 1 => thenV (playN f g h t) (f t) (g t) (h t)
theorem ok_play (f g h : Nat → Int) (hh : ∀ i, 0 ≤ h i ∧ h i < 256) : ∀ t, okM (playN f g h t)
  | 0 => ok_zero
  | t + 1 => ok_then (ok_play f g h hh t) _ _ _ (hh t).1 (hh t).2
/-- A whole board is loaded, at the operation. -/
theorem wp_load_b {op : Oper} {a : Act} {w : World} {K : Act → World → Prop} {Q : Exit → Act → World → Prop} {b : Nat} {m : M} (h : Has w b (enc m))
    (x : Operand) (ho : op.op = .load 29 x) (hx : a.eval x = .pointer (some ⟨b, 0, none⟩)) (hK : K (a.put op.dst (.agg (enc m))) w) : op.wp Tryd.prog a w K Q := by
  obtain ⟨fs, hu⟩ := under29
  exact wp_load_mid 29 x ho b 0 hx (enc m).toList (.struct fs) (range_of_has h) hu rfl (by rw [info29]; simp [enc_size]) (by simpa using hK)
/-- A whole board is stored, at the operation. -/
theorem wp_store_b {op : Oper} {a : Act} {w : World} {K : Act → World → Prop} {Q : Exit → Act → World → Prop} {b : Nat} {m : M} (h : Has w b (enc m)) (m2 : M)
    (x y : Operand) (ho : op.op = .store 29 x y) (hx : a.eval x = .pointer (some ⟨b, 0, none⟩)) (hy : a.eval y = .agg (enc m2))
    (hK : ∀ w', Has w' b (enc m2) → Keeps b w w' → K (a.put op.dst undef) w') : op.wp Tryd.prog a w K Q := by
  refine wp_store_mid 29 x y ho b 0 (enc m2) hx hy (by have := h.there; rw [enc_size] at this ⊢; exact this) (by rw [info29, enc_size]) (enc_one m2) ?_
  exact hK _ (h.puts (by rw [enc_size, enc_size])) (Keeps.setCells _ 0 (Keeps.refl b w))
set_option maxHeartbeats 8000000 in
theorem play_c (a : Option Addr) (n c : Nat) (f g h : Nat → Int) (hh : ∀ i, 0 ≤ h i ∧ h i < 256) (hn4 : n ≤ 40) (w : World) (hmem : (0 < n → ∃ qb qo, a = some ⟨qb, qo, none⟩ ∧ qb < w.heap.size ∧ ∀ j, j < n → w.cell? ⟨qb, qo + j * 3, none⟩ = some (.int .i64 (f j)) ∧ w.cell? ⟨qb, qo + j * 3 + 1, none⟩ = some (.int .i64 (g j)) ∧ w.cell? ⟨qb, qo + j * 3 + 2, none⟩ = some (.int .u8 (h j)))) : Calls Tryd.prog 12 #[.slice a n c] w fun q_ w' => q_ = .returned (.agg (enc (playN f g h n))) ∧ Below w.heap.size w w' := by
  suffices hall : ∀ (n_ : Nat) (W0 : World), n_ ≤ W0.heap.size → Below n_ W0 w → (0 < n → ∃ qb qo, a = some ⟨qb, qo, none⟩ ∧ qb < n_ ∧ ∀ j, j < n → W0.cell? ⟨qb, qo + j * 3, none⟩ = some (.int .i64 (f j)) ∧ W0.cell? ⟨qb, qo + j * 3 + 1, none⟩ = some (.int .i64 (g j)) ∧ W0.cell? ⟨qb, qo + j * 3 + 2, none⟩ = some (.int .u8 (h j))) → Calls Tryd.prog 12 #[.slice a n c] w fun q_ w' => q_ = .returned (.agg (enc (playN f g h n))) ∧ Below n_ W0 w' from hall _ _ (Nat.le_refl _) (Below.refl _ _) hmem
  intro n_ W0 hn hB hI
  have HN := Lib.hid hn
  have BB := Lib.hid hB
  have HIN := Lib.hid hI
  have HH := Lib.hid hh
  clear hn hB hI hmem hh
  have OP := Lib.hid (fun t => ok_play f g h HH.out t)
  have hz29 : ∀ w : World, (zeroValue 29).run Tryd.prog w = .ok (.agg (enc zeroM)) w := zero29
  go_enter Tryd.func12, Tryd.ntmps12
  have Q_ := own1 w (.cells (enc zeroM) 29)
  have B0 := Lib.hid (vian HN.out BB.out Q_)
  have R0 := Lib.hid (show Has (w.alloc (.cells (enc zeroM) 29)) w.heap.size (enc zeroM) by simpa using Has.new w (enc zeroM) 29)
  have LR := Lib.hid (show n_ ≤ w.heap.size + 0 from Nat.le_add_right_of_le (Nat.le_trans HN.out BB.out.size))
  simp only [Nat.add_zero] at LR
  clear Q_
  go_upto_region 1 with (fail)
  generalize (w.alloc (.cells (enc zeroM) 29)) = u0 at B0 R0 ⊢
  generalize w.heap.size = rb at R0 LR  ⊢
  go_wp2_with (refine store_b (Has.new u0 (enc zeroM) 29) (zeroM) rfl _ _ rfl rfl rfl ?_)
  intro u1 hP hk
  have Q_ := own1 u0 (.cells (enc zeroM) 29)
  have LP := Lib.hid (show n_ ≤ u0.heap.size from Nat.le_trans HN.out B0.out.size)
  have NRP := Lib.hid (show rb ≠ u0.heap.size from Nat.ne_of_lt R0.out.1)
  have B1 := Lib.hid (hk.below HN.out LP.out (vian HN.out B0.out Q_))
  have R1 := Lib.hid (hk.has NRP.out (R0.out.below Q_))
  have P1 := Lib.hid hP
  generalize u0.heap.size = pb at LP NRP P1 ⊢
  clear hk hP Q_ B0 R0
  try simp only [Act.put, List.setIfInBounds_toArray, List.set_cons_zero, List.set_cons_succ]
  go_wp2
  go_loopg [8] n (fun g' i w5 => ∃ (t : Nat), t ≤ n ∧ g' + t = n ∧ i = .int .i64 t ∧ Below n_ W0 w5 ∧ Has w5 pb (enc (playN f g h t)) ∧ Has w5 rb (enc zeroM))
  case atStart => exact ⟨0, by omega, by omega, rfl, B1.out, P1.out, R1.out⟩
  case round =>
    obtain ⟨w5, hw5⟩ : ∃ q_, q_ = wr := ⟨_, rfl⟩
    subst hw5
    obtain ⟨t, ht, hg, rfl, hB, hP, hR⟩ := hrel
    have TG := Lib.hid hg
    have B5 := Lib.hid hB
    have P5 := Lib.hid hP
    have R5 := Lib.hid hR
    clear hg hB hP hR B1 P1 R1
    by_cases hlt : t < n
    · have l1 : (t : Int) < n := by omega
      have l0 : (0 : Int) ≤ t := by omega
      obtain ⟨qb, qo, rfl, hqb, hcells⟩ := HIN.out (by omega)
      have QQ := Lib.hid hqb
      have E0 := Lib.hid (hcells t hlt).1
      have E1 := Lib.hid (hcells t hlt).2.1
      have E2 := Lib.hid (hcells t hlt).2.2
      have xb := HH.out t
      have HS := Lib.hid (show playN f g h (t + 1) = thenV (playN f g h t) (f t) (g t) (h t) from rfl)
      have OK := Lib.hid (OP.out t)
      obtain ⟨m, hm⟩ : ∃ q_, playN f g h t = q_ := ⟨_, rfl⟩
      rw [hm] at OK P5 HS
      generalize f t = kk at E0 HS
      generalize g t = nn at E1 HS
      generalize h t = xx at E2 HS xb
      clear hcells hqb hm
      have ST := Lib.hid (fun W => ticks_c kk nn xx W)
      have NL := tickN_lt kk nn
      obtain ⟨N, hNN⟩ : ∃ q_, tickN kk nn = q_ := ⟨_, rfl⟩
      unfold thenV at HS
      rw [hNN] at ST NL HS
      have OI := Lib.hid (fun t => ok_it OK.out t)
      clear hNN
      by_cases h2 : kk = 2
      · skip
        have i2 : (kk == 2) = true := by simpa using h2
        rw [if_pos h2] at HS
        have x0 := (B5.out.cell (p := ⟨qb, qo + t * 3, none⟩) QQ.out).trans E0.out
        have x1 := (B5.out.cell (p := ⟨qb, qo + t * 3 + 1, none⟩) QQ.out).trans E1.out
        have x2 := (B5.out.cell (p := ⟨qb, qo + t * 3 + 2, none⟩) QQ.out).trans E2.out
        clear h2
        go_wp2_with (fail)
        clear x0 x1 x2
        with_reducible refine (ST.out _).mono ?_
        rintro q_ u6 ⟨rfl, hb⟩
        have B6 := Lib.hid (vian HN.out B5.out hb)
        have P6 := Lib.hid (P5.out.below hb)
        have R6 := Lib.hid (R5.out.below hb)
        clear hb B5 P5 R5
        go_wp2
        go_loopg [16] N (fun g' i w5 => ∃ (s : Nat), s ≤ N ∧ g' + s = N ∧ i = .int .i64 s ∧ Below n_ W0 w5 ∧ Has w5 pb (enc (itN m s)) ∧ Has w5 rb (enc zeroM))
        case atStart => exact ⟨0, by omega, by omega, rfl, B6.out, P6.out, R6.out⟩
        case round =>
          obtain ⟨w7, hw7⟩ : ∃ q_, q_ = wr := ⟨_, rfl⟩
          subst hw7
          obtain ⟨s, hs, hg, rfl, hB, hP, hR⟩ := hrel
          have SG := Lib.hid hg
          have B7 := Lib.hid hB
          have P7 := Lib.hid hP
          have R7 := Lib.hid hR
          clear hg hB hP hR B6 P6 R6
          by_cases hls : s < N
          · have l2 : (s : Int) < N := by omega
            have SC := Lib.hid (fun W => tick_c (itN m s) (OI.out s) W)
            obtain ⟨m1, hm1⟩ : ∃ q_, itN m s = q_ := ⟨_, rfl⟩
            obtain ⟨m2, hm2⟩ : ∃ q_, itN m (s + 1) = q_ := ⟨_, rfl⟩
            have hm3 : tickV (itN m s) = m2 := hm2
            rw [hm3] at SC
            rw [hm1] at SC P7
            have HM := Lib.hid hm2
            clear hm1 hm2 hm3
            go_wp2_with (first | ((first | (refine load_b P7.out rfl _ rfl rfl ?_) | (refine load_bg P7.out rfl _ rfl rfl ?_)); simp only [Act.put, List.setIfInBounds_toArray, List.set_cons_zero, List.set_cons_succ]))
            with_reducible refine (SC.out _).mono ?_
            rintro q_ u8 ⟨rfl, hb⟩
            have B8 := Lib.hid (vian HN.out B7.out hb)
            have P8 := Lib.hid (P7.out.below hb)
            have R8 := Lib.hid (R7.out.below hb)
            clear hb B7 P7 R7
            go_wp2_with (refine store_b P8.out (m2) rfl _ _ rfl rfl rfl ?_)
            intro u9 hP hk
            have P9 := Lib.hid hP
            have B9 := Lib.hid (hk.below HN.out LP.out B8.out)
            have R9 := Lib.hid (hk.has NRP.out R8.out)
            clear hk hP B8 P8 R8
            try simp only [Act.put]
            go_wp2
            go_roundg (N - (s + 1))
            case measure => have := SG.out; omega
            case rel => exact ⟨s + 1, by omega, by have := SG.out; omega, by simp, B9.out, by rw [HM.out]; exact P9.out, R9.out⟩
          · have te : s = N := by omega
            subst te
            have l2 : ¬ (s : Int) < s := by omega
            have SW := Lib.hid (fun W => write_c (itN m s) (OI.out s) nn xx xb.1 xb.2 W)
            obtain ⟨m1, hm1⟩ : ∃ q_, itN m s = q_ := ⟨_, rfl⟩
            rw [hm1] at SW P7 HS
            clear hm1
            have x0 := (B7.out.cell (p := ⟨qb, qo + t * 3, none⟩) QQ.out).trans E0.out
            have x1 := (B7.out.cell (p := ⟨qb, qo + t * 3 + 1, none⟩) QQ.out).trans E1.out
            have x2 := (B7.out.cell (p := ⟨qb, qo + t * 3 + 2, none⟩) QQ.out).trans E2.out
            obtain ⟨m2, hm2⟩ : ∃ q_, writeV m1 nn xx = q_ := ⟨_, rfl⟩
            rw [hm2] at SW HS
            clear hm2
            go_upto_region 10 with (fail)
            clear x0 x1 x2
            have B8 := Lib.hid B7.out.drew
            have P8 := Lib.hid P7.out.drew
            have R8 := Lib.hid R7.out.drew
            clear B7 P7 R7
            refine wp_region_held_drew (S := (fun w' => (w'.cell? ⟨qb, qo + t * 3 + 1, none⟩ = some (.int .i64 nn)) ∧ (w'.cell? ⟨qb, qo + t * 3 + 2, none⟩ = some (.int .u8 xx)))) (by kernel_rfl) ⟨(B8.out.cell (p := ⟨qb, qo + t * 3 + 1, none⟩) QQ.out).trans E1.out, (B8.out.cell (p := ⟨qb, qo + t * 3 + 2, none⟩) QQ.out).trans E2.out⟩ (fun hHeld => ?_)
            generalize World.drew _ = u8 at hHeld B8 P8 R8 ⊢
            refine wpAnyH_take (i := 1) (oi := { dst := some 28, op := Go.Op.move (Go.Operand.tmp 0), type := 22, pos := "law.go:73", after := #[], guard := none }) (v := ?v1) rfl (by kernel_rfl) (by kernel_rfl) (by kernel_rfl) (fun _ _ _ h => h) (Or.inl ⟨by rfl, ?y1⟩) (by assumption) ?z1
            case y1 => (intro w hSw; (try dsimp only at hSw); go_simp) <;> with_reducible rfl
            try simp only [Act.put, List.setIfInBounds_toArray, List.set_cons_zero, List.set_cons_succ]
            refine wpAnyH_take (i := 2) (oi := { dst := some 29, op := Go.Op.move (Go.Operand.tmp 4), type := 3, pos := "law.go:73", after := #[], guard := none }) (v := ?v2) rfl (by kernel_rfl) (by kernel_rfl) (by kernel_rfl) (fun _ _ _ h => h) (Or.inl ⟨by rfl, ?y2⟩) (by assumption) ?z2
            case y2 => (intro w hSw; (try dsimp only at hSw); go_simp) <;> with_reducible rfl
            try simp only [Act.put, List.setIfInBounds_toArray, List.set_cons_zero, List.set_cons_succ]
            refine wpAnyH_take (i := 3) (oi := { dst := some 30, op := Go.Op.indexAddr 22 (Go.Operand.tmp 28) (Go.Operand.tmp 29), type := 0, pos := "law.go:73", after := #[{ on := 1, ground := Go.Ground.data }, { on := 2, ground := Go.Ground.data }], guard := none }) (v := ?v3) rfl (by kernel_rfl) (by kernel_rfl) (by kernel_rfl) (fun _ _ _ h => h) (Or.inl ⟨by rfl, ?y3⟩) (by assumption) ?z3
            case y3 => (intro w hSw; (try dsimp only at hSw); go_simp) <;> with_reducible rfl
            try simp only [Act.put, List.setIfInBounds_toArray, List.set_cons_zero, List.set_cons_succ]
            refine wpAnyH_take (i := 4) (oi := { dst := some 31, op := Go.Op.fieldAddr 32 (Go.Operand.tmp 30) 1, type := 0, pos := "law.go:73", after := #[{ on := 3, ground := Go.Ground.data }], guard := none }) (v := ?v4) rfl (by kernel_rfl) (by kernel_rfl) (by kernel_rfl) (fun _ _ _ h => h) (Or.inl ⟨by rfl, ?y4⟩) (by assumption) ?z4
            case y4 => (intro w hSw; (try dsimp only at hSw); go_simp) <;> with_reducible rfl
            try simp only [Act.put, List.setIfInBounds_toArray, List.set_cons_zero, List.set_cons_succ]
            refine wpAnyH_take (i := 5) (oi := { dst := some 32, op := Go.Op.load 3 (Go.Operand.tmp 31), type := 3, pos := "law.go:73", after := #[{ on := 4, ground := Go.Ground.data }], guard := none }) (v := ?v5) rfl (by kernel_rfl) (by kernel_rfl) (by kernel_rfl) (fun _ _ _ h => h) (Or.inl ⟨by rfl, ?y5⟩) (by assumption) ?z5
            case y5 => (intro w hSw; (try dsimp only at hSw); go_simp) <;> with_reducible rfl
            try simp only [Act.put, List.setIfInBounds_toArray, List.set_cons_zero, List.set_cons_succ]
            refine wpAnyH_take (i := 6) (oi := { dst := some 33, op := Go.Op.move (Go.Operand.tmp 0), type := 22, pos := "law.go:73", after := #[], guard := none }) (v := ?v6) rfl (by kernel_rfl) (by kernel_rfl) (by kernel_rfl) (fun _ _ _ h => h) (Or.inl ⟨by rfl, ?y6⟩) (by assumption) ?z6
            case y6 => (intro w hSw; (try dsimp only at hSw); go_simp) <;> with_reducible rfl
            try simp only [Act.put, List.setIfInBounds_toArray, List.set_cons_zero, List.set_cons_succ]
            refine wpAnyH_take (i := 7) (oi := { dst := some 34, op := Go.Op.move (Go.Operand.tmp 4), type := 3, pos := "law.go:73", after := #[], guard := none }) (v := ?v7) rfl (by kernel_rfl) (by kernel_rfl) (by kernel_rfl) (fun _ _ _ h => h) (Or.inl ⟨by rfl, ?y7⟩) (by assumption) ?z7
            case y7 => (intro w hSw; (try dsimp only at hSw); go_simp) <;> with_reducible rfl
            try simp only [Act.put, List.setIfInBounds_toArray, List.set_cons_zero, List.set_cons_succ]
            refine wpAnyH_take (i := 8) (oi := { dst := some 35, op := Go.Op.indexAddr 22 (Go.Operand.tmp 33) (Go.Operand.tmp 34), type := 0, pos := "law.go:73", after := #[{ on := 6, ground := Go.Ground.data }, { on := 7, ground := Go.Ground.data }], guard := none }) (v := ?v8) rfl (by kernel_rfl) (by kernel_rfl) (by kernel_rfl) (fun _ _ _ h => h) (Or.inl ⟨by rfl, ?y8⟩) (by assumption) ?z8
            case y8 => (intro w hSw; (try dsimp only at hSw); go_simp) <;> with_reducible rfl
            try simp only [Act.put, List.setIfInBounds_toArray, List.set_cons_zero, List.set_cons_succ]
            refine wpAnyH_take (i := 9) (oi := { dst := some 36, op := Go.Op.fieldAddr 32 (Go.Operand.tmp 35) 2, type := 0, pos := "law.go:73", after := #[{ on := 8, ground := Go.Ground.data }], guard := none }) (v := ?v9) rfl (by kernel_rfl) (by kernel_rfl) (by kernel_rfl) (fun _ _ _ h => h) (Or.inl ⟨by rfl, ?y9⟩) (by assumption) ?z9
            case y9 => (intro w hSw; (try dsimp only at hSw); go_simp) <;> with_reducible rfl
            try simp only [Act.put, List.setIfInBounds_toArray, List.set_cons_zero, List.set_cons_succ]
            refine wpAnyH_take (i := 10) (oi := { dst := some 37, op := Go.Op.load 5 (Go.Operand.tmp 36), type := 5, pos := "law.go:73", after := #[{ on := 9, ground := Go.Ground.data }], guard := none }) (v := ?v10) rfl (by kernel_rfl) (by kernel_rfl) (by kernel_rfl) (fun _ _ _ h => h) (Or.inl ⟨by rfl, ?y10⟩) (by assumption) ?z10
            case y10 => (intro w hSw; (try dsimp only at hSw); go_simp) <;> with_reducible rfl
            try simp only [Act.put, List.setIfInBounds_toArray, List.set_cons_zero, List.set_cons_succ]
            refine wpAnyH_ready (rs := [0]) (by kernel_rfl) (by simp) ?_
            refine (AllReadyH.cons (o := { dst := some 27, op := Go.Op.load 29 (Go.Operand.tmp 3), type := 29, pos := "law.go:73", after := #[], guard := none }) rfl (fun K hK => ?_) AllReadyH.nil)
            · skip
              refine wp_load_b P8.out _ rfl rfl ?_
              try simp only [Act.put, List.setIfInBounds_toArray, List.set_cons_zero, List.set_cons_succ]
              have B9 := B8
              have P9 := P8
              have R9 := R8
              clear B8 P8 R8
              refine hK.out _ _ ?s11 (fun hNew => ?r11)
              case s11 => exact ⟨(B9.out.cell (p := ⟨qb, qo + t * 3 + 1, none⟩) QQ.out).trans E1.out, (B9.out.cell (p := ⟨qb, qo + t * 3 + 2, none⟩) QQ.out).trans E2.out⟩
              clear hK K hHeld
              have hHeld := hNew
              clear hNew
              refine wpAnyH_ready (rs := [11]) (by kernel_rfl) (by simp) ?_
              refine (AllReadyH.cons (o := { dst := some 38, op := Go.Op.call { callee := Go.Callee.value (Go.Operand.func 10), args := #[Go.Operand.tmp 27, Go.Operand.tmp 32, Go.Operand.tmp 37], argTypes := #[29, 3, 5] }, type := 29, pos := "law.go:73", after := #[{ on := 0, ground := Go.Ground.data }, { on := 5, ground := Go.Ground.data }, { on := 10, ground := Go.Ground.data }], guard := none }) rfl (fun K hK => ?_) AllReadyH.nil)
              · skip
                go_simp
                with_reducible refine (SW.out _).mono ?_
                rintro q_ u10 ⟨rfl, hb⟩
                have B10 := Lib.hid (vian HN.out B9.out hb)
                have P10 := Lib.hid (P9.out.below hb)
                have R10 := Lib.hid (R9.out.below hb)
                clear hb B9 P9 R9
                refine hK.out _ _ ?s12 (fun hNew => ?r12)
                case s12 => exact ⟨(B10.out.cell (p := ⟨qb, qo + t * 3 + 1, none⟩) QQ.out).trans E1.out, (B10.out.cell (p := ⟨qb, qo + t * 3 + 2, none⟩) QQ.out).trans E2.out⟩
                clear hK K hHeld
                have hHeld := hNew
                clear hNew
                refine wpAnyH_ready (rs := [12]) (by kernel_rfl) (by simp) ?_
                refine (AllReadyH.cons (o := { dst := none, op := Go.Op.store 29 (Go.Operand.tmp 3) (Go.Operand.tmp 38), type := 0, pos := "law.go:73", after := #[{ on := 11, ground := Go.Ground.data }, { on := 11, ground := Go.Ground.chain }, { on := 0, ground := Go.Ground.phase }, { on := 1, ground := Go.Ground.phase }, { on := 2, ground := Go.Ground.phase }, { on := 3, ground := Go.Ground.phase }, { on := 4, ground := Go.Ground.phase }, { on := 5, ground := Go.Ground.phase }, { on := 6, ground := Go.Ground.phase }, { on := 7, ground := Go.Ground.phase }, { on := 8, ground := Go.Ground.phase }, { on := 9, ground := Go.Ground.phase }, { on := 10, ground := Go.Ground.phase }, { on := 11, ground := Go.Ground.phase }], guard := none }) rfl (fun K hK => ?_) AllReadyH.nil)
                · skip
                  refine wp_store_b P10.out m2 _ _ rfl rfl rfl ?_
                  intro u11 hP hk
                  try simp only [Act.put]
                  have P11 := Lib.hid hP
                  have B11 := Lib.hid (hk.below HN.out LP.out B10.out)
                  have R11 := Lib.hid (hk.has NRP.out R10.out)
                  clear hP hk B10 P10 R10
                  refine hK.out _ _ ?s13 (fun hNew => ?r13)
                  case s13 => exact ⟨(B11.out.cell (p := ⟨qb, qo + t * 3 + 1, none⟩) QQ.out).trans E1.out, (B11.out.cell (p := ⟨qb, qo + t * 3 + 2, none⟩) QQ.out).trans E2.out⟩
                  clear hK K hHeld
                  have hHeld := hNew
                  clear hNew
                  refine wpAnyH_done (by kernel_rfl) ?_ _
                  clear hHeld
                  go_wp2
                  go_roundg (n - (t + 1))
                  case measure => have := TG.out; omega
                  case rel => exact ⟨t + 1, by omega, by have := TG.out; omega, by simp, B11.out, by rw [HS.out]; exact P11.out, R11.out⟩
      · skip
        have i2 : (kk == 2) = false := by simpa using h2
        rw [if_neg h2] at HS
        have x0 := (B5.out.cell (p := ⟨qb, qo + t * 3, none⟩) QQ.out).trans E0.out
        have x1 := (B5.out.cell (p := ⟨qb, qo + t * 3 + 1, none⟩) QQ.out).trans E1.out
        have x2 := (B5.out.cell (p := ⟨qb, qo + t * 3 + 2, none⟩) QQ.out).trans E2.out
        clear h2
        go_wp2_with (fail)
        clear x0 x1 x2
        with_reducible refine (ST.out _).mono ?_
        rintro q_ u6 ⟨rfl, hb⟩
        have B6 := Lib.hid (vian HN.out B5.out hb)
        have P6 := Lib.hid (P5.out.below hb)
        have R6 := Lib.hid (R5.out.below hb)
        clear hb B5 P5 R5
        go_wp2
        go_loopg [16] N (fun g' i w5 => ∃ (s : Nat), s ≤ N ∧ g' + s = N ∧ i = .int .i64 s ∧ Below n_ W0 w5 ∧ Has w5 pb (enc (itN m s)) ∧ Has w5 rb (enc zeroM))
        case atStart => exact ⟨0, by omega, by omega, rfl, B6.out, P6.out, R6.out⟩
        case round =>
          obtain ⟨w7, hw7⟩ : ∃ q_, q_ = wr := ⟨_, rfl⟩
          subst hw7
          obtain ⟨s, hs, hg, rfl, hB, hP, hR⟩ := hrel
          have SG := Lib.hid hg
          have B7 := Lib.hid hB
          have P7 := Lib.hid hP
          have R7 := Lib.hid hR
          clear hg hB hP hR B6 P6 R6
          by_cases hls : s < N
          · have l2 : (s : Int) < N := by omega
            have SC := Lib.hid (fun W => tick_c (itN m s) (OI.out s) W)
            obtain ⟨m1, hm1⟩ : ∃ q_, itN m s = q_ := ⟨_, rfl⟩
            obtain ⟨m2, hm2⟩ : ∃ q_, itN m (s + 1) = q_ := ⟨_, rfl⟩
            have hm3 : tickV (itN m s) = m2 := hm2
            rw [hm3] at SC
            rw [hm1] at SC P7
            have HM := Lib.hid hm2
            clear hm1 hm2 hm3
            go_wp2_with (first | ((first | (refine load_b P7.out rfl _ rfl rfl ?_) | (refine load_bg P7.out rfl _ rfl rfl ?_)); simp only [Act.put, List.setIfInBounds_toArray, List.set_cons_zero, List.set_cons_succ]))
            with_reducible refine (SC.out _).mono ?_
            rintro q_ u8 ⟨rfl, hb⟩
            have B8 := Lib.hid (vian HN.out B7.out hb)
            have P8 := Lib.hid (P7.out.below hb)
            have R8 := Lib.hid (R7.out.below hb)
            clear hb B7 P7 R7
            go_wp2_with (refine store_b P8.out (m2) rfl _ _ rfl rfl rfl ?_)
            intro u9 hP hk
            have P9 := Lib.hid hP
            have B9 := Lib.hid (hk.below HN.out LP.out B8.out)
            have R9 := Lib.hid (hk.has NRP.out R8.out)
            clear hk hP B8 P8 R8
            try simp only [Act.put]
            go_wp2
            go_roundg (N - (s + 1))
            case measure => have := SG.out; omega
            case rel => exact ⟨s + 1, by omega, by have := SG.out; omega, by simp, B9.out, by rw [HM.out]; exact P9.out, R9.out⟩
          · have te : s = N := by omega
            subst te
            have l2 : ¬ (s : Int) < s := by omega
            have SW := Lib.hid (fun W => write_c (itN m s) (OI.out s) nn xx xb.1 xb.2 W)
            obtain ⟨m1, hm1⟩ : ∃ q_, itN m s = q_ := ⟨_, rfl⟩
            rw [hm1] at SW P7 HS
            clear hm1
            have x0 := (B7.out.cell (p := ⟨qb, qo + t * 3, none⟩) QQ.out).trans E0.out
            have x1 := (B7.out.cell (p := ⟨qb, qo + t * 3 + 1, none⟩) QQ.out).trans E1.out
            have x2 := (B7.out.cell (p := ⟨qb, qo + t * 3 + 2, none⟩) QQ.out).trans E2.out
            go_wp2
            go_roundg (n - (t + 1))
            case measure => have := TG.out; omega
            case rel => exact ⟨t + 1, by omega, by have := TG.out; omega, by simp, B7.out, by rw [HS.out]; exact P7.out, R7.out⟩
    · have te : t = n := by omega
      subst te
      have l1 : ¬ (t : Int) < t := by omega
      go_wp2_with (first | (refine load_b P5.out rfl _ rfl rfl ?_; simp only [Act.put, List.setIfInBounds_toArray, List.set_cons_zero, List.set_cons_succ]) | (refine store_b R5.out (playN f g h t) rfl _ _ rfl rfl rfl ?_))
      intro u6 hP hk
      have R6 := Lib.hid hP
      have B6 := Lib.hid (hk.below HN.out LR.out B5.out)
      have P6 := Lib.hid (hk.has (Ne.symm NRP.out) P5.out)
      clear hk hP B5 R5 P5
      try simp only [Act.put]
      go_wp2_with (fail)
      all_goals exact bodyPost_ret (results_b rfl _ rfl R6.out) rfl ⟨rfl, B6.out⟩
end Go.Proofs.YtonmnpadmphbdaaDoor
