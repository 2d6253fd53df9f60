/-
  The walk through SoundHolds: for every slice of calls; no condition but that each number fits, and that the table lies as it is laid.
-/
import Derived.Test.YtonmnpadmphbdaaDoorInv
import Derived.Deep.Cut
import Derived.BigQuiet
import Derived.WalkSmall
import Derived.Deep.LoopGhost
namespace Go.Proofs.YtonmnpadmphbdaaDoor
open Go.ChangeShapes Go.WideShapes Go.ChangeAt Go.RowKit
set_option linter.unusedVariables false
set_option linter.unusedSimpArgs false
set_option maxRecDepth 100000
theorem info26 : (Tryd.prog.info? 26).map (·.size) = some 4 := by kernel_rfl
/-- A voice's four cells are stored into a block of their own. -/
theorem store_4 {ops : Array Oper} {rest : List Oper} {op : Oper} {a : Act} {w : World} {Q : Exit → Act → World → Prop} {b : Nat} {A : Array Value} (h : Has w b A) (hs : A.size = 4)
    (hgd : op.guard = none) (x y : Operand) (ho : op.op = .store 26 x y) (hx : a.eval x = .pointer (some ⟨b, 0, none⟩)) (z : Bool) (l q k : Int) (hy : a.eval y = .agg #[.bool z, .int .i64 l, .int .i64 q, .int .i64 k])
    (hK : ∀ w', Has w' b #[.bool z, .int .i64 l, .int .i64 q, .int .i64 k] → Keeps b w w' → wpList Tryd.prog ops Q rest (a.put op.dst undef) w') : wpList Tryd.prog ops Q (op :: rest) a w := by
  refine wpList_store_mid hgd 26 x y ho b 0 _ hx hy (by have := h.there; rw [hs] at this; exact this) (by rw [info26]; rfl) (by simp [Value.oneCell']) ?_
  exact hK _ (h.puts (by rw [hs]; rfl)) (Keeps.setCells _ 0 (Keeps.refl b w))
set_option maxHeartbeats 2000000 in
theorem holds_long (a : Option Addr) (n c : Nat) (h0 : 40 < n) (w : World) (hg : Glob w) : Calls Tryd.prog 3 #[.slice a n c] w fun q_ w' => q_ = .returned (.bool true) ∧ Below w.heap.size w w' := by
  suffices hall : ∀ (n_ : Nat) (W0 : World), n_ ≤ W0.heap.size → Below n_ W0 w → Glob W0 → 0 < n_ → Calls Tryd.prog 3 #[.slice a n c] w fun q_ w' => q_ = .returned (.bool true) ∧ Below n_ W0 w' from hall _ _ (Nat.le_refl _) (Below.refl _ _) hg hg.1
  clear hg
  intro n_ W0 hn hB hG hn0
  have HN := Lib.hid hn
  have BB := Lib.hid hB
  have HG := Lib.hid hG
  have N0 := Lib.hid hn0
  clear hn hB hG hn0
  have h0I : (40 : Int) < n := by omega
  have AW := Lib.hid awake_c
  have hnot : ∀ (x : Bool) (w : World), (Op.unary .not (.bool x)).run Tryd.prog w = .ok (.bool (!x)) w := fun _ _ => rfl
  go_enter Tryd.func3, Tryd.ntmps3
  go_wp2_with (fail)
  with_reducible refine (AW.out _ (HG.out.below N0.out BB.out)).mono ?_
  rintro q_ u1 ⟨rfl, hb⟩
  have B1 := Lib.hid (vian HN.out BB.out hb)
  clear hb 
  go_wp2_with (fail)
  with_reducible refine (AW.out _ (HG.out.below N0.out B1.out)).mono ?_
  rintro q_ u2 ⟨rfl, hb⟩
  have B2 := Lib.hid (vian HN.out B1.out hb)
  clear hb B1
  go_wp2_with (fail)
  go_ret
  exact ⟨rfl, B2.out⟩
set_option maxHeartbeats 8000000 in
theorem holds_some (a : Option Addr) (n c : Nat) (f g h : Nat → Int) (hh : ∀ i, 0 ≤ h i ∧ h i < 256) (hn4 : n ≤ 40) (w : World) (hmem : (0 < n → ∃ qb qo, a = some ⟨qb, qo, none⟩ ∧ qb < w.heap.size ∧ ∀ j, j < n → w.cell? ⟨qb, qo + j * 3, none⟩ = some (.int .i64 (f j)) ∧ w.cell? ⟨qb, qo + j * 3 + 1, none⟩ = some (.int .i64 (g j)) ∧ w.cell? ⟨qb, qo + j * 3 + 2, none⟩ = some (.int .u8 (h j)))) (hg : Glob w) : Calls Tryd.prog 3 #[.slice a n c] w fun q_ w' => q_ = .returned (.bool true) ∧ Below w.heap.size w w' := by
  suffices hall : ∀ (n_ : Nat) (W0 : World), n_ ≤ W0.heap.size → Below n_ W0 w → (0 < n → ∃ qb qo, a = some ⟨qb, qo, none⟩ ∧ qb < n_ ∧ ∀ j, j < n → W0.cell? ⟨qb, qo + j * 3, none⟩ = some (.int .i64 (f j)) ∧ W0.cell? ⟨qb, qo + j * 3 + 1, none⟩ = some (.int .i64 (g j)) ∧ W0.cell? ⟨qb, qo + j * 3 + 2, none⟩ = some (.int .u8 (h j))) → Glob W0 → 0 < n_ → Calls Tryd.prog 3 #[.slice a n c] w fun q_ w' => q_ = .returned (.bool true) ∧ Below n_ W0 w' from hall _ _ (Nat.le_refl _) (Below.refl _ _) hmem hg hg.1
  clear hg
  intro n_ W0 hn hB hI hG hn0
  have HN := Lib.hid hn
  have BB := Lib.hid hB
  have HIN := Lib.hid hI
  have HH := Lib.hid hh
  clear hn hB hI hmem hh
  have HG := Lib.hid hG
  have N0 := Lib.hid hn0
  clear hG hn0
  have h0I : ¬ (40 : Int) < n := by omega
  have AW := Lib.hid awake_c
  have OP := Lib.hid (fun t => ok_play f g h HH.out t)
  have IP := Lib.hid (fun t => inR_play f g h t)
  have hz29 : ∀ w : World, (zeroValue 29).run Tryd.prog w = .ok (.agg (enc zeroM)) w := zero29
  have hnot : ∀ (x : Bool) (w : World), (Op.unary .not (.bool x)).run Tryd.prog w = .ok (.bool (!x)) w := fun _ _ => rfl
  go_enter Tryd.func3, Tryd.ntmps3
  go_wp2_with (fail)
  with_reducible refine (AW.out _ (HG.out.below N0.out BB.out)).mono ?_
  rintro q_ u1 ⟨rfl, hb⟩
  have B1 := Lib.hid (vian HN.out BB.out hb)
  clear hb 
  go_wp2_with (refine store_b (Has.new u1 (enc zeroM) 29) (zeroM) rfl _ _ rfl rfl rfl ?_)
  intro u2 hP hk
  have Q_ := own1 u1 (.cells (enc zeroM) 29)
  have LP := Lib.hid (show n_ ≤ u1.heap.size from Nat.le_trans HN.out B1.out.size)
  have B2 := Lib.hid (hk.below HN.out LP.out (vian HN.out B1.out Q_))
  have P2 := Lib.hid hP
  generalize u1.heap.size = pb at LP  P2 ⊢
  clear hk hP Q_ B1
  try simp only [Act.put, List.setIfInBounds_toArray, List.set_cons_zero, List.set_cons_succ]
  go_wp2
  go_loopg [20] n (fun g' i w5 => ∃ (t : Nat), t ≤ n ∧ g' + t = n ∧ i = .int .i64 t ∧ Below n_ W0 w5 ∧ Has w5 pb (enc (playN f g h t)))
  case atStart => exact ⟨0, by omega, by omega, rfl, B2.out, P2.out⟩
  case round =>
    obtain ⟨u5, hw5⟩ : ∃ q_, q_ = wr := ⟨_, rfl⟩
    subst hw5
    obtain ⟨t, ht, hg, rfl, hB, hP⟩ := hrel
    have TG := Lib.hid hg
    have B5 := Lib.hid hB
    have P5 := Lib.hid hP
    clear hg hB hP B2 P2
    by_cases hlt : t < n
    · have l1 : (t : Int) < n := by omega
      have l0 : (0 : Int) ≤ t := by omega
      obtain ⟨qb, qo, rfl, hqb, hcells⟩ := HIN.out (by omega)
      have QQ := Lib.hid hqb
      have E0 := Lib.hid (hcells t hlt).1
      have E1 := Lib.hid (hcells t hlt).2.1
      have E2 := Lib.hid (hcells t hlt).2.2
      have xb := HH.out t
      have SC := Lib.hid (fun W => then_c _ (OP.out t) (f t) (g t) (h t) xb.1 xb.2 W)
      have OK := Lib.hid (OP.out (t + 1))
      have IR := Lib.hid (IP.out (t + 1))
      have HS := Lib.hid (show playN f g h (t + 1) = thenV (playN f g h t) (f t) (g t) (h t) from rfl)
      obtain ⟨m, hm⟩ : ∃ q_, playN f g h t = q_ := ⟨_, rfl⟩
      rw [hm] at SC P5 HS
      generalize f t = kk at SC E0 HS
      generalize g t = nn at SC E1 HS
      generalize h t = xx at SC E2 HS xb
      obtain ⟨m2, hm2⟩ : ∃ q_, thenV m kk nn xx = q_ := ⟨_, rfl⟩
      rw [hm2] at SC HS
      rw [HS.out] at OK IR
      clear hcells hqb hm hm2
      go_upto_region 7 with (fail)
      have B6 := Lib.hid B5.out.drew
      have P6 := Lib.hid P5.out.drew
      clear B5 P5
      refine wp_region_held_drew (S := (fun w' => (w'.cell? ⟨qb, qo + t * 3, none⟩ = some (.int .i64 kk)) ∧ (w'.cell? ⟨qb, qo + t * 3 + 1, none⟩ = some (.int .i64 nn)) ∧ (w'.cell? ⟨qb, qo + t * 3 + 2, none⟩ = some (.int .u8 xx)))) (by kernel_rfl) ⟨(B6.out.cell (p := ⟨qb, qo + t * 3, none⟩) QQ.out).trans E0.out, (B6.out.cell (p := ⟨qb, qo + t * 3 + 1, none⟩) QQ.out).trans E1.out, (B6.out.cell (p := ⟨qb, qo + t * 3 + 2, none⟩) QQ.out).trans E2.out⟩ (fun hHeld => ?_)
      generalize World.drew _ = u6 at hHeld B6 P6 ⊢
      refine wpAnyH_take (i := 1) (oi := { dst := some 24, op := Go.Op.move (Go.Operand.tmp 0), type := 22, pos := "law.go:86", after := #[], guard := none }) (v := ?v1) rfl (by kernel_rfl) (by kernel_rfl) (by kernel_rfl) (fun _ _ _ h => h) (Or.inl ⟨by rfl, ?y1⟩) (by assumption) ?z1
      case y1 => (intro w hSw; (try dsimp only at hSw); go_simp) <;> with_reducible rfl
      try simp only [Act.put, List.setIfInBounds_toArray, List.set_cons_zero, List.set_cons_succ]
      refine wpAnyH_take (i := 2) (oi := { dst := some 25, op := Go.Op.move (Go.Operand.tmp 4), type := 3, pos := "law.go:86", after := #[], guard := none }) (v := ?v2) rfl (by kernel_rfl) (by kernel_rfl) (by kernel_rfl) (fun _ _ _ h => h) (Or.inl ⟨by rfl, ?y2⟩) (by assumption) ?z2
      case y2 => (intro w hSw; (try dsimp only at hSw); go_simp) <;> with_reducible rfl
      try simp only [Act.put, List.setIfInBounds_toArray, List.set_cons_zero, List.set_cons_succ]
      refine wpAnyH_take (i := 3) (oi := { dst := some 26, op := Go.Op.indexAddr 22 (Go.Operand.tmp 24) (Go.Operand.tmp 25), type := 0, pos := "law.go:86", after := #[{ on := 1, ground := Go.Ground.data }, { on := 2, ground := Go.Ground.data }], guard := none }) (v := ?v3) rfl (by kernel_rfl) (by kernel_rfl) (by kernel_rfl) (fun _ _ _ h => h) (Or.inl ⟨by rfl, ?y3⟩) (by assumption) ?z3
      case y3 => (intro w hSw; (try dsimp only at hSw); go_simp) <;> with_reducible rfl
      try simp only [Act.put, List.setIfInBounds_toArray, List.set_cons_zero, List.set_cons_succ]
      refine wpAnyH_take (i := 4) (oi := { dst := some 27, op := Go.Op.load 32 (Go.Operand.tmp 26), type := 32, pos := "law.go:86", after := #[{ on := 3, ground := Go.Ground.data }], guard := none }) (v := ?v4) rfl (by kernel_rfl) (by kernel_rfl) (by kernel_rfl) (fun _ _ _ h => h) (Or.inl ⟨by rfl, ?y4⟩) (by assumption) ?z4
      case y4 => (intro w hSw; (try dsimp only at hSw); go_simp) <;> with_reducible rfl
      try simp only [Act.put, List.setIfInBounds_toArray, List.set_cons_zero, List.set_cons_succ]
      refine wpAnyH_ready (rs := [0]) (by kernel_rfl) (by simp) ?_
      refine (AllReadyH.cons (o := { dst := some 23, op := Go.Op.load 29 (Go.Operand.tmp 3), type := 29, pos := "law.go:86", after := #[], guard := none }) rfl (fun K hK => ?_) AllReadyH.nil)
      · skip
        refine wp_load_b P6.out _ rfl rfl ?_
        try simp only [Act.put, List.setIfInBounds_toArray, List.set_cons_zero, List.set_cons_succ]
        have B7 := B6
        have P7 := P6
        clear B6 P6
        refine hK.out _ _ ?s5 (fun hNew => ?r5)
        case s5 => exact ⟨(B7.out.cell (p := ⟨qb, qo + t * 3, none⟩) QQ.out).trans E0.out, (B7.out.cell (p := ⟨qb, qo + t * 3 + 1, none⟩) QQ.out).trans E1.out, (B7.out.cell (p := ⟨qb, qo + t * 3 + 2, none⟩) QQ.out).trans E2.out⟩
        clear hK K hHeld
        have hHeld := hNew
        clear hNew
        refine wpAnyH_ready (rs := [5]) (by kernel_rfl) (by simp) ?_
        refine (AllReadyH.cons (o := { dst := some 28, op := Go.Op.call { callee := Go.Callee.value (Go.Operand.func 9), args := #[Go.Operand.tmp 23, Go.Operand.tmp 27], argTypes := #[29, 32] }, type := 29, pos := "law.go:86", after := #[{ on := 0, ground := Go.Ground.data }, { on := 4, ground := Go.Ground.data }], guard := none }) rfl (fun K hK => ?_) AllReadyH.nil)
        · skip
          go_simp
          with_reducible refine (SC.out _).mono ?_
          rintro q_ u8 ⟨rfl, hb⟩
          have B8 := Lib.hid (vian HN.out B7.out hb)
          have P8 := Lib.hid (P7.out.below hb)
          clear hb B7 P7
          refine hK.out _ _ ?s6 (fun hNew => ?r6)
          case s6 => exact ⟨(B8.out.cell (p := ⟨qb, qo + t * 3, none⟩) QQ.out).trans E0.out, (B8.out.cell (p := ⟨qb, qo + t * 3 + 1, none⟩) QQ.out).trans E1.out, (B8.out.cell (p := ⟨qb, qo + t * 3 + 2, none⟩) QQ.out).trans E2.out⟩
          clear hK K hHeld
          have hHeld := hNew
          clear hNew
          refine wpAnyH_ready (rs := [6]) (by kernel_rfl) (by simp) ?_
          refine (AllReadyH.cons (o := { dst := none, op := Go.Op.store 29 (Go.Operand.tmp 3) (Go.Operand.tmp 28), type := 0, pos := "law.go:86", after := #[{ on := 5, ground := Go.Ground.data }, { on := 5, ground := Go.Ground.chain }, { on := 0, ground := Go.Ground.phase }, { on := 1, ground := Go.Ground.phase }, { on := 2, ground := Go.Ground.phase }, { on := 3, ground := Go.Ground.phase }, { on := 4, ground := Go.Ground.phase }, { on := 5, ground := Go.Ground.phase }], guard := none }) rfl (fun K hK => ?_) AllReadyH.nil)
          · skip
            refine wp_store_b P8.out m2 _ _ rfl rfl rfl ?_
            intro u9 hP hk
            try simp only [Act.put]
            have P9 := Lib.hid hP
            have B9 := Lib.hid (hk.below HN.out LP.out B8.out)
            clear hP hk B8 P8
            refine hK.out _ _ ?s7 (fun hNew => ?r7)
            case s7 => exact ⟨(B9.out.cell (p := ⟨qb, qo + t * 3, none⟩) QQ.out).trans E0.out, (B9.out.cell (p := ⟨qb, qo + t * 3 + 1, none⟩) QQ.out).trans E1.out, (B9.out.cell (p := ⟨qb, qo + t * 3 + 2, none⟩) QQ.out).trans E2.out⟩
            clear hK K hHeld
            have hHeld := hNew
            clear hNew
            refine wpAnyH_done (by kernel_rfl) ?_ _
            clear hHeld E0 E1 E2 SC
            go_wp2
            go_loopg [29] 4 (fun g' i w5 => ∃ (v : Nat), v ≤ 4 ∧ g' + v = 4 ∧ i = .int .i64 v ∧ Below n_ W0 w5 ∧ Has w5 pb (enc m2))
            case atStart => exact ⟨0, by omega, by omega, rfl, B9.out, P9.out⟩
            case round =>
              obtain ⟨u20, hw7⟩ : ∃ q_, q_ = wr := ⟨_, rfl⟩
              subst hw7
              obtain ⟨v, hs, hg, rfl, hB, hP⟩ := hrel
              have SG := Lib.hid hg
              have B20 := Lib.hid hB
              have P20 := Lib.hid hP
              clear hg hB hP B9 P9
              by_cases hls : v < 4
              · have hl2 := OK.out.lev v hls
                have hw2 := OK.out.wt v hls
                have hn2 := OK.out (51 + v * 4 + 1) (by omega)
                rw [hi_len v hls] at hn2
                have hR := IR.out v hls
                have h48 := OK.out 48 (by omega)
                rcases four hls with rfl | rfl | rfl | rfl
                · obtain ⟨l, hl⟩ : ∃ q_, m2 52 = q_ := ⟨_, rfl⟩
                  obtain ⟨q, hq⟩ : ∃ q_, m2 53 = q_ := ⟨_, rfl⟩
                  obtain ⟨k, hk⟩ : ∃ q_, m2 54 = q_ := ⟨_, rfl⟩
                  obtain ⟨y, hy⟩ : ∃ q_, m2 2 = q_ := ⟨_, rfl⟩
                  have yb := OK.out.reg 2 (by omega)
                  have hn3 : 0 ≤ l ∧ l ≤ 64 := hl ▸ hn2
                  have hl3 : 0 ≤ q ∧ q < 16 := hq ▸ hl2
                  have d1 : decide (q < 0) = false := by simp; omega
                  have d2 : decide (15 < q) = false := by simp; omega
                  have d3 : decide (l < 0) = false := by simp; omega
                  have d4 : decide (64 < l) = false := by simp; omega
                  have HL := Lib.hid hl
                  have HQ := Lib.hid hq
                  have HK := Lib.hid hk
                  have HY := Lib.hid hy
                  clear hl hq hk hn2 hl2 hn3 hl3 hw2
                  by_cases g1 : m2 51 = 1
                  · skip
                    obtain ⟨hr1, hr2⟩ := hR g1
                    have hr3 : 8 ≤ m2 2 := of_decide_eq_true hr1
                    have rdy : (bits .and .u8 y 248 != 0) = true := by rw [← hy, b248 _ yb.1 yb.2]; simpa using hr3
                    have HR2 := Lib.hid hr2
                    clear hr3
                    clear hr1 hr2
                    have G1 := Lib.hid g1
                    clear g1 hR hy yb h48
                    obtain ⟨hc, hf⟩ := P20.out.out
                    have e0 : (enc m2)[51]? = some (.bool true) := by rw [enc_b _ _ rfl (by omega), decide_eq_true G1.out]
                    have e1 : (enc m2)[52]? = some (.int .i64 l) := by rw [enc_i _ _ rfl (by omega) (by omega), HL.out]
                    have e2 : (enc m2)[53]? = some (.int .i64 q) := by rw [enc_i _ _ rfl (by omega) (by omega), HQ.out]
                    have e3 : (enc m2)[54]? = some (.int .i64 k) := by rw [enc_i _ _ rfl (by omega) (by omega), HK.out]
                    go_wp2_with (refine store_4 (Has.new u20 #[.bool false, .int .i64 0, .int .i64 0, .int .i64 0] 26) rfl rfl _ _ rfl rfl _ _ _ _ rfl ?_)
                    intro u21 hP hk
                    have Q_ := own1 u20 (.cells #[.bool false, .int .i64 0, .int .i64 0, .int .i64 0] 26)
                    have LX := Lib.hid (show n_ ≤ u20.heap.size from Nat.le_trans HN.out B20.out.size)
                    have NPX := Lib.hid (show pb ≠ u20.heap.size from Nat.ne_of_lt P20.out.1)
                    have B21 := Lib.hid (hk.below HN.out LX.out (vian HN.out B20.out Q_))
                    have P21 := Lib.hid (hk.has NPX.out (P20.out.below Q_))
                    have X21 := Lib.hid hP
                    generalize u20.heap.size = xb at LX NPX X21 ⊢
                    clear hk hP Q_ B20 P20 hc hf e0 e1 e2 e3
                    try simp only [Act.put, List.setIfInBounds_toArray, List.set_cons_zero, List.set_cons_succ]
                    obtain ⟨hc, hf⟩ := P21.out.out
                    obtain ⟨hc2, hf2⟩ := X21.out.out
                    have e0 : (enc m2)[2]? = some (.int .u8 y) := by rw [enc_u8 _ _ (by omega), HY.out]
                    have e2 : (enc m2)[48]? = some (.bool true) := by rw [enc_b _ _ rfl (by omega), decide_eq_true HR2.out]
                    go_wp2
                    go_roundg (4 - (0 + 1))
                    case measure => have := SG.out; omega
                    case rel => exact ⟨0 + 1, by omega, by have := SG.out; omega, by simp, B21.out, P21.out⟩
                  · skip
                    have G1 := Lib.hid g1
                    clear g1 hR hy yb h48
                    obtain ⟨hc, hf⟩ := P20.out.out
                    have e0 : (enc m2)[51]? = some (.bool false) := by rw [enc_b _ _ rfl (by omega), decide_eq_false G1.out]
                    have e1 : (enc m2)[52]? = some (.int .i64 l) := by rw [enc_i _ _ rfl (by omega) (by omega), HL.out]
                    have e2 : (enc m2)[53]? = some (.int .i64 q) := by rw [enc_i _ _ rfl (by omega) (by omega), HQ.out]
                    have e3 : (enc m2)[54]? = some (.int .i64 k) := by rw [enc_i _ _ rfl (by omega) (by omega), HK.out]
                    go_wp2_with (refine store_4 (Has.new u20 #[.bool false, .int .i64 0, .int .i64 0, .int .i64 0] 26) rfl rfl _ _ rfl rfl _ _ _ _ rfl ?_)
                    intro u21 hP hk
                    have Q_ := own1 u20 (.cells #[.bool false, .int .i64 0, .int .i64 0, .int .i64 0] 26)
                    have LX := Lib.hid (show n_ ≤ u20.heap.size from Nat.le_trans HN.out B20.out.size)
                    have NPX := Lib.hid (show pb ≠ u20.heap.size from Nat.ne_of_lt P20.out.1)
                    have B21 := Lib.hid (hk.below HN.out LX.out (vian HN.out B20.out Q_))
                    have P21 := Lib.hid (hk.has NPX.out (P20.out.below Q_))
                    have X21 := Lib.hid hP
                    generalize u20.heap.size = xb at LX NPX X21 ⊢
                    clear hk hP Q_ B20 P20 hc hf e0 e1 e2 e3
                    try simp only [Act.put, List.setIfInBounds_toArray, List.set_cons_zero, List.set_cons_succ]
                    obtain ⟨hc, hf⟩ := P21.out.out
                    obtain ⟨hc2, hf2⟩ := X21.out.out
                    have e0 : (enc m2)[2]? = some (.int .u8 y) := by rw [enc_u8 _ _ (by omega), HY.out]
                    go_wp2
                    go_roundg (4 - (0 + 1))
                    case measure => have := SG.out; omega
                    case rel => exact ⟨0 + 1, by omega, by have := SG.out; omega, by simp, B21.out, P21.out⟩
                · obtain ⟨l, hl⟩ : ∃ q_, m2 56 = q_ := ⟨_, rfl⟩
                  obtain ⟨q, hq⟩ : ∃ q_, m2 57 = q_ := ⟨_, rfl⟩
                  obtain ⟨k, hk⟩ : ∃ q_, m2 58 = q_ := ⟨_, rfl⟩
                  obtain ⟨y, hy⟩ : ∃ q_, m2 7 = q_ := ⟨_, rfl⟩
                  have yb := OK.out.reg 7 (by omega)
                  have hn3 : 0 ≤ l ∧ l ≤ 64 := hl ▸ hn2
                  have hl3 : 0 ≤ q ∧ q < 16 := hq ▸ hl2
                  have d1 : decide (q < 0) = false := by simp; omega
                  have d2 : decide (15 < q) = false := by simp; omega
                  have d3 : decide (l < 0) = false := by simp; omega
                  have d4 : decide (64 < l) = false := by simp; omega
                  have HL := Lib.hid hl
                  have HQ := Lib.hid hq
                  have HK := Lib.hid hk
                  have HY := Lib.hid hy
                  clear hl hq hk hn2 hl2 hn3 hl3 hw2
                  by_cases g1 : m2 55 = 1
                  · skip
                    obtain ⟨hr1, hr2⟩ := hR g1
                    have hr3 : 8 ≤ m2 7 := of_decide_eq_true hr1
                    have rdy : (bits .and .u8 y 248 != 0) = true := by rw [← hy, b248 _ yb.1 yb.2]; simpa using hr3
                    have HR2 := Lib.hid hr2
                    clear hr3
                    clear hr1 hr2
                    have G1 := Lib.hid g1
                    clear g1 hR hy yb h48
                    obtain ⟨hc, hf⟩ := P20.out.out
                    have e0 : (enc m2)[55]? = some (.bool true) := by rw [enc_b _ _ rfl (by omega), decide_eq_true G1.out]
                    have e1 : (enc m2)[56]? = some (.int .i64 l) := by rw [enc_i _ _ rfl (by omega) (by omega), HL.out]
                    have e2 : (enc m2)[57]? = some (.int .i64 q) := by rw [enc_i _ _ rfl (by omega) (by omega), HQ.out]
                    have e3 : (enc m2)[58]? = some (.int .i64 k) := by rw [enc_i _ _ rfl (by omega) (by omega), HK.out]
                    go_wp2_with (refine store_4 (Has.new u20 #[.bool false, .int .i64 0, .int .i64 0, .int .i64 0] 26) rfl rfl _ _ rfl rfl _ _ _ _ rfl ?_)
                    intro u21 hP hk
                    have Q_ := own1 u20 (.cells #[.bool false, .int .i64 0, .int .i64 0, .int .i64 0] 26)
                    have LX := Lib.hid (show n_ ≤ u20.heap.size from Nat.le_trans HN.out B20.out.size)
                    have NPX := Lib.hid (show pb ≠ u20.heap.size from Nat.ne_of_lt P20.out.1)
                    have B21 := Lib.hid (hk.below HN.out LX.out (vian HN.out B20.out Q_))
                    have P21 := Lib.hid (hk.has NPX.out (P20.out.below Q_))
                    have X21 := Lib.hid hP
                    generalize u20.heap.size = xb at LX NPX X21 ⊢
                    clear hk hP Q_ B20 P20 hc hf e0 e1 e2 e3
                    try simp only [Act.put, List.setIfInBounds_toArray, List.set_cons_zero, List.set_cons_succ]
                    obtain ⟨hc, hf⟩ := P21.out.out
                    obtain ⟨hc2, hf2⟩ := X21.out.out
                    have e0 : (enc m2)[7]? = some (.int .u8 y) := by rw [enc_u8 _ _ (by omega), HY.out]
                    have e2 : (enc m2)[48]? = some (.bool true) := by rw [enc_b _ _ rfl (by omega), decide_eq_true HR2.out]
                    go_wp2
                    go_roundg (4 - (1 + 1))
                    case measure => have := SG.out; omega
                    case rel => exact ⟨1 + 1, by omega, by have := SG.out; omega, by simp, B21.out, P21.out⟩
                  · skip
                    have G1 := Lib.hid g1
                    clear g1 hR hy yb h48
                    obtain ⟨hc, hf⟩ := P20.out.out
                    have e0 : (enc m2)[55]? = some (.bool false) := by rw [enc_b _ _ rfl (by omega), decide_eq_false G1.out]
                    have e1 : (enc m2)[56]? = some (.int .i64 l) := by rw [enc_i _ _ rfl (by omega) (by omega), HL.out]
                    have e2 : (enc m2)[57]? = some (.int .i64 q) := by rw [enc_i _ _ rfl (by omega) (by omega), HQ.out]
                    have e3 : (enc m2)[58]? = some (.int .i64 k) := by rw [enc_i _ _ rfl (by omega) (by omega), HK.out]
                    go_wp2_with (refine store_4 (Has.new u20 #[.bool false, .int .i64 0, .int .i64 0, .int .i64 0] 26) rfl rfl _ _ rfl rfl _ _ _ _ rfl ?_)
                    intro u21 hP hk
                    have Q_ := own1 u20 (.cells #[.bool false, .int .i64 0, .int .i64 0, .int .i64 0] 26)
                    have LX := Lib.hid (show n_ ≤ u20.heap.size from Nat.le_trans HN.out B20.out.size)
                    have NPX := Lib.hid (show pb ≠ u20.heap.size from Nat.ne_of_lt P20.out.1)
                    have B21 := Lib.hid (hk.below HN.out LX.out (vian HN.out B20.out Q_))
                    have P21 := Lib.hid (hk.has NPX.out (P20.out.below Q_))
                    have X21 := Lib.hid hP
                    generalize u20.heap.size = xb at LX NPX X21 ⊢
                    clear hk hP Q_ B20 P20 hc hf e0 e1 e2 e3
                    try simp only [Act.put, List.setIfInBounds_toArray, List.set_cons_zero, List.set_cons_succ]
                    obtain ⟨hc, hf⟩ := P21.out.out
                    obtain ⟨hc2, hf2⟩ := X21.out.out
                    have e0 : (enc m2)[7]? = some (.int .u8 y) := by rw [enc_u8 _ _ (by omega), HY.out]
                    go_wp2
                    go_roundg (4 - (1 + 1))
                    case measure => have := SG.out; omega
                    case rel => exact ⟨1 + 1, by omega, by have := SG.out; omega, by simp, B21.out, P21.out⟩
                · obtain ⟨l, hl⟩ : ∃ q_, m2 60 = q_ := ⟨_, rfl⟩
                  obtain ⟨q, hq⟩ : ∃ q_, m2 61 = q_ := ⟨_, rfl⟩
                  obtain ⟨k, hk⟩ : ∃ q_, m2 62 = q_ := ⟨_, rfl⟩
                  obtain ⟨y, hy⟩ : ∃ q_, m2 12 = q_ := ⟨_, rfl⟩
                  have yb := OK.out.reg 12 (by omega)
                  have hn3 : 0 ≤ l ∧ l ≤ 256 := hl ▸ hn2
                  have hl3 : 0 ≤ q ∧ q < 16 := hq ▸ hl2
                  have d1 : decide (q < 0) = false := by simp; omega
                  have d2 : decide (15 < q) = false := by simp; omega
                  have d3 : decide (l < 0) = false := by simp; omega
                  have d4 : decide (256 < l) = false := by simp; omega
                  have HL := Lib.hid hl
                  have HQ := Lib.hid hq
                  have HK := Lib.hid hk
                  have HY := Lib.hid hy
                  obtain ⟨y2, hy2⟩ : ∃ q_, m2 10 = q_ := ⟨_, rfl⟩
                  have yb2 := OK.out.reg 10 (by omega)
                  have HY2 := Lib.hid hy2
                  clear hl hq hk hn2 hl2 hn3 hl3 hw2
                  by_cases g1 : m2 59 = 1
                  · skip
                    obtain ⟨hr1, hr2⟩ := hR g1
                    have hr3 : 128 ≤ m2 10 := of_decide_eq_true hr1
                    have rdy : (bits .and .u8 y2 128 != 0) = true := by rw [← hy2, b128 _ yb2.1 yb2.2]; simpa using hr3
                    have HR2 := Lib.hid hr2
                    clear hr3
                    clear hr1 hr2
                    have G1 := Lib.hid g1
                    clear g1 hR hy yb h48 hy2 yb2
                    obtain ⟨hc, hf⟩ := P20.out.out
                    have e0 : (enc m2)[59]? = some (.bool true) := by rw [enc_b _ _ rfl (by omega), decide_eq_true G1.out]
                    have e1 : (enc m2)[60]? = some (.int .i64 l) := by rw [enc_i _ _ rfl (by omega) (by omega), HL.out]
                    have e2 : (enc m2)[61]? = some (.int .i64 q) := by rw [enc_i _ _ rfl (by omega) (by omega), HQ.out]
                    have e3 : (enc m2)[62]? = some (.int .i64 k) := by rw [enc_i _ _ rfl (by omega) (by omega), HK.out]
                    go_wp2_with (refine store_4 (Has.new u20 #[.bool false, .int .i64 0, .int .i64 0, .int .i64 0] 26) rfl rfl _ _ rfl rfl _ _ _ _ rfl ?_)
                    intro u21 hP hk
                    have Q_ := own1 u20 (.cells #[.bool false, .int .i64 0, .int .i64 0, .int .i64 0] 26)
                    have LX := Lib.hid (show n_ ≤ u20.heap.size from Nat.le_trans HN.out B20.out.size)
                    have NPX := Lib.hid (show pb ≠ u20.heap.size from Nat.ne_of_lt P20.out.1)
                    have B21 := Lib.hid (hk.below HN.out LX.out (vian HN.out B20.out Q_))
                    have P21 := Lib.hid (hk.has NPX.out (P20.out.below Q_))
                    have X21 := Lib.hid hP
                    generalize u20.heap.size = xb at LX NPX X21 ⊢
                    clear hk hP Q_ B20 P20 hc hf e0 e1 e2 e3
                    try simp only [Act.put, List.setIfInBounds_toArray, List.set_cons_zero, List.set_cons_succ]
                    obtain ⟨hc, hf⟩ := P21.out.out
                    obtain ⟨hc2, hf2⟩ := X21.out.out
                    have e0 : (enc m2)[12]? = some (.int .u8 y) := by rw [enc_u8 _ _ (by omega), HY.out]
                    have e1 : (enc m2)[10]? = some (.int .u8 y2) := by rw [enc_u8 _ _ (by omega), HY2.out]
                    have e2 : (enc m2)[48]? = some (.bool true) := by rw [enc_b _ _ rfl (by omega), decide_eq_true HR2.out]
                    go_wp2
                    go_roundg (4 - (2 + 1))
                    case measure => have := SG.out; omega
                    case rel => exact ⟨2 + 1, by omega, by have := SG.out; omega, by simp, B21.out, P21.out⟩
                  · skip
                    have G1 := Lib.hid g1
                    clear g1 hR hy yb h48 hy2 yb2
                    obtain ⟨hc, hf⟩ := P20.out.out
                    have e0 : (enc m2)[59]? = some (.bool false) := by rw [enc_b _ _ rfl (by omega), decide_eq_false G1.out]
                    have e1 : (enc m2)[60]? = some (.int .i64 l) := by rw [enc_i _ _ rfl (by omega) (by omega), HL.out]
                    have e2 : (enc m2)[61]? = some (.int .i64 q) := by rw [enc_i _ _ rfl (by omega) (by omega), HQ.out]
                    have e3 : (enc m2)[62]? = some (.int .i64 k) := by rw [enc_i _ _ rfl (by omega) (by omega), HK.out]
                    go_wp2_with (refine store_4 (Has.new u20 #[.bool false, .int .i64 0, .int .i64 0, .int .i64 0] 26) rfl rfl _ _ rfl rfl _ _ _ _ rfl ?_)
                    intro u21 hP hk
                    have Q_ := own1 u20 (.cells #[.bool false, .int .i64 0, .int .i64 0, .int .i64 0] 26)
                    have LX := Lib.hid (show n_ ≤ u20.heap.size from Nat.le_trans HN.out B20.out.size)
                    have NPX := Lib.hid (show pb ≠ u20.heap.size from Nat.ne_of_lt P20.out.1)
                    have B21 := Lib.hid (hk.below HN.out LX.out (vian HN.out B20.out Q_))
                    have P21 := Lib.hid (hk.has NPX.out (P20.out.below Q_))
                    have X21 := Lib.hid hP
                    generalize u20.heap.size = xb at LX NPX X21 ⊢
                    clear hk hP Q_ B20 P20 hc hf e0 e1 e2 e3
                    try simp only [Act.put, List.setIfInBounds_toArray, List.set_cons_zero, List.set_cons_succ]
                    obtain ⟨hc, hf⟩ := P21.out.out
                    obtain ⟨hc2, hf2⟩ := X21.out.out
                    have e0 : (enc m2)[12]? = some (.int .u8 y) := by rw [enc_u8 _ _ (by omega), HY.out]
                    have e1 : (enc m2)[10]? = some (.int .u8 y2) := by rw [enc_u8 _ _ (by omega), HY2.out]
                    go_wp2
                    go_roundg (4 - (2 + 1))
                    case measure => have := SG.out; omega
                    case rel => exact ⟨2 + 1, by omega, by have := SG.out; omega, by simp, B21.out, P21.out⟩
                · obtain ⟨l, hl⟩ : ∃ q_, m2 64 = q_ := ⟨_, rfl⟩
                  obtain ⟨q, hq⟩ : ∃ q_, m2 65 = q_ := ⟨_, rfl⟩
                  obtain ⟨k, hk⟩ : ∃ q_, m2 66 = q_ := ⟨_, rfl⟩
                  obtain ⟨y, hy⟩ : ∃ q_, m2 17 = q_ := ⟨_, rfl⟩
                  have yb := OK.out.reg 17 (by omega)
                  have hn3 : 0 ≤ l ∧ l ≤ 64 := hl ▸ hn2
                  have hl3 : 0 ≤ q ∧ q < 16 := hq ▸ hl2
                  have d1 : decide (q < 0) = false := by simp; omega
                  have d2 : decide (15 < q) = false := by simp; omega
                  have d3 : decide (l < 0) = false := by simp; omega
                  have d4 : decide (64 < l) = false := by simp; omega
                  have HL := Lib.hid hl
                  have HQ := Lib.hid hq
                  have HK := Lib.hid hk
                  have HY := Lib.hid hy
                  clear hl hq hk hn2 hl2 hn3 hl3 hw2
                  by_cases g1 : m2 63 = 1
                  · skip
                    obtain ⟨hr1, hr2⟩ := hR g1
                    have hr3 : 8 ≤ m2 17 := of_decide_eq_true hr1
                    have rdy : (bits .and .u8 y 248 != 0) = true := by rw [← hy, b248 _ yb.1 yb.2]; simpa using hr3
                    have HR2 := Lib.hid hr2
                    clear hr3
                    clear hr1 hr2
                    have G1 := Lib.hid g1
                    clear g1 hR hy yb h48
                    obtain ⟨hc, hf⟩ := P20.out.out
                    have e0 : (enc m2)[63]? = some (.bool true) := by rw [enc_b _ _ rfl (by omega), decide_eq_true G1.out]
                    have e1 : (enc m2)[64]? = some (.int .i64 l) := by rw [enc_i _ _ rfl (by omega) (by omega), HL.out]
                    have e2 : (enc m2)[65]? = some (.int .i64 q) := by rw [enc_i _ _ rfl (by omega) (by omega), HQ.out]
                    have e3 : (enc m2)[66]? = some (.int .i64 k) := by rw [enc_i _ _ rfl (by omega) (by omega), HK.out]
                    go_wp2_with (refine store_4 (Has.new u20 #[.bool false, .int .i64 0, .int .i64 0, .int .i64 0] 26) rfl rfl _ _ rfl rfl _ _ _ _ rfl ?_)
                    intro u21 hP hk
                    have Q_ := own1 u20 (.cells #[.bool false, .int .i64 0, .int .i64 0, .int .i64 0] 26)
                    have LX := Lib.hid (show n_ ≤ u20.heap.size from Nat.le_trans HN.out B20.out.size)
                    have NPX := Lib.hid (show pb ≠ u20.heap.size from Nat.ne_of_lt P20.out.1)
                    have B21 := Lib.hid (hk.below HN.out LX.out (vian HN.out B20.out Q_))
                    have P21 := Lib.hid (hk.has NPX.out (P20.out.below Q_))
                    have X21 := Lib.hid hP
                    generalize u20.heap.size = xb at LX NPX X21 ⊢
                    clear hk hP Q_ B20 P20 hc hf e0 e1 e2 e3
                    try simp only [Act.put, List.setIfInBounds_toArray, List.set_cons_zero, List.set_cons_succ]
                    obtain ⟨hc, hf⟩ := P21.out.out
                    obtain ⟨hc2, hf2⟩ := X21.out.out
                    have e0 : (enc m2)[17]? = some (.int .u8 y) := by rw [enc_u8 _ _ (by omega), HY.out]
                    have e2 : (enc m2)[48]? = some (.bool true) := by rw [enc_b _ _ rfl (by omega), decide_eq_true HR2.out]
                    go_wp2
                    go_roundg (4 - (3 + 1))
                    case measure => have := SG.out; omega
                    case rel => exact ⟨3 + 1, by omega, by have := SG.out; omega, by simp, B21.out, P21.out⟩
                  · skip
                    have G1 := Lib.hid g1
                    clear g1 hR hy yb h48
                    obtain ⟨hc, hf⟩ := P20.out.out
                    have e0 : (enc m2)[63]? = some (.bool false) := by rw [enc_b _ _ rfl (by omega), decide_eq_false G1.out]
                    have e1 : (enc m2)[64]? = some (.int .i64 l) := by rw [enc_i _ _ rfl (by omega) (by omega), HL.out]
                    have e2 : (enc m2)[65]? = some (.int .i64 q) := by rw [enc_i _ _ rfl (by omega) (by omega), HQ.out]
                    have e3 : (enc m2)[66]? = some (.int .i64 k) := by rw [enc_i _ _ rfl (by omega) (by omega), HK.out]
                    go_wp2_with (refine store_4 (Has.new u20 #[.bool false, .int .i64 0, .int .i64 0, .int .i64 0] 26) rfl rfl _ _ rfl rfl _ _ _ _ rfl ?_)
                    intro u21 hP hk
                    have Q_ := own1 u20 (.cells #[.bool false, .int .i64 0, .int .i64 0, .int .i64 0] 26)
                    have LX := Lib.hid (show n_ ≤ u20.heap.size from Nat.le_trans HN.out B20.out.size)
                    have NPX := Lib.hid (show pb ≠ u20.heap.size from Nat.ne_of_lt P20.out.1)
                    have B21 := Lib.hid (hk.below HN.out LX.out (vian HN.out B20.out Q_))
                    have P21 := Lib.hid (hk.has NPX.out (P20.out.below Q_))
                    have X21 := Lib.hid hP
                    generalize u20.heap.size = xb at LX NPX X21 ⊢
                    clear hk hP Q_ B20 P20 hc hf e0 e1 e2 e3
                    try simp only [Act.put, List.setIfInBounds_toArray, List.set_cons_zero, List.set_cons_succ]
                    obtain ⟨hc, hf⟩ := P21.out.out
                    obtain ⟨hc2, hf2⟩ := X21.out.out
                    have e0 : (enc m2)[17]? = some (.int .u8 y) := by rw [enc_u8 _ _ (by omega), HY.out]
                    go_wp2
                    go_roundg (4 - (3 + 1))
                    case measure => have := SG.out; omega
                    case rel => exact ⟨3 + 1, by omega, by have := SG.out; omega, by simp, B21.out, P21.out⟩
              · have te : v = 4 := by omega
                subst te
                have kp := OK.out.pitch
                have kd := OK.out.div
                have ks := OK.out.step
                obtain ⟨pp, hpp⟩ : ∃ q_, m2 67 = q_ := ⟨_, rfl⟩
                obtain ⟨pd, hpd⟩ : ∃ q_, m2 49 = q_ := ⟨_, rfl⟩
                obtain ⟨ps, hps⟩ : ∃ q_, m2 50 = q_ := ⟨_, rfl⟩
                have e0 : (enc m2)[67]? = some (.int .i64 pp) := by rw [enc_i _ _ rfl (by omega) (by omega), hpp]
                have e1 : (enc m2)[49]? = some (.int .i64 pd) := by rw [enc_i _ _ rfl (by omega) (by omega), hpd]
                have e2 : (enc m2)[50]? = some (.int .i64 ps) := by rw [enc_i _ _ rfl (by omega) (by omega), hps]
                rw [hpp] at kp
                rw [hpd] at kd
                rw [hps] at ks
                have d1 : decide (pp < 0) = false := by simp; omega
                have d2 : decide (2047 < pp) = false := by simp; omega
                have d3 : decide (pd < 0) = false := by simp; omega
                have d4 : decide (2047 < pd) = false := by simp; omega
                have d5 : decide (ps < 0) = false := by simp; omega
                have d6 : decide (7 < ps) = false := by simp; omega
                clear hpp hpd hps kp kd ks
                obtain ⟨hc, hf⟩ := P20.out.out
                go_wp2
                go_roundg (n - (t + 1))
                case measure => have := TG.out; omega
                case rel => exact ⟨t + 1, by omega, by have := TG.out; omega, by simp, B20.out, by rw [HS.out]; exact P20.out⟩
    · have l1 : ¬ (t : Int) < n := by omega
      go_wp2
      all_goals exact bodyPost_ret (v := .bool true) (by simp [results, Tryd.results3, go_sem]) rfl ⟨rfl, B5.out⟩
theorem holds_walk (a : Option Addr) (n c : Nat) (f g h : Nat → Int) (hh : ∀ i, 0 ≤ h i ∧ h i < 256) (w : World) (hmem : (0 < n → ∃ qb qo, a = some ⟨qb, qo, none⟩ ∧ qb < w.heap.size ∧ ∀ j, j < n → w.cell? ⟨qb, qo + j * 3, none⟩ = some (.int .i64 (f j)) ∧ w.cell? ⟨qb, qo + j * 3 + 1, none⟩ = some (.int .i64 (g j)) ∧ w.cell? ⟨qb, qo + j * 3 + 2, none⟩ = some (.int .u8 (h j)))) (hg : Glob w) :
    Calls Tryd.prog 3 #[.slice a n c] w fun q_ w' => q_ = .returned (.bool true) ∧ Below w.heap.size w w' := by
  by_cases h0 : 40 < n
  · exact holds_long a n c h0 w hg
  · exact holds_some a n c f g h hh (by omega) w hmem hg
end Go.Proofs.YtonmnpadmphbdaaDoor
