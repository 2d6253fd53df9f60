/-
  The walk through JoypadPlays: for every joypad and every slice of bytes that lies in memory; no other condition.
-/
import Derived.Test.YtbpfeppgonhclaaAwk
import Derived.Test.YtbpfeppgonhclaaOpn
import Derived.Deep.Cut
import Derived.Laws.StructEq
import Derived.Deep.LoopGhost
namespace Go.Proofs.Ytbpfeppgonhclaa
open Go.ChangeShapes Go.WideShapes Go.ChangeAt Go.RowKit
set_option linter.unusedVariables false
set_option linter.unusedSimpArgs false
set_option maxRecDepth 100000
set_option maxHeartbeats 2000000 in
theorem plays_long (s d : Int) (hs : 0 ≤ s) (hs2 : s < 256) (hd : 0 ≤ d) (hd2 : d < 256) (a : Option Addr) (n c : Nat) (h0 : 100 < n) (w : World) : Calls Try.prog 3 #[.agg #[.int .u8 s, .int .u8 d], .slice a n c] w fun q_ w' => q_ = .returned (.bool true) ∧ Below w.heap.size w w' := by
  suffices hall : ∀ (n_ : Nat) (W0 : World), n_ ≤ W0.heap.size → Below n_ W0 w → Calls Try.prog 3 #[.agg #[.int .u8 s, .int .u8 d], .slice a n c] w fun q_ w' => q_ = .returned (.bool true) ∧ Below n_ W0 w' from hall _ _ (Nat.le_refl _) (Below.refl _ _)
  intro n_ W0 hn hB
  have HN := Lib.hid hn
  have BB := Lib.hid hB
  clear hn hB
  have AW := Lib.hid awake_c
  have h0I : (100 : Int) < n := by omega
  have hnot : ∀ (x : Bool) (w : World), (Op.unary .not (.bool x)).run Try.prog w = .ok (.bool (!x)) w := fun _ _ => rfl
  go_enter Try.func3, Try.ntmps3
  have Q_ := own1 w (.cells #[.int .u8 s, .int .u8 d] 23)
  have B0 := Lib.hid (vian HN.out BB.out Q_)
  have V0 := Lib.hid (show Has (w.alloc (.cells #[.int .u8 s, .int .u8 d] 23)) w.heap.size #[.int .u8 s, .int .u8 d] by simpa using Has.new w #[.int .u8 s, .int .u8 d] 23)
  have LV := Lib.hid (show n_ ≤ w.heap.size + 0 from Nat.le_add_right_of_le (Nat.le_trans HN.out BB.out.size))
  simp only [Nat.add_zero] at LV
  clear Q_
  go_upto_region 1 with (fail)
  generalize (w.alloc (.cells #[.int .u8 s, .int .u8 d] 23)) = w0 at B0 V0 ⊢
  generalize w.heap.size = vb at V0 LV  ⊢
  go_wp2_with fail
  with_reducible refine (AW.out _).mono ?_
  rintro q_ w1 ⟨rfl, hb⟩
  have B1 := Lib.hid (vian HN.out B0.out hb)
  clear hb B0
  go_wp2_with fail
  with_reducible refine (AW.out _).mono ?_
  rintro q_ w2 ⟨rfl, hb⟩
  have B2 := Lib.hid (vian HN.out B1.out hb)
  clear hb B1
  go_wp2
  go_ret
  exact ⟨rfl, B2.out⟩
set_option maxHeartbeats 8000000 in
theorem plays_some (s d : Int) (hs : 0 ≤ s) (hs2 : s < 256) (hd : 0 ≤ d) (hd2 : d < 256) (a : Option Addr) (n c : Nat) (h0 : ¬ 100 < n) (h : Nat → Int) (hh : ∀ i, 0 ≤ h i ∧ h i < 256) (w : World) (hmem : (0 < n → ∃ qb qo, a = some ⟨qb, qo, none⟩ ∧ qb < w.heap.size ∧ ∀ j, j < n → w.cell? ⟨qb, qo + j, none⟩ = some (.int .u8 (h j)))) : Calls Try.prog 3 #[.agg #[.int .u8 s, .int .u8 d], .slice a n c] w fun q_ w' => q_ = .returned (.bool true) ∧ Below w.heap.size w w' := by
  suffices hall : ∀ (n_ : Nat) (W0 : World), n_ ≤ W0.heap.size → Below n_ W0 w → (0 < n → ∃ qb qo, a = some ⟨qb, qo, none⟩ ∧ qb < n_ ∧ ∀ j, j < n → W0.cell? ⟨qb, qo + j, none⟩ = some (.int .u8 (h j))) → Calls Try.prog 3 #[.agg #[.int .u8 s, .int .u8 d], .slice a n c] w fun q_ w' => q_ = .returned (.bool true) ∧ Below n_ W0 w' from hall _ _ (Nat.le_refl _) (Below.refl _ _) hmem
  intro n_ W0 hn hB hI
  have HN := Lib.hid hn
  have BB := Lib.hid hB
  have HIN := Lib.hid hI
  have HH := Lib.hid hh
  have hS := Lib.hid (⟨⟨hs, hs2⟩, ⟨hd, hd2⟩⟩ : (0 ≤ s ∧ s < 256) ∧ (0 ≤ d ∧ d < 256))
  clear hn hB hI hmem hh hs hs2 hd hd2
  have h0I : ¬ (100 : Int) < n := by omega
  have AW := Lib.hid awake_c
  have hnot : ∀ (x : Bool) (w : World), (Op.unary .not (.bool x)).run Try.prog w = .ok (.bool (!x)) w := fun _ _ => rfl
  go_enter Try.func3, Try.ntmps3
  have Q_ := own1 w (.cells #[.int .u8 s, .int .u8 d] 23)
  have B0 := Lib.hid (vian HN.out BB.out Q_)
  have V0 := Lib.hid (show Has (w.alloc (.cells #[.int .u8 s, .int .u8 d] 23)) w.heap.size #[.int .u8 s, .int .u8 d] by simpa using Has.new w #[.int .u8 s, .int .u8 d] 23)
  have LV := Lib.hid (show n_ ≤ w.heap.size + 0 from Nat.le_add_right_of_le (Nat.le_trans HN.out BB.out.size))
  simp only [Nat.add_zero] at LV
  clear Q_
  go_upto_region 1 with (fail)
  generalize (w.alloc (.cells #[.int .u8 s, .int .u8 d] 23)) = w0 at B0 V0 ⊢
  generalize w.heap.size = vb at V0 LV  ⊢
  go_wp2_with fail
  with_reducible refine (AW.out _).mono ?_
  rintro q_ w1 ⟨rfl, hb⟩
  have B1 := Lib.hid (vian HN.out B0.out hb)
  have V1 := Lib.hid (V0.out.below hb)
  clear hb B0 V0
  obtain ⟨hcV1, hfV1⟩ := V1.out.out
  have Q_ := own1 w1 (.cells #[.int .u8 s, .int .u8 d] 26)
  have B2 := Lib.hid (vian HN.out B1.out Q_)
  have V2 := Lib.hid (V1.out.below Q_)
  have P2 := Lib.hid (Has.new w1 #[.int .u8 s, .int .u8 d] 26)
  have LP := Lib.hid (show n_ ≤ w1.heap.size from Nat.le_trans HN.out B1.out.size)
  have NPV := Lib.hid (show w1.heap.size ≠ vb from fun e => Nat.lt_irrefl _ (e ▸ V1.out.1 : w1.heap.size < w1.heap.size))
  clear Q_
  go_upto_region 4 with (fail)
  generalize w1.alloc (.cells #[.int .u8 s, .int .u8 d] 26) = w2 at B2 V2 P2 ⊢
  generalize w1.heap.size = pb at P2 LP NPV ⊢
  clear B1 V1
  clear hcV1 hfV1
  go_wp2
  go_loopg [20] n (fun g' i wr => ∃ (t : Nat) (s d : Int), t ≤ n ∧ g' + t = n ∧ i = .int .i64 t ∧ ((0 ≤ s ∧ s < 256) ∧ (0 ≤ d ∧ d < 256)) ∧ Below n_ W0 wr ∧ Has wr pb #[.int .u8 s, .int .u8 d] ∧ Has wr vb #[.int .u8 s, .int .u8 d])
  case atStart => exact ⟨0, s, d, by omega, by omega, rfl, hS.out, B2.out, P2.out, V2.out⟩
  case round =>
    obtain ⟨t, s, d, ht, hg, rfl, hok, hB, hP, hV⟩ := hrel
    have TG := Lib.hid hg
    have OK := Lib.hid hok
    have B0 := Lib.hid hB
    have P0 := Lib.hid hP
    have V0 := Lib.hid hV
    clear hg hok hB hP hV B2 P2 V2
    by_cases hlt : t < n
    · have l1 : (t : Int) < n := by omega
      have l0 : (0 : Int) ≤ t := by omega
      obtain ⟨qb, qo, rfl, hqb, hcells⟩ := HIN.out (by omega)
      have QQ := Lib.hid hqb
      have E0 := Lib.hid (hcells t hlt)
      have xb := HH.out t
      generalize h t = x at E0 xb
      clear hcells hqb
      have K4 := Lib.hid (fun W => read_c s x OK.out.1.1 OK.out.1.2 xb.1 xb.2 W)
      have J4 := Lib.hid (fun W => rread_c s x OK.out.1.1 OK.out.1.2 xb.1 xb.2 W)
      have F4 := Lib.hid (fun W => rfalls_c s d OK.out.1.1 OK.out.1.2 OK.out.2.1 OK.out.2.2 s x OK.out.1.1 OK.out.1.2 xb.1 xb.2 W)
      have sb := sel_bd x
      have K5 := Lib.hid (fun W => read_c (selV x) d sb.1 (by omega) OK.out.2.1 OK.out.2.2 W)
      have J5 := Lib.hid (fun W => rread_c (selV x) d sb.1 (by omega) OK.out.2.1 OK.out.2.2 W)
      have F5 := Lib.hid (fun W => rfalls_c s d OK.out.1.1 OK.out.1.2 OK.out.2.1 OK.out.2.2 (selV x) d sb.1 (by omega) OK.out.2.1 OK.out.2.2 W)
      have K1 := Lib.hid (fun W => press_c s d OK.out.1.1 OK.out.1.2 OK.out.2.1 OK.out.2.2 x xb.1 xb.2 W)
      have K2 := Lib.hid (fun W => write_c s d OK.out.1.1 OK.out.1.2 OK.out.2.1 OK.out.2.2 x xb.1 xb.2 W)
      have K3 := Lib.hid (fun W => rwrite_c s d x xb.1 xb.2 W)
      have OK1 := Lib.hid (show (0 ≤ s ∧ s < 256) ∧ (0 ≤ x ∧ x < 256) from ⟨OK.out.1, xb⟩)
      have OK2 := Lib.hid (show (0 ≤ selV x ∧ selV x < 256) ∧ (0 ≤ d ∧ d < 256) from ⟨⟨sb.1, by omega⟩, OK.out.2⟩)
      have XB := Lib.hid xb
      rw [fl_selV] at F5
      obtain ⟨k, hk⟩ : ∃ k, selV x = k := ⟨_, rfl⟩
      obtain ⟨g1, hg1⟩ : ∃ g, flB s d s x = g := ⟨_, rfl⟩
      obtain ⟨g2, hg2⟩ : ∃ g, flB s d x d = g := ⟨_, rfl⟩
      obtain ⟨r1, hr1⟩ : ∃ r, rdV s x = r := ⟨_, rfl⟩
      obtain ⟨r2, hr2⟩ : ∃ r, rdV (selV x) d = r := ⟨_, rfl⟩
      rw [hr1] at K4 J4
      rw [hr2] at K5 J5
      rw [hg1] at K1 F4
      rw [hg2] at K2 F5
      rw [hk] at K2 K3 K5 J5 F5 OK2
      clear hk hg1 hg2 hr1 hr2 sb xb OK
      have m0 : (t : Int).tmod 2 = (t : Int) % 2 := Int.tmod_eq_emod_of_nonneg l0
      obtain ⟨hcV0, hfV0⟩ := V0.out.out
      have Q_ := own1 wr (.cells #[.int .u8 s, .int .u8 d] 23)
      have B1 := Lib.hid (vian HN.out B0.out Q_).drew
      have P1 := Lib.hid (P0.out.below Q_).drew
      have V1 := Lib.hid (V0.out.below Q_).drew
      have U1 := Lib.hid (Has.new wr #[.int .u8 s, .int .u8 d] 23).drew
      have NUP := Lib.hid (show wr.heap.size ≠ pb from fun e => Nat.lt_irrefl _ (e ▸ P0.out.1 : wr.heap.size < wr.heap.size))
      have NUV := Lib.hid (show wr.heap.size ≠ vb from fun e => Nat.lt_irrefl _ (e ▸ V0.out.1 : wr.heap.size < wr.heap.size))
      clear Q_ B0 P0
      rcases (by omega : (t : Int) % 2 = 0 ∨ (t : Int) % 2 = 1) with hm | hm
      · have m1 : (t : Int).tmod 2 = 0 := by omega
        go_upto_region 10 with (fail)
        clear hcV0 hfV0 V0
        generalize wr.alloc (.cells #[.int .u8 s, .int .u8 d] 23) = u0 at B1 P1 V1 U1 ⊢
        generalize wr.heap.size = ub at U1 NUP NUV ⊢
        refine wp_region_held_drew (S := (fun w' => w'.cell? ⟨qb, qo + t, none⟩ = some (.int .u8 x))) (by kernel_rfl) ((B1.out.cell (p := ⟨qb, qo + t, none⟩) QQ.out).trans E0.out) (fun hHeld => ?_)
        generalize World.drew u0 = u1 at hHeld B1 P1 V1 U1 ⊢
        refine wpAnyH_take (i := 1) (oi := { dst := some 29, op := Go.Op.move (Go.Operand.tmp 1), type := 24, pos := "law.go:27", after := #[], guard := none }) (v := ?v1) rfl (by kernel_rfl) (by kernel_rfl) (by kernel_rfl) (fun _ _ _ h => h) (Or.inl ⟨by rfl, ?y1⟩) (by assumption) ?z1
        case y1 => (intro w hSw; (try dsimp only at hSw); go_simp) <;> with_reducible rfl
        try simp only [Act.put, List.setIfInBounds_toArray, List.set_cons_zero, List.set_cons_succ]
        refine wpAnyH_take (i := 2) (oi := { dst := some 30, op := Go.Op.move (Go.Operand.tmp 6), type := 3, pos := "law.go:27", after := #[], guard := none }) (v := ?v2) rfl (by kernel_rfl) (by kernel_rfl) (by kernel_rfl) (fun _ _ _ h => h) (Or.inl ⟨by rfl, ?y2⟩) (by assumption) ?z2
        case y2 => (intro w hSw; (try dsimp only at hSw); go_simp) <;> with_reducible rfl
        try simp only [Act.put, List.setIfInBounds_toArray, List.set_cons_zero, List.set_cons_succ]
        refine wpAnyH_take (i := 3) (oi := { dst := some 31, op := Go.Op.indexAddr 24 (Go.Operand.tmp 29) (Go.Operand.tmp 30), type := 0, pos := "law.go:27", after := #[{ on := 1, ground := Go.Ground.data }, { on := 2, ground := Go.Ground.data }], guard := none }) (v := ?v3) rfl (by kernel_rfl) (by kernel_rfl) (by kernel_rfl) (fun _ _ _ h => h) (Or.inl ⟨by rfl, ?y3⟩) (by assumption) ?z3
        case y3 => (intro w hSw; (try dsimp only at hSw); go_simp) <;> with_reducible rfl
        try simp only [Act.put, List.setIfInBounds_toArray, List.set_cons_zero, List.set_cons_succ]
        refine wpAnyH_take (i := 4) (oi := { dst := some 32, op := Go.Op.load 5 (Go.Operand.tmp 31), type := 5, pos := "law.go:27", after := #[{ on := 3, ground := Go.Ground.data }], guard := none }) (v := ?v4) rfl (by kernel_rfl) (by kernel_rfl) (by kernel_rfl) (fun _ _ _ h => h) (Or.inl ⟨by rfl, ?y4⟩) (by assumption) ?z4
        case y4 => (intro w hSw; (try dsimp only at hSw); go_simp) <;> with_reducible rfl
        try simp only [Act.put, List.setIfInBounds_toArray, List.set_cons_zero, List.set_cons_succ]
        refine wpAnyH_ready (rs := [0]) (by kernel_rfl) (by simp) ?_
        refine (AllReadyH.cons (o := { dst := some 28, op := Go.Op.load 26 (Go.Operand.tmp 5), type := 26, pos := "law.go:27", after := #[], guard := none }) rfl (fun K hK => ?_) AllReadyH.nil)
        · skip
          obtain ⟨hc, hfz⟩ := P1.out.out
          go_simp
          clear hc hfz
          have B2 := B1
          have P2 := P1
          have V2 := V1
          have U2 := U1
          clear B1 P1 V1 U1
          refine hK.out _ _ ?s5 (fun hNew => ?r5)
          case s5 => exact ((B2.out.cell (p := ⟨qb, qo + t, none⟩) QQ.out).trans E0.out)
          clear hK K hHeld
          have hHeld := hNew
          clear hNew
          refine wpAnyH_ready (rs := [5]) (by kernel_rfl) (by simp) ?_
          refine (AllReadyH.cons (o := { dst := some 33, op := Go.Op.call { callee := Go.Callee.value (Go.Operand.func 10), args := #[Go.Operand.tmp 28, Go.Operand.tmp 32], argTypes := #[26, 5] }, type := 27, pos := "law.go:27", after := #[{ on := 0, ground := Go.Ground.data }, { on := 4, ground := Go.Ground.data }], guard := none }) rfl (fun K hK => ?_) AllReadyH.nil)
          · skip
            go_simp
            with_reducible refine (K1.out _).mono ?_
            rintro q_ u3 ⟨rfl, hb⟩
            have B3 := Lib.hid (vian HN.out B2.out hb)
            have P3 := Lib.hid (P2.out.below hb)
            have V3 := Lib.hid (V2.out.below hb)
            have U3 := Lib.hid (U2.out.below hb)
            clear hb
            clear B2 P2 V2 U2
            refine hK.out _ _ ?s6 (fun hNew => ?r6)
            case s6 => exact ((B3.out.cell (p := ⟨qb, qo + t, none⟩) QQ.out).trans E0.out)
            clear hK K hHeld
            have hHeld := hNew
            clear hNew
            refine wpAnyH_take (i := 6) (oi := { dst := some 27, op := Go.Op.move (Go.Operand.tmp 33), type := 27, pos := "law.go:27", after := #[{ on := 5, ground := Go.Ground.data }], guard := none }) (v := ?v7) rfl (by kernel_rfl) (by kernel_rfl) (by kernel_rfl) (fun _ _ _ h => h) (Or.inl ⟨by rfl, ?y7⟩) (by assumption) ?z7
            case y7 => (intro w hSw; (try dsimp only at hSw); go_simp) <;> with_reducible rfl
            try simp only [Act.put, List.setIfInBounds_toArray, List.set_cons_zero, List.set_cons_succ]
            refine wpAnyH_take (i := 7) (oi := { dst := some 34, op := Go.Op.extract (Go.Operand.tmp 27) 0, type := 26, pos := "law.go:27", after := #[{ on := 6, ground := Go.Ground.data }], guard := none }) (v := ?v8) rfl (by kernel_rfl) (by kernel_rfl) (by kernel_rfl) (fun _ _ _ h => h) (Or.inl ⟨by rfl, ?y8⟩) (by assumption) ?z8
            case y8 => (intro w hSw; (try dsimp only at hSw); go_simp) <;> with_reducible rfl
            try simp only [Act.put, List.setIfInBounds_toArray, List.set_cons_zero, List.set_cons_succ]
            refine wpAnyH_take (i := 8) (oi := { dst := some 35, op := Go.Op.extract (Go.Operand.tmp 27) 1, type := 4, pos := "law.go:27", after := #[{ on := 6, ground := Go.Ground.data }, { on := 9, ground := Go.Ground.gcOnly Go.Departure.lateStores }], guard := none }) (v := ?v9) rfl (by kernel_rfl) (by kernel_rfl) (by kernel_rfl) (fun _ _ _ h => h) (Or.inl ⟨by rfl, ?y9⟩) (by assumption) ?z9
            case y9 => (intro w hSw; (try dsimp only at hSw); go_simp) <;> with_reducible rfl
            try simp only [Act.put, List.setIfInBounds_toArray, List.set_cons_zero, List.set_cons_succ]
            refine wpAnyH_ready (rs := [9]) (by kernel_rfl) (by simp) ?_
            refine (AllReadyH.cons (o := { dst := none, op := Go.Op.store 26 (Go.Operand.tmp 5) (Go.Operand.tmp 34), type := 0, pos := "law.go:27", after := #[{ on := 7, ground := Go.Ground.data }, { on := 5, ground := Go.Ground.chain }, { on := 0, ground := Go.Ground.phase }, { on := 1, ground := Go.Ground.phase }, { on := 2, ground := Go.Ground.phase }, { on := 3, ground := Go.Ground.phase }, { on := 4, ground := Go.Ground.phase }, { on := 5, ground := Go.Ground.phase }, { on := 6, ground := Go.Ground.phase }, { on := 7, ground := Go.Ground.phase }, { on := 8, ground := Go.Ground.textOnly Go.Departure.lateStores }], guard := none }) rfl (fun K hK => ?_) AllReadyH.nil)
            · skip
              obtain ⟨hc, hfz⟩ := P3.out.out
              go_simp
              clear hc hfz
              have P4 := Lib.hid (P3.out.put2 (.int .u8 s) (.int .u8 x))
              have V4 := Lib.hid (V3.out.far2 NPV.out.symm (.int .u8 s) (.int .u8 x))
              have U4 := Lib.hid (U3.out.far2 NUP.out (.int .u8 s) (.int .u8 x))
              have B4 := Lib.hid (set2 B3.out pb LP.out (.int .u8 s) (.int .u8 x))
              clear B3 P3 V3 U3
              refine hK.out _ _ ?s10 (fun hNew => ?r10)
              case s10 => exact ((B4.out.cell (p := ⟨qb, qo + t, none⟩) QQ.out).trans E0.out)
              clear hK K hHeld
              have hHeld := hNew
              clear hNew
              generalize (World.setCell (World.setCell _ ⟨pb, 0, none⟩ _) ⟨pb, 1, none⟩ _) = u4 at hHeld B4 P4 V4 U4 ⊢
              refine wpAnyH_take (i := 10) (oi := { dst := some 7, op := Go.Op.assign (Go.Operand.tmp 35), type := 4, pos := "law.go:27", after := #[{ on := 8, ground := Go.Ground.data }, { on := 9, ground := Go.Ground.chain }, { on := 0, ground := Go.Ground.phase }, { on := 1, ground := Go.Ground.phase }, { on := 2, ground := Go.Ground.phase }, { on := 3, ground := Go.Ground.phase }, { on := 4, ground := Go.Ground.phase }, { on := 5, ground := Go.Ground.phase }, { on := 6, ground := Go.Ground.phase }, { on := 7, ground := Go.Ground.phase }, { on := 8, ground := Go.Ground.phase }, { on := 9, ground := Go.Ground.phase }], guard := none }) (v := ?v11) rfl (by kernel_rfl) (by kernel_rfl) (by kernel_rfl) (fun _ _ _ h => h) (Or.inl ⟨by rfl, ?y11⟩) (by assumption) ?z11
              case y11 => (intro w hSw; (try dsimp only at hSw); go_simp) <;> with_reducible rfl
              try simp only [Act.put, List.setIfInBounds_toArray, List.set_cons_zero, List.set_cons_succ]
              refine wpAnyH_done (by kernel_rfl) ?_ _
              clear hHeld
              have e0 := (B4.out.cell (p := ⟨qb, qo + t, none⟩) QQ.out).trans E0.out
              have V5 := Lib.hid (show Has (u4.setCell ⟨vb, 1, none⟩ (.int .u8 x)) vb #[.int .u8 s, .int .u8 x] by simpa using V4.out.set 1 (.int .u8 x) (by simp))
              have P5 := Lib.hid (P4.out.far ⟨vb, 1, none⟩ (.int .u8 x) (fun e => NPV.out e.symm))
              have U5 := Lib.hid (U4.out.far ⟨vb, 1, none⟩ (.int .u8 x) (fun e => NUV.out e.symm))
              have B5 := Lib.hid (store1 B4.out LV.out 1 (.int .u8 x))
              obtain ⟨hcV, hfV⟩ := V4.out.out
              go_upto_region 14 with (fail)
              clear hcV hfV e0 B4 P4 V4 U4
              generalize u4.setCell ⟨vb, 1, none⟩ (.int .u8 x) = u5 at B5 P5 V5 U5 ⊢
              have B6 := Lib.hid B5.out.drew
              have P6 := Lib.hid P5.out.drew
              have V6 := Lib.hid V5.out.drew
              have U6 := Lib.hid U5.out.drew
              clear B5 P5 V5 U5
              refine wp_region_held_drew (S := (fun w' => (∀ o, w'.cell? ⟨pb, o, none⟩ = #[.int .u8 s, .int .u8 x][o]?) ∧ (∀ o, w'.cell? ⟨vb, o, none⟩ = #[.int .u8 s, .int .u8 x][o]?) ∧ (∀ o, w'.cell? ⟨ub, o, none⟩ = #[.int .u8 s, .int .u8 d][o]?))) (by kernel_rfl) ⟨P6.out.2.1, V6.out.2.1, U6.out.2.1⟩ (fun hHeld => ?_)
              generalize World.drew u5 = u6 at hHeld B6 P6 V6 U6 ⊢
              refine wpAnyH_take (i := 0) (oi := { dst := some 56, op := Go.Op.load 26 (Go.Operand.tmp 5), type := 26, pos := "law.go:33", after := #[], guard := none }) (v := ?v12) rfl (by kernel_rfl) (by kernel_rfl) (by kernel_rfl) (fun _ _ _ h => h) (Or.inl ⟨by rfl, ?y12⟩) (by assumption) ?z12
              case y12 => (intro w hSw; (try dsimp only at hSw); go_simp) <;> with_reducible rfl
              try simp only [Act.put, List.setIfInBounds_toArray, List.set_cons_zero, List.set_cons_succ]
              refine wpAnyH_take (i := 1) (oi := { dst := some 57, op := Go.Op.load 23 (Go.Operand.tmp 2), type := 23, pos := "law.go:33", after := #[], guard := none }) (v := ?v13) rfl (by kernel_rfl) (by kernel_rfl) (by kernel_rfl) (fun _ _ _ h => h) (Or.inl ⟨by rfl, ?y13⟩) (by assumption) ?z13
              case y13 => (intro w hSw; (try dsimp only at hSw); go_simp) <;> with_reducible rfl
              try simp only [Act.put, List.setIfInBounds_toArray, List.set_cons_zero, List.set_cons_succ]
              refine wpAnyH_take (i := 2) (oi := { dst := some 58, op := Go.Op.binOp Go.BinOp.neq 23 (Go.Operand.tmp 56) (Go.Operand.tmp 57) 23, type := 4, pos := "law.go:33", after := #[{ on := 0, ground := Go.Ground.data }, { on := 1, ground := Go.Ground.data }], guard := none }) (v := ?v14) rfl (by kernel_rfl) (by kernel_rfl) (by kernel_rfl) (fun _ _ _ h => h) (Or.inl ⟨by rfl, ?y14⟩) (by assumption) ?z14
              case y14 => (intro w hSw; (try dsimp only at hSw); go_simp) <;> with_reducible rfl
              try simp only [Act.put, List.setIfInBounds_toArray, List.set_cons_zero, List.set_cons_succ]
              refine wpAnyH_take (i := 3) (oi := { dst := some 59, op := Go.Op.move (Go.Operand.tmp 58), type := 4, pos := "law.go:33", after := #[{ on := 2, ground := Go.Ground.data }], guard := none }) (v := ?v15) rfl (by kernel_rfl) (by kernel_rfl) (by kernel_rfl) (fun _ _ _ h => h) (Or.inl ⟨by rfl, ?y15⟩) (by assumption) ?z15
              case y15 => (intro w hSw; (try dsimp only at hSw); go_simp) <;> with_reducible rfl
              try simp only [Act.put, List.setIfInBounds_toArray, List.set_cons_zero, List.set_cons_succ]
              refine wpAnyH_take (i := 4) (oi := { dst := some 60, op := Go.Op.load 26 (Go.Operand.tmp 5), type := 26, pos := "law.go:33", after := #[{ on := 3, ground := Go.Ground.guard }], guard := some (3, false) }) (v := ?v16) rfl (by kernel_rfl) (by kernel_rfl) (by kernel_rfl) (fun _ _ _ h => h) (Or.inl ⟨by rfl, ?y16⟩) (by assumption) ?z16
              case y16 => (intro w hSw; (try dsimp only at hSw); go_simp) <;> with_reducible rfl
              try simp only [Act.put, List.setIfInBounds_toArray, List.set_cons_zero, List.set_cons_succ]
              refine wpAnyH_take (i := 6) (oi := { dst := some 62, op := Go.Op.load 23 (Go.Operand.tmp 2), type := 23, pos := "law.go:33", after := #[{ on := 3, ground := Go.Ground.guard }], guard := some (3, false) }) (v := ?v17) rfl (by kernel_rfl) (by kernel_rfl) (by kernel_rfl) (fun _ _ _ h => h) (Or.inl ⟨by rfl, ?y17⟩) (by assumption) ?z17
              case y17 => (intro w hSw; (try dsimp only at hSw); go_simp) <;> with_reducible rfl
              try simp only [Act.put, List.setIfInBounds_toArray, List.set_cons_zero, List.set_cons_succ]
              refine wpAnyH_ready (rs := [5]) (by kernel_rfl) (by simp) ?_
              refine (AllReadyH.cons (o := { dst := some 61, op := Go.Op.call { callee := Go.Callee.value (Go.Operand.func 13), args := #[Go.Operand.tmp 60], argTypes := #[26] }, type := 5, pos := "law.go:33", after := #[{ on := 4, ground := Go.Ground.data }, { on := 3, ground := Go.Ground.chain }, { on := 3, ground := Go.Ground.guard }], guard := some (3, false) }) rfl (fun K hK => ?_) AllReadyH.nil)
              · skip
                go_simp
                with_reducible refine (K4.out _).mono ?_
                rintro q_ u7 ⟨rfl, hb⟩
                have B7 := Lib.hid (vian HN.out B6.out hb)
                have P7 := Lib.hid (P6.out.below hb)
                have V7 := Lib.hid (V6.out.below hb)
                have U7 := Lib.hid (U6.out.below hb)
                clear hb
                clear B6 P6 V6 U6
                refine hK.out _ _ ?s18 (fun hNew => ?r18)
                case s18 => exact ⟨P7.out.2.1, V7.out.2.1, U7.out.2.1⟩
                clear hK K hHeld
                have hHeld := hNew
                clear hNew
                refine wpAnyH_ready (rs := [7]) (by kernel_rfl) (by simp) ?_
                refine (AllReadyH.cons (o := { dst := some 63, op := Go.Op.call { callee := Go.Callee.value (Go.Operand.func 14), args := #[Go.Operand.tmp 62], argTypes := #[23] }, type := 5, pos := "law.go:33", after := #[{ on := 6, ground := Go.Ground.data }, { on := 5, ground := Go.Ground.chain }, { on := 3, ground := Go.Ground.guard }], guard := some (3, false) }) rfl (fun K hK => ?_) AllReadyH.nil)
                · skip
                  go_simp
                  with_reducible refine (J4.out _).mono ?_
                  rintro q_ u8 ⟨rfl, hb⟩
                  have B8 := Lib.hid (vian HN.out B7.out hb)
                  have P8 := Lib.hid (P7.out.below hb)
                  have V8 := Lib.hid (V7.out.below hb)
                  have U8 := Lib.hid (U7.out.below hb)
                  clear hb
                  clear B7 P7 V7 U7
                  refine hK.out _ _ ?s19 (fun hNew => ?r19)
                  case s19 => exact ⟨P8.out.2.1, V8.out.2.1, U8.out.2.1⟩
                  clear hK K hHeld
                  have hHeld := hNew
                  clear hNew
                  refine wpAnyH_take (i := 8) (oi := { dst := some 64, op := Go.Op.binOp Go.BinOp.neq 5 (Go.Operand.tmp 61) (Go.Operand.tmp 63) 5, type := 4, pos := "law.go:33", after := #[{ on := 5, ground := Go.Ground.data }, { on := 7, ground := Go.Ground.data }, { on := 3, ground := Go.Ground.guard }], guard := some (3, false) }) (v := ?v20) rfl (by kernel_rfl) (by kernel_rfl) (by kernel_rfl) (fun _ _ _ h => h) (Or.inl ⟨by rfl, ?y20⟩) (by assumption) ?z20
                  case y20 => (intro w hSw; (try dsimp only at hSw); go_simp) <;> with_reducible rfl
                  try simp only [Act.put, List.setIfInBounds_toArray, List.set_cons_zero, List.set_cons_succ]
                  refine wpAnyH_take (i := 9) (oi := { dst := some 65, op := Go.Op.pick (Go.Operand.tmp 59) (Go.Operand.const (Go.Value.bool true)) (Go.Operand.tmp 64), type := 4, pos := "law.go:33", after := #[{ on := 3, ground := Go.Ground.data }, { on := 8, ground := Go.Ground.data }], guard := none }) (v := ?v21) rfl (by kernel_rfl) (by kernel_rfl) (by kernel_rfl) (fun _ _ _ h => h) (Or.inl ⟨by rfl, ?y21⟩) (by assumption) ?z21
                  case y21 => (intro w hSw; (try dsimp only at hSw); go_simp) <;> with_reducible rfl
                  try simp only [Act.put, List.setIfInBounds_toArray, List.set_cons_zero, List.set_cons_succ]
                  refine wpAnyH_take (i := 10) (oi := { dst := some 66, op := Go.Op.move (Go.Operand.tmp 65), type := 4, pos := "law.go:33", after := #[{ on := 9, ground := Go.Ground.data }, { on := 7, ground := Go.Ground.chain }], guard := none }) (v := ?v22) rfl (by kernel_rfl) (by kernel_rfl) (by kernel_rfl) (fun _ _ _ h => h) (Or.inl ⟨by rfl, ?y22⟩) (by assumption) ?z22
                  case y22 => (intro w hSw; (try dsimp only at hSw); go_simp) <;> with_reducible rfl
                  try simp only [Act.put, List.setIfInBounds_toArray, List.set_cons_zero, List.set_cons_succ]
                  refine wpAnyH_take (i := 11) (oi := { dst := some 67, op := Go.Op.move (Go.Operand.tmp 7), type := 4, pos := "law.go:33", after := #[{ on := 10, ground := Go.Ground.guard }], guard := some (10, false) }) (v := ?v23) rfl (by kernel_rfl) (by kernel_rfl) (by kernel_rfl) (fun _ _ _ h => h) (Or.inl ⟨by rfl, ?y23⟩) (by assumption) ?z23
                  case y23 => (intro w hSw; (try dsimp only at hSw); go_simp) <;> with_reducible rfl
                  try simp only [Act.put, List.setIfInBounds_toArray, List.set_cons_zero, List.set_cons_succ]
                  refine wpAnyH_take (i := 12) (oi := { dst := some 68, op := Go.Op.load 23 (Go.Operand.tmp 8), type := 23, pos := "law.go:33", after := #[{ on := 10, ground := Go.Ground.guard }], guard := some (10, false) }) (v := ?v24) rfl (by kernel_rfl) (by kernel_rfl) (by kernel_rfl) (fun _ _ _ h => h) (Or.inl ⟨by rfl, ?y24⟩) (by assumption) ?z24
                  case y24 => (intro w hSw; (try dsimp only at hSw); go_simp) <;> with_reducible rfl
                  try simp only [Act.put, List.setIfInBounds_toArray, List.set_cons_zero, List.set_cons_succ]
                  refine wpAnyH_take (i := 13) (oi := { dst := some 69, op := Go.Op.load 23 (Go.Operand.tmp 2), type := 23, pos := "law.go:33", after := #[{ on := 10, ground := Go.Ground.guard }], guard := some (10, false) }) (v := ?v25) rfl (by kernel_rfl) (by kernel_rfl) (by kernel_rfl) (fun _ _ _ h => h) (Or.inl ⟨by rfl, ?y25⟩) (by assumption) ?z25
                  case y25 => (intro w hSw; (try dsimp only at hSw); go_simp) <;> with_reducible rfl
                  try simp only [Act.put, List.setIfInBounds_toArray, List.set_cons_zero, List.set_cons_succ]
                  refine wpAnyH_ready (rs := [14]) (by kernel_rfl) (by simp) ?_
                  refine (AllReadyH.cons (o := { dst := some 70, op := Go.Op.call { callee := Go.Callee.value (Go.Operand.func 15), args := #[Go.Operand.tmp 68, Go.Operand.tmp 69], argTypes := #[23, 23] }, type := 4, pos := "law.go:33", after := #[{ on := 12, ground := Go.Ground.data }, { on := 13, ground := Go.Ground.data }, { on := 10, ground := Go.Ground.chain }, { on := 10, ground := Go.Ground.guard }], guard := some (10, false) }) rfl (fun K hK => ?_) AllReadyH.nil)
                  · skip
                    go_simp
                    with_reducible refine (F4.out _).mono ?_
                    rintro q_ u9 ⟨rfl, hb⟩
                    have B9 := Lib.hid (vian HN.out B8.out hb)
                    have P9 := Lib.hid (P8.out.below hb)
                    have V9 := Lib.hid (V8.out.below hb)
                    have U9 := Lib.hid (U8.out.below hb)
                    clear hb
                    clear B8 P8 V8 U8
                    refine hK.out _ _ ?s26 (fun hNew => ?r26)
                    case s26 => exact ⟨P9.out.2.1, V9.out.2.1, U9.out.2.1⟩
                    clear hK K hHeld
                    have hHeld := hNew
                    clear hNew
                    refine wpAnyH_take (i := 15) (oi := { dst := some 71, op := Go.Op.binOp Go.BinOp.neq 4 (Go.Operand.tmp 67) (Go.Operand.tmp 70) 4, type := 4, pos := "law.go:33", after := #[{ on := 11, ground := Go.Ground.data }, { on := 14, ground := Go.Ground.data }, { on := 10, ground := Go.Ground.guard }], guard := some (10, false) }) (v := ?v27) rfl (by kernel_rfl) (by kernel_rfl) (by kernel_rfl) (fun _ _ _ h => h) (Or.inl ⟨by rfl, ?y27⟩) (by assumption) ?z27
                    case y27 => (intro w hSw; (try dsimp only at hSw); go_simp) <;> with_reducible rfl
                    try simp only [Act.put, List.setIfInBounds_toArray, List.set_cons_zero, List.set_cons_succ]
                    refine wpAnyH_take (i := 16) (oi := { dst := some 72, op := Go.Op.pick (Go.Operand.tmp 66) (Go.Operand.const (Go.Value.bool true)) (Go.Operand.tmp 71), type := 4, pos := "law.go:33", after := #[{ on := 10, ground := Go.Ground.data }, { on := 15, ground := Go.Ground.data }], guard := none }) (v := ?v28) rfl (by kernel_rfl) (by kernel_rfl) (by kernel_rfl) (fun _ _ _ h => h) (Or.inl ⟨by rfl, ?y28⟩) (by assumption) ?z28
                    case y28 => (intro w hSw; (try dsimp only at hSw); go_simp) <;> with_reducible rfl
                    try simp only [Act.put, List.setIfInBounds_toArray, List.set_cons_zero, List.set_cons_succ]
                    refine wpAnyH_done (by kernel_rfl) ?_ _
                    clear hHeld
                    go_wp2
                    go_roundg (gk - 1)
                    exact ⟨t + 1, s, x, by omega, by have := TG.out; omega, by simp, OK1.out, B9.out, P9.out, V9.out⟩
                    case measure => have := TG.out; omega
      · have m1 : (t : Int).tmod 2 = 1 := by omega
        go_upto_region 12 with (fail)
        clear hcV0 hfV0 V0
        generalize wr.alloc (.cells #[.int .u8 s, .int .u8 d] 23) = u0 at B1 P1 V1 U1 ⊢
        generalize wr.heap.size = ub at U1 NUP NUV ⊢
        refine wp_region_held_drew (S := (fun w' => w'.cell? ⟨qb, qo + t, none⟩ = some (.int .u8 x))) (by kernel_rfl) ((B1.out.cell (p := ⟨qb, qo + t, none⟩) QQ.out).trans E0.out) (fun hHeld => ?_)
        generalize World.drew u0 = u1 at hHeld B1 P1 V1 U1 ⊢
        refine wpAnyH_take (i := 1) (oi := { dst := some 43, op := Go.Op.move (Go.Operand.tmp 1), type := 24, pos := "law.go:30", after := #[], guard := none }) (v := ?v29) rfl (by kernel_rfl) (by kernel_rfl) (by kernel_rfl) (fun _ _ _ h => h) (Or.inl ⟨by rfl, ?y29⟩) (by assumption) ?z29
        case y29 => (intro w hSw; (try dsimp only at hSw); go_simp) <;> with_reducible rfl
        try simp only [Act.put, List.setIfInBounds_toArray, List.set_cons_zero, List.set_cons_succ]
        refine wpAnyH_take (i := 2) (oi := { dst := some 44, op := Go.Op.move (Go.Operand.tmp 6), type := 3, pos := "law.go:30", after := #[], guard := none }) (v := ?v30) rfl (by kernel_rfl) (by kernel_rfl) (by kernel_rfl) (fun _ _ _ h => h) (Or.inl ⟨by rfl, ?y30⟩) (by assumption) ?z30
        case y30 => (intro w hSw; (try dsimp only at hSw); go_simp) <;> with_reducible rfl
        try simp only [Act.put, List.setIfInBounds_toArray, List.set_cons_zero, List.set_cons_succ]
        refine wpAnyH_take (i := 3) (oi := { dst := some 45, op := Go.Op.indexAddr 24 (Go.Operand.tmp 43) (Go.Operand.tmp 44), type := 0, pos := "law.go:30", after := #[{ on := 1, ground := Go.Ground.data }, { on := 2, ground := Go.Ground.data }], guard := none }) (v := ?v31) rfl (by kernel_rfl) (by kernel_rfl) (by kernel_rfl) (fun _ _ _ h => h) (Or.inl ⟨by rfl, ?y31⟩) (by assumption) ?z31
        case y31 => (intro w hSw; (try dsimp only at hSw); go_simp) <;> with_reducible rfl
        try simp only [Act.put, List.setIfInBounds_toArray, List.set_cons_zero, List.set_cons_succ]
        refine wpAnyH_take (i := 4) (oi := { dst := some 46, op := Go.Op.load 5 (Go.Operand.tmp 45), type := 5, pos := "law.go:30", after := #[{ on := 3, ground := Go.Ground.data }], guard := none }) (v := ?v32) rfl (by kernel_rfl) (by kernel_rfl) (by kernel_rfl) (fun _ _ _ h => h) (Or.inl ⟨by rfl, ?y32⟩) (by assumption) ?z32
        case y32 => (intro w hSw; (try dsimp only at hSw); go_simp) <;> with_reducible rfl
        try simp only [Act.put, List.setIfInBounds_toArray, List.set_cons_zero, List.set_cons_succ]
        refine wpAnyH_ready (rs := [0]) (by kernel_rfl) (by simp) ?_
        refine (AllReadyH.cons (o := { dst := some 42, op := Go.Op.load 26 (Go.Operand.tmp 5), type := 26, pos := "law.go:30", after := #[], guard := none }) rfl (fun K hK => ?_) AllReadyH.nil)
        · skip
          obtain ⟨hc, hfz⟩ := P1.out.out
          go_simp
          clear hc hfz
          have B2 := B1
          have P2 := P1
          have V2 := V1
          have U2 := U1
          clear B1 P1 V1 U1
          refine hK.out _ _ ?s33 (fun hNew => ?r33)
          case s33 => exact ((B2.out.cell (p := ⟨qb, qo + t, none⟩) QQ.out).trans E0.out)
          clear hK K hHeld
          have hHeld := hNew
          clear hNew
          refine wpAnyH_ready (rs := [5]) (by kernel_rfl) (by simp) ?_
          refine (AllReadyH.cons (o := { dst := some 47, op := Go.Op.call { callee := Go.Callee.value (Go.Operand.func 11), args := #[Go.Operand.tmp 42, Go.Operand.tmp 46], argTypes := #[26, 5] }, type := 27, pos := "law.go:30", after := #[{ on := 0, ground := Go.Ground.data }, { on := 4, ground := Go.Ground.data }], guard := none }) rfl (fun K hK => ?_) AllReadyH.nil)
          · skip
            go_simp
            with_reducible refine (K2.out _).mono ?_
            rintro q_ u3 ⟨rfl, hb⟩
            have B3 := Lib.hid (vian HN.out B2.out hb)
            have P3 := Lib.hid (P2.out.below hb)
            have V3 := Lib.hid (V2.out.below hb)
            have U3 := Lib.hid (U2.out.below hb)
            clear hb
            clear B2 P2 V2 U2
            refine hK.out _ _ ?s34 (fun hNew => ?r34)
            case s34 => exact ((B3.out.cell (p := ⟨qb, qo + t, none⟩) QQ.out).trans E0.out)
            clear hK K hHeld
            have hHeld := hNew
            clear hNew
            refine wpAnyH_take (i := 6) (oi := { dst := some 41, op := Go.Op.move (Go.Operand.tmp 47), type := 27, pos := "law.go:30", after := #[{ on := 5, ground := Go.Ground.data }], guard := none }) (v := ?v35) rfl (by kernel_rfl) (by kernel_rfl) (by kernel_rfl) (fun _ _ _ h => h) (Or.inl ⟨by rfl, ?y35⟩) (by assumption) ?z35
            case y35 => (intro w hSw; (try dsimp only at hSw); go_simp) <;> with_reducible rfl
            try simp only [Act.put, List.setIfInBounds_toArray, List.set_cons_zero, List.set_cons_succ]
            refine wpAnyH_take (i := 7) (oi := { dst := some 48, op := Go.Op.extract (Go.Operand.tmp 41) 0, type := 26, pos := "law.go:30", after := #[{ on := 6, ground := Go.Ground.data }], guard := none }) (v := ?v36) rfl (by kernel_rfl) (by kernel_rfl) (by kernel_rfl) (fun _ _ _ h => h) (Or.inl ⟨by rfl, ?y36⟩) (by assumption) ?z36
            case y36 => (intro w hSw; (try dsimp only at hSw); go_simp) <;> with_reducible rfl
            try simp only [Act.put, List.setIfInBounds_toArray, List.set_cons_zero, List.set_cons_succ]
            refine wpAnyH_take (i := 8) (oi := { dst := some 49, op := Go.Op.extract (Go.Operand.tmp 41) 1, type := 4, pos := "law.go:30", after := #[{ on := 6, ground := Go.Ground.data }, { on := 9, ground := Go.Ground.gcOnly Go.Departure.lateStores }], guard := none }) (v := ?v37) rfl (by kernel_rfl) (by kernel_rfl) (by kernel_rfl) (fun _ _ _ h => h) (Or.inl ⟨by rfl, ?y37⟩) (by assumption) ?z37
            case y37 => (intro w hSw; (try dsimp only at hSw); go_simp) <;> with_reducible rfl
            try simp only [Act.put, List.setIfInBounds_toArray, List.set_cons_zero, List.set_cons_succ]
            refine wpAnyH_ready (rs := [9]) (by kernel_rfl) (by simp) ?_
            refine (AllReadyH.cons (o := { dst := none, op := Go.Op.store 26 (Go.Operand.tmp 5) (Go.Operand.tmp 48), type := 0, pos := "law.go:30", after := #[{ on := 7, ground := Go.Ground.data }, { on := 5, ground := Go.Ground.chain }, { on := 0, ground := Go.Ground.phase }, { on := 1, ground := Go.Ground.phase }, { on := 2, ground := Go.Ground.phase }, { on := 3, ground := Go.Ground.phase }, { on := 4, ground := Go.Ground.phase }, { on := 5, ground := Go.Ground.phase }, { on := 6, ground := Go.Ground.phase }, { on := 7, ground := Go.Ground.phase }, { on := 8, ground := Go.Ground.textOnly Go.Departure.lateStores }], guard := none }) rfl (fun K hK => ?_) AllReadyH.nil)
            · skip
              obtain ⟨hc, hfz⟩ := P3.out.out
              go_simp
              clear hc hfz
              have P4 := Lib.hid (P3.out.put2 (.int .u8 k) (.int .u8 d))
              have V4 := Lib.hid (V3.out.far2 NPV.out.symm (.int .u8 k) (.int .u8 d))
              have U4 := Lib.hid (U3.out.far2 NUP.out (.int .u8 k) (.int .u8 d))
              have B4 := Lib.hid (set2 B3.out pb LP.out (.int .u8 k) (.int .u8 d))
              clear B3 P3 V3 U3
              refine hK.out _ _ ?s38 (fun hNew => ?r38)
              case s38 => exact ((B4.out.cell (p := ⟨qb, qo + t, none⟩) QQ.out).trans E0.out)
              clear hK K hHeld
              have hHeld := hNew
              clear hNew
              generalize (World.setCell (World.setCell _ ⟨pb, 0, none⟩ _) ⟨pb, 1, none⟩ _) = u4 at hHeld B4 P4 V4 U4 ⊢
              refine wpAnyH_take (i := 10) (oi := { dst := some 7, op := Go.Op.assign (Go.Operand.tmp 49), type := 4, pos := "law.go:30", after := #[{ on := 8, ground := Go.Ground.data }, { on := 9, ground := Go.Ground.chain }, { on := 0, ground := Go.Ground.phase }, { on := 1, ground := Go.Ground.phase }, { on := 2, ground := Go.Ground.phase }, { on := 3, ground := Go.Ground.phase }, { on := 4, ground := Go.Ground.phase }, { on := 5, ground := Go.Ground.phase }, { on := 6, ground := Go.Ground.phase }, { on := 7, ground := Go.Ground.phase }, { on := 8, ground := Go.Ground.phase }, { on := 9, ground := Go.Ground.phase }], guard := none }) (v := ?v39) rfl (by kernel_rfl) (by kernel_rfl) (by kernel_rfl) (fun _ _ _ h => h) (Or.inl ⟨by rfl, ?y39⟩) (by assumption) ?z39
              case y39 => (intro w hSw; (try dsimp only at hSw); go_simp) <;> with_reducible rfl
              try simp only [Act.put, List.setIfInBounds_toArray, List.set_cons_zero, List.set_cons_succ]
              refine wpAnyH_done (by kernel_rfl) ?_ _
              clear hHeld
              go_upto_region 13 with (fail)
              have B5 := Lib.hid B4.out.drew
              have P5 := Lib.hid P4.out.drew
              have V5 := Lib.hid V4.out.drew
              have U5 := Lib.hid U4.out.drew
              clear B4 P4 V4 U4
              refine wp_region_held_drew (S := (fun w' => w'.cell? ⟨qb, qo + t, none⟩ = some (.int .u8 x))) (by kernel_rfl) ((B5.out.cell (p := ⟨qb, qo + t, none⟩) QQ.out).trans E0.out) (fun hHeld => ?_)
              generalize World.drew u4 = u5 at hHeld B5 P5 V5 U5 ⊢
              refine wpAnyH_take (i := 1) (oi := { dst := some 51, op := Go.Op.move (Go.Operand.tmp 1), type := 24, pos := "law.go:31", after := #[], guard := none }) (v := ?v40) rfl (by kernel_rfl) (by kernel_rfl) (by kernel_rfl) (fun _ _ _ h => h) (Or.inl ⟨by rfl, ?y40⟩) (by assumption) ?z40
              case y40 => (intro w hSw; (try dsimp only at hSw); go_simp) <;> with_reducible rfl
              try simp only [Act.put, List.setIfInBounds_toArray, List.set_cons_zero, List.set_cons_succ]
              refine wpAnyH_take (i := 2) (oi := { dst := some 52, op := Go.Op.move (Go.Operand.tmp 6), type := 3, pos := "law.go:31", after := #[], guard := none }) (v := ?v41) rfl (by kernel_rfl) (by kernel_rfl) (by kernel_rfl) (fun _ _ _ h => h) (Or.inl ⟨by rfl, ?y41⟩) (by assumption) ?z41
              case y41 => (intro w hSw; (try dsimp only at hSw); go_simp) <;> with_reducible rfl
              try simp only [Act.put, List.setIfInBounds_toArray, List.set_cons_zero, List.set_cons_succ]
              refine wpAnyH_take (i := 3) (oi := { dst := some 53, op := Go.Op.indexAddr 24 (Go.Operand.tmp 51) (Go.Operand.tmp 52), type := 0, pos := "law.go:31", after := #[{ on := 1, ground := Go.Ground.data }, { on := 2, ground := Go.Ground.data }], guard := none }) (v := ?v42) rfl (by kernel_rfl) (by kernel_rfl) (by kernel_rfl) (fun _ _ _ h => h) (Or.inl ⟨by rfl, ?y42⟩) (by assumption) ?z42
              case y42 => (intro w hSw; (try dsimp only at hSw); go_simp) <;> with_reducible rfl
              try simp only [Act.put, List.setIfInBounds_toArray, List.set_cons_zero, List.set_cons_succ]
              refine wpAnyH_take (i := 4) (oi := { dst := some 54, op := Go.Op.load 5 (Go.Operand.tmp 53), type := 5, pos := "law.go:31", after := #[{ on := 3, ground := Go.Ground.data }], guard := none }) (v := ?v43) rfl (by kernel_rfl) (by kernel_rfl) (by kernel_rfl) (fun _ _ _ h => h) (Or.inl ⟨by rfl, ?y43⟩) (by assumption) ?z43
              case y43 => (intro w hSw; (try dsimp only at hSw); go_simp) <;> with_reducible rfl
              try simp only [Act.put, List.setIfInBounds_toArray, List.set_cons_zero, List.set_cons_succ]
              refine wpAnyH_ready (rs := [0]) (by kernel_rfl) (by simp) ?_
              refine (AllReadyH.cons (o := { dst := some 50, op := Go.Op.load 23 (Go.Operand.tmp 2), type := 23, pos := "law.go:31", after := #[], guard := none }) rfl (fun K hK => ?_) AllReadyH.nil)
              · skip
                obtain ⟨hc, hfz⟩ := V5.out.out
                go_simp
                clear hc hfz
                have B6 := B5
                have P6 := P5
                have V6 := V5
                have U6 := U5
                clear B5 P5 V5 U5
                refine hK.out _ _ ?s44 (fun hNew => ?r44)
                case s44 => exact ((B6.out.cell (p := ⟨qb, qo + t, none⟩) QQ.out).trans E0.out)
                clear hK K hHeld
                have hHeld := hNew
                clear hNew
                refine wpAnyH_ready (rs := [5]) (by kernel_rfl) (by simp) ?_
                refine (AllReadyH.cons (o := { dst := some 55, op := Go.Op.call { callee := Go.Callee.value (Go.Operand.func 12), args := #[Go.Operand.tmp 50, Go.Operand.tmp 54], argTypes := #[23, 5] }, type := 23, pos := "law.go:31", after := #[{ on := 0, ground := Go.Ground.data }, { on := 4, ground := Go.Ground.data }], guard := none }) rfl (fun K hK => ?_) AllReadyH.nil)
                · skip
                  go_simp
                  with_reducible refine (K3.out _).mono ?_
                  rintro q_ u7 ⟨rfl, hb⟩
                  have B7 := Lib.hid (vian HN.out B6.out hb)
                  have P7 := Lib.hid (P6.out.below hb)
                  have V7 := Lib.hid (V6.out.below hb)
                  have U7 := Lib.hid (U6.out.below hb)
                  clear hb
                  clear B6 P6 V6 U6
                  refine hK.out _ _ ?s45 (fun hNew => ?r45)
                  case s45 => exact ((B7.out.cell (p := ⟨qb, qo + t, none⟩) QQ.out).trans E0.out)
                  clear hK K hHeld
                  have hHeld := hNew
                  clear hNew
                  refine wpAnyH_ready (rs := [6]) (by kernel_rfl) (by simp) ?_
                  refine (AllReadyH.cons (o := { dst := none, op := Go.Op.store 23 (Go.Operand.tmp 2) (Go.Operand.tmp 55), type := 0, pos := "law.go:31", after := #[{ on := 5, ground := Go.Ground.data }, { on := 5, ground := Go.Ground.chain }, { on := 0, ground := Go.Ground.phase }, { on := 1, ground := Go.Ground.phase }, { on := 2, ground := Go.Ground.phase }, { on := 3, ground := Go.Ground.phase }, { on := 4, ground := Go.Ground.phase }, { on := 5, ground := Go.Ground.phase }], guard := none }) rfl (fun K hK => ?_) AllReadyH.nil)
                  · skip
                    obtain ⟨hc, hfz⟩ := V7.out.out
                    go_simp
                    clear hc hfz
                    have V8 := Lib.hid (V7.out.put2 (.int .u8 k) (.int .u8 d))
                    have P8 := Lib.hid (P7.out.far2 NPV.out (.int .u8 k) (.int .u8 d))
                    have U8 := Lib.hid (U7.out.far2 NUV.out (.int .u8 k) (.int .u8 d))
                    have B8 := Lib.hid (set2 B7.out vb LV.out (.int .u8 k) (.int .u8 d))
                    clear B7 P7 V7 U7
                    refine hK.out _ _ ?s46 (fun hNew => ?r46)
                    case s46 => exact ((B8.out.cell (p := ⟨qb, qo + t, none⟩) QQ.out).trans E0.out)
                    clear hK K hHeld
                    have hHeld := hNew
                    clear hNew
                    generalize (World.setCell (World.setCell _ ⟨vb, 0, none⟩ _) ⟨vb, 1, none⟩ _) = u8 at hHeld B8 P8 V8 U8 ⊢
                    refine wpAnyH_done (by kernel_rfl) ?_ _
                    clear hHeld
                    go_upto_region 14 with (fail)
                    have B9 := Lib.hid B8.out.drew
                    have P9 := Lib.hid P8.out.drew
                    have V9 := Lib.hid V8.out.drew
                    have U9 := Lib.hid U8.out.drew
                    clear B8 P8 V8 U8
                    refine wp_region_held_drew (S := (fun w' => (∀ o, w'.cell? ⟨pb, o, none⟩ = #[.int .u8 k, .int .u8 d][o]?) ∧ (∀ o, w'.cell? ⟨vb, o, none⟩ = #[.int .u8 k, .int .u8 d][o]?) ∧ (∀ o, w'.cell? ⟨ub, o, none⟩ = #[.int .u8 s, .int .u8 d][o]?))) (by kernel_rfl) ⟨P9.out.2.1, V9.out.2.1, U9.out.2.1⟩ (fun hHeld => ?_)
                    generalize World.drew u8 = u9 at hHeld B9 P9 V9 U9 ⊢
                    refine wpAnyH_take (i := 0) (oi := { dst := some 56, op := Go.Op.load 26 (Go.Operand.tmp 5), type := 26, pos := "law.go:33", after := #[], guard := none }) (v := ?v47) rfl (by kernel_rfl) (by kernel_rfl) (by kernel_rfl) (fun _ _ _ h => h) (Or.inl ⟨by rfl, ?y47⟩) (by assumption) ?z47
                    case y47 => (intro w hSw; (try dsimp only at hSw); go_simp) <;> with_reducible rfl
                    try simp only [Act.put, List.setIfInBounds_toArray, List.set_cons_zero, List.set_cons_succ]
                    refine wpAnyH_take (i := 1) (oi := { dst := some 57, op := Go.Op.load 23 (Go.Operand.tmp 2), type := 23, pos := "law.go:33", after := #[], guard := none }) (v := ?v48) rfl (by kernel_rfl) (by kernel_rfl) (by kernel_rfl) (fun _ _ _ h => h) (Or.inl ⟨by rfl, ?y48⟩) (by assumption) ?z48
                    case y48 => (intro w hSw; (try dsimp only at hSw); go_simp) <;> with_reducible rfl
                    try simp only [Act.put, List.setIfInBounds_toArray, List.set_cons_zero, List.set_cons_succ]
                    refine wpAnyH_take (i := 2) (oi := { dst := some 58, op := Go.Op.binOp Go.BinOp.neq 23 (Go.Operand.tmp 56) (Go.Operand.tmp 57) 23, type := 4, pos := "law.go:33", after := #[{ on := 0, ground := Go.Ground.data }, { on := 1, ground := Go.Ground.data }], guard := none }) (v := ?v49) rfl (by kernel_rfl) (by kernel_rfl) (by kernel_rfl) (fun _ _ _ h => h) (Or.inl ⟨by rfl, ?y49⟩) (by assumption) ?z49
                    case y49 => (intro w hSw; (try dsimp only at hSw); go_simp) <;> with_reducible rfl
                    try simp only [Act.put, List.setIfInBounds_toArray, List.set_cons_zero, List.set_cons_succ]
                    refine wpAnyH_take (i := 3) (oi := { dst := some 59, op := Go.Op.move (Go.Operand.tmp 58), type := 4, pos := "law.go:33", after := #[{ on := 2, ground := Go.Ground.data }], guard := none }) (v := ?v50) rfl (by kernel_rfl) (by kernel_rfl) (by kernel_rfl) (fun _ _ _ h => h) (Or.inl ⟨by rfl, ?y50⟩) (by assumption) ?z50
                    case y50 => (intro w hSw; (try dsimp only at hSw); go_simp) <;> with_reducible rfl
                    try simp only [Act.put, List.setIfInBounds_toArray, List.set_cons_zero, List.set_cons_succ]
                    refine wpAnyH_take (i := 4) (oi := { dst := some 60, op := Go.Op.load 26 (Go.Operand.tmp 5), type := 26, pos := "law.go:33", after := #[{ on := 3, ground := Go.Ground.guard }], guard := some (3, false) }) (v := ?v51) rfl (by kernel_rfl) (by kernel_rfl) (by kernel_rfl) (fun _ _ _ h => h) (Or.inl ⟨by rfl, ?y51⟩) (by assumption) ?z51
                    case y51 => (intro w hSw; (try dsimp only at hSw); go_simp) <;> with_reducible rfl
                    try simp only [Act.put, List.setIfInBounds_toArray, List.set_cons_zero, List.set_cons_succ]
                    refine wpAnyH_take (i := 6) (oi := { dst := some 62, op := Go.Op.load 23 (Go.Operand.tmp 2), type := 23, pos := "law.go:33", after := #[{ on := 3, ground := Go.Ground.guard }], guard := some (3, false) }) (v := ?v52) rfl (by kernel_rfl) (by kernel_rfl) (by kernel_rfl) (fun _ _ _ h => h) (Or.inl ⟨by rfl, ?y52⟩) (by assumption) ?z52
                    case y52 => (intro w hSw; (try dsimp only at hSw); go_simp) <;> with_reducible rfl
                    try simp only [Act.put, List.setIfInBounds_toArray, List.set_cons_zero, List.set_cons_succ]
                    refine wpAnyH_ready (rs := [5]) (by kernel_rfl) (by simp) ?_
                    refine (AllReadyH.cons (o := { dst := some 61, op := Go.Op.call { callee := Go.Callee.value (Go.Operand.func 13), args := #[Go.Operand.tmp 60], argTypes := #[26] }, type := 5, pos := "law.go:33", after := #[{ on := 4, ground := Go.Ground.data }, { on := 3, ground := Go.Ground.chain }, { on := 3, ground := Go.Ground.guard }], guard := some (3, false) }) rfl (fun K hK => ?_) AllReadyH.nil)
                    · skip
                      go_simp
                      with_reducible refine (K5.out _).mono ?_
                      rintro q_ u10 ⟨rfl, hb⟩
                      have B10 := Lib.hid (vian HN.out B9.out hb)
                      have P10 := Lib.hid (P9.out.below hb)
                      have V10 := Lib.hid (V9.out.below hb)
                      have U10 := Lib.hid (U9.out.below hb)
                      clear hb
                      clear B9 P9 V9 U9
                      refine hK.out _ _ ?s53 (fun hNew => ?r53)
                      case s53 => exact ⟨P10.out.2.1, V10.out.2.1, U10.out.2.1⟩
                      clear hK K hHeld
                      have hHeld := hNew
                      clear hNew
                      refine wpAnyH_ready (rs := [7]) (by kernel_rfl) (by simp) ?_
                      refine (AllReadyH.cons (o := { dst := some 63, op := Go.Op.call { callee := Go.Callee.value (Go.Operand.func 14), args := #[Go.Operand.tmp 62], argTypes := #[23] }, type := 5, pos := "law.go:33", after := #[{ on := 6, ground := Go.Ground.data }, { on := 5, ground := Go.Ground.chain }, { on := 3, ground := Go.Ground.guard }], guard := some (3, false) }) rfl (fun K hK => ?_) AllReadyH.nil)
                      · skip
                        go_simp
                        with_reducible refine (J5.out _).mono ?_
                        rintro q_ u11 ⟨rfl, hb⟩
                        have B11 := Lib.hid (vian HN.out B10.out hb)
                        have P11 := Lib.hid (P10.out.below hb)
                        have V11 := Lib.hid (V10.out.below hb)
                        have U11 := Lib.hid (U10.out.below hb)
                        clear hb
                        clear B10 P10 V10 U10
                        refine hK.out _ _ ?s54 (fun hNew => ?r54)
                        case s54 => exact ⟨P11.out.2.1, V11.out.2.1, U11.out.2.1⟩
                        clear hK K hHeld
                        have hHeld := hNew
                        clear hNew
                        refine wpAnyH_take (i := 8) (oi := { dst := some 64, op := Go.Op.binOp Go.BinOp.neq 5 (Go.Operand.tmp 61) (Go.Operand.tmp 63) 5, type := 4, pos := "law.go:33", after := #[{ on := 5, ground := Go.Ground.data }, { on := 7, ground := Go.Ground.data }, { on := 3, ground := Go.Ground.guard }], guard := some (3, false) }) (v := ?v55) rfl (by kernel_rfl) (by kernel_rfl) (by kernel_rfl) (fun _ _ _ h => h) (Or.inl ⟨by rfl, ?y55⟩) (by assumption) ?z55
                        case y55 => (intro w hSw; (try dsimp only at hSw); go_simp) <;> with_reducible rfl
                        try simp only [Act.put, List.setIfInBounds_toArray, List.set_cons_zero, List.set_cons_succ]
                        refine wpAnyH_take (i := 9) (oi := { dst := some 65, op := Go.Op.pick (Go.Operand.tmp 59) (Go.Operand.const (Go.Value.bool true)) (Go.Operand.tmp 64), type := 4, pos := "law.go:33", after := #[{ on := 3, ground := Go.Ground.data }, { on := 8, ground := Go.Ground.data }], guard := none }) (v := ?v56) rfl (by kernel_rfl) (by kernel_rfl) (by kernel_rfl) (fun _ _ _ h => h) (Or.inl ⟨by rfl, ?y56⟩) (by assumption) ?z56
                        case y56 => (intro w hSw; (try dsimp only at hSw); go_simp) <;> with_reducible rfl
                        try simp only [Act.put, List.setIfInBounds_toArray, List.set_cons_zero, List.set_cons_succ]
                        refine wpAnyH_take (i := 10) (oi := { dst := some 66, op := Go.Op.move (Go.Operand.tmp 65), type := 4, pos := "law.go:33", after := #[{ on := 9, ground := Go.Ground.data }, { on := 7, ground := Go.Ground.chain }], guard := none }) (v := ?v57) rfl (by kernel_rfl) (by kernel_rfl) (by kernel_rfl) (fun _ _ _ h => h) (Or.inl ⟨by rfl, ?y57⟩) (by assumption) ?z57
                        case y57 => (intro w hSw; (try dsimp only at hSw); go_simp) <;> with_reducible rfl
                        try simp only [Act.put, List.setIfInBounds_toArray, List.set_cons_zero, List.set_cons_succ]
                        refine wpAnyH_take (i := 11) (oi := { dst := some 67, op := Go.Op.move (Go.Operand.tmp 7), type := 4, pos := "law.go:33", after := #[{ on := 10, ground := Go.Ground.guard }], guard := some (10, false) }) (v := ?v58) rfl (by kernel_rfl) (by kernel_rfl) (by kernel_rfl) (fun _ _ _ h => h) (Or.inl ⟨by rfl, ?y58⟩) (by assumption) ?z58
                        case y58 => (intro w hSw; (try dsimp only at hSw); go_simp) <;> with_reducible rfl
                        try simp only [Act.put, List.setIfInBounds_toArray, List.set_cons_zero, List.set_cons_succ]
                        refine wpAnyH_take (i := 12) (oi := { dst := some 68, op := Go.Op.load 23 (Go.Operand.tmp 8), type := 23, pos := "law.go:33", after := #[{ on := 10, ground := Go.Ground.guard }], guard := some (10, false) }) (v := ?v59) rfl (by kernel_rfl) (by kernel_rfl) (by kernel_rfl) (fun _ _ _ h => h) (Or.inl ⟨by rfl, ?y59⟩) (by assumption) ?z59
                        case y59 => (intro w hSw; (try dsimp only at hSw); go_simp) <;> with_reducible rfl
                        try simp only [Act.put, List.setIfInBounds_toArray, List.set_cons_zero, List.set_cons_succ]
                        refine wpAnyH_take (i := 13) (oi := { dst := some 69, op := Go.Op.load 23 (Go.Operand.tmp 2), type := 23, pos := "law.go:33", after := #[{ on := 10, ground := Go.Ground.guard }], guard := some (10, false) }) (v := ?v60) rfl (by kernel_rfl) (by kernel_rfl) (by kernel_rfl) (fun _ _ _ h => h) (Or.inl ⟨by rfl, ?y60⟩) (by assumption) ?z60
                        case y60 => (intro w hSw; (try dsimp only at hSw); go_simp) <;> with_reducible rfl
                        try simp only [Act.put, List.setIfInBounds_toArray, List.set_cons_zero, List.set_cons_succ]
                        refine wpAnyH_ready (rs := [14]) (by kernel_rfl) (by simp) ?_
                        refine (AllReadyH.cons (o := { dst := some 70, op := Go.Op.call { callee := Go.Callee.value (Go.Operand.func 15), args := #[Go.Operand.tmp 68, Go.Operand.tmp 69], argTypes := #[23, 23] }, type := 4, pos := "law.go:33", after := #[{ on := 12, ground := Go.Ground.data }, { on := 13, ground := Go.Ground.data }, { on := 10, ground := Go.Ground.chain }, { on := 10, ground := Go.Ground.guard }], guard := some (10, false) }) rfl (fun K hK => ?_) AllReadyH.nil)
                        · skip
                          go_simp
                          with_reducible refine (F5.out _).mono ?_
                          rintro q_ u12 ⟨rfl, hb⟩
                          have B12 := Lib.hid (vian HN.out B11.out hb)
                          have P12 := Lib.hid (P11.out.below hb)
                          have V12 := Lib.hid (V11.out.below hb)
                          have U12 := Lib.hid (U11.out.below hb)
                          clear hb
                          clear B11 P11 V11 U11
                          refine hK.out _ _ ?s61 (fun hNew => ?r61)
                          case s61 => exact ⟨P12.out.2.1, V12.out.2.1, U12.out.2.1⟩
                          clear hK K hHeld
                          have hHeld := hNew
                          clear hNew
                          refine wpAnyH_take (i := 15) (oi := { dst := some 71, op := Go.Op.binOp Go.BinOp.neq 4 (Go.Operand.tmp 67) (Go.Operand.tmp 70) 4, type := 4, pos := "law.go:33", after := #[{ on := 11, ground := Go.Ground.data }, { on := 14, ground := Go.Ground.data }, { on := 10, ground := Go.Ground.guard }], guard := some (10, false) }) (v := ?v62) rfl (by kernel_rfl) (by kernel_rfl) (by kernel_rfl) (fun _ _ _ h => h) (Or.inl ⟨by rfl, ?y62⟩) (by assumption) ?z62
                          case y62 => (intro w hSw; (try dsimp only at hSw); go_simp) <;> with_reducible rfl
                          try simp only [Act.put, List.setIfInBounds_toArray, List.set_cons_zero, List.set_cons_succ]
                          refine wpAnyH_take (i := 16) (oi := { dst := some 72, op := Go.Op.pick (Go.Operand.tmp 66) (Go.Operand.const (Go.Value.bool true)) (Go.Operand.tmp 71), type := 4, pos := "law.go:33", after := #[{ on := 10, ground := Go.Ground.data }, { on := 15, ground := Go.Ground.data }], guard := none }) (v := ?v63) rfl (by kernel_rfl) (by kernel_rfl) (by kernel_rfl) (fun _ _ _ h => h) (Or.inl ⟨by rfl, ?y63⟩) (by assumption) ?z63
                          case y63 => (intro w hSw; (try dsimp only at hSw); go_simp) <;> with_reducible rfl
                          try simp only [Act.put, List.setIfInBounds_toArray, List.set_cons_zero, List.set_cons_succ]
                          refine wpAnyH_done (by kernel_rfl) ?_ _
                          clear hHeld
                          go_wp2
                          go_roundg (gk - 1)
                          exact ⟨t + 1, k, d, by omega, by have := TG.out; omega, by simp, OK2.out, B12.out, P12.out, V12.out⟩
                          case measure => have := TG.out; omega
    · have et : t = n := by omega
      subst et
      have K4 := Lib.hid (fun W => read_c s d OK.out.1.1 OK.out.1.2 OK.out.2.1 OK.out.2.2 W)
      have J4 := Lib.hid (fun W => rread_c s d OK.out.1.1 OK.out.1.2 OK.out.2.1 OK.out.2.2 W)
      obtain ⟨r1, hr1⟩ : ∃ r, rdV s d = r := ⟨_, rfl⟩
      rw [hr1] at K4 J4
      clear hr1
      go_upto_region 17 with (fail)
      have B1 := Lib.hid B0.out.drew
      have P1 := Lib.hid P0.out.drew
      have V1 := Lib.hid V0.out.drew
      clear B0 P0 V0
      refine wp_region_held_drew (S := (fun w' => (∀ o, w'.cell? ⟨pb, o, none⟩ = #[.int .u8 s, .int .u8 d][o]?) ∧ (∀ o, w'.cell? ⟨vb, o, none⟩ = #[.int .u8 s, .int .u8 d][o]?))) (by kernel_rfl) ⟨P1.out.2.1, V1.out.2.1⟩ (fun hHeld => ?_)
      generalize World.drew wr = u1 at hHeld B1 P1 V1 ⊢
      refine wpAnyH_take (i := 0) (oi := { dst := some 74, op := Go.Op.load 26 (Go.Operand.tmp 5), type := 26, pos := "law.go:37", after := #[], guard := none }) (v := ?v64) rfl (by kernel_rfl) (by kernel_rfl) (by kernel_rfl) (fun _ _ _ h => h) (Or.inl ⟨by rfl, ?y64⟩) (by assumption) ?z64
      case y64 => (intro w hSw; (try dsimp only at hSw); go_simp) <;> with_reducible rfl
      try simp only [Act.put, List.setIfInBounds_toArray, List.set_cons_zero, List.set_cons_succ]
      refine wpAnyH_take (i := 2) (oi := { dst := some 76, op := Go.Op.load 23 (Go.Operand.tmp 2), type := 23, pos := "law.go:37", after := #[], guard := none }) (v := ?v65) rfl (by kernel_rfl) (by kernel_rfl) (by kernel_rfl) (fun _ _ _ h => h) (Or.inl ⟨by rfl, ?y65⟩) (by assumption) ?z65
      case y65 => (intro w hSw; (try dsimp only at hSw); go_simp) <;> with_reducible rfl
      try simp only [Act.put, List.setIfInBounds_toArray, List.set_cons_zero, List.set_cons_succ]
      refine wpAnyH_ready (rs := [1]) (by kernel_rfl) (by simp) ?_
      refine (AllReadyH.cons (o := { dst := some 75, op := Go.Op.call { callee := Go.Callee.value (Go.Operand.func 13), args := #[Go.Operand.tmp 74], argTypes := #[26] }, type := 5, pos := "law.go:37", after := #[{ on := 0, ground := Go.Ground.data }], guard := none }) rfl (fun K hK => ?_) AllReadyH.nil)
      · skip
        go_simp
        with_reducible refine (K4.out _).mono ?_
        rintro q_ u2 ⟨rfl, hb⟩
        have B2 := Lib.hid (vian HN.out B1.out hb)
        have P2 := Lib.hid (P1.out.below hb)
        have V2 := Lib.hid (V1.out.below hb)
        clear hb
        clear B1 P1 V1
        refine hK.out _ _ ?s66 (fun hNew => ?r66)
        case s66 => exact ⟨P2.out.2.1, V2.out.2.1⟩
        clear hK K hHeld
        have hHeld := hNew
        clear hNew
        refine wpAnyH_ready (rs := [3]) (by kernel_rfl) (by simp) ?_
        refine (AllReadyH.cons (o := { dst := some 77, op := Go.Op.call { callee := Go.Callee.value (Go.Operand.func 14), args := #[Go.Operand.tmp 76], argTypes := #[23] }, type := 5, pos := "law.go:37", after := #[{ on := 2, ground := Go.Ground.data }, { on := 1, ground := Go.Ground.chain }], guard := none }) rfl (fun K hK => ?_) AllReadyH.nil)
        · skip
          go_simp
          with_reducible refine (J4.out _).mono ?_
          rintro q_ u3 ⟨rfl, hb⟩
          have B3 := Lib.hid (vian HN.out B2.out hb)
          have P3 := Lib.hid (P2.out.below hb)
          have V3 := Lib.hid (V2.out.below hb)
          clear hb
          clear B2 P2 V2
          refine hK.out _ _ ?s67 (fun hNew => ?r67)
          case s67 => exact ⟨P3.out.2.1, V3.out.2.1⟩
          clear hK K hHeld
          have hHeld := hNew
          clear hNew
          refine wpAnyH_take (i := 4) (oi := { dst := some 78, op := Go.Op.binOp Go.BinOp.eql 5 (Go.Operand.tmp 75) (Go.Operand.tmp 77) 5, type := 4, pos := "law.go:37", after := #[{ on := 1, ground := Go.Ground.data }, { on := 3, ground := Go.Ground.data }], guard := none }) (v := ?v68) rfl (by kernel_rfl) (by kernel_rfl) (by kernel_rfl) (fun _ _ _ h => h) (Or.inl ⟨by rfl, ?y68⟩) (by assumption) ?z68
          case y68 => (intro w hSw; (try dsimp only at hSw); go_simp) <;> with_reducible rfl
          try simp only [Act.put, List.setIfInBounds_toArray, List.set_cons_zero, List.set_cons_succ]
          refine wpAnyH_take (i := 5) (oi := { dst := some 4, op := Go.Op.assign (Go.Operand.tmp 78), type := 4, pos := "law.go:37", after := #[{ on := 4, ground := Go.Ground.data }, { on := 3, ground := Go.Ground.chain }, { on := 0, ground := Go.Ground.phase }, { on := 1, ground := Go.Ground.phase }, { on := 2, ground := Go.Ground.phase }, { on := 3, ground := Go.Ground.phase }, { on := 4, ground := Go.Ground.phase }], guard := none }) (v := ?v69) rfl (by kernel_rfl) (by kernel_rfl) (by kernel_rfl) (fun _ _ _ h => h) (Or.inl ⟨by rfl, ?y69⟩) (by assumption) ?z69
          case y69 => (intro w hSw; (try dsimp only at hSw); go_simp) <;> with_reducible rfl
          try simp only [Act.put, List.setIfInBounds_toArray, List.set_cons_zero, List.set_cons_succ]
          refine wpAnyH_done (by kernel_rfl) ?_ _
          clear hHeld
          go_wp2
          go_ret
          exact ⟨rfl, B3.out⟩
theorem plays_walk (s d : Int) (hs : 0 ≤ s) (hs2 : s < 256) (hd : 0 ≤ d) (hd2 : d < 256) (v : Value) (w : World) (ho : BytesIn w v) : Calls Try.prog 3 #[.agg #[.int .u8 s, .int .u8 d], v] w fun q_ w' => q_ = .returned (.bool true) ∧ Below w.heap.size w w' := by
  obtain ⟨a, n, c, rfl, hm, h, hh, hi⟩ := ho
  by_cases h0 : 100 < n
  · exact plays_long s d hs hs2 hd hd2 a n c h0 w
  · exact plays_some s d hs hs2 hd hd2 a n c h0 h hh w hi
end Go.Proofs.Ytbpfeppgonhclaa
