/-
  The document's fall, Tick and Write: for every timer; no condition but that each number fits.
-/
import Derived.Test.YtjjmnjkmfkcdoaaDoorVia
import Derived.Deep.Cut
namespace Go.Proofs.YtjjmnjkmfkcdoaaDoor
open Go.ChangeShapes Go.WideShapes Go.ChangeAt Go.RowKit
set_option linter.unusedVariables false
set_option linter.unusedSimpArgs false
set_option maxRecDepth 100000
set_option maxHeartbeats 1000000 in
theorem rf_0 (c a m k : Int) (o : Bool) (w : World) : Calls Tryd.prog 18 #[.agg #[.int .u16 c, .int .u8 a, .int .u8 m, .int .u8 k, .bool o], .bool false] w fun q_ w' => q_ = .returned (.agg #[.int .u16 c, .int .u8 a, .int .u8 m, .int .u8 k, .bool o]) ∧ Below w.heap.size w w' := by
  go_enter Tryd.func18, Tryd.ntmps18
  go_wp2
  all_goals exact bodyPost_ret (v := .agg #[.int .u16 c, .int .u8 a, .int .u8 m, .int .u8 k, .bool o]) (by simp [results, Tryd.results18, go_sem]) rfl ⟨rfl, by first | exact Below.refl _ _ | exact own1 _ _ | exact own2 _ _ _ | exact own3 _ _ _ _ | exact own4 _ _ _ _ _ | exact below_drewN (Below.refl _ _) _⟩
set_option maxHeartbeats 2000000 in
theorem rf_1 (c a m k : Int) (o : Bool) (C1 : ∀ W, Calls Tryd.prog 16 #[.agg #[.int .u16 c, .int .u8 a, .int .u8 m, .int .u8 k, .bool o]] W fun q_ w' => q_ = .returned (.bool true) ∧ Below W.heap.size W w') (w : World) : Calls Tryd.prog 18 #[.agg #[.int .u16 c, .int .u8 a, .int .u8 m, .int .u8 k, .bool o], .bool true] w fun q_ w' => q_ = .returned (.agg #[.int .u16 c, .int .u8 a, .int .u8 m, .int .u8 k, .bool o]) ∧ Below w.heap.size w w' := by
  suffices hall : ∀ (n_ : Nat) (W0 : World), n_ ≤ W0.heap.size → Below n_ W0 w → Calls Tryd.prog 18 #[.agg #[.int .u16 c, .int .u8 a, .int .u8 m, .int .u8 k, .bool o], .bool true] w fun q_ w' => q_ = .returned (.agg #[.int .u16 c, .int .u8 a, .int .u8 m, .int .u8 k, .bool o]) ∧ Below n_ W0 w' from hall _ _ (Nat.le_refl _) (Below.refl _ _)
  intro n_ W0 hn hB
  have HN := Lib.hid hn
  have BB := Lib.hid hB
  clear hn hB
  have H1 := Lib.hid C1
  clear C1
  go_enter Tryd.func18, Tryd.ntmps18
  have Q_ := own2 w (.cells #[.int .u16 c, .int .u8 a, .int .u8 m, .int .u8 k, .bool o] 24) (.cells #[.int .u16 0, .int .u8 0, .int .u8 0, .int .u8 0, .bool false] 24)
  have B0 := Lib.hid (vian HN.out BB.out Q_)
  have P0 := Lib.hid ((Has.new w #[.int .u16 c, .int .u8 a, .int .u8 m, .int .u8 k, .bool o] 24).alloc (.cells #[.int .u16 0, .int .u8 0, .int .u8 0, .int .u8 0, .bool false] 24))
  have R0 := Lib.hid (show Has ((w.alloc (.cells #[.int .u16 c, .int .u8 a, .int .u8 m, .int .u8 k, .bool o] 24)).alloc (.cells #[.int .u16 0, .int .u8 0, .int .u8 0, .int .u8 0, .bool false] 24)) (w.heap.size + 1) #[.int .u16 0, .int .u8 0, .int .u8 0, .int .u8 0, .bool false] by simpa using Has.new (w.alloc (.cells #[.int .u16 c, .int .u8 a, .int .u8 m, .int .u8 k, .bool o] 24)) #[.int .u16 0, .int .u8 0, .int .u8 0, .int .u8 0, .bool false] 24)
  have LP := Lib.hid (Nat.le_trans HN.out BB.out.size)
  have LR := Lib.hid (show n_ ≤ w.heap.size + 1 from Nat.le_succ_of_le (Nat.le_trans HN.out BB.out.size))
  have NE := Lib.hid (show w.heap.size ≠ w.heap.size + 1 by omega)
  clear Q_
  go_upto_region 1 with (fail)
  generalize (w.alloc (.cells #[.int .u16 c, .int .u8 a, .int .u8 m, .int .u8 k, .bool o] 24)).alloc (.cells #[.int .u16 0, .int .u8 0, .int .u8 0, .int .u8 0, .bool false] 24) = w0 at B0 P0 R0 ⊢
  generalize w.heap.size + 1 = rb at R0 LR NE ⊢
  generalize w.heap.size = pb at P0 LP NE ⊢
  obtain ⟨hc, hf⟩ := P0.out.out
  go_wp2_with fail
  clear hc hf
  with_reducible refine (H1.out _).mono ?_
  rintro q_ w1 ⟨rfl, hb⟩
  have B1 := Lib.hid (vian HN.out B0.out hb)
  have P1 := Lib.hid (P0.out.below hb)
  have R1 := Lib.hid (R0.out.below hb)
  clear hb B0 P0 R0
  obtain ⟨hp, hpf⟩ := P1.out.out
  obtain ⟨hc, hf⟩ := R1.out.out
  go_wp2
  refine bodyPost_ret (v := .agg #[.int .u16 c, .int .u8 a, .int .u8 m, .int .u8 k, .bool o]) ?_ rfl ⟨rfl, ?_⟩
  · simp [results, Tryd.results18, go_sem, hc]
  · exact set5 B1.out rb LR.out _ _ _ _ _
set_option maxHeartbeats 2000000 in
theorem rf_2 (c a m k : Int) (o : Bool) (u : Int) (ha0 : 0 ≤ a) (ha1 : a < 256) (hu : (a + 1) % 256 = u) (g : ¬ u = 0) (C1 : ∀ W, Calls Tryd.prog 16 #[.agg #[.int .u16 c, .int .u8 a, .int .u8 m, .int .u8 k, .bool o]] W fun q_ w' => q_ = .returned (.bool false) ∧ Below W.heap.size W w') (w : World) : Calls Tryd.prog 18 #[.agg #[.int .u16 c, .int .u8 a, .int .u8 m, .int .u8 k, .bool o], .bool true] w fun q_ w' => q_ = .returned (.agg #[.int .u16 c, .int .u8 u, .int .u8 m, .int .u8 k, .bool o]) ∧ Below w.heap.size w w' := by
  suffices hall : ∀ (n_ : Nat) (W0 : World), n_ ≤ W0.heap.size → Below n_ W0 w → Calls Tryd.prog 18 #[.agg #[.int .u16 c, .int .u8 a, .int .u8 m, .int .u8 k, .bool o], .bool true] w fun q_ w' => q_ = .returned (.agg #[.int .u16 c, .int .u8 u, .int .u8 m, .int .u8 k, .bool o]) ∧ Below n_ W0 w' from hall _ _ (Nat.le_refl _) (Below.refl _ _)
  intro n_ W0 hn hB
  have HN := Lib.hid hn
  have BB := Lib.hid hB
  clear hn hB
  have H1 := Lib.hid C1
  clear C1
  have w1 : IntKind.u8.wrap (a + 1) = u := by rw [← hu]; rfl
  have u0 : 0 ≤ u ∧ u < 256 := by omega
  have u1 := u0.1
  have u2 := u0.2
  clear u0
  go_enter Tryd.func18, Tryd.ntmps18
  have Q_ := own2 w (.cells #[.int .u16 c, .int .u8 a, .int .u8 m, .int .u8 k, .bool o] 24) (.cells #[.int .u16 0, .int .u8 0, .int .u8 0, .int .u8 0, .bool false] 24)
  have B0 := Lib.hid (vian HN.out BB.out Q_)
  have P0 := Lib.hid ((Has.new w #[.int .u16 c, .int .u8 a, .int .u8 m, .int .u8 k, .bool o] 24).alloc (.cells #[.int .u16 0, .int .u8 0, .int .u8 0, .int .u8 0, .bool false] 24))
  have R0 := Lib.hid (show Has ((w.alloc (.cells #[.int .u16 c, .int .u8 a, .int .u8 m, .int .u8 k, .bool o] 24)).alloc (.cells #[.int .u16 0, .int .u8 0, .int .u8 0, .int .u8 0, .bool false] 24)) (w.heap.size + 1) #[.int .u16 0, .int .u8 0, .int .u8 0, .int .u8 0, .bool false] by simpa using Has.new (w.alloc (.cells #[.int .u16 c, .int .u8 a, .int .u8 m, .int .u8 k, .bool o] 24)) #[.int .u16 0, .int .u8 0, .int .u8 0, .int .u8 0, .bool false] 24)
  have LP := Lib.hid (Nat.le_trans HN.out BB.out.size)
  have LR := Lib.hid (show n_ ≤ w.heap.size + 1 from Nat.le_succ_of_le (Nat.le_trans HN.out BB.out.size))
  have NE := Lib.hid (show w.heap.size ≠ w.heap.size + 1 by omega)
  clear Q_
  go_upto_region 1 with (fail)
  generalize (w.alloc (.cells #[.int .u16 c, .int .u8 a, .int .u8 m, .int .u8 k, .bool o] 24)).alloc (.cells #[.int .u16 0, .int .u8 0, .int .u8 0, .int .u8 0, .bool false] 24) = w0 at B0 P0 R0 ⊢
  generalize w.heap.size + 1 = rb at R0 LR NE ⊢
  generalize w.heap.size = pb at P0 LP NE ⊢
  obtain ⟨hc, hf⟩ := P0.out.out
  go_wp2_with fail
  clear hc hf
  with_reducible refine (H1.out _).mono ?_
  rintro q_ w1 ⟨rfl, hb⟩
  have B1 := Lib.hid (vian HN.out B0.out hb)
  have P1 := Lib.hid (P0.out.below hb)
  have R1 := Lib.hid (R0.out.below hb)
  clear hb B0 P0 R0
  have P2 := Lib.hid (show Has (w1.setCell ⟨pb, 1, none⟩ (.int .u8 u)) pb #[.int .u16 c, .int .u8 u, .int .u8 m, .int .u8 k, .bool o] by simpa using P1.out.set 1 (.int .u8 u) (by simp))
  have R2 := Lib.hid (R1.out.far ⟨pb, 1, none⟩ (.int .u8 u) NE.out)
  have B2 := Lib.hid (store1 B1.out LP.out 1 (.int .u8 u))
  obtain ⟨hp, hpf⟩ := P1.out.out
  obtain ⟨hc, hf⟩ := R1.out.out
  go_upto_region 3 with (fail)
  generalize w1.setCell ⟨pb, 1, none⟩ (.int .u8 u) = w2 at P2 R2 B2 ⊢
  clear P1 R1 B1
  clear hp hpf hc hf
  obtain ⟨hp, hpf⟩ := P2.out.out
  obtain ⟨hc, hf⟩ := R2.out.out
  go_wp2
  refine bodyPost_ret (v := .agg #[.int .u16 c, .int .u8 u, .int .u8 m, .int .u8 k, .bool o]) ?_ rfl ⟨rfl, ?_⟩
  · simp [results, Tryd.results18, go_sem, hc]
  · exact set5 B2.out rb LR.out _ _ _ _ _
set_option maxHeartbeats 2000000 in
theorem rf_3 (c a m k : Int) (o : Bool) (ha0 : 0 ≤ a) (ha1 : a < 256) (hu : (a + 1) % 256 = 0) (C1 : ∀ W, Calls Tryd.prog 16 #[.agg #[.int .u16 c, .int .u8 a, .int .u8 m, .int .u8 k, .bool o]] W fun q_ w' => q_ = .returned (.bool false) ∧ Below W.heap.size W w') (w : World) : Calls Tryd.prog 18 #[.agg #[.int .u16 c, .int .u8 a, .int .u8 m, .int .u8 k, .bool o], .bool true] w fun q_ w' => q_ = .returned (.agg #[.int .u16 c, .int .u8 0, .int .u8 m, .int .u8 k, .bool true]) ∧ Below w.heap.size w w' := by
  suffices hall : ∀ (n_ : Nat) (W0 : World), n_ ≤ W0.heap.size → Below n_ W0 w → Calls Tryd.prog 18 #[.agg #[.int .u16 c, .int .u8 a, .int .u8 m, .int .u8 k, .bool o], .bool true] w fun q_ w' => q_ = .returned (.agg #[.int .u16 c, .int .u8 0, .int .u8 m, .int .u8 k, .bool true]) ∧ Below n_ W0 w' from hall _ _ (Nat.le_refl _) (Below.refl _ _)
  intro n_ W0 hn hB
  have HN := Lib.hid hn
  have BB := Lib.hid hB
  clear hn hB
  have H1 := Lib.hid C1
  clear C1
  have w1 : IntKind.u8.wrap (a + 1) = 0 := by rw [← hu]; rfl
  go_enter Tryd.func18, Tryd.ntmps18
  have Q_ := own2 w (.cells #[.int .u16 c, .int .u8 a, .int .u8 m, .int .u8 k, .bool o] 24) (.cells #[.int .u16 0, .int .u8 0, .int .u8 0, .int .u8 0, .bool false] 24)
  have B0 := Lib.hid (vian HN.out BB.out Q_)
  have P0 := Lib.hid ((Has.new w #[.int .u16 c, .int .u8 a, .int .u8 m, .int .u8 k, .bool o] 24).alloc (.cells #[.int .u16 0, .int .u8 0, .int .u8 0, .int .u8 0, .bool false] 24))
  have R0 := Lib.hid (show Has ((w.alloc (.cells #[.int .u16 c, .int .u8 a, .int .u8 m, .int .u8 k, .bool o] 24)).alloc (.cells #[.int .u16 0, .int .u8 0, .int .u8 0, .int .u8 0, .bool false] 24)) (w.heap.size + 1) #[.int .u16 0, .int .u8 0, .int .u8 0, .int .u8 0, .bool false] by simpa using Has.new (w.alloc (.cells #[.int .u16 c, .int .u8 a, .int .u8 m, .int .u8 k, .bool o] 24)) #[.int .u16 0, .int .u8 0, .int .u8 0, .int .u8 0, .bool false] 24)
  have LP := Lib.hid (Nat.le_trans HN.out BB.out.size)
  have LR := Lib.hid (show n_ ≤ w.heap.size + 1 from Nat.le_succ_of_le (Nat.le_trans HN.out BB.out.size))
  have NE := Lib.hid (show w.heap.size ≠ w.heap.size + 1 by omega)
  clear Q_
  go_upto_region 1 with (fail)
  generalize (w.alloc (.cells #[.int .u16 c, .int .u8 a, .int .u8 m, .int .u8 k, .bool o] 24)).alloc (.cells #[.int .u16 0, .int .u8 0, .int .u8 0, .int .u8 0, .bool false] 24) = w0 at B0 P0 R0 ⊢
  generalize w.heap.size + 1 = rb at R0 LR NE ⊢
  generalize w.heap.size = pb at P0 LP NE ⊢
  obtain ⟨hc, hf⟩ := P0.out.out
  go_wp2_with fail
  clear hc hf
  with_reducible refine (H1.out _).mono ?_
  rintro q_ w1 ⟨rfl, hb⟩
  have B1 := Lib.hid (vian HN.out B0.out hb)
  have P1 := Lib.hid (P0.out.below hb)
  have R1 := Lib.hid (R0.out.below hb)
  clear hb B0 P0 R0
  have P2 := Lib.hid (show Has (w1.setCell ⟨pb, 1, none⟩ (.int .u8 0)) pb #[.int .u16 c, .int .u8 0, .int .u8 m, .int .u8 k, .bool o] by simpa using P1.out.set 1 (.int .u8 0) (by simp))
  have R2 := Lib.hid (R1.out.far ⟨pb, 1, none⟩ (.int .u8 0) NE.out)
  have B2 := Lib.hid (store1 B1.out LP.out 1 (.int .u8 0))
  obtain ⟨hp, hpf⟩ := P1.out.out
  obtain ⟨hc, hf⟩ := R1.out.out
  go_upto_region 3 with (fail)
  generalize w1.setCell ⟨pb, 1, none⟩ (.int .u8 0) = w2 at P2 R2 B2 ⊢
  clear P1 R1 B1
  clear hp hpf hc hf
  have P3 := Lib.hid (show Has (w2.setCell ⟨pb, 4, none⟩ (.bool true)) pb #[.int .u16 c, .int .u8 0, .int .u8 m, .int .u8 k, .bool true] by simpa using P2.out.set 4 (.bool true) (by simp))
  have R3 := Lib.hid (R2.out.far ⟨pb, 4, none⟩ (.bool true) NE.out)
  have B3 := Lib.hid (store1 B2.out LP.out 4 (.bool true))
  obtain ⟨hp, hpf⟩ := P2.out.out
  obtain ⟨hc, hf⟩ := R2.out.out
  go_upto_region 5 with (fail)
  generalize w2.setCell ⟨pb, 4, none⟩ (.bool true) = w3 at P3 R3 B3 ⊢
  clear P2 R2 B2
  clear hp hpf hc hf
  obtain ⟨hp, hpf⟩ := P3.out.out
  obtain ⟨hc, hf⟩ := R3.out.out
  go_wp2
  refine bodyPost_ret (v := .agg #[.int .u16 c, .int .u8 0, .int .u8 m, .int .u8 k, .bool true]) ?_ rfl ⟨rfl, ?_⟩
  · simp [results, Tryd.results18, go_sem, hc]
  · exact set5 B3.out rb LR.out _ _ _ _ _
theorem rf_c (v R : TV) (s : Bool) (hv : v.ok) (hR : fallV s v = R) (w : World) : Calls Tryd.prog 18 #[.agg #[.int .u16 v.c, .int .u8 v.a, .int .u8 v.m, .int .u8 v.k, .bool v.o], .bool s] w fun q_ w' => q_ = .returned (.agg #[.int .u16 R.c, .int .u8 R.a, .int .u8 R.m, .int .u8 R.k, .bool R.o]) ∧ Below w.heap.size w w' := by
  obtain ⟨c, a, m, k, o⟩ := v
  obtain ⟨⟨h1, h2⟩, ⟨h3, h4⟩, _, h7, h8⟩ := hv
  dsimp only at h1 h2 h3 h4 h7 h8 ⊢
  cases s with
  | false =>
    rw [fall_not false _ (Or.inl rfl)] at hR
    subst hR
    exact rf_0 c a m k o w
  | true =>
    rcases Bool.eq_false_or_eq_true (sigV c k) with g | g
    · rw [fall_not true _ (Or.inr g)] at hR
      subst hR
      exact rf_1 c a m k o (fun W => rs_c c a m k o true h1 h2 h7 h8 g W) w
    · rw [fall_yes _ g] at hR
      subst hR
      dsimp only
      by_cases g2 : (a + 1) % 256 = 0
      · rw [if_pos g2, g2]
        exact rf_3 c a m k o h3 h4 g2 (fun W => rs_c c a m k o false h1 h2 h7 h8 g W) w
      · rw [if_neg g2]
        exact rf_2 c a m k o _ h3 h4 rfl g2 (fun W => rs_c c a m k o false h1 h2 h7 h8 g W) w
end Go.Proofs.YtjjmnjkmfkcdoaaDoor
