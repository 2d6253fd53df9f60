/-
  The document's Tick and Write: for every timer; no condition but that each number fits.
-/
import Derived.Test.YtjjmnjkmfkcdoaaDoorRf
import Derived.Deep.Cut
namespace Go.Proofs.YtjjmnjkmfkcdoaaDoor
open Go.ChangeShapes Go.WideShapes Go.ChangeAt Go.RowKit
set_option linter.unusedVariables false
set_option linter.unusedSimpArgs false
set_option maxRecDepth 100000
set_option maxHeartbeats 2000000 in
theorem rt_0 (c a m k : Int) (s : Bool) (R : TV) (z : Int) (hc0 : 0 ≤ c) (hc1 : c < 65536) (hz : (c + 4) % 65536 = z) (C1 : ∀ W, Calls Tryd.prog 16 #[.agg #[.int .u16 c, .int .u8 a, .int .u8 m, .int .u8 k, .bool false]] W fun q_ w' => q_ = .returned (.bool s) ∧ Below W.heap.size W w') (C2 : ∀ W, Calls Tryd.prog 18 #[.agg #[.int .u16 z, .int .u8 a, .int .u8 m, .int .u8 k, .bool false], .bool s] W fun q_ w' => q_ = .returned (.agg #[.int .u16 R.c, .int .u8 R.a, .int .u8 R.m, .int .u8 R.k, .bool R.o]) ∧ Below W.heap.size W w') (w : World) : Calls Tryd.prog 11 #[.agg #[.int .u16 c, .int .u8 a, .int .u8 m, .int .u8 k, .bool false]] w fun q_ w' => q_ = .returned (.tuple #[.agg #[.int .u16 R.c, .int .u8 R.a, .int .u8 R.m, .int .u8 R.k, .bool R.o], .bool false]) ∧ Below w.heap.size w w' := by
  suffices hall : ∀ (n_ : Nat) (W0 : World), n_ ≤ W0.heap.size → Below n_ W0 w → Calls Tryd.prog 11 #[.agg #[.int .u16 c, .int .u8 a, .int .u8 m, .int .u8 k, .bool false]] w fun q_ w' => q_ = .returned (.tuple #[.agg #[.int .u16 R.c, .int .u8 R.a, .int .u8 R.m, .int .u8 R.k, .bool R.o], .bool false]) ∧ Below n_ W0 w' from hall _ _ (Nat.le_refl _) (Below.refl _ _)
  intro n_ W0 hn hB
  have HN := Lib.hid hn
  have BB := Lib.hid hB
  clear hn hB
  have H1 := Lib.hid C1
  have H2 := Lib.hid C2
  clear C1 C2
  have z0 : 0 ≤ z ∧ z < 65536 := by omega
  have z1 := z0.1
  have z2 := z0.2
  clear z0
  go_enter Tryd.func11, Tryd.ntmps11
  have Q_ := own2 w (.cells #[.int .u16 c, .int .u8 a, .int .u8 m, .int .u8 k, .bool false] 24) (.cells #[.int .u16 0, .int .u8 0, .int .u8 0, .int .u8 0, .bool false] 24)
  have B0 := Lib.hid (vian HN.out BB.out Q_)
  have P0 := Lib.hid ((Has.new w #[.int .u16 c, .int .u8 a, .int .u8 m, .int .u8 k, .bool false] 24).alloc (.cells #[.int .u16 0, .int .u8 0, .int .u8 0, .int .u8 0, .bool false] 24))
  have R0 := Lib.hid (show Has ((w.alloc (.cells #[.int .u16 c, .int .u8 a, .int .u8 m, .int .u8 k, .bool false] 24)).alloc (.cells #[.int .u16 0, .int .u8 0, .int .u8 0, .int .u8 0, .bool false] 24)) (w.heap.size + 1) #[.int .u16 0, .int .u8 0, .int .u8 0, .int .u8 0, .bool false] by simpa using Has.new (w.alloc (.cells #[.int .u16 c, .int .u8 a, .int .u8 m, .int .u8 k, .bool false] 24)) #[.int .u16 0, .int .u8 0, .int .u8 0, .int .u8 0, .bool false] 24)
  have LP := Lib.hid (Nat.le_trans HN.out BB.out.size)
  have LR := Lib.hid (show n_ ≤ w.heap.size + 1 from Nat.le_succ_of_le (Nat.le_trans HN.out BB.out.size))
  have NE := Lib.hid (show w.heap.size ≠ w.heap.size + 1 by omega)
  clear Q_
  go_upto_region 1 with (fail)
  generalize (w.alloc (.cells #[.int .u16 c, .int .u8 a, .int .u8 m, .int .u8 k, .bool false] 24)).alloc (.cells #[.int .u16 0, .int .u8 0, .int .u8 0, .int .u8 0, .bool false] 24) = w0 at B0 P0 R0 ⊢
  generalize w.heap.size + 1 = rb at R0 LR NE ⊢
  generalize w.heap.size = pb at P0 LP NE ⊢
  obtain ⟨hc, hf⟩ := P0.out.out
  go_wp2_with fail
  clear hc hf
  with_reducible refine (H1.out _).mono ?_
  rintro q_ w1 ⟨rfl, hb⟩
  have B1 := Lib.hid (vian HN.out B0.out hb)
  have P1 := Lib.hid (P0.out.below hb)
  have R1 := Lib.hid (R0.out.below hb)
  clear hb B0 P0 R0
  have P2 := Lib.hid (show Has (w1.setCell ⟨pb, 0, none⟩ (.int .u16 z)) pb #[.int .u16 z, .int .u8 a, .int .u8 m, .int .u8 k, .bool false] by simpa using P1.out.set 0 (.int .u16 z) (by simp))
  have R2 := Lib.hid (R1.out.far ⟨pb, 0, none⟩ (.int .u16 z) NE.out)
  have B2 := Lib.hid (store1 B1.out LP.out 0 (.int .u16 z))
  obtain ⟨hc, hf⟩ := P1.out.out
  go_upto_region 7 with (fail)
  generalize w1.setCell ⟨pb, 0, none⟩ (.int .u16 z) = w2 at P2 R2 B2 ⊢
  clear P1 R1 B1
  clear hc hf
  obtain ⟨hc, hf⟩ := P2.out.out
  go_wp2_with fail
  clear hc hf
  with_reducible refine (H2.out _).mono ?_
  rintro q_ w3 ⟨rfl, hb⟩
  have B3 := Lib.hid (vian HN.out B2.out hb)
  have P3 := Lib.hid (P2.out.below hb)
  have R3 := Lib.hid (R2.out.below hb)
  clear hb B2 P2 R2
  obtain ⟨hc, hf⟩ := R3.out.out
  go_wp2
  refine bodyPost_ret (v := .tuple #[.agg #[.int .u16 R.c, .int .u8 R.a, .int .u8 R.m, .int .u8 R.k, .bool R.o], .bool false]) ?_ rfl ⟨rfl, ?_⟩
  · simp [results, Tryd.results11, go_sem, hc]
  · exact set5 B3.out rb LR.out _ _ _ _ _
set_option maxHeartbeats 2000000 in
theorem rt_1 (c a m k : Int) (s : Bool) (R : TV) (z : Int) (hc0 : 0 ≤ c) (hc1 : c < 65536) (hz : (c + 4) % 65536 = z) (C1 : ∀ W, Calls Tryd.prog 16 #[.agg #[.int .u16 c, .int .u8 m, .int .u8 m, .int .u8 k, .bool false]] W fun q_ w' => q_ = .returned (.bool s) ∧ Below W.heap.size W w') (C2 : ∀ W, Calls Tryd.prog 18 #[.agg #[.int .u16 z, .int .u8 m, .int .u8 m, .int .u8 k, .bool false], .bool s] W fun q_ w' => q_ = .returned (.agg #[.int .u16 R.c, .int .u8 R.a, .int .u8 R.m, .int .u8 R.k, .bool R.o]) ∧ Below W.heap.size W w') (w : World) : Calls Tryd.prog 11 #[.agg #[.int .u16 c, .int .u8 a, .int .u8 m, .int .u8 k, .bool true]] w fun q_ w' => q_ = .returned (.tuple #[.agg #[.int .u16 R.c, .int .u8 R.a, .int .u8 R.m, .int .u8 R.k, .bool R.o], .bool true]) ∧ Below w.heap.size w w' := by
  suffices hall : ∀ (n_ : Nat) (W0 : World), n_ ≤ W0.heap.size → Below n_ W0 w → Calls Tryd.prog 11 #[.agg #[.int .u16 c, .int .u8 a, .int .u8 m, .int .u8 k, .bool true]] w fun q_ w' => q_ = .returned (.tuple #[.agg #[.int .u16 R.c, .int .u8 R.a, .int .u8 R.m, .int .u8 R.k, .bool R.o], .bool true]) ∧ Below n_ W0 w' from hall _ _ (Nat.le_refl _) (Below.refl _ _)
  intro n_ W0 hn hB
  have HN := Lib.hid hn
  have BB := Lib.hid hB
  clear hn hB
  have H1 := Lib.hid C1
  have H2 := Lib.hid C2
  clear C1 C2
  have z0 : 0 ≤ z ∧ z < 65536 := by omega
  have z1 := z0.1
  have z2 := z0.2
  clear z0
  go_enter Tryd.func11, Tryd.ntmps11
  have Q_ := own2 w (.cells #[.int .u16 c, .int .u8 a, .int .u8 m, .int .u8 k, .bool true] 24) (.cells #[.int .u16 0, .int .u8 0, .int .u8 0, .int .u8 0, .bool false] 24)
  have B0 := Lib.hid (vian HN.out BB.out Q_)
  have P0 := Lib.hid ((Has.new w #[.int .u16 c, .int .u8 a, .int .u8 m, .int .u8 k, .bool true] 24).alloc (.cells #[.int .u16 0, .int .u8 0, .int .u8 0, .int .u8 0, .bool false] 24))
  have R0 := Lib.hid (show Has ((w.alloc (.cells #[.int .u16 c, .int .u8 a, .int .u8 m, .int .u8 k, .bool true] 24)).alloc (.cells #[.int .u16 0, .int .u8 0, .int .u8 0, .int .u8 0, .bool false] 24)) (w.heap.size + 1) #[.int .u16 0, .int .u8 0, .int .u8 0, .int .u8 0, .bool false] by simpa using Has.new (w.alloc (.cells #[.int .u16 c, .int .u8 a, .int .u8 m, .int .u8 k, .bool true] 24)) #[.int .u16 0, .int .u8 0, .int .u8 0, .int .u8 0, .bool false] 24)
  have LP := Lib.hid (Nat.le_trans HN.out BB.out.size)
  have LR := Lib.hid (show n_ ≤ w.heap.size + 1 from Nat.le_succ_of_le (Nat.le_trans HN.out BB.out.size))
  have NE := Lib.hid (show w.heap.size ≠ w.heap.size + 1 by omega)
  clear Q_
  go_upto_region 1 with (fail)
  generalize (w.alloc (.cells #[.int .u16 c, .int .u8 a, .int .u8 m, .int .u8 k, .bool true] 24)).alloc (.cells #[.int .u16 0, .int .u8 0, .int .u8 0, .int .u8 0, .bool false] 24) = w0 at B0 P0 R0 ⊢
  generalize w.heap.size + 1 = rb at R0 LR NE ⊢
  generalize w.heap.size = pb at P0 LP NE ⊢
  have P1 := Lib.hid (show Has (w0.setCell ⟨pb, 1, none⟩ (.int .u8 m)) pb #[.int .u16 c, .int .u8 m, .int .u8 m, .int .u8 k, .bool true] by simpa using P0.out.set 1 (.int .u8 m) (by simp))
  have R1 := Lib.hid (R0.out.far ⟨pb, 1, none⟩ (.int .u8 m) NE.out)
  have B1 := Lib.hid (store1 B0.out LP.out 1 (.int .u8 m))
  have P2 := Lib.hid (show Has ((w0.setCell ⟨pb, 1, none⟩ (.int .u8 m)).setCell ⟨pb, 4, none⟩ (.bool false)) pb #[.int .u16 c, .int .u8 m, .int .u8 m, .int .u8 k, .bool false] by simpa using P1.out.set 4 (.bool false) (by simp))
  have R2 := Lib.hid (R1.out.far ⟨pb, 4, none⟩ (.bool false) NE.out)
  have B2 := Lib.hid (store1 B1.out LP.out 4 (.bool false))
  obtain ⟨hc, hf⟩ := P0.out.out
  go_upto_region 5 with (fail)
  generalize (w0.setCell ⟨pb, 1, none⟩ (.int .u8 m)).setCell ⟨pb, 4, none⟩ (.bool false) = w2 at P2 R2 B2 ⊢
  clear P0 R0 B0 P1 R1 B1
  clear hc hf
  obtain ⟨hc, hf⟩ := P2.out.out
  go_wp2_with fail
  clear hc hf
  with_reducible refine (H1.out _).mono ?_
  rintro q_ w3 ⟨rfl, hb⟩
  have B3 := Lib.hid (vian HN.out B2.out hb)
  have P3 := Lib.hid (P2.out.below hb)
  have R3 := Lib.hid (R2.out.below hb)
  clear hb B2 P2 R2
  have P4 := Lib.hid (show Has (w3.setCell ⟨pb, 0, none⟩ (.int .u16 z)) pb #[.int .u16 z, .int .u8 m, .int .u8 m, .int .u8 k, .bool false] by simpa using P3.out.set 0 (.int .u16 z) (by simp))
  have R4 := Lib.hid (R3.out.far ⟨pb, 0, none⟩ (.int .u16 z) NE.out)
  have B4 := Lib.hid (store1 B3.out LP.out 0 (.int .u16 z))
  obtain ⟨hc, hf⟩ := P3.out.out
  go_upto_region 7 with (fail)
  generalize w3.setCell ⟨pb, 0, none⟩ (.int .u16 z) = w4 at P4 R4 B4 ⊢
  clear P3 R3 B3
  clear hc hf
  obtain ⟨hc, hf⟩ := P4.out.out
  go_wp2_with fail
  clear hc hf
  with_reducible refine (H2.out _).mono ?_
  rintro q_ w5 ⟨rfl, hb⟩
  have B5 := Lib.hid (vian HN.out B4.out hb)
  have P5 := Lib.hid (P4.out.below hb)
  have R5 := Lib.hid (R4.out.below hb)
  clear hb B4 P4 R4
  obtain ⟨hc, hf⟩ := R5.out.out
  go_wp2
  refine bodyPost_ret (v := .tuple #[.agg #[.int .u16 R.c, .int .u8 R.a, .int .u8 R.m, .int .u8 R.k, .bool R.o], .bool true]) ?_ rfl ⟨rfl, ?_⟩
  · simp [results, Tryd.results11, go_sem, hc]
  · exact set5 B5.out rb LR.out _ _ _ _ _
theorem rt_c (v R : TV) (hv : v.ok) (hR : tickV v = R) (w : World) : Calls Tryd.prog 11 #[.agg #[.int .u16 v.c, .int .u8 v.a, .int .u8 v.m, .int .u8 v.k, .bool v.o]] w fun q_ w' => q_ = .returned (.tuple #[.agg #[.int .u16 R.c, .int .u8 R.a, .int .u8 R.m, .int .u8 R.k, .bool R.o], .bool v.o]) ∧ Below w.heap.size w w' := by
  have hp := pre_ok hv
  obtain ⟨c, a, m, k, o⟩ := v
  have hv' := hv
  obtain ⟨⟨h1, h2⟩, ⟨h3, h4⟩, ⟨h5, h6⟩, h7, h8⟩ := hv
  unfold tickV at hR
  dsimp only at h1 h2 h3 h4 h5 h6 h7 h8 hR ⊢
  cases o with
  | false => exact rt_0 c a m k (sigV c k) R _ h1 h2 rfl (fun W => rs_c c a m k false _ h1 h2 h7 h8 rfl W) (fun W => rf_c ⟨(c + 4) % 65536, a, m, k, false⟩ R _ ⟨by dsimp only; omega, ⟨h3, h4⟩, ⟨h5, h6⟩, h7, h8⟩ hR W) w
  | true => exact rt_1 c a m k (sigV c k) R _ h1 h2 rfl (fun W => rs_c c m m k false _ h1 h2 h7 h8 rfl W) (fun W => rf_c ⟨(c + 4) % 65536, m, m, k, false⟩ R _ ⟨by dsimp only; omega, ⟨h5, h6⟩, ⟨h5, h6⟩, h7, h8⟩ hR W) w
set_option maxHeartbeats 2000000 in
theorem rw_0 (c a m k : Int) (o : Bool) (s : Bool) (R : TV) (x : Int) (hx0 : 0 ≤ x) (hx1 : x < 256) (C1 : ∀ W, Calls Tryd.prog 16 #[.agg #[.int .u16 c, .int .u8 a, .int .u8 m, .int .u8 k, .bool o]] W fun q_ w' => q_ = .returned (.bool s) ∧ Below W.heap.size W w') (C2 : ∀ W, Calls Tryd.prog 18 #[.agg #[.int .u16 0, .int .u8 a, .int .u8 m, .int .u8 k, .bool o], .bool s] W fun q_ w' => q_ = .returned (.agg #[.int .u16 R.c, .int .u8 R.a, .int .u8 R.m, .int .u8 R.k, .bool R.o]) ∧ Below W.heap.size W w') (w : World) : Calls Tryd.prog 13 #[.agg #[.int .u16 c, .int .u8 a, .int .u8 m, .int .u8 k, .bool o], .int .i64 0, .int .u8 x] w fun q_ w' => q_ = .returned (.agg #[.int .u16 R.c, .int .u8 R.a, .int .u8 R.m, .int .u8 R.k, .bool R.o]) ∧ Below w.heap.size w w' := by
  suffices hall : ∀ (n_ : Nat) (W0 : World), n_ ≤ W0.heap.size → Below n_ W0 w → Calls Tryd.prog 13 #[.agg #[.int .u16 c, .int .u8 a, .int .u8 m, .int .u8 k, .bool o], .int .i64 0, .int .u8 x] w fun q_ w' => q_ = .returned (.agg #[.int .u16 R.c, .int .u8 R.a, .int .u8 R.m, .int .u8 R.k, .bool R.o]) ∧ Below n_ W0 w' from hall _ _ (Nat.le_refl _) (Below.refl _ _)
  intro n_ W0 hn hB
  have HN := Lib.hid hn
  have BB := Lib.hid hB
  clear hn hB
  have H1 := Lib.hid C1
  have H2 := Lib.hid C2
  clear C1 C2
  go_enter Tryd.func13, Tryd.ntmps13
  have Q_ := own2 w (.cells #[.int .u16 c, .int .u8 a, .int .u8 m, .int .u8 k, .bool o] 24) (.cells #[.int .u16 0, .int .u8 0, .int .u8 0, .int .u8 0, .bool false] 24)
  have B0 := Lib.hid (vian HN.out BB.out Q_)
  have P0 := Lib.hid ((Has.new w #[.int .u16 c, .int .u8 a, .int .u8 m, .int .u8 k, .bool o] 24).alloc (.cells #[.int .u16 0, .int .u8 0, .int .u8 0, .int .u8 0, .bool false] 24))
  have R0 := Lib.hid (show Has ((w.alloc (.cells #[.int .u16 c, .int .u8 a, .int .u8 m, .int .u8 k, .bool o] 24)).alloc (.cells #[.int .u16 0, .int .u8 0, .int .u8 0, .int .u8 0, .bool false] 24)) (w.heap.size + 1) #[.int .u16 0, .int .u8 0, .int .u8 0, .int .u8 0, .bool false] by simpa using Has.new (w.alloc (.cells #[.int .u16 c, .int .u8 a, .int .u8 m, .int .u8 k, .bool o] 24)) #[.int .u16 0, .int .u8 0, .int .u8 0, .int .u8 0, .bool false] 24)
  have LP := Lib.hid (Nat.le_trans HN.out BB.out.size)
  have LR := Lib.hid (show n_ ≤ w.heap.size + 1 from Nat.le_succ_of_le (Nat.le_trans HN.out BB.out.size))
  have NE := Lib.hid (show w.heap.size ≠ w.heap.size + 1 by omega)
  clear Q_
  go_upto_region 1 with (fail)
  generalize (w.alloc (.cells #[.int .u16 c, .int .u8 a, .int .u8 m, .int .u8 k, .bool o] 24)).alloc (.cells #[.int .u16 0, .int .u8 0, .int .u8 0, .int .u8 0, .bool false] 24) = w0 at B0 P0 R0 ⊢
  generalize w.heap.size + 1 = rb at R0 LR NE ⊢
  generalize w.heap.size = pb at P0 LP NE ⊢
  obtain ⟨hc, hf⟩ := P0.out.out
  go_wp2_with fail
  clear hc hf
  with_reducible refine (H1.out _).mono ?_
  rintro q_ w1 ⟨rfl, hb⟩
  have B1 := Lib.hid (vian HN.out B0.out hb)
  have P1 := Lib.hid (P0.out.below hb)
  have R1 := Lib.hid (R0.out.below hb)
  clear hb B0 P0 R0
  have P2 := Lib.hid (show Has (w1.setCell ⟨pb, 0, none⟩ (.int .u16 0)) pb #[.int .u16 0, .int .u8 a, .int .u8 m, .int .u8 k, .bool o] by simpa using P1.out.set 0 (.int .u16 0) (by simp))
  have R2 := Lib.hid (R1.out.far ⟨pb, 0, none⟩ (.int .u16 0) NE.out)
  have B2 := Lib.hid (store1 B1.out LP.out 0 (.int .u16 0))
  obtain ⟨hc, hf⟩ := P1.out.out
  go_upto_region 5 with (fail)
  generalize w1.setCell ⟨pb, 0, none⟩ (.int .u16 0) = w2 at P2 R2 B2 ⊢
  clear P1 R1 B1
  clear hc hf
  obtain ⟨hc, hf⟩ := P2.out.out
  go_wp2_with fail
  clear hc hf
  with_reducible refine (H2.out _).mono ?_
  rintro q_ w3 ⟨rfl, hb⟩
  have B3 := Lib.hid (vian HN.out B2.out hb)
  have P3 := Lib.hid (P2.out.below hb)
  have R3 := Lib.hid (R2.out.below hb)
  clear hb B2 P2 R2
  obtain ⟨hc, hf⟩ := R3.out.out
  go_wp2
  refine bodyPost_ret (v := .agg #[.int .u16 R.c, .int .u8 R.a, .int .u8 R.m, .int .u8 R.k, .bool R.o]) ?_ rfl ⟨rfl, ?_⟩
  · simp [results, Tryd.results13, go_sem, hc]
  · exact set5 B3.out rb LR.out _ _ _ _ _
set_option maxHeartbeats 2000000 in
theorem rw_1 (c a m k : Int) (o : Bool) (s : Bool) (R : TV) (x : Int) (hx0 : 0 ≤ x) (hx1 : x < 256) (C1 : ∀ W, Calls Tryd.prog 16 #[.agg #[.int .u16 c, .int .u8 a, .int .u8 m, .int .u8 k, .bool o]] W fun q_ w' => q_ = .returned (.bool s) ∧ Below W.heap.size W w') (w : World) : Calls Tryd.prog 13 #[.agg #[.int .u16 c, .int .u8 a, .int .u8 m, .int .u8 k, .bool o], .int .i64 1, .int .u8 x] w fun q_ w' => q_ = .returned (.agg #[.int .u16 c, .int .u8 x, .int .u8 m, .int .u8 k, .bool false]) ∧ Below w.heap.size w w' := by
  suffices hall : ∀ (n_ : Nat) (W0 : World), n_ ≤ W0.heap.size → Below n_ W0 w → Calls Tryd.prog 13 #[.agg #[.int .u16 c, .int .u8 a, .int .u8 m, .int .u8 k, .bool o], .int .i64 1, .int .u8 x] w fun q_ w' => q_ = .returned (.agg #[.int .u16 c, .int .u8 x, .int .u8 m, .int .u8 k, .bool false]) ∧ Below n_ W0 w' from hall _ _ (Nat.le_refl _) (Below.refl _ _)
  intro n_ W0 hn hB
  have HN := Lib.hid hn
  have BB := Lib.hid hB
  clear hn hB
  have H1 := Lib.hid C1
  clear C1
  go_enter Tryd.func13, Tryd.ntmps13
  have Q_ := own2 w (.cells #[.int .u16 c, .int .u8 a, .int .u8 m, .int .u8 k, .bool o] 24) (.cells #[.int .u16 0, .int .u8 0, .int .u8 0, .int .u8 0, .bool false] 24)
  have B0 := Lib.hid (vian HN.out BB.out Q_)
  have P0 := Lib.hid ((Has.new w #[.int .u16 c, .int .u8 a, .int .u8 m, .int .u8 k, .bool o] 24).alloc (.cells #[.int .u16 0, .int .u8 0, .int .u8 0, .int .u8 0, .bool false] 24))
  have R0 := Lib.hid (show Has ((w.alloc (.cells #[.int .u16 c, .int .u8 a, .int .u8 m, .int .u8 k, .bool o] 24)).alloc (.cells #[.int .u16 0, .int .u8 0, .int .u8 0, .int .u8 0, .bool false] 24)) (w.heap.size + 1) #[.int .u16 0, .int .u8 0, .int .u8 0, .int .u8 0, .bool false] by simpa using Has.new (w.alloc (.cells #[.int .u16 c, .int .u8 a, .int .u8 m, .int .u8 k, .bool o] 24)) #[.int .u16 0, .int .u8 0, .int .u8 0, .int .u8 0, .bool false] 24)
  have LP := Lib.hid (Nat.le_trans HN.out BB.out.size)
  have LR := Lib.hid (show n_ ≤ w.heap.size + 1 from Nat.le_succ_of_le (Nat.le_trans HN.out BB.out.size))
  have NE := Lib.hid (show w.heap.size ≠ w.heap.size + 1 by omega)
  clear Q_
  go_upto_region 1 with (fail)
  generalize (w.alloc (.cells #[.int .u16 c, .int .u8 a, .int .u8 m, .int .u8 k, .bool o] 24)).alloc (.cells #[.int .u16 0, .int .u8 0, .int .u8 0, .int .u8 0, .bool false] 24) = w0 at B0 P0 R0 ⊢
  generalize w.heap.size + 1 = rb at R0 LR NE ⊢
  generalize w.heap.size = pb at P0 LP NE ⊢
  obtain ⟨hc, hf⟩ := P0.out.out
  go_wp2_with fail
  clear hc hf
  with_reducible refine (H1.out _).mono ?_
  rintro q_ w1 ⟨rfl, hb⟩
  have B1 := Lib.hid (vian HN.out B0.out hb)
  have P1 := Lib.hid (P0.out.below hb)
  have R1 := Lib.hid (R0.out.below hb)
  clear hb B0 P0 R0
  have P2 := Lib.hid (show Has (w1.setCell ⟨pb, 1, none⟩ (.int .u8 x)) pb #[.int .u16 c, .int .u8 x, .int .u8 m, .int .u8 k, .bool o] by simpa using P1.out.set 1 (.int .u8 x) (by simp))
  have R2 := Lib.hid (R1.out.far ⟨pb, 1, none⟩ (.int .u8 x) NE.out)
  have B2 := Lib.hid (store1 B1.out LP.out 1 (.int .u8 x))
  have P3 := Lib.hid (show Has ((w1.setCell ⟨pb, 1, none⟩ (.int .u8 x)).setCell ⟨pb, 4, none⟩ (.bool false)) pb #[.int .u16 c, .int .u8 x, .int .u8 m, .int .u8 k, .bool false] by simpa using P2.out.set 4 (.bool false) (by simp))
  have R3 := Lib.hid (R2.out.far ⟨pb, 4, none⟩ (.bool false) NE.out)
  have B3 := Lib.hid (store1 B2.out LP.out 4 (.bool false))
  obtain ⟨hc, hf⟩ := P1.out.out
  go_upto_region 14 with (fail)
  generalize (w1.setCell ⟨pb, 1, none⟩ (.int .u8 x)).setCell ⟨pb, 4, none⟩ (.bool false) = w3 at P3 R3 B3 ⊢
  clear P1 R1 B1 P2 R2 B2
  clear hc hf
  obtain ⟨hp, hpf⟩ := P3.out.out
  obtain ⟨hc, hf⟩ := R3.out.out
  go_wp2
  refine bodyPost_ret (v := .agg #[.int .u16 c, .int .u8 x, .int .u8 m, .int .u8 k, .bool false]) ?_ rfl ⟨rfl, ?_⟩
  · simp [results, Tryd.results13, go_sem, hc]
  · exact set5 B3.out rb LR.out _ _ _ _ _
set_option maxHeartbeats 2000000 in
theorem rw_2 (c a m k : Int) (o : Bool) (s : Bool) (R : TV) (x : Int) (hx0 : 0 ≤ x) (hx1 : x < 256) (C1 : ∀ W, Calls Tryd.prog 16 #[.agg #[.int .u16 c, .int .u8 a, .int .u8 m, .int .u8 k, .bool o]] W fun q_ w' => q_ = .returned (.bool s) ∧ Below W.heap.size W w') (w : World) : Calls Tryd.prog 13 #[.agg #[.int .u16 c, .int .u8 a, .int .u8 m, .int .u8 k, .bool o], .int .i64 2, .int .u8 x] w fun q_ w' => q_ = .returned (.agg #[.int .u16 c, .int .u8 a, .int .u8 x, .int .u8 k, .bool o]) ∧ Below w.heap.size w w' := by
  suffices hall : ∀ (n_ : Nat) (W0 : World), n_ ≤ W0.heap.size → Below n_ W0 w → Calls Tryd.prog 13 #[.agg #[.int .u16 c, .int .u8 a, .int .u8 m, .int .u8 k, .bool o], .int .i64 2, .int .u8 x] w fun q_ w' => q_ = .returned (.agg #[.int .u16 c, .int .u8 a, .int .u8 x, .int .u8 k, .bool o]) ∧ Below n_ W0 w' from hall _ _ (Nat.le_refl _) (Below.refl _ _)
  intro n_ W0 hn hB
  have HN := Lib.hid hn
  have BB := Lib.hid hB
  clear hn hB
  have H1 := Lib.hid C1
  clear C1
  go_enter Tryd.func13, Tryd.ntmps13
  have Q_ := own2 w (.cells #[.int .u16 c, .int .u8 a, .int .u8 m, .int .u8 k, .bool o] 24) (.cells #[.int .u16 0, .int .u8 0, .int .u8 0, .int .u8 0, .bool false] 24)
  have B0 := Lib.hid (vian HN.out BB.out Q_)
  have P0 := Lib.hid ((Has.new w #[.int .u16 c, .int .u8 a, .int .u8 m, .int .u8 k, .bool o] 24).alloc (.cells #[.int .u16 0, .int .u8 0, .int .u8 0, .int .u8 0, .bool false] 24))
  have R0 := Lib.hid (show Has ((w.alloc (.cells #[.int .u16 c, .int .u8 a, .int .u8 m, .int .u8 k, .bool o] 24)).alloc (.cells #[.int .u16 0, .int .u8 0, .int .u8 0, .int .u8 0, .bool false] 24)) (w.heap.size + 1) #[.int .u16 0, .int .u8 0, .int .u8 0, .int .u8 0, .bool false] by simpa using Has.new (w.alloc (.cells #[.int .u16 c, .int .u8 a, .int .u8 m, .int .u8 k, .bool o] 24)) #[.int .u16 0, .int .u8 0, .int .u8 0, .int .u8 0, .bool false] 24)
  have LP := Lib.hid (Nat.le_trans HN.out BB.out.size)
  have LR := Lib.hid (show n_ ≤ w.heap.size + 1 from Nat.le_succ_of_le (Nat.le_trans HN.out BB.out.size))
  have NE := Lib.hid (show w.heap.size ≠ w.heap.size + 1 by omega)
  clear Q_
  go_upto_region 1 with (fail)
  generalize (w.alloc (.cells #[.int .u16 c, .int .u8 a, .int .u8 m, .int .u8 k, .bool o] 24)).alloc (.cells #[.int .u16 0, .int .u8 0, .int .u8 0, .int .u8 0, .bool false] 24) = w0 at B0 P0 R0 ⊢
  generalize w.heap.size + 1 = rb at R0 LR NE ⊢
  generalize w.heap.size = pb at P0 LP NE ⊢
  obtain ⟨hc, hf⟩ := P0.out.out
  go_wp2_with fail
  clear hc hf
  with_reducible refine (H1.out _).mono ?_
  rintro q_ w1 ⟨rfl, hb⟩
  have B1 := Lib.hid (vian HN.out B0.out hb)
  have P1 := Lib.hid (P0.out.below hb)
  have R1 := Lib.hid (R0.out.below hb)
  clear hb B0 P0 R0
  have P2 := Lib.hid (show Has (w1.setCell ⟨pb, 2, none⟩ (.int .u8 x)) pb #[.int .u16 c, .int .u8 a, .int .u8 x, .int .u8 k, .bool o] by simpa using P1.out.set 2 (.int .u8 x) (by simp))
  have R2 := Lib.hid (R1.out.far ⟨pb, 2, none⟩ (.int .u8 x) NE.out)
  have B2 := Lib.hid (store1 B1.out LP.out 2 (.int .u8 x))
  obtain ⟨hc, hf⟩ := P1.out.out
  go_upto_region 14 with (fail)
  generalize w1.setCell ⟨pb, 2, none⟩ (.int .u8 x) = w2 at P2 R2 B2 ⊢
  clear P1 R1 B1
  clear hc hf
  obtain ⟨hp, hpf⟩ := P2.out.out
  obtain ⟨hc, hf⟩ := R2.out.out
  go_wp2
  refine bodyPost_ret (v := .agg #[.int .u16 c, .int .u8 a, .int .u8 x, .int .u8 k, .bool o]) ?_ rfl ⟨rfl, ?_⟩
  · simp [results, Tryd.results13, go_sem, hc]
  · exact set5 B2.out rb LR.out _ _ _ _ _
set_option maxHeartbeats 2000000 in
theorem rw_3 (c a m k : Int) (o : Bool) (s : Bool) (R : TV) (x : Int) (hx0 : 0 ≤ x) (hx1 : x < 256) (y : Int) (hy : x % 8 = y) (C1 : ∀ W, Calls Tryd.prog 16 #[.agg #[.int .u16 c, .int .u8 a, .int .u8 m, .int .u8 k, .bool o]] W fun q_ w' => q_ = .returned (.bool s) ∧ Below W.heap.size W w') (C2 : ∀ W, Calls Tryd.prog 18 #[.agg #[.int .u16 c, .int .u8 a, .int .u8 m, .int .u8 y, .bool o], .bool s] W fun q_ w' => q_ = .returned (.agg #[.int .u16 R.c, .int .u8 R.a, .int .u8 R.m, .int .u8 R.k, .bool R.o]) ∧ Below W.heap.size W w') (w : World) : Calls Tryd.prog 13 #[.agg #[.int .u16 c, .int .u8 a, .int .u8 m, .int .u8 k, .bool o], .int .i64 3, .int .u8 x] w fun q_ w' => q_ = .returned (.agg #[.int .u16 R.c, .int .u8 R.a, .int .u8 R.m, .int .u8 R.k, .bool R.o]) ∧ Below w.heap.size w w' := by
  suffices hall : ∀ (n_ : Nat) (W0 : World), n_ ≤ W0.heap.size → Below n_ W0 w → Calls Tryd.prog 13 #[.agg #[.int .u16 c, .int .u8 a, .int .u8 m, .int .u8 k, .bool o], .int .i64 3, .int .u8 x] w fun q_ w' => q_ = .returned (.agg #[.int .u16 R.c, .int .u8 R.a, .int .u8 R.m, .int .u8 R.k, .bool R.o]) ∧ Below n_ W0 w' from hall _ _ (Nat.le_refl _) (Below.refl _ _)
  intro n_ W0 hn hB
  have HN := Lib.hid hn
  have BB := Lib.hid hB
  clear hn hB
  have H1 := Lib.hid C1
  have H2 := Lib.hid C2
  clear C1 C2
  go_enter Tryd.func13, Tryd.ntmps13
  have Q_ := own2 w (.cells #[.int .u16 c, .int .u8 a, .int .u8 m, .int .u8 k, .bool o] 24) (.cells #[.int .u16 0, .int .u8 0, .int .u8 0, .int .u8 0, .bool false] 24)
  have B0 := Lib.hid (vian HN.out BB.out Q_)
  have P0 := Lib.hid ((Has.new w #[.int .u16 c, .int .u8 a, .int .u8 m, .int .u8 k, .bool o] 24).alloc (.cells #[.int .u16 0, .int .u8 0, .int .u8 0, .int .u8 0, .bool false] 24))
  have R0 := Lib.hid (show Has ((w.alloc (.cells #[.int .u16 c, .int .u8 a, .int .u8 m, .int .u8 k, .bool o] 24)).alloc (.cells #[.int .u16 0, .int .u8 0, .int .u8 0, .int .u8 0, .bool false] 24)) (w.heap.size + 1) #[.int .u16 0, .int .u8 0, .int .u8 0, .int .u8 0, .bool false] by simpa using Has.new (w.alloc (.cells #[.int .u16 c, .int .u8 a, .int .u8 m, .int .u8 k, .bool o] 24)) #[.int .u16 0, .int .u8 0, .int .u8 0, .int .u8 0, .bool false] 24)
  have LP := Lib.hid (Nat.le_trans HN.out BB.out.size)
  have LR := Lib.hid (show n_ ≤ w.heap.size + 1 from Nat.le_succ_of_le (Nat.le_trans HN.out BB.out.size))
  have NE := Lib.hid (show w.heap.size ≠ w.heap.size + 1 by omega)
  clear Q_
  go_upto_region 1 with (fail)
  generalize (w.alloc (.cells #[.int .u16 c, .int .u8 a, .int .u8 m, .int .u8 k, .bool o] 24)).alloc (.cells #[.int .u16 0, .int .u8 0, .int .u8 0, .int .u8 0, .bool false] 24) = w0 at B0 P0 R0 ⊢
  generalize w.heap.size + 1 = rb at R0 LR NE ⊢
  generalize w.heap.size = pb at P0 LP NE ⊢
  obtain ⟨hc, hf⟩ := P0.out.out
  go_wp2_with fail
  clear hc hf
  with_reducible refine (H1.out _).mono ?_
  rintro q_ w1 ⟨rfl, hb⟩
  have B1 := Lib.hid (vian HN.out B0.out hb)
  have P1 := Lib.hid (P0.out.below hb)
  have R1 := Lib.hid (R0.out.below hb)
  clear hb B0 P0 R0
  have P2 := Lib.hid (show Has (w1.setCell ⟨pb, 3, none⟩ (.int .u8 y)) pb #[.int .u16 c, .int .u8 a, .int .u8 m, .int .u8 y, .bool o] by simpa using P1.out.set 3 (.int .u8 y) (by simp))
  have R2 := Lib.hid (R1.out.far ⟨pb, 3, none⟩ (.int .u8 y) NE.out)
  have B2 := Lib.hid (store1 B1.out LP.out 3 (.int .u8 y))
  obtain ⟨hc, hf⟩ := P1.out.out
  go_upto_region 13 with (fail)
  generalize w1.setCell ⟨pb, 3, none⟩ (.int .u8 y) = w2 at P2 R2 B2 ⊢
  clear P1 R1 B1
  clear hc hf
  obtain ⟨hc, hf⟩ := P2.out.out
  go_wp2_with fail
  clear hc hf
  with_reducible refine (H2.out _).mono ?_
  rintro q_ w3 ⟨rfl, hb⟩
  have B3 := Lib.hid (vian HN.out B2.out hb)
  have P3 := Lib.hid (P2.out.below hb)
  have R3 := Lib.hid (R2.out.below hb)
  clear hb B2 P2 R2
  obtain ⟨hc, hf⟩ := R3.out.out
  go_wp2
  refine bodyPost_ret (v := .agg #[.int .u16 R.c, .int .u8 R.a, .int .u8 R.m, .int .u8 R.k, .bool R.o]) ?_ rfl ⟨rfl, ?_⟩
  · simp [results, Tryd.results13, go_sem, hc]
  · exact set5 B3.out rb LR.out _ _ _ _ _
set_option maxHeartbeats 2000000 in
theorem rw_4 (c a m k : Int) (o : Bool) (s : Bool) (R : TV) (n : Int) (g0 : ¬ n = 0) (g1 : ¬ n = 1) (g2 : ¬ n = 2) (g3 : ¬ n = 3) (x : Int) (hx0 : 0 ≤ x) (hx1 : x < 256) (C1 : ∀ W, Calls Tryd.prog 16 #[.agg #[.int .u16 c, .int .u8 a, .int .u8 m, .int .u8 k, .bool o]] W fun q_ w' => q_ = .returned (.bool s) ∧ Below W.heap.size W w') (w : World) : Calls Tryd.prog 13 #[.agg #[.int .u16 c, .int .u8 a, .int .u8 m, .int .u8 k, .bool o], .int .i64 n, .int .u8 x] w fun q_ w' => q_ = .returned (.agg #[.int .u16 c, .int .u8 a, .int .u8 m, .int .u8 k, .bool o]) ∧ Below w.heap.size w w' := by
  suffices hall : ∀ (n_ : Nat) (W0 : World), n_ ≤ W0.heap.size → Below n_ W0 w → Calls Tryd.prog 13 #[.agg #[.int .u16 c, .int .u8 a, .int .u8 m, .int .u8 k, .bool o], .int .i64 n, .int .u8 x] w fun q_ w' => q_ = .returned (.agg #[.int .u16 c, .int .u8 a, .int .u8 m, .int .u8 k, .bool o]) ∧ Below n_ W0 w' from hall _ _ (Nat.le_refl _) (Below.refl _ _)
  intro n_ W0 hn hB
  have HN := Lib.hid hn
  have BB := Lib.hid hB
  clear hn hB
  have H1 := Lib.hid C1
  clear C1
  go_enter Tryd.func13, Tryd.ntmps13
  have Q_ := own2 w (.cells #[.int .u16 c, .int .u8 a, .int .u8 m, .int .u8 k, .bool o] 24) (.cells #[.int .u16 0, .int .u8 0, .int .u8 0, .int .u8 0, .bool false] 24)
  have B0 := Lib.hid (vian HN.out BB.out Q_)
  have P0 := Lib.hid ((Has.new w #[.int .u16 c, .int .u8 a, .int .u8 m, .int .u8 k, .bool o] 24).alloc (.cells #[.int .u16 0, .int .u8 0, .int .u8 0, .int .u8 0, .bool false] 24))
  have R0 := Lib.hid (show Has ((w.alloc (.cells #[.int .u16 c, .int .u8 a, .int .u8 m, .int .u8 k, .bool o] 24)).alloc (.cells #[.int .u16 0, .int .u8 0, .int .u8 0, .int .u8 0, .bool false] 24)) (w.heap.size + 1) #[.int .u16 0, .int .u8 0, .int .u8 0, .int .u8 0, .bool false] by simpa using Has.new (w.alloc (.cells #[.int .u16 c, .int .u8 a, .int .u8 m, .int .u8 k, .bool o] 24)) #[.int .u16 0, .int .u8 0, .int .u8 0, .int .u8 0, .bool false] 24)
  have LP := Lib.hid (Nat.le_trans HN.out BB.out.size)
  have LR := Lib.hid (show n_ ≤ w.heap.size + 1 from Nat.le_succ_of_le (Nat.le_trans HN.out BB.out.size))
  have NE := Lib.hid (show w.heap.size ≠ w.heap.size + 1 by omega)
  clear Q_
  go_upto_region 1 with (fail)
  generalize (w.alloc (.cells #[.int .u16 c, .int .u8 a, .int .u8 m, .int .u8 k, .bool o] 24)).alloc (.cells #[.int .u16 0, .int .u8 0, .int .u8 0, .int .u8 0, .bool false] 24) = w0 at B0 P0 R0 ⊢
  generalize w.heap.size + 1 = rb at R0 LR NE ⊢
  generalize w.heap.size = pb at P0 LP NE ⊢
  obtain ⟨hc, hf⟩ := P0.out.out
  go_wp2_with fail
  clear hc hf
  with_reducible refine (H1.out _).mono ?_
  rintro q_ w1 ⟨rfl, hb⟩
  have B1 := Lib.hid (vian HN.out B0.out hb)
  have P1 := Lib.hid (P0.out.below hb)
  have R1 := Lib.hid (R0.out.below hb)
  clear hb B0 P0 R0
  obtain ⟨hp, hpf⟩ := P1.out.out
  obtain ⟨hc, hf⟩ := R1.out.out
  go_wp2
  refine bodyPost_ret (v := .agg #[.int .u16 c, .int .u8 a, .int .u8 m, .int .u8 k, .bool o]) ?_ rfl ⟨rfl, ?_⟩
  · simp [results, Tryd.results13, go_sem, hc]
  · exact set5 B1.out rb LR.out _ _ _ _ _
theorem rw_c (v R : TV) (n x : Int) (hv : v.ok) (hx0 : 0 ≤ x) (hx1 : x < 256) (hR : wrV v n x = R) (w : World) : Calls Tryd.prog 13 #[.agg #[.int .u16 v.c, .int .u8 v.a, .int .u8 v.m, .int .u8 v.k, .bool v.o], .int .i64 n, .int .u8 x] w fun q_ w' => q_ = .returned (.agg #[.int .u16 R.c, .int .u8 R.a, .int .u8 R.m, .int .u8 R.k, .bool R.o]) ∧ Below w.heap.size w w' := by
  have hv' := hv
  obtain ⟨c, a, m, k, o⟩ := v
  obtain ⟨⟨h1, h2⟩, ⟨h3, h4⟩, ⟨h5, h6⟩, h7, h8⟩ := hv
  unfold wrV at hR
  dsimp only at h1 h2 h3 h4 h5 h6 h7 h8 hR ⊢
  have S := fun W => rs_c c a m k o _ h1 h2 h7 h8 rfl W
  by_cases g0 : n = 0
  · rw [if_pos g0] at hR; subst g0
    exact rw_0 c a m k o _ R x hx0 hx1 S (fun W => rf_c ⟨0, a, m, k, o⟩ R _ ⟨by dsimp only; omega, ⟨h3, h4⟩, ⟨h5, h6⟩, h7, h8⟩ hR W) w
  rw [if_neg g0] at hR
  by_cases g1 : n = 1
  · rw [if_pos g1] at hR; subst g1; subst hR
    exact rw_1 c a m k o _ ⟨0, 0, 0, 0, false⟩ x hx0 hx1 S w
  rw [if_neg g1] at hR
  by_cases g2 : n = 2
  · rw [if_pos g2] at hR; subst g2; subst hR
    exact rw_2 c a m k o _ ⟨0, 0, 0, 0, false⟩ x hx0 hx1 S w
  rw [if_neg g2] at hR
  by_cases g3 : n = 3
  · rw [if_pos g3] at hR; subst g3
    exact rw_3 c a m k o _ R x hx0 hx1 _ rfl S (fun W => rf_c ⟨c, a, m, x % 8, o⟩ R _ ⟨⟨h1, h2⟩, ⟨h3, h4⟩, ⟨h5, h6⟩, by dsimp only; omega⟩ hR W) w
  rw [if_neg g3] at hR
  subst hR
  exact rw_4 c a m k o _ ⟨0, 0, 0, 0, false⟩ n g0 g1 g2 g3 x hx0 hx1 S w
end Go.Proofs.YtjjmnjkmfkcdoaaDoor
