/-
  The program's Tick and Write: for every timer; no condition but that each number fits, and that the table lies as it is laid.
-/
import Derived.Test.YtjjmnjkmfkcdoaaDoorCc
import Derived.Deep.Cut
namespace Go.Proofs.YtjjmnjkmfkcdoaaDoor
open Go.ChangeShapes Go.WideShapes Go.ChangeAt Go.RowKit
set_option linter.unusedVariables false
set_option linter.unusedSimpArgs false
set_option maxRecDepth 100000
theorem Clo.far {w : World} {bb qb pb : Nat} {s : Bool} (h : Clo w bb qb pb s) (h1 : bb ≠ pb) (h2 : qb ≠ pb) (o : Nat) (v : Value) : Clo (w.setCell ⟨pb, o, none⟩ v) bb qb pb s :=
  ⟨h.1.far ⟨pb, o, none⟩ v (fun e => h1 e.symm), h.2.far ⟨pb, o, none⟩ v (fun e => h2 e.symm)⟩
set_option maxHeartbeats 2000000 in
theorem pt_0 (c a m k : Int) (s : Bool) (R : TV) (z : Int) (hc0 : 0 ≤ c) (hc1 : c < 65536) (hz : (c + 4) % 65536 = z) (hok : TV.ok ⟨z, a, m, k, false⟩) (hR : fallV s ⟨z, a, m, k, false⟩ = R) (C1_ : ∀ pb W, Has W pb #[.int .u16 c, .int .u8 a, .int .u8 m, .int .u8 k, .bool false] → Glob W → Calls Tryd.prog 17 #[.pointer (some ⟨pb, 0, none⟩)] W (Made W pb s)) (w : World) (hglob : Glob w) : Calls Tryd.prog 10 #[.agg #[.int .u16 c, .int .u8 a, .int .u8 m, .int .u8 k, .bool false]] w fun q_ w' => q_ = .returned (.tuple #[.agg #[.int .u16 R.c, .int .u8 R.a, .int .u8 R.m, .int .u8 R.k, .bool R.o], .bool false]) ∧ Below w.heap.size w w' := by
  suffices hall : ∀ (n_ : Nat) (W0 : World), n_ ≤ W0.heap.size → Below n_ W0 w → Tab n_ W0 → Calls Tryd.prog 10 #[.agg #[.int .u16 c, .int .u8 a, .int .u8 m, .int .u8 k, .bool false]] w fun q_ w' => q_ = .returned (.tuple #[.agg #[.int .u16 R.c, .int .u8 R.a, .int .u8 R.m, .int .u8 R.k, .bool R.o], .bool false]) ∧ Below n_ W0 w' from hall _ _ (Nat.le_refl _) (Below.refl _ _) ⟨hglob.1, hglob⟩
  intro n_ W0 hn hB hT
  have HN := Lib.hid hn
  have BB := Lib.hid hB
  have TT := Lib.hid hT
  clear hn hB hT hglob
  have wz : IntKind.u16.wrap (c + 4) = z := by rw [IntKind.wrap_u16]; exact hz
  have z0 : 0 ≤ z ∧ z < 65536 := by omega
  have z1 := z0.1
  have z2 := z0.2
  clear z0
  have C1 := Lib.hid C1_
  have OKV := Lib.hid hok
  have HR := Lib.hid hR
  clear C1_ hok hR
  go_enter Tryd.func10, Tryd.ntmps10
  have Q_ := own2 w (.cells #[.int .u16 c, .int .u8 a, .int .u8 m, .int .u8 k, .bool false] 27) (.cells #[.int .u16 0, .int .u8 0, .int .u8 0, .int .u8 0, .bool false] 27)
  have B0 := Lib.hid (vian HN.out BB.out Q_)
  have P0 := Lib.hid ((Has.new w #[.int .u16 c, .int .u8 a, .int .u8 m, .int .u8 k, .bool false] 27).alloc (.cells #[.int .u16 0, .int .u8 0, .int .u8 0, .int .u8 0, .bool false] 27))
  have R0 := Lib.hid (show Has ((w.alloc (.cells #[.int .u16 c, .int .u8 a, .int .u8 m, .int .u8 k, .bool false] 27)).alloc (.cells #[.int .u16 0, .int .u8 0, .int .u8 0, .int .u8 0, .bool false] 27)) (w.heap.size + 1) #[.int .u16 0, .int .u8 0, .int .u8 0, .int .u8 0, .bool false] by simpa using Has.new (w.alloc (.cells #[.int .u16 c, .int .u8 a, .int .u8 m, .int .u8 k, .bool false] 27)) #[.int .u16 0, .int .u8 0, .int .u8 0, .int .u8 0, .bool false] 27)
  have LP := Lib.hid (Nat.le_trans HN.out BB.out.size)
  have LR := Lib.hid (show n_ ≤ w.heap.size + 1 from Nat.le_succ_of_le (Nat.le_trans HN.out BB.out.size))
  have NE := Lib.hid (show w.heap.size ≠ w.heap.size + 1 by omega)
  clear Q_
  go_upto_region 1 with (fail)
  generalize (w.alloc (.cells #[.int .u16 c, .int .u8 a, .int .u8 m, .int .u8 k, .bool false] 27)).alloc (.cells #[.int .u16 0, .int .u8 0, .int .u8 0, .int .u8 0, .bool false] 27) = w0 at B0 P0 R0 ⊢
  generalize w.heap.size + 1 = rb at R0 LR NE ⊢
  generalize w.heap.size = pb at P0 LP NE ⊢
  obtain ⟨hc, hf⟩ := P0.out.out
  go_wp2_with fail
  clear hc hf
  with_reducible refine (C1.out pb _ P0.out (TT.out.next B0.out).g).mono ?_
  rintro q_ w1 ⟨bb, qb, rfl, hK, hlb, hlq, hb⟩
  have NB := Lib.hid (show bb ≠ pb from fun e => absurd P0.out.1 (Nat.not_lt.2 (e ▸ hlb)))
  have NQ := Lib.hid (show qb ≠ pb from fun e => absurd P0.out.1 (Nat.not_lt.2 (e ▸ hlq)))
  have K1 := Lib.hid hK
  have B1 := Lib.hid (vian HN.out B0.out hb)
  have P1 := Lib.hid (P0.out.below hb)
  have R1 := Lib.hid (R0.out.below hb)
  clear hb hK hlb hlq B0 P0 R0
  have P2 := Lib.hid (show Has (w1.setCell ⟨pb, 0, none⟩ (.int .u16 z)) pb #[.int .u16 z, .int .u8 a, .int .u8 m, .int .u8 k, .bool false] by simpa using P1.out.set 0 (.int .u16 z) (by simp))
  have R2 := Lib.hid (R1.out.far ⟨pb, 0, none⟩ (.int .u16 z) NE.out)
  have B2 := Lib.hid (store1 B1.out LP.out 0 (.int .u16 z))
  have K2 := Lib.hid (K1.out.far NB.out NQ.out 0 (.int .u16 z))
  obtain ⟨hc, hf⟩ := P1.out.out
  go_upto_region 7 with (fail)
  generalize w1.setCell ⟨pb, 0, none⟩ (.int .u16 z) = w2 at P2 R2 B2 K2 ⊢
  clear P1 R1 B1 K1
  clear hc hf
  go_wp2_with fail
  have CC := clo_c ⟨z, a, m, k, false⟩ R s OKV.out HR.out bb qb pb n_ W0 _ HN.out TT.out B2.out LP.out NB.out NQ.out P2.out K2.out
  refine CC.mono ?_
  clear CC
  rintro q_ w3 ⟨rfl, hP', hB', hO⟩
  have P3 := Lib.hid hP'
  have B3 := Lib.hid hB'
  have R3 := Lib.hid (hO rb _ NE.out.symm R2.out)
  clear hP' hB' hO P2 B2 R2 K2
  obtain ⟨hp, hpf⟩ := P3.out.out
  obtain ⟨hc, hf⟩ := R3.out.out
  go_wp2
  refine bodyPost_ret (v := .tuple #[.agg #[.int .u16 R.c, .int .u8 R.a, .int .u8 R.m, .int .u8 R.k, .bool R.o], .bool false]) ?_ rfl ⟨rfl, ?_⟩
  · simp [results, Tryd.results10, go_sem, hc]
  · exact set5 B3.out rb LR.out _ _ _ _ _
set_option maxHeartbeats 2000000 in
theorem pt_1 (c a m k : Int) (s : Bool) (R : TV) (z : Int) (hc0 : 0 ≤ c) (hc1 : c < 65536) (hz : (c + 4) % 65536 = z) (hok : TV.ok ⟨z, m, m, k, false⟩) (hR : fallV s ⟨z, m, m, k, false⟩ = R) (C1_ : ∀ pb W, Has W pb #[.int .u16 c, .int .u8 m, .int .u8 m, .int .u8 k, .bool false] → Glob W → Calls Tryd.prog 17 #[.pointer (some ⟨pb, 0, none⟩)] W (Made W pb s)) (w : World) (hglob : Glob w) : Calls Tryd.prog 10 #[.agg #[.int .u16 c, .int .u8 a, .int .u8 m, .int .u8 k, .bool true]] w fun q_ w' => q_ = .returned (.tuple #[.agg #[.int .u16 R.c, .int .u8 R.a, .int .u8 R.m, .int .u8 R.k, .bool R.o], .bool true]) ∧ Below w.heap.size w w' := by
  suffices hall : ∀ (n_ : Nat) (W0 : World), n_ ≤ W0.heap.size → Below n_ W0 w → Tab n_ W0 → Calls Tryd.prog 10 #[.agg #[.int .u16 c, .int .u8 a, .int .u8 m, .int .u8 k, .bool true]] w fun q_ w' => q_ = .returned (.tuple #[.agg #[.int .u16 R.c, .int .u8 R.a, .int .u8 R.m, .int .u8 R.k, .bool R.o], .bool true]) ∧ Below n_ W0 w' from hall _ _ (Nat.le_refl _) (Below.refl _ _) ⟨hglob.1, hglob⟩
  intro n_ W0 hn hB hT
  have HN := Lib.hid hn
  have BB := Lib.hid hB
  have TT := Lib.hid hT
  clear hn hB hT hglob
  have wz : IntKind.u16.wrap (c + 4) = z := by rw [IntKind.wrap_u16]; exact hz
  have z0 : 0 ≤ z ∧ z < 65536 := by omega
  have z1 := z0.1
  have z2 := z0.2
  clear z0
  have C1 := Lib.hid C1_
  have OKV := Lib.hid hok
  have HR := Lib.hid hR
  clear C1_ hok hR
  go_enter Tryd.func10, Tryd.ntmps10
  have Q_ := own2 w (.cells #[.int .u16 c, .int .u8 a, .int .u8 m, .int .u8 k, .bool true] 27) (.cells #[.int .u16 0, .int .u8 0, .int .u8 0, .int .u8 0, .bool false] 27)
  have B0 := Lib.hid (vian HN.out BB.out Q_)
  have P0 := Lib.hid ((Has.new w #[.int .u16 c, .int .u8 a, .int .u8 m, .int .u8 k, .bool true] 27).alloc (.cells #[.int .u16 0, .int .u8 0, .int .u8 0, .int .u8 0, .bool false] 27))
  have R0 := Lib.hid (show Has ((w.alloc (.cells #[.int .u16 c, .int .u8 a, .int .u8 m, .int .u8 k, .bool true] 27)).alloc (.cells #[.int .u16 0, .int .u8 0, .int .u8 0, .int .u8 0, .bool false] 27)) (w.heap.size + 1) #[.int .u16 0, .int .u8 0, .int .u8 0, .int .u8 0, .bool false] by simpa using Has.new (w.alloc (.cells #[.int .u16 c, .int .u8 a, .int .u8 m, .int .u8 k, .bool true] 27)) #[.int .u16 0, .int .u8 0, .int .u8 0, .int .u8 0, .bool false] 27)
  have LP := Lib.hid (Nat.le_trans HN.out BB.out.size)
  have LR := Lib.hid (show n_ ≤ w.heap.size + 1 from Nat.le_succ_of_le (Nat.le_trans HN.out BB.out.size))
  have NE := Lib.hid (show w.heap.size ≠ w.heap.size + 1 by omega)
  clear Q_
  go_upto_region 1 with (fail)
  generalize (w.alloc (.cells #[.int .u16 c, .int .u8 a, .int .u8 m, .int .u8 k, .bool true] 27)).alloc (.cells #[.int .u16 0, .int .u8 0, .int .u8 0, .int .u8 0, .bool false] 27) = w0 at B0 P0 R0 ⊢
  generalize w.heap.size + 1 = rb at R0 LR NE ⊢
  generalize w.heap.size = pb at P0 LP NE ⊢
  have P1 := Lib.hid (show Has (w0.setCell ⟨pb, 1, none⟩ (.int .u8 m)) pb #[.int .u16 c, .int .u8 m, .int .u8 m, .int .u8 k, .bool true] by simpa using P0.out.set 1 (.int .u8 m) (by simp))
  have R1 := Lib.hid (R0.out.far ⟨pb, 1, none⟩ (.int .u8 m) NE.out)
  have B1 := Lib.hid (store1 B0.out LP.out 1 (.int .u8 m))
  have P2 := Lib.hid (show Has ((w0.setCell ⟨pb, 1, none⟩ (.int .u8 m)).setCell ⟨pb, 4, none⟩ (.bool false)) pb #[.int .u16 c, .int .u8 m, .int .u8 m, .int .u8 k, .bool false] by simpa using P1.out.set 4 (.bool false) (by simp))
  have R2 := Lib.hid (R1.out.far ⟨pb, 4, none⟩ (.bool false) NE.out)
  have B2 := Lib.hid (store1 B1.out LP.out 4 (.bool false))
  obtain ⟨hc, hf⟩ := P0.out.out
  go_upto_region 5 with (fail)
  generalize (w0.setCell ⟨pb, 1, none⟩ (.int .u8 m)).setCell ⟨pb, 4, none⟩ (.bool false) = w2 at P2 R2 B2 ⊢
  clear P0 R0 B0 P1 R1 B1
  clear hc hf
  obtain ⟨hc, hf⟩ := P2.out.out
  go_wp2_with fail
  clear hc hf
  with_reducible refine (C1.out pb _ P2.out (TT.out.next B2.out).g).mono ?_
  rintro q_ w3 ⟨bb, qb, rfl, hK, hlb, hlq, hb⟩
  have NB := Lib.hid (show bb ≠ pb from fun e => absurd P2.out.1 (Nat.not_lt.2 (e ▸ hlb)))
  have NQ := Lib.hid (show qb ≠ pb from fun e => absurd P2.out.1 (Nat.not_lt.2 (e ▸ hlq)))
  have K3 := Lib.hid hK
  have B3 := Lib.hid (vian HN.out B2.out hb)
  have P3 := Lib.hid (P2.out.below hb)
  have R3 := Lib.hid (R2.out.below hb)
  clear hb hK hlb hlq B2 P2 R2
  have P4 := Lib.hid (show Has (w3.setCell ⟨pb, 0, none⟩ (.int .u16 z)) pb #[.int .u16 z, .int .u8 m, .int .u8 m, .int .u8 k, .bool false] by simpa using P3.out.set 0 (.int .u16 z) (by simp))
  have R4 := Lib.hid (R3.out.far ⟨pb, 0, none⟩ (.int .u16 z) NE.out)
  have B4 := Lib.hid (store1 B3.out LP.out 0 (.int .u16 z))
  have K4 := Lib.hid (K3.out.far NB.out NQ.out 0 (.int .u16 z))
  obtain ⟨hc, hf⟩ := P3.out.out
  go_upto_region 7 with (fail)
  generalize w3.setCell ⟨pb, 0, none⟩ (.int .u16 z) = w4 at P4 R4 B4 K4 ⊢
  clear P3 R3 B3 K3
  clear hc hf
  go_wp2_with fail
  have CC := clo_c ⟨z, m, m, k, false⟩ R s OKV.out HR.out bb qb pb n_ W0 _ HN.out TT.out B4.out LP.out NB.out NQ.out P4.out K4.out
  refine CC.mono ?_
  clear CC
  rintro q_ w5 ⟨rfl, hP', hB', hO⟩
  have P5 := Lib.hid hP'
  have B5 := Lib.hid hB'
  have R5 := Lib.hid (hO rb _ NE.out.symm R4.out)
  clear hP' hB' hO P4 B4 R4 K4
  obtain ⟨hp, hpf⟩ := P5.out.out
  obtain ⟨hc, hf⟩ := R5.out.out
  go_wp2
  refine bodyPost_ret (v := .tuple #[.agg #[.int .u16 R.c, .int .u8 R.a, .int .u8 R.m, .int .u8 R.k, .bool R.o], .bool true]) ?_ rfl ⟨rfl, ?_⟩
  · simp [results, Tryd.results10, go_sem, hc]
  · exact set5 B5.out rb LR.out _ _ _ _ _
theorem pt_c (v R : TV) (hv : v.ok) (hR : tickV v = R) (w : World) (hG : Glob w) : Calls Tryd.prog 10 #[.agg #[.int .u16 v.c, .int .u8 v.a, .int .u8 v.m, .int .u8 v.k, .bool v.o]] w fun q_ w' => q_ = .returned (.tuple #[.agg #[.int .u16 R.c, .int .u8 R.a, .int .u8 R.m, .int .u8 R.k, .bool R.o], .bool v.o]) ∧ Below w.heap.size w w' := by
  obtain ⟨c, a, m, k, o⟩ := v
  obtain ⟨⟨h1, h2⟩, ⟨h3, h4⟩, ⟨h5, h6⟩, h7, h8⟩ := hv
  unfold tickV at hR
  dsimp only at h1 h2 h3 h4 h5 h6 h7 h8 hR ⊢
  cases o with
  | false => exact pt_0 c a m k (sigV c k) R _ h1 h2 rfl ⟨by dsimp only; omega, ⟨h3, h4⟩, ⟨h5, h6⟩, h7, h8⟩ hR (fun pb W h1' h2' => made_c c a m k false pb _ h1 h2 h7 h8 rfl W h1' h2') w hG
  | true => exact pt_1 c a m k (sigV c k) R _ h1 h2 rfl ⟨by dsimp only; omega, ⟨h5, h6⟩, ⟨h5, h6⟩, h7, h8⟩ hR (fun pb W h1' h2' => made_c c m m k false pb _ h1 h2 h7 h8 rfl W h1' h2') w hG
set_option maxHeartbeats 2000000 in
theorem pw_0 (c a m k : Int) (o : Bool) (s : Bool) (R : TV) (x : Int) (hx0 : 0 ≤ x) (hx1 : x < 256) (hok : TV.ok ⟨0, a, m, k, o⟩) (hR : fallV s ⟨0, a, m, k, o⟩ = R) (C1_ : ∀ pb W, Has W pb #[.int .u16 c, .int .u8 a, .int .u8 m, .int .u8 k, .bool o] → Glob W → Calls Tryd.prog 17 #[.pointer (some ⟨pb, 0, none⟩)] W (Made W pb s)) (w : World) (hglob : Glob w) : Calls Tryd.prog 12 #[.agg #[.int .u16 c, .int .u8 a, .int .u8 m, .int .u8 k, .bool o], .int .i64 0, .int .u8 x] w fun q_ w' => q_ = .returned (.agg #[.int .u16 R.c, .int .u8 R.a, .int .u8 R.m, .int .u8 R.k, .bool R.o]) ∧ Below w.heap.size w w' := by
  suffices hall : ∀ (n_ : Nat) (W0 : World), n_ ≤ W0.heap.size → Below n_ W0 w → Tab n_ W0 → Calls Tryd.prog 12 #[.agg #[.int .u16 c, .int .u8 a, .int .u8 m, .int .u8 k, .bool o], .int .i64 0, .int .u8 x] w fun q_ w' => q_ = .returned (.agg #[.int .u16 R.c, .int .u8 R.a, .int .u8 R.m, .int .u8 R.k, .bool R.o]) ∧ Below n_ W0 w' from hall _ _ (Nat.le_refl _) (Below.refl _ _) ⟨hglob.1, hglob⟩
  intro n_ W0 hn hB hT
  have HN := Lib.hid hn
  have BB := Lib.hid hB
  have TT := Lib.hid hT
  clear hn hB hT hglob
  have C1 := Lib.hid C1_
  have OKV := Lib.hid hok
  have HR := Lib.hid hR
  clear C1_ hok hR
  go_enter Tryd.func12, Tryd.ntmps12
  have Q_ := own2 w (.cells #[.int .u16 c, .int .u8 a, .int .u8 m, .int .u8 k, .bool o] 27) (.cells #[.int .u16 0, .int .u8 0, .int .u8 0, .int .u8 0, .bool false] 27)
  have B0 := Lib.hid (vian HN.out BB.out Q_)
  have P0 := Lib.hid ((Has.new w #[.int .u16 c, .int .u8 a, .int .u8 m, .int .u8 k, .bool o] 27).alloc (.cells #[.int .u16 0, .int .u8 0, .int .u8 0, .int .u8 0, .bool false] 27))
  have R0 := Lib.hid (show Has ((w.alloc (.cells #[.int .u16 c, .int .u8 a, .int .u8 m, .int .u8 k, .bool o] 27)).alloc (.cells #[.int .u16 0, .int .u8 0, .int .u8 0, .int .u8 0, .bool false] 27)) (w.heap.size + 1) #[.int .u16 0, .int .u8 0, .int .u8 0, .int .u8 0, .bool false] by simpa using Has.new (w.alloc (.cells #[.int .u16 c, .int .u8 a, .int .u8 m, .int .u8 k, .bool o] 27)) #[.int .u16 0, .int .u8 0, .int .u8 0, .int .u8 0, .bool false] 27)
  have LP := Lib.hid (Nat.le_trans HN.out BB.out.size)
  have LR := Lib.hid (show n_ ≤ w.heap.size + 1 from Nat.le_succ_of_le (Nat.le_trans HN.out BB.out.size))
  have NE := Lib.hid (show w.heap.size ≠ w.heap.size + 1 by omega)
  clear Q_
  go_upto_region 1 with (fail)
  generalize (w.alloc (.cells #[.int .u16 c, .int .u8 a, .int .u8 m, .int .u8 k, .bool o] 27)).alloc (.cells #[.int .u16 0, .int .u8 0, .int .u8 0, .int .u8 0, .bool false] 27) = w0 at B0 P0 R0 ⊢
  generalize w.heap.size + 1 = rb at R0 LR NE ⊢
  generalize w.heap.size = pb at P0 LP NE ⊢
  obtain ⟨hc, hf⟩ := P0.out.out
  go_wp2_with fail
  clear hc hf
  with_reducible refine (C1.out pb _ P0.out (TT.out.next B0.out).g).mono ?_
  rintro q_ w1 ⟨bb, qb, rfl, hK, hlb, hlq, hb⟩
  have NB := Lib.hid (show bb ≠ pb from fun e => absurd P0.out.1 (Nat.not_lt.2 (e ▸ hlb)))
  have NQ := Lib.hid (show qb ≠ pb from fun e => absurd P0.out.1 (Nat.not_lt.2 (e ▸ hlq)))
  have K1 := Lib.hid hK
  have B1 := Lib.hid (vian HN.out B0.out hb)
  have P1 := Lib.hid (P0.out.below hb)
  have R1 := Lib.hid (R0.out.below hb)
  clear hb hK hlb hlq B0 P0 R0
  have P2 := Lib.hid (show Has (w1.setCell ⟨pb, 0, none⟩ (.int .u16 0)) pb #[.int .u16 0, .int .u8 a, .int .u8 m, .int .u8 k, .bool o] by simpa using P1.out.set 0 (.int .u16 0) (by simp))
  have R2 := Lib.hid (R1.out.far ⟨pb, 0, none⟩ (.int .u16 0) NE.out)
  have B2 := Lib.hid (store1 B1.out LP.out 0 (.int .u16 0))
  have K2 := Lib.hid (K1.out.far NB.out NQ.out 0 (.int .u16 0))
  obtain ⟨hc, hf⟩ := P1.out.out
  go_upto_region 12 with (fail)
  generalize w1.setCell ⟨pb, 0, none⟩ (.int .u16 0) = w2 at P2 R2 B2 K2 ⊢
  clear P1 R1 B1 K1
  clear hc hf
  go_wp2_with fail
  have CC := clo_c ⟨0, a, m, k, o⟩ R s OKV.out HR.out bb qb pb n_ W0 _ HN.out TT.out B2.out LP.out NB.out NQ.out P2.out K2.out
  refine CC.mono ?_
  clear CC
  rintro q_ w3 ⟨rfl, hP', hB', hO⟩
  have P3 := Lib.hid hP'
  have B3 := Lib.hid hB'
  have R3 := Lib.hid (hO rb _ NE.out.symm R2.out)
  clear hP' hB' hO P2 B2 R2 K2
  obtain ⟨hp, hpf⟩ := P3.out.out
  obtain ⟨hc, hf⟩ := R3.out.out
  go_wp2
  refine bodyPost_ret (v := .agg #[.int .u16 R.c, .int .u8 R.a, .int .u8 R.m, .int .u8 R.k, .bool R.o]) ?_ rfl ⟨rfl, ?_⟩
  · simp [results, Tryd.results12, go_sem, hc]
  · exact set5 B3.out rb LR.out _ _ _ _ _
set_option maxHeartbeats 2000000 in
theorem pw_1 (c a m k : Int) (o : Bool) (s : Bool) (R : TV) (x : Int) (hx0 : 0 ≤ x) (hx1 : x < 256) (hok : TV.ok ⟨c, x, m, k, false⟩) (hR : fallV s ⟨c, x, m, k, false⟩ = R) (C1_ : ∀ pb W, Has W pb #[.int .u16 c, .int .u8 a, .int .u8 m, .int .u8 k, .bool o] → Glob W → Calls Tryd.prog 17 #[.pointer (some ⟨pb, 0, none⟩)] W (Made W pb s)) (w : World) (hglob : Glob w) : Calls Tryd.prog 12 #[.agg #[.int .u16 c, .int .u8 a, .int .u8 m, .int .u8 k, .bool o], .int .i64 1, .int .u8 x] w fun q_ w' => q_ = .returned (.agg #[.int .u16 R.c, .int .u8 R.a, .int .u8 R.m, .int .u8 R.k, .bool R.o]) ∧ Below w.heap.size w w' := by
  suffices hall : ∀ (n_ : Nat) (W0 : World), n_ ≤ W0.heap.size → Below n_ W0 w → Tab n_ W0 → Calls Tryd.prog 12 #[.agg #[.int .u16 c, .int .u8 a, .int .u8 m, .int .u8 k, .bool o], .int .i64 1, .int .u8 x] w fun q_ w' => q_ = .returned (.agg #[.int .u16 R.c, .int .u8 R.a, .int .u8 R.m, .int .u8 R.k, .bool R.o]) ∧ Below n_ W0 w' from hall _ _ (Nat.le_refl _) (Below.refl _ _) ⟨hglob.1, hglob⟩
  intro n_ W0 hn hB hT
  have HN := Lib.hid hn
  have BB := Lib.hid hB
  have TT := Lib.hid hT
  clear hn hB hT hglob
  have C1 := Lib.hid C1_
  have OKV := Lib.hid hok
  have HR := Lib.hid hR
  clear C1_ hok hR
  go_enter Tryd.func12, Tryd.ntmps12
  have Q_ := own2 w (.cells #[.int .u16 c, .int .u8 a, .int .u8 m, .int .u8 k, .bool o] 27) (.cells #[.int .u16 0, .int .u8 0, .int .u8 0, .int .u8 0, .bool false] 27)
  have B0 := Lib.hid (vian HN.out BB.out Q_)
  have P0 := Lib.hid ((Has.new w #[.int .u16 c, .int .u8 a, .int .u8 m, .int .u8 k, .bool o] 27).alloc (.cells #[.int .u16 0, .int .u8 0, .int .u8 0, .int .u8 0, .bool false] 27))
  have R0 := Lib.hid (show Has ((w.alloc (.cells #[.int .u16 c, .int .u8 a, .int .u8 m, .int .u8 k, .bool o] 27)).alloc (.cells #[.int .u16 0, .int .u8 0, .int .u8 0, .int .u8 0, .bool false] 27)) (w.heap.size + 1) #[.int .u16 0, .int .u8 0, .int .u8 0, .int .u8 0, .bool false] by simpa using Has.new (w.alloc (.cells #[.int .u16 c, .int .u8 a, .int .u8 m, .int .u8 k, .bool o] 27)) #[.int .u16 0, .int .u8 0, .int .u8 0, .int .u8 0, .bool false] 27)
  have LP := Lib.hid (Nat.le_trans HN.out BB.out.size)
  have LR := Lib.hid (show n_ ≤ w.heap.size + 1 from Nat.le_succ_of_le (Nat.le_trans HN.out BB.out.size))
  have NE := Lib.hid (show w.heap.size ≠ w.heap.size + 1 by omega)
  clear Q_
  go_upto_region 1 with (fail)
  generalize (w.alloc (.cells #[.int .u16 c, .int .u8 a, .int .u8 m, .int .u8 k, .bool o] 27)).alloc (.cells #[.int .u16 0, .int .u8 0, .int .u8 0, .int .u8 0, .bool false] 27) = w0 at B0 P0 R0 ⊢
  generalize w.heap.size + 1 = rb at R0 LR NE ⊢
  generalize w.heap.size = pb at P0 LP NE ⊢
  obtain ⟨hc, hf⟩ := P0.out.out
  go_wp2_with fail
  clear hc hf
  with_reducible refine (C1.out pb _ P0.out (TT.out.next B0.out).g).mono ?_
  rintro q_ w1 ⟨bb, qb, rfl, hK, hlb, hlq, hb⟩
  have NB := Lib.hid (show bb ≠ pb from fun e => absurd P0.out.1 (Nat.not_lt.2 (e ▸ hlb)))
  have NQ := Lib.hid (show qb ≠ pb from fun e => absurd P0.out.1 (Nat.not_lt.2 (e ▸ hlq)))
  have K1 := Lib.hid hK
  have B1 := Lib.hid (vian HN.out B0.out hb)
  have P1 := Lib.hid (P0.out.below hb)
  have R1 := Lib.hid (R0.out.below hb)
  clear hb hK hlb hlq B0 P0 R0
  have P2 := Lib.hid (show Has (w1.setCell ⟨pb, 1, none⟩ (.int .u8 x)) pb #[.int .u16 c, .int .u8 x, .int .u8 m, .int .u8 k, .bool o] by simpa using P1.out.set 1 (.int .u8 x) (by simp))
  have R2 := Lib.hid (R1.out.far ⟨pb, 1, none⟩ (.int .u8 x) NE.out)
  have B2 := Lib.hid (store1 B1.out LP.out 1 (.int .u8 x))
  have P3 := Lib.hid (show Has ((w1.setCell ⟨pb, 1, none⟩ (.int .u8 x)).setCell ⟨pb, 4, none⟩ (.bool false)) pb #[.int .u16 c, .int .u8 x, .int .u8 m, .int .u8 k, .bool false] by simpa using P2.out.set 4 (.bool false) (by simp))
  have R3 := Lib.hid (R2.out.far ⟨pb, 4, none⟩ (.bool false) NE.out)
  have B3 := Lib.hid (store1 B2.out LP.out 4 (.bool false))
  have K2 := Lib.hid (K1.out.far NB.out NQ.out 1 (.int .u8 x))
  have K3 := Lib.hid (K2.out.far NB.out NQ.out 4 (.bool false))
  obtain ⟨hc, hf⟩ := P1.out.out
  go_upto_region 12 with (fail)
  generalize (w1.setCell ⟨pb, 1, none⟩ (.int .u8 x)).setCell ⟨pb, 4, none⟩ (.bool false) = w3 at P3 R3 B3 K3 ⊢
  clear P1 R1 B1 K1 P2 R2 B2 K2 hc hf
  go_wp2_with fail
  have CC := clo_c ⟨c, x, m, k, false⟩ R s OKV.out HR.out bb qb pb n_ W0 _ HN.out TT.out B3.out LP.out NB.out NQ.out P3.out K3.out
  refine CC.mono ?_
  clear CC
  rintro q_ w4 ⟨rfl, hP', hB', hO⟩
  have P4 := Lib.hid hP'
  have B4 := Lib.hid hB'
  have R4 := Lib.hid (hO rb _ NE.out.symm R3.out)
  clear hP' hB' hO P3 B3 R3 K3
  obtain ⟨hp, hpf⟩ := P4.out.out
  obtain ⟨hc, hf⟩ := R4.out.out
  go_wp2
  refine bodyPost_ret (v := .agg #[.int .u16 R.c, .int .u8 R.a, .int .u8 R.m, .int .u8 R.k, .bool R.o]) ?_ rfl ⟨rfl, ?_⟩
  · simp [results, Tryd.results12, go_sem, hc]
  · exact set5 B4.out rb LR.out _ _ _ _ _
set_option maxHeartbeats 2000000 in
theorem pw_2 (c a m k : Int) (o : Bool) (s : Bool) (R : TV) (x : Int) (hx0 : 0 ≤ x) (hx1 : x < 256) (hok : TV.ok ⟨c, a, x, k, o⟩) (hR : fallV s ⟨c, a, x, k, o⟩ = R) (C1_ : ∀ pb W, Has W pb #[.int .u16 c, .int .u8 a, .int .u8 m, .int .u8 k, .bool o] → Glob W → Calls Tryd.prog 17 #[.pointer (some ⟨pb, 0, none⟩)] W (Made W pb s)) (w : World) (hglob : Glob w) : Calls Tryd.prog 12 #[.agg #[.int .u16 c, .int .u8 a, .int .u8 m, .int .u8 k, .bool o], .int .i64 2, .int .u8 x] w fun q_ w' => q_ = .returned (.agg #[.int .u16 R.c, .int .u8 R.a, .int .u8 R.m, .int .u8 R.k, .bool R.o]) ∧ Below w.heap.size w w' := by
  suffices hall : ∀ (n_ : Nat) (W0 : World), n_ ≤ W0.heap.size → Below n_ W0 w → Tab n_ W0 → Calls Tryd.prog 12 #[.agg #[.int .u16 c, .int .u8 a, .int .u8 m, .int .u8 k, .bool o], .int .i64 2, .int .u8 x] w fun q_ w' => q_ = .returned (.agg #[.int .u16 R.c, .int .u8 R.a, .int .u8 R.m, .int .u8 R.k, .bool R.o]) ∧ Below n_ W0 w' from hall _ _ (Nat.le_refl _) (Below.refl _ _) ⟨hglob.1, hglob⟩
  intro n_ W0 hn hB hT
  have HN := Lib.hid hn
  have BB := Lib.hid hB
  have TT := Lib.hid hT
  clear hn hB hT hglob
  have C1 := Lib.hid C1_
  have OKV := Lib.hid hok
  have HR := Lib.hid hR
  clear C1_ hok hR
  go_enter Tryd.func12, Tryd.ntmps12
  have Q_ := own2 w (.cells #[.int .u16 c, .int .u8 a, .int .u8 m, .int .u8 k, .bool o] 27) (.cells #[.int .u16 0, .int .u8 0, .int .u8 0, .int .u8 0, .bool false] 27)
  have B0 := Lib.hid (vian HN.out BB.out Q_)
  have P0 := Lib.hid ((Has.new w #[.int .u16 c, .int .u8 a, .int .u8 m, .int .u8 k, .bool o] 27).alloc (.cells #[.int .u16 0, .int .u8 0, .int .u8 0, .int .u8 0, .bool false] 27))
  have R0 := Lib.hid (show Has ((w.alloc (.cells #[.int .u16 c, .int .u8 a, .int .u8 m, .int .u8 k, .bool o] 27)).alloc (.cells #[.int .u16 0, .int .u8 0, .int .u8 0, .int .u8 0, .bool false] 27)) (w.heap.size + 1) #[.int .u16 0, .int .u8 0, .int .u8 0, .int .u8 0, .bool false] by simpa using Has.new (w.alloc (.cells #[.int .u16 c, .int .u8 a, .int .u8 m, .int .u8 k, .bool o] 27)) #[.int .u16 0, .int .u8 0, .int .u8 0, .int .u8 0, .bool false] 27)
  have LP := Lib.hid (Nat.le_trans HN.out BB.out.size)
  have LR := Lib.hid (show n_ ≤ w.heap.size + 1 from Nat.le_succ_of_le (Nat.le_trans HN.out BB.out.size))
  have NE := Lib.hid (show w.heap.size ≠ w.heap.size + 1 by omega)
  clear Q_
  go_upto_region 1 with (fail)
  generalize (w.alloc (.cells #[.int .u16 c, .int .u8 a, .int .u8 m, .int .u8 k, .bool o] 27)).alloc (.cells #[.int .u16 0, .int .u8 0, .int .u8 0, .int .u8 0, .bool false] 27) = w0 at B0 P0 R0 ⊢
  generalize w.heap.size + 1 = rb at R0 LR NE ⊢
  generalize w.heap.size = pb at P0 LP NE ⊢
  obtain ⟨hc, hf⟩ := P0.out.out
  go_wp2_with fail
  clear hc hf
  with_reducible refine (C1.out pb _ P0.out (TT.out.next B0.out).g).mono ?_
  rintro q_ w1 ⟨bb, qb, rfl, hK, hlb, hlq, hb⟩
  have NB := Lib.hid (show bb ≠ pb from fun e => absurd P0.out.1 (Nat.not_lt.2 (e ▸ hlb)))
  have NQ := Lib.hid (show qb ≠ pb from fun e => absurd P0.out.1 (Nat.not_lt.2 (e ▸ hlq)))
  have K1 := Lib.hid hK
  have B1 := Lib.hid (vian HN.out B0.out hb)
  have P1 := Lib.hid (P0.out.below hb)
  have R1 := Lib.hid (R0.out.below hb)
  clear hb hK hlb hlq B0 P0 R0
  have P2 := Lib.hid (show Has (w1.setCell ⟨pb, 2, none⟩ (.int .u8 x)) pb #[.int .u16 c, .int .u8 a, .int .u8 x, .int .u8 k, .bool o] by simpa using P1.out.set 2 (.int .u8 x) (by simp))
  have R2 := Lib.hid (R1.out.far ⟨pb, 2, none⟩ (.int .u8 x) NE.out)
  have B2 := Lib.hid (store1 B1.out LP.out 2 (.int .u8 x))
  have K2 := Lib.hid (K1.out.far NB.out NQ.out 2 (.int .u8 x))
  obtain ⟨hc, hf⟩ := P1.out.out
  go_upto_region 12 with (fail)
  generalize w1.setCell ⟨pb, 2, none⟩ (.int .u8 x) = w2 at P2 R2 B2 K2 ⊢
  clear P1 R1 B1 K1
  clear hc hf
  go_wp2_with fail
  have CC := clo_c ⟨c, a, x, k, o⟩ R s OKV.out HR.out bb qb pb n_ W0 _ HN.out TT.out B2.out LP.out NB.out NQ.out P2.out K2.out
  refine CC.mono ?_
  clear CC
  rintro q_ w3 ⟨rfl, hP', hB', hO⟩
  have P3 := Lib.hid hP'
  have B3 := Lib.hid hB'
  have R3 := Lib.hid (hO rb _ NE.out.symm R2.out)
  clear hP' hB' hO P2 B2 R2 K2
  obtain ⟨hp, hpf⟩ := P3.out.out
  obtain ⟨hc, hf⟩ := R3.out.out
  go_wp2
  refine bodyPost_ret (v := .agg #[.int .u16 R.c, .int .u8 R.a, .int .u8 R.m, .int .u8 R.k, .bool R.o]) ?_ rfl ⟨rfl, ?_⟩
  · simp [results, Tryd.results12, go_sem, hc]
  · exact set5 B3.out rb LR.out _ _ _ _ _
set_option maxHeartbeats 2000000 in
theorem pw_3 (c a m k : Int) (o : Bool) (s : Bool) (R : TV) (x : Int) (hx0 : 0 ≤ x) (hx1 : x < 256) (y : Int) (hy : x % 8 = y) (hok : TV.ok ⟨c, a, m, y, o⟩) (hR : fallV s ⟨c, a, m, y, o⟩ = R) (C1_ : ∀ pb W, Has W pb #[.int .u16 c, .int .u8 a, .int .u8 m, .int .u8 k, .bool o] → Glob W → Calls Tryd.prog 17 #[.pointer (some ⟨pb, 0, none⟩)] W (Made W pb s)) (w : World) (hglob : Glob w) : Calls Tryd.prog 12 #[.agg #[.int .u16 c, .int .u8 a, .int .u8 m, .int .u8 k, .bool o], .int .i64 3, .int .u8 x] w fun q_ w' => q_ = .returned (.agg #[.int .u16 R.c, .int .u8 R.a, .int .u8 R.m, .int .u8 R.k, .bool R.o]) ∧ Below w.heap.size w w' := by
  suffices hall : ∀ (n_ : Nat) (W0 : World), n_ ≤ W0.heap.size → Below n_ W0 w → Tab n_ W0 → Calls Tryd.prog 12 #[.agg #[.int .u16 c, .int .u8 a, .int .u8 m, .int .u8 k, .bool o], .int .i64 3, .int .u8 x] w fun q_ w' => q_ = .returned (.agg #[.int .u16 R.c, .int .u8 R.a, .int .u8 R.m, .int .u8 R.k, .bool R.o]) ∧ Below n_ W0 w' from hall _ _ (Nat.le_refl _) (Below.refl _ _) ⟨hglob.1, hglob⟩
  intro n_ W0 hn hB hT
  have HN := Lib.hid hn
  have BB := Lib.hid hB
  have TT := Lib.hid hT
  clear hn hB hT hglob
  have e1 : bits .and .u8 x 7 = y := (and7 x hx0 hx1).trans hy
  have C1 := Lib.hid C1_
  have OKV := Lib.hid hok
  have HR := Lib.hid hR
  clear C1_ hok hR
  go_enter Tryd.func12, Tryd.ntmps12
  have Q_ := own2 w (.cells #[.int .u16 c, .int .u8 a, .int .u8 m, .int .u8 k, .bool o] 27) (.cells #[.int .u16 0, .int .u8 0, .int .u8 0, .int .u8 0, .bool false] 27)
  have B0 := Lib.hid (vian HN.out BB.out Q_)
  have P0 := Lib.hid ((Has.new w #[.int .u16 c, .int .u8 a, .int .u8 m, .int .u8 k, .bool o] 27).alloc (.cells #[.int .u16 0, .int .u8 0, .int .u8 0, .int .u8 0, .bool false] 27))
  have R0 := Lib.hid (show Has ((w.alloc (.cells #[.int .u16 c, .int .u8 a, .int .u8 m, .int .u8 k, .bool o] 27)).alloc (.cells #[.int .u16 0, .int .u8 0, .int .u8 0, .int .u8 0, .bool false] 27)) (w.heap.size + 1) #[.int .u16 0, .int .u8 0, .int .u8 0, .int .u8 0, .bool false] by simpa using Has.new (w.alloc (.cells #[.int .u16 c, .int .u8 a, .int .u8 m, .int .u8 k, .bool o] 27)) #[.int .u16 0, .int .u8 0, .int .u8 0, .int .u8 0, .bool false] 27)
  have LP := Lib.hid (Nat.le_trans HN.out BB.out.size)
  have LR := Lib.hid (show n_ ≤ w.heap.size + 1 from Nat.le_succ_of_le (Nat.le_trans HN.out BB.out.size))
  have NE := Lib.hid (show w.heap.size ≠ w.heap.size + 1 by omega)
  clear Q_
  go_upto_region 1 with (fail)
  generalize (w.alloc (.cells #[.int .u16 c, .int .u8 a, .int .u8 m, .int .u8 k, .bool o] 27)).alloc (.cells #[.int .u16 0, .int .u8 0, .int .u8 0, .int .u8 0, .bool false] 27) = w0 at B0 P0 R0 ⊢
  generalize w.heap.size + 1 = rb at R0 LR NE ⊢
  generalize w.heap.size = pb at P0 LP NE ⊢
  obtain ⟨hc, hf⟩ := P0.out.out
  go_wp2_with fail
  clear hc hf
  with_reducible refine (C1.out pb _ P0.out (TT.out.next B0.out).g).mono ?_
  rintro q_ w1 ⟨bb, qb, rfl, hK, hlb, hlq, hb⟩
  have NB := Lib.hid (show bb ≠ pb from fun e => absurd P0.out.1 (Nat.not_lt.2 (e ▸ hlb)))
  have NQ := Lib.hid (show qb ≠ pb from fun e => absurd P0.out.1 (Nat.not_lt.2 (e ▸ hlq)))
  have K1 := Lib.hid hK
  have B1 := Lib.hid (vian HN.out B0.out hb)
  have P1 := Lib.hid (P0.out.below hb)
  have R1 := Lib.hid (R0.out.below hb)
  clear hb hK hlb hlq B0 P0 R0
  have P2 := Lib.hid (show Has (w1.setCell ⟨pb, 3, none⟩ (.int .u8 y)) pb #[.int .u16 c, .int .u8 a, .int .u8 m, .int .u8 y, .bool o] by simpa using P1.out.set 3 (.int .u8 y) (by simp))
  have R2 := Lib.hid (R1.out.far ⟨pb, 3, none⟩ (.int .u8 y) NE.out)
  have B2 := Lib.hid (store1 B1.out LP.out 3 (.int .u8 y))
  have K2 := Lib.hid (K1.out.far NB.out NQ.out 3 (.int .u8 y))
  obtain ⟨hc, hf⟩ := P1.out.out
  go_upto_region 12 with (fail)
  generalize w1.setCell ⟨pb, 3, none⟩ (.int .u8 y) = w2 at P2 R2 B2 K2 ⊢
  clear P1 R1 B1 K1
  clear hc hf
  go_wp2_with fail
  have CC := clo_c ⟨c, a, m, y, o⟩ R s OKV.out HR.out bb qb pb n_ W0 _ HN.out TT.out B2.out LP.out NB.out NQ.out P2.out K2.out
  refine CC.mono ?_
  clear CC
  rintro q_ w3 ⟨rfl, hP', hB', hO⟩
  have P3 := Lib.hid hP'
  have B3 := Lib.hid hB'
  have R3 := Lib.hid (hO rb _ NE.out.symm R2.out)
  clear hP' hB' hO P2 B2 R2 K2
  obtain ⟨hp, hpf⟩ := P3.out.out
  obtain ⟨hc, hf⟩ := R3.out.out
  go_wp2
  refine bodyPost_ret (v := .agg #[.int .u16 R.c, .int .u8 R.a, .int .u8 R.m, .int .u8 R.k, .bool R.o]) ?_ rfl ⟨rfl, ?_⟩
  · simp [results, Tryd.results12, go_sem, hc]
  · exact set5 B3.out rb LR.out _ _ _ _ _
set_option maxHeartbeats 2000000 in
theorem pw_4 (c a m k : Int) (o : Bool) (s : Bool) (R : TV) (x : Int) (hx0 : 0 ≤ x) (hx1 : x < 256) (n : Int) (g0 : ¬ n = 0) (g1 : ¬ n = 1) (g2 : ¬ n = 2) (g3 : ¬ n = 3) (hok : TV.ok ⟨c, a, m, k, o⟩) (hR : fallV s ⟨c, a, m, k, o⟩ = R) (C1_ : ∀ pb W, Has W pb #[.int .u16 c, .int .u8 a, .int .u8 m, .int .u8 k, .bool o] → Glob W → Calls Tryd.prog 17 #[.pointer (some ⟨pb, 0, none⟩)] W (Made W pb s)) (w : World) (hglob : Glob w) : Calls Tryd.prog 12 #[.agg #[.int .u16 c, .int .u8 a, .int .u8 m, .int .u8 k, .bool o], .int .i64 n, .int .u8 x] w fun q_ w' => q_ = .returned (.agg #[.int .u16 R.c, .int .u8 R.a, .int .u8 R.m, .int .u8 R.k, .bool R.o]) ∧ Below w.heap.size w w' := by
  suffices hall : ∀ (n_ : Nat) (W0 : World), n_ ≤ W0.heap.size → Below n_ W0 w → Tab n_ W0 → Calls Tryd.prog 12 #[.agg #[.int .u16 c, .int .u8 a, .int .u8 m, .int .u8 k, .bool o], .int .i64 n, .int .u8 x] w fun q_ w' => q_ = .returned (.agg #[.int .u16 R.c, .int .u8 R.a, .int .u8 R.m, .int .u8 R.k, .bool R.o]) ∧ Below n_ W0 w' from hall _ _ (Nat.le_refl _) (Below.refl _ _) ⟨hglob.1, hglob⟩
  intro n_ W0 hn hB hT
  have HN := Lib.hid hn
  have BB := Lib.hid hB
  have TT := Lib.hid hT
  clear hn hB hT hglob
  have C1 := Lib.hid C1_
  have OKV := Lib.hid hok
  have HR := Lib.hid hR
  clear C1_ hok hR
  go_enter Tryd.func12, Tryd.ntmps12
  have Q_ := own2 w (.cells #[.int .u16 c, .int .u8 a, .int .u8 m, .int .u8 k, .bool o] 27) (.cells #[.int .u16 0, .int .u8 0, .int .u8 0, .int .u8 0, .bool false] 27)
  have B0 := Lib.hid (vian HN.out BB.out Q_)
  have P0 := Lib.hid ((Has.new w #[.int .u16 c, .int .u8 a, .int .u8 m, .int .u8 k, .bool o] 27).alloc (.cells #[.int .u16 0, .int .u8 0, .int .u8 0, .int .u8 0, .bool false] 27))
  have R0 := Lib.hid (show Has ((w.alloc (.cells #[.int .u16 c, .int .u8 a, .int .u8 m, .int .u8 k, .bool o] 27)).alloc (.cells #[.int .u16 0, .int .u8 0, .int .u8 0, .int .u8 0, .bool false] 27)) (w.heap.size + 1) #[.int .u16 0, .int .u8 0, .int .u8 0, .int .u8 0, .bool false] by simpa using Has.new (w.alloc (.cells #[.int .u16 c, .int .u8 a, .int .u8 m, .int .u8 k, .bool o] 27)) #[.int .u16 0, .int .u8 0, .int .u8 0, .int .u8 0, .bool false] 27)
  have LP := Lib.hid (Nat.le_trans HN.out BB.out.size)
  have LR := Lib.hid (show n_ ≤ w.heap.size + 1 from Nat.le_succ_of_le (Nat.le_trans HN.out BB.out.size))
  have NE := Lib.hid (show w.heap.size ≠ w.heap.size + 1 by omega)
  clear Q_
  go_upto_region 1 with (fail)
  generalize (w.alloc (.cells #[.int .u16 c, .int .u8 a, .int .u8 m, .int .u8 k, .bool o] 27)).alloc (.cells #[.int .u16 0, .int .u8 0, .int .u8 0, .int .u8 0, .bool false] 27) = w0 at B0 P0 R0 ⊢
  generalize w.heap.size + 1 = rb at R0 LR NE ⊢
  generalize w.heap.size = pb at P0 LP NE ⊢
  obtain ⟨hc, hf⟩ := P0.out.out
  go_wp2_with fail
  clear hc hf
  with_reducible refine (C1.out pb _ P0.out (TT.out.next B0.out).g).mono ?_
  rintro q_ w1 ⟨bb, qb, rfl, hK, hlb, hlq, hb⟩
  have NB := Lib.hid (show bb ≠ pb from fun e => absurd P0.out.1 (Nat.not_lt.2 (e ▸ hlb)))
  have NQ := Lib.hid (show qb ≠ pb from fun e => absurd P0.out.1 (Nat.not_lt.2 (e ▸ hlq)))
  have K1 := Lib.hid hK
  have B1 := Lib.hid (vian HN.out B0.out hb)
  have P1 := Lib.hid (P0.out.below hb)
  have R1 := Lib.hid (R0.out.below hb)
  clear hb hK hlb hlq B0 P0 R0
  go_upto_region 12 with (fail)
  go_wp2_with fail
  have CC := clo_c ⟨c, a, m, k, o⟩ R s OKV.out HR.out bb qb pb n_ W0 _ HN.out TT.out B1.out LP.out NB.out NQ.out P1.out K1.out
  refine CC.mono ?_
  clear CC
  rintro q_ w2 ⟨rfl, hP', hB', hO⟩
  have P2 := Lib.hid hP'
  have B2 := Lib.hid hB'
  have R2 := Lib.hid (hO rb _ NE.out.symm R1.out)
  clear hP' hB' hO P1 B1 R1 K1
  obtain ⟨hp, hpf⟩ := P2.out.out
  obtain ⟨hc, hf⟩ := R2.out.out
  go_wp2
  refine bodyPost_ret (v := .agg #[.int .u16 R.c, .int .u8 R.a, .int .u8 R.m, .int .u8 R.k, .bool R.o]) ?_ rfl ⟨rfl, ?_⟩
  · simp [results, Tryd.results12, go_sem, hc]
  · exact set5 B2.out rb LR.out _ _ _ _ _
theorem pw_c (v R : TV) (n x : Int) (hv : v.ok) (hx0 : 0 ≤ x) (hx1 : x < 256) (hR : wrV v n x = R) (w : World) (hG : Glob w) : Calls Tryd.prog 12 #[.agg #[.int .u16 v.c, .int .u8 v.a, .int .u8 v.m, .int .u8 v.k, .bool v.o], .int .i64 n, .int .u8 x] w fun q_ w' => q_ = .returned (.agg #[.int .u16 R.c, .int .u8 R.a, .int .u8 R.m, .int .u8 R.k, .bool R.o]) ∧ Below w.heap.size w w' := by
  have hv' := hv
  obtain ⟨c, a, m, k, o⟩ := v
  obtain ⟨⟨h1, h2⟩, ⟨h3, h4⟩, ⟨h5, h6⟩, h7, h8⟩ := hv
  unfold wrV at hR
  dsimp only at h1 h2 h3 h4 h5 h6 h7 h8 hR ⊢
  have S := fun pb W h1' h2' => made_c c a m k o pb _ h1 h2 h7 h8 rfl W h1' h2'
  by_cases g0 : n = 0
  · rw [if_pos g0] at hR; subst g0
    exact pw_0 c a m k o _ R x hx0 hx1 ⟨by dsimp only; omega, ⟨h3, h4⟩, ⟨h5, h6⟩, h7, h8⟩ hR S w hG
  rw [if_neg g0] at hR
  by_cases g1 : n = 1
  · rw [if_pos g1] at hR; subst g1
    exact pw_1 c a m k o _ R x hx0 hx1 ⟨⟨h1, h2⟩, ⟨hx0, hx1⟩, ⟨h5, h6⟩, h7, h8⟩ ((fall_same ⟨c, x, m, k, false⟩).trans hR) S w hG
  rw [if_neg g1] at hR
  by_cases g2 : n = 2
  · rw [if_pos g2] at hR; subst g2
    exact pw_2 c a m k o _ R x hx0 hx1 ⟨⟨h1, h2⟩, ⟨h3, h4⟩, ⟨hx0, hx1⟩, h7, h8⟩ ((fall_same ⟨c, a, x, k, o⟩).trans hR) S w hG
  rw [if_neg g2] at hR
  by_cases g3 : n = 3
  · rw [if_pos g3] at hR; subst g3
    exact pw_3 c a m k o _ R x hx0 hx1 _ rfl ⟨⟨h1, h2⟩, ⟨h3, h4⟩, ⟨h5, h6⟩, by dsimp only; omega⟩ hR S w hG
  rw [if_neg g3] at hR
  exact pw_4 c a m k o _ R x hx0 hx1 n g0 g1 g2 g3 hv' ((fall_same ⟨c, a, m, k, o⟩).trans hR) S w hG
end Go.Proofs.YtjjmnjkmfkcdoaaDoor
