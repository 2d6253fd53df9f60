/-
  The functions that turn a board, one by one: for every board; no condition but that each number fits.
-/
import Derived.Test.YtonmnpadmphbdaaDoorFn
import Derived.Deep.Cut
import Derived.BigQuiet
import Derived.WalkSmall
namespace Go.Proofs.YtonmnpadmphbdaaDoor
open Go.ChangeShapes Go.WideShapes Go.ChangeAt Go.RowKit
set_option linter.unusedVariables false
set_option linter.unusedSimpArgs false
set_option maxRecDepth 100000
set_option maxHeartbeats 2000000 in
theorem next_0 (b : Nat) (m : M) (x s p y r : Int) (hx : m 0 = x) (g0 : 0 ≤ x) (g1 : x < 256) (hs : x % 8 = s) (hp : m 67 = p) (p0 : 0 ≤ p) (p1 : p < 2048) (hd : ¬ x / 8 % 2 = 1) (hy : p / 2 ^ s.toNat = y) (y0 : 0 ≤ y ∧ y < 2048) (hr : p + y = r) (w : World) (h : Has w b (enc m)) : Calls Tryd.prog 36 #[.pointer (some ⟨b, 0, none⟩)] w fun q_ w' => q_ = .returned (.int .i64 r) ∧ Below w.heap.size w w' := by
  have q1 : (bits .and .u8 x 8 != 0) = false := (b8 x g0 g1).trans (by simpa using hd)
  have s0 : 0 ≤ s ∧ s < 8 := by omega
  have H1 := Lib.hid (fun q : Nat => shift_c b m x s hx g0 g1 hs (w.drewN q) (h.drewN q))
  obtain ⟨hc, hf⟩ := h.out
  have e0 := enc_u8 m 0 (by decide)
  have e67 := enc_i m 67 rfl (by decide) (by decide)
  rw [hx] at e0
  rw [hp] at e67
  clear h hx hp hs hd
  go_enter Tryd.func36, Tryd.ntmps36
  go_upto_region 1 with (fail)
  go_quiet ((go_at_call 34; with_reducible exact Calls.quiet_of_same (H1.out _)))
  go_wp2
  all_goals exact bodyPost_ret (v := .int .i64 r) (by simp [results, Tryd.results36, go_sem]) rfl ⟨rfl, below_drewN (Below.refl _ _) _⟩
set_option maxHeartbeats 2000000 in
theorem next_1 (b : Nat) (m : M) (x s p y r : Int) (hx : m 0 = x) (g0 : 0 ≤ x) (g1 : x < 256) (hs : x % 8 = s) (hp : m 67 = p) (p0 : 0 ≤ p) (p1 : p < 2048) (hd : x / 8 % 2 = 1) (hy : p / 2 ^ s.toNat = y) (y0 : 0 ≤ y ∧ y < 2048) (hr : p + -y = r) (w : World) (h : Has w b (enc m)) : Calls Tryd.prog 36 #[.pointer (some ⟨b, 0, none⟩)] w fun q_ w' => q_ = .returned (.int .i64 r) ∧ Below w.heap.size w w' := by
  have q1 : (bits .and .u8 x 8 != 0) = true := (b8 x g0 g1).trans (by simpa using hd)
  have s0 : 0 ≤ s ∧ s < 8 := by omega
  have H1 := Lib.hid (fun q : Nat => shift_c b m x s hx g0 g1 hs (w.drewN q) (h.drewN q))
  obtain ⟨hc, hf⟩ := h.out
  have e0 := enc_u8 m 0 (by decide)
  have e67 := enc_i m 67 rfl (by decide) (by decide)
  rw [hx] at e0
  rw [hp] at e67
  clear h hx hp hs hd
  go_enter Tryd.func36, Tryd.ntmps36
  go_upto_region 1 with (fail)
  go_quiet ((go_at_call 34; with_reducible exact Calls.quiet_of_same (H1.out _)))
  go_wp2
  all_goals exact bodyPost_ret (v := .int .i64 r) (by simp [results, Tryd.results36, go_sem]) rfl ⟨rfl, below_drewN (Below.refl _ _) _⟩
set_option maxHeartbeats 2000000 in
theorem stopHigh_0 (b : Nat) (m : M) (r : Int) (hr : r ≤ 2047) (H : ∀ W, Has W b (enc m) → Calls Tryd.prog 36 #[.pointer (some ⟨b, 0, none⟩)] W fun q_ w' => q_ = .returned (.int .i64 r) ∧ Below W.heap.size W w') (w : World) (h : Has w b (enc m)) : Calls Tryd.prog 35 #[.pointer (some ⟨b, 0, none⟩)] w fun q_ w' => q_ = .returned (.bool false) ∧ Has w' b (enc (m)) ∧ Keeps b w w' := by
  suffices hall : ∀ w0 : World, Keeps b w0 w → Calls Tryd.prog 35 #[.pointer (some ⟨b, 0, none⟩)] w fun q_ w' => q_ = .returned (.bool false) ∧ Has w' b (enc (m)) ∧ Keeps b w0 w' from hall w (Keeps.refl b w)
  intro w0 hK
  have P0 := Lib.hid h
  have K0 := Lib.hid hK
  clear h hK
  have SH := Lib.hid H
  clear H
  go_enter Tryd.func35, Tryd.ntmps35
  go_wp2_with fail
  with_reducible refine (SH.out _ P0.out).mono ?_
  rintro q_ u1 ⟨rfl, hb⟩
  have P1 := Lib.hid (P0.out.below hb)
  have K1 := Lib.hid (K0.out.trans (Keeps.of_below hb))
  clear hb P0 K0
  go_wp2
  all_goals first | exact bodyPost_ret (v := .bool false) (by simp [results, Tryd.results35, go_sem]) rfl ⟨rfl, P1.out, K1.out⟩ | exact bodyPost_end (v := .bool false) (by simp [results, Tryd.results35, go_sem]) rfl ⟨rfl, P1.out, K1.out⟩
set_option maxHeartbeats 2000000 in
theorem stopHigh_1 (b : Nat) (m : M) (r : Int) (hr : ¬ r ≤ 2047) (H : ∀ W, Has W b (enc m) → Calls Tryd.prog 36 #[.pointer (some ⟨b, 0, none⟩)] W fun q_ w' => q_ = .returned (.int .i64 r) ∧ Below W.heap.size W w') (w : World) (h : Has w b (enc m)) : Calls Tryd.prog 35 #[.pointer (some ⟨b, 0, none⟩)] w fun q_ w' => q_ = .returned (.bool true) ∧ Has w' b (enc (upd m 51 0)) ∧ Keeps b w w' := by
  suffices hall : ∀ w0 : World, Keeps b w0 w → Calls Tryd.prog 35 #[.pointer (some ⟨b, 0, none⟩)] w fun q_ w' => q_ = .returned (.bool true) ∧ Has w' b (enc (upd m 51 0)) ∧ Keeps b w0 w' from hall w (Keeps.refl b w)
  intro w0 hK
  have P0 := Lib.hid h
  have K0 := Lib.hid hK
  clear h hK
  have SH := Lib.hid H
  clear H
  go_enter Tryd.func35, Tryd.ntmps35
  go_wp2_with fail
  with_reducible refine (SH.out _ P0.out).mono ?_
  rintro q_ u1 ⟨rfl, hb⟩
  have P1 := Lib.hid (P0.out.below hb)
  have K1 := Lib.hid (K0.out.trans (Keeps.of_below hb))
  clear hb P0 K0
  go_wp2_with (refine store_bo P1.out rfl _ _ rfl _ rfl _ rfl (by rfl) (by omega) ?_)
  intro u2 hP hk
  replace hP : Has u2 b (enc (upd m 51 0)) := hP
  have P2 := Lib.hid hP
  have K2 := Lib.hid (K1.out.trans hk)
  clear hP hk P1 K1
  try simp only [Act.put]
  go_wp2
  all_goals first | exact bodyPost_ret (v := .bool true) (by simp [results, Tryd.results35, go_sem]) rfl ⟨rfl, P2.out, K2.out⟩ | exact bodyPost_end (v := .bool true) (by simp [results, Tryd.results35, go_sem]) rfl ⟨rfl, P2.out, K2.out⟩
set_option maxHeartbeats 2000000 in
theorem stopUn_1 (b : Nat) (m : M) (v : Int) (vn : Nat) (hv : v = vn) (h4 : vn < 4) (H : ∀ W, Has W b (enc m) → Calls Tryd.prog 27 #[.pointer (some ⟨b, 0, none⟩), .int .i64 v] W fun q_ w' => q_ = .returned (.bool true) ∧ w' = W) (w : World) (h : Has w b (enc m)) : Calls Tryd.prog 20 #[.pointer (some ⟨b, 0, none⟩), .int .i64 v] w fun q_ w' => q_ = .returned (.tuple #[]) ∧ Has w' b (enc (m)) ∧ Keeps b w w' := by
  suffices hall : ∀ w0 : World, Keeps b w0 w → Calls Tryd.prog 20 #[.pointer (some ⟨b, 0, none⟩), .int .i64 v] w fun q_ w' => q_ = .returned (.tuple #[]) ∧ Has w' b (enc (m)) ∧ Keeps b w0 w' from hall w (Keeps.refl b w)
  intro w0 hK
  have P0 := Lib.hid h
  have K0 := Lib.hid hK
  clear h hK
  subst hv
  have SH := Lib.hid H
  clear H
  have hnot : ∀ (x : Bool) (w : World), (Op.unary .not (.bool x)).run Tryd.prog w = .ok (.bool (!x)) w := fun _ _ => rfl
  go_enter Tryd.func20, Tryd.ntmps20
  go_wp2_with fail
  with_reducible refine (SH.out _ P0.out).mono ?_
  rintro q_ w' ⟨rfl, rfl⟩
  go_wp2
  all_goals first | exact bodyPost_ret (v := .tuple #[]) (by simp [results, Tryd.results20, go_sem]) rfl ⟨rfl, P0.out, K0.out⟩ | exact bodyPost_end (v := .tuple #[]) (by simp [results, Tryd.results20, go_sem]) rfl ⟨rfl, P0.out, K0.out⟩
set_option maxHeartbeats 2000000 in
theorem stopUn_0 (b : Nat) (m : M) (v : Int) (vn : Nat) (hv : v = vn) (h4 : vn < 4) (H : ∀ W, Has W b (enc m) → Calls Tryd.prog 27 #[.pointer (some ⟨b, 0, none⟩), .int .i64 v] W fun q_ w' => q_ = .returned (.bool false) ∧ w' = W) (w : World) (h : Has w b (enc m)) : Calls Tryd.prog 20 #[.pointer (some ⟨b, 0, none⟩), .int .i64 v] w fun q_ w' => q_ = .returned (.tuple #[]) ∧ Has w' b (enc (upd m (51 + vn * 4) 0)) ∧ Keeps b w w' := by
  suffices hall : ∀ w0 : World, Keeps b w0 w → Calls Tryd.prog 20 #[.pointer (some ⟨b, 0, none⟩), .int .i64 v] w fun q_ w' => q_ = .returned (.tuple #[]) ∧ Has w' b (enc (upd m (51 + vn * 4) 0)) ∧ Keeps b w0 w' from hall w (Keeps.refl b w)
  intro w0 hK
  have P0 := Lib.hid h
  have K0 := Lib.hid hK
  clear h hK
  subst hv
  have SH := Lib.hid H
  clear H
  have hnot : ∀ (x : Bool) (w : World), (Op.unary .not (.bool x)).run Tryd.prog w = .ok (.bool (!x)) w := fun _ _ => rfl
  go_enter Tryd.func20, Tryd.ntmps20
  go_wp2_with fail
  with_reducible refine (SH.out _ P0.out).mono ?_
  rintro q_ w' ⟨rfl, rfl⟩
  go_wp2_with (refine store_bo P0.out rfl _ _ rfl _ rfl _ rfl (by exact isB_on _ h4) (by omega) ?_)
  intro u1 hP hk
  replace hP : Has u1 b (enc (upd m (51 + vn * 4) 0)) := hP
  have P1 := Lib.hid hP
  have K1 := Lib.hid (K0.out.trans hk)
  clear hP hk P0 K0
  try simp only [Act.put]
  go_wp2
  all_goals first | exact bodyPost_ret (v := .tuple #[]) (by simp [results, Tryd.results20, go_sem]) rfl ⟨rfl, P1.out, K1.out⟩ | exact bodyPost_end (v := .tuple #[]) (by simp [results, Tryd.results20, go_sem]) rfl ⟨rfl, P1.out, K1.out⟩
end Go.Proofs.YtonmnpadmphbdaaDoor
