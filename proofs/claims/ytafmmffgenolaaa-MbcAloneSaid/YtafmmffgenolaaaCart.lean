/-
  New, and a header of a kind: for every kind, number of banks, and size; no condition.
-/
import Derived.Test.YtafmmffgenolaaaBits
import Derived.Deep.Cut
namespace Go.Proofs.Ytafmmffgenolaaa
open Go.ChangeShapes Go.WideShapes Go.ChangeAt Go.RowKit
set_option linter.unusedVariables false
set_option linter.unusedSimpArgs false
set_option maxRecDepth 100000
def kdV (k : Int) : Int := if k % 6 = 4 then 5 else if k % 6 = 5 then 4 else k % 6
def rmV (k r : Int) : Int := if kdV k = 2 then 512 else if r % 6 = 0 then 0 else if r % 6 = 1 then 2048 else if r % 6 = 2 then 8192 else if r % 6 = 3 then 32768 else if r % 6 = 4 then 131072 else 65536
def bnV (b : Nat) : Int := 2 * 2 ^ (b % 9)
theorem bnV_bd (b : Nat) : 0 < bnV b ∧ bnV b ≤ 512 := by
  unfold bnV
  rcases (by omega : b % 9 = 0 ∨ b % 9 = 1 ∨ b % 9 = 2 ∨ b % 9 = 3 ∨ b % 9 = 4 ∨ b % 9 = 5 ∨ b % 9 = 6 ∨ b % 9 = 7 ∨ b % 9 = 8) with e | e | e | e | e | e | e | e | e <;> rw [e] <;> decide +kernel
theorem bnV_wrap (q : Nat) (h : q < 9) : wrap64 (2 * 2 ^ q) = 2 * 2 ^ q := by
  rcases (by omega : q = 0 ∨ q = 1 ∨ q = 2 ∨ q = 3 ∨ q = 4 ∨ q = 5 ∨ q = 6 ∨ q = 7 ∨ q = 8) with e | e | e | e | e | e | e | e | e <;> subst e <;> decide +kernel
theorem kdV_bd (k : Int) : 0 ≤ kdV k ∧ kdV k < 6 := by
  unfold kdV; repeat' split
  all_goals omega
theorem rmV_bd (k r : Int) : 0 ≤ rmV k r ∧ rmV k r ≤ 131072 := by
  unfold rmV; repeat' split
  all_goals omega
def rm0 (r : Int) : Int := if r % 6 = 0 then 0 else if r % 6 = 1 then 2048 else if r % 6 = 2 then 8192 else if r % 6 = 3 then 32768 else if r % 6 = 4 then 131072 else 65536
theorem kd_at (k : Int) (i : Nat) (hi : k % 6 = i) (h : i < [Value.int .i64 0, .int .i64 1, .int .i64 2, .int .i64 3, .int .i64 5, .int .i64 4].length) : [Value.int .i64 0, .int .i64 1, .int .i64 2, .int .i64 3, .int .i64 5, .int .i64 4][i]'h = .int .i64 (kdV k) := by
  have h6 : i < 6 := h
  unfold kdV
  rcases (by omega : i = 0 ∨ i = 1 ∨ i = 2 ∨ i = 3 ∨ i = 4 ∨ i = 5) with rfl | rfl | rfl | rfl | rfl | rfl <;> simp [hi]
theorem rm_at (r : Int) (i : Nat) (hi : r % 6 = i) (h : i < [Value.int .i64 0, .int .i64 2048, .int .i64 8192, .int .i64 32768, .int .i64 131072, .int .i64 65536].length) : [Value.int .i64 0, .int .i64 2048, .int .i64 8192, .int .i64 32768, .int .i64 131072, .int .i64 65536][i]'h = .int .i64 (rm0 r) := by
  have h6 : i < 6 := h
  unfold rm0
  rcases (by omega : i = 0 ∨ i = 1 ∨ i = 2 ∨ i = 3 ∨ i = 4 ∨ i = 5) with rfl | rfl | rfl | rfl | rfl | rfl <;> simp [hi]
set_option maxHeartbeats 2000000 in
theorem cart_2 (k b r : Nat) (i q j : Nat) (rv bv : Int) (hk : k < 256) (hkI : (k : Int) < 256) (hb : b < 256) (hbI : (b : Int) < 256) (hr : r < 256) (hrI : (r : Int) < 256) (hi : (k : Int) % 6 = i) (hi6 : i < 6) (hi6I : (i : Int) < 6) (hq : (b : Int) % 9 = q) (hq9 : q < 9) (hj : (r : Int) % 6 = j) (hj6 : j < 6) (hj6I : (j : Int) < 6)
    (l1 : i < [Value.int .i64 0, .int .i64 1, .int .i64 2, .int .i64 3, .int .i64 5, .int .i64 4].length) (c1 : [Value.int .i64 0, .int .i64 1, .int .i64 2, .int .i64 3, .int .i64 5, .int .i64 4][i]'l1 = .int .i64 2) (l2 : j < [Value.int .i64 0, .int .i64 2048, .int .i64 8192, .int .i64 32768, .int .i64 131072, .int .i64 65536].length) (c2 : [Value.int .i64 0, .int .i64 2048, .int .i64 8192, .int .i64 32768, .int .i64 131072, .int .i64 65536][j]'l2 = .int .i64 rv) (c3 : wrap64 (2 * 2 ^ q) = bv) (w : World) : Calls Try.prog 10 #[.int .u8 k, .int .u8 b, .int .u8 r] w fun e w' => e = .returned (.agg #[.string { data := #[] }, .int .i64 2, .bool false, .bool false, .int .i64 bv, .int .i64 512, .bool false]) ∧ Below w.heap.size w w' := by
  go_enter Try.func10, Try.ntmps10
  go_wp2
  exact bodyPost_ret (v := .agg #[.string { data := #[] }, .int .i64 2, .bool false, .bool false, .int .i64 bv, .int .i64 512, .bool false]) (by simp [results, Try.results10, go_sem, c1, c2, c3]) rfl ⟨rfl, own4 _ _ _ _ _⟩
set_option maxHeartbeats 2000000 in
theorem cart_o (k b r : Nat) (i q j : Nat) (kv rv bv : Int) (hk : k < 256) (hkI : (k : Int) < 256) (hb : b < 256) (hbI : (b : Int) < 256) (hr : r < 256) (hrI : (r : Int) < 256) (hi : (k : Int) % 6 = i) (hi6 : i < 6) (hi6I : (i : Int) < 6) (hq : (b : Int) % 9 = q) (hq9 : q < 9) (hj : (r : Int) % 6 = j) (hj6 : j < 6) (hj6I : (j : Int) < 6)
    (l1 : i < [Value.int .i64 0, .int .i64 1, .int .i64 2, .int .i64 3, .int .i64 5, .int .i64 4].length) (c1 : [Value.int .i64 0, .int .i64 1, .int .i64 2, .int .i64 3, .int .i64 5, .int .i64 4][i]'l1 = .int .i64 kv) (l2 : j < [Value.int .i64 0, .int .i64 2048, .int .i64 8192, .int .i64 32768, .int .i64 131072, .int .i64 65536].length) (c2 : [Value.int .i64 0, .int .i64 2048, .int .i64 8192, .int .i64 32768, .int .i64 131072, .int .i64 65536][j]'l2 = .int .i64 rv) (c3 : wrap64 (2 * 2 ^ q) = bv) (hkv : ¬ kv = 2) (w : World) : Calls Try.prog 10 #[.int .u8 k, .int .u8 b, .int .u8 r] w fun e w' => e = .returned (.agg #[.string { data := #[] }, .int .i64 kv, .bool false, .bool false, .int .i64 bv, .int .i64 rv, .bool false]) ∧ Below w.heap.size w w' := by
  go_enter Try.func10, Try.ntmps10
  go_wp2
  exact bodyPost_ret (v := .agg #[.string { data := #[] }, .int .i64 kv, .bool false, .bool false, .int .i64 bv, .int .i64 rv, .bool false]) (by simp [results, Try.results10, go_sem, c1, c2, c3]) rfl ⟨rfl, own4 _ _ _ _ _⟩
set_option maxHeartbeats 1000000 in
theorem new_c (k n r : Int) (s : ByteArray) (c b z : Bool) (w : World) : Calls Try.prog 11 #[.agg #[.string s, .int .i64 k, .bool c, .bool b, .int .i64 n, .int .i64 r, .bool z]] w fun e w' => e = .returned (.agg #[.int .i64 k, .int .i64 n, .int .i64 r, .bool ((k == 0)), .bool false, .int .i64 1, .int .i64 0, .int .u8 255]) ∧ Below w.heap.size w w' := by
  go_enter Try.func11, Try.ntmps11
  go_wp2
  exact bodyPost_ret (v := .agg #[.int .i64 k, .int .i64 n, .int .i64 r, .bool ((k == 0)), .bool false, .int .i64 1, .int .i64 0, .int .u8 255]) (by simp [results, Try.results11, go_sem]) rfl ⟨rfl, own2 _ _ _⟩
theorem new_m (k n r : Int) (m : MV) (e : newV k n r = m) (s : ByteArray) (c b z : Bool) (w : World) : Calls Try.prog 11 #[.agg #[.string s, .int .i64 k, .bool c, .bool b, .int .i64 n, .int .i64 r, .bool z]] w fun e w' => e = .returned (.agg #[.int .i64 m.k, .int .i64 m.n, .int .i64 m.r, .bool m.on, .bool m.mo, .int .i64 m.lo, .int .i64 m.hi, .int .u8 m.la]) ∧ Below w.heap.size w w' := by
  subst e; exact new_c k n r s c b _ w
set_option maxHeartbeats 1000000 in
theorem rnew_c (k n r : Int) (s : ByteArray) (c b z : Bool) (w : World) : Calls Try.prog 12 #[.agg #[.string s, .int .i64 k, .bool c, .bool b, .int .i64 n, .int .i64 r, .bool z]] w fun e w' => e = .returned (.agg #[.int .i64 k, .int .i64 n, .int .i64 r, .bool ((k == 0)), .bool false, .int .i64 1, .int .i64 0, .int .u8 255]) ∧ Below w.heap.size w w' := by
  go_enter Try.func12, Try.ntmps12
  go_wp2
  exact bodyPost_ret (v := .agg #[.int .i64 k, .int .i64 n, .int .i64 r, .bool ((k == 0)), .bool false, .int .i64 1, .int .i64 0, .int .u8 255]) (by simp [results, Try.results12, go_sem]) rfl ⟨rfl, own2 _ _ _⟩
theorem rnew_m (k n r : Int) (m : MV) (e : newV k n r = m) (s : ByteArray) (c b z : Bool) (w : World) : Calls Try.prog 12 #[.agg #[.string s, .int .i64 k, .bool c, .bool b, .int .i64 n, .int .i64 r, .bool z]] w fun e w' => e = .returned (.agg #[.int .i64 m.k, .int .i64 m.n, .int .i64 m.r, .bool m.on, .bool m.mo, .int .i64 m.lo, .int .i64 m.hi, .int .u8 m.la]) ∧ Below w.heap.size w w' := by
  subst e; exact rnew_c k n r s c b _ w
theorem cart_c (k b r : Nat) (K B R : Int) (hk : k < 256) (hb : b < 256) (hr : r < 256) (e1 : kdV k = K) (e2 : bnV b = B) (e3 : rmV k r = R) (w : World) : Calls Try.prog 10 #[.int .u8 k, .int .u8 b, .int .u8 r] w fun e w' => e = .returned (.agg #[.string { data := #[] }, .int .i64 K, .bool false, .bool false, .int .i64 B, .int .i64 R, .bool false]) ∧ Below w.heap.size w w' := by
  subst e1; subst e2; subst e3
  by_cases h : kdV k = 2
  · have er : rmV k r = 512 := by unfold rmV; rw [if_pos h]
    rw [er]
    rw [h]
    exact cart_2 k b r (k % 6) (b % 9) (r % 6) (rm0 r) (bnV b) hk (by omega) hb (by omega) hr (by omega) (by omega) (by omega) (by omega) (by omega) (by omega) (by omega) (by omega) (by omega) (show k % 6 < 6 by omega) ((kd_at k _ (by omega) _).trans (by rw [h])) (show r % 6 < 6 by omega) (rm_at r _ (by omega) _) (bnV_wrap _ (by omega)) w
  · have er : rmV k r = rm0 r := by unfold rmV rm0; rw [if_neg h]
    rw [er]
    exact cart_o k b r (k % 6) (b % 9) (r % 6) (kdV k) (rm0 r) (bnV b) hk (by omega) hb (by omega) hr (by omega) (by omega) (by omega) (by omega) (by omega) (by omega) (by omega) (by omega) (by omega) (show k % 6 < 6 by omega) (kd_at k _ (by omega) _) (show r % 6 < 6 by omega) (rm_at r _ (by omega) _) (bnV_wrap _ (by omega)) h w
end Go.Proofs.Ytafmmffgenolaaa
