/-
  The small functions of the program, which only read: for every board; no condition but that each number fits.
-/
import Derived.Test.YtonmnpadmphbdaaDoorEnc
import Derived.Test.YtonmnpadmphbdaaDoorBits
import Derived.Deep.Cut
import Derived.BigQuiet
import Derived.WalkSmall
namespace Go.Proofs.YtonmnpadmphbdaaDoor
open Go.ChangeShapes Go.WideShapes Go.ChangeAt Go.RowKit
set_option linter.unusedVariables false
set_option linter.unusedSimpArgs false
set_option maxRecDepth 100000
set_option maxHeartbeats 1000000 in
theorem exists_1 (n : Int) (h0 : 0 ≤ n) (h1 : n < 48) (w : World) : Calls Tryd.prog 16 #[.int .i64 n] w fun q_ w' => q_ = .returned (.bool true) ∧ w' = w := by
  go_enter Tryd.func16, Tryd.ntmps16
  go_wp2
  all_goals exact bodyPost_ret (v := .bool true) (by simp [results, Tryd.results16, go_sem]) rfl ⟨rfl, rfl⟩
set_option maxHeartbeats 1000000 in
theorem exists_0 (n : Int) (h0 : n < 0) (w : World) : Calls Tryd.prog 16 #[.int .i64 n] w fun q_ w' => q_ = .returned (.bool false) ∧ w' = w := by
  have d1 : ¬ 0 ≤ n := by omega
  go_enter Tryd.func16, Tryd.ntmps16
  go_wp2
  all_goals exact bodyPost_ret (v := .bool false) (by simp [results, Tryd.results16, go_sem]) rfl ⟨rfl, rfl⟩
set_option maxHeartbeats 1000000 in
theorem exists_2 (n : Int) (h0 : 0 ≤ n) (h1 : 48 ≤ n) (w : World) : Calls Tryd.prog 16 #[.int .i64 n] w fun q_ w' => q_ = .returned (.bool false) ∧ w' = w := by
  have d1 : ¬ n < 48 := by omega
  go_enter Tryd.func16, Tryd.ntmps16
  go_wp2
  all_goals exact bodyPost_ret (v := .bool false) (by simp [results, Tryd.results16, go_sem]) rfl ⟨rfl, rfl⟩
set_option maxHeartbeats 1000000 in
theorem maxlen_2  (w : World) : Calls Tryd.prog 28 #[.int .i64 2] w fun q_ w' => q_ = .returned (.int .i64 256) ∧ w' = w := by
  go_enter Tryd.func28, Tryd.ntmps28
  go_wp2
  all_goals exact bodyPost_ret (v := .int .i64 256) (by simp [results, Tryd.results28, go_sem]) rfl ⟨rfl, rfl⟩
set_option maxHeartbeats 1000000 in
theorem maxlen_n (v : Int) (h : ¬ v = 2) (w : World) : Calls Tryd.prog 28 #[.int .i64 v] w fun q_ w' => q_ = .returned (.int .i64 64) ∧ w' = w := by
  go_enter Tryd.func28, Tryd.ntmps28
  go_wp2
  all_goals exact bodyPost_ret (v := .int .i64 64) (by simp [results, Tryd.results28, go_sem]) rfl ⟨rfl, rfl⟩
set_option maxHeartbeats 1000000 in
theorem register_c (b : Nat) (m : M) (v n : Int) (vn nn k : Nat) (hv : v = vn) (hn : n = nn) (hk : vn * 5 + nn = k) (hk2 : k < 48) (x : Int) (hx : m k = x) (w : World) (h : Has w b (enc m)) : Calls Tryd.prog 22 #[.pointer (some ⟨b, 0, none⟩), .int .i64 v, .int .i64 n] w fun q_ w' => q_ = .returned (.int .u8 x) ∧ w' = w := by
  obtain ⟨hc, hf⟩ := h.out
  have e0 := enc_u8 m k hk2
  rw [hx] at e0
  clear h
  subst hv hn
  go_enter Tryd.func22, Tryd.ntmps22
  go_wp2
  all_goals exact bodyPost_ret (v := .int .u8 x) (by simp [results, Tryd.results22, go_sem]) rfl ⟨rfl, rfl⟩
set_option maxHeartbeats 1000000 in
theorem period_c (b : Nat) (m : M) (x s : Int) (hx : m 0 = x) (g0 : 0 ≤ x) (g1 : x < 256) (hs : x / 16 % 8 = s) (w : World) (h : Has w b (enc m)) : Calls Tryd.prog 31 #[.pointer (some ⟨b, 0, none⟩)] w fun q_ w' => q_ = .returned (.int .i64 s) ∧ w' = w := by
  obtain ⟨hc, hf⟩ := h.out
  have e0 := enc_u8 m 0 (by decide)
  rw [hx] at e0
  clear h hx
  go_enter Tryd.func31, Tryd.ntmps31
  go_wp2
  all_goals exact bodyPost_ret (v := .int .i64 s) (by simp [results, Tryd.results31, go_sem]) rfl ⟨rfl, rfl⟩
set_option maxHeartbeats 1000000 in
theorem shift_c (b : Nat) (m : M) (x s : Int) (hx : m 0 = x) (g0 : 0 ≤ x) (g1 : x < 256) (hs : x % 8 = s) (w : World) (h : Has w b (enc m)) : Calls Tryd.prog 34 #[.pointer (some ⟨b, 0, none⟩)] w fun q_ w' => q_ = .returned (.int .i64 s) ∧ w' = w := by
  obtain ⟨hc, hf⟩ := h.out
  have e0 := enc_u8 m 0 (by decide)
  rw [hx] at e0
  clear h hx
  go_enter Tryd.func34, Tryd.ntmps34
  go_wp2
  all_goals exact bodyPost_ret (v := .int .i64 s) (by simp [results, Tryd.results34, go_sem]) rfl ⟨rfl, rfl⟩
set_option maxHeartbeats 1000000 in
theorem slideTime_0 (b : Nat) (m : M) (x s : Int) (hx0 : m 0 = x) (g0 : 0 ≤ x) (g1 : x < 256) (hs : x / 16 % 8 = s) (h1 : s = 0) (w : World) (h : Has w b (enc m)) : Calls Tryd.prog 30 #[.pointer (some ⟨b, 0, none⟩)] w fun q_ w' => q_ = .returned (.int .i64 8) ∧ w' = w := by
  have P0 := Lib.hid h
  clear h
  have hx := Lib.hid hx0
  clear hx0
  have hnot : ∀ (x : Bool) (w : World), (Op.unary .not (.bool x)).run Tryd.prog w = .ok (.bool (!x)) w := fun _ _ => rfl
  go_enter Tryd.func30, Tryd.ntmps30
  go_wp2_with fail
  with_reducible refine (period_c b m x s hx.out g0 g1 hs _ P0.out).mono ?_
  rintro q_ w' ⟨rfl, rfl⟩
  go_wp2
  all_goals exact bodyPost_ret (v := .int .i64 8) (by simp [results, Tryd.results30, go_sem]) rfl ⟨rfl, rfl⟩
set_option maxHeartbeats 1000000 in
theorem slideTime_1 (b : Nat) (m : M) (x s : Int) (hx0 : m 0 = x) (g0 : 0 ≤ x) (g1 : x < 256) (hs : x / 16 % 8 = s) (h1 : ¬ s = 0) (w : World) (h : Has w b (enc m)) : Calls Tryd.prog 30 #[.pointer (some ⟨b, 0, none⟩)] w fun q_ w' => q_ = .returned (.int .i64 s) ∧ w' = w := by
  have P0 := Lib.hid h
  clear h
  have hx := Lib.hid hx0
  clear hx0
  have hnot : ∀ (x : Bool) (w : World), (Op.unary .not (.bool x)).run Tryd.prog w = .ok (.bool (!x)) w := fun _ _ => rfl
  go_enter Tryd.func30, Tryd.ntmps30
  go_wp2_with fail
  with_reducible refine (period_c b m x s hx.out g0 g1 hs _ P0.out).mono ?_
  rintro q_ w' ⟨rfl, rfl⟩
  go_wp2_with fail
  with_reducible refine (period_c b m x s hx.out g0 g1 hs _ P0.out).mono ?_
  rintro q_ w' ⟨rfl, rfl⟩
  go_wp2
  all_goals exact bodyPost_ret (v := .int .i64 s) (by simp [results, Tryd.results30, go_sem]) rfl ⟨rfl, rfl⟩
set_option maxHeartbeats 1000000 in
theorem ready_2 (b : Nat) (m : M) (x : Int) (g0 : 0 ≤ x) (g1 : x < 256) (hx : m 10 = x) (z : Bool) (hz : decide (128 ≤ x) = z) (w : World) (h : Has w b (enc m)) : Calls Tryd.prog 27 #[.pointer (some ⟨b, 0, none⟩), .int .i64 2] w fun q_ w' => q_ = .returned (.bool z) ∧ w' = w := by
  have P0 := Lib.hid h
  clear h
  have HX := Lib.hid hx
  have q1 := (b128 x g0 g1).trans hz
  clear hx
  have hnot : ∀ (x : Bool) (w : World), (Op.unary .not (.bool x)).run Tryd.prog w = .ok (.bool (!x)) w := fun _ _ => rfl
  go_enter Tryd.func27, Tryd.ntmps27
  go_wp2_with fail
  with_reducible refine (register_c b m 2 0 2 0 10 rfl rfl rfl (by decide) x HX.out _ P0.out).mono ?_
  rintro q_ w' ⟨rfl, rfl⟩
  go_wp2
  all_goals exact bodyPost_ret (v := .bool z) (by simp [results, Tryd.results27, go_sem]) rfl ⟨rfl, rfl⟩
set_option maxHeartbeats 1000000 in
theorem ready_n (b : Nat) (m : M) (x : Int) (g0 : 0 ≤ x) (g1 : x < 256) (v : Int) (vn : Nat) (hv : v = vn) (h4 : vn < 4) (h2 : ¬ v = 2) (hx : m (vn * 5 + 2) = x) (z : Bool) (hz : decide (8 ≤ x) = z) (w : World) (h : Has w b (enc m)) : Calls Tryd.prog 27 #[.pointer (some ⟨b, 0, none⟩), .int .i64 v] w fun q_ w' => q_ = .returned (.bool z) ∧ w' = w := by
  have P0 := Lib.hid h
  clear h
  have HX := Lib.hid hx
  have HV := Lib.hid hv
  have q1 := (b248 x g0 g1).trans hz
  clear hx hv
  have hnot : ∀ (x : Bool) (w : World), (Op.unary .not (.bool x)).run Tryd.prog w = .ok (.bool (!x)) w := fun _ _ => rfl
  go_enter Tryd.func27, Tryd.ntmps27
  go_wp2_with fail
  with_reducible refine (register_c b m v 2 vn 2 (vn * 5 + 2) HV.out rfl rfl (by omega) x HX.out _ P0.out).mono ?_
  rintro q_ w' ⟨rfl, rfl⟩
  go_wp2
  all_goals exact bodyPost_ret (v := .bool z) (by simp [results, Tryd.results27, go_sem]) rfl ⟨rfl, rfl⟩
end Go.Proofs.YtonmnpadmphbdaaDoor
