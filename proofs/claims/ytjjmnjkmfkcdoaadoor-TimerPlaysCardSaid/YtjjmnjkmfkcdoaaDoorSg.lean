/-
  The signal, each way, of the program and of the document: for every timer; no condition but that each number fits, and that the table lies as it is laid.
-/
import Derived.Test.YtjjmnjkmfkcdoaaDoorBase
import Derived.Test.YtjjmnjkmfkcdoaaDoorBits
import Derived.Deep.Cut
import Derived.BigQuiet
import Derived.WalkSmall
namespace Go.Proofs.YtjjmnjkmfkcdoaaDoor
open Go.ChangeShapes Go.WideShapes Go.ChangeAt Go.RowKit
set_option linter.unusedVariables false
set_option linter.unusedSimpArgs false
set_option maxRecDepth 100000
set_option maxHeartbeats 1000000 in
theorem sg_0 (c a m k : Int) (o : Bool) (p : Nat) (hc0 : 0 ≤ c) (hc1 : c < 65536) (hk0 : 0 ≤ k) (hk1 : k < 256) (w : World) (hP : Has w p #[.int .u16 c, .int .u8 a, .int .u8 m, .int .u8 k, .bool o]) (hG : Glob w) (g1 : k / 4 % 2 = 0) : Calls Tryd.prog 19 #[.pointer (some ⟨p, 0, none⟩)] w fun q_ w' => q_ = .returned (.bool false) ∧ Below w.heap.size w w' := by
  obtain ⟨hs, t0, t1, t2, t3⟩ := hG
  obtain ⟨hc, hf⟩ := hP.out
  have e1 : bits .and .u8 k 4 = 0 := (and4 k hk0 hk1).trans (by omega)
  clear g1
  clear hs hP hf
  go_enter Tryd.func19, Tryd.ntmps19
  go_wp2
  go_quiet (fail)
  go_wp2
  all_goals exact bodyPost_ret (v := .bool false) (by simp [results, Tryd.results19, go_sem]) rfl ⟨rfl, by first | exact Below.refl _ _ | exact own1 _ _ | exact own2 _ _ _ | exact own3 _ _ _ _ | exact own4 _ _ _ _ _ | exact below_drewN (Below.refl _ _) _⟩
set_option maxHeartbeats 1000000 in
theorem sg_00 (c a m k : Int) (o : Bool) (p : Nat) (hc0 : 0 ≤ c) (hc1 : c < 65536) (hk0 : 0 ≤ k) (hk1 : k < 256) (w : World) (hP : Has w p #[.int .u16 c, .int .u8 a, .int .u8 m, .int .u8 k, .bool o]) (hG : Glob w) (g1 : k / 4 % 2 = 1) (g2 : k % 4 = 0) (g3 : c / 512 % 2 = 0) : Calls Tryd.prog 19 #[.pointer (some ⟨p, 0, none⟩)] w fun q_ w' => q_ = .returned (.bool false) ∧ Below w.heap.size w w' := by
  obtain ⟨hs, t0, t1, t2, t3⟩ := hG
  obtain ⟨hc, hf⟩ := hP.out
  have e1 : bits .and .u8 k 4 = 4 := (and4 k hk0 hk1).trans (by omega)
  have e2 : bits .and .u8 k 3 = 0 := (and3 k hk0 hk1).trans g2
  have e3 : bits .and .u16 c 512 = 0 := (w512 c hc0 hc1).trans (by omega)
  clear g1 g2 g3
  clear hs hP hf
  go_enter Tryd.func19, Tryd.ntmps19
  go_wp2
  go_quiet (fail)
  go_wp2
  all_goals exact bodyPost_ret (v := .bool false) (by simp [results, Tryd.results19, go_sem]) rfl ⟨rfl, by first | exact Below.refl _ _ | exact own1 _ _ | exact own2 _ _ _ | exact own3 _ _ _ _ | exact own4 _ _ _ _ _ | exact below_drewN (Below.refl _ _) _⟩
set_option maxHeartbeats 1000000 in
theorem sg_01 (c a m k : Int) (o : Bool) (p : Nat) (hc0 : 0 ≤ c) (hc1 : c < 65536) (hk0 : 0 ≤ k) (hk1 : k < 256) (w : World) (hP : Has w p #[.int .u16 c, .int .u8 a, .int .u8 m, .int .u8 k, .bool o]) (hG : Glob w) (g1 : k / 4 % 2 = 1) (g2 : k % 4 = 0) (g3 : c / 512 % 2 = 1) : Calls Tryd.prog 19 #[.pointer (some ⟨p, 0, none⟩)] w fun q_ w' => q_ = .returned (.bool true) ∧ Below w.heap.size w w' := by
  obtain ⟨hs, t0, t1, t2, t3⟩ := hG
  obtain ⟨hc, hf⟩ := hP.out
  have e1 : bits .and .u8 k 4 = 4 := (and4 k hk0 hk1).trans (by omega)
  have e2 : bits .and .u8 k 3 = 0 := (and3 k hk0 hk1).trans g2
  have e3 : bits .and .u16 c 512 = 512 := (w512 c hc0 hc1).trans (by omega)
  clear g1 g2 g3
  clear hs hP hf
  go_enter Tryd.func19, Tryd.ntmps19
  go_wp2
  go_quiet (fail)
  go_wp2
  all_goals exact bodyPost_ret (v := .bool true) (by simp [results, Tryd.results19, go_sem]) rfl ⟨rfl, by first | exact Below.refl _ _ | exact own1 _ _ | exact own2 _ _ _ | exact own3 _ _ _ _ | exact own4 _ _ _ _ _ | exact below_drewN (Below.refl _ _) _⟩
set_option maxHeartbeats 1000000 in
theorem sg_10 (c a m k : Int) (o : Bool) (p : Nat) (hc0 : 0 ≤ c) (hc1 : c < 65536) (hk0 : 0 ≤ k) (hk1 : k < 256) (w : World) (hP : Has w p #[.int .u16 c, .int .u8 a, .int .u8 m, .int .u8 k, .bool o]) (hG : Glob w) (g1 : k / 4 % 2 = 1) (g2 : k % 4 = 1) (g3 : c / 8 % 2 = 0) : Calls Tryd.prog 19 #[.pointer (some ⟨p, 0, none⟩)] w fun q_ w' => q_ = .returned (.bool false) ∧ Below w.heap.size w w' := by
  obtain ⟨hs, t0, t1, t2, t3⟩ := hG
  obtain ⟨hc, hf⟩ := hP.out
  have e1 : bits .and .u8 k 4 = 4 := (and4 k hk0 hk1).trans (by omega)
  have e2 : bits .and .u8 k 3 = 1 := (and3 k hk0 hk1).trans g2
  have e3 : bits .and .u16 c 8 = 0 := (w8 c hc0 hc1).trans (by omega)
  clear g1 g2 g3
  clear hs hP hf
  go_enter Tryd.func19, Tryd.ntmps19
  go_wp2
  go_quiet (fail)
  go_wp2
  all_goals exact bodyPost_ret (v := .bool false) (by simp [results, Tryd.results19, go_sem]) rfl ⟨rfl, by first | exact Below.refl _ _ | exact own1 _ _ | exact own2 _ _ _ | exact own3 _ _ _ _ | exact own4 _ _ _ _ _ | exact below_drewN (Below.refl _ _) _⟩
set_option maxHeartbeats 1000000 in
theorem sg_11 (c a m k : Int) (o : Bool) (p : Nat) (hc0 : 0 ≤ c) (hc1 : c < 65536) (hk0 : 0 ≤ k) (hk1 : k < 256) (w : World) (hP : Has w p #[.int .u16 c, .int .u8 a, .int .u8 m, .int .u8 k, .bool o]) (hG : Glob w) (g1 : k / 4 % 2 = 1) (g2 : k % 4 = 1) (g3 : c / 8 % 2 = 1) : Calls Tryd.prog 19 #[.pointer (some ⟨p, 0, none⟩)] w fun q_ w' => q_ = .returned (.bool true) ∧ Below w.heap.size w w' := by
  obtain ⟨hs, t0, t1, t2, t3⟩ := hG
  obtain ⟨hc, hf⟩ := hP.out
  have e1 : bits .and .u8 k 4 = 4 := (and4 k hk0 hk1).trans (by omega)
  have e2 : bits .and .u8 k 3 = 1 := (and3 k hk0 hk1).trans g2
  have e3 : bits .and .u16 c 8 = 8 := (w8 c hc0 hc1).trans (by omega)
  clear g1 g2 g3
  clear hs hP hf
  go_enter Tryd.func19, Tryd.ntmps19
  go_wp2
  go_quiet (fail)
  go_wp2
  all_goals exact bodyPost_ret (v := .bool true) (by simp [results, Tryd.results19, go_sem]) rfl ⟨rfl, by first | exact Below.refl _ _ | exact own1 _ _ | exact own2 _ _ _ | exact own3 _ _ _ _ | exact own4 _ _ _ _ _ | exact below_drewN (Below.refl _ _) _⟩
set_option maxHeartbeats 1000000 in
theorem sg_20 (c a m k : Int) (o : Bool) (p : Nat) (hc0 : 0 ≤ c) (hc1 : c < 65536) (hk0 : 0 ≤ k) (hk1 : k < 256) (w : World) (hP : Has w p #[.int .u16 c, .int .u8 a, .int .u8 m, .int .u8 k, .bool o]) (hG : Glob w) (g1 : k / 4 % 2 = 1) (g2 : k % 4 = 2) (g3 : c / 32 % 2 = 0) : Calls Tryd.prog 19 #[.pointer (some ⟨p, 0, none⟩)] w fun q_ w' => q_ = .returned (.bool false) ∧ Below w.heap.size w w' := by
  obtain ⟨hs, t0, t1, t2, t3⟩ := hG
  obtain ⟨hc, hf⟩ := hP.out
  have e1 : bits .and .u8 k 4 = 4 := (and4 k hk0 hk1).trans (by omega)
  have e2 : bits .and .u8 k 3 = 2 := (and3 k hk0 hk1).trans g2
  have e3 : bits .and .u16 c 32 = 0 := (w32 c hc0 hc1).trans (by omega)
  clear g1 g2 g3
  clear hs hP hf
  go_enter Tryd.func19, Tryd.ntmps19
  go_wp2
  go_quiet (fail)
  go_wp2
  all_goals exact bodyPost_ret (v := .bool false) (by simp [results, Tryd.results19, go_sem]) rfl ⟨rfl, by first | exact Below.refl _ _ | exact own1 _ _ | exact own2 _ _ _ | exact own3 _ _ _ _ | exact own4 _ _ _ _ _ | exact below_drewN (Below.refl _ _) _⟩
set_option maxHeartbeats 1000000 in
theorem sg_21 (c a m k : Int) (o : Bool) (p : Nat) (hc0 : 0 ≤ c) (hc1 : c < 65536) (hk0 : 0 ≤ k) (hk1 : k < 256) (w : World) (hP : Has w p #[.int .u16 c, .int .u8 a, .int .u8 m, .int .u8 k, .bool o]) (hG : Glob w) (g1 : k / 4 % 2 = 1) (g2 : k % 4 = 2) (g3 : c / 32 % 2 = 1) : Calls Tryd.prog 19 #[.pointer (some ⟨p, 0, none⟩)] w fun q_ w' => q_ = .returned (.bool true) ∧ Below w.heap.size w w' := by
  obtain ⟨hs, t0, t1, t2, t3⟩ := hG
  obtain ⟨hc, hf⟩ := hP.out
  have e1 : bits .and .u8 k 4 = 4 := (and4 k hk0 hk1).trans (by omega)
  have e2 : bits .and .u8 k 3 = 2 := (and3 k hk0 hk1).trans g2
  have e3 : bits .and .u16 c 32 = 32 := (w32 c hc0 hc1).trans (by omega)
  clear g1 g2 g3
  clear hs hP hf
  go_enter Tryd.func19, Tryd.ntmps19
  go_wp2
  go_quiet (fail)
  go_wp2
  all_goals exact bodyPost_ret (v := .bool true) (by simp [results, Tryd.results19, go_sem]) rfl ⟨rfl, by first | exact Below.refl _ _ | exact own1 _ _ | exact own2 _ _ _ | exact own3 _ _ _ _ | exact own4 _ _ _ _ _ | exact below_drewN (Below.refl _ _) _⟩
set_option maxHeartbeats 1000000 in
theorem sg_30 (c a m k : Int) (o : Bool) (p : Nat) (hc0 : 0 ≤ c) (hc1 : c < 65536) (hk0 : 0 ≤ k) (hk1 : k < 256) (w : World) (hP : Has w p #[.int .u16 c, .int .u8 a, .int .u8 m, .int .u8 k, .bool o]) (hG : Glob w) (g1 : k / 4 % 2 = 1) (g2 : k % 4 = 3) (g3 : c / 128 % 2 = 0) : Calls Tryd.prog 19 #[.pointer (some ⟨p, 0, none⟩)] w fun q_ w' => q_ = .returned (.bool false) ∧ Below w.heap.size w w' := by
  obtain ⟨hs, t0, t1, t2, t3⟩ := hG
  obtain ⟨hc, hf⟩ := hP.out
  have e1 : bits .and .u8 k 4 = 4 := (and4 k hk0 hk1).trans (by omega)
  have e2 : bits .and .u8 k 3 = 3 := (and3 k hk0 hk1).trans g2
  have e3 : bits .and .u16 c 128 = 0 := (w128 c hc0 hc1).trans (by omega)
  clear g1 g2 g3
  clear hs hP hf
  go_enter Tryd.func19, Tryd.ntmps19
  go_wp2
  go_quiet (fail)
  go_wp2
  all_goals exact bodyPost_ret (v := .bool false) (by simp [results, Tryd.results19, go_sem]) rfl ⟨rfl, by first | exact Below.refl _ _ | exact own1 _ _ | exact own2 _ _ _ | exact own3 _ _ _ _ | exact own4 _ _ _ _ _ | exact below_drewN (Below.refl _ _) _⟩
set_option maxHeartbeats 1000000 in
theorem sg_31 (c a m k : Int) (o : Bool) (p : Nat) (hc0 : 0 ≤ c) (hc1 : c < 65536) (hk0 : 0 ≤ k) (hk1 : k < 256) (w : World) (hP : Has w p #[.int .u16 c, .int .u8 a, .int .u8 m, .int .u8 k, .bool o]) (hG : Glob w) (g1 : k / 4 % 2 = 1) (g2 : k % 4 = 3) (g3 : c / 128 % 2 = 1) : Calls Tryd.prog 19 #[.pointer (some ⟨p, 0, none⟩)] w fun q_ w' => q_ = .returned (.bool true) ∧ Below w.heap.size w w' := by
  obtain ⟨hs, t0, t1, t2, t3⟩ := hG
  obtain ⟨hc, hf⟩ := hP.out
  have e1 : bits .and .u8 k 4 = 4 := (and4 k hk0 hk1).trans (by omega)
  have e2 : bits .and .u8 k 3 = 3 := (and3 k hk0 hk1).trans g2
  have e3 : bits .and .u16 c 128 = 128 := (w128 c hc0 hc1).trans (by omega)
  clear g1 g2 g3
  clear hs hP hf
  go_enter Tryd.func19, Tryd.ntmps19
  go_wp2
  go_quiet (fail)
  go_wp2
  all_goals exact bodyPost_ret (v := .bool true) (by simp [results, Tryd.results19, go_sem]) rfl ⟨rfl, by first | exact Below.refl _ _ | exact own1 _ _ | exact own2 _ _ _ | exact own3 _ _ _ _ | exact own4 _ _ _ _ _ | exact below_drewN (Below.refl _ _) _⟩
theorem sg_c (c a m k : Int) (o : Bool) (p : Nat) (s : Bool) (hc0 : 0 ≤ c) (hc1 : c < 65536) (hk0 : 0 ≤ k) (hk1 : k < 256) (hs : sigV c k = s) (w : World) (hP : Has w p #[.int .u16 c, .int .u8 a, .int .u8 m, .int .u8 k, .bool o]) (hG : Glob w) : Calls Tryd.prog 19 #[.pointer (some ⟨p, 0, none⟩)] w fun q_ w' => q_ = .returned (.bool s) ∧ Below w.heap.size w w' := by
  rcases (by omega : k / 4 % 2 = 0 ∨ k / 4 % 2 = 1) with g1 | g1
  · rw [sig_0 c k g1] at hs
    subst hs
    exact sg_0 c a m k o p hc0 hc1 hk0 hk1 w hP hG g1
  rcases (by omega : k % 4 = 0 ∨ k % 4 = 1 ∨ k % 4 = 2 ∨ k % 4 = 3) with g2 | g2 | g2 | g2
  · have hb : bitV k = 512 := by unfold bitV; rw [g2]; rfl
    rcases (by omega : c / 512 % 2 = 0 ∨ c / 512 % 2 = 1) with g3 | g3
    · rw [sig_1 c k 512 0 g1 hb g3] at hs
      subst hs
      exact sg_00 c a m k o p hc0 hc1 hk0 hk1 w hP hG g1 g2 g3
    · rw [sig_1 c k 512 1 g1 hb g3] at hs
      subst hs
      exact sg_01 c a m k o p hc0 hc1 hk0 hk1 w hP hG g1 g2 g3
  · have hb : bitV k = 8 := by unfold bitV; rw [g2]; rfl
    rcases (by omega : c / 8 % 2 = 0 ∨ c / 8 % 2 = 1) with g3 | g3
    · rw [sig_1 c k 8 0 g1 hb g3] at hs
      subst hs
      exact sg_10 c a m k o p hc0 hc1 hk0 hk1 w hP hG g1 g2 g3
    · rw [sig_1 c k 8 1 g1 hb g3] at hs
      subst hs
      exact sg_11 c a m k o p hc0 hc1 hk0 hk1 w hP hG g1 g2 g3
  · have hb : bitV k = 32 := by unfold bitV; rw [g2]; rfl
    rcases (by omega : c / 32 % 2 = 0 ∨ c / 32 % 2 = 1) with g3 | g3
    · rw [sig_1 c k 32 0 g1 hb g3] at hs
      subst hs
      exact sg_20 c a m k o p hc0 hc1 hk0 hk1 w hP hG g1 g2 g3
    · rw [sig_1 c k 32 1 g1 hb g3] at hs
      subst hs
      exact sg_21 c a m k o p hc0 hc1 hk0 hk1 w hP hG g1 g2 g3
  · have hb : bitV k = 128 := by unfold bitV; rw [g2]; rfl
    rcases (by omega : c / 128 % 2 = 0 ∨ c / 128 % 2 = 1) with g3 | g3
    · rw [sig_1 c k 128 0 g1 hb g3] at hs
      subst hs
      exact sg_30 c a m k o p hc0 hc1 hk0 hk1 w hP hG g1 g2 g3
    · rw [sig_1 c k 128 1 g1 hb g3] at hs
      subst hs
      exact sg_31 c a m k o p hc0 hc1 hk0 hk1 w hP hG g1 g2 g3
set_option maxHeartbeats 1000000 in
theorem rs_0 (c a m k : Int) (o : Bool) (hc0 : 0 ≤ c) (hc1 : c < 65536) (hk0 : 0 ≤ k) (hk1 : k < 256) (g1 : k / 4 % 2 = 0) (w : World) : Calls Tryd.prog 16 #[.agg #[.int .u16 c, .int .u8 a, .int .u8 m, .int .u8 k, .bool o]] w fun q_ w' => q_ = .returned (.bool false) ∧ Below w.heap.size w w' := by
  go_enter Tryd.func16, Tryd.ntmps16
  go_wp2
  all_goals exact bodyPost_ret (v := .bool false) (by simp [results, Tryd.results16, go_sem]) rfl ⟨rfl, by first | exact Below.refl _ _ | exact own1 _ _ | exact own2 _ _ _ | exact own3 _ _ _ _ | exact own4 _ _ _ _ _ | exact below_drewN (Below.refl _ _) _⟩
set_option maxHeartbeats 1000000 in
theorem rs_00 (c a m k : Int) (o : Bool) (hc0 : 0 ≤ c) (hc1 : c < 65536) (hk0 : 0 ≤ k) (hk1 : k < 256) (g1 : k / 4 % 2 = 1) (g2 : k % 4 = 0) (g3 : c / 512 % 2 = 0) (w : World) : Calls Tryd.prog 16 #[.agg #[.int .u16 c, .int .u8 a, .int .u8 m, .int .u8 k, .bool o]] w fun q_ w' => q_ = .returned (.bool false) ∧ Below w.heap.size w w' := by
  go_enter Tryd.func16, Tryd.ntmps16
  go_wp2
  all_goals exact bodyPost_ret (v := .bool false) (by simp [results, Tryd.results16, go_sem]) rfl ⟨rfl, by first | exact Below.refl _ _ | exact own1 _ _ | exact own2 _ _ _ | exact own3 _ _ _ _ | exact own4 _ _ _ _ _ | exact below_drewN (Below.refl _ _) _⟩
set_option maxHeartbeats 1000000 in
theorem rs_01 (c a m k : Int) (o : Bool) (hc0 : 0 ≤ c) (hc1 : c < 65536) (hk0 : 0 ≤ k) (hk1 : k < 256) (g1 : k / 4 % 2 = 1) (g2 : k % 4 = 0) (g3 : c / 512 % 2 = 1) (w : World) : Calls Tryd.prog 16 #[.agg #[.int .u16 c, .int .u8 a, .int .u8 m, .int .u8 k, .bool o]] w fun q_ w' => q_ = .returned (.bool true) ∧ Below w.heap.size w w' := by
  go_enter Tryd.func16, Tryd.ntmps16
  go_wp2
  all_goals exact bodyPost_ret (v := .bool true) (by simp [results, Tryd.results16, go_sem]) rfl ⟨rfl, by first | exact Below.refl _ _ | exact own1 _ _ | exact own2 _ _ _ | exact own3 _ _ _ _ | exact own4 _ _ _ _ _ | exact below_drewN (Below.refl _ _) _⟩
set_option maxHeartbeats 1000000 in
theorem rs_10 (c a m k : Int) (o : Bool) (hc0 : 0 ≤ c) (hc1 : c < 65536) (hk0 : 0 ≤ k) (hk1 : k < 256) (g1 : k / 4 % 2 = 1) (g2 : k % 4 = 1) (g3 : c / 8 % 2 = 0) (w : World) : Calls Tryd.prog 16 #[.agg #[.int .u16 c, .int .u8 a, .int .u8 m, .int .u8 k, .bool o]] w fun q_ w' => q_ = .returned (.bool false) ∧ Below w.heap.size w w' := by
  go_enter Tryd.func16, Tryd.ntmps16
  go_wp2
  all_goals exact bodyPost_ret (v := .bool false) (by simp [results, Tryd.results16, go_sem]) rfl ⟨rfl, by first | exact Below.refl _ _ | exact own1 _ _ | exact own2 _ _ _ | exact own3 _ _ _ _ | exact own4 _ _ _ _ _ | exact below_drewN (Below.refl _ _) _⟩
set_option maxHeartbeats 1000000 in
theorem rs_11 (c a m k : Int) (o : Bool) (hc0 : 0 ≤ c) (hc1 : c < 65536) (hk0 : 0 ≤ k) (hk1 : k < 256) (g1 : k / 4 % 2 = 1) (g2 : k % 4 = 1) (g3 : c / 8 % 2 = 1) (w : World) : Calls Tryd.prog 16 #[.agg #[.int .u16 c, .int .u8 a, .int .u8 m, .int .u8 k, .bool o]] w fun q_ w' => q_ = .returned (.bool true) ∧ Below w.heap.size w w' := by
  go_enter Tryd.func16, Tryd.ntmps16
  go_wp2
  all_goals exact bodyPost_ret (v := .bool true) (by simp [results, Tryd.results16, go_sem]) rfl ⟨rfl, by first | exact Below.refl _ _ | exact own1 _ _ | exact own2 _ _ _ | exact own3 _ _ _ _ | exact own4 _ _ _ _ _ | exact below_drewN (Below.refl _ _) _⟩
set_option maxHeartbeats 1000000 in
theorem rs_20 (c a m k : Int) (o : Bool) (hc0 : 0 ≤ c) (hc1 : c < 65536) (hk0 : 0 ≤ k) (hk1 : k < 256) (g1 : k / 4 % 2 = 1) (g2 : k % 4 = 2) (g3 : c / 32 % 2 = 0) (w : World) : Calls Tryd.prog 16 #[.agg #[.int .u16 c, .int .u8 a, .int .u8 m, .int .u8 k, .bool o]] w fun q_ w' => q_ = .returned (.bool false) ∧ Below w.heap.size w w' := by
  go_enter Tryd.func16, Tryd.ntmps16
  go_wp2
  all_goals exact bodyPost_ret (v := .bool false) (by simp [results, Tryd.results16, go_sem]) rfl ⟨rfl, by first | exact Below.refl _ _ | exact own1 _ _ | exact own2 _ _ _ | exact own3 _ _ _ _ | exact own4 _ _ _ _ _ | exact below_drewN (Below.refl _ _) _⟩
set_option maxHeartbeats 1000000 in
theorem rs_21 (c a m k : Int) (o : Bool) (hc0 : 0 ≤ c) (hc1 : c < 65536) (hk0 : 0 ≤ k) (hk1 : k < 256) (g1 : k / 4 % 2 = 1) (g2 : k % 4 = 2) (g3 : c / 32 % 2 = 1) (w : World) : Calls Tryd.prog 16 #[.agg #[.int .u16 c, .int .u8 a, .int .u8 m, .int .u8 k, .bool o]] w fun q_ w' => q_ = .returned (.bool true) ∧ Below w.heap.size w w' := by
  go_enter Tryd.func16, Tryd.ntmps16
  go_wp2
  all_goals exact bodyPost_ret (v := .bool true) (by simp [results, Tryd.results16, go_sem]) rfl ⟨rfl, by first | exact Below.refl _ _ | exact own1 _ _ | exact own2 _ _ _ | exact own3 _ _ _ _ | exact own4 _ _ _ _ _ | exact below_drewN (Below.refl _ _) _⟩
set_option maxHeartbeats 1000000 in
theorem rs_30 (c a m k : Int) (o : Bool) (hc0 : 0 ≤ c) (hc1 : c < 65536) (hk0 : 0 ≤ k) (hk1 : k < 256) (g1 : k / 4 % 2 = 1) (g2 : k % 4 = 3) (g3 : c / 128 % 2 = 0) (w : World) : Calls Tryd.prog 16 #[.agg #[.int .u16 c, .int .u8 a, .int .u8 m, .int .u8 k, .bool o]] w fun q_ w' => q_ = .returned (.bool false) ∧ Below w.heap.size w w' := by
  go_enter Tryd.func16, Tryd.ntmps16
  go_wp2
  all_goals exact bodyPost_ret (v := .bool false) (by simp [results, Tryd.results16, go_sem]) rfl ⟨rfl, by first | exact Below.refl _ _ | exact own1 _ _ | exact own2 _ _ _ | exact own3 _ _ _ _ | exact own4 _ _ _ _ _ | exact below_drewN (Below.refl _ _) _⟩
set_option maxHeartbeats 1000000 in
theorem rs_31 (c a m k : Int) (o : Bool) (hc0 : 0 ≤ c) (hc1 : c < 65536) (hk0 : 0 ≤ k) (hk1 : k < 256) (g1 : k / 4 % 2 = 1) (g2 : k % 4 = 3) (g3 : c / 128 % 2 = 1) (w : World) : Calls Tryd.prog 16 #[.agg #[.int .u16 c, .int .u8 a, .int .u8 m, .int .u8 k, .bool o]] w fun q_ w' => q_ = .returned (.bool true) ∧ Below w.heap.size w w' := by
  go_enter Tryd.func16, Tryd.ntmps16
  go_wp2
  all_goals exact bodyPost_ret (v := .bool true) (by simp [results, Tryd.results16, go_sem]) rfl ⟨rfl, by first | exact Below.refl _ _ | exact own1 _ _ | exact own2 _ _ _ | exact own3 _ _ _ _ | exact own4 _ _ _ _ _ | exact below_drewN (Below.refl _ _) _⟩
theorem rs_c (c a m k : Int) (o : Bool) (s : Bool) (hc0 : 0 ≤ c) (hc1 : c < 65536) (hk0 : 0 ≤ k) (hk1 : k < 256) (hs : sigV c k = s) (w : World) : Calls Tryd.prog 16 #[.agg #[.int .u16 c, .int .u8 a, .int .u8 m, .int .u8 k, .bool o]] w fun q_ w' => q_ = .returned (.bool s) ∧ Below w.heap.size w w' := by
  rcases (by omega : k / 4 % 2 = 0 ∨ k / 4 % 2 = 1) with g1 | g1
  · rw [sig_0 c k g1] at hs
    subst hs
    exact rs_0 c a m k o hc0 hc1 hk0 hk1 g1 w
  rcases (by omega : k % 4 = 0 ∨ k % 4 = 1 ∨ k % 4 = 2 ∨ k % 4 = 3) with g2 | g2 | g2 | g2
  · have hb : bitV k = 512 := by unfold bitV; rw [g2]; rfl
    rcases (by omega : c / 512 % 2 = 0 ∨ c / 512 % 2 = 1) with g3 | g3
    · rw [sig_1 c k 512 0 g1 hb g3] at hs
      subst hs
      exact rs_00 c a m k o hc0 hc1 hk0 hk1 g1 g2 g3 w
    · rw [sig_1 c k 512 1 g1 hb g3] at hs
      subst hs
      exact rs_01 c a m k o hc0 hc1 hk0 hk1 g1 g2 g3 w
  · have hb : bitV k = 8 := by unfold bitV; rw [g2]; rfl
    rcases (by omega : c / 8 % 2 = 0 ∨ c / 8 % 2 = 1) with g3 | g3
    · rw [sig_1 c k 8 0 g1 hb g3] at hs
      subst hs
      exact rs_10 c a m k o hc0 hc1 hk0 hk1 g1 g2 g3 w
    · rw [sig_1 c k 8 1 g1 hb g3] at hs
      subst hs
      exact rs_11 c a m k o hc0 hc1 hk0 hk1 g1 g2 g3 w
  · have hb : bitV k = 32 := by unfold bitV; rw [g2]; rfl
    rcases (by omega : c / 32 % 2 = 0 ∨ c / 32 % 2 = 1) with g3 | g3
    · rw [sig_1 c k 32 0 g1 hb g3] at hs
      subst hs
      exact rs_20 c a m k o hc0 hc1 hk0 hk1 g1 g2 g3 w
    · rw [sig_1 c k 32 1 g1 hb g3] at hs
      subst hs
      exact rs_21 c a m k o hc0 hc1 hk0 hk1 g1 g2 g3 w
  · have hb : bitV k = 128 := by unfold bitV; rw [g2]; rfl
    rcases (by omega : c / 128 % 2 = 0 ∨ c / 128 % 2 = 1) with g3 | g3
    · rw [sig_1 c k 128 0 g1 hb g3] at hs
      subst hs
      exact rs_30 c a m k o hc0 hc1 hk0 hk1 g1 g2 g3 w
    · rw [sig_1 c k 128 1 g1 hb g3] at hs
      subst hs
      exact rs_31 c a m k o hc0 hc1 hk0 hk1 g1 g2 g3 w
end Go.Proofs.YtjjmnjkmfkcdoaaDoor
