/-
  The walk through SnapApart: for every world in which what came in lies as told; no other condition.
-/
import Derived.Test.YtklbhbappaibgaaAwk
namespace Go.Proofs.Ytklbhbappaibgaa
open Go.ChangeShapes Go.WideShapes Go.ChangeAt Go.RowKit
set_option linter.unusedVariables false
set_option linter.unusedSimpArgs false
set_option maxRecDepth 100000
set_option maxHeartbeats 2000000 in
theorem apart_l0 (a0 a1 a2 : Option Addr) (c0 c1 c2 : Nat) (n0 : Nat) (hn0 : ¬ n0 ≤ 3000) (n1 : Nat) (n2 : Nat) (w : World) : Calls Try.prog 8 #[.slice a0 n0 c0, .slice a1 n1 c1, .slice a2 n2 c2] w fun q_ w' => q_ = .returned (.bool true) ∧ Below w.heap.size w w' := by
 have in0 : (3000 : Int) < n0 := by omega
 clear hn0
 have AW := Lib.hid awake_c
 have hnot : ∀ (x : Bool) (w : World), (Op.unary .not (.bool x)).run Try.prog w = .ok (.bool (!x)) w := fun _ _ => rfl
 go_enter Try.func8, Try.ntmps8
 go_wp2_with (fail)
 with_reducible refine (AW.out w).mono ?_
 rintro q_ u1 ⟨rfl, b1⟩
 have B1 := Lib.hid b1
 clear b1
 go_wp2_with (fail)
 with_reducible refine (AW.out u1).mono ?_
 rintro q_ u2 ⟨rfl, b2⟩
 have B2 := Lib.hid (via B1.out b2)
 clear b2 B1
 go_wp2
 go_ret
 exact ⟨rfl, B2.out⟩
set_option maxHeartbeats 2000000 in
theorem apart_l1 (a0 a1 a2 : Option Addr) (c0 c1 c2 : Nat) (n0 : Nat) (hn0 : n0 ≤ 3000) (n1 : Nat) (hn1 : ¬ n1 ≤ 60) (n2 : Nat) (w : World) : Calls Try.prog 8 #[.slice a0 n0 c0, .slice a1 n1 c1, .slice a2 n2 c2] w fun q_ w' => q_ = .returned (.bool true) ∧ Below w.heap.size w w' := by
 have in0 : ¬ (3000 : Int) < n0 := by omega
 have in1 : (60 : Int) < n1 := by omega
 clear hn0 hn1
 have AW := Lib.hid awake_c
 have hnot : ∀ (x : Bool) (w : World), (Op.unary .not (.bool x)).run Try.prog w = .ok (.bool (!x)) w := fun _ _ => rfl
 go_enter Try.func8, Try.ntmps8
 go_wp2_with (fail)
 with_reducible refine (AW.out w).mono ?_
 rintro q_ u1 ⟨rfl, b1⟩
 have B1 := Lib.hid b1
 clear b1
 go_wp2_with (fail)
 with_reducible refine (AW.out u1).mono ?_
 rintro q_ u2 ⟨rfl, b2⟩
 have B2 := Lib.hid (via B1.out b2)
 clear b2 B1
 go_wp2
 go_ret
 exact ⟨rfl, B2.out⟩
set_option maxHeartbeats 2000000 in
theorem apart_l2 (a0 a1 a2 : Option Addr) (c0 c1 c2 : Nat) (n0 : Nat) (hn0 : n0 ≤ 3000) (n1 : Nat) (hn1 : n1 ≤ 60) (n2 : Nat) (hn2 : ¬ n2 ≤ 60) (w : World) : Calls Try.prog 8 #[.slice a0 n0 c0, .slice a1 n1 c1, .slice a2 n2 c2] w fun q_ w' => q_ = .returned (.bool true) ∧ Below w.heap.size w w' := by
 have in0 : ¬ (3000 : Int) < n0 := by omega
 have in1 : ¬ (60 : Int) < n1 := by omega
 have in2 : (60 : Int) < n2 := by omega
 clear hn0 hn1 hn2
 have AW := Lib.hid awake_c
 have hnot : ∀ (x : Bool) (w : World), (Op.unary .not (.bool x)).run Try.prog w = .ok (.bool (!x)) w := fun _ _ => rfl
 go_enter Try.func8, Try.ntmps8
 go_wp2_with (fail)
 with_reducible refine (AW.out w).mono ?_
 rintro q_ u1 ⟨rfl, b1⟩
 have B1 := Lib.hid b1
 clear b1
 go_wp2_with (fail)
 with_reducible refine (AW.out u1).mono ?_
 rintro q_ u2 ⟨rfl, b2⟩
 have B2 := Lib.hid (via B1.out b2)
 clear b2 B1
 go_wp2
 go_ret
 exact ⟨rfl, B2.out⟩
set_option maxHeartbeats 8000000 in
theorem apart_some (v0 v1 v2 : Value) (L : List Nat) (n1 n2 : Nat) (h0 : L.length ≤ 3000) (h1 : n1 ≤ 60) (h2 : n2 ≤ 60) (w : World) (R : Rd w v0 L) (P1 : Pa w v1 n1) (P2 : Pa w v2 n2) : Calls Try.prog 8 #[v0, v1, v2] w fun q_ w' => q_ = .returned (.bool true) ∧ Below w.heap.size w w' := by
 have R0 := Lib.hid R
 have Q1 := Lib.hid P1
 have Q2 := Lib.hid P2
 obtain ⟨a0, n0, c0, rfl, m0, _, _, _, _⟩ := R.open
 obtain ⟨a1, c1, f1, g1, rfl, _⟩ := P1
 obtain ⟨a2, c2, f2, g2, rfl, _⟩ := P2
 have M0 := Lib.hid m0
 rw [m0] at h0
 have i0 : ¬ (3000 : Int) < n0 := by omega
 have i1 : ¬ (60 : Int) < n1 := by omega
 have i2 : ¬ (60 : Int) < n2 := by omega
 have AW := Lib.hid awake_c
 have hnot : ∀ (x : Bool) (w : World), (Op.unary .not (.bool x)).run Try.prog w = .ok (.bool (!x)) w := fun _ _ => rfl
 clear R m0
 go_enter Try.func8, Try.ntmps8
 go_wp2_with (fail)
 with_reducible refine (AW.out w).mono ?_
 rintro q_ u1 ⟨rfl, b1⟩
 have B1 := Lib.hid b1
 clear b1
 go_wp2_with (fail)
 refine (changed_c _ _ L n1 (by rw [M0.out]; omega) h1 u1 (R0.out.below B1.out) (Q1.out.below B1.out)).mono ?_
 rintro q_ u2 ⟨s1, C, rfl, hC, o2, b2⟩
 have C1 := Lib.hid o2.rd
 have CL := Lib.hid (show C.length = n0 by rw [hC]; exact M0.out)
 have B2 := Lib.hid (via B1.out b2)
 clear hC o2 b2 B1
 go_wp2_with (fail)
 refine (changed_c _ _ L n2 (by rw [M0.out]; omega) h2 u2 (R0.out.below B2.out) (Q2.out.below B2.out)).mono ?_
 rintro q_ u3 ⟨s2, D, rfl, hD, o3, b3⟩
 have D1 := Lib.hid o3.rd
 have C2 := Lib.hid (C1.out.below b3)
 have DL := Lib.hid (show D.length = n0 by rw [hD]; exact M0.out)
 have B3 := Lib.hid (via B2.out b3)
 clear hD o3 b3 B2 C1
 go_wp2_with (fail)
 refine (pack_c _ s1 L C (by rw [M0.out]; omega) (by rw [CL.out]; omega) u3 (R0.out.below B3.out) C2.out).mono ?_
 rintro q_ u4 ⟨s3, rfl, o4, b4⟩
 rw [if_pos (by rw [M0.out, CL.out])] at o4 ⊢
 have K1 := Lib.hid o4.rd
 have C3 := Lib.hid (C2.out.below b4)
 have D2 := Lib.hid (D1.out.below b4)
 have B4 := Lib.hid (via B3.out b4)
 clear o4 b4 B3 C2 D1
 go_wp2_with (fail)
 refine (pack_c _ s2 L D (by rw [M0.out]; omega) (by rw [DL.out]; omega) u4 (R0.out.below B4.out) D2.out).mono ?_
 rintro q_ u5 ⟨s4, rfl, o5, b5⟩
 rw [if_pos (by rw [M0.out, DL.out])] at o5 ⊢
 have K3 := Lib.hid o5.rd
 have K2 := Lib.hid (K1.out.below b5)
 have C4 := Lib.hid (C3.out.below b5)
 have D3 := Lib.hid (D2.out.below b5)
 have B5 := Lib.hid (via B4.out b5)
 clear o5 b5 B4 C3 D2 K1
 obtain ⟨z, hz⟩ : ∃ z : Bool, z = decide (C = D) := ⟨_, rfl⟩
 have Z1 := Lib.hid (show z = true ↔ C = D by rw [hz]; simp)
 have Z2 := Lib.hid (show z = true ↔ pk L C = pk L D by
  rw [Z1.out]
  exact ⟨fun e => by rw [e], fun e => pk_inj (by rw [M0.out]; omega) (by rw [CL.out, M0.out]) (by rw [DL.out, M0.out]) e⟩)
 have PL := Lib.hid (pk_len _ L D (Nat.le_refl _) (by rw [M0.out, DL.out]) (by rw [DL.out]; omega))
 clear hz
 go_wp2_with (fail)
 refine (same_c s3 s4 (pk L C) (pk L D) z Z2.out (by have := PL.out; have := DL.out; omega) u5 K2.out K3.out).mono ?_
 rintro q_ u6 ⟨rfl, b6⟩
 have C5 := Lib.hid (C4.out.below b6)
 have D4 := Lib.hid (D3.out.below b6)
 have B6 := Lib.hid (via B5.out b6)
 clear b6 B5 C4 D3
 go_wp2_with (fail)
 refine (same_c s1 s2 C D z Z1.out (by rw [DL.out]; omega) u6 C5.out D4.out).mono ?_
 rintro q_ u7 ⟨rfl, b7⟩
 have B7 := Lib.hid (via B6.out b7)
 clear b7 B6
 cases z
 all_goals go_wp2
 all_goals go_ret
 all_goals exact ⟨rfl, B7.out⟩
theorem apart_walk (v0 v1 v2 : Value) (L : List Nat) (n1 n2 : Nat) (hn0 : L.length ≤ 9223372036854775807) (hn1 : n1 ≤ 9223372036854775807) (hn2 : n2 ≤ 9223372036854775807) (w : World) (R : Rd w v0 L) (P1 : Pa w v1 n1) (P2 : Pa w v2 n2) : Calls Try.prog 8 #[v0, v1, v2] w fun q_ w' => q_ = .returned (.bool true) ∧ Below w.heap.size w w' := by
 by_cases h : L.length ≤ 3000 ∧ n1 ≤ 60 ∧ n2 ≤ 60
 ·exact apart_some v0 v1 v2 L n1 n2 h.1 h.2.1 h.2.2 w R P1 P2
 obtain ⟨a0, n0, c0, rfl, m0, _, _, _, _⟩ := R.open
 obtain ⟨a1, c1, f1, g1, rfl, _⟩ := P1
 obtain ⟨a2, c2, f2, g2, rfl, _⟩ := P2
 rw [m0] at h
 by_cases k0 : n0 ≤ 3000
 ·by_cases k1 : n1 ≤ 60
  ·exact apart_l2 a0 a1 a2 c0 c1 c2 n0 k0 n1 k1 n2 (fun k2 => h ⟨k0, k1, k2⟩) w
  ·exact apart_l1 a0 a1 a2 c0 c1 c2 n0 k0 n1 k1 n2 w
 ·exact apart_l0 a0 a1 a2 c0 c1 c2 n0 k0 n1 n2 w
end Go.Proofs.Ytklbhbappaibgaa
