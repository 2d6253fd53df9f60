/-
  The walk through SnapBack: for every world in which what came in lies as told; no other condition.
-/
import Derived.Test.YtklbhbappaibgaaAwk
namespace Go.Proofs.Ytklbhbappaibgaa
open Go.ChangeShapes Go.WideShapes Go.ChangeAt Go.RowKit
set_option linter.unusedVariables false
set_option linter.unusedSimpArgs false
set_option maxRecDepth 100000
/-- How many bytes a number has, counted as the law does. -/
theorem num_cnt {n : Nat} (h : ¬ n < 128) : (num n).length = (num (n / 128)).length + 1 := by rw [num_hi h]; rfl
set_option maxHeartbeats 2000000 in
theorem back_l0 (a0 a1 : Option Addr) (c0 c1 : Nat) (n0 : Nat) (hn0 : ¬ n0 ≤ 3000) (n1 : Nat) (w : World) : Calls Try.prog 4 #[.slice a0 n0 c0, .slice a1 n1 c1] w fun q_ w' => q_ = .returned (.bool true) ∧ Below w.heap.size w w' := by
 have in0 : (3000 : Int) < n0 := by omega
 clear hn0
 have AW := Lib.hid awake_c
 have hnot : ∀ (x : Bool) (w : World), (Op.unary .not (.bool x)).run Try.prog w = .ok (.bool (!x)) w := fun _ _ => rfl
 go_enter Try.func4, Try.ntmps4
 go_wp2_with (fail)
 with_reducible refine (AW.out w).mono ?_
 rintro q_ u1 ⟨rfl, b1⟩
 have B1 := Lib.hid b1
 clear b1
 go_wp2_with (fail)
 with_reducible refine (AW.out u1).mono ?_
 rintro q_ u2 ⟨rfl, b2⟩
 have B2 := Lib.hid (via B1.out b2)
 clear b2 B1
 go_wp2
 go_ret
 exact ⟨rfl, B2.out⟩
set_option maxHeartbeats 2000000 in
theorem back_l1 (a0 a1 : Option Addr) (c0 c1 : Nat) (n0 : Nat) (hn0 : n0 ≤ 3000) (n1 : Nat) (hn1 : ¬ n1 ≤ 60) (w : World) : Calls Try.prog 4 #[.slice a0 n0 c0, .slice a1 n1 c1] w fun q_ w' => q_ = .returned (.bool true) ∧ Below w.heap.size w w' := by
 have in0 : ¬ (3000 : Int) < n0 := by omega
 have in1 : (60 : Int) < n1 := by omega
 clear hn0 hn1
 have AW := Lib.hid awake_c
 have hnot : ∀ (x : Bool) (w : World), (Op.unary .not (.bool x)).run Try.prog w = .ok (.bool (!x)) w := fun _ _ => rfl
 go_enter Try.func4, Try.ntmps4
 go_wp2_with (fail)
 with_reducible refine (AW.out w).mono ?_
 rintro q_ u1 ⟨rfl, b1⟩
 have B1 := Lib.hid b1
 clear b1
 go_wp2_with (fail)
 with_reducible refine (AW.out u1).mono ?_
 rintro q_ u2 ⟨rfl, b2⟩
 have B2 := Lib.hid (via B1.out b2)
 clear b2 B1
 go_wp2
 go_ret
 exact ⟨rfl, B2.out⟩
set_option maxHeartbeats 8000000 in
theorem back_some (v0 v1 : Value) (L : List Nat) (n1 : Nat) (h0 : L.length ≤ 3000) (h1 : n1 ≤ 60) (w : World) (R : Rd w v0 L) (P1 : Pa w v1 n1) : Calls Try.prog 4 #[v0, v1] w fun q_ w' => q_ = .returned (.bool true) ∧ Below w.heap.size w w' := by
 have R0 := Lib.hid R
 have Q1 := Lib.hid P1
 obtain ⟨a0, n0, c0, rfl, m0, _, _, _, _⟩ := R.open
 obtain ⟨a1, c1, f1, g1, rfl, _⟩ := P1
 have M0 := Lib.hid m0
 rw [m0] at h0
 have i0 : ¬ (3000 : Int) < n0 := by omega
 have i1 : ¬ (60 : Int) < n1 := by omega
 have AW := Lib.hid awake_c
 have hnot : ∀ (x : Bool) (w : World), (Op.unary .not (.bool x)).run Try.prog w = .ok (.bool (!x)) w := fun _ _ => rfl
 clear R m0
 go_enter Try.func4, Try.ntmps4
 go_wp2_with (fail)
 with_reducible refine (AW.out w).mono ?_
 rintro q_ u1 ⟨rfl, b1⟩
 have B1 := Lib.hid b1
 clear b1
 go_wp2_with (fail)
 refine (changed_c _ _ L n1 (by rw [M0.out]; omega) h1 u1 (R0.out.below B1.out) (Q1.out.below B1.out)).mono ?_
 rintro q_ u2 ⟨s1, C, rfl, hC, o2, b2⟩
 have C1 := Lib.hid o2.rd
 have CL := Lib.hid (show C.length = n0 by rw [hC]; exact M0.out)
 have B2 := Lib.hid (via B1.out b2)
 clear hC o2 b2 B1
 go_wp2_with (fail)
 refine (pack_c _ s1 L C (by rw [M0.out]; omega) (by rw [CL.out]; omega) u2 (R0.out.below B2.out) C1.out).mono ?_
 rintro q_ u3 ⟨s3, rfl, o3, b3⟩
 rw [if_pos (by rw [M0.out, CL.out])] at o3 ⊢
 have K1 := Lib.hid o3.rd
 have C2 := Lib.hid (C1.out.below b3)
 have B3 := Lib.hid (via B2.out b3)
 have PL := Lib.hid (pk_len _ L C (Nat.le_refl _) (by rw [M0.out, CL.out]) (by rw [CL.out]; omega))
 clear o3 b3 B2 C1
 go_wp2_with (fail)
 refine (unpack_c _ s3 L (pk L C) (by rw [M0.out]; omega) (by have := PL.out; have := CL.out; omega) u3 (R0.out.below B3.out) K1.out).mono ?_
 unfold UnpE
 rw [unp_pk (by rw [M0.out]; omega) (by rw [CL.out, M0.out])]
 rintro q_ u4 ⟨s4, rfl, o4, b4⟩
 dsimp only at o4 ⊢
 have D1 := Lib.hid o4.rd
 have C3 := Lib.hid (C2.out.below b4)
 have B4 := Lib.hid (via B3.out b4)
 clear o4 b4 B3 C2 K1
 go_wp2_with (fail)
 refine (pack_c _ _ L L (by rw [M0.out]; omega) (by rw [M0.out]; omega) u4 (R0.out.below B4.out) (R0.out.below B4.out)).mono ?_
 rintro q_ u5 ⟨s5, rfl, o5, b5⟩
 rw [if_pos rfl, pk_end (eqR_self L), M0.out] at o5
 rw [if_pos rfl]
 obtain ⟨a5, c5, e5⟩ := o5.slice
 subst e5
 have D2 := Lib.hid (D1.out.below b5)
 have C4 := Lib.hid (C3.out.below b5)
 have B5 := Lib.hid (via B4.out b5)
 clear o5 b5 B4 C3 D1
 obtain ⟨N, hN⟩ : ∃ q_, (num n0).length = q_ := ⟨_, rfl⟩
 have HN := Lib.hid hN
 have Nb : N ≤ 2 := by rw [← hN]; exact num_len2 (by omega)
 rw [hN]
 clear hN
 go_upto_region 8 with (fail)
 go_wp2
 go_loopg [12, 13] n0 (fun g' s i wr => ∃ (t m : Nat), g' = m ∧ m ≤ n0 ∧ s = .int .i64 t ∧ i = .int .i64 m ∧ wr = u5 ∧ 1 ≤ t ∧ Hid (t - 1 + (num m).length = N))
 case atStart => exact ⟨1, n0, rfl, Nat.le_refl _, rfl, rfl, rfl, Nat.le_refl _, Lib.hid (by rw [← HN.out]; simp)⟩
 case round =>
  obtain ⟨t, m, hg, hm, rfl, rfl, hwr, ht, HT⟩ := hrel
  have TG := Lib.hid hg
  subst hwr
  clear hg
  by_cases hlt : m < 128
  ·have l0 : ¬ (128 : Int) ≤ m := by omega
   have tN : t = N := by have := HT.out; rw [num_lo hlt] at this; simp at this; omega
   have hc : ((N : Int) == t) = true := by simp; omega
   clear tN
   go_wp2_with (fail)
   refine (same_c s4 s1 C C true (by simp) (by rw [CL.out]; omega) wr D2.out C4.out).mono ?_
   rintro q_ u6 ⟨rfl, b6⟩
   have B6 := Lib.hid (via B5.out b6)
   clear b6 B5
   go_wp2
   go_ret
   exact ⟨rfl, B6.out⟩
  ·have l0 : (128 : Int) ≤ m := by omega
   obtain ⟨d, hd⟩ : ∃ d, m / 128 = d := ⟨_, rfl⟩
   have d1 : (m : Int).tdiv 128 = d := by rw [Int.tdiv_eq_ediv_of_nonneg (by omega)]; omega
   have d2 : (m : Int) / 128 = d := by omega
   have HS := Lib.hid (show t + 1 - 1 + (num d).length = N by have := HT.out; rw [num_cnt hlt, hd] at this; omega)
   have tb : t ≤ 3 := by have := HT.out; omega
   have DM := Lib.hid (show d < m ∧ d ≤ n0 by omega)
   clear hd
   go_wp2
   go_roundg d
   ·exact ⟨t + 1, d, rfl, DM.out.2, by simp, rfl, rfl, by omega, HS⟩
   case measure => have := TG.out; have := DM.out.1; omega
theorem back_walk (v0 v1 : Value) (L : List Nat) (n1 : Nat) (hn0 : L.length ≤ 9223372036854775807) (hn1 : n1 ≤ 9223372036854775807) (w : World) (R : Rd w v0 L) (P1 : Pa w v1 n1) : Calls Try.prog 4 #[v0, v1] w fun q_ w' => q_ = .returned (.bool true) ∧ Below w.heap.size w w' := by
 by_cases h : L.length ≤ 3000 ∧ n1 ≤ 60
 ·exact back_some v0 v1 L n1 h.1 h.2 w R P1
 obtain ⟨a0, n0, c0, rfl, m0, _, _, _, _⟩ := R.open
 obtain ⟨a1, c1, f1, g1, rfl, _⟩ := P1
 rw [m0] at h
 by_cases k0 : n0 ≤ 3000
 ·exact back_l1 a0 a1 c0 c1 n0 k0 n1 (fun k1 => h ⟨k0, k1⟩) w
 ·exact back_l0 a0 a1 c0 c1 n0 k0 n1 w
end Go.Proofs.Ytklbhbappaibgaa
