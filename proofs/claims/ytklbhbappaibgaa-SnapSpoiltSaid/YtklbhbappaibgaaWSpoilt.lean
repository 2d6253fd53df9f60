/-
  The walk through SnapSpoilt: for every world in which what came in lies as told; no other condition.
-/
import Derived.Test.YtklbhbappaibgaaAwk
import Derived.Test.YtklbhbappaibgaaHa
namespace Go.Proofs.Ytklbhbappaibgaa
open Go.ChangeShapes Go.WideShapes Go.ChangeAt Go.RowKit
set_option linter.unusedVariables false
set_option linter.unusedSimpArgs false
set_option maxRecDepth 100000
theorem u64_bd {a : Int} (h : (Lit.int .u64 a).wf = true) : 0 ≤ a ∧ a < 18446744073709551616 := by
  simp [Lit.wf, IntKind.min, IntKind.max, IntKind.bits, IntKind.signed] at h; omega
set_option maxHeartbeats 2000000 in
theorem spoilt_l0 (A2 X A4 : Nat) (a0 a1 : Option Addr) (c0 c1 : Nat) (n0 : Nat) (hn0 : ¬ n0 ≤ 3000) (n1 : Nat) (w : World) : Calls Try.prog 5 #[.slice a0 n0 c0, .slice a1 n1 c1, .int .u64 A2, .int .u8 X, .int .u64 A4] w fun q_ w' => q_ = .returned (.bool true) ∧ Below w.heap.size w w' := by
 have in0 : (3000 : Int) < n0 := by omega
 clear hn0
 have AW := Lib.hid awake_c
 have hnot : ∀ (x : Bool) (w : World), (Op.unary .not (.bool x)).run Try.prog w = .ok (.bool (!x)) w := fun _ _ => rfl
 go_enter Try.func5, Try.ntmps5
 go_wp2_with (fail)
 with_reducible refine (AW.out w).mono ?_
 rintro q_ u1 ⟨rfl, b1⟩
 have B1 := Lib.hid b1
 clear b1
 go_wp2_with (fail)
 with_reducible refine (AW.out u1).mono ?_
 rintro q_ u2 ⟨rfl, b2⟩
 have B2 := Lib.hid (via B1.out b2)
 clear b2 B1
 go_wp2
 go_ret
 exact ⟨rfl, B2.out⟩
set_option maxHeartbeats 2000000 in
theorem spoilt_l1 (A2 X A4 : Nat) (a0 a1 : Option Addr) (c0 c1 : Nat) (n0 : Nat) (hn0 : n0 ≤ 3000) (n1 : Nat) (hn1 : ¬ n1 ≤ 60) (w : World) : Calls Try.prog 5 #[.slice a0 n0 c0, .slice a1 n1 c1, .int .u64 A2, .int .u8 X, .int .u64 A4] w fun q_ w' => q_ = .returned (.bool true) ∧ Below w.heap.size w w' := by
 have in0 : ¬ (3000 : Int) < n0 := by omega
 have in1 : (60 : Int) < n1 := by omega
 clear hn0 hn1
 have AW := Lib.hid awake_c
 have hnot : ∀ (x : Bool) (w : World), (Op.unary .not (.bool x)).run Try.prog w = .ok (.bool (!x)) w := fun _ _ => rfl
 go_enter Try.func5, Try.ntmps5
 go_wp2_with (fail)
 with_reducible refine (AW.out w).mono ?_
 rintro q_ u1 ⟨rfl, b1⟩
 have B1 := Lib.hid b1
 clear b1
 go_wp2_with (fail)
 with_reducible refine (AW.out u1).mono ?_
 rintro q_ u2 ⟨rfl, b2⟩
 have B2 := Lib.hid (via B1.out b2)
 clear b2 B1
 go_wp2
 go_ret
 exact ⟨rfl, B2.out⟩
set_option maxHeartbeats 8000000 in
theorem spoilt_some (v0 v1 : Value) (L : List Nat) (n1 : Nat) (h0 : L.length ≤ 3000) (h1 : n1 ≤ 60) (A2 X A4 : Nat) (xb : X < 256) (w : World) (R : Rd w v0 L) (P1 : Pa w v1 n1) : Calls Try.prog 5 #[v0, v1, .int .u64 A2, .int .u8 X, .int .u64 A4] w fun q_ w' => q_ = .returned (.bool true) ∧ Below w.heap.size w w' := by
 have R0 := Lib.hid R
 have Q1 := Lib.hid P1
 obtain ⟨a0, n0, c0, rfl, m0, _, _, _, _⟩ := R.open
 obtain ⟨a1, c1, f1, g1, rfl, _⟩ := P1
 have M0 := Lib.hid m0
 rw [m0] at h0
 have i0 : ¬ (3000 : Int) < n0 := by omega
 have i1 : ¬ (60 : Int) < n1 := by omega
 have AW := Lib.hid awake_c
 have hnot : ∀ (x : Bool) (w : World), (Op.unary .not (.bool x)).run Try.prog w = .ok (.bool (!x)) w := fun _ _ => rfl
 clear R m0
 go_enter Try.func5, Try.ntmps5
 go_wp2_with (fail)
 with_reducible refine (AW.out w).mono ?_
 rintro q_ u1 ⟨rfl, b1⟩
 have B1 := Lib.hid b1
 clear b1
 go_wp2_with (fail)
 refine (changed_c _ _ L n1 (by rw [M0.out]; omega) h1 u1 (R0.out.below B1.out) (Q1.out.below B1.out)).mono ?_
 rintro q_ u2 ⟨s1, C, rfl, hC, o2, b2⟩
 have C1 := Lib.hid o2.rd
 have CL := Lib.hid (show C.length = n0 by rw [hC]; exact M0.out)
 have B2 := Lib.hid (via B1.out b2)
 clear hC o2 b2 B1
 go_wp2_with (fail)
 refine (pack_c _ s1 L C (by rw [M0.out]; omega) (by rw [CL.out]; omega) u2 (R0.out.below B2.out) C1.out).mono ?_
 rintro q_ u3 ⟨s3, rfl, o3, b3⟩
 rw [if_pos (by rw [M0.out, CL.out])] at o3 ⊢
 have K1 := Lib.hid o3.rd
 have C2 := Lib.hid (C1.out.below b3)
 have B3 := Lib.hid (via B2.out b3)
 have PL := Lib.hid (pk_len _ L C (Nat.le_refl _) (by rw [M0.out, CL.out]) (by rw [CL.out]; omega))
 clear o3 b3 B2 C1
 have PB := Lib.hid K1.out.by
 obtain ⟨P, hP⟩ : ∃ q_, pk L C = q_ := ⟨_, rfl⟩
 have HP := Lib.hid hP
 rw [hP] at K1 PL PB
 obtain ⟨ap, N, cp, rfl, hN, hNc, _, _, _⟩ := K1.out.open
 have NL := Lib.hid hN
 have PL2 := Lib.hid (show N ≤ 15100 by rw [← hN]; have := PL.out; have := CL.out; omega)
 have N0 : 0 < N := by
  rw [← hN, ← hP, pk]
  have := num_pos (eqR L C)
  simp; omega
 have N0i : ((N : Int) == 0) = false := by simp; omega
 have N0n : ¬ N = 0 := by omega
 clear hN hNc hP
 obtain ⟨k1, hk1⟩ : ∃ q_, A4 % N = q_ := ⟨_, rfl⟩
 have kl1 : k1 < N := by rw [← hk1]; exact Nat.mod_lt _ N0
 have rem1 : (A4 : Int) % N = k1 := by rw [← hk1]; exact (Int.natCast_emod A4 N).symm
 clear hk1
 have PL3 : N ≤ 15100 := PL2.out
 have k1w : IntKind.i64.wrap (k1 : Int) = k1 := by rw [IntKind.wrap_i64]; omega
 obtain ⟨V1, s1', r1⟩ := cut3_c K1.out k1 (by rw [NL.out]; omega) _ (rfl : (k1 : Int) = k1)
 rcases hu1 : unp L (P.take k1) with ⟨e1, O1⟩
 have E1 := Lib.hid (show e1 ≠ 0 by
  have h := unp_cut (B := L) (C := C) (k := k1) (by rw [M0.out]; omega) (by rw [CL.out, M0.out]) (by rw [HP.out, NL.out]; exact kl1)
  rw [HP.out, hu1] at h
  exact h)
 have U1 := Lib.hid hu1
 clear hu1
 go_wp2_with (fail)
 refine (unpack_c _ V1 L (P.take k1) (by rw [M0.out]; omega) (by simp; rw [NL.out]; omega) u3 (R0.out.below B3.out) (r1 _ K1.out)).mono ?_
 unfold UnpE
 rw [U1.out]
 rintro q_ u4 ⟨s4, rfl, o4, b4⟩
 dsimp only
 have K2 := Lib.hid (K1.out.below b4)
 have B4 := Lib.hid (via B3.out b4)
 clear o4 b4 B3 K1 C2 s1' r1 rem1 k1w U1
 obtain ⟨v5, u5, hr, ho, hb⟩ := app_c (own_mt u4 u4.heap.size (Nat.le_refl _)) (K2.out.below (own1 u4 _)) (by simp) (by simp; rw [NL.out]; omega)
 rw [List.nil_append] at ho
 obtain ⟨v6, u6, hr2, ho2, hb2⟩ := app_1 X xb _ (rfl : (X : Int) = X) ho ((((Below.refl u4.heap.size u4).alloc (Nat.le_refl _) (.cells #[] 5)).trans hb).size) (by rw [NL.out]; omega)
 obtain ⟨a5, c5, e5⟩ := ho.slice
 rw [NL.out] at e5
 subst e5
 have RUN1 := Lib.hid hr
 have RUN2 := Lib.hid hr2
 have T6 := Lib.hid ho2.rd
 have HB6 := Lib.hid ((((Below.refl u4.heap.size u4).alloc (Nat.le_refl _) (.cells #[] 5)).trans hb).trans hb2)
 have K3 := Lib.hid (K2.out.below HB6.out)
 have B6 := Lib.hid (via B4.out HB6.out)
 clear hr hr2 ho ho2 hb hb2 B4 HB6
 have U2 := Lib.hid (show unp L (P ++ [X]) = (3, []) by rw [← HP.out]; exact unp_tail (by rw [M0.out]; omega) (by rw [CL.out, M0.out]) (by simp))
 go_wp2_with (at_builtin; first | refine wpList_append_run rfl _ _ _ (.slice (some ⟨u4.heap.size, 0, none⟩) 0 0) (.slice ap N cp) _ rfl rfl rfl RUN1.out ?_ | refine wpList_append_run rfl _ _ _ (.slice a5 N c5) (.slice (some ⟨u5.heap.size, 0, none⟩) 1 1) _ rfl rfl rfl RUN2.out ?_)
 refine (unpack_c _ v6 L (P ++ [X]) (by rw [M0.out]; omega) (by simp; rw [NL.out]; omega) u6 (R0.out.below B6.out) T6.out).mono ?_
 unfold UnpE
 rw [U2.out]
 rintro q_ u7 ⟨s7, rfl, o7, b7⟩
 dsimp only
 have K4 := Lib.hid (K3.out.below b7)
 have B7 := Lib.hid (via B6.out b7)
 clear o7 b7 B6 K3 K2 RUN1 RUN2 T6 U2
 obtain ⟨k2, hk2⟩ : ∃ q_, A2 % N = q_ := ⟨_, rfl⟩
 have kl2 : k2 < N := by rw [← hk2]; exact Nat.mod_lt _ N0
 have rem2 : (A2 : Int) % N = k2 := by rw [← hk2]; exact (Int.natCast_emod A2 N).symm
 have ki2 : (k2 : Int) < N := by omega
 have k2w : IntKind.i64.wrap (k2 : Int) = k2 := by rw [IntKind.wrap_i64]; omega
 obtain ⟨p, hp⟩ := at_ex (L := P) (k := k2) (by rw [NL.out]; exact kl2)
 have pb := PB.out.at hp
 obtain ⟨y, hy⟩ : ∃ q_, p ^^^ X = q_ := ⟨_, rfl⟩
 have yb : y < 256 := by rw [← hy]; exact Nat.xor_lt_two_pow (n := 8) pb xb
 have HXO := Lib.hid (show bits .xor .u8 (p : Int) (X : Int) = (y : Int) by rw [xor_u8 p X pb xb, hy])
 have HPK := Lib.hid hp
 clear hk2 hp hy
 obtain ⟨v8, u8, hr, ho, hb⟩ := app_c (own_mt u7 u7.heap.size (Nat.le_refl _)) (K4.out.below (own1 u7 _)) (by simp) (by simp; rw [NL.out]; omega)
 rw [List.nil_append] at ho
 have RUN := Lib.hid hr
 obtain ⟨gb, cg, e0, hge, _⟩ := ho.full (by rw [NL.out]; omega)
 subst e0
 rw [NL.out] at ho RUN
 have HO := Lib.hid ho
 have HB := Lib.hid (((Below.refl u7.heap.size u7).alloc (Nat.le_refl _) (.cells #[] 5)).trans hb)
 clear hr ho hb
 go_upto_region 9 with (at_builtin; refine wpList_append_run rfl _ _ _ (.slice (some ⟨u7.heap.size, 0, none⟩) 0 0) (.slice ap N cp) _ rfl rfl rfl RUN.out ?_)
 obtain ⟨q1, q2⟩ := HO.out.cell HPK.out
 have HS := Lib.hid (st_own HO.out NL.out k2 y yb)
 have hxo := HXO.out
 go_upto_region 10 with (fail)
 clear hxo q1 q2
 have HO2 := Lib.hid HS.out.1.rd
 have B8 := Lib.hid (via B7.out (HB.out.trans HS.out.2))
 generalize u8.setCell ⟨gb, k2, none⟩ (.int .u8 y) = u9 at HO2 B8 ⊢
 clear HS HO HB B7 K4 RUN HXO
 obtain ⟨Q, hQ⟩ : ∃ q_, P.set k2 y = q_ := ⟨_, rfl⟩
 rw [hQ] at HO2
 have QL := Lib.hid (show Q.length = N by rw [← hQ, List.length_set]; exact NL.out)
 clear hQ
 rcases hu3 : unp L Q with ⟨g, O⟩
 have U3 := Lib.hid hu3
 have e1n : ((e1 : Int) != 0) = true := by have := E1.out; simp; omega
 clear hu3
 go_wp2_with (fail)
 refine (unpack_c _ _ L Q (by rw [M0.out]; omega) (by rw [QL.out]; omega) u9 (R0.out.below B8.out) HO2.out).mono ?_
 unfold UnpE
 rw [U3.out]
 rintro q_ u10 ⟨s10, rfl, o10, b10⟩
 dsimp only at o10 ⊢
 have D10 := Lib.hid o10.rd
 have Q10 := Lib.hid (HO2.out.below b10)
 have B10 := Lib.hid (via B8.out b10)
 clear o10 b10 B8 HO2
 by_cases hg : g = 0
 ·subst hg
  have OK := Lib.hid (unp_ok U3.out)
  obtain ⟨ao, no, co, rfl, hno, _, _, _, _⟩ := D10.out.open
  obtain rfl : n0 = no := by rw [← hno, OK.out.2, M0.out]
  clear hno
  go_wp2_with (fail)
  refine (pack_c _ _ L O (by rw [M0.out]; omega) (by rw [OK.out.2, M0.out]; omega) u10 (R0.out.below B10.out) D10.out).mono ?_
  rintro q_ u11 ⟨s11, rfl, o11, b11⟩
  rw [if_pos OK.out.2.symm] at o11 ⊢
  rw [OK.out.1] at o11
  have K11 := Lib.hid o11.rd
  have Q11 := Lib.hid (Q10.out.below b11)
  have B11 := Lib.hid (via B10.out b11)
  clear o11 b11 B10 Q10 D10
  go_wp2_with (fail)
  refine (same_c s11 _ Q Q true (by simp) (by rw [QL.out]; omega) u11 K11.out Q11.out).mono ?_
  rintro q_ u12 ⟨rfl, b12⟩
  have B12 := Lib.hid (via B11.out b12)
  clear b12 B11 Q11 K11
  go_wp2
  go_ret
  exact ⟨rfl, B12.out⟩
 ·have OE := unp_bad U3.out hg
  subst OE
  obtain ⟨ao, no, co, rfl, hno, _, _, _, _⟩ := D10.out.open
  obtain rfl : no = 0 := by rw [← hno]; rfl
  have gn : ((g : Int) == 0) = false := by simp; omega
  clear hno hg
  go_wp2
  go_ret
  exact ⟨rfl, B10.out⟩
theorem spoilt_walk (v0 v1 : Value) (L : List Nat) (n1 : Nat) (a2 a3 a4 : Int) (hn0 : L.length ≤ 9223372036854775807) (hn1 : n1 ≤ 9223372036854775807) (b20 : 0 ≤ a2) (b21 : a2 < 18446744073709551616) (b30 : 0 ≤ a3) (b31 : a3 < 256) (b40 : 0 ≤ a4) (b41 : a4 < 18446744073709551616) (w : World) (R : Rd w v0 L) (P1 : Pa w v1 n1) : Calls Try.prog 5 #[v0, v1, .int .u64 a2, .int .u8 a3, .int .u64 a4] w fun q_ w' => q_ = .returned (.bool true) ∧ Below w.heap.size w w' := by
 obtain ⟨A2, rfl⟩ := Int.eq_ofNat_of_zero_le b20
 obtain ⟨X, rfl⟩ := Int.eq_ofNat_of_zero_le b30
 obtain ⟨A4, rfl⟩ := Int.eq_ofNat_of_zero_le b40
 by_cases h : L.length ≤ 3000 ∧ n1 ≤ 60
 ·exact spoilt_some v0 v1 L n1 h.1 h.2 A2 X A4 (by omega) w R P1
 obtain ⟨a0, n0, c0, rfl, m0, _, _, _, _⟩ := R.open
 obtain ⟨a1, c1, f1, g1, rfl, _⟩ := P1
 rw [m0] at h
 by_cases k0 : n0 ≤ 3000
 ·exact spoilt_l1 A2 X A4 a0 a1 c0 c1 n0 k0 n1 (fun k1 => h ⟨k0, k1⟩) w
 ·exact spoilt_l0 A2 X A4 a0 a1 c0 c1 n0 k0 n1 w
end Go.Proofs.Ytklbhbappaibgaa
