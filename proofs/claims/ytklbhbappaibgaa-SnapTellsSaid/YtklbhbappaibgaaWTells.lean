/-
  The walk through SnapTells: for every world in which what came in lies as told; no other condition.
-/
import Derived.Test.YtklbhbappaibgaaAwk
import Derived.Test.YtklbhbappaibgaaRu
namespace Go.Proofs.Ytklbhbappaibgaa
open Go.ChangeShapes Go.WideShapes Go.ChangeAt Go.RowKit
set_option linter.unusedVariables false
set_option linter.unusedSimpArgs false
set_option maxRecDepth 100000
set_option maxHeartbeats 2000000 in
theorem tells_l0 (a0 a1 a2 a3 : Option Addr) (c0 c1 c2 c3 : Nat) (n0 : Nat) (hn0 : ¬ n0 ≤ 3000) (n1 : Nat) (n2 : Nat) (n3 : Nat) (w : World) : Calls Try.prog 3 #[.slice a0 n0 c0, .slice a1 n1 c1, .slice a2 n2 c2, .slice a3 n3 c3] w fun q_ w' => q_ = .returned (.bool true) ∧ Below w.heap.size w w' := by
 have in0 : (3000 : Int) < n0 := by omega
 clear hn0
 have AW := Lib.hid awake_c
 have hnot : ∀ (x : Bool) (w : World), (Op.unary .not (.bool x)).run Try.prog w = .ok (.bool (!x)) w := fun _ _ => rfl
 go_enter Try.func3, Try.ntmps3
 go_wp2_with (fail)
 with_reducible refine (AW.out w).mono ?_
 rintro q_ u1 ⟨rfl, b1⟩
 have B1 := Lib.hid b1
 clear b1
 go_wp2_with (fail)
 with_reducible refine (AW.out u1).mono ?_
 rintro q_ u2 ⟨rfl, b2⟩
 have B2 := Lib.hid (via B1.out b2)
 clear b2 B1
 go_wp2
 go_ret
 exact ⟨rfl, B2.out⟩
set_option maxHeartbeats 2000000 in
theorem tells_l1 (a0 a1 a2 a3 : Option Addr) (c0 c1 c2 c3 : Nat) (n0 : Nat) (hn0 : n0 ≤ 3000) (n1 : Nat) (hn1 : ¬ n1 ≤ 60) (n2 : Nat) (n3 : Nat) (w : World) : Calls Try.prog 3 #[.slice a0 n0 c0, .slice a1 n1 c1, .slice a2 n2 c2, .slice a3 n3 c3] w fun q_ w' => q_ = .returned (.bool true) ∧ Below w.heap.size w w' := by
 have in0 : ¬ (3000 : Int) < n0 := by omega
 have in1 : (60 : Int) < n1 := by omega
 clear hn0 hn1
 have AW := Lib.hid awake_c
 have hnot : ∀ (x : Bool) (w : World), (Op.unary .not (.bool x)).run Try.prog w = .ok (.bool (!x)) w := fun _ _ => rfl
 go_enter Try.func3, Try.ntmps3
 go_wp2_with (fail)
 with_reducible refine (AW.out w).mono ?_
 rintro q_ u1 ⟨rfl, b1⟩
 have B1 := Lib.hid b1
 clear b1
 go_wp2_with (fail)
 with_reducible refine (AW.out u1).mono ?_
 rintro q_ u2 ⟨rfl, b2⟩
 have B2 := Lib.hid (via B1.out b2)
 clear b2 B1
 go_wp2
 go_ret
 exact ⟨rfl, B2.out⟩
set_option maxHeartbeats 2000000 in
theorem tells_l2 (a0 a1 a2 a3 : Option Addr) (c0 c1 c2 c3 : Nat) (n0 : Nat) (hn0 : n0 ≤ 3000) (n1 : Nat) (hn1 : n1 ≤ 60) (n2 : Nat) (hn2 : ¬ n2 ≤ 3000) (n3 : Nat) (w : World) : Calls Try.prog 3 #[.slice a0 n0 c0, .slice a1 n1 c1, .slice a2 n2 c2, .slice a3 n3 c3] w fun q_ w' => q_ = .returned (.bool true) ∧ Below w.heap.size w w' := by
 have in0 : ¬ (3000 : Int) < n0 := by omega
 have in1 : ¬ (60 : Int) < n1 := by omega
 have in2 : (3000 : Int) < n2 := by omega
 clear hn0 hn1 hn2
 have AW := Lib.hid awake_c
 have hnot : ∀ (x : Bool) (w : World), (Op.unary .not (.bool x)).run Try.prog w = .ok (.bool (!x)) w := fun _ _ => rfl
 go_enter Try.func3, Try.ntmps3
 go_wp2_with (fail)
 with_reducible refine (AW.out w).mono ?_
 rintro q_ u1 ⟨rfl, b1⟩
 have B1 := Lib.hid b1
 clear b1
 go_wp2_with (fail)
 with_reducible refine (AW.out u1).mono ?_
 rintro q_ u2 ⟨rfl, b2⟩
 have B2 := Lib.hid (via B1.out b2)
 clear b2 B1
 go_wp2
 go_ret
 exact ⟨rfl, B2.out⟩
set_option maxHeartbeats 2000000 in
theorem tells_l3 (a0 a1 a2 a3 : Option Addr) (c0 c1 c2 c3 : Nat) (n0 : Nat) (hn0 : n0 ≤ 3000) (n1 : Nat) (hn1 : n1 ≤ 60) (n2 : Nat) (hn2 : n2 ≤ 3000) (n3 : Nat) (hn3 : ¬ n3 ≤ 3000) (w : World) : Calls Try.prog 3 #[.slice a0 n0 c0, .slice a1 n1 c1, .slice a2 n2 c2, .slice a3 n3 c3] w fun q_ w' => q_ = .returned (.bool true) ∧ Below w.heap.size w w' := by
 have in0 : ¬ (3000 : Int) < n0 := by omega
 have in1 : ¬ (60 : Int) < n1 := by omega
 have in2 : ¬ (3000 : Int) < n2 := by omega
 have in3 : (3000 : Int) < n3 := by omega
 clear hn0 hn1 hn2 hn3
 have AW := Lib.hid awake_c
 have hnot : ∀ (x : Bool) (w : World), (Op.unary .not (.bool x)).run Try.prog w = .ok (.bool (!x)) w := fun _ _ => rfl
 go_enter Try.func3, Try.ntmps3
 go_wp2_with (fail)
 with_reducible refine (AW.out w).mono ?_
 rintro q_ u1 ⟨rfl, b1⟩
 have B1 := Lib.hid b1
 clear b1
 go_wp2_with (fail)
 with_reducible refine (AW.out u1).mono ?_
 rintro q_ u2 ⟨rfl, b2⟩
 have B2 := Lib.hid (via B1.out b2)
 clear b2 B1
 go_wp2
 go_ret
 exact ⟨rfl, B2.out⟩
set_option maxHeartbeats 16000000 in
theorem tells_some (v0 v1 v2 v3 : Value) (L G H : List Nat) (n1 : Nat) (h0 : L.length ≤ 3000) (h1 : n1 ≤ 60) (h2 : G.length ≤ 3000) (h3 : H.length ≤ 3000) (w : World) (R : Rd w v0 L) (P1 : Pa w v1 n1) (RG : Rd w v2 G) (RH : Rd w v3 H) : Calls Try.prog 3 #[v0, v1, v2, v3] w fun q_ w' => q_ = .returned (.bool true) ∧ Below w.heap.size w w' := by
 have R0 := Lib.hid R
 have Q1 := Lib.hid P1
 have R2 := Lib.hid RG
 have R3 := Lib.hid RH
 obtain ⟨a0, n0, c0, rfl, m0, _, _, _, _⟩ := R.open
 obtain ⟨a1, c1, f1, g1, rfl, _⟩ := P1
 obtain ⟨a2, n2, c2, rfl, m2, _, _, _, _⟩ := RG.open
 obtain ⟨a3, n3, c3, rfl, m3, _, _, _, _⟩ := RH.open
 have M0 := Lib.hid m0
 have M2 := Lib.hid m2
 have M3 := Lib.hid m3
 rw [m0] at h0
 rw [m2] at h2
 rw [m3] at h3
 have i0 : ¬ (3000 : Int) < n0 := by omega
 have i1 : ¬ (60 : Int) < n1 := by omega
 have i2 : ¬ (3000 : Int) < n2 := by omega
 have i3 : ¬ (3000 : Int) < n3 := by omega
 have AW := Lib.hid awake_c
 have hnot : ∀ (x : Bool) (w : World), (Op.unary .not (.bool x)).run Try.prog w = .ok (.bool (!x)) w := fun _ _ => rfl
 clear R RG RH m0 m2 m3
 go_enter Try.func3, Try.ntmps3
 go_wp2_with (fail)
 with_reducible refine (AW.out w).mono ?_
 rintro q_ u1 ⟨rfl, b1⟩
 have B1 := Lib.hid b1
 clear b1
 go_wp2_with (fail)
 refine (changed_c _ _ L n1 (by rw [M0.out]; omega) h1 u1 (R0.out.below B1.out) (Q1.out.below B1.out)).mono ?_
 rintro q_ u2 ⟨s1, C, rfl, hC, o2, b2⟩
 have C1 := Lib.hid o2.rd
 have CL := Lib.hid (show C.length = n0 by rw [hC]; exact M0.out)
 have B2 := Lib.hid (via B1.out b2)
 clear hC o2 b2 B1
 have PL := Lib.hid (pk_len _ L C (Nat.le_refl _) (by rw [M0.out, CL.out]) (by rw [CL.out]; omega))
 go_wp2_with (fail)
 refine (pack_c _ s1 L C (by rw [M0.out]; omega) (by rw [CL.out]; omega) u2 (R0.out.below B2.out) C1.out).mono ?_
 rintro q_ u3 ⟨s3, rfl, o3, b3⟩
 rw [if_pos (by rw [M0.out, CL.out])] at o3 ⊢
 have X3 := Lib.hid o3.rd
 have C2 := Lib.hid (C1.out.below b3)
 have B3 := Lib.hid (via B2.out b3)
 clear o3 b3 B2 C1
 go_wp2_with (fail)
 refine (rpack_c _ s1 L C (by rw [CL.out]; omega) u3 (R0.out.below B3.out) C2.out).mono ?_
 rintro q_ u4 ⟨s4, rfl, o4, b4⟩
 rw [if_pos (by rw [M0.out, CL.out])] at o4 ⊢
 have Y4 := Lib.hid o4.rd
 have X4 := Lib.hid (X3.out.below b4)
 have B4 := Lib.hid (via B3.out b4)
 clear o4 b4 B3 C2 X3
 obtain ⟨er, her⟩ : ∃ q_ : Int, (if L.length = G.length then (0 : Int) else 6) = q_ := ⟨_, rfl⟩
 obtain ⟨K, hK⟩ : ∃ q_, (if L.length = G.length then pk L G else []) = q_ := ⟨_, rfl⟩
 have KL := Lib.hid (show K.length ≤ 20000 by
  rw [← hK]
  split
  ·rename_i hl
   have := pk_len _ L G (Nat.le_refl _) hl (by rw [M2.out]; omega)
   have := M2.out
   omega
  ·simp)
 have HER := Lib.hid her
 have HK := Lib.hid hK
 clear her hK
 go_wp2_with (fail)
 refine (pack_c _ _ L G (by rw [M0.out]; omega) (by rw [M2.out]; omega) u4 (R0.out.below B4.out) (R2.out.below B4.out)).mono ?_
 unfold PackE
 rw [HER.out, HK.out]
 rintro q_ u5 ⟨s5, rfl, o5, b5⟩
 have Z5 := Lib.hid o5.rd
 have X5 := Lib.hid (X4.out.below b5)
 have Y5 := Lib.hid (Y4.out.below b5)
 have B5 := Lib.hid (via B4.out b5)
 clear o5 b5 B4 X4 Y4
 go_wp2_with (fail)
 refine (rpack_c _ _ L G (by rw [M2.out]; omega) u5 (R0.out.below B5.out) (R2.out.below B5.out)).mono ?_
 unfold PackE
 rw [HER.out, HK.out]
 rintro q_ u6 ⟨s6, rfl, o6, b6⟩
 have V6 := Lib.hid o6.rd
 have X6 := Lib.hid (X5.out.below b6)
 have Y6 := Lib.hid (Y5.out.below b6)
 have Z6 := Lib.hid (Z5.out.below b6)
 have B6 := Lib.hid (via B5.out b6)
 clear o6 b6 B5 X5 Y5 Z5
 rcases hu : unp L H with ⟨g, O⟩
 have OL := Lib.hid (show O.length ≤ 3000 by
  by_cases hg : g = 0
  ·subst hg; rw [(unp_ok hu).2, M0.out]; exact h0
  ·rw [unp_bad hu hg]; simp)
 have U := Lib.hid hu
 clear hu
 go_wp2_with (fail)
 refine (unpack_c _ _ L H (by rw [M0.out]; omega) (by rw [M3.out]; omega) u6 (R0.out.below B6.out) (R3.out.below B6.out)).mono ?_
 unfold UnpE
 rw [U.out]
 rintro q_ u7 ⟨s7, rfl, o7, b7⟩
 dsimp only at o7 ⊢
 have S7 := Lib.hid o7.rd
 have X7 := Lib.hid (X6.out.below b7)
 have Y7 := Lib.hid (Y6.out.below b7)
 have Z7 := Lib.hid (Z6.out.below b7)
 have V7 := Lib.hid (V6.out.below b7)
 have B7 := Lib.hid (via B6.out b7)
 clear o7 b7 B6 X6 Y6 Z6 V6
 go_wp2_with (fail)
 refine (runpack_c _ _ L H (by rw [M0.out]; omega) (by rw [M3.out]; omega) u7 (R0.out.below B7.out) (R3.out.below B7.out)).mono ?_
 unfold UnpE
 rw [U.out]
 rintro q_ u8 ⟨s8, rfl, o8, b8⟩
 dsimp only at o8 ⊢
 have T8 := Lib.hid o8.rd
 have S8 := Lib.hid (S7.out.below b8)
 have X8 := Lib.hid (X7.out.below b8)
 have Y8 := Lib.hid (Y7.out.below b8)
 have Z8 := Lib.hid (Z7.out.below b8)
 have V8 := Lib.hid (V7.out.below b8)
 have B8 := Lib.hid (via B7.out b8)
 clear o8 b8 B7 X7 Y7 Z7 V7 S7
 go_wp2_with (fail)
 refine (same_c s3 s4 (pk L C) (pk L C) true (by simp) (by have := PL.out; have := CL.out; omega) u8 X8.out Y8.out).mono ?_
 rintro q_ u9 ⟨rfl, b9⟩
 have Z9 := Lib.hid (Z8.out.below b9)
 have V9 := Lib.hid (V8.out.below b9)
 have S9 := Lib.hid (S8.out.below b9)
 have T9 := Lib.hid (T8.out.below b9)
 have B9 := Lib.hid (via B8.out b9)
 clear b9 B8 X8 Y8 Z8 V8 S8 T8
 go_wp2_with (fail)
 refine (same_c s5 s6 K K true (by simp) (by have := KL.out; omega) u9 Z9.out V9.out).mono ?_
 rintro q_ u10 ⟨rfl, b10⟩
 have S10 := Lib.hid (S9.out.below b10)
 have T10 := Lib.hid (T9.out.below b10)
 have B10 := Lib.hid (via B9.out b10)
 clear b10 B9 Z9 V9 S9 T9
 have ee : (er == er) = true := by simp
 go_wp2_with (fail)
 refine (same_c s7 s8 O O true (by simp) (by have := OL.out; omega) u10 S10.out T10.out).mono ?_
 rintro q_ u11 ⟨rfl, b11⟩
 have B11 := Lib.hid (via B10.out b11)
 clear b11 B10 S10 T10
 have gg : ((g : Int) == g) = true := by simp
 go_wp2
 go_ret
 exact ⟨rfl, B11.out⟩
theorem tells_walk (v0 v1 v2 v3 : Value) (L G H : List Nat) (n1 : Nat) (hn0 : L.length ≤ 9223372036854775807) (hn1 : n1 ≤ 9223372036854775807) (hn2 : G.length ≤ 9223372036854775807) (hn3 : H.length ≤ 9223372036854775807) (w : World) (R : Rd w v0 L) (P1 : Pa w v1 n1) (RG : Rd w v2 G) (RH : Rd w v3 H) : Calls Try.prog 3 #[v0, v1, v2, v3] w fun q_ w' => q_ = .returned (.bool true) ∧ Below w.heap.size w w' := by
 by_cases h : L.length ≤ 3000 ∧ n1 ≤ 60 ∧ G.length ≤ 3000 ∧ H.length ≤ 3000
 ·exact tells_some v0 v1 v2 v3 L G H n1 h.1 h.2.1 h.2.2.1 h.2.2.2 w R P1 RG RH
 obtain ⟨a0, n0, c0, rfl, m0, _, _, _, _⟩ := R.open
 obtain ⟨a1, c1, f1, g1, rfl, _⟩ := P1
 obtain ⟨a2, n2, c2, rfl, m2, _, _, _, _⟩ := RG.open
 obtain ⟨a3, n3, c3, rfl, m3, _, _, _, _⟩ := RH.open
 rw [m0, m2, m3] at h
 by_cases k0 : n0 ≤ 3000
 ·by_cases k1 : n1 ≤ 60
  ·by_cases k2 : n2 ≤ 3000
   ·exact tells_l3 a0 a1 a2 a3 c0 c1 c2 c3 n0 k0 n1 k1 n2 k2 n3 (fun k3 => h ⟨k0, k1, k2, k3⟩) w
   ·exact tells_l2 a0 a1 a2 a3 c0 c1 c2 c3 n0 k0 n1 k1 n2 k2 n3 w
  ·exact tells_l1 a0 a1 a2 a3 c0 c1 c2 c3 n0 k0 n1 k1 n2 n3 w
 ·exact tells_l0 a0 a1 a2 a3 c0 c1 c2 c3 n0 k0 n1 n2 n3 w
end Go.Proofs.Ytklbhbappaibgaa
