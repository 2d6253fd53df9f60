/-
  The walk through SnapHash: for every world in which the bytes lie as told; no other condition.
-/
import Derived.Test.YtklbhbappaibgaaAwk
import Derived.Test.YtklbhbappaibgaaHa
namespace Go.Proofs.Ytklbhbappaibgaa
open Go.ChangeShapes Go.WideShapes Go.ChangeAt Go.RowKit
set_option linter.unusedVariables false
set_option linter.unusedSimpArgs false
set_option maxRecDepth 100000
set_option maxHeartbeats 2000000 in
theorem hash_long (a : Option Addr) (n c : Nat) (at_ x : Int) (hn : n ≤ 9223372036854775807) (h0 : ¬ n ≤ 3000) (w : World) : Calls Try.prog 7 #[.slice a n c, .int .u64 at_, .int .u8 x] w fun q_ w' => q_ = .returned (.bool true) ∧ Below w.heap.size w w' := by
 have h0i : (3000 : Int) < n := by omega
 clear hn h0
 have AW := Lib.hid awake_c
 have hnot : ∀ (x : Bool) (w : World), (Op.unary .not (.bool x)).run Try.prog w = .ok (.bool (!x)) w := fun _ _ => rfl
 go_enter Try.func7, Try.ntmps7
 go_wp2_with (fail)
 with_reducible refine (AW.out w).mono ?_
 rintro q_ u1 ⟨rfl, b1⟩
 have B1 := Lib.hid b1
 clear b1
 go_wp2_with (fail)
 with_reducible refine (AW.out u1).mono ?_
 rintro q_ u2 ⟨rfl, b2⟩
 have B2 := Lib.hid (via B1.out b2)
 clear b2 B1
 go_wp2
 go_ret
 exact ⟨rfl, B2.out⟩
theorem u64_bd {a : Int} (h : (Lit.int .u64 a).wf = true) : 0 ≤ a ∧ a < 18446744073709551616 := by
  simp [Lit.wf, IntKind.min, IntKind.max, IntKind.bits, IntKind.signed] at h; omega
set_option maxHeartbeats 4000000 in
theorem hash_zero (v : Value) (L : List Nat) (A x : Nat) (hx : x < 256) (hn : L.length ≤ 3000) (hz : L.length = 0 ∨ x = 0) (w : World) (h : Rd w v L) : Calls Try.prog 7 #[v, .int .u64 A, .int .u8 x] w fun q_ w' => q_ = .returned (.bool true) ∧ Below w.heap.size w w' := by
 have h' := h
 obtain ⟨a, n, c, rfl, n1, hc1, hz1, by1, at1⟩ := h.open
 have R1 := Lib.hid h'
 have N1 := Lib.hid n1
 rw [n1] at hn hz
 have h0i : ¬ (3000 : Int) < n := by omega
 have AW := Lib.hid awake_c
 have hnot : ∀ (x : Bool) (w : World), (Op.unary .not (.bool x)).run Try.prog w = .ok (.bool (!x)) w := fun _ _ => rfl
 have HH := Lib.hid (hash_c (.slice a n c) L (by rw [N1.out]; omega))
 have HR := Lib.hid (rhash_c (.slice a n c) L (by rw [N1.out]; omega))
 generalize fnv 14695981039346656037 L = g at HH HR
 clear h h' n1 by1 at1 hz1 hc1
 go_enter Try.func7, Try.ntmps7
 go_wp2_with (fail)
 with_reducible refine (AW.out w).mono ?_
 rintro q_ u1 ⟨rfl, b1⟩
 have B1 := Lib.hid b1
 clear b1
 go_wp2_with (fail)
 with_reducible refine (HH.out u1 (R1.out.below B1.out)).mono ?_
 rintro q_ w' ⟨rfl, hb⟩
 have hb' := hb.symm
 clear hb
 subst hb'
 rcases (show n = 0 ∨ (n ≠ 0 ∧ x = 0) by omega) with hz | ⟨hz0, hz⟩
 case' inr => have z1 : ((n : Int) == 0) = false := by simp; omega
 all_goals subst hz
 all_goals go_wp2_with (fail)
 all_goals
  with_reducible refine (HR.out u1 (R1.out.below B1.out)).mono ?_
  rintro q_ w' ⟨rfl, hb⟩
  have hb' := hb.symm
  clear hb
  subst hb'
  go_wp2
  go_ret
  exact ⟨by simp, B1.out⟩
set_option maxHeartbeats 4000000 in
theorem hash_some (v : Value) (L : List Nat) (A x : Nat) (hA : A < 18446744073709551616) (hx : x < 256) (hn : L.length ≤ 3000) (hz : ¬ L.length = 0) (hx0 : ¬ x = 0) (w : World) (h : Rd w v L) : Calls Try.prog 7 #[v, .int .u64 A, .int .u8 x] w fun q_ w' => q_ = .returned (.bool true) ∧ Below w.heap.size w w' := by
 have h' := h
 obtain ⟨a, n, c, rfl, n1, hc1, hz1, by1, at1⟩ := h.open
 have R1 := Lib.hid h'
 have N1 := Lib.hid n1
 have BY := Lib.hid by1
 rw [n1] at hn hz
 have h0i : ¬ (3000 : Int) < n := by omega
 have AW := Lib.hid awake_c
 have hnot : ∀ (x : Bool) (w : World), (Op.unary .not (.bool x)).run Try.prog w = .ok (.bool (!x)) w := fun _ _ => rfl
 have HH := Lib.hid (hash_c (.slice a n c) L (by rw [N1.out]; omega))
 have HR := Lib.hid (rhash_c (.slice a n c) L (by rw [N1.out]; omega))
 obtain ⟨k, hk⟩ : ∃ q_, A % n = q_ := ⟨_, rfl⟩
 have kn : k < n := by rw [← hk]; exact Nat.mod_lt _ (by omega)
 obtain ⟨p, hp⟩ := at_ex (L := L) (k := k) (by rw [N1.out]; exact kn)
 have pb := BY.out.at hp
 obtain ⟨y, hy⟩ : ∃ q_, p ^^^ x = q_ := ⟨_, rfl⟩
 have yb : y < 256 := by rw [← hy]; exact Nat.xor_lt_two_pow (n := 8) pb hx
 have yp : y ≠ p := fun e => hx0 (by rw [e] at hy; have h2 : p ^^^ x = p ^^^ 0 := by rw [hy, Nat.xor_zero]
                                     exact xor_left h2)
 have NE := Lib.hid (fnv_set L 14695981039346656037 k p y BY.out (by decide) hp yb yp)
 have hxor := Lib.hid (show bits .xor .u8 (p : Int) (x : Int) = (y : Int) by rw [xor_u8 p x pb hx, hy])
 have HP := Lib.hid hp
 have hrem : (A : Int) % n = k := by rw [← hk]; exact (Int.natCast_emod A n).symm
 have L2 := Lib.hid (show (L.set k y).length = n by rw [List.length_set]; exact N1.out)
 obtain ⟨g, hg⟩ : ∃ q_, fnv 14695981039346656037 L = q_ := ⟨_, rfl⟩
 rw [hg] at HH HR NE
 obtain ⟨g2, hg2⟩ : ∃ q_, fnv 14695981039346656037 (L.set k y) = q_ := ⟨_, rfl⟩
 rw [hg2] at NE
 have HG2 := Lib.hid hg2
 have z1 : ((n : Int) == 0) = false := by simp; omega
 have z2 : ((x : Int) == 0) = false := by simp; omega
 have z3 : ¬ n = 0 := hz
 have z4 : ((g2 : Int) != g) = true := by have := NE.out; simp; omega
 have ki : (k : Int) < n := by omega
 have RKW : IntKind.i64.wrap (k : Int) = k := by rw [IntKind.wrap_i64]; omega
 clear h h' n1 by1 at1 hz1 hc1 hz hx0 hk hp hy yp hg hg2
 go_enter Try.func7, Try.ntmps7
 go_wp2_with (fail)
 with_reducible refine (AW.out w).mono ?_
 rintro q_ u1 ⟨rfl, b1⟩
 have B1 := Lib.hid b1
 clear b1
 go_wp2_with (fail)
 with_reducible refine (HH.out u1 (R1.out.below B1.out)).mono ?_
 rintro q_ w' ⟨rfl, hb⟩
 have hb' := hb.symm
 clear hb
 subst hb'
 obtain ⟨v', u2, hr, ho, hb⟩ := app_c (own_mt u1 u1.heap.size (Nat.le_refl _)) ((R1.out.below B1.out).below (own1 u1 _)) (by simp) (by simp; rw [N1.out]; omega)
 rw [List.nil_append] at ho
 have RUN := Lib.hid hr
 obtain ⟨gb, cg, e0, hge, _⟩ := ho.full (by rw [N1.out]; omega)
 subst e0
 rw [N1.out] at ho RUN
 have HO := Lib.hid ho
 have HB := Lib.hid (((Below.refl u1.heap.size u1).alloc (Nat.le_refl _) (.cells #[] 5)).trans hb)
 clear hr ho hb
 go_upto_region 7 with (at_builtin; refine wpList_append_run rfl _ _ _ (.slice (some ⟨u1.heap.size, 0, none⟩) 0 0) (.slice a n c) _ rfl rfl rfl RUN.out ?_)
 obtain ⟨q1, q2⟩ := HO.out.cell HP.out
 have HS := Lib.hid (st_own HO.out N1.out k y yb)
 have hxo := hxor.out
 go_upto_region 8 with (fail)
 clear hxo q1 q2
 have HO2 := Lib.hid HS.out.1
 have HB2 := Lib.hid (via B1.out (HB.out.trans HS.out.2))
 generalize u2.setCell ⟨gb, k, none⟩ (.int .u8 y) = u3 at HO2 HB2 ⊢
 clear HS HO HB B1
 go_wp2_with (fail)
 with_reducible refine (HR.out u3 (R1.out.below HB2.out)).mono ?_
 rintro q_ w' ⟨rfl, hb⟩
 have hb' := hb.symm
 clear hb
 subst hb'
 go_wp2_with (fail)
 refine (hash_c _ (L.set k y) (by rw [L2.out]; omega) u3 HO2.out.rd).mono ?_
 rw [HG2.out]
 rintro q_ w' ⟨rfl, hb⟩
 have hb' := hb.symm
 clear hb
 subst hb'
 go_wp2
 go_ret
 exact ⟨rfl, HB2.out⟩
theorem hash_walk (v : Value) (L : List Nat) (at_ x : Int) (hn : L.length ≤ 9223372036854775807) (a0 : 0 ≤ at_) (a1 : at_ < 18446744073709551616) (x0 : 0 ≤ x) (x1 : x < 256) (w : World) (h : Rd w v L) : Calls Try.prog 7 #[v, .int .u64 at_, .int .u8 x] w fun q_ w' => q_ = .returned (.bool true) ∧ Below w.heap.size w w' := by
 obtain ⟨A, rfl⟩ := Int.eq_ofNat_of_zero_le a0
 obtain ⟨X, rfl⟩ := Int.eq_ofNat_of_zero_le x0
 by_cases h0 : L.length ≤ 3000
 ·by_cases hz : L.length = 0 ∨ X = 0
  ·exact hash_zero v L A X (by omega) h0 hz w h
  ·exact hash_some v L A X (by omega) (by omega) h0 (fun e => hz (Or.inl e)) (fun e => hz (Or.inr e)) w h
 ·obtain ⟨a, n, c, rfl, n1, _⟩ := h.open
  exact hash_long a n c A X (by omega) (by omega) w
end Go.Proofs.Ytklbhbappaibgaa
