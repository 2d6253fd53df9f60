/-
  The walk through SnapSmall: for every world in which what came in lies as told; no other condition.
-/
import Derived.Test.YtklbhbappaibgaaAwk
import Derived.Test.YtklbhbappaibgaaSm
namespace Go.Proofs.Ytklbhbappaibgaa
open Go.ChangeShapes Go.WideShapes Go.ChangeAt Go.RowKit
set_option linter.unusedVariables false
set_option linter.unusedSimpArgs false
set_option maxRecDepth 100000
/-- The byte before the place t is alike, or there is none. -/
def FlP (fl : Bool) (L C : List Nat) (t : Nat) : Prop := fl = true ↔ t = 0 ∨ ∃ z, L[t - 1]? = some z ∧ C[t - 1]? = some z
theorem FlP.t {L C : List Nat} {t x y : Nat} (hx : L[t]? = some x) (hy : C[t]? = some y) (h : x = y) : FlP true L C (t + 1) :=
 ⟨fun _ => Or.inr ⟨x, by rw [Nat.add_sub_cancel]; exact hx, by rw [Nat.add_sub_cancel, h]; exact hy⟩, fun _ => rfl⟩
theorem FlP.f {L C : List Nat} {t x y : Nat} (hx : L[t]? = some x) (hy : C[t]? = some y) (h : ¬ x = y) : FlP false L C (t + 1) := by
 constructor
 ·intro q; cases q
 ·intro q
  rcases q with q | ⟨z, h1, h2⟩
  ·exact absurd q (by omega)
  ·rw [Nat.add_sub_cancel, hx] at h1
   rw [Nat.add_sub_cancel, hy] at h2
   injection h1 with h1
   injection h2 with h2
   exact absurd (h1.trans h2.symm) h
theorem FlP.zero (L C : List Nat) : FlP true L C 0 := ⟨fun _ => Or.inl rfl, fun _ => rfl⟩
theorem oth_at {B C : List Nat} {k x y : Nat} (hB : B[k]? = some x) (hC : C[k]? = some y) : oth (B.drop k) (C.drop k) = (if x = y then 0 else 1) + oth (B.drop (k + 1)) (C.drop (k + 1)) := by
 rw [drop_cons hB, drop_cons hC]; rfl
theorem bg_at {B C : List Nat} {k x y : Nat} {p : Bool} (hB : B[k]? = some x) (hC : C[k]? = some y) : bg p (B.drop k) (C.drop k) = if x = y then bg true (B.drop (k + 1)) (C.drop (k + 1)) else (if p = true then 1 else 0) + bg false (B.drop (k + 1)) (C.drop (k + 1)) := by
 rw [drop_cons hB, drop_cons hC]; rfl
set_option maxHeartbeats 2000000 in
theorem small_l0 (a0 a1 : Option Addr) (c0 c1 : Nat) (n0 : Nat) (hn0 : ¬ n0 ≤ 3000) (n1 : Nat) (w : World) : Calls Try.prog 6 #[.slice a0 n0 c0, .slice a1 n1 c1] w fun q_ w' => q_ = .returned (.bool true) ∧ Below w.heap.size w w' := by
 have in0 : (3000 : Int) < n0 := by omega
 clear hn0
 have AW := Lib.hid awake_c
 have hnot : ∀ (x : Bool) (w : World), (Op.unary .not (.bool x)).run Try.prog w = .ok (.bool (!x)) w := fun _ _ => rfl
 go_enter Try.func6, Try.ntmps6
 go_wp2_with (fail)
 with_reducible refine (AW.out w).mono ?_
 rintro q_ u1 ⟨rfl, b1⟩
 have B1 := Lib.hid b1
 clear b1
 go_wp2_with (fail)
 with_reducible refine (AW.out u1).mono ?_
 rintro q_ u2 ⟨rfl, b2⟩
 have B2 := Lib.hid (via B1.out b2)
 clear b2 B1
 go_wp2
 go_ret
 exact ⟨rfl, B2.out⟩
set_option maxHeartbeats 2000000 in
theorem small_l1 (a0 a1 : Option Addr) (c0 c1 : Nat) (n0 : Nat) (hn0 : n0 ≤ 3000) (n1 : Nat) (hn1 : ¬ n1 ≤ 60) (w : World) : Calls Try.prog 6 #[.slice a0 n0 c0, .slice a1 n1 c1] w fun q_ w' => q_ = .returned (.bool true) ∧ Below w.heap.size w w' := by
 have in0 : ¬ (3000 : Int) < n0 := by omega
 have in1 : (60 : Int) < n1 := by omega
 clear hn0 hn1
 have AW := Lib.hid awake_c
 have hnot : ∀ (x : Bool) (w : World), (Op.unary .not (.bool x)).run Try.prog w = .ok (.bool (!x)) w := fun _ _ => rfl
 go_enter Try.func6, Try.ntmps6
 go_wp2_with (fail)
 with_reducible refine (AW.out w).mono ?_
 rintro q_ u1 ⟨rfl, b1⟩
 have B1 := Lib.hid b1
 clear b1
 go_wp2_with (fail)
 with_reducible refine (AW.out u1).mono ?_
 rintro q_ u2 ⟨rfl, b2⟩
 have B2 := Lib.hid (via B1.out b2)
 clear b2 B1
 go_wp2
 go_ret
 exact ⟨rfl, B2.out⟩
set_option maxHeartbeats 8000000 in
theorem small_some (v0 v1 : Value) (L : List Nat) (n1 : Nat) (h0 : L.length ≤ 3000) (h1 : n1 ≤ 60) (w : World) (R : Rd w v0 L) (P1 : Pa w v1 n1) : Calls Try.prog 6 #[v0, v1] w fun q_ w' => q_ = .returned (.bool true) ∧ Below w.heap.size w w' := by
 have R0 := Lib.hid R
 have Q1 := Lib.hid P1
 obtain ⟨a0, n0, c0, rfl, m0, _, _, _, _⟩ := R.open
 obtain ⟨a1, c1, f1, g1, rfl, _⟩ := P1
 have M0 := Lib.hid m0
 rw [m0] at h0
 have i0 : ¬ (3000 : Int) < n0 := by omega
 have i1 : ¬ (60 : Int) < n1 := by omega
 have AW := Lib.hid awake_c
 have hnot : ∀ (x : Bool) (w : World), (Op.unary .not (.bool x)).run Try.prog w = .ok (.bool (!x)) w := fun _ _ => rfl
 clear R m0
 go_enter Try.func6, Try.ntmps6
 go_wp2_with (fail)
 with_reducible refine (AW.out w).mono ?_
 rintro q_ u1 ⟨rfl, b1⟩
 have B1 := Lib.hid b1
 clear b1
 go_wp2_with (fail)
 refine (changed_c _ _ L n1 (by rw [M0.out]; omega) h1 u1 (R0.out.below B1.out) (Q1.out.below B1.out)).mono ?_
 rintro q_ u2 ⟨s1, C, rfl, hC, o2, b2⟩
 have C1 := Lib.hid o2.rd
 have CL := Lib.hid (show C.length = n0 by rw [hC]; exact M0.out)
 have B2 := Lib.hid (via B1.out b2)
 clear hC o2 b2 B1
 go_wp2_with (fail)
 refine (pack_c _ s1 L C (by rw [M0.out]; omega) (by rw [CL.out]; omega) u2 (R0.out.below B2.out) C1.out).mono ?_
 rintro q_ u3 ⟨s3, rfl, o3, b3⟩
 rw [if_pos (by rw [M0.out, CL.out])] at o3 ⊢
 have K1 := Lib.hid o3.rd
 have C2 := Lib.hid (C1.out.below b3)
 have B3 := Lib.hid (via B2.out b3)
 have PL := Lib.hid (pk_len _ L C (Nat.le_refl _) (by rw [M0.out, CL.out]) (by rw [CL.out]; omega))
 clear o3 b3 B2 C1
 obtain ⟨as_, ns, cs_, rfl, hns, _, _, _, at2⟩ := C2.out.open
 obtain rfl : n0 = ns := by rw [← CL.out, hns]
 obtain ⟨a0', n0', c0', e0, _, _, _, _, at1⟩ := (R0.out.below B3.out).open
 injection e0 with e1 e2 e3
 subst e1; subst e2; subst e3
 obtain ⟨ap, cp, ep⟩ := K1.out.slice
 subst ep
 obtain ⟨N, hN⟩ : ∃ q_, (pk L C).length = q_ := ⟨_, rfl⟩
 have SM := Lib.hid (show N ≤ oth L C + 9 * bg true L C + 2 by rw [← hN]; exact pk_small _ L C true (Nat.le_refl _) (by rw [M0.out, CL.out]) (by rw [CL.out]; omega) (Or.inl rfl))
 have NB := Lib.hid (show N ≤ 20000 by rw [← hN]; have := PL.out; have := CL.out; omega)
 rw [hN]
 have A1 := Lib.hid at1
 have A2 := Lib.hid at2
 clear hN hns at1 at2 K1 C2
 go_upto_region 6 with (fail)
 go_wp2
 go_loopg [8, 9, 35] n0 (fun g' s8 s9 i wr => ∃ (t o b : Nat) (fl : Bool), t ≤ n0 ∧ g' + t = n0 ∧ i = .int .i64 t ∧ s8 = .int .i64 o ∧ s9 = .int .i64 b ∧ o ≤ t ∧ b ≤ t ∧ Below u3.heap.size u3 wr ∧ Hid (o + oth (L.drop t) (C.drop t) = oth L C) ∧ Hid (b + bg fl (L.drop t) (C.drop t) = bg true L C) ∧ Hid (FlP fl L C t))
 case atStart => exact ⟨0, 0, 0, true, by omega, by omega, rfl, rfl, rfl, by omega, by omega, Below.refl _ _, Lib.hid (by simp), Lib.hid (by simp), Lib.hid (FlP.zero L C)⟩
 case round =>
  obtain ⟨u4, hu⟩ : ∃ q_, q_ = wr := ⟨_, rfl⟩
  subst hu
  obtain ⟨t, o, b, fl, ht, hg, rfl, rfl, rfl, ot, bt, hb, HO, HBG, HF⟩ := hrel
  have TG := Lib.hid hg
  have HB := Lib.hid hb
  clear hg hb
  by_cases hlt : t < n0
  case neg =>
   have l0 : ¬ (t : Int) < n0 := by omega
   have hle : (N : Int) ≤ (o : Int) + 3 * b + 6 * b + 6 := by
    have h1 := HO.out
    have h2 := HBG.out
    rw [List.drop_of_length_le (l := C) (by rw [CL.out]; omega), oth_nil] at h1
    rw [List.drop_of_length_le (l := C) (by rw [CL.out]; omega), bg_nil] at h2
    have := SM.out
    omega
   have nb : (N : Int) ≤ 20000 := by have := NB.out; omega
   have ob : (o : Int) ≤ 3000 := by omega
   have bb : (b : Int) ≤ 3000 := by omega
   go_wp2
   go_ret
   refine ⟨?_, via B3.out HB.out⟩
   show Ending.returned (Value.bool _) = _
   congr 2
  have l0 : (t : Int) < n0 := by omega
  obtain ⟨x, hx⟩ := at_ex (L := L) (k := t) (by rw [M0.out]; exact hlt)
  obtain ⟨y, hy⟩ := at_ex (L := C) (k := t) (by rw [CL.out]; exact hlt)
  obtain ⟨b1, o1, rfl, l1, m1⟩ := A1.out (by rw [M0.out]; omega)
  obtain ⟨b2, o2, rfl, l2, m2⟩ := A2.out (by rw [CL.out]; omega)
  have e1 := (HB.out.cell (p := ⟨b1, o1 + t, none⟩) l1).trans (m1 t x hx)
  have e2 := (HB.out.cell (p := ⟨b2, o2 + t, none⟩) l2).trans (m2 t y hy)
  have HX := Lib.hid hx
  have HY := Lib.hid hy
  have MM := Lib.hid (And.intro m1 m2)
  have ob : (o : Int) ≤ 3000 := by omega
  have bb : (b : Int) ≤ 3000 := by omega
  clear hx hy m1 m2
  by_cases hxy : x = y
  ·have HNE := Lib.hid hxy
   have ne : ((y : Int) != x) = false := by simp; omega
   have HO2 := Lib.hid (show o + oth (L.drop (t + 1)) (C.drop (t + 1)) = oth L C by have := HO.out; rw [oth_at HX.out HY.out, if_pos hxy] at this; omega)
   have HB2 := Lib.hid (show b + bg true (L.drop (t + 1)) (C.drop (t + 1)) = bg true L C by have := HBG.out; rw [bg_at HX.out HY.out, if_pos hxy] at this; exact this)
   have HF2 := Lib.hid (FlP.t HX.out HY.out hxy)
   clear hxy
   go_wp2
   go_quiet (fail)
   go_wp2
   go_roundg (gk - 1)
   ·exact ⟨t + 1, o, b, true, by omega, by have := TG.out; omega, by simp, by simp, by simp, by omega, by omega, below_drewN HB.out _, HO2, HB2, HF2⟩
   case measure => have := TG.out; omega
  have HNE := Lib.hid hxy
  have ne : ((y : Int) != x) = true := by simp; omega
  have HO2 := Lib.hid (show o + 1 + oth (L.drop (t + 1)) (C.drop (t + 1)) = oth L C by have := HO.out; rw [oth_at HX.out HY.out, if_neg hxy] at this; omega)
  have HF2 := Lib.hid (FlP.f HX.out HY.out HNE.out)
  have HBG2 := HBG.out
  rw [bg_at HX.out HY.out, if_neg hxy] at HBG2
  have HBG3 := Lib.hid HBG2
  clear hxy HBG2
  by_cases ht0 : t = 0
  ·obtain rfl : fl = true := HF.out.2 (Or.inl ht0)
   have HB2 := Lib.hid (show b + 1 + bg false (L.drop (t + 1)) (C.drop (t + 1)) = bg true L C by have := HBG3.out; rw [if_pos rfl] at this; omega)
   have t0 : ((t : Int) == 0) = true := by simp; omega
   clear ht0
   go_wp2
   go_quiet (fail)
   go_wp2
   go_quiet (fail)
   go_wp2
   go_roundg (gk - 1)
   ·exact ⟨t + 1, o + 1, b + 1, false, by omega, by have := TG.out; omega, by simp, by simp, by simp, by omega, by omega, below_drewN HB.out _, HO2, HB2, HF2⟩
   case measure => have := TG.out; omega
  obtain ⟨t', ht'⟩ : ∃ t', t = t' + 1 := ⟨t - 1, by omega⟩
  have t0 : ((t : Int) == 0) = false := by simp; omega
  have tm : (t : Int) - 1 = t' := by omega
  have tw : IntKind.i64.wrap ((t : Int) - 1) = t' := by rw [IntKind.wrap_i64]; omega
  have tl : (t' : Int) < n0 := by omega
  obtain ⟨x', hx'⟩ := at_ex (L := L) (k := t') (by rw [M0.out]; omega)
  obtain ⟨y', hy'⟩ := at_ex (L := C) (k := t') (by rw [CL.out]; omega)
  have e3 := (HB.out.cell (p := ⟨b1, o1 + t', none⟩) l1).trans (MM.out.1 t' x' hx')
  have e4 := (HB.out.cell (p := ⟨b2, o2 + t', none⟩) l2).trans (MM.out.2 t' y' hy')
  have HX2 := Lib.hid (show L[t - 1]? = some x' ∧ C[t - 1]? = some y' by rw [show t - 1 = t' by omega]; exact ⟨hx', hy'⟩)
  clear hx' hy' ht0 ht'
  by_cases hp : x' = y'
  ·obtain rfl : fl = true := HF.out.2 (Or.inr ⟨x', HX2.out.1, by rw [hp]; exact HX2.out.2⟩)
   have HB2 := Lib.hid (show b + 1 + bg false (L.drop (t + 1)) (C.drop (t + 1)) = bg true L C by have := HBG3.out; rw [if_pos rfl] at this; omega)
   have pe : ((y' : Int) == x') = true := by simp; omega
   clear hp
   go_wp2
   go_quiet (fail)
   go_wp2
   go_quiet (fail)
   go_wp2
   go_roundg (gk - 1)
   ·exact ⟨t + 1, o + 1, b + 1, false, by omega, by have := TG.out; omega, by simp, by simp, by simp, by omega, by omega, below_drewN HB.out _, HO2, HB2, HF2⟩
   case measure => have := TG.out; omega
  obtain rfl : fl = false := by
   cases fl with
   | false => rfl
   | true =>
    exfalso
    rcases HF.out.1 rfl with q | ⟨z, q1, q2⟩
    ·have := t0; rw [q] at this; simp at this
    ·rw [HX2.out.1] at q1; rw [HX2.out.2] at q2; injection q1 with q1; injection q2 with q2; exact hp (q1.trans q2.symm)
  have HB2 := Lib.hid (show b + bg false (L.drop (t + 1)) (C.drop (t + 1)) = bg true L C by have := HBG3.out; simpa using this)
  have pe : ((y' : Int) == x') = false := by simp; omega
  clear hp
  go_wp2
  go_quiet (fail)
  go_wp2
  go_quiet (fail)
  go_wp2
  go_roundg (gk - 1)
  ·exact ⟨t + 1, o + 1, b, false, by omega, by have := TG.out; omega, by simp, by simp, by simp, by omega, by omega, below_drewN HB.out _, HO2, HB2, HF2⟩
  case measure => have := TG.out; omega
theorem small_walk (v0 v1 : Value) (L : List Nat) (n1 : Nat) (hn0 : L.length ≤ 9223372036854775807) (hn1 : n1 ≤ 9223372036854775807) (w : World) (R : Rd w v0 L) (P1 : Pa w v1 n1) : Calls Try.prog 6 #[v0, v1] w fun q_ w' => q_ = .returned (.bool true) ∧ Below w.heap.size w w' := by
 by_cases h : L.length ≤ 3000 ∧ n1 ≤ 60
 ·exact small_some v0 v1 L n1 h.1 h.2 w R P1
 obtain ⟨a0, n0, c0, rfl, m0, _, _, _, _⟩ := R.open
 obtain ⟨a1, c1, f1, g1, rfl, _⟩ := P1
 rw [m0] at h
 by_cases k0 : n0 ≤ 3000
 ·exact small_l1 a0 a1 c0 c1 n0 k0 n1 (fun k1 => h ⟨k0, k1⟩) w
 ·exact small_l0 a0 a1 c0 c1 n0 k0 n1 w
end Go.Proofs.Ytklbhbappaibgaa
