/-
  How far two slices are alike, how long a run of other bytes is, whether two slices are alike: for every world in which they lie as told; they have at most a million bytes.
-/
import Derived.Test.YtklbhbappaibgaaMem
namespace Go.Proofs.Ytklbhbappaibgaa
open Go.ChangeShapes Go.WideShapes Go.ChangeAt Go.RowKit
set_option linter.unusedVariables false
set_option linter.unusedSimpArgs false
set_option maxRecDepth 100000
set_option maxHeartbeats 1000000 in
theorem er_c (v1 v2 : Value) (L1 L2 : List Nat) (hl : L1.length = L2.length) (hm : L2.length ≤ 1000000) (w : World) (h1 : Rd w v1 L1) (h2 : Rd w v2 L2) : Calls Try.prog 18 #[v1, v2] w fun q_ w' => q_ = .returned (.int .i64 (eqR L1 L2 : Nat)) ∧ Below w.heap.size w w' := by
 obtain ⟨a1, n, c1, rfl, n1, hc1, hz1, by1, at1⟩ := h1.open
 obtain ⟨a2, n', c2, rfl, n2, hc2, hz2, by2, at2⟩ := h2.open
 obtain rfl : n = n' := by omega
 clear h1 h2 hz1 hz2 by1 by2
 rw [n2] at hm
 have A1 := Lib.hid at1
 have A2 := Lib.hid at2
 have N1 := Lib.hid n1
 have N2 := Lib.hid n2
 clear at1 at2 n1 n2
 go_enter Try.func18, Try.ntmps18
 go_wp2
 go_loopg [5] n (fun g' i wr => ∃ (t : Nat), t ≤ n ∧ g' + t = n ∧ i = .int .i64 t ∧ Below w.heap.size w wr ∧ Hid (eqR L1 L2 = t + eqR (L1.drop t) (L2.drop t)))
 case atStart => exact ⟨0, by omega, by omega, rfl, Below.refl _ _, Lib.hid (by simp)⟩
 case round =>
  obtain ⟨u3, hu⟩ : ∃ q_, q_ = wr := ⟨_, rfl⟩
  subst hu
  obtain ⟨t, ht, hg, rfl, hb, HE⟩ := hrel
  have TG := Lib.hid hg
  have HB := Lib.hid hb
  clear hg hb
  by_cases hlt : t < n
  ·have l0 : (t : Int) < n := by omega
   obtain ⟨x, hx⟩ := at_ex (L := L1) (k := t) (by rw [N1.out]; omega)
   obtain ⟨y, hy⟩ := at_ex (L := L2) (k := t) (by rw [N2.out]; omega)
   obtain ⟨b1, o1, rfl, l1, m1⟩ := A1.out (by rw [N1.out]; omega)
   obtain ⟨b2, o2, rfl, l2, m2⟩ := A2.out (by rw [N2.out]; omega)
   have e1 := (HB.out.cell (p := ⟨b1, o1 + t, none⟩) l1).trans (m1 (t) x hx)
   have e2 := (HB.out.cell (p := ⟨b2, o2 + t, none⟩) l2).trans (m2 (t) y hy)
   clear m1 m2
   have HX := Lib.hid hx
   have HY := Lib.hid hy
   clear hx hy
   by_cases hxy : x = y
   ·have HS := Lib.hid (show eqR L1 L2 = (t + 1) + eqR (L1.drop (t + 1)) (L2.drop (t + 1)) by rw [HE.out, eqR_at HX.out HY.out, if_pos hxy]; omega)
    have ne : ((x : Int) == y) = true := by simp; omega
    clear hxy
    go_wp2
    go_quiet (fail)
    go_wp2
    go_roundg (gk - 1)
    ·exact ⟨t + 1, by omega, by have := TG.out; omega, by simp, below_drewN HB.out _, HS⟩
    case measure => have := TG.out; omega
   ·have HS := Lib.hid (show eqR L1 L2 = t by rw [HE.out, eqR_at HX.out HY.out, if_neg hxy]; omega)
    have ne : ((x : Int) == y) = false := by simp; omega
    clear hxy
    go_wp2
    go_quiet (fail)
    go_wp2
    go_ret
    exact ⟨by rw [HS.out]; rfl, below_drewN HB.out _⟩
  ·have e : t = n := by omega
   have HS := Lib.hid (show eqR L1 L2 = t by rw [HE.out, List.drop_of_length_le (l := L2) (by rw [N2.out]; omega), eqR_nil]; omega)
   have l0 : ¬ (t : Int) < n := by omega
   clear e
   go_wp2
   go_quiet (fail)
   go_wp2
   go_ret
   exact ⟨by rw [HS.out]; rfl, below_drewN HB.out _⟩
set_option maxHeartbeats 1000000 in
theorem al_c (v1 v2 : Value) (L1 L2 : List Nat) (k : Nat) (hk : k ≤ L2.length) (hl : L1.length = L2.length) (hm : L2.length ≤ 1000000) (w : World) (h1 : Rd w v1 L1) (h2 : Rd w v2 L2) : Calls Try.prog 21 #[v1, v2, .int .i64 k] w fun q_ w' => q_ = .returned (.int .i64 (eqR (L1.drop k) (L2.drop k) : Nat)) ∧ Below w.heap.size w w' := by
 obtain ⟨a1, n, c1, rfl, n1, hc1, hz1, by1, at1⟩ := h1.open
 obtain ⟨a2, n', c2, rfl, n2, hc2, hz2, by2, at2⟩ := h2.open
 obtain rfl : n = n' := by omega
 clear h1 h2 hz1 hz2 by1 by2
 rw [n2] at hk hm
 have A1 := Lib.hid at1
 have A2 := Lib.hid at2
 have N1 := Lib.hid n1
 have N2 := Lib.hid n2
 clear at1 at2 n1 n2
 go_enter Try.func21, Try.ntmps21
 go_wp2
 go_loopg [7] n (fun g' i wr => ∃ (t : Nat), k + t ≤ n ∧ g' + t = n ∧ i = .int .i64 t ∧ Below w.heap.size w wr ∧ Hid (eqR (L1.drop k) (L2.drop k) = t + eqR (L1.drop (k + t)) (L2.drop (k + t))))
 case atStart => exact ⟨0, by omega, by omega, rfl, Below.refl _ _, Lib.hid (by simp)⟩
 case round =>
  obtain ⟨u3, hu⟩ : ∃ q_, q_ = wr := ⟨_, rfl⟩
  subst hu
  obtain ⟨t, ht, hg, rfl, hb, HE⟩ := hrel
  have TG := Lib.hid hg
  have HB := Lib.hid hb
  clear hg hb
  by_cases hlt : k + t < n
  ·have l0 : (k : Int) + t < n := by omega
   obtain ⟨x, hx⟩ := at_ex (L := L1) (k := k + t) (by rw [N1.out]; omega)
   obtain ⟨y, hy⟩ := at_ex (L := L2) (k := k + t) (by rw [N2.out]; omega)
   obtain ⟨b1, o1, rfl, l1, m1⟩ := A1.out (by rw [N1.out]; omega)
   obtain ⟨b2, o2, rfl, l2, m2⟩ := A2.out (by rw [N2.out]; omega)
   have e1 := (HB.out.cell (p := ⟨b1, o1 + (k + t), none⟩) l1).trans (m1 (k + t) x hx)
   have e2 := (HB.out.cell (p := ⟨b2, o2 + (k + t), none⟩) l2).trans (m2 (k + t) y hy)
   clear m1 m2
   have HX := Lib.hid hx
   have HY := Lib.hid hy
   clear hx hy
   have kt : ((k : Int) + (t : Int)).toNat = k + t := by omega
   by_cases hxy : x = y
   ·have HS := Lib.hid (show eqR (L1.drop k) (L2.drop k) = (t + 1) + eqR (L1.drop (k + (t + 1))) (L2.drop (k + (t + 1))) by
     have q := eqR_at HX.out HY.out
     rw [if_pos hxy] at q
     rw [HE.out, q, show k + (t + 1) = k + t + 1 by omega]; omega)
    have ne : ((x : Int) == y) = true := by simp; omega
    clear hxy
    go_wp2
    go_quiet (fail)
    go_wp2
    go_roundg (gk - 1)
    ·exact ⟨t + 1, by omega, by have := TG.out; omega, by simp, below_drewN HB.out _, HS⟩
    case measure => have := TG.out; omega
   ·have HS := Lib.hid (show eqR (L1.drop k) (L2.drop k) = t by rw [HE.out, eqR_at HX.out HY.out, if_neg hxy]; omega)
    have ne : ((x : Int) == y) = false := by simp; omega
    clear hxy
    go_wp2
    go_quiet (fail)
    go_wp2
    go_ret
    exact ⟨by rw [HS.out]; rfl, below_drewN HB.out _⟩
  ·have HS := Lib.hid (show eqR (L1.drop k) (L2.drop k) = t by rw [HE.out, List.drop_of_length_le (l := L2) (by rw [N2.out]; omega), eqR_nil]; omega)
   have l0 : ¬ (k : Int) + t < n := by omega
   have lw : IntKind.i64.wrap ((k : Int) + t) = (k : Int) + t := by rw [IntKind.wrap_i64]; omega
   have ld : decide ((k : Int) + t < n) = false := by simp; omega
   go_wp2
   go_quiet (fail)
   go_wp2
   go_ret
   exact ⟨by rw [HS.out]; rfl, below_drewN HB.out _⟩
/-- s bytes are behind, e alike ones at their end. -/
def DI (L1 L2 : List Nat) (s e : Nat) : Prop := dR L1 L2 = s + dR (L1.drop s) (L2.drop s) ∧ e ≤ eqR (L1.drop s) (L2.drop s)
theorem DI.same {L1 L2 : List Nat} {s e x y : Nat} (h : DI L1 L2 s e) (hx : L1[s + e]? = some x) (hy : L2[s + e]? = some y) (hxy : x = y) : DI L1 L2 s (e + 1) := by
 refine ⟨h.1, ?_⟩
 have h2 := eqR_split (L1.drop s) (L2.drop s) e h.2
 rw [List.drop_drop, List.drop_drop, eqR_at hx hy, if_pos hxy] at h2
 omega
theorem DI.other {L1 L2 : List Nat} {s e x y : Nat} (hl : L1.length = L2.length) (h : DI L1 L2 s e) (h4 : e < 4) (hx : L1[s + e]? = some x) (hy : L2[s + e]? = some y) (hxy : ¬ x = y) : DI L1 L2 (s + e + 1) 0 := by
 refine ⟨?_, Nat.zero_le _⟩
 have h2 := eqR_split (L1.drop s) (L2.drop s) e h.2
 rw [List.drop_drop, List.drop_drop, eqR_at hx hy, if_neg hxy] at h2
 have h3 := at_lt hy
 rw [h.1, dR_skip e (L1.drop s) (L2.drop s) (by simp [hl]) (by omega) h4 (by simp; omega), List.drop_drop, List.drop_drop]
 simp only [Nat.add_assoc]
theorem DI.done {L1 L2 : List Nat} {s e : Nat} (h : DI L1 L2 s e) (h4 : e = 4 ∨ s + e = L2.length) : dR L1 L2 = s := by
 have h2 := eqR_le (L1.drop s) (L2.drop s)
 have h3 := h.2
 rw [h.1, dR_stop]
 ·rfl
 ·simp only [List.length_drop] at h2 ⊢
  omega
set_option maxHeartbeats 1000000 in
theorem dr_c (v1 v2 : Value) (L1 L2 : List Nat) (hl : L1.length = L2.length) (hm : L2.length ≤ 1000000) (w : World) (h1 : Rd w v1 L1) (h2 : Rd w v2 L2) : Calls Try.prog 20 #[v1, v2] w fun q_ w' => q_ = .returned (.int .i64 (dR L1 L2 : Nat)) ∧ Below w.heap.size w w' := by
 obtain ⟨a1, n, c1, rfl, n1, hc1, hz1, by1, at1⟩ := h1.open
 obtain ⟨a2, n', c2, rfl, n2, hc2, hz2, by2, at2⟩ := h2.open
 obtain rfl : n = n' := by omega
 clear h1 h2 hz1 hz2 by1 by2
 rw [n2] at hm
 have A1 := Lib.hid at1
 have A2 := Lib.hid at2
 have N1 := Lib.hid n1
 have N2 := Lib.hid n2
 clear at1 at2 n1 n2
 go_enter Try.func20, Try.ntmps20
 go_wp2
 go_loopg [5, 6] n (fun g' i j wr => ∃ (t e : Nat), t ≤ n ∧ g' + t = n ∧ i = .int .i64 t ∧ j = .int .i64 e ∧ e ≤ t ∧ e ≤ 4 ∧ Below w.heap.size w wr ∧ Hid (DI L1 L2 (t - e) e))
 case atStart => exact ⟨0, 0, by omega, by omega, rfl, rfl, by omega, by omega, Below.refl _ _, Lib.hid (by simp [DI])⟩
 case round =>
  obtain ⟨u3, hu⟩ : ∃ q_, q_ = wr := ⟨_, rfl⟩
  subst hu
  obtain ⟨t, e, ht, hg, rfl, rfl, het, he4, hb, HE⟩ := hrel
  have TG := Lib.hid hg
  have HB := Lib.hid hb
  clear hg hb
  by_cases hlt : t < n
  ·have l0 : (t : Int) < n := by omega
   by_cases h4 : e < 4
   ·have l4 : (e : Int) < 4 := by omega
    obtain ⟨x, hx⟩ := at_ex (L := L1) (k := t) (by rw [N1.out]; omega)
    obtain ⟨y, hy⟩ := at_ex (L := L2) (k := t) (by rw [N2.out]; omega)
    obtain ⟨b1, o1, rfl, l1, m1⟩ := A1.out (by rw [N1.out]; omega)
    obtain ⟨b2, o2, rfl, l2, m2⟩ := A2.out (by rw [N2.out]; omega)
    have e1 := (HB.out.cell (p := ⟨b1, o1 + t, none⟩) l1).trans (m1 (t) x hx)
    have e2 := (HB.out.cell (p := ⟨b2, o2 + t, none⟩) l2).trans (m2 (t) y hy)
    clear m1 m2
    have HX := Lib.hid hx
    have HY := Lib.hid hy
    clear hx hy
    have ET := Lib.hid (show t - e + e = t by omega)
    by_cases hxy : x = y
    ·have HS := Lib.hid (show DI L1 L2 (t + 1 - (e + 1)) (e + 1) by
      have := HE.out.same (by rw [ET.out]; exact HX.out) (by rw [ET.out]; exact HY.out) hxy
      rwa [show t + 1 - (e + 1) = t - e by omega])
     have ne : ((x : Int) == y) = true := by simp; omega
     clear hxy
     go_wp2
     go_quiet (fail)
     go_wp2
     go_roundg (gk - 1)
     ·exact ⟨t + 1, e + 1, by omega, by have := TG.out; omega, by simp, by simp, by omega, by omega, below_drewN HB.out _, HS⟩
     case measure => have := TG.out; omega
    ·have HS := Lib.hid (show DI L1 L2 (t + 1 - 0) 0 by
      have := HE.out.other (by rw [N1.out, N2.out]) h4 (by rw [ET.out]; exact HX.out) (by rw [ET.out]; exact HY.out) hxy
      rwa [ET.out] at this)
     have ne : ((x : Int) == y) = false := by simp; omega
     clear hxy
     go_wp2
     go_quiet (fail)
     go_wp2
     go_roundg (gk - 1)
     ·exact ⟨t + 1, 0, by omega, by have := TG.out; omega, by simp, by simp, by omega, by omega, below_drewN HB.out _, HS⟩
     case measure => have := TG.out; omega
   ·have HS := Lib.hid (HE.out.done (Or.inl (by omega)))
    have l4 : ¬ (e : Int) < 4 := by omega
    go_wp2
    go_ret
    exact ⟨by rw [HS.out, Int.ofNat_sub het]; rfl, HB.out⟩
  ·have HS := Lib.hid (HE.out.done (Or.inr (by rw [N2.out]; omega)))
   have l0 : ¬ (t : Int) < n := by omega
   go_wp2
   go_ret
   exact ⟨by rw [HS.out, Int.ofNat_sub het]; rfl, HB.out⟩
set_option maxHeartbeats 1000000 in
theorem same_c (v1 v2 : Value) (L1 L2 : List Nat) (q : Bool) (hq : q = true ↔ L1 = L2) (hm : L2.length ≤ 1000000) (w : World) (h1 : Rd w v1 L1) (h2 : Rd w v2 L2) : Calls Try.prog 15 #[v1, v2] w fun q_ w' => q_ = .returned (.bool q) ∧ Below w.heap.size w w' := by
 by_cases hl : L1.length = L2.length
 case neg =>
  obtain rfl : q = false := by
   cases q with
   | false => rfl
   | true => exact absurd (congrArg List.length (hq.1 rfl)) hl
  obtain ⟨a1, n, c1, rfl, n1, hc1, hz1, by1, at1⟩ := h1.open
  obtain ⟨a2, n', c2, rfl, n2, hc2, hz2, by2, at2⟩ := h2.open
  have hne : ((n : Int) != n') = true := by simp; omega
  clear hl n1 n2 hq at1 at2 h1 h2
  go_enter Try.func15, Try.ntmps15
  go_wp2
  go_ret
  exact ⟨rfl, Below.refl _ _⟩
 obtain ⟨a1, n, c1, rfl, n1, hc1, hz1, by1, at1⟩ := h1.open
 obtain ⟨a2, n', c2, rfl, n2, hc2, hz2, by2, at2⟩ := h2.open
 obtain rfl : n = n' := by omega
 clear h1 h2 hz1 hz2 by1 by2
 rw [n2] at hm
 have A1 := Lib.hid at1
 have A2 := Lib.hid at2
 have N1 := Lib.hid n1
 have N2 := Lib.hid n2
 clear at1 at2 n1 n2
 have HQ := Lib.hid hq
 clear hq
 go_enter Try.func15, Try.ntmps15
 go_wp2
 go_loopg [13] n (fun g' i wr => ∃ (t : Nat), t ≤ n ∧ g' + t = n ∧ i = .int .i64 t ∧ Below w.heap.size w wr ∧ Hid (L1.take t = L2.take t))
 case atStart => exact ⟨0, by omega, by omega, rfl, Below.refl _ _, Lib.hid (by simp)⟩
 case round =>
  obtain ⟨u3, hu⟩ : ∃ q_, q_ = wr := ⟨_, rfl⟩
  subst hu
  obtain ⟨t, ht, hg, rfl, hb, HE⟩ := hrel
  have TG := Lib.hid hg
  have HB := Lib.hid hb
  clear hg hb
  by_cases hlt : t < n
  ·have l0 : (t : Int) < n := by omega
   obtain ⟨x, hx⟩ := at_ex (L := L1) (k := t) (by rw [N1.out]; omega)
   obtain ⟨y, hy⟩ := at_ex (L := L2) (k := t) (by rw [N2.out]; omega)
   obtain ⟨b1, o1, rfl, l1, m1⟩ := A1.out (by rw [N1.out]; omega)
   obtain ⟨b2, o2, rfl, l2, m2⟩ := A2.out (by rw [N2.out]; omega)
   have e1 := (HB.out.cell (p := ⟨b1, o1 + t, none⟩) l1).trans (m1 (t) x hx)
   have e2 := (HB.out.cell (p := ⟨b2, o2 + t, none⟩) l2).trans (m2 (t) y hy)
   clear m1 m2
   have HX := Lib.hid hx
   have HY := Lib.hid hy
   clear hx hy
   by_cases hxy : x = y
   ·have HS := Lib.hid (show L1.take (t + 1) = L2.take (t + 1) by rw [List.take_add_one, List.take_add_one, HE.out, HX.out, HY.out, hxy])
    have ne : ((x : Int) != y) = false := by simp; omega
    clear hxy
    go_wp2
    go_quiet (fail)
    go_wp2
    go_roundg (gk - 1)
    ·exact ⟨t + 1, by omega, by have := TG.out; omega, by simp, below_drewN HB.out _, HS⟩
    case measure => have := TG.out; omega
   ·obtain rfl : q = false := by
     cases q with
     | false => rfl
     | true =>
      have h3 := HQ.out.1 rfl
      have h4 := HX.out
      rw [h3, HY.out] at h4
      injection h4 with h4
      exact absurd h4.symm hxy
    have ne : ((x : Int) != y) = true := by simp; omega
    clear hxy
    go_wp2
    go_quiet (fail)
    go_wp2
    go_ret
    exact ⟨rfl, below_drewN HB.out _⟩
  ·obtain rfl : q = true := HQ.out.2 (by
    have h3 := HE.out
    rwa [List.take_of_length_le (by rw [N1.out]; omega), List.take_of_length_le (by rw [N2.out]; omega)] at h3)
   have l0 : ¬ (t : Int) < n := by omega
   go_wp2
   go_ret
   exact ⟨rfl, HB.out⟩
end Go.Proofs.Ytklbhbappaibgaa
