/-
  A number is read off a slice of bytes, as the document reads it: for every world; at most a million bytes.
-/
import Derived.Test.YtklbhbappaibgaaTk
namespace Go.Proofs.Ytklbhbappaibgaa
open Go.ChangeShapes Go.WideShapes Go.ChangeAt Go.RowKit
set_option linter.unusedVariables false
set_option linter.unusedSimpArgs false
set_option maxRecDepth 100000
/-- What the document's reader of a number hands back. -/
def RdE (L : List Nat) (w : World) (q_ : Ending) (w' : World) : Prop := q_ = .returned (.tuple #[.int .i64 ((rd L).2.1 : Nat), .int .i64 ((rd L).2.2 : Nat), .int .i64 ((rd L).1 : Nat)]) ∧ w' = w
theorem RdE.bad {L : List Nat} {e : Nat} {w : World} (h : rd L = (e, 0, 0)) (he : e ≠ 0) : RdE L w (.returned (.tuple #[.int .i64 0, .int .i64 0, .int .i64 e])) w := by
 unfold RdE; rw [h]; exact ⟨rfl, rfl⟩
theorem RdE.good {L : List Nat} {n k : Nat} {w : World} (h : rd L = (0, n, k)) : RdE L w (.returned (.tuple #[.int .i64 n, .int .i64 k, .int .i64 0])) w := by
 unfold RdE; rw [h]; exact ⟨rfl, rfl⟩
set_option maxHeartbeats 4000000 in
theorem read_w (a : Option Addr) (n c : Nat) (L : List Nat) (hL : L.length = n) (hm : n ≤ 1000000) (hc : n ≤ c) (by1 : By L) (w : World) (at1 : At w a L) : Calls Try.prog 25 #[.slice a n c] w (RdE L w) := by
 have N1 := Lib.hid hL
 have BY := Lib.hid by1
 have A1 := Lib.hid at1
 clear at1 by1 hL
 go_enter Try.func25, Try.ntmps25
 go_wp2
 go_loopg [5, 6, 7] 4 (fun g' s j i wr => ∃ (t m sc : Nat), t ≤ 4 ∧ g' + t = 4 ∧ i = .int .i64 t ∧ s = .int .i64 m ∧ j = .int .i64 sc ∧ wr = w ∧ Hid (sc = 128 ^ t) ∧ Hid (rd L = rdL (4 - t) t (128 ^ t) m (L.drop t)) ∧ Hid (m < 128 ^ t))
 case atStart => exact ⟨0, 0, 1, by omega, by omega, rfl, rfl, rfl, rfl, Lib.hid (by rfl), Lib.hid (by rfl), Lib.hid (by decide)⟩
 case round =>
  obtain ⟨t, m, sc, ht, hg, rfl, rfl, rfl, rfl, HC, HR, HM⟩ := hrel
  have TG := Lib.hid hg
  clear hg
  by_cases hlt : t < 4
  ·have l0 : (t : Int) < 4 := by omega
   rcases (show t = 0 ∨ t = 1 ∨ t = 2 ∨ t = 3 by omega) with ht0 | ht1 | ht2 | ht3
   ·subst ht0
    obtain rfl : m = 0 := by have h := HM.out; simpa using h
    obtain rfl : sc = 1 := by have h := HC.out; simpa using h
    by_cases hln : n ≤ 0
    ·have R := Lib.hid (rd_end (f := 3) (t := 0) (s := 1) HR.out (by rw [N1.out]; exact hln))
     have ln : (n : Int) ≤ 0 := by omega
     clear hln
     go_wp2
     go_ret3
     exact RdE.bad R.out (by decide)
    obtain ⟨x, hx⟩ := at_ex (L := L) (k := 0) (by rw [N1.out]; omega)
    obtain ⟨b, o, rfl, lb, mc⟩ := A1.out (by rw [N1.out]; omega)
    have e1 := mc 0 x hx
    rw [Nat.add_zero] at e1
    have xb := BY.out.at hx
    have HX := Lib.hid hx
    have ln : ¬ (n : Int) ≤ 0 := by omega
    clear hx mc
    obtain ⟨y, hy⟩ : ∃ y, x % 128 = y := ⟨_, rfl⟩
    have y1 : (y : Int) < 128 := by omega
    have mb : 0 < 1 := HM.out
    have hq : 0 + y * 1 = y := by omega
    have W := Lib.hid (show (x : Int) % 128 = y ∧ (x : Int).tmod 128 = y from
     ⟨by omega, by rw [Int.tmod_eq_emod_of_nonneg (by omega)]; omega⟩)
    have HQ := Lib.hid hq
    have HY := Lib.hid hy
    clear hq hy
    by_cases h8 : x < 128
    ·have HY2 := Lib.hid (show x = y by have := HY.out; omega)
     have h8i : (x : Int) < 128 := by omega
     have R := Lib.hid (rd_done (f := 3) (t := 0) (s := 1) HR.out HX.out h8 (by omega))
     have RE := Lib.hid (show 0 + x * 1 = y by rw [HY2.out]; exact HQ.out)
     obtain ⟨t1, t2⟩ := W.out
     go_wp2
     clear t1 t2
     go_ret3
     have R2 := R.out
     rw [RE.out] at R2
     exact RdE.good R2
    ·have h8i : ¬ (x : Int) < 128 := by omega
     have HS := Lib.hid (show rd L = rdL (4 - 1) 1 (128 ^ 1) y (L.drop 1) by
      have h := rd_go (f := 3) (t := 0) (s := 1) HR.out HX.out h8
      rw [HY.out, HQ.out] at h
      exact h)
     have HB := Lib.hid (show y < 128 ^ 1 by have := HQ.out; show y < 128; omega)
     obtain ⟨t1, t2⟩ := W.out
     go_wp2
     clear t1 t2
     go_roundg 3
     ·exact ⟨1, y, 128, by omega, by omega, by rfl, by rfl, by rfl, rfl, Lib.hid (by rfl), HS, HB⟩
     case measure => have := TG.out; omega
   ·subst ht1
    obtain rfl : sc = 128 := by have h := HC.out; simpa using h
    by_cases hln : n ≤ 1
    ·have R := Lib.hid (rd_end (f := 2) (t := 1) (s := 128) HR.out (by rw [N1.out]; exact hln))
     have ln : (n : Int) ≤ 1 := by omega
     clear hln
     go_wp2
     go_ret3
     exact RdE.bad R.out (by decide)
    obtain ⟨x, hx⟩ := at_ex (L := L) (k := 1) (by rw [N1.out]; omega)
    obtain ⟨b, o, rfl, lb, mc⟩ := A1.out (by rw [N1.out]; omega)
    have e1 := mc 1 x hx
    have xb := BY.out.at hx
    have HX := Lib.hid hx
    have ln : ¬ (n : Int) ≤ 1 := by omega
    clear hx mc
    obtain ⟨y, hy⟩ : ∃ y, x % 128 = y := ⟨_, rfl⟩
    have y1 : (y : Int) < 128 := by omega
    have mb : m < 128 := HM.out
    obtain ⟨q, hq⟩ : ∃ q, m + y * 128 = q := ⟨_, rfl⟩
    have qb : (q : Int) < 1000000000 := by omega
    have W := Lib.hid (show (x : Int) % 128 = y ∧ (x : Int).tmod 128 = y ∧ (m : Int) + (y : Int) * 128 = q from
     ⟨by omega, by rw [Int.tmod_eq_emod_of_nonneg (by omega)]; omega, by omega⟩)
    have y2 : (y : Int) * 128 < 1000000000 := by omega
    have HQ := Lib.hid hq
    have HY := Lib.hid hy
    clear hq hy
    by_cases h8 : x < 128
    ·have HY2 := Lib.hid (show x = y by have := HY.out; omega)
     have h8i : (x : Int) < 128 := by omega
     by_cases hx0 : x = 0
     ·have R := Lib.hid (rd_zero (f := 2) (t := 1) (s := 128) HR.out HX.out h8 ⟨by omega, hx0⟩)
      subst hx0
      obtain rfl : y = 0 := by have := HY2.out; omega
      obtain rfl : q = m := by have := HQ.out; omega
      have z1 : (0 : Int).tmod 128 = 0 := by decide
      go_wp2
      go_ret3
      exact RdE.bad R.out (by decide)
     have x0 : ((x : Int) == 0) = false := by simp; omega
     have R := Lib.hid (rd_done (f := 2) (t := 1) (s := 128) HR.out HX.out h8 (by omega))
     clear hx0
     have RE := Lib.hid (show m + x * 128 = q by rw [HY2.out]; exact HQ.out)
     obtain ⟨t1, t2, t3⟩ := W.out
     go_wp2
     clear t1 t2 t3
     go_ret3
     have R2 := R.out
     rw [RE.out] at R2
     exact RdE.good R2
    ·have h8i : ¬ (x : Int) < 128 := by omega
     have HS := Lib.hid (show rd L = rdL (4 - 2) 2 (128 ^ 2) q (L.drop 2) by
      have h := rd_go (f := 2) (t := 1) (s := 128) HR.out HX.out h8
      rw [HY.out, HQ.out] at h
      exact h)
     have HB := Lib.hid (show q < 128 ^ 2 by have := HQ.out; show q < 16384; omega)
     obtain ⟨t1, t2, t3⟩ := W.out
     go_wp2
     clear t1 t2 t3
     go_roundg 2
     ·exact ⟨2, q, 16384, by omega, by omega, by rfl, by rfl, by rfl, rfl, Lib.hid (by rfl), HS, HB⟩
     case measure => have := TG.out; omega
   ·subst ht2
    obtain rfl : sc = 16384 := by have h := HC.out; simpa using h
    by_cases hln : n ≤ 2
    ·have R := Lib.hid (rd_end (f := 1) (t := 2) (s := 16384) HR.out (by rw [N1.out]; exact hln))
     have ln : (n : Int) ≤ 2 := by omega
     clear hln
     go_wp2
     go_ret3
     exact RdE.bad R.out (by decide)
    obtain ⟨x, hx⟩ := at_ex (L := L) (k := 2) (by rw [N1.out]; omega)
    obtain ⟨b, o, rfl, lb, mc⟩ := A1.out (by rw [N1.out]; omega)
    have e1 := mc 2 x hx
    have xb := BY.out.at hx
    have HX := Lib.hid hx
    have ln : ¬ (n : Int) ≤ 2 := by omega
    clear hx mc
    obtain ⟨y, hy⟩ : ∃ y, x % 128 = y := ⟨_, rfl⟩
    have y1 : (y : Int) < 128 := by omega
    have mb : m < 16384 := HM.out
    obtain ⟨q, hq⟩ : ∃ q, m + y * 16384 = q := ⟨_, rfl⟩
    have qb : (q : Int) < 1000000000 := by omega
    have W := Lib.hid (show (x : Int) % 128 = y ∧ (x : Int).tmod 128 = y ∧ (m : Int) + (y : Int) * 16384 = q from
     ⟨by omega, by rw [Int.tmod_eq_emod_of_nonneg (by omega)]; omega, by omega⟩)
    have y2 : (y : Int) * 16384 < 1000000000 := by omega
    have HQ := Lib.hid hq
    have HY := Lib.hid hy
    clear hq hy
    by_cases h8 : x < 128
    ·have HY2 := Lib.hid (show x = y by have := HY.out; omega)
     have h8i : (x : Int) < 128 := by omega
     by_cases hx0 : x = 0
     ·have R := Lib.hid (rd_zero (f := 1) (t := 2) (s := 16384) HR.out HX.out h8 ⟨by omega, hx0⟩)
      subst hx0
      obtain rfl : y = 0 := by have := HY2.out; omega
      obtain rfl : q = m := by have := HQ.out; omega
      have z1 : (0 : Int).tmod 128 = 0 := by decide
      go_wp2
      go_ret3
      exact RdE.bad R.out (by decide)
     have x0 : ((x : Int) == 0) = false := by simp; omega
     have R := Lib.hid (rd_done (f := 1) (t := 2) (s := 16384) HR.out HX.out h8 (by omega))
     clear hx0
     have RE := Lib.hid (show m + x * 16384 = q by rw [HY2.out]; exact HQ.out)
     obtain ⟨t1, t2, t3⟩ := W.out
     go_wp2
     clear t1 t2 t3
     go_ret3
     have R2 := R.out
     rw [RE.out] at R2
     exact RdE.good R2
    ·have h8i : ¬ (x : Int) < 128 := by omega
     have HS := Lib.hid (show rd L = rdL (4 - 3) 3 (128 ^ 3) q (L.drop 3) by
      have h := rd_go (f := 1) (t := 2) (s := 16384) HR.out HX.out h8
      rw [HY.out, HQ.out] at h
      exact h)
     have HB := Lib.hid (show q < 128 ^ 3 by have := HQ.out; show q < 2097152; omega)
     obtain ⟨t1, t2, t3⟩ := W.out
     go_wp2
     clear t1 t2 t3
     go_roundg 1
     ·exact ⟨3, q, 2097152, by omega, by omega, by rfl, by rfl, by rfl, rfl, Lib.hid (by rfl), HS, HB⟩
     case measure => have := TG.out; omega
   ·subst ht3
    obtain rfl : sc = 2097152 := by have h := HC.out; simpa using h
    by_cases hln : n ≤ 3
    ·have R := Lib.hid (rd_end (f := 0) (t := 3) (s := 2097152) HR.out (by rw [N1.out]; exact hln))
     have ln : (n : Int) ≤ 3 := by omega
     clear hln
     go_wp2
     go_ret3
     exact RdE.bad R.out (by decide)
    obtain ⟨x, hx⟩ := at_ex (L := L) (k := 3) (by rw [N1.out]; omega)
    obtain ⟨b, o, rfl, lb, mc⟩ := A1.out (by rw [N1.out]; omega)
    have e1 := mc 3 x hx
    have xb := BY.out.at hx
    have HX := Lib.hid hx
    have ln : ¬ (n : Int) ≤ 3 := by omega
    clear hx mc
    obtain ⟨y, hy⟩ : ∃ y, x % 128 = y := ⟨_, rfl⟩
    have y1 : (y : Int) < 128 := by omega
    have mb : m < 2097152 := HM.out
    obtain ⟨q, hq⟩ : ∃ q, m + y * 2097152 = q := ⟨_, rfl⟩
    have qb : (q : Int) < 1000000000 := by omega
    have W := Lib.hid (show (x : Int) % 128 = y ∧ (x : Int).tmod 128 = y ∧ (m : Int) + (y : Int) * 2097152 = q from
     ⟨by omega, by rw [Int.tmod_eq_emod_of_nonneg (by omega)]; omega, by omega⟩)
    have y2 : (y : Int) * 2097152 < 1000000000 := by omega
    have HQ := Lib.hid hq
    have HY := Lib.hid hy
    clear hq hy
    by_cases h8 : x < 128
    ·have HY2 := Lib.hid (show x = y by have := HY.out; omega)
     have h8i : (x : Int) < 128 := by omega
     by_cases hx0 : x = 0
     ·have R := Lib.hid (rd_zero (f := 0) (t := 3) (s := 2097152) HR.out HX.out h8 ⟨by omega, hx0⟩)
      subst hx0
      obtain rfl : y = 0 := by have := HY2.out; omega
      obtain rfl : q = m := by have := HQ.out; omega
      have z1 : (0 : Int).tmod 128 = 0 := by decide
      go_wp2
      go_ret3
      exact RdE.bad R.out (by decide)
     have x0 : ((x : Int) == 0) = false := by simp; omega
     have R := Lib.hid (rd_done (f := 0) (t := 3) (s := 2097152) HR.out HX.out h8 (by omega))
     clear hx0
     have RE := Lib.hid (show m + x * 2097152 = q by rw [HY2.out]; exact HQ.out)
     obtain ⟨t1, t2, t3⟩ := W.out
     go_wp2
     clear t1 t2 t3
     go_ret3
     have R2 := R.out
     rw [RE.out] at R2
     exact RdE.good R2
    ·have h8i : ¬ (x : Int) < 128 := by omega
     have HS := Lib.hid (show rd L = rdL (4 - 4) 4 (128 ^ 4) q (L.drop 4) by
      have h := rd_go (f := 0) (t := 3) (s := 2097152) HR.out HX.out h8
      rw [HY.out, HQ.out] at h
      exact h)
     have HB := Lib.hid (show q < 128 ^ 4 by have := HQ.out; show q < 268435456; omega)
     obtain ⟨t1, t2, t3⟩ := W.out
     go_wp2
     clear t1 t2 t3
     go_roundg 0
     ·exact ⟨4, q, 268435456, by omega, by omega, by rfl, by rfl, by rfl, rfl, Lib.hid (by rfl), HS, HB⟩
     case measure => have := TG.out; omega
  ·obtain rfl : t = 4 := by omega
   have R := Lib.hid (rd_four HR.out)
   go_wp2
   go_ret3
   exact RdE.bad R.out (by decide)
theorem read_c (v : Value) (L : List Nat) (hm : L.length ≤ 1000000) (w : World) (h : Rd w v L) : Calls Try.prog 25 #[v] w (RdE L w) := by
 obtain ⟨a, n, c, rfl, hn, hc, _, hb, hat⟩ := h.open
 exact read_w a n c L hn (by omega) hc hb w hat
end Go.Proofs.Ytklbhbappaibgaa
