/-
  A number is read off a slice of bytes: for every world; at most a million bytes.
-/
import Derived.Test.YtklbhbappaibgaaRn
import Derived.LoopN
namespace Go.Proofs.Ytklbhbappaibgaa
open Go.ChangeShapes Go.WideShapes Go.ChangeAt Go.RowKit
set_option linter.unusedVariables false
set_option linter.unusedSimpArgs false
set_option maxRecDepth 100000
theorem Rd.rest2 {w : World} {b o n c : Nat} {L : List Nat} (h : Rd w (.slice (some ⟨b, o, none⟩) n c) L) (lo : Nat) (h1 : lo ≤ n) (hc : ¬ c = lo) : Rd w (.slice (some ⟨b, o + lo, none⟩) (n - lo) (c - lo)) (L.drop lo) := by
 have := h.rest lo h1
 unfold sliced at this
 rw [if_neg hc] at this
 simp only [Option.map_some, Nat.mul_one, Go.WideShapes.add_plain] at this
 exact this
theorem rd_mt (w : World) (a : Addr) (L : List Nat) (h : L = []) : Rd w (.slice (some a) 0 0) L := by
 subst h
 exact ⟨_, 0, rfl, Nat.le_refl _, fun q => by simp at q, By.nil, fun q => absurd q (by simp)⟩
theorem byte_allN {P : Nat → Prop} (h : ∀ n : Fin 256, P n.val) (a : Nat) (h2 : a < 256) : P a := h ⟨a, h2⟩
theorem rd_go {L : List Nat} {f t s m x : Nat} (h : rd L = rdL (f + 1) t s m (L.drop t)) (hx : L[t]? = some x) (h8 : ¬ x < 128) : rd L = rdL f (t + 1) (s * 128) (m + x % 128 * s) (L.drop (t + 1)) := by
 rw [h, drop_cons hx, rdL, if_neg h8]
theorem rd_zero {L : List Nat} {f t s m x : Nat} (h : rd L = rdL (f + 1) t s m (L.drop t)) (hx : L[t]? = some x) (h8 : x < 128) (h0 : 0 < t ∧ x = 0) : rd L = (5, 0, 0) := by
 rw [h, drop_cons hx, rdL, if_pos h8, if_pos h0]
theorem rd_done {L : List Nat} {f t s m x : Nat} (h : rd L = rdL (f + 1) t s m (L.drop t)) (hx : L[t]? = some x) (h8 : x < 128) (h0 : ¬ (0 < t ∧ x = 0)) : rd L = (0, m + x * s, t + 1) := by
 rw [h, drop_cons hx, rdL, if_pos h8, if_neg h0]
theorem rd_end {L : List Nat} {f t s m : Nat} (h : rd L = rdL (f + 1) t s m (L.drop t)) (hl : L.length ≤ t) : rd L = (2, 0, 0) := by
 rw [h, List.drop_of_length_le hl, rdL]
theorem rd_four {L : List Nat} {t s m : Nat} {q : List Nat} (h : rd L = rdL 0 t s m q) : rd L = (5, 0, 0) := by
 rw [h, rdL]
theorem tk_bad {L : List Nat} {most e : Nat} (h : rd L = (e, 0, 0)) (he : e ≠ 0) : tk L most = (e, 0, 0) := by
 unfold tk; rw [h]; exact if_pos he
theorem tk_big {L : List Nat} {most n k : Nat} (h : rd L = (0, n, k)) (hb : most < n) : tk L most = (6, 0, 0) := by
 unfold tk; rw [h, if_neg (by simp)]; exact if_pos hb
theorem tk_good {L : List Nat} {most n k : Nat} (h : rd L = (0, n, k)) (hb : n ≤ most) : tk L most = (0, n, k) := by
 unfold tk; rw [h, if_neg (by simp)]; exact if_neg (by simpa using hb)
/-- What a reader of a number hands back. -/
def TkE (L : List Nat) (most : Nat) (v : Value) (w : World) (q_ : Ending) (w' : World) : Prop := ∃ s, q_ = .returned (.tuple #[.int .i64 ((tk L most).2.1 : Nat), s, .int .i64 ((tk L most).1 : Nat)]) ∧ (∀ w0, Rd w0 v L → Rd w0 s (if (tk L most).1 = 0 then L.drop (tk L most).2.2 else [])) ∧ Below w.heap.size w w'
theorem TkE.bad {L : List Nat} {most e : Nat} {v : Value} {w w' : World} (h : tk L most = (e, 0, 0)) (he : e ≠ 0) (hb : Below w.heap.size w w') : TkE L most v w (.returned (.tuple #[.int .i64 0, .slice none 0 0, .int .i64 e])) w' := by
 unfold TkE; rw [h]
 exact ⟨_, rfl, fun w0 _ => by rw [if_neg he]; exact Rd.nil w0, hb⟩
theorem TkE.good {L : List Nat} {most n k : Nat} {s v : Value} {w w' : World} (h : tk L most = (0, n, k)) (hs : ∀ w0, Rd w0 v L → Rd w0 s (L.drop k)) (hb : Below w.heap.size w w') : TkE L most v w (.returned (.tuple #[.int .i64 n, s, .int .i64 0])) w' := by
 unfold TkE; rw [h]
 exact ⟨_, rfl, fun w0 h0 => by rw [if_pos rfl]; exact hs w0 h0, hb⟩
theorem or_nat (a b : Nat) (h : a ||| b < 4611686018427387904) (ha : a < 4611686018427387904) (hb : b < 4611686018427387904) : bits .or .i64 (a : Int) (b : Int) = ((a ||| b : Nat) : Int) := by
 have key : (BitVec.ofInt 64 (a : Int) ||| BitVec.ofInt 64 (b : Int)).toNat = a ||| b := by
  rw [BitVec.toNat_or, BitVec.toNat_ofInt, BitVec.toNat_ofInt]
  congr 1 <;> omega
 show IntKind.i64.wrap ((BitVec.ofInt 64 (a : Int) ||| BitVec.ofInt 64 (b : Int)).toNat : Nat) = _
 rw [key, IntKind.wrap_i64]
 omega
theorem or_sum (k m y : Nat) (hm : m < 2 ^ k) (hs : m + y * 2 ^ k < 1000000000) : m ||| (y * 2 ^ k) = m + y * 2 ^ k := by
 have h := Nat.shiftLeft_add_eq_or_of_lt hm y
 rw [Nat.shiftLeft_eq] at h
 rw [Nat.or_comm, ← h, Nat.add_comm]
theorem or_add (k m y : Nat) (hm : m < 2 ^ k) (hs : m + y * 2 ^ k < 1000000000) : bits .or .i64 (m : Int) ((y * 2 ^ k : Nat) : Int) = ((m + y * 2 ^ k : Nat) : Int) := by
 have h := or_sum k m y hm hs
 rw [or_nat m (y * 2 ^ k) (by rw [h]; omega) (by omega) (by omega), h]
theorem wrp (z : Int) (h0 : 0 ≤ z) (h1 : z < 1000000000) : wrap64 z = z := by
 simp only [wrap64]; omega
theorem a127 (x : Nat) (h : x < 256) : bits .and .u8 (x : Int) 127 = ((x % 128 : Nat) : Int) := by
 have := byte_allN (P := fun n => bits .and .u8 (n : Int) 127 = ((n % 128 : Nat) : Int)) (by decide +kernel) x h
 exact this
theorem a128l (x : Nat) (h : x < 128) : bits .and .u8 (x : Int) 128 = 0 := by
 have := byte_allN (P := fun n => n < 128 → bits .and .u8 (n : Int) 128 = 0) (by decide +kernel) x (by omega)
 exact this h
theorem a128h (x : Nat) (h : x < 256) (h8 : ¬ x < 128) : bits .and .u8 (x : Int) 128 = 128 := by
 have := byte_allN (P := fun n => ¬ n < 128 → bits .and .u8 (n : Int) 128 = 128) (by decide +kernel) x h
 exact this h8
set_option maxHeartbeats 4000000 in
theorem tk_5 (a : Option Addr) (n c : Nat) (L : List Nat) (hL : L.length = n) (hm : n ≤ 1000000) (hc : n ≤ c) (by1 : By L) (most : Nat) (hmost : most ≤ 1000000) (w : World) (at1 : At w a L) (rv : Rd w (.slice a n c) L) (h4 : ¬ n ≤ 4) : Calls Try.prog 23 #[.slice a n c, .int .i64 most] w (TkE L most (.slice a n c) w) := by
 have N1 := Lib.hid hL
 have BY := Lib.hid by1
 obtain ⟨b, o, rfl, lb, mc⟩ := at1 (by omega)
 have MC := Lib.hid mc
 have RV := Lib.hid rv
 have n0 : ¬ c = 0 := by omega
 clear mc at1 by1 hL rv
 have h4i : ¬ (n : Int) ≤ 4 := by omega
 have cc1 : ¬ c = 1 := by omega
 have cc2 : ¬ c = 2 := by omega
 have cc3 : ¬ c = 3 := by omega
 have cc4 : ¬ c = 4 := by omega
 go_enter Try.func23, Try.ntmps23
 go_wp2
 go_loopg [7, 16] 4 (fun g' s i wr => ∃ (t m : Nat), t ≤ 4 ∧ g' + t = 4 ∧ i = .int .i64 t ∧ s = .int .i64 m ∧ wr = w ∧ Hid (rd L = rdL (4 - t) t (128 ^ t) m (L.drop t)) ∧ Hid (m < 128 ^ t))
 case atStart => exact ⟨0, 0, by omega, by omega, rfl, rfl, rfl, Lib.hid (by rfl), Lib.hid (by decide)⟩
 case round =>
  obtain ⟨t, m, ht, hg, rfl, rfl, rfl, HR, HM⟩ := hrel
  have TG := Lib.hid hg
  clear hg
  by_cases hlt : t < 4
  ·have l0 : (t : Int) < 4 := by omega
   obtain ⟨x, hx⟩ := at_ex (L := L) (k := t) (by rw [N1.out]; omega)
   have e1 := MC.out t x hx
   have xb := BY.out.at hx
   have HX := Lib.hid hx
   clear hx
   rcases (show t = 0 ∨ t = 1 ∨ t = 2 ∨ t = 3 by omega) with ht0 | ht1 | ht2 | ht3
   ·subst ht0
    rw [Nat.add_zero] at e1
    obtain rfl : m = 0 := by have h := HM.out; simpa using h
    have HT := Lib.hid HM.out
    obtain ⟨y, hy⟩ : ∃ y, x % 128 = y := ⟨_, rfl⟩
    have y1 : (y : Int) < 128 := by omega
    have mb : 0 < 1 := HM.out
    have hq : 0 + y * 1 = y := by omega
    have qb : (y : Int) < 1000000000 := by omega
    have W := Lib.hid (show bits .and .u8 (x : Int) 127 = (y : Int) ∧ bits .or .i64 0 ((y : Int)) = y from
     ⟨by rw [a127 x xb, hy], by
      have hor := or_add 0 0 y (by decide) (by simp; omega)
      rw [show y * 2 ^ 0 = y * 1 from rfl, hq] at hor
      have e : ((y * 1 : Nat) : Int) = (y : Int) := by clear hor; omega
      rw [e] at hor; exact hor⟩)
    have HQ := Lib.hid hq
    have HY := Lib.hid hy
    clear hq hy
    by_cases h8 : x < 128
    ·have HZ := Lib.hid (a128l x h8)
     have HY2 := Lib.hid (show x = y by have := HY.out; omega)
     by_cases hx0 : x = 0
     ·have R := Lib.hid (rd_done (f := 3) (t := 0) (s := 1) HR.out HX.out h8 (by omega))
      obtain rfl : y = 0 := by have := HY2.out; omega
      subst hx0
      have RQ := Lib.hid (tk_good (most := most) R.out (by omega))
      clear W HZ
      have z1 : bits .and .u8 0 127 = 0 := by decide
      have z2 : bits .and .u8 0 128 = 0 := by decide
      have z3 : bits .or .i64 0 0 = 0 := by decide
      go_wp2
      go_quiet (fail)
      go_wp2
      go_ret3
      exact TkE.good RQ.out (fun w0 h0 => h0.rest2 1 (by omega) (by omega)) (below_drewN (Below.refl _ _) _)
     ·have R := Lib.hid (rd_done (f := 3) (t := 0) (s := 1) HR.out HX.out h8 (by omega))
      have x0 : ((x : Int) == 0) = false := by simp; omega
      have RE := Lib.hid (show 0 + x * 1 = y by rw [HY2.out]; exact HQ.out)
      have R2 := R.out
      rw [RE.out] at R2
      have R3 := Lib.hid R2
      clear hx0 R R2
      by_cases hqm : y ≤ most
      ·have q0 : ¬ (most : Int) < y := by omega
       have RQ := Lib.hid (tk_good (most := most) R3.out hqm)
       obtain ⟨ha, hor2⟩ := W.out
       have hz := HZ.out
       go_wp2
       clear ha hor2 hz
       go_quiet (fail)
       go_wp2
       go_ret3
       exact TkE.good RQ.out (fun w0 h0 => h0.rest2 1 (by omega) (by omega)) (below_drewN (Below.refl _ _) _)
      ·have q0 : (most : Int) < y := by omega
       have RQ := Lib.hid (tk_big (most := most) R3.out (by omega))
       obtain ⟨ha, hor2⟩ := W.out
       have hz := HZ.out
       go_wp2
       clear ha hor2 hz
       go_ret3
       exact TkE.bad RQ.out (by decide) (Below.refl _ _)
    ·have HZ := Lib.hid (a128h x xb h8)
     have HS := Lib.hid (show rd L = rdL (4 - 1) 1 (128 ^ 1) y (L.drop 1) by
      have h := rd_go (f := 3) (t := 0) (s := 1) HR.out HX.out h8
      rw [HY.out, HQ.out] at h
      exact h)
     have HB := Lib.hid (show y < 128 ^ 1 by have := HQ.out; show y < 128; omega)
     obtain ⟨ha, hor2⟩ := W.out
     have hz := HZ.out
     go_wp2
     clear ha hor2 hz
     go_roundg (4 - 1)
     ·exact ⟨1, y, by omega, by omega, by rfl, by rfl, rfl, HS, HB⟩
     case measure => have := TG.out; omega
   ·subst ht1
    have HT := Lib.hid HM.out
    obtain ⟨y, hy⟩ : ∃ y, x % 128 = y := ⟨_, rfl⟩
    have y1 : (y : Int) < 128 := by omega
    have mb : m < 128 := HM.out
    obtain ⟨q, hq⟩ : ∃ q, m + y * 128 = q := ⟨_, rfl⟩
    have qb : (q : Int) < 1000000000 := by omega
    have W := Lib.hid (show bits .and .u8 (x : Int) 127 = (y : Int) ∧ bits .or .i64 (m : Int) ((y : Int) * 128) = q from
     ⟨by rw [a127 x xb, hy], by
      have hor := or_add 7 m y (by simpa using mb) (by simp; omega)
      rw [show y * 2 ^ 7 = y * 128 from rfl, hq] at hor
      have e : ((y * 128 : Nat) : Int) = (y : Int) * 128 := by clear hor; omega
      rw [e] at hor; exact hor⟩)
    have y2 : (y : Int) * 128 < 1000000000 := by omega
    have HQ := Lib.hid hq
    have HY := Lib.hid hy
    clear hq hy
    by_cases h8 : x < 128
    ·have HZ := Lib.hid (a128l x h8)
     have HY2 := Lib.hid (show x = y by have := HY.out; omega)
     by_cases hx0 : x = 0
     ·have R := Lib.hid (tk_bad (most := most) (rd_zero (f := 2) (t := 1) (s := 128) HR.out HX.out h8 ⟨by omega, hx0⟩) (by decide))
      have x0 : ((x : Int) == 0) = true := by simp; omega
      clear hx0
      obtain ⟨ha, hor2⟩ := W.out
      have hz := HZ.out
      go_wp2
      clear ha hor2 hz
      go_ret3
      exact TkE.bad R.out (by decide) (Below.refl _ _)
     ·have R := Lib.hid (rd_done (f := 2) (t := 1) (s := 128) HR.out HX.out h8 (by omega))
      have x0 : ((x : Int) == 0) = false := by simp; omega
      have RE := Lib.hid (show m + x * 128 = q by rw [HY2.out]; exact HQ.out)
      have R2 := R.out
      rw [RE.out] at R2
      have R3 := Lib.hid R2
      clear hx0 R R2
      by_cases hqm : q ≤ most
      ·have q0 : ¬ (most : Int) < q := by omega
       have RQ := Lib.hid (tk_good (most := most) R3.out hqm)
       obtain ⟨ha, hor2⟩ := W.out
       have hz := HZ.out
       go_wp2
       clear ha hor2 hz
       go_quiet (fail)
       go_wp2
       go_ret3
       exact TkE.good RQ.out (fun w0 h0 => h0.rest2 2 (by omega) (by omega)) (below_drewN (Below.refl _ _) _)
      ·have q0 : (most : Int) < q := by omega
       have RQ := Lib.hid (tk_big (most := most) R3.out (by omega))
       obtain ⟨ha, hor2⟩ := W.out
       have hz := HZ.out
       go_wp2
       clear ha hor2 hz
       go_ret3
       exact TkE.bad RQ.out (by decide) (Below.refl _ _)
    ·have HZ := Lib.hid (a128h x xb h8)
     have HS := Lib.hid (show rd L = rdL (4 - 2) 2 (128 ^ 2) q (L.drop 2) by
      have h := rd_go (f := 2) (t := 1) (s := 128) HR.out HX.out h8
      rw [HY.out, HQ.out] at h
      exact h)
     have HB := Lib.hid (show q < 128 ^ 2 by have := HQ.out; show q < 16384; omega)
     obtain ⟨ha, hor2⟩ := W.out
     have hz := HZ.out
     go_wp2
     clear ha hor2 hz
     go_roundg (4 - 2)
     ·exact ⟨2, q, by omega, by omega, by rfl, by rfl, rfl, HS, HB⟩
     case measure => have := TG.out; omega
   ·subst ht2
    have HT := Lib.hid HM.out
    obtain ⟨y, hy⟩ : ∃ y, x % 128 = y := ⟨_, rfl⟩
    have y1 : (y : Int) < 128 := by omega
    have mb : m < 16384 := HM.out
    obtain ⟨q, hq⟩ : ∃ q, m + y * 16384 = q := ⟨_, rfl⟩
    have qb : (q : Int) < 1000000000 := by omega
    have W := Lib.hid (show bits .and .u8 (x : Int) 127 = (y : Int) ∧ bits .or .i64 (m : Int) ((y : Int) * 16384) = q from
     ⟨by rw [a127 x xb, hy], by
      have hor := or_add 14 m y (by simpa using mb) (by simp; omega)
      rw [show y * 2 ^ 14 = y * 16384 from rfl, hq] at hor
      have e : ((y * 16384 : Nat) : Int) = (y : Int) * 16384 := by clear hor; omega
      rw [e] at hor; exact hor⟩)
    have y2 : (y : Int) * 16384 < 1000000000 := by omega
    have HQ := Lib.hid hq
    have HY := Lib.hid hy
    clear hq hy
    by_cases h8 : x < 128
    ·have HZ := Lib.hid (a128l x h8)
     have HY2 := Lib.hid (show x = y by have := HY.out; omega)
     by_cases hx0 : x = 0
     ·have R := Lib.hid (tk_bad (most := most) (rd_zero (f := 1) (t := 2) (s := 16384) HR.out HX.out h8 ⟨by omega, hx0⟩) (by decide))
      have x0 : ((x : Int) == 0) = true := by simp; omega
      clear hx0
      obtain ⟨ha, hor2⟩ := W.out
      have hz := HZ.out
      go_wp2
      clear ha hor2 hz
      go_ret3
      exact TkE.bad R.out (by decide) (Below.refl _ _)
     ·have R := Lib.hid (rd_done (f := 1) (t := 2) (s := 16384) HR.out HX.out h8 (by omega))
      have x0 : ((x : Int) == 0) = false := by simp; omega
      have RE := Lib.hid (show m + x * 16384 = q by rw [HY2.out]; exact HQ.out)
      have R2 := R.out
      rw [RE.out] at R2
      have R3 := Lib.hid R2
      clear hx0 R R2
      by_cases hqm : q ≤ most
      ·have q0 : ¬ (most : Int) < q := by omega
       have RQ := Lib.hid (tk_good (most := most) R3.out hqm)
       obtain ⟨ha, hor2⟩ := W.out
       have hz := HZ.out
       go_wp2
       clear ha hor2 hz
       go_quiet (fail)
       go_wp2
       go_ret3
       exact TkE.good RQ.out (fun w0 h0 => h0.rest2 3 (by omega) (by omega)) (below_drewN (Below.refl _ _) _)
      ·have q0 : (most : Int) < q := by omega
       have RQ := Lib.hid (tk_big (most := most) R3.out (by omega))
       obtain ⟨ha, hor2⟩ := W.out
       have hz := HZ.out
       go_wp2
       clear ha hor2 hz
       go_ret3
       exact TkE.bad RQ.out (by decide) (Below.refl _ _)
    ·have HZ := Lib.hid (a128h x xb h8)
     have HS := Lib.hid (show rd L = rdL (4 - 3) 3 (128 ^ 3) q (L.drop 3) by
      have h := rd_go (f := 1) (t := 2) (s := 16384) HR.out HX.out h8
      rw [HY.out, HQ.out] at h
      exact h)
     have HB := Lib.hid (show q < 128 ^ 3 by have := HQ.out; show q < 2097152; omega)
     obtain ⟨ha, hor2⟩ := W.out
     have hz := HZ.out
     go_wp2
     clear ha hor2 hz
     go_roundg (4 - 3)
     ·exact ⟨3, q, by omega, by omega, by rfl, by rfl, rfl, HS, HB⟩
     case measure => have := TG.out; omega
   ·subst ht3
    have HT := Lib.hid HM.out
    obtain ⟨y, hy⟩ : ∃ y, x % 128 = y := ⟨_, rfl⟩
    have y1 : (y : Int) < 128 := by omega
    have mb : m < 2097152 := HM.out
    obtain ⟨q, hq⟩ : ∃ q, m + y * 2097152 = q := ⟨_, rfl⟩
    have qb : (q : Int) < 1000000000 := by omega
    have W := Lib.hid (show bits .and .u8 (x : Int) 127 = (y : Int) ∧ bits .or .i64 (m : Int) ((y : Int) * 2097152) = q from
     ⟨by rw [a127 x xb, hy], by
      have hor := or_add 21 m y (by simpa using mb) (by simp; omega)
      rw [show y * 2 ^ 21 = y * 2097152 from rfl, hq] at hor
      have e : ((y * 2097152 : Nat) : Int) = (y : Int) * 2097152 := by clear hor; omega
      rw [e] at hor; exact hor⟩)
    have y2 : (y : Int) * 2097152 < 1000000000 := by omega
    have HQ := Lib.hid hq
    have HY := Lib.hid hy
    clear hq hy
    by_cases h8 : x < 128
    ·have HZ := Lib.hid (a128l x h8)
     have HY2 := Lib.hid (show x = y by have := HY.out; omega)
     by_cases hx0 : x = 0
     ·have R := Lib.hid (tk_bad (most := most) (rd_zero (f := 0) (t := 3) (s := 2097152) HR.out HX.out h8 ⟨by omega, hx0⟩) (by decide))
      have x0 : ((x : Int) == 0) = true := by simp; omega
      clear hx0
      obtain ⟨ha, hor2⟩ := W.out
      have hz := HZ.out
      go_wp2
      clear ha hor2 hz
      go_ret3
      exact TkE.bad R.out (by decide) (Below.refl _ _)
     ·have R := Lib.hid (rd_done (f := 0) (t := 3) (s := 2097152) HR.out HX.out h8 (by omega))
      have x0 : ((x : Int) == 0) = false := by simp; omega
      have RE := Lib.hid (show m + x * 2097152 = q by rw [HY2.out]; exact HQ.out)
      have R2 := R.out
      rw [RE.out] at R2
      have R3 := Lib.hid R2
      clear hx0 R R2
      by_cases hqm : q ≤ most
      ·have q0 : ¬ (most : Int) < q := by omega
       have RQ := Lib.hid (tk_good (most := most) R3.out hqm)
       obtain ⟨ha, hor2⟩ := W.out
       have hz := HZ.out
       go_wp2
       clear ha hor2 hz
       go_quiet (fail)
       go_wp2
       go_ret3
       exact TkE.good RQ.out (fun w0 h0 => h0.rest2 4 (by omega) (by omega)) (below_drewN (Below.refl _ _) _)
      ·have q0 : (most : Int) < q := by omega
       have RQ := Lib.hid (tk_big (most := most) R3.out (by omega))
       obtain ⟨ha, hor2⟩ := W.out
       have hz := HZ.out
       go_wp2
       clear ha hor2 hz
       go_ret3
       exact TkE.bad RQ.out (by decide) (Below.refl _ _)
    ·have HZ := Lib.hid (a128h x xb h8)
     have HS := Lib.hid (show rd L = rdL (4 - 4) 4 (128 ^ 4) q (L.drop 4) by
      have h := rd_go (f := 0) (t := 3) (s := 2097152) HR.out HX.out h8
      rw [HY.out, HQ.out] at h
      exact h)
     have HB := Lib.hid (show q < 128 ^ 4 by have := HQ.out; show q < 268435456; omega)
     obtain ⟨ha, hor2⟩ := W.out
     have hz := HZ.out
     go_wp2
     clear ha hor2 hz
     go_roundg (4 - 4)
     ·exact ⟨4, q, by omega, by omega, by rfl, by rfl, rfl, HS, HB⟩
     case measure => have := TG.out; omega
  ·have l0 : ¬ (t : Int) < 4 := by omega
   have te : t = 4 := by omega
   have TE := Lib.hid te
   clear te
   have n4 : ¬ (n : Int) < 4 := by omega
   have n5 : (4 : Int) ≤ n := by omega
   have R := Lib.hid (tk_bad (most := most) (rd_four (by have h := HR.out; rw [TE.out] at h; exact h)) (by decide))
   go_wp2
   go_ret3
   exact TkE.bad R.out (by decide) (Below.refl _ _)
set_option maxHeartbeats 4000000 in
theorem tk_1 (a : Option Addr) (c : Nat) (L : List Nat) (hL : L.length = 1) (hc : 1 ≤ c) (by1 : By L) (most : Nat) (hmost : most ≤ 1000000) (w : World) (at1 : At w a L) (rv : Rd w (.slice a 1 c) L) : Calls Try.prog 23 #[.slice a 1 c, .int .i64 most] w (TkE L most (.slice a 1 c) w) := by
 have N1 := Lib.hid hL
 have BY := Lib.hid by1
 obtain ⟨b, o, rfl, lb, mc⟩ := at1 (by omega)
 have MC := Lib.hid mc
 have RV := Lib.hid rv
 have n0 : ¬ c = 0 := by omega
 clear mc at1 by1 hL rv
 go_enter Try.func23, Try.ntmps23
 go_wp2
 go_loopg [7, 16] 1 (fun g' s i wr => ∃ (t m : Nat), t ≤ 1 ∧ g' + t = 1 ∧ i = .int .i64 t ∧ s = .int .i64 m ∧ wr = w ∧ Hid (rd L = rdL (4 - t) t (128 ^ t) m (L.drop t)) ∧ Hid (m < 128 ^ t))
 case atStart => exact ⟨0, 0, by omega, by omega, rfl, rfl, rfl, Lib.hid (by rfl), Lib.hid (by decide)⟩
 case round =>
  obtain ⟨t, m, ht, hg, rfl, rfl, rfl, HR, HM⟩ := hrel
  have TG := Lib.hid hg
  clear hg
  by_cases hlt : t < 1
  ·have l0 : (t : Int) < 1 := by omega
   obtain ⟨x, hx⟩ := at_ex (L := L) (k := t) (by rw [N1.out]; omega)
   have e1 := MC.out t x hx
   have xb := BY.out.at hx
   have HX := Lib.hid hx
   clear hx
   have ht0 : t = 0 := by omega
   ·subst ht0
    rw [Nat.add_zero] at e1
    obtain rfl : m = 0 := by have h := HM.out; simpa using h
    have HT := Lib.hid HM.out
    obtain ⟨y, hy⟩ : ∃ y, x % 128 = y := ⟨_, rfl⟩
    have y1 : (y : Int) < 128 := by omega
    have mb : 0 < 1 := HM.out
    have hq : 0 + y * 1 = y := by omega
    have qb : (y : Int) < 1000000000 := by omega
    have W := Lib.hid (show bits .and .u8 (x : Int) 127 = (y : Int) ∧ bits .or .i64 0 ((y : Int)) = y from
     ⟨by rw [a127 x xb, hy], by
      have hor := or_add 0 0 y (by decide) (by simp; omega)
      rw [show y * 2 ^ 0 = y * 1 from rfl, hq] at hor
      have e : ((y * 1 : Nat) : Int) = (y : Int) := by clear hor; omega
      rw [e] at hor; exact hor⟩)
    have HQ := Lib.hid hq
    have HY := Lib.hid hy
    clear hq hy
    by_cases h8 : x < 128
    ·have HZ := Lib.hid (a128l x h8)
     have HY2 := Lib.hid (show x = y by have := HY.out; omega)
     by_cases hx0 : x = 0
     ·have R := Lib.hid (rd_done (f := 3) (t := 0) (s := 1) HR.out HX.out h8 (by omega))
      obtain rfl : y = 0 := by have := HY2.out; omega
      subst hx0
      have RQ := Lib.hid (tk_good (most := most) R.out (by omega))
      clear W HZ
      by_cases hcl : c = 1
      ·subst hcl
       have z1 : bits .and .u8 0 127 = 0 := by decide
       have z2 : bits .and .u8 0 128 = 0 := by decide
       have z3 : bits .or .i64 0 0 = 0 := by decide
       go_wp2
       go_quiet (fail)
       go_wp2
       go_ret3
       exact TkE.good RQ.out (fun w0 h0 => rd_mt _ _ _ (List.drop_of_length_le (by have := N1.out; omega))) (below_drewN (Below.refl _ _) _)
      ·skip
       have z1 : bits .and .u8 0 127 = 0 := by decide
       have z2 : bits .and .u8 0 128 = 0 := by decide
       have z3 : bits .or .i64 0 0 = 0 := by decide
       go_wp2
       go_quiet (fail)
       go_wp2
       go_ret3
       exact TkE.good RQ.out (fun w0 h0 => h0.rest2 1 (by omega) (by omega)) (below_drewN (Below.refl _ _) _)
     ·have R := Lib.hid (rd_done (f := 3) (t := 0) (s := 1) HR.out HX.out h8 (by omega))
      have x0 : ((x : Int) == 0) = false := by simp; omega
      have RE := Lib.hid (show 0 + x * 1 = y by rw [HY2.out]; exact HQ.out)
      have R2 := R.out
      rw [RE.out] at R2
      have R3 := Lib.hid R2
      clear hx0 R R2
      by_cases hqm : y ≤ most
      ·have q0 : ¬ (most : Int) < y := by omega
       have RQ := Lib.hid (tk_good (most := most) R3.out hqm)
       by_cases hcl : c = 1
       ·subst hcl
        obtain ⟨ha, hor2⟩ := W.out
        have hz := HZ.out
        go_wp2
        clear ha hor2 hz
        go_quiet (fail)
        go_wp2
        go_ret3
        exact TkE.good RQ.out (fun w0 h0 => rd_mt _ _ _ (List.drop_of_length_le (by have := N1.out; omega))) (below_drewN (Below.refl _ _) _)
       ·skip
        obtain ⟨ha, hor2⟩ := W.out
        have hz := HZ.out
        go_wp2
        clear ha hor2 hz
        go_quiet (fail)
        go_wp2
        go_ret3
        exact TkE.good RQ.out (fun w0 h0 => h0.rest2 1 (by omega) (by omega)) (below_drewN (Below.refl _ _) _)
      ·have q0 : (most : Int) < y := by omega
       have RQ := Lib.hid (tk_big (most := most) R3.out (by omega))
       obtain ⟨ha, hor2⟩ := W.out
       have hz := HZ.out
       go_wp2
       clear ha hor2 hz
       go_ret3
       exact TkE.bad RQ.out (by decide) (Below.refl _ _)
    ·have HZ := Lib.hid (a128h x xb h8)
     have HS := Lib.hid (show rd L = rdL (4 - 1) 1 (128 ^ 1) y (L.drop 1) by
      have h := rd_go (f := 3) (t := 0) (s := 1) HR.out HX.out h8
      rw [HY.out, HQ.out] at h
      exact h)
     have HB := Lib.hid (show y < 128 ^ 1 by have := HQ.out; show y < 128; omega)
     obtain ⟨ha, hor2⟩ := W.out
     have hz := HZ.out
     go_wp2
     clear ha hor2 hz
     go_roundg (1 - 1)
     ·exact ⟨1, y, by omega, by omega, by rfl, by rfl, rfl, HS, HB⟩
     case measure => have := TG.out; omega
  ·have l0 : ¬ (t : Int) < 1 := by omega
   have te : t = 1 := by omega
   have TE := Lib.hid te
   clear te
   have R := Lib.hid (tk_bad (most := most) (rd_end (L := L) (f := 2) (t := 1) (s := 128 ^ 1) (m := m) (by have h := HR.out; rw [TE.out] at h; exact h) (by have := N1.out; omega)) (by decide))
   go_wp2
   go_ret3
   exact TkE.bad R.out (by decide) (Below.refl _ _)
set_option maxHeartbeats 4000000 in
theorem tk_2 (a : Option Addr) (c : Nat) (L : List Nat) (hL : L.length = 2) (hc : 2 ≤ c) (by1 : By L) (most : Nat) (hmost : most ≤ 1000000) (w : World) (at1 : At w a L) (rv : Rd w (.slice a 2 c) L) : Calls Try.prog 23 #[.slice a 2 c, .int .i64 most] w (TkE L most (.slice a 2 c) w) := by
 have N1 := Lib.hid hL
 have BY := Lib.hid by1
 obtain ⟨b, o, rfl, lb, mc⟩ := at1 (by omega)
 have MC := Lib.hid mc
 have RV := Lib.hid rv
 have n0 : ¬ c = 0 := by omega
 clear mc at1 by1 hL rv
 have cc1 : ¬ c = 1 := by omega
 go_enter Try.func23, Try.ntmps23
 go_wp2
 go_loopg [7, 16] 2 (fun g' s i wr => ∃ (t m : Nat), t ≤ 2 ∧ g' + t = 2 ∧ i = .int .i64 t ∧ s = .int .i64 m ∧ wr = w ∧ Hid (rd L = rdL (4 - t) t (128 ^ t) m (L.drop t)) ∧ Hid (m < 128 ^ t))
 case atStart => exact ⟨0, 0, by omega, by omega, rfl, rfl, rfl, Lib.hid (by rfl), Lib.hid (by decide)⟩
 case round =>
  obtain ⟨t, m, ht, hg, rfl, rfl, rfl, HR, HM⟩ := hrel
  have TG := Lib.hid hg
  clear hg
  by_cases hlt : t < 2
  ·have l0 : (t : Int) < 2 := by omega
   obtain ⟨x, hx⟩ := at_ex (L := L) (k := t) (by rw [N1.out]; omega)
   have e1 := MC.out t x hx
   have xb := BY.out.at hx
   have HX := Lib.hid hx
   clear hx
   rcases (show t = 0 ∨ t = 1 by omega) with ht0 | ht1
   ·subst ht0
    rw [Nat.add_zero] at e1
    obtain rfl : m = 0 := by have h := HM.out; simpa using h
    have HT := Lib.hid HM.out
    obtain ⟨y, hy⟩ : ∃ y, x % 128 = y := ⟨_, rfl⟩
    have y1 : (y : Int) < 128 := by omega
    have mb : 0 < 1 := HM.out
    have hq : 0 + y * 1 = y := by omega
    have qb : (y : Int) < 1000000000 := by omega
    have W := Lib.hid (show bits .and .u8 (x : Int) 127 = (y : Int) ∧ bits .or .i64 0 ((y : Int)) = y from
     ⟨by rw [a127 x xb, hy], by
      have hor := or_add 0 0 y (by decide) (by simp; omega)
      rw [show y * 2 ^ 0 = y * 1 from rfl, hq] at hor
      have e : ((y * 1 : Nat) : Int) = (y : Int) := by clear hor; omega
      rw [e] at hor; exact hor⟩)
    have HQ := Lib.hid hq
    have HY := Lib.hid hy
    clear hq hy
    by_cases h8 : x < 128
    ·have HZ := Lib.hid (a128l x h8)
     have HY2 := Lib.hid (show x = y by have := HY.out; omega)
     by_cases hx0 : x = 0
     ·have R := Lib.hid (rd_done (f := 3) (t := 0) (s := 1) HR.out HX.out h8 (by omega))
      obtain rfl : y = 0 := by have := HY2.out; omega
      subst hx0
      have RQ := Lib.hid (tk_good (most := most) R.out (by omega))
      clear W HZ
      have z1 : bits .and .u8 0 127 = 0 := by decide
      have z2 : bits .and .u8 0 128 = 0 := by decide
      have z3 : bits .or .i64 0 0 = 0 := by decide
      go_wp2
      go_quiet (fail)
      go_wp2
      go_ret3
      exact TkE.good RQ.out (fun w0 h0 => h0.rest2 1 (by omega) (by omega)) (below_drewN (Below.refl _ _) _)
     ·have R := Lib.hid (rd_done (f := 3) (t := 0) (s := 1) HR.out HX.out h8 (by omega))
      have x0 : ((x : Int) == 0) = false := by simp; omega
      have RE := Lib.hid (show 0 + x * 1 = y by rw [HY2.out]; exact HQ.out)
      have R2 := R.out
      rw [RE.out] at R2
      have R3 := Lib.hid R2
      clear hx0 R R2
      by_cases hqm : y ≤ most
      ·have q0 : ¬ (most : Int) < y := by omega
       have RQ := Lib.hid (tk_good (most := most) R3.out hqm)
       obtain ⟨ha, hor2⟩ := W.out
       have hz := HZ.out
       go_wp2
       clear ha hor2 hz
       go_quiet (fail)
       go_wp2
       go_ret3
       exact TkE.good RQ.out (fun w0 h0 => h0.rest2 1 (by omega) (by omega)) (below_drewN (Below.refl _ _) _)
      ·have q0 : (most : Int) < y := by omega
       have RQ := Lib.hid (tk_big (most := most) R3.out (by omega))
       obtain ⟨ha, hor2⟩ := W.out
       have hz := HZ.out
       go_wp2
       clear ha hor2 hz
       go_ret3
       exact TkE.bad RQ.out (by decide) (Below.refl _ _)
    ·have HZ := Lib.hid (a128h x xb h8)
     have HS := Lib.hid (show rd L = rdL (4 - 1) 1 (128 ^ 1) y (L.drop 1) by
      have h := rd_go (f := 3) (t := 0) (s := 1) HR.out HX.out h8
      rw [HY.out, HQ.out] at h
      exact h)
     have HB := Lib.hid (show y < 128 ^ 1 by have := HQ.out; show y < 128; omega)
     obtain ⟨ha, hor2⟩ := W.out
     have hz := HZ.out
     go_wp2
     clear ha hor2 hz
     go_roundg (2 - 1)
     ·exact ⟨1, y, by omega, by omega, by rfl, by rfl, rfl, HS, HB⟩
     case measure => have := TG.out; omega
   ·subst ht1
    have HT := Lib.hid HM.out
    obtain ⟨y, hy⟩ : ∃ y, x % 128 = y := ⟨_, rfl⟩
    have y1 : (y : Int) < 128 := by omega
    have mb : m < 128 := HM.out
    obtain ⟨q, hq⟩ : ∃ q, m + y * 128 = q := ⟨_, rfl⟩
    have qb : (q : Int) < 1000000000 := by omega
    have W := Lib.hid (show bits .and .u8 (x : Int) 127 = (y : Int) ∧ bits .or .i64 (m : Int) ((y : Int) * 128) = q from
     ⟨by rw [a127 x xb, hy], by
      have hor := or_add 7 m y (by simpa using mb) (by simp; omega)
      rw [show y * 2 ^ 7 = y * 128 from rfl, hq] at hor
      have e : ((y * 128 : Nat) : Int) = (y : Int) * 128 := by clear hor; omega
      rw [e] at hor; exact hor⟩)
    have y2 : (y : Int) * 128 < 1000000000 := by omega
    have HQ := Lib.hid hq
    have HY := Lib.hid hy
    clear hq hy
    by_cases h8 : x < 128
    ·have HZ := Lib.hid (a128l x h8)
     have HY2 := Lib.hid (show x = y by have := HY.out; omega)
     by_cases hx0 : x = 0
     ·have R := Lib.hid (tk_bad (most := most) (rd_zero (f := 2) (t := 1) (s := 128) HR.out HX.out h8 ⟨by omega, hx0⟩) (by decide))
      have x0 : ((x : Int) == 0) = true := by simp; omega
      clear hx0
      obtain ⟨ha, hor2⟩ := W.out
      have hz := HZ.out
      go_wp2
      clear ha hor2 hz
      go_ret3
      exact TkE.bad R.out (by decide) (Below.refl _ _)
     ·have R := Lib.hid (rd_done (f := 2) (t := 1) (s := 128) HR.out HX.out h8 (by omega))
      have x0 : ((x : Int) == 0) = false := by simp; omega
      have RE := Lib.hid (show m + x * 128 = q by rw [HY2.out]; exact HQ.out)
      have R2 := R.out
      rw [RE.out] at R2
      have R3 := Lib.hid R2
      clear hx0 R R2
      by_cases hqm : q ≤ most
      ·have q0 : ¬ (most : Int) < q := by omega
       have RQ := Lib.hid (tk_good (most := most) R3.out hqm)
       by_cases hcl : c = 2
       ·subst hcl
        obtain ⟨ha, hor2⟩ := W.out
        have hz := HZ.out
        go_wp2
        clear ha hor2 hz
        go_quiet (fail)
        go_wp2
        go_ret3
        exact TkE.good RQ.out (fun w0 h0 => rd_mt _ _ _ (List.drop_of_length_le (by have := N1.out; omega))) (below_drewN (Below.refl _ _) _)
       ·skip
        obtain ⟨ha, hor2⟩ := W.out
        have hz := HZ.out
        go_wp2
        clear ha hor2 hz
        go_quiet (fail)
        go_wp2
        go_ret3
        exact TkE.good RQ.out (fun w0 h0 => h0.rest2 2 (by omega) (by omega)) (below_drewN (Below.refl _ _) _)
      ·have q0 : (most : Int) < q := by omega
       have RQ := Lib.hid (tk_big (most := most) R3.out (by omega))
       obtain ⟨ha, hor2⟩ := W.out
       have hz := HZ.out
       go_wp2
       clear ha hor2 hz
       go_ret3
       exact TkE.bad RQ.out (by decide) (Below.refl _ _)
    ·have HZ := Lib.hid (a128h x xb h8)
     have HS := Lib.hid (show rd L = rdL (4 - 2) 2 (128 ^ 2) q (L.drop 2) by
      have h := rd_go (f := 2) (t := 1) (s := 128) HR.out HX.out h8
      rw [HY.out, HQ.out] at h
      exact h)
     have HB := Lib.hid (show q < 128 ^ 2 by have := HQ.out; show q < 16384; omega)
     obtain ⟨ha, hor2⟩ := W.out
     have hz := HZ.out
     go_wp2
     clear ha hor2 hz
     go_roundg (2 - 2)
     ·exact ⟨2, q, by omega, by omega, by rfl, by rfl, rfl, HS, HB⟩
     case measure => have := TG.out; omega
  ·have l0 : ¬ (t : Int) < 2 := by omega
   have te : t = 2 := by omega
   have TE := Lib.hid te
   clear te
   have R := Lib.hid (tk_bad (most := most) (rd_end (L := L) (f := 1) (t := 2) (s := 128 ^ 2) (m := m) (by have h := HR.out; rw [TE.out] at h; exact h) (by have := N1.out; omega)) (by decide))
   go_wp2
   go_ret3
   exact TkE.bad R.out (by decide) (Below.refl _ _)
set_option maxHeartbeats 4000000 in
theorem tk_3 (a : Option Addr) (c : Nat) (L : List Nat) (hL : L.length = 3) (hc : 3 ≤ c) (by1 : By L) (most : Nat) (hmost : most ≤ 1000000) (w : World) (at1 : At w a L) (rv : Rd w (.slice a 3 c) L) : Calls Try.prog 23 #[.slice a 3 c, .int .i64 most] w (TkE L most (.slice a 3 c) w) := by
 have N1 := Lib.hid hL
 have BY := Lib.hid by1
 obtain ⟨b, o, rfl, lb, mc⟩ := at1 (by omega)
 have MC := Lib.hid mc
 have RV := Lib.hid rv
 have n0 : ¬ c = 0 := by omega
 clear mc at1 by1 hL rv
 have cc1 : ¬ c = 1 := by omega
 have cc2 : ¬ c = 2 := by omega
 go_enter Try.func23, Try.ntmps23
 go_wp2
 go_loopg [7, 16] 3 (fun g' s i wr => ∃ (t m : Nat), t ≤ 3 ∧ g' + t = 3 ∧ i = .int .i64 t ∧ s = .int .i64 m ∧ wr = w ∧ Hid (rd L = rdL (4 - t) t (128 ^ t) m (L.drop t)) ∧ Hid (m < 128 ^ t))
 case atStart => exact ⟨0, 0, by omega, by omega, rfl, rfl, rfl, Lib.hid (by rfl), Lib.hid (by decide)⟩
 case round =>
  obtain ⟨t, m, ht, hg, rfl, rfl, rfl, HR, HM⟩ := hrel
  have TG := Lib.hid hg
  clear hg
  by_cases hlt : t < 3
  ·have l0 : (t : Int) < 3 := by omega
   obtain ⟨x, hx⟩ := at_ex (L := L) (k := t) (by rw [N1.out]; omega)
   have e1 := MC.out t x hx
   have xb := BY.out.at hx
   have HX := Lib.hid hx
   clear hx
   rcases (show t = 0 ∨ t = 1 ∨ t = 2 by omega) with ht0 | ht1 | ht2
   ·subst ht0
    rw [Nat.add_zero] at e1
    obtain rfl : m = 0 := by have h := HM.out; simpa using h
    have HT := Lib.hid HM.out
    obtain ⟨y, hy⟩ : ∃ y, x % 128 = y := ⟨_, rfl⟩
    have y1 : (y : Int) < 128 := by omega
    have mb : 0 < 1 := HM.out
    have hq : 0 + y * 1 = y := by omega
    have qb : (y : Int) < 1000000000 := by omega
    have W := Lib.hid (show bits .and .u8 (x : Int) 127 = (y : Int) ∧ bits .or .i64 0 ((y : Int)) = y from
     ⟨by rw [a127 x xb, hy], by
      have hor := or_add 0 0 y (by decide) (by simp; omega)
      rw [show y * 2 ^ 0 = y * 1 from rfl, hq] at hor
      have e : ((y * 1 : Nat) : Int) = (y : Int) := by clear hor; omega
      rw [e] at hor; exact hor⟩)
    have HQ := Lib.hid hq
    have HY := Lib.hid hy
    clear hq hy
    by_cases h8 : x < 128
    ·have HZ := Lib.hid (a128l x h8)
     have HY2 := Lib.hid (show x = y by have := HY.out; omega)
     by_cases hx0 : x = 0
     ·have R := Lib.hid (rd_done (f := 3) (t := 0) (s := 1) HR.out HX.out h8 (by omega))
      obtain rfl : y = 0 := by have := HY2.out; omega
      subst hx0
      have RQ := Lib.hid (tk_good (most := most) R.out (by omega))
      clear W HZ
      have z1 : bits .and .u8 0 127 = 0 := by decide
      have z2 : bits .and .u8 0 128 = 0 := by decide
      have z3 : bits .or .i64 0 0 = 0 := by decide
      go_wp2
      go_quiet (fail)
      go_wp2
      go_ret3
      exact TkE.good RQ.out (fun w0 h0 => h0.rest2 1 (by omega) (by omega)) (below_drewN (Below.refl _ _) _)
     ·have R := Lib.hid (rd_done (f := 3) (t := 0) (s := 1) HR.out HX.out h8 (by omega))
      have x0 : ((x : Int) == 0) = false := by simp; omega
      have RE := Lib.hid (show 0 + x * 1 = y by rw [HY2.out]; exact HQ.out)
      have R2 := R.out
      rw [RE.out] at R2
      have R3 := Lib.hid R2
      clear hx0 R R2
      by_cases hqm : y ≤ most
      ·have q0 : ¬ (most : Int) < y := by omega
       have RQ := Lib.hid (tk_good (most := most) R3.out hqm)
       obtain ⟨ha, hor2⟩ := W.out
       have hz := HZ.out
       go_wp2
       clear ha hor2 hz
       go_quiet (fail)
       go_wp2
       go_ret3
       exact TkE.good RQ.out (fun w0 h0 => h0.rest2 1 (by omega) (by omega)) (below_drewN (Below.refl _ _) _)
      ·have q0 : (most : Int) < y := by omega
       have RQ := Lib.hid (tk_big (most := most) R3.out (by omega))
       obtain ⟨ha, hor2⟩ := W.out
       have hz := HZ.out
       go_wp2
       clear ha hor2 hz
       go_ret3
       exact TkE.bad RQ.out (by decide) (Below.refl _ _)
    ·have HZ := Lib.hid (a128h x xb h8)
     have HS := Lib.hid (show rd L = rdL (4 - 1) 1 (128 ^ 1) y (L.drop 1) by
      have h := rd_go (f := 3) (t := 0) (s := 1) HR.out HX.out h8
      rw [HY.out, HQ.out] at h
      exact h)
     have HB := Lib.hid (show y < 128 ^ 1 by have := HQ.out; show y < 128; omega)
     obtain ⟨ha, hor2⟩ := W.out
     have hz := HZ.out
     go_wp2
     clear ha hor2 hz
     go_roundg (3 - 1)
     ·exact ⟨1, y, by omega, by omega, by rfl, by rfl, rfl, HS, HB⟩
     case measure => have := TG.out; omega
   ·subst ht1
    have HT := Lib.hid HM.out
    obtain ⟨y, hy⟩ : ∃ y, x % 128 = y := ⟨_, rfl⟩
    have y1 : (y : Int) < 128 := by omega
    have mb : m < 128 := HM.out
    obtain ⟨q, hq⟩ : ∃ q, m + y * 128 = q := ⟨_, rfl⟩
    have qb : (q : Int) < 1000000000 := by omega
    have W := Lib.hid (show bits .and .u8 (x : Int) 127 = (y : Int) ∧ bits .or .i64 (m : Int) ((y : Int) * 128) = q from
     ⟨by rw [a127 x xb, hy], by
      have hor := or_add 7 m y (by simpa using mb) (by simp; omega)
      rw [show y * 2 ^ 7 = y * 128 from rfl, hq] at hor
      have e : ((y * 128 : Nat) : Int) = (y : Int) * 128 := by clear hor; omega
      rw [e] at hor; exact hor⟩)
    have y2 : (y : Int) * 128 < 1000000000 := by omega
    have HQ := Lib.hid hq
    have HY := Lib.hid hy
    clear hq hy
    by_cases h8 : x < 128
    ·have HZ := Lib.hid (a128l x h8)
     have HY2 := Lib.hid (show x = y by have := HY.out; omega)
     by_cases hx0 : x = 0
     ·have R := Lib.hid (tk_bad (most := most) (rd_zero (f := 2) (t := 1) (s := 128) HR.out HX.out h8 ⟨by omega, hx0⟩) (by decide))
      have x0 : ((x : Int) == 0) = true := by simp; omega
      clear hx0
      obtain ⟨ha, hor2⟩ := W.out
      have hz := HZ.out
      go_wp2
      clear ha hor2 hz
      go_ret3
      exact TkE.bad R.out (by decide) (Below.refl _ _)
     ·have R := Lib.hid (rd_done (f := 2) (t := 1) (s := 128) HR.out HX.out h8 (by omega))
      have x0 : ((x : Int) == 0) = false := by simp; omega
      have RE := Lib.hid (show m + x * 128 = q by rw [HY2.out]; exact HQ.out)
      have R2 := R.out
      rw [RE.out] at R2
      have R3 := Lib.hid R2
      clear hx0 R R2
      by_cases hqm : q ≤ most
      ·have q0 : ¬ (most : Int) < q := by omega
       have RQ := Lib.hid (tk_good (most := most) R3.out hqm)
       obtain ⟨ha, hor2⟩ := W.out
       have hz := HZ.out
       go_wp2
       clear ha hor2 hz
       go_quiet (fail)
       go_wp2
       go_ret3
       exact TkE.good RQ.out (fun w0 h0 => h0.rest2 2 (by omega) (by omega)) (below_drewN (Below.refl _ _) _)
      ·have q0 : (most : Int) < q := by omega
       have RQ := Lib.hid (tk_big (most := most) R3.out (by omega))
       obtain ⟨ha, hor2⟩ := W.out
       have hz := HZ.out
       go_wp2
       clear ha hor2 hz
       go_ret3
       exact TkE.bad RQ.out (by decide) (Below.refl _ _)
    ·have HZ := Lib.hid (a128h x xb h8)
     have HS := Lib.hid (show rd L = rdL (4 - 2) 2 (128 ^ 2) q (L.drop 2) by
      have h := rd_go (f := 2) (t := 1) (s := 128) HR.out HX.out h8
      rw [HY.out, HQ.out] at h
      exact h)
     have HB := Lib.hid (show q < 128 ^ 2 by have := HQ.out; show q < 16384; omega)
     obtain ⟨ha, hor2⟩ := W.out
     have hz := HZ.out
     go_wp2
     clear ha hor2 hz
     go_roundg (3 - 2)
     ·exact ⟨2, q, by omega, by omega, by rfl, by rfl, rfl, HS, HB⟩
     case measure => have := TG.out; omega
   ·subst ht2
    have HT := Lib.hid HM.out
    obtain ⟨y, hy⟩ : ∃ y, x % 128 = y := ⟨_, rfl⟩
    have y1 : (y : Int) < 128 := by omega
    have mb : m < 16384 := HM.out
    obtain ⟨q, hq⟩ : ∃ q, m + y * 16384 = q := ⟨_, rfl⟩
    have qb : (q : Int) < 1000000000 := by omega
    have W := Lib.hid (show bits .and .u8 (x : Int) 127 = (y : Int) ∧ bits .or .i64 (m : Int) ((y : Int) * 16384) = q from
     ⟨by rw [a127 x xb, hy], by
      have hor := or_add 14 m y (by simpa using mb) (by simp; omega)
      rw [show y * 2 ^ 14 = y * 16384 from rfl, hq] at hor
      have e : ((y * 16384 : Nat) : Int) = (y : Int) * 16384 := by clear hor; omega
      rw [e] at hor; exact hor⟩)
    have y2 : (y : Int) * 16384 < 1000000000 := by omega
    have HQ := Lib.hid hq
    have HY := Lib.hid hy
    clear hq hy
    by_cases h8 : x < 128
    ·have HZ := Lib.hid (a128l x h8)
     have HY2 := Lib.hid (show x = y by have := HY.out; omega)
     by_cases hx0 : x = 0
     ·have R := Lib.hid (tk_bad (most := most) (rd_zero (f := 1) (t := 2) (s := 16384) HR.out HX.out h8 ⟨by omega, hx0⟩) (by decide))
      have x0 : ((x : Int) == 0) = true := by simp; omega
      clear hx0
      obtain ⟨ha, hor2⟩ := W.out
      have hz := HZ.out
      go_wp2
      clear ha hor2 hz
      go_ret3
      exact TkE.bad R.out (by decide) (Below.refl _ _)
     ·have R := Lib.hid (rd_done (f := 1) (t := 2) (s := 16384) HR.out HX.out h8 (by omega))
      have x0 : ((x : Int) == 0) = false := by simp; omega
      have RE := Lib.hid (show m + x * 16384 = q by rw [HY2.out]; exact HQ.out)
      have R2 := R.out
      rw [RE.out] at R2
      have R3 := Lib.hid R2
      clear hx0 R R2
      by_cases hqm : q ≤ most
      ·have q0 : ¬ (most : Int) < q := by omega
       have RQ := Lib.hid (tk_good (most := most) R3.out hqm)
       by_cases hcl : c = 3
       ·subst hcl
        obtain ⟨ha, hor2⟩ := W.out
        have hz := HZ.out
        go_wp2
        clear ha hor2 hz
        go_quiet (fail)
        go_wp2
        go_ret3
        exact TkE.good RQ.out (fun w0 h0 => rd_mt _ _ _ (List.drop_of_length_le (by have := N1.out; omega))) (below_drewN (Below.refl _ _) _)
       ·skip
        obtain ⟨ha, hor2⟩ := W.out
        have hz := HZ.out
        go_wp2
        clear ha hor2 hz
        go_quiet (fail)
        go_wp2
        go_ret3
        exact TkE.good RQ.out (fun w0 h0 => h0.rest2 3 (by omega) (by omega)) (below_drewN (Below.refl _ _) _)
      ·have q0 : (most : Int) < q := by omega
       have RQ := Lib.hid (tk_big (most := most) R3.out (by omega))
       obtain ⟨ha, hor2⟩ := W.out
       have hz := HZ.out
       go_wp2
       clear ha hor2 hz
       go_ret3
       exact TkE.bad RQ.out (by decide) (Below.refl _ _)
    ·have HZ := Lib.hid (a128h x xb h8)
     have HS := Lib.hid (show rd L = rdL (4 - 3) 3 (128 ^ 3) q (L.drop 3) by
      have h := rd_go (f := 1) (t := 2) (s := 16384) HR.out HX.out h8
      rw [HY.out, HQ.out] at h
      exact h)
     have HB := Lib.hid (show q < 128 ^ 3 by have := HQ.out; show q < 2097152; omega)
     obtain ⟨ha, hor2⟩ := W.out
     have hz := HZ.out
     go_wp2
     clear ha hor2 hz
     go_roundg (3 - 3)
     ·exact ⟨3, q, by omega, by omega, by rfl, by rfl, rfl, HS, HB⟩
     case measure => have := TG.out; omega
  ·have l0 : ¬ (t : Int) < 3 := by omega
   have te : t = 3 := by omega
   have TE := Lib.hid te
   clear te
   have R := Lib.hid (tk_bad (most := most) (rd_end (L := L) (f := 0) (t := 3) (s := 128 ^ 3) (m := m) (by have h := HR.out; rw [TE.out] at h; exact h) (by have := N1.out; omega)) (by decide))
   go_wp2
   go_ret3
   exact TkE.bad R.out (by decide) (Below.refl _ _)
set_option maxHeartbeats 4000000 in
theorem tk_4 (a : Option Addr) (c : Nat) (L : List Nat) (hL : L.length = 4) (hc : 4 ≤ c) (by1 : By L) (most : Nat) (hmost : most ≤ 1000000) (w : World) (at1 : At w a L) (rv : Rd w (.slice a 4 c) L) : Calls Try.prog 23 #[.slice a 4 c, .int .i64 most] w (TkE L most (.slice a 4 c) w) := by
 have N1 := Lib.hid hL
 have BY := Lib.hid by1
 obtain ⟨b, o, rfl, lb, mc⟩ := at1 (by omega)
 have MC := Lib.hid mc
 have RV := Lib.hid rv
 have n0 : ¬ c = 0 := by omega
 clear mc at1 by1 hL rv
 have cc1 : ¬ c = 1 := by omega
 have cc2 : ¬ c = 2 := by omega
 have cc3 : ¬ c = 3 := by omega
 go_enter Try.func23, Try.ntmps23
 go_wp2
 go_loopg [7, 16] 4 (fun g' s i wr => ∃ (t m : Nat), t ≤ 4 ∧ g' + t = 4 ∧ i = .int .i64 t ∧ s = .int .i64 m ∧ wr = w ∧ Hid (rd L = rdL (4 - t) t (128 ^ t) m (L.drop t)) ∧ Hid (m < 128 ^ t))
 case atStart => exact ⟨0, 0, by omega, by omega, rfl, rfl, rfl, Lib.hid (by rfl), Lib.hid (by decide)⟩
 case round =>
  obtain ⟨t, m, ht, hg, rfl, rfl, rfl, HR, HM⟩ := hrel
  have TG := Lib.hid hg
  clear hg
  by_cases hlt : t < 4
  ·have l0 : (t : Int) < 4 := by omega
   obtain ⟨x, hx⟩ := at_ex (L := L) (k := t) (by rw [N1.out]; omega)
   have e1 := MC.out t x hx
   have xb := BY.out.at hx
   have HX := Lib.hid hx
   clear hx
   rcases (show t = 0 ∨ t = 1 ∨ t = 2 ∨ t = 3 by omega) with ht0 | ht1 | ht2 | ht3
   ·subst ht0
    rw [Nat.add_zero] at e1
    obtain rfl : m = 0 := by have h := HM.out; simpa using h
    have HT := Lib.hid HM.out
    obtain ⟨y, hy⟩ : ∃ y, x % 128 = y := ⟨_, rfl⟩
    have y1 : (y : Int) < 128 := by omega
    have mb : 0 < 1 := HM.out
    have hq : 0 + y * 1 = y := by omega
    have qb : (y : Int) < 1000000000 := by omega
    have W := Lib.hid (show bits .and .u8 (x : Int) 127 = (y : Int) ∧ bits .or .i64 0 ((y : Int)) = y from
     ⟨by rw [a127 x xb, hy], by
      have hor := or_add 0 0 y (by decide) (by simp; omega)
      rw [show y * 2 ^ 0 = y * 1 from rfl, hq] at hor
      have e : ((y * 1 : Nat) : Int) = (y : Int) := by clear hor; omega
      rw [e] at hor; exact hor⟩)
    have HQ := Lib.hid hq
    have HY := Lib.hid hy
    clear hq hy
    by_cases h8 : x < 128
    ·have HZ := Lib.hid (a128l x h8)
     have HY2 := Lib.hid (show x = y by have := HY.out; omega)
     by_cases hx0 : x = 0
     ·have R := Lib.hid (rd_done (f := 3) (t := 0) (s := 1) HR.out HX.out h8 (by omega))
      obtain rfl : y = 0 := by have := HY2.out; omega
      subst hx0
      have RQ := Lib.hid (tk_good (most := most) R.out (by omega))
      clear W HZ
      have z1 : bits .and .u8 0 127 = 0 := by decide
      have z2 : bits .and .u8 0 128 = 0 := by decide
      have z3 : bits .or .i64 0 0 = 0 := by decide
      go_wp2
      go_quiet (fail)
      go_wp2
      go_ret3
      exact TkE.good RQ.out (fun w0 h0 => h0.rest2 1 (by omega) (by omega)) (below_drewN (Below.refl _ _) _)
     ·have R := Lib.hid (rd_done (f := 3) (t := 0) (s := 1) HR.out HX.out h8 (by omega))
      have x0 : ((x : Int) == 0) = false := by simp; omega
      have RE := Lib.hid (show 0 + x * 1 = y by rw [HY2.out]; exact HQ.out)
      have R2 := R.out
      rw [RE.out] at R2
      have R3 := Lib.hid R2
      clear hx0 R R2
      by_cases hqm : y ≤ most
      ·have q0 : ¬ (most : Int) < y := by omega
       have RQ := Lib.hid (tk_good (most := most) R3.out hqm)
       obtain ⟨ha, hor2⟩ := W.out
       have hz := HZ.out
       go_wp2
       clear ha hor2 hz
       go_quiet (fail)
       go_wp2
       go_ret3
       exact TkE.good RQ.out (fun w0 h0 => h0.rest2 1 (by omega) (by omega)) (below_drewN (Below.refl _ _) _)
      ·have q0 : (most : Int) < y := by omega
       have RQ := Lib.hid (tk_big (most := most) R3.out (by omega))
       obtain ⟨ha, hor2⟩ := W.out
       have hz := HZ.out
       go_wp2
       clear ha hor2 hz
       go_ret3
       exact TkE.bad RQ.out (by decide) (Below.refl _ _)
    ·have HZ := Lib.hid (a128h x xb h8)
     have HS := Lib.hid (show rd L = rdL (4 - 1) 1 (128 ^ 1) y (L.drop 1) by
      have h := rd_go (f := 3) (t := 0) (s := 1) HR.out HX.out h8
      rw [HY.out, HQ.out] at h
      exact h)
     have HB := Lib.hid (show y < 128 ^ 1 by have := HQ.out; show y < 128; omega)
     obtain ⟨ha, hor2⟩ := W.out
     have hz := HZ.out
     go_wp2
     clear ha hor2 hz
     go_roundg (4 - 1)
     ·exact ⟨1, y, by omega, by omega, by rfl, by rfl, rfl, HS, HB⟩
     case measure => have := TG.out; omega
   ·subst ht1
    have HT := Lib.hid HM.out
    obtain ⟨y, hy⟩ : ∃ y, x % 128 = y := ⟨_, rfl⟩
    have y1 : (y : Int) < 128 := by omega
    have mb : m < 128 := HM.out
    obtain ⟨q, hq⟩ : ∃ q, m + y * 128 = q := ⟨_, rfl⟩
    have qb : (q : Int) < 1000000000 := by omega
    have W := Lib.hid (show bits .and .u8 (x : Int) 127 = (y : Int) ∧ bits .or .i64 (m : Int) ((y : Int) * 128) = q from
     ⟨by rw [a127 x xb, hy], by
      have hor := or_add 7 m y (by simpa using mb) (by simp; omega)
      rw [show y * 2 ^ 7 = y * 128 from rfl, hq] at hor
      have e : ((y * 128 : Nat) : Int) = (y : Int) * 128 := by clear hor; omega
      rw [e] at hor; exact hor⟩)
    have y2 : (y : Int) * 128 < 1000000000 := by omega
    have HQ := Lib.hid hq
    have HY := Lib.hid hy
    clear hq hy
    by_cases h8 : x < 128
    ·have HZ := Lib.hid (a128l x h8)
     have HY2 := Lib.hid (show x = y by have := HY.out; omega)
     by_cases hx0 : x = 0
     ·have R := Lib.hid (tk_bad (most := most) (rd_zero (f := 2) (t := 1) (s := 128) HR.out HX.out h8 ⟨by omega, hx0⟩) (by decide))
      have x0 : ((x : Int) == 0) = true := by simp; omega
      clear hx0
      obtain ⟨ha, hor2⟩ := W.out
      have hz := HZ.out
      go_wp2
      clear ha hor2 hz
      go_ret3
      exact TkE.bad R.out (by decide) (Below.refl _ _)
     ·have R := Lib.hid (rd_done (f := 2) (t := 1) (s := 128) HR.out HX.out h8 (by omega))
      have x0 : ((x : Int) == 0) = false := by simp; omega
      have RE := Lib.hid (show m + x * 128 = q by rw [HY2.out]; exact HQ.out)
      have R2 := R.out
      rw [RE.out] at R2
      have R3 := Lib.hid R2
      clear hx0 R R2
      by_cases hqm : q ≤ most
      ·have q0 : ¬ (most : Int) < q := by omega
       have RQ := Lib.hid (tk_good (most := most) R3.out hqm)
       obtain ⟨ha, hor2⟩ := W.out
       have hz := HZ.out
       go_wp2
       clear ha hor2 hz
       go_quiet (fail)
       go_wp2
       go_ret3
       exact TkE.good RQ.out (fun w0 h0 => h0.rest2 2 (by omega) (by omega)) (below_drewN (Below.refl _ _) _)
      ·have q0 : (most : Int) < q := by omega
       have RQ := Lib.hid (tk_big (most := most) R3.out (by omega))
       obtain ⟨ha, hor2⟩ := W.out
       have hz := HZ.out
       go_wp2
       clear ha hor2 hz
       go_ret3
       exact TkE.bad RQ.out (by decide) (Below.refl _ _)
    ·have HZ := Lib.hid (a128h x xb h8)
     have HS := Lib.hid (show rd L = rdL (4 - 2) 2 (128 ^ 2) q (L.drop 2) by
      have h := rd_go (f := 2) (t := 1) (s := 128) HR.out HX.out h8
      rw [HY.out, HQ.out] at h
      exact h)
     have HB := Lib.hid (show q < 128 ^ 2 by have := HQ.out; show q < 16384; omega)
     obtain ⟨ha, hor2⟩ := W.out
     have hz := HZ.out
     go_wp2
     clear ha hor2 hz
     go_roundg (4 - 2)
     ·exact ⟨2, q, by omega, by omega, by rfl, by rfl, rfl, HS, HB⟩
     case measure => have := TG.out; omega
   ·subst ht2
    have HT := Lib.hid HM.out
    obtain ⟨y, hy⟩ : ∃ y, x % 128 = y := ⟨_, rfl⟩
    have y1 : (y : Int) < 128 := by omega
    have mb : m < 16384 := HM.out
    obtain ⟨q, hq⟩ : ∃ q, m + y * 16384 = q := ⟨_, rfl⟩
    have qb : (q : Int) < 1000000000 := by omega
    have W := Lib.hid (show bits .and .u8 (x : Int) 127 = (y : Int) ∧ bits .or .i64 (m : Int) ((y : Int) * 16384) = q from
     ⟨by rw [a127 x xb, hy], by
      have hor := or_add 14 m y (by simpa using mb) (by simp; omega)
      rw [show y * 2 ^ 14 = y * 16384 from rfl, hq] at hor
      have e : ((y * 16384 : Nat) : Int) = (y : Int) * 16384 := by clear hor; omega
      rw [e] at hor; exact hor⟩)
    have y2 : (y : Int) * 16384 < 1000000000 := by omega
    have HQ := Lib.hid hq
    have HY := Lib.hid hy
    clear hq hy
    by_cases h8 : x < 128
    ·have HZ := Lib.hid (a128l x h8)
     have HY2 := Lib.hid (show x = y by have := HY.out; omega)
     by_cases hx0 : x = 0
     ·have R := Lib.hid (tk_bad (most := most) (rd_zero (f := 1) (t := 2) (s := 16384) HR.out HX.out h8 ⟨by omega, hx0⟩) (by decide))
      have x0 : ((x : Int) == 0) = true := by simp; omega
      clear hx0
      obtain ⟨ha, hor2⟩ := W.out
      have hz := HZ.out
      go_wp2
      clear ha hor2 hz
      go_ret3
      exact TkE.bad R.out (by decide) (Below.refl _ _)
     ·have R := Lib.hid (rd_done (f := 1) (t := 2) (s := 16384) HR.out HX.out h8 (by omega))
      have x0 : ((x : Int) == 0) = false := by simp; omega
      have RE := Lib.hid (show m + x * 16384 = q by rw [HY2.out]; exact HQ.out)
      have R2 := R.out
      rw [RE.out] at R2
      have R3 := Lib.hid R2
      clear hx0 R R2
      by_cases hqm : q ≤ most
      ·have q0 : ¬ (most : Int) < q := by omega
       have RQ := Lib.hid (tk_good (most := most) R3.out hqm)
       obtain ⟨ha, hor2⟩ := W.out
       have hz := HZ.out
       go_wp2
       clear ha hor2 hz
       go_quiet (fail)
       go_wp2
       go_ret3
       exact TkE.good RQ.out (fun w0 h0 => h0.rest2 3 (by omega) (by omega)) (below_drewN (Below.refl _ _) _)
      ·have q0 : (most : Int) < q := by omega
       have RQ := Lib.hid (tk_big (most := most) R3.out (by omega))
       obtain ⟨ha, hor2⟩ := W.out
       have hz := HZ.out
       go_wp2
       clear ha hor2 hz
       go_ret3
       exact TkE.bad RQ.out (by decide) (Below.refl _ _)
    ·have HZ := Lib.hid (a128h x xb h8)
     have HS := Lib.hid (show rd L = rdL (4 - 3) 3 (128 ^ 3) q (L.drop 3) by
      have h := rd_go (f := 1) (t := 2) (s := 16384) HR.out HX.out h8
      rw [HY.out, HQ.out] at h
      exact h)
     have HB := Lib.hid (show q < 128 ^ 3 by have := HQ.out; show q < 2097152; omega)
     obtain ⟨ha, hor2⟩ := W.out
     have hz := HZ.out
     go_wp2
     clear ha hor2 hz
     go_roundg (4 - 3)
     ·exact ⟨3, q, by omega, by omega, by rfl, by rfl, rfl, HS, HB⟩
     case measure => have := TG.out; omega
   ·subst ht3
    have HT := Lib.hid HM.out
    obtain ⟨y, hy⟩ : ∃ y, x % 128 = y := ⟨_, rfl⟩
    have y1 : (y : Int) < 128 := by omega
    have mb : m < 2097152 := HM.out
    obtain ⟨q, hq⟩ : ∃ q, m + y * 2097152 = q := ⟨_, rfl⟩
    have qb : (q : Int) < 1000000000 := by omega
    have W := Lib.hid (show bits .and .u8 (x : Int) 127 = (y : Int) ∧ bits .or .i64 (m : Int) ((y : Int) * 2097152) = q from
     ⟨by rw [a127 x xb, hy], by
      have hor := or_add 21 m y (by simpa using mb) (by simp; omega)
      rw [show y * 2 ^ 21 = y * 2097152 from rfl, hq] at hor
      have e : ((y * 2097152 : Nat) : Int) = (y : Int) * 2097152 := by clear hor; omega
      rw [e] at hor; exact hor⟩)
    have y2 : (y : Int) * 2097152 < 1000000000 := by omega
    have HQ := Lib.hid hq
    have HY := Lib.hid hy
    clear hq hy
    by_cases h8 : x < 128
    ·have HZ := Lib.hid (a128l x h8)
     have HY2 := Lib.hid (show x = y by have := HY.out; omega)
     by_cases hx0 : x = 0
     ·have R := Lib.hid (tk_bad (most := most) (rd_zero (f := 0) (t := 3) (s := 2097152) HR.out HX.out h8 ⟨by omega, hx0⟩) (by decide))
      have x0 : ((x : Int) == 0) = true := by simp; omega
      clear hx0
      obtain ⟨ha, hor2⟩ := W.out
      have hz := HZ.out
      go_wp2
      clear ha hor2 hz
      go_ret3
      exact TkE.bad R.out (by decide) (Below.refl _ _)
     ·have R := Lib.hid (rd_done (f := 0) (t := 3) (s := 2097152) HR.out HX.out h8 (by omega))
      have x0 : ((x : Int) == 0) = false := by simp; omega
      have RE := Lib.hid (show m + x * 2097152 = q by rw [HY2.out]; exact HQ.out)
      have R2 := R.out
      rw [RE.out] at R2
      have R3 := Lib.hid R2
      clear hx0 R R2
      by_cases hqm : q ≤ most
      ·have q0 : ¬ (most : Int) < q := by omega
       have RQ := Lib.hid (tk_good (most := most) R3.out hqm)
       by_cases hcl : c = 4
       ·subst hcl
        obtain ⟨ha, hor2⟩ := W.out
        have hz := HZ.out
        go_wp2
        clear ha hor2 hz
        go_quiet (fail)
        go_wp2
        go_ret3
        exact TkE.good RQ.out (fun w0 h0 => rd_mt _ _ _ (List.drop_of_length_le (by have := N1.out; omega))) (below_drewN (Below.refl _ _) _)
       ·skip
        obtain ⟨ha, hor2⟩ := W.out
        have hz := HZ.out
        go_wp2
        clear ha hor2 hz
        go_quiet (fail)
        go_wp2
        go_ret3
        exact TkE.good RQ.out (fun w0 h0 => h0.rest2 4 (by omega) (by omega)) (below_drewN (Below.refl _ _) _)
      ·have q0 : (most : Int) < q := by omega
       have RQ := Lib.hid (tk_big (most := most) R3.out (by omega))
       obtain ⟨ha, hor2⟩ := W.out
       have hz := HZ.out
       go_wp2
       clear ha hor2 hz
       go_ret3
       exact TkE.bad RQ.out (by decide) (Below.refl _ _)
    ·have HZ := Lib.hid (a128h x xb h8)
     have HS := Lib.hid (show rd L = rdL (4 - 4) 4 (128 ^ 4) q (L.drop 4) by
      have h := rd_go (f := 0) (t := 3) (s := 2097152) HR.out HX.out h8
      rw [HY.out, HQ.out] at h
      exact h)
     have HB := Lib.hid (show q < 128 ^ 4 by have := HQ.out; show q < 268435456; omega)
     obtain ⟨ha, hor2⟩ := W.out
     have hz := HZ.out
     go_wp2
     clear ha hor2 hz
     go_roundg (4 - 4)
     ·exact ⟨4, q, by omega, by omega, by rfl, by rfl, rfl, HS, HB⟩
     case measure => have := TG.out; omega
  ·have l0 : ¬ (t : Int) < 4 := by omega
   have te : t = 4 := by omega
   have TE := Lib.hid te
   clear te
   have R := Lib.hid (tk_bad (most := most) (rd_four (by have h := HR.out; rw [TE.out] at h; exact h)) (by decide))
   go_wp2
   go_ret3
   exact TkE.bad R.out (by decide) (Below.refl _ _)
set_option maxHeartbeats 1000000 in
theorem tk_0 (a : Option Addr) (c most : Nat) (hmost : most ≤ 1000000) (w : World) : Calls Try.prog 23 #[.slice a 0 c, .int .i64 most] w (TkE [] most (.slice a 0 c) w) := by
 have R := Lib.hid (tk_bad (L := []) (most := most) rfl (by decide))
 go_enter Try.func23, Try.ntmps23
 go_wp2
 all_goals refine wp_loop_rounds 1 ?_
 all_goals rw [rounds_succ]
 all_goals go_wp2
 all_goals go_ret3
 all_goals exact TkE.bad R.out (by decide) (Below.refl _ _)
theorem tk_c (v : Value) (L : List Nat) (hm : L.length ≤ 1000000) (most : Nat) (hmost : most ≤ 1000000) (w : World) (h : Rd w v L) : Calls Try.prog 23 #[v, .int .i64 most] w (TkE L most v w) := by
 have h' := h
 obtain ⟨a, n, c, rfl, hn, hc, _, hb, hat⟩ := h.open
 rcases Nat.eq_zero_or_pos n with rfl | h0
 ·obtain rfl := List.length_eq_zero_iff.1 hn
  exact tk_0 a c most hmost w
 by_cases h4 : n ≤ 4
 ·rcases (show n = 1 ∨ n = 2 ∨ n = 3 ∨ n = 4 by omega) with rfl | rfl | rfl | rfl
  ·exact tk_1 a c L hn hc hb most hmost w hat h'
  ·exact tk_2 a c L hn hc hb most hmost w hat h'
  ·exact tk_3 a c L hn hc hb most hmost w hat h'
  ·exact tk_4 a c L hn hc hb most hmost w hat h'
 ·exact tk_5 a n c L hn (by omega) hc hb most hmost w hat h' h4
end Go.Proofs.Ytklbhbappaibgaa
