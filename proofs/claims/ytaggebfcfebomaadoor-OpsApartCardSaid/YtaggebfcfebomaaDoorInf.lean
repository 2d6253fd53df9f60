/-
  Where an order's number stands in its text: for every order.
-/
import Derived.Test.YtaggebfcfebomaaDoorText
import Derived.Test.YtaggebfcfebomaaDoorWhen
import Derived.Test.YtaggebfcfebomaaDoorHasW
import Derived.Test.YtaggebfcfebomaaDoorSizeW
namespace Go.Proofs.YtaggebfcfebomaaDoor
open Go.ChangeShapes Go.WideShapes Go.ChangeAt Go.RowKit
set_option linter.unusedVariables false

def Inf (S X : List UInt8) : Prop := S.length ≤ 100 ∧ ∃ p, p + X.length ≤ S.length ∧ (S.drop p).take X.length = X
theorem Inf.mk' {S X : List UInt8} (hS : S.length ≤ 100) (pre suf : List UInt8) (h : S = pre ++ X ++ suf) : Inf S X := by
  refine ⟨hS, pre.length, ?_, ?_⟩
  · rw [h]; simp
  · rw [h]; simp
theorem line_len {m : List UInt8} {l : List (List UInt8)} (h : Short m l) : (lineL m l).length ≤ 100 := by
  obtain ⟨h0, h1, h2⟩ := h
  match l, h1 with
  | [], _ => show m.length ≤ 100; omega
  | [a], _ => have := h2 a (by simp); rw [line1]; simp; omega
  | [a, b], _ => have := h2 a (by simp); have := h2 b (by simp); rw [line2]; simp; omega
theorem i1 {m h : List UInt8} (s : Short m [h]) : Inf (lineL m [h]) h := Inf.mk' (line_len s) (m ++ [32]) [] (by rw [line1]; simp)
theorem i2 {m a h : List UInt8} (s : Short m [a, h]) : Inf (lineL m [a, h]) h := Inf.mk' (line_len s) (m ++ 32 :: (a ++ [44, 32])) [] (by rw [line2]; simp)
theorem i3 {m h b : List UInt8} (s : Short m [40 :: (h ++ [41]), b]) : Inf (lineL m [40 :: (h ++ [41]), b]) h := Inf.mk' (line_len s) (m ++ [32, 40]) (41 :: 44 :: 32 :: b) (by rw [line2]; simp)
theorem i4 {m a h : List UInt8} (s : Short m [a, 40 :: (h ++ [41])]) : Inf (lineL m [a, 40 :: (h ++ [41])]) h := Inf.mk' (line_len s) (m ++ 32 :: (a ++ [44, 32, 40])) [41] (by rw [line2]; simp)
theorem i5 {m a h : List UInt8} (s : Short m [a, 115 :: 112 :: 43 :: h]) : Inf (lineL m [a, 115 :: 112 :: 43 :: h]) h := Inf.mk' (line_len s) (m ++ 32 :: (a ++ [44, 32, 115, 112, 43])) [] (by rw [line2]; simp)
theorem ic {m h : List UInt8} (x : Int) (hm : m.length ≤ 5) (hh : h.length ≤ 10) : Inf (lineL m (condL x [h])) h := by
  have s := condS hm x [h] (by simp) (sl _ hh)
  unfold condL at s ⊢
  split
  · rename_i e; rw [if_pos e] at s; exact i1 s
  · rename_i e; rw [if_neg e] at s; exact i2 s
theorem l2 (n : Nat) : (hexs n 2).length ≤ 10 := by rw [hexs_len]; decide
theorem l4 (n : Nat) : (hexs n 4).length ≤ 10 := by rw [hexs_len]; decide
/-- The kinds of orders with a byte, and with a word. -/
def kind2 (k : Int) : Bool := decide (k = 2 ∨ k = 8 ∨ k = 11 ∨ k = 23 ∨ k = 34 ∨ k = 35 ∨ k = 41 ∨ k = 42)
def kind3 (k : Int) : Bool := decide (k = 9 ∨ k = 24 ∨ k = 25 ∨ k = 38 ∨ k = 39 ∨ k = 40)
theorem inf2 (k x y s : Int) (n : Nat) (h : kind2 k = true) : Inf (textL ⟨k, x, y, s, (n : Int)⟩) (hexs n 2) := by
  simp [kind2] at h
  rcases h with rfl | rfl | rfl | rfl | rfl | rfl | rfl | rfl
  · exact i1 (m := [115, 116, 111, 112]) ⟨by decide, by simp, sl _ (l2 n)⟩
  · exact i2 (m := [108, 100]) ⟨by decide, by simp, sl2 _ _ (pl5 (by decide)) (l2 n)⟩
  · exact i2 ⟨pick_len _ _ (by decide), by simp, sl2 _ _ (by decide) (l2 n)⟩
  · exact ic (m := [106, 114]) x (by decide) (l2 n)
  · exact i4 (m := [108, 100, 104]) ⟨by decide, by simp, sl2 _ _ (by decide) (by simp [hexs_len])⟩
  · exact i3 (m := [108, 100, 104]) ⟨by decide, by simp, sl2 _ _ (by simp [hexs_len]) (by decide)⟩
  · exact i2 (m := [97, 100, 100]) ⟨by decide, by simp, sl2 _ _ (by decide) (l2 n)⟩
  · exact i5 (m := [108, 100]) ⟨by decide, by simp, sl2 _ _ (by decide) (by simp [hexs_len])⟩
theorem inf4 (k x y s : Int) (n : Nat) (h : kind3 k = true) : Inf (textL ⟨k, x, y, s, (n : Int)⟩) (hexs n 4) := by
  simp [kind3] at h
  rcases h with rfl | rfl | rfl | rfl | rfl | rfl
  · exact i2 (m := [108, 100]) ⟨by decide, by simp, sl2 _ _ (pl5 (by decide)) (l4 n)⟩
  · exact ic (m := [106, 112]) x (by decide) (l4 n)
  · exact ic (m := [99, 97, 108, 108]) x (by decide) (l4 n)
  · exact i4 (m := [108, 100]) ⟨by decide, by simp, sl2 _ _ (by decide) (by simp [hexs_len])⟩
  · exact i3 (m := [108, 100]) ⟨by decide, by simp, sl2 _ _ (by simp [hexs_len]) (by decide)⟩
  · exact i3 (m := [108, 100]) ⟨by decide, by simp, sl2 _ _ (by simp [hexs_len]) (by decide)⟩
theorem plT_kind : ∀ a : Fin 256, ((plT a.val).s = 2 → kind2 (plT a.val).k = true) ∧ ((plT a.val).s = 3 → kind3 (plT a.val).k = true) ∧ ((plT a.val).s = 1 → (plT a.val).k = 28 ∨ (plT a.val).n = 0) := by decide +kernel
theorem pfT_n : ∀ a : Fin 256, (pfT a.val).n = 0 := by decide +kernel
theorem hx2 (b : Nat) : hexs b 2 = [hexb (b / 16 % 16), hexb (b % 16)] := by simp [hexs, sh]
theorem hx4 (b c : Nat) (hb : b < 256) : hexs (c * 256 + b) 4 = [hexb (c / 16 % 16), hexb (c % 16)] ++ hexs b 2 := by
  have e1 : (c * 256 + b) / 4096 % 16 = c / 16 % 16 := by omega
  have e2 : (c * 256 + b) / 256 % 16 = c % 16 := by omega
  have e3 : (c * 256 + b) / 16 % 16 = b / 16 % 16 := by omega
  have e4 : (c * 256 + b) % 16 = b % 16 := by omega
  simp [hexs, sh, e1, e2, e3, e4]
end Go.Proofs.YtaggebfcfebomaaDoor
