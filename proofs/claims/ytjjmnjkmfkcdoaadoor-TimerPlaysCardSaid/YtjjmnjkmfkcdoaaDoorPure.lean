/-
  Plain data: what a timer is, and what cycles and writes make of it, as numbers; no program, no condition.
-/
import Derived.Test.YtjjmnjkmfkcdoaaDoorRows
import Derived.Laws.BitsAllLaws
namespace Go.Proofs.YtjjmnjkmfkcdoaaDoor
set_option linter.unusedVariables false
structure TV where
  c : Int
  a : Int
  m : Int
  k : Int
  o : Bool
def TV.ok (v : TV) : Prop := (0 ≤ v.c ∧ v.c < 65536) ∧ (0 ≤ v.a ∧ v.a < 256) ∧ (0 ≤ v.m ∧ v.m < 256) ∧ (0 ≤ v.k ∧ v.k < 256)
def bitV (k : Int) : Int := if k % 4 = 0 then 512 else if k % 4 = 1 then 8 else if k % 4 = 2 then 32 else 128
def sigV (c k : Int) : Bool := k / 4 % 2 == 1 && c / bitV k % 2 == 1
def fallV (s : Bool) (v : TV) : TV := if s = true ∧ sigV v.c v.k = false then { v with a := (v.a + 1) % 256, o := if (v.a + 1) % 256 = 0 then true else v.o } else v
def preV (v : TV) : TV := if v.o = true then { v with a := v.m, o := false } else v
def tickV (v : TV) : TV := fallV (sigV v.c v.k) { preV v with c := (v.c + 4) % 65536 }
def readV (v : TV) (n : Int) : Int := if n = 0 then v.c / 256 else if n = 1 then v.a else if n = 2 then v.m else if n = 3 then 248 + v.k % 8 else 255
def wrV (v : TV) (n x : Int) : TV :=
  if n = 0 then fallV (sigV v.c v.k) { v with c := 0 } else if n = 1 then { v with a := x, o := false } else if n = 2 then { v with m := x }
  else if n = 3 then fallV (sigV v.c v.k) { v with k := x % 8 } else v
def itV : Nat → TV → TV
  | 0, v => v
  | n + 1, v => tickV (itV n v)
theorem fall_ok {v : TV} (s : Bool) (h : v.ok) : (fallV s v).ok := by
  obtain ⟨h1, h2, h3, h4⟩ := h
  unfold fallV TV.ok; split
  · dsimp only; omega
  · exact ⟨h1, h2, h3, h4⟩
theorem pre_ok {v : TV} (h : v.ok) : (preV v).ok := by
  obtain ⟨h1, h2, h3, h4⟩ := h
  unfold preV TV.ok; split
  · dsimp only; omega
  · exact ⟨h1, h2, h3, h4⟩
theorem pre_c (v : TV) : (preV v).c = v.c ∧ (preV v).k = v.k ∧ (preV v).m = v.m := by
  unfold preV; split <;> exact ⟨rfl, rfl, rfl⟩
theorem fall_c (s : Bool) (v : TV) : (fallV s v).c = v.c ∧ (fallV s v).k = v.k ∧ (fallV s v).m = v.m := by
  unfold fallV; split <;> exact ⟨rfl, rfl, rfl⟩
theorem tick_ok {v : TV} (h : v.ok) : (tickV v).ok := by
  obtain ⟨h1, h2, h3, h4⟩ := pre_ok h
  exact fall_ok _ ⟨by dsimp only; omega, h2, h3, h4⟩
theorem tick_c (v : TV) : (tickV v).c = (v.c + 4) % 65536 ∧ (tickV v).k = v.k ∧ (tickV v).m = v.m := by
  have := fall_c (sigV v.c v.k) { preV v with c := (v.c + 4) % 65536 }
  have h2 := pre_c v
  exact ⟨this.1, this.2.1.trans h2.2.1, this.2.2.trans h2.2.2⟩
theorem wr_ok {v : TV} (h : v.ok) (n x : Int) (hx : 0 ≤ x) (hx2 : x < 256) : (wrV v n x).ok := by
  have h0 := h
  obtain ⟨h1, h2, h3, h4⟩ := h
  unfold wrV; repeat' split
  · exact fall_ok _ ⟨by dsimp only; omega, h2, h3, h4⟩
  · exact ⟨h1, ⟨hx, hx2⟩, h3, h4⟩
  · exact ⟨h1, h2, ⟨hx, hx2⟩, h4⟩
  · exact fall_ok _ ⟨h1, h2, h3, by dsimp only; omega⟩
  · exact h0
theorem it_ok {v : TV} (h : v.ok) : ∀ n, (itV n v).ok
  | 0 => h
  | n + 1 => tick_ok (it_ok h n)
theorem it_c {v : TV} (h : v.ok) : ∀ n : Nat, (itV n v).c = (v.c + 4 * n) % 65536
  | 0 => by have := h.1; show v.c = _; omega
  | n + 1 => by
    have := it_c h n
    have t := (tick_c (itV n v)).1
    show (tickV (itV n v)).c = _
    rw [t, this]; omega
/-- The signal stays as it is: nothing falls. -/
theorem fall_same (v : TV) : fallV (sigV v.c v.k) v = v := by
  unfold fallV
  by_cases h : sigV v.c v.k = true ∧ sigV v.c v.k = false
  · exact absurd (h.1.symm.trans h.2) (by decide)
  · rw [if_neg h]
theorem fall_not (s : Bool) (v : TV) (h : s = false ∨ sigV v.c v.k = true) : fallV s v = v := by
  unfold fallV
  by_cases h2 : s = true ∧ sigV v.c v.k = false
  · rcases h with h | h
    · exact absurd (h.symm.trans h2.1) (by decide)
    · exact absurd (h.symm.trans h2.2) (by decide)
  · rw [if_neg h2]
theorem fall_yes (v : TV) (h : sigV v.c v.k = false) : fallV true v = { v with a := (v.a + 1) % 256, o := if (v.a + 1) % 256 = 0 then true else v.o } := by
  unfold fallV; rw [if_pos ⟨rfl, h⟩]
theorem eta (v : TV) : v = ⟨v.c, v.a, v.m, v.k, v.o⟩ := rfl
/-- The signal, as told by four places. -/
theorem sig_0 (c k : Int) (h : k / 4 % 2 = 0) : sigV c k = false := by unfold sigV; rw [h]; rfl
theorem sig_1 (c k : Int) (b j : Int) (h : k / 4 % 2 = 1) (h1 : bitV k = b) (h2 : c / b % 2 = j) : sigV c k = (j == 1) := by unfold sigV; rw [h, h1, h2]; rfl
theorem sig_eq (c k : Int) (s : Bool) (h : k / 4 % 2 = 1) (h2 : c / bitV k % 2 = if s then 1 else 0) : sigV c k = s := by unfold sigV; rw [h, h2]; cases s <;> rfl
end Go.Proofs.YtjjmnjkmfkcdoaaDoor
