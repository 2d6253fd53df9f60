/-
  Plain data: what a clock is, and what time and writes make of it, as numbers; no program, no condition.
-/
import Derived.Test.YtkpjoongbckhcaaRows
import Derived.Laws.BitsAllLaws
namespace Go.Proofs.Ytkpjoongbckhcaa
set_option linter.unusedVariables false
structure CV where
  s : Int
  m : Int
  h : Int
  day : Int
  sub : Int
  halt : Bool
  carry : Bool
  a : Int
  b : Int
  c : Int
  d : Int
  e : Int
def CV.ok (c : CV) : Prop := (0 ≤ c.s ∧ c.s < 256) ∧ (0 ≤ c.m ∧ c.m < 256) ∧ (0 ≤ c.h ∧ c.h < 256) ∧ (0 ≤ c.day ∧ c.day < 512) ∧ (0 ≤ c.sub ∧ c.sub ≤ 1048576)
def zeroV : CV := ⟨0, 0, 0, 0, 0, false, false, 0, 0, 0, 0, 0⟩
def secV (c : CV) : CV :=
  if (c.s + 1) % 64 = 60 then
    (if (c.m + 1) % 64 = 60 then
      (if (c.h + 1) % 32 = 24 then
        (if c.day + 1 = 512 then { c with s := 0, m := 0, h := 0, day := 0, carry := true } else { c with s := 0, m := 0, h := 0, day := c.day + 1 })
      else { c with s := 0, m := 0, h := (c.h + 1) % 32 })
    else { c with s := 0, m := (c.m + 1) % 64 })
  else { c with s := (c.s + 1) % 64 }
def itV : Nat → CV → CV
  | 0, c => c
  | n + 1, c => secV (itV n c)
def cntX (x t sz en : Int) : Int := if t = 0 then x else if en ≤ x % sz then (if x % sz + t < sz then x % sz + t else (x % sz + t - sz) % en) else (x % sz + t) % en
def cntN (x t sz en : Int) : Int := if t = 0 then 0 else if en ≤ x % sz then (if x % sz + t < sz then 0 else (x % sz + t - sz) / en) else (x % sz + t) / en
def dayD (d k : Int) : Int := if 512 ≤ d + k then (d + k) % 512 else d + k
def dayC (d k : Int) (b : Bool) : Bool := if 512 ≤ d + k then true else b
def passV (c : CV) (k : Int) : CV :=
  { c with s := cntX c.s k 64 60, m := cntX c.m (cntN c.s k 64 60) 64 60, h := cntX c.h (cntN c.m (cntN c.s k 64 60) 64 60) 32 24, day := dayD c.day (cntN c.h (cntN c.m (cntN c.s k 64 60) 64 60) 32 24), carry := dayC c.day (cntN c.h (cntN c.m (cntN c.s k 64 60) 64 60) 32 24) c.carry }
def capV (n : Int) : Int := if 1073741824 < n then 1073741824 else n
def tickV (c : CV) (n : Int) : CV :=
  if c.halt = true then c else if n < 1 then c else passV { c with sub := (c.sub + capV n) % 1048576 } ((c.sub + capV n) / 1048576)
def bV (x : Bool) (k : Int) : Int := if x = true then k else 0
def bitsV (c : CV) : Int := c.day / 256 % 2 + bV c.halt 64 + bV c.carry 128
def partV (c : CV) (n : Int) : Int := if n = 0 then c.s else if n = 1 then c.m else if n = 2 then c.h else if n = 3 then c.day % 256 else bitsV c
def readV (c : CV) (n : Int) : Int := if n = 0 then c.a else if n = 1 then c.b else if n = 2 then c.c else if n = 3 then c.d else if n = 4 then c.e else 0
def wrV (c : CV) (n x : Int) : CV :=
  if n = 0 then { c with s := x % 64, sub := 0 } else if n = 1 then { c with m := x % 64 } else if n = 2 then { c with h := x % 32 }
  else if n = 3 then { c with day := c.day / 256 * 256 + x } else if n = 4 then { c with day := x % 2 * 256 + c.day % 256, halt := x / 64 % 2 == 1, carry := x / 128 == 1 } else c
def holdV (c : CV) : CV := { c with a := c.s, b := c.m, c := c.h, d := c.day % 256, e := bitsV c }
def doV (c : CV) (k n x : Int) : CV := if k = 1 then tickV c n else if k = 2 then wrV c n x else if k = 3 then holdV c else c

theorem cnt60 (x t : Int) (hx : 0 ≤ x) (ht : 0 ≤ t) : 0 ≤ cntN x t 64 60 ∧ cntN x t 64 60 ≤ t ∧ 0 ≤ cntX x t 64 60 ∧ (cntX x t 64 60 < 64 ∨ cntX x t 64 60 = x) := by
  unfold cntN cntX; repeat' split
  all_goals omega
theorem cnt24 (x t : Int) (hx : 0 ≤ x) (ht : 0 ≤ t) : 0 ≤ cntN x t 32 24 ∧ cntN x t 32 24 ≤ t ∧ 0 ≤ cntX x t 32 24 ∧ (cntX x t 32 24 < 32 ∨ cntX x t 32 24 = x) := by
  unfold cntN cntX; repeat' split
  all_goals omega
theorem next60 (x t : Int) (hx : 0 ≤ x) (ht : 0 ≤ t) :
    ((cntX x t 64 60 + 1) % 64 = 60 → cntX x (t + 1) 64 60 = 0 ∧ cntN x (t + 1) 64 60 = cntN x t 64 60 + 1) ∧
    (¬ (cntX x t 64 60 + 1) % 64 = 60 → cntX x (t + 1) 64 60 = (cntX x t 64 60 + 1) % 64 ∧ cntN x (t + 1) 64 60 = cntN x t 64 60) := by
  unfold cntN cntX; constructor
  all_goals (intro h; revert h; repeat' split)
  all_goals (intro h; constructor)
  all_goals omega
theorem next24 (x t : Int) (hx : 0 ≤ x) (ht : 0 ≤ t) :
    ((cntX x t 32 24 + 1) % 32 = 24 → cntX x (t + 1) 32 24 = 0 ∧ cntN x (t + 1) 32 24 = cntN x t 32 24 + 1) ∧
    (¬ (cntX x t 32 24 + 1) % 32 = 24 → cntX x (t + 1) 32 24 = (cntX x t 32 24 + 1) % 32 ∧ cntN x (t + 1) 32 24 = cntN x t 32 24) := by
  unfold cntN cntX; constructor
  all_goals (intro h; revert h; repeat' split)
  all_goals (intro h; constructor)
  all_goals omega
theorem day_next (d k : Int) (b : Bool) (h0 : 0 ≤ d) (h1 : d < 512) (hk : 0 ≤ k) :
    (dayD d k + 1 = 512 → dayD d (k + 1) = 0 ∧ dayC d (k + 1) b = true) ∧ (¬ dayD d k + 1 = 512 → dayD d (k + 1) = dayD d k + 1 ∧ dayC d (k + 1) b = dayC d k b) := by
  unfold dayD dayC; constructor
  all_goals (intro h; revert h; repeat' split)
  all_goals (intro h; constructor)
  all_goals first | rfl | omega
theorem day_bd (d k : Int) (h0 : 0 ≤ d) (hk : 0 ≤ k) : 0 ≤ dayD d k ∧ dayD d k < 512 := by
  unfold dayD; split <;> omega
theorem pass_next (c : CV) (k : Int) (hc : c.ok) (hk : 0 ≤ k) : passV c (k + 1) = secV (passV c k) := by
  obtain ⟨h1, h2, h3, h4, h5⟩ := hc
  have q1 := (cnt60 c.s k h1.1 hk).1
  have q2 := (cnt60 c.m _ h2.1 q1).1
  have q3 := (cnt24 c.h _ h3.1 q2).1
  have r1 := next60 c.s k h1.1 hk
  have r2 := next60 c.m _ h2.1 q1
  have r3 := next24 c.h _ h3.1 q2
  have r4 := day_next c.day _ c.carry h4.1 h4.2 q3
  unfold passV secV
  dsimp only
  by_cases a1 : (cntX c.s k 64 60 + 1) % 64 = 60
  · rw [if_pos a1, (r1.1 a1).1, (r1.1 a1).2]
    by_cases a2 : (cntX c.m (cntN c.s k 64 60) 64 60 + 1) % 64 = 60
    · rw [if_pos a2, (r2.1 a2).1, (r2.1 a2).2]
      by_cases a3 : (cntX c.h (cntN c.m (cntN c.s k 64 60) 64 60) 32 24 + 1) % 32 = 24
      · rw [if_pos a3, (r3.1 a3).1, (r3.1 a3).2]
        by_cases a4 : dayD c.day (cntN c.h (cntN c.m (cntN c.s k 64 60) 64 60) 32 24) + 1 = 512
        · rw [if_pos a4, (r4.1 a4).1, (r4.1 a4).2]
        · rw [if_neg a4, (r4.2 a4).1, (r4.2 a4).2]
      · rw [if_neg a3, (r3.2 a3).1, (r3.2 a3).2]
    · rw [if_neg a2, (r2.2 a2).1, (r2.2 a2).2]
  · rw [if_neg a1, (r1.2 a1).1, (r1.2 a1).2]
theorem pass_zero (c : CV) (hc : c.ok) : passV c 0 = c := by
  obtain ⟨h1, h2, h3, h4, h5⟩ := hc
  have e1 : cntN c.s 0 64 60 = 0 := by simp [cntN]
  have e2 : cntN c.m 0 64 60 = 0 := by simp [cntN]
  have e3 : cntN c.h 0 32 24 = 0 := by simp [cntN]
  have e4 : dayD c.day 0 = c.day := by unfold dayD; split <;> omega
  have e5 : dayC c.day 0 c.carry = c.carry := by unfold dayC; rw [if_neg (by omega)]
  unfold passV
  rw [e1, e2, e3, e4, e5]
  simp [cntX]
theorem pass_it (c : CV) (hc : c.ok) : ∀ n : Nat, passV c n = itV n c
  | 0 => pass_zero c hc
  | n + 1 => by
    have := pass_next c n hc (by omega)
    rw [show ((n + 1 : Nat) : Int) = (n : Int) + 1 by omega, this, pass_it c hc n]
    rfl
theorem secV_ok {c : CV} (h : c.ok) : (secV c).ok := by
  obtain ⟨h1, h2, h3, h4, h5⟩ := h
  unfold secV CV.ok; repeat' split
  all_goals ((try dsimp only); omega)
theorem secV_keep (c : CV) : (secV c).sub = c.sub ∧ (secV c).halt = c.halt ∧ (secV c).a = c.a ∧ (secV c).b = c.b ∧ (secV c).c = c.c ∧ (secV c).d = c.d ∧ (secV c).e = c.e := by
  unfold secV; repeat' split
  all_goals exact ⟨rfl, rfl, rfl, rfl, rfl, rfl, rfl⟩
theorem itV_ok {c : CV} (h : c.ok) : ∀ n, (itV n c).ok
  | 0 => h
  | n + 1 => secV_ok (itV_ok h n)
theorem secV_sub (c : CV) (x : Int) : secV { c with sub := x } = { secV c with sub := x } := by
  unfold secV; dsimp only; repeat' split
  all_goals rfl
theorem itV_sub (c : CV) (x : Int) : ∀ n, itV n { c with sub := x } = { itV n c with sub := x }
  | 0 => rfl
  | n + 1 => by rw [itV, itV_sub c x n, secV_sub]; rfl
theorem itV_add (c : CV) (m : Nat) : ∀ n, itV n (itV m c) = itV (m + n) c
  | 0 => rfl
  | n + 1 => by rw [itV, itV_add c m n]; rfl
theorem pass_keep (c : CV) (k : Int) : (passV c k).sub = c.sub ∧ (passV c k).halt = c.halt ∧ (passV c k).a = c.a ∧ (passV c k).b = c.b ∧ (passV c k).c = c.c ∧ (passV c k).d = c.d ∧ (passV c k).e = c.e :=
  ⟨rfl, rfl, rfl, rfl, rfl, rfl, rfl⟩
theorem pass_ok {c : CV} (h : c.ok) (k : Int) (hk : 0 ≤ k) : (passV c k).ok := by
  obtain ⟨n, rfl⟩ := Int.eq_ofNat_of_zero_le hk
  rw [pass_it c h n]; exact itV_ok h n
theorem cap_bd (n : Int) (h : 1 ≤ n) : 1 ≤ capV n ∧ capV n ≤ 1073741824 := by unfold capV; split <;> omega
theorem tick_ok {c : CV} (h : c.ok) (n : Int) : (tickV c n).ok := by
  unfold tickV
  by_cases a1 : c.halt = true
  · rw [if_pos a1]; exact h
  rw [if_neg a1]
  by_cases a2 : n < 1
  · rw [if_pos a2]; exact h
  rw [if_neg a2]
  have := cap_bd n (by omega)
  obtain ⟨h1, h2, h3, h4, h5⟩ := h
  exact pass_ok (show CV.ok { c with sub := (c.sub + capV n) % 1048576 } from ⟨h1, h2, h3, h4, by dsimp only; omega⟩) _ (by omega)
theorem wr_ok {c : CV} (h : c.ok) (n x : Int) (hx : 0 ≤ x ∧ x < 256) : (wrV c n x).ok := by
  obtain ⟨h1, h2, h3, h4, h5⟩ := h
  unfold wrV CV.ok; repeat' split
  all_goals ((try dsimp only); omega)
theorem do_ok {c : CV} (h : c.ok) (k n x : Int) (hx : 0 ≤ x ∧ x < 256) : (doV c k n x).ok := by
  unfold doV; repeat' split
  · exact tick_ok h n
  · exact wr_ok h n x hx
  · exact h
  · exact h
theorem do_sub {c : CV} (h : c.sub < 1048576) (k n x : Int) : (doV c k n x).sub < 1048576 := by
  unfold doV; repeat' split
  · unfold tickV; repeat' split
    · exact h
    · exact h
    · rw [(pass_keep _ _).1]; dsimp only; omega
  · unfold wrV; repeat' split
    all_goals ((try dsimp only); omega)
  · exact h
  · exact h
theorem zero_ok : zeroV.ok := by unfold CV.ok zeroV; dsimp only; omega
theorem eta (c : CV) : c = ⟨c.s, c.m, c.h, c.day, c.sub, c.halt, c.carry, c.a, c.b, c.c, c.d, c.e⟩ := rfl
/-- So many seconds one by one are so many at once. -/
theorem tick_it (c : CV) (h : c.ok) (n : Int) (h1 : c.halt = false) (h2 : 1 ≤ n) (k : Nat) (hk : (k : Int) = (c.sub + capV n) / 1048576) : tickV c n = { itV k c with sub := (c.sub + capV n) % 1048576 } := by
  have b := cap_bd n h2
  unfold tickV
  rw [if_neg (by rw [h1]; decide), if_neg (by omega), ← hk, pass_it _ (show CV.ok { c with sub := (c.sub + capV n) % 1048576 } from ⟨h.1, h.2.1, h.2.2.1, h.2.2.2.1, by dsimp only; omega⟩) k, itV_sub]
end Go.Proofs.Ytkpjoongbckhcaa
