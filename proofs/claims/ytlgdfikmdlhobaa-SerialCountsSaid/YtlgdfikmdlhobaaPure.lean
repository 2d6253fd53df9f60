/-
  Plain data: what a port is, and what a cycle and writes make of it, as numbers; no program, no condition.
-/
import Derived.Test.YtlgdfikmdlhobaaRows
import Derived.Laws.BitsAllLaws
namespace Go.Proofs.Ytlgdfikmdlhobaa
set_option linter.unusedVariables false
structure PV where
  d : Int
  c : Int
  l : Int
  b : Int
  n : Int
  s : Int
def PV.ok (p : PV) : Prop := (0 ≤ p.d ∧ p.d < 256) ∧ (0 ≤ p.c ∧ p.c < 256) ∧ (0 ≤ p.l ∧ p.l < 256) ∧ (-1 ≤ p.b ∧ p.b ≤ 9) ∧ (0 ≤ p.n ∧ p.n ≤ 127) ∧ (0 ≤ p.s ∧ p.s ≤ 65535)
def zeroV : PV := ⟨0, 0, 0, 0, 0, 0⟩
def tickV (p : PV) : PV :=
  if p.b ≤ 0 then p else if p.n + 1 = 128 then
    (if p.b - 1 ≤ 0 then { p with d := p.d % 128 * 2 + 1, c := p.c % 128, b := p.b - 1, n := 0 } else { p with d := p.d % 128 * 2 + 1, b := p.b - 1, n := 0 })
  else { p with n := p.n + 1 }
def tickI (p : PV) : Bool := decide (¬ p.b ≤ 0 ∧ p.n + 1 = 128 ∧ p.b - 1 ≤ 0)
def readV (p : PV) (k : Int) : Int := if k = 0 then p.d else if k = 1 then p.c / 128 * 128 + 126 + p.c % 2 else 255
def begins (x : Int) : Prop := x / 128 = 1 ∧ x % 2 = 1
instance (x : Int) : Decidable (begins x) := inferInstanceAs (Decidable (_ ∧ _))
def wrV (p : PV) (k x : Int) : PV :=
  if k = 0 then { p with d := x } else if k = 1 then
    (if begins x then { p with c := x / 128 * 128 + x % 2, b := 8, n := 0, l := p.d, s := (p.s + 1) % 65536 } else { p with c := x / 128 * 128 + x % 2, b := 0 })
  else p
theorem zero_ok : zeroV.ok := by unfold PV.ok zeroV; decide
theorem tick_ok {p : PV} (h : p.ok) : (tickV p).ok := by
  obtain ⟨⟨h0, h1⟩, ⟨h2, h3⟩, ⟨h4, h5⟩, ⟨h6, h7⟩, ⟨h8, h9⟩, ⟨ha, hb⟩⟩ := h
  unfold tickV
  repeat' split
  all_goals (unfold PV.ok; (try dsimp only); omega)
theorem wr_ok {p : PV} (h : p.ok) (k x : Int) (hx : 0 ≤ x) (hx2 : x < 256) : (wrV p k x).ok := by
  obtain ⟨⟨h0, h1⟩, ⟨h2, h3⟩, ⟨h4, h5⟩, ⟨h6, h7⟩, ⟨h8, h9⟩, ⟨ha, hb⟩⟩ := h
  unfold wrV
  repeat' split
  all_goals (unfold PV.ok; (try dsimp only); omega)
theorem tick_idle {p : PV} (h : p.b ≤ 0) : tickV p = p ∧ tickI p = false := by
  constructor
  · unfold tickV; rw [if_pos h]
  · unfold tickI; exact decide_eq_false (fun q => q.1 h)
theorem tick_keeps (p : PV) : (tickV p).s = p.s ∧ (tickV p).l = p.l := by
  unfold tickV
  repeat' split
  all_goals exact ⟨rfl, rfl⟩
/-- How many cycles a port that is sending has to go. -/
def leftV (p : PV) : Int := p.b * 128 - p.n
theorem tick_left {p : PV} (h : p.ok) (hb : 0 < p.b) : leftV (tickV p) = leftV p - 1 := by
  obtain ⟨_, _, _, _, ⟨h8, h9⟩, _⟩ := h
  unfold tickV leftV
  repeat' split
  all_goals ((try dsimp only); omega)
/-- The port behind i cycles of sending x, i up to 1024. -/
def sentV (x : Nat) (i : Nat) : PV :=
  ⟨((x * 2 ^ (i / 128) + (2 ^ (i / 128) - 1)) % 256 : Nat), if i < 1024 then 129 else 1, x, 8 - (i / 128 : Nat), (i % 128 : Nat), 1⟩
theorem sent_0 (x : Nat) (hx : x < 256) : sentV x 0 = ⟨x, 129, x, 8, 0, 1⟩ := by
  unfold sentV
  simp
  omega
theorem pow_next (x k : Nat) : ((x * 2 ^ k + (2 ^ k - 1)) % 256) % 128 * 2 + 1 = (x * 2 ^ (k + 1) + (2 ^ (k + 1) - 1)) % 256 := by
  rw [Nat.pow_succ, ← Nat.mul_assoc]
  have : 0 < 2 ^ k := Nat.two_pow_pos k
  generalize 2 ^ k = q at *
  generalize hz : x * q = z
  omega
theorem sent_next (x i : Nat) (hi : i < 1024) : tickV (sentV x i) = sentV x (i + 1) ∧ tickI (sentV x i) = decide (i = 1023) := by
  have q1 : i / 128 ≤ 7 := by omega
  have e0 : ¬ ((8 : Int) - (i / 128 : Nat) ≤ 0) := by omega
  by_cases h : i % 128 = 127
  · have e1 : (i + 1) / 128 = i / 128 + 1 := by omega
    have e2 : (i + 1) % 128 = 0 := by omega
    have p := pow_next x (i / 128)
    by_cases h7 : i / 128 = 7
    · have i1 : i = 1023 := by omega
      subst i1
      constructor
      · unfold tickV sentV
        dsimp only
        rw [if_neg e0, if_pos (by omega), if_pos (by omega), if_pos (by omega), if_neg (by omega), e1, e2, ← p]
        congr 1
      · unfold tickI sentV
        dsimp only
        rw [decide_eq_true (by omega), decide_eq_true rfl]
    · have i2 : i + 1 < 1024 := by omega
      constructor
      · unfold tickV sentV
        dsimp only
        rw [if_neg e0, if_pos (by omega), if_neg (by omega), if_pos hi, if_pos i2, e1, e2, ← p]
        congr 1
        omega
      · unfold tickI sentV
        dsimp only
        rw [decide_eq_false (by omega), decide_eq_false (by omega)]
  · have e1 : (i + 1) / 128 = i / 128 := by omega
    have e2 : (i + 1) % 128 = i % 128 + 1 := by omega
    constructor
    · unfold tickV sentV
      dsimp only
      rw [if_neg e0, if_neg (by omega), if_pos hi, if_pos (by omega), e1, e2]
      congr 1
    · unfold tickI sentV
      dsimp only
      rw [decide_eq_false (by omega), decide_eq_false (by omega)]
theorem sent_last (x : Nat) (hx : x < 256) : sentV x 1024 = ⟨255, 1, x, 0, 0, 1⟩ := by
  unfold sentV
  have : (x * 256 + 255) % 256 = 255 := by omega
  simp [this]
theorem start_sent (x : Nat) (hx : x < 256) : wrV (wrV zeroV 0 x) 1 129 = sentV x 0 := by
  rw [sent_0 x hx]
  unfold wrV zeroV begins
  simp
theorem wr_begins (p : PV) (x : Int) (h : begins x) : wrV p 1 x = { p with c := x / 128 * 128 + x % 2, b := 8, n := 0, l := p.d, s := (p.s + 1) % 65536 } := by
  unfold wrV; rw [if_neg (by decide), if_pos rfl, if_pos h]
theorem wr_not (p : PV) (x : Int) (h : ¬ begins x) : wrV p 1 x = { p with c := x / 128 * 128 + x % 2, b := 0 } := by
  unfold wrV; rw [if_neg (by decide), if_pos rfl, if_neg h]
theorem wr_data (p : PV) (x : Int) : wrV p 0 x = { p with d := x } := rfl
theorem byte_all {P : Int → Prop} (h : ∀ n : Fin 256, P (n.val : Int)) (a : Int) (h1 : 0 ≤ a) (h2 : a < 256) : P a := by
  have := h ⟨a.toNat, by omega⟩
  rwa [show ((a.toNat : Nat) : Int) = a by omega] at this
theorem and129 (a : Int) (h1 : 0 ≤ a) (h2 : a < 256) : bits .and .u8 a 129 = a / 128 * 128 + a % 2 := byte_all (P := fun a => bits .and .u8 a 129 = a / 128 * 128 + a % 2) (by decide +kernel) a h1 h2
theorem or126 (a : Int) (h1 : 0 ≤ a) (h2 : a < 256) : bits .or .u8 a 126 = a / 128 * 128 + 126 + a % 2 := byte_all (P := fun a => bits .or .u8 a 126 = a / 128 * 128 + 126 + a % 2) (by decide +kernel) a h1 h2
theorem not128 (a : Int) (h1 : 0 ≤ a) (h2 : a < 256) : bits .andNot .u8 a 128 = a % 128 := byte_all (P := fun a => bits .andNot .u8 a 128 = a % 128) (by decide +kernel) a h1 h2
theorem and128 (a : Int) (h1 : 0 ≤ a) (h2 : a < 256) : bits .and .u8 a 128 = a / 128 * 128 := byte_all (P := fun a => bits .and .u8 a 128 = a / 128 * 128) (by decide +kernel) a h1 h2
end Go.Proofs.Ytlgdfikmdlhobaa
