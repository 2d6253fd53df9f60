/-
  Plain data: what a map of banks is, and what a write makes of it, as numbers; no program, no condition.
-/
import Derived.Test.YtafmmffgenolaaaRows
import Derived.Laws.BitsAllLaws
namespace Go.Proofs.Ytafmmffgenolaaa
structure MV where
  k : Int
  n : Int
  r : Int
  on : Bool
  mo : Bool
  lo : Int
  hi : Int
  la : Int
def MV.ok (m : MV) : Prop := (0 ≤ m.k ∧ m.k < 6) ∧ (0 < m.n ∧ m.n ≤ 512) ∧ (0 ≤ m.r ∧ m.r ≤ 131072) ∧ (0 ≤ m.lo ∧ m.lo < 512) ∧ (0 ≤ m.hi ∧ m.hi < 16) ∧ (0 ≤ m.la ∧ m.la < 256)
def newV (k n r : Int) : MV := ⟨k, n, r, k == 0, false, 1, 0, 255⟩
def someV (n : Int) : Int := if n = 0 then 1 else n
def wrV (m : MV) (a x : Int) : MV :=
  if m.k = 1 then (if a < 8192 then { m with on := x % 16 == 10 } else if a < 16384 then { m with lo := someV (x % 32) } else if a < 24576 then { m with hi := x % 4 } else { m with mo := x % 2 == 1 })
  else if m.k = 2 then (if a < 16384 then (if a / 256 % 2 = 0 then { m with on := x % 16 == 10 } else { m with lo := someV (x % 16) }) else m)
  else if m.k = 3 then (if a < 8192 then { m with on := x % 16 == 10 } else if a < 16384 then { m with lo := someV (x % 128) } else if a < 24576 then { m with hi := x % 16 } else { m with la := x })
  else if m.k = 5 then (if a < 8192 then { m with on := x % 16 == 10 } else if a < 12288 then { m with lo := m.lo / 256 * 256 + x } else if a < 16384 then { m with lo := m.lo % 256 + x % 2 * 256 } else if a < 24576 then { m with hi := x % 16 } else m)
  else m
def heldV (m : MV) (a x : Int) : Bool := m.k == 3 && decide (24576 ≤ a) && m.la == 0 && x == 1
def selV (m : MV) (a : Int) : Int :=
  if a < 16384 then (if m.k = 1 then (if m.mo = true then 32 * m.hi else 0) else 0)
  else if m.k = 0 then 1 else if m.k = 1 then 32 * m.hi + m.lo else if m.k = 2 then m.lo else if m.k = 3 then m.lo else if m.k = 5 then m.lo else 0
def bankV (m : MV) (a : Int) : Int := selV m a % m.n
def romV (m : MV) (a : Int) : Int := 16384 * bankV m (a % 32768) + a % 16384
def offV (m : MV) (a : Int) : Option Int :=
  if m.k = 0 then some (a % 8192) else if m.k = 1 then (if m.mo = true then some (8192 * m.hi + a % 8192) else some (a % 8192))
  else if m.k = 2 then some (a % 512) else if m.k = 3 then (if 3 < m.hi then none else some (8192 * m.hi + a % 8192)) else if m.k = 5 then some (8192 * m.hi + a % 8192) else none
def atV (m : MV) (a : Int) : Option Int :=
  if a < 40960 then none else if 49151 < a then none else if m.on = false then none else if m.r < 1 then none else (offV m a).map (· % m.r)
def clV (m : MV) : Option Int := if m.k = 3 then (if m.on = true then (if m.hi < 8 then none else if 12 < m.hi then none else some (m.hi - 8)) else none) else none
def numV (o : Option Int) : Int := o.getD 0
def isV (o : Option Int) : Bool := o.isSome

theorem some_bd (n b : Int) (h1 : 0 ≤ n) (h2 : n < b) (hb : 2 ≤ b) : 0 ≤ someV n ∧ someV n < b := by
  unfold someV; by_cases h : n = 0
  · rw [if_pos h]; omega
  · rw [if_neg h]; omega
theorem newV_ok {k n r : Int} (hk : 0 ≤ k ∧ k < 6) (hn : 0 < n ∧ n ≤ 512) (hr : 0 ≤ r ∧ r ≤ 131072) : (newV k n r).ok :=
  ⟨hk, hn, hr, by simp [newV], by simp [newV], by simp [newV]⟩
theorem wrV_same (m : MV) (a x : Int) : (wrV m a x).k = m.k ∧ (wrV m a x).n = m.n ∧ (wrV m a x).r = m.r := by
  unfold wrV; repeat' split
  all_goals exact ⟨rfl, rfl, rfl⟩
theorem wrV_ok {m : MV} (h : m.ok) (a x : Int) (hx : 0 ≤ x ∧ x < 256) : (wrV m a x).ok := by
  obtain ⟨h1, h2, h3, h4, h5, h6⟩ := h
  obtain ⟨e1, e2, e3⟩ := wrV_same m a x
  have s16 := some_bd (x % 16) 16 (by omega) (by omega) (by omega)
  have s32 := some_bd (x % 32) 32 (by omega) (by omega) (by omega)
  have s128 := some_bd (x % 128) 128 (by omega) (by omega) (by omega)
  refine ⟨by rw [e1]; exact h1, by rw [e2]; exact h2, by rw [e3]; exact h3, ?_, ?_, ?_⟩
  all_goals (unfold wrV; repeat' split)
  all_goals ((try dsimp only); omega)
theorem selV_bd {m : MV} (h : m.ok) (a : Int) : 0 ≤ selV m a ∧ selV m a < 1024 := by
  obtain ⟨h1, h2, h3, h4, h5, h6⟩ := h
  unfold selV; repeat' split
  all_goals omega
theorem bankV_bd {m : MV} (h : m.ok) (a : Int) : 0 ≤ bankV m a ∧ bankV m a < m.n := by
  have := h.2.1.1
  exact ⟨Int.emod_nonneg _ (by omega), Int.emod_lt_of_pos _ (by omega)⟩

/-! ### Bits -/
theorem byte_all {P : Int → Prop} (h : ∀ n : Fin 256, P (n.val : Int)) (a : Int) (h1 : 0 ≤ a) (h2 : a < 256) : P a := by
  have := h ⟨a.toNat, by omega⟩
  rwa [show ((a.toNat : Nat) : Int) = a by omega] at this
theorem and15 (a : Int) (h1 : 0 ≤ a) (h2 : a < 256) : bits .and .u8 a 15 = a % 16 := byte_all (P := fun a => bits .and .u8 a 15 = a % 16) (by decide +kernel) a h1 h2
theorem and31 (a : Int) (h1 : 0 ≤ a) (h2 : a < 256) : bits .and .u8 a 31 = a % 32 := byte_all (P := fun a => bits .and .u8 a 31 = a % 32) (by decide +kernel) a h1 h2
theorem and127 (a : Int) (h1 : 0 ≤ a) (h2 : a < 256) : bits .and .u8 a 127 = a % 128 := byte_all (P := fun a => bits .and .u8 a 127 = a % 128) (by decide +kernel) a h1 h2
theorem and3 (a : Int) (h1 : 0 ≤ a) (h2 : a < 256) : bits .and .u8 a 3 = a % 4 := byte_all (P := fun a => bits .and .u8 a 3 = a % 4) (by decide +kernel) a h1 h2
theorem and1 (a : Int) (h1 : 0 ≤ a) (h2 : a < 256) : bits .and .u8 a 1 = a % 2 := byte_all (P := fun a => bits .and .u8 a 1 = a % 2) (by decide +kernel) a h1 h2
theorem lo_all {P : Int → Prop} (h : ∀ n : Fin 512, P (n.val : Int)) (a : Int) (h1 : 0 ≤ a) (h2 : a < 512) : P a := by
  have := h ⟨a.toNat, by omega⟩
  rwa [show ((a.toNat : Nat) : Int) = a by omega] at this
theorem lo_hi (a : Int) (h1 : 0 ≤ a) (h2 : a < 512) : bits .andNot .i64 a 255 = a / 256 * 256 := lo_all (P := fun a => bits .andNot .i64 a 255 = a / 256 * 256) (by decide +kernel) a h1 h2
theorem lo_lo (a : Int) (h1 : 0 ≤ a) (h2 : a < 512) : bits .andNot .i64 a 256 = a % 256 := lo_all (P := fun a => bits .andNot .i64 a 256 = a % 256) (by decide +kernel) a h1 h2
theorem or_b (c x : Int) (hc : 0 ≤ c) (hc2 : c < 2) (h1 : 0 ≤ x) (h2 : x < 256) : bits .or .i64 (c * 256) x = c * 256 + x := by
  rcases (by omega : c = 0 ∨ c = 1) with rfl | rfl
  · exact byte_all (P := fun x => bits .or .i64 (0 * 256) x = 0 * 256 + x) (by decide +kernel) x h1 h2
  · exact byte_all (P := fun x => bits .or .i64 (1 * 256) x = 1 * 256 + x) (by decide +kernel) x h1 h2
theorem or_t (c x : Int) (hc : 0 ≤ c) (hc2 : c < 2) (h1 : 0 ≤ x) (h2 : x < 256) : bits .or .i64 x (c * 256) = x + c * 256 := by
  rcases (by omega : c = 0 ∨ c = 1) with rfl | rfl
  · exact byte_all (P := fun x => bits .or .i64 x (0 * 256) = x + 0 * 256) (by decide +kernel) x h1 h2
  · exact byte_all (P := fun x => bits .or .i64 x (1 * 256) = x + 1 * 256) (by decide +kernel) x h1 h2
end Go.Proofs.Ytafmmffgenolaaa
