/-
  Plain data: a board as 70 numbers, and what each call makes of them; no program, no condition.
-/
import Derived.Test.YtonmnpadmphbdaaDoorRows
import Derived.Laws.BitsAllLaws
namespace Go.Proofs.YtonmnpadmphbdaaDoor
set_option linter.unusedVariables false
set_option linter.unusedSimpArgs false
abbrev M := Nat → Int
def upd (m : M) (o : Nat) (x : Int) : M := fun i => if i = o then x else m i
theorem upd_same (m : M) (o : Nat) (x : Int) : upd m o x o = x := if_pos rfl
theorem upd_ne (m : M) (o : Nat) (x : Int) (i : Nat) (h : i ≠ o) : upd m o x i = m i := if_neg h
theorem upd_upd (m : M) (o : Nat) (x y : Int) : upd (upd m o x) o y = upd m o y := by
  funext i
  unfold upd
  split <;> rfl
def isB (o : Nat) : Bool := o == 48 || o == 69 || (decide (51 ≤ o) && decide (o < 67) && (o - 51) % 4 == 0)
def mk (o : Nat) (x : Int) : Value := if o < 48 then .int .u8 x else if isB o = true then .bool (decide (x = 1)) else .int .i64 x
/-- A board's cells. -/
def enc (m : M) : Array Value := Array.ofFn (n := 70) fun i => mk i.val (m i.val)
def tf (z : Bool) : Int := if z then 1 else 0
theorem tf_dec (z : Bool) : decide (tf z = 1) = z := by cases z <;> rfl
theorem enc_size (m : M) : (enc m).size = 70 := by simp [enc]
theorem enc_get (m : M) (o : Nat) (h : o < 70) : (enc m)[o]? = some (mk o (m o)) := by simp [enc, h]
theorem enc_u8 (m : M) (o : Nat) (h : o < 48) : (enc m)[o]? = some (.int .u8 (m o)) := by rw [enc_get m o (by omega), mk, if_pos h]
theorem enc_b (m : M) (o : Nat) (h : isB o = true) (h2 : o < 70) : (enc m)[o]? = some (.bool (decide (m o = 1))) := by
  have h3 : ¬ o < 48 := fun hk => by unfold isB at h; simp at h; omega
  rw [enc_get m o h2, mk, if_neg h3, if_pos h]
theorem enc_i (m : M) (o : Nat) (h : isB o = false) (h1 : ¬ o < 48) (h2 : o < 70) : (enc m)[o]? = some (.int .i64 (m o)) := by
  rw [enc_get m o h2, mk, if_neg h1, h]; rfl
theorem enc_set (m : M) (o : Nat) (x : Int) (h : o < 70) : (enc m).setIfInBounds o (mk o x) = enc (upd m o x) := by
  apply Array.ext_getElem?
  intro i
  by_cases hi : i < 70
  · by_cases e : o = i
    · subst e
      rw [Array.getElem?_setIfInBounds_self, enc_get _ _ hi, upd_same]
      simp [enc_size, hi]
    · rw [Array.getElem?_setIfInBounds_ne e, enc_get _ _ hi, enc_get _ _ hi, upd_ne _ _ _ _ (fun h => e h.symm)]
  · rw [Array.getElem?_eq_none (by simp [enc_size]; omega), Array.getElem?_eq_none (by simp [enc_size]; omega)]
theorem enc_set_u8 (m : M) (o : Nat) (x : Int) (h : o < 48) : (enc m).setIfInBounds o (.int .u8 x) = enc (upd m o x) := by
  rw [← enc_set m o x (by omega), mk, if_pos h]
theorem enc_set_b (m : M) (o : Nat) (z : Bool) (h : isB o = true) (h2 : o < 70) : (enc m).setIfInBounds o (.bool z) = enc (upd m o (tf z)) := by
  have h3 : ¬ o < 48 := fun hk => by unfold isB at h; simp at h; omega
  rw [← enc_set m o (tf z) h2, mk, if_neg h3, if_pos h, tf_dec]
theorem enc_set_i (m : M) (o : Nat) (x : Int) (h : isB o = false) (h1 : ¬ o < 48) (h2 : o < 70) : (enc m).setIfInBounds o (.int .i64 x) = enc (upd m o x) := by
  rw [← enc_set m o x h2, mk, if_neg h1, h]; rfl
theorem mk_one (o : Nat) (x : Int) : (mk o x).oneCell' = true := by
  unfold mk
  split
  · rfl
  · split <;> rfl
theorem enc_one (m : M) : (enc m).all (·.oneCell') = true := by
  rw [Array.all_eq_true]
  intro i hi
  simp [enc, mk_one]
attribute [irreducible] enc
theorem isB_on (v : Nat) (h : v < 4) : isB (51 + v * 4) = true := by
  unfold isB
  have h1 : (51 + v * 4 - 51) % 4 = 0 := by omega
  have h2 : 51 + v * 4 < 67 := by omega
  simp [h1, h2]
theorem isB_no (v j : Nat) (h : v < 4) (h1 : 0 < j) (h2 : j < 4) : isB (51 + v * 4 + j) = false := by
  unfold isB
  have h3 : ¬ (51 + v * 4 + j - 51) % 4 = 0 := by omega
  have h4 : ¬ 51 + v * 4 + j = 48 := by omega
  have h5 : ¬ 51 + v * 4 + j = 69 := by omega
  simp [h3, h4, h5]

def readyV (m : M) (v : Nat) : Bool := if v = 2 then decide (128 ≤ m 10) else decide (8 ≤ m (v * 5 + 2))
def maxV (v : Nat) : Int := if v = 2 then 256 else 64
def perV (m : M) : Int := m 0 / 16 % 8
def shV (m : M) : Int := m 0 % 8
def timeV (m : M) : Int := if perV m = 0 then 8 else perV m
def byV (m : M) : Int := m 67 / 2 ^ (shV m).toNat
def nextV (m : M) : Int := if m 0 / 8 % 2 = 1 then m 67 - byV m else m 67 + byV m
def stopV (m : M) : M := if nextV m ≤ 2047 then m else upd m 51 0
def movedV (m : M) : M := upd (upd (upd m 67 (nextV m)) 3 (nextV m % 256)) 4 (m 4 / 8 * 8 + nextV m / 256 % 8)
def slideV (m : M) : M := if nextV m ≤ 2047 then (if shV m = 0 then m else stopV (movedV m)) else upd m 51 0
def cslV (m : M) : M := if 1 < m 68 then upd m 68 (m 68 - 1) else if perV m = 0 then upd m 68 (timeV m) else slideV (upd m 68 (timeV m))
def sh1V (m : M) (v : Nat) : M :=
  if m (v * 5 + 4) / 64 % 2 = 0 ∨ m (51 + v * 4 + 1) ≤ 0 then m
  else if m (51 + v * 4 + 1) - 1 = 0 then upd (upd m (51 + v * 4 + 1) (m (51 + v * 4 + 1) - 1)) (51 + v * 4) 0 else upd m (51 + v * 4 + 1) (m (51 + v * 4 + 1) - 1)
def shN (m : M) : Nat → M
  | 0 => m
  | t + 1 => sh1V (shN m t) t
def lev1V (m : M) (v : Nat) (x : Int) : M :=
  if x % 8 = 0 then m
  else if 1 < m (51 + v * 4 + 3) then upd m (51 + v * 4 + 3) (m (51 + v * 4 + 3) - 1)
  else if x / 8 % 2 = 1 then (if m (51 + v * 4 + 2) < 15 then upd (upd m (51 + v * 4 + 3) (x % 8)) (51 + v * 4 + 2) (m (51 + v * 4 + 2) + 1) else upd m (51 + v * 4 + 3) (x % 8))
  else (if 0 < m (51 + v * 4 + 2) then upd (upd m (51 + v * 4 + 3) (x % 8)) (51 + v * 4 + 2) (m (51 + v * 4 + 2) - 1) else upd m (51 + v * 4 + 3) (x % 8))
def levN (m : M) : Nat → M
  | 0 => m
  | t + 1 => if t = 2 then levN m t else lev1V (levN m t) t (levN m t (t * 5 + 2))
def perfV (m : M) : M :=
  if m 50 = 0 ∨ m 50 = 4 then shN m 4
  else if m 50 = 2 ∨ m 50 = 6 then (if shN m 4 69 = 1 then cslV (shN m 4) else shN m 4)
  else if m 50 = 7 then levN m 4 else m
def beatV (m : M) : M := upd (perfV (upd m 49 0)) 50 ((perfV (upd m 49 0) 50 + 1) % 8)
def tickV (m : M) : M := if m 48 = 1 then (if m 49 + 1 = 2048 then beatV m else upd m 49 (m 49 + 1)) else m
def offV (m : M) : M := fun o => if o < 22 then 0 else if o < 48 then m o else if o = 49 then m 49 else if o = 50 then m 50 else 0
def onV (m : M) : M := upd (if m 48 = 1 then m else upd (upd m 49 0) 50 0) 48 1
def stopU (m : M) (v : Nat) : M := if readyV m v = true then m else upd m (51 + v * 4) 0
def loadV (m : M) (v : Nat) : M := upd m (51 + v * 4 + 1) (maxV v - (if v = 2 then m (v * 5 + 1) else m (v * 5 + 1) % 64))
def beginV (m : M) : M :=
  let m1 := upd m 67 (m 4 % 8 * 256 + m 3)
  let m2 := upd m1 68 (timeV m)
  let m3 := upd m2 69 (if perV m = 0 ∧ shV m = 0 then 0 else 1)
  if shV m = 0 then m3 else stopV m3
def trigV (m : M) (v : Nat) : M :=
  let m1 := upd m (51 + v * 4) (tf (readyV m v))
  let m2 := if m (51 + v * 4 + 1) = 0 then upd m1 (51 + v * 4 + 1) (maxV v) else m1
  let m3 := upd m2 (51 + v * 4 + 2) (m (v * 5 + 2) / 16)
  let m4 := upd m3 (51 + v * 4 + 3) (m (v * 5 + 2) % 8)
  if v = 0 then beginV m4 else m4
def followV (m : M) (v n : Nat) : M :=
  if n = 0 then (if v = 2 then stopU m v else m)
  else if n = 1 then loadV m v
  else if n = 2 then stopU m v
  else if n = 4 then (if 128 ≤ m (v * 5 + 4) then trigV m v else m) else m
def putV (m : M) (n : Nat) (x : Int) : M := if n / 5 < 4 then followV (upd m n x) (n / 5) (n % 5) else upd m n x
def writeV (m : M) (n x : Int) : M :=
  if n = 22 then (if 128 ≤ x then onV m else offV m)
  else if n < 0 ∨ 48 ≤ n ∨ (¬ m 48 = 1 ∧ n < 32) then m else putV m n.toNat x
end Go.Proofs.YtonmnpadmphbdaaDoor
