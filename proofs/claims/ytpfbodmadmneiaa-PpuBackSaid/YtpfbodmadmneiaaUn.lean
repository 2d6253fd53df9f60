/-
  Plain data: a unit as 31407 numbers; the cells of the program's unit, of the document's, and of the document's two memories; what they are at first: no program, no condition.
-/
import Derived.Test.YtpfbodmadmneiaaPure
import Derived.Test.YtpfbodmadmneiaaVp
import Derived.Test.YtpfbodmadmneiaaSpr
namespace Go.Proofs.Ytpfbodmadmneiaa
open Go.ChangeShapes Go.WideShapes Go.ChangeAt Go.RowKit
set_option linter.unusedVariables false
set_option linter.unusedSimpArgs false
/-- What a cell of the program's unit holds. -/
def ucell (o : Nat) (x : Int) : Value := if o = 8365 then .int .u16 x else if o = 8366 then .bool (decide (x ≠ 0)) else .int .u8 x
def encU (m : M) : Array Value := Array.ofFn (n := 31407) fun i => ucell i.val (m i.val)
theorem encU_size (m : M) : (encU m).size = 31407 := by simp [encU]
theorem encU_get (m : M) (o : Nat) (h : o < 31407) : (encU m)[o]? = some (ucell o (m o)) := by simp [encU, h]
/-- Cells by their places: an array of n cells, of which just one is written. -/
theorem ofFn_set {n : Nat} (f g : Fin n → Value) (o : Nat) (h : o < n) (hg : ∀ i : Fin n, g i = if i.val = o then g ⟨o, h⟩ else f i) : (Array.ofFn f).setIfInBounds o (g ⟨o, h⟩) = Array.ofFn g := by
  apply Array.ext_getElem?
  intro i
  by_cases hi : i < n
  · by_cases e : o = i
    · subst e
      rw [Array.getElem?_setIfInBounds_self]
      simp [hi]
    · rw [Array.getElem?_setIfInBounds_ne e]
      have h1 : (Array.ofFn f)[i]? = some (f ⟨i, hi⟩) := by simp [hi]
      have h2 : (Array.ofFn g)[i]? = some (g ⟨i, hi⟩) := by simp [hi]
      rw [h1, h2, hg ⟨i, hi⟩, if_neg (fun h => e h.symm)]
  · rw [Array.getElem?_eq_none (by simp; omega), Array.getElem?_eq_none (by simp; omega)]
theorem encU_set (m : M) (o : Nat) (x : Int) (h : o < 31407) : (encU m).setIfInBounds o (ucell o x) = encU (upd m o x) := by
  have := ofFn_set (n := 31407) (fun i => ucell i.val (m i.val)) (fun i => ucell i.val (upd m o x i.val)) o h (fun i => by
    by_cases e : i.val = o
    · rw [if_pos e]; simp [e]
    · rw [if_neg e]; simp [upd, e])
  simpa [encU, upd] using this
theorem ucell_u (o : Nat) (x : Int) (h1 : o ≠ 8365) (h2 : o ≠ 8366) : ucell o x = .int .u8 x := by simp [ucell, h1, h2]
theorem encU_u (m : M) (o : Nat) (h : o < 31407) (h1 : o ≠ 8365) (h2 : o ≠ 8366) : (encU m)[o]? = some (.int .u8 (m o)) := by rw [encU_get m o h, ucell_u o _ h1 h2]
theorem encU_f (m : M) : (encU m)[8365]? = some (.int .u16 (m 8365)) := by rw [encU_get m 8365 (by decide)]; rfl
theorem encU_s (m : M) : (encU m)[8366]? = some (.bool (decide (m 8366 ≠ 0))) := by rw [encU_get m 8366 (by decide)]; rfl
/-- One for true, zero for false. -/
def tf (b : Bool) : Int := if b then 1 else 0
theorem tf_dec (b : Bool) : decide (tf b ≠ 0) = b := by cases b <;> decide
theorem ucell_s (b : Bool) : ucell 8366 (tf b) = .bool b := by cases b <;> rfl
/-- A row of n numbers from k on is written. -/
def row (m : M) (k n : Nat) (r : M) : M := fun o => if k ≤ o ∧ o < k + n then r (o - k) else m o
theorem row_out (m : M) (k n : Nat) (r : M) (o : Nat) (h : o < k ∨ k + n ≤ o) : row m k n r o = m o := by unfold row; rw [if_neg (by omega)]
theorem row_in (m : M) (k n : Nat) (r : M) (o : Nat) (h : k ≤ o) (h2 : o < k + n) : row m k n r o = r (o - k) := by unfold row; rw [if_pos ⟨h, h2⟩]
/-- The document's places: of its lines R[4] and R[6] are never written. -/
def rp (o : Nat) : Nat := if o < 6 then 8350 + o else if o = 7 then 8357 else if o < 14 then 8349 + o else if o = 14 then 8356 else 8348 + o
def rcell (o : Nat) (x : Int) : Value := if 14 ≤ o ∧ o ≤ 17 then .int .i64 x else if o = 18 then .bool (decide (x ≠ 0)) else .int .u8 x
def encR (v s : Nat) (m : M) : Array Value := Array.ofFn (n := 23059) fun i => if i.val = 0 then .slice (some ⟨v, 0, none⟩) 8192 8192 else if i.val = 1 then .slice (some ⟨s, 0, none⟩) 160 160 else if i.val = 6 ∨ i.val = 8 then .int .u8 0 else rcell i.val (m (rp i.val))
theorem encR_size (v s : Nat) (m : M) : (encR v s m).size = 23059 := by simp [encR]
theorem ofFn_get {n : Nat} (f : Fin n → Value) (o : Nat) (h : o < n) : (Array.ofFn f)[o]? = some (f ⟨o, h⟩) := by simp [h]
theorem encR_V (v s : Nat) (m : M) : (encR v s m)[0]? = some (.slice (some ⟨v, 0, none⟩) 8192 8192) := (ofFn_get _ 0 (by decide)).trans (congrArg some (if_pos rfl))
theorem encR_S (v s : Nat) (m : M) : (encR v s m)[1]? = some (.slice (some ⟨s, 0, none⟩) 160 160) := (ofFn_get _ 1 (by decide)).trans (congrArg some ((if_neg (by decide)).trans (if_pos rfl)))
theorem encR_z (v s : Nat) (m : M) (o : Nat) (h : o = 6 ∨ o = 8) : (encR v s m)[o]? = some (.int .u8 0) := by
  have h1 : o < 23059 := by omega
  have h2 : ¬ o = 0 := by omega
  have h3 : ¬ o = 1 := by omega
  exact (ofFn_get _ o h1).trans (congrArg some ((if_neg h2).trans ((if_neg h3).trans (if_pos h))))
theorem encR_get (v s : Nat) (m : M) (o : Nat) (h0 : 2 ≤ o) (h : o < 23059) (h6 : o ≠ 6) (h8 : o ≠ 8) : (encR v s m)[o]? = some (rcell o (m (rp o))) := by
  have e0 : o ≠ 0 := by omega
  have e1 : o ≠ 1 := by omega
  simp [encR, h, h6, h8, e0, e1]
theorem rp_inj {o k : Nat} (h0 : 2 ≤ o) (h6 : o ≠ 6) (h8 : o ≠ 8) (k0 : 2 ≤ k) (k6 : k ≠ 6) (k8 : k ≠ 8) (h : rp o = rp k) : o = k := by
  unfold rp at h
  repeat' split at h
  all_goals omega
theorem encR_set (v s : Nat) (m : M) (o : Nat) (x : Int) (h0 : 2 ≤ o) (h : o < 23059) (h6 : o ≠ 6) (h8 : o ≠ 8) : (encR v s m).setIfInBounds o (rcell o x) = encR v s (upd m (rp o) x) := by
  have e0 : o ≠ 0 := by omega
  have e1 : o ≠ 1 := by omega
  have := ofFn_set (n := 23059) (fun i => if i.val = 0 then .slice (some ⟨v, 0, none⟩) 8192 8192 else if i.val = 1 then .slice (some ⟨s, 0, none⟩) 160 160 else if i.val = 6 ∨ i.val = 8 then .int .u8 0 else rcell i.val (m (rp i.val)))
    (fun i => if i.val = 0 then .slice (some ⟨v, 0, none⟩) 8192 8192 else if i.val = 1 then .slice (some ⟨s, 0, none⟩) 160 160 else if i.val = 6 ∨ i.val = 8 then .int .u8 0 else rcell i.val (upd m (rp o) x (rp i.val))) o h (fun i => by
    by_cases e : i.val = o
    · rw [if_pos e]; simp [e]
    · rw [if_neg e]
      by_cases a0 : i.val = 0
      · simp [a0]
      by_cases a1 : i.val = 1
      · simp [a1]
      by_cases a6 : i.val = 6
      · simp [a6]
      by_cases a8 : i.val = 8
      · simp [a8]
      have : rp i.val ≠ rp o := fun q => e (rp_inj (by omega) a6 a8 h0 h6 h8 q)
      simp [upd, this, a0, a1, a6, a8])
  simpa [encR, upd, e0, e1, h6, h8] using this
theorem encR_far (v s : Nat) (m : M) (o : Nat) (x : Int) (h : o < 8352) : encR v s (upd m o x) = encR v s m := by
  unfold encR
  congr 1
  funext i
  by_cases a0 : i.val = 0
  · simp [a0]
  by_cases a1 : i.val = 1
  · simp [a1]
  by_cases a6 : i.val = 6
  · simp [a6]
  by_cases a8 : i.val = 8
  · simp [a8]
  have : rp i.val ≠ o := by
    unfold rp
    repeat' split
    all_goals omega
  simp [upd, this, a0, a1, a6, a8]
/-- The document's memories. -/
def encV (m : M) : Array Value := Array.ofFn (n := 8192) fun i => .int .u8 (m i.val)
def encS (m : M) : Array Value := Array.ofFn (n := 160) fun i => .int .u8 (m (8192 + i.val))
theorem encV_size (m : M) : (encV m).size = 8192 := by simp [encV]
theorem encS_size (m : M) : (encS m).size = 160 := by simp [encS]
theorem encV_get (m : M) (o : Nat) (h : o < 8192) : (encV m)[o]? = some (.int .u8 (m o)) := by simp [encV, h]
theorem encS_get (m : M) (o : Nat) (h : o < 160) : (encS m)[o]? = some (.int .u8 (m (8192 + o))) := by simp [encS, h]
theorem encV_set (m : M) (o : Nat) (x : Int) (h : o < 8192) : (encV m).setIfInBounds o (.int .u8 x) = encV (upd m o x) := by
  have := ofFn_set (n := 8192) (fun i => .int .u8 (m i.val)) (fun i => .int .u8 (upd m o x i.val)) o h (fun i => by
    by_cases e : i.val = o
    · rw [if_pos e]; simp [e]
    · rw [if_neg e]; simp [upd, e])
  simpa [encV, upd] using this
theorem encS_set (m : M) (o : Nat) (x : Int) (h : o < 160) : (encS m).setIfInBounds o (.int .u8 x) = encS (upd m (8192 + o) x) := by
  have := ofFn_set (n := 160) (fun i => .int .u8 (m (8192 + i.val))) (fun i => .int .u8 (upd m (8192 + o) x (8192 + i.val))) o h (fun i => by
    by_cases e : i.val = o
    · rw [if_pos e]; simp [e]
    · rw [if_neg e]; simp [upd, e])
  simpa [encS, upd] using this
theorem encV_far (m : M) (o : Nat) (x : Int) (h : 8192 ≤ o) : encV (upd m o x) = encV m := by
  unfold encV
  congr 1
  funext i
  have : i.val ≠ o := by omega
  simp [upd, this]
theorem encS_far (m : M) (o : Nat) (x : Int) (h : o < 8192 ∨ 8352 ≤ o) : encS (upd m o x) = encS m := by
  unfold encS
  congr 1
  funext i
  have : 8192 + i.val ≠ o := by omega
  simp [upd, this]
theorem encV_row (m : M) (k n : Nat) (r : M) (h : 8192 ≤ k) : encV (row m k n r) = encV m := by
  unfold encV
  congr 1
  funext i
  rw [row_out _ _ _ _ _ (by omega)]
theorem encS_row (m : M) (k n : Nat) (r : M) (h : 8352 ≤ k) : encS (row m k n r) = encS m := by
  unfold encS
  congr 1
  funext i
  rw [row_out _ _ _ _ _ (by omega)]
/-- What a new unit is. -/
def zU : Value → Bool
  | .int .u8 n => n == 0
  | _ => false
def zW : Value → Bool
  | .int .u16 n => n == 0
  | _ => false
def zI : Value → Bool
  | .int .i64 n => n == 0
  | _ => false
def zB : Value → Bool
  | .bool b => !b
  | _ => false
def runs (p : Value → Bool) : Nat → List Value → List Value
  | 0, l => l
  | _ + 1, [] => []
  | n + 1, v :: r => match p v with
    | true => runs p n r
    | false => []
def endsU : List Value → Bool
  | [] => true
  | v :: r => match zU v with
    | true => endsU r
    | false => false
theorem zU_out {v : Value} (h : zU v = true) : v = .int .u8 0 := by
  unfold zU at h
  split at h
  · simp at h; rw [h]
  · cases h
theorem zW_out {v : Value} (h : zW v = true) : v = .int .u16 0 := by
  unfold zW at h
  split at h
  · simp at h; rw [h]
  · cases h
theorem zI_out {v : Value} (h : zI v = true) : v = .int .i64 0 := by
  unfold zI at h
  split at h
  · simp at h; rw [h]
  · cases h
theorem zB_out {v : Value} (h : zB v = true) : v = .bool false := by
  unfold zB at h
  split at h
  · simp at h; rw [h]
  · cases h
theorem endsU_out : ∀ (l : List Value), endsU l = true → ∀ i, i < l.length → l[i]? = some (.int .u8 0)
  | [], _, i, hi => by simp at hi
  | v :: r, h, i, hi => by
    unfold endsU at h
    cases hz : zU v with
    | false => rw [hz] at h; simp at h
    | true =>
      rw [hz] at h
      cases i with
      | zero => simp [zU_out hz]
      | succ i => simpa using endsU_out r (by simpa using h) i (by simpa using hi)
theorem runs_out (p : Value → Bool) (x : Value) (hp : ∀ v, p v = true → v = x) : ∀ (n : Nat) (l : List Value), runs p n l ≠ [] → l.take n = List.replicate n x ∧ runs p n l = l.drop n
  | 0, l, _ => by simp [runs]
  | n + 1, [], h => absurd rfl h
  | n + 1, v :: r, h => by
    unfold runs at h ⊢
    cases hz : p v with
    | false => rw [hz] at h; simp at h
    | true =>
      rw [hz] at h
      have := runs_out p x hp n r (by simpa using h)
      simp [this.1, this.2, hp v hz, List.replicate_succ]
theorem rep_get (n : Nat) (x a b : Value) (r : List Value) (i : Nat) : (List.replicate n x ++ a :: b :: r)[i]? = if i < n then some x else (a :: b :: r)[i - n]? := by
  by_cases h : i < n
  · rw [if_pos h, List.getElem?_append_left (by simp; exact h)]; simp [h]
  · rw [if_neg h, List.getElem?_append_right (by simp; omega)]; simp
theorem rep_len (n : Nat) (x a b : Value) (r : List Value) : (List.replicate n x ++ a :: b :: r).length = n + (r.length + 2) := by simp
theorem go61 : (match runs zU 8365 Try.zeroCells61.toList with | a :: b :: r => (zW a && zB b) && endsU r | _ => false) = true := by kernel_rfl
theorem go39 : (match Try.zeroCells39.toList with | a :: b :: r => (match runs zU 12 r with | c :: d :: e :: f :: g :: q => ((zI c && zI d) && (zI e && zI f)) && (zB g && endsU q) | _ => false) | _ => false) = true := by kernel_rfl
theorem z61 : Try.zeroCells61 = encU zeroM := by
  have h := go61
  have hs := Try.zeroCells61_size
  generalize Try.zeroCells61 = A at h hs
  obtain ⟨l⟩ := A
  simp only [List.size_toArray] at hs
  dsimp only at h
  split at h
  · rename_i a b r hr
    obtain ⟨h1, h2⟩ := runs_out zU _ (fun v hv => zU_out hv) 8365 l (by rw [hr]; simp)
    simp only [Bool.and_eq_true] at h
    obtain ⟨⟨ha, hb⟩, he⟩ := h
    have hl : l = List.replicate 8365 (.int .u8 0) ++ (.int .u16 0 :: .bool false :: r) := by
      rw [← h1, ← zW_out ha, ← zB_out hb, ← hr, h2, List.take_append_drop]
    have hlen : r.length = 23040 := by
      have := congrArg List.length hl
      rw [rep_len, hs] at this
      omega
    apply Array.ext_getElem?
    intro i
    by_cases hi : i < 31407
    · rw [encU_get _ i hi]
      have e := endsU_out r he
      rw [List.getElem?_toArray, hl, rep_get]
      by_cases h3 : i < 8365
      · rw [if_pos h3, ucell_u i _ (by omega) (by omega)]
        rfl
      · rw [if_neg h3]
        obtain ⟨j, rfl⟩ : ∃ j, i = 8365 + j := ⟨i - 8365, by omega⟩
        rw [Nat.add_sub_cancel_left]
        match j with
        | 0 => rfl
        | 1 => rfl
        | j + 2 =>
          rw [ucell_u _ _ (by omega) (by omega)]
          exact e j (by omega)
    · rw [Array.getElem?_eq_none (by rw [List.size_toArray, hs]; omega), Array.getElem?_eq_none (by rw [encU_size]; omega)]
  · cases h
attribute [irreducible] encU
attribute [irreducible] encR
attribute [irreducible] encV
attribute [irreducible] encS
end Go.Proofs.Ytpfbodmadmneiaa
