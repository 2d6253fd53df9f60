/-
  A cartridge's header as plain data: its two sums, what its bytes select, its title, the first error; and how they hang on the bytes. No condition beyond those that each statement names.
-/
namespace Go.Proofs.YtifhajdcfjiaiaaDoor
/-- The bytes f with x at the place a. -/
def upd (f : Nat → Int) (a : Nat) (x : Int) : Nat → Int := fun k => if k = a then x else f k
theorem upd_same (f : Nat → Int) (a : Nat) (x : Int) : upd f a x a = x := if_pos rfl
theorem upd_far (f : Nat → Int) (a : Nat) (x : Int) (k : Nat) (h : k ≠ a) : upd f a x k = f k := if_neg h
def okB (f : Nat → Int) : Prop := ∀ i, 0 ≤ f i ∧ f i < 256
theorem okB.upd {f : Nat → Int} (h : okB f) (a : Nat) (x : Int) (h0 : 0 ≤ x) (h1 : x < 256) : okB (upd f a x) := fun i => by
  unfold YtifhajdcfjiaiaaDoor.upd; split
  · exact ⟨h0, h1⟩
  · exact h i
/-- The header's sum over its first k bytes. -/
def chk (f : Nat → Int) : Nat → Int
  | 0 => 0
  | k + 1 => (chk f k - f (308 + k) - 1) % 256
theorem chk_bd (f : Nat → Int) : ∀ k, 0 ≤ chk f k ∧ chk f k < 256
  | 0 => by simp [chk]
  | k + 1 => by unfold chk; omega
theorem chk_congr {f g : Nat → Int} : ∀ k, (∀ i, i < k → f (308 + i) = g (308 + i)) → chk f k = chk g k
  | 0, _ => rfl
  | k + 1, h => by unfold chk; rw [chk_congr k (fun i hi => h i (by omega)), h k (by omega)]
/-- One byte that is by more: the sum is by less. -/
theorem chk_one {x : Int} (f : Nat → Int) (a : Nat) (d : Int) (h : f (308 + a) + d = x ∨ f (308 + a) + d - 256 = x) : ∀ k, chk (upd f (308 + a) x) k = if a < k then (chk f k - d) % 256 else chk f k
  | 0 => by simp [chk]
  | k + 1 => by
    have ih := chk_one f a d h k
    unfold chk
    rw [ih]
    by_cases e : k = a
    · subst e
      rw [upd_same, if_neg (by omega), if_pos (by omega)]
      omega
    · rw [upd_far _ _ _ _ (by omega)]
      by_cases h2 : a < k
      · rw [if_pos h2, if_pos (by omega)]; omega
      · rw [if_neg h2, if_neg (by omega)]
def tot (f : Nat → Int) (i : Nat) : Nat → Int
  | 0 => 0
  | k + 1 => (tot f i k + f (i + k)) % 65536
theorem tot_bd (f : Nat → Int) (i : Nat) : ∀ k, 0 ≤ tot f i k ∧ tot f i k < 65536
  | 0 => by simp [tot]
  | k + 1 => by unfold tot; omega
theorem tot_congr {f g : Nat → Int} (a : Nat) : ∀ k, (∀ i, i < k → f (a + i) = g (a + i)) → tot f a k = tot g a k
  | 0, _ => rfl
  | k + 1, h => by unfold tot; rw [tot_congr a k (fun i hi => h i (by omega)), h k (by omega)]
theorem tot_one (f : Nat → Int) (i a : Nat) (x : Int) : ∀ k, tot (upd f (i + a) x) i k = if a < k then (tot f i k - f (i + a) + x) % 65536 else tot f i k
  | 0 => by simp [tot]
  | k + 1 => by
    have ih := tot_one f i a x k
    unfold tot
    rw [ih]
    by_cases e : k = a
    · subst e
      rw [upd_same, if_neg (by omega), if_pos (by omega)]
      omega
    · rw [upd_far _ _ _ _ (by omega)]
      by_cases h2 : a < k
      · rw [if_pos h2, if_pos (by omega)]; omega
      · rw [if_neg h2, if_neg (by omega)]
/-- The document's sum, over the first k bytes. -/
def rs (f : Nat → Int) : Nat → Int
  | 0 => 0
  | k + 1 => if k = 334 ∨ k = 335 then rs f k else (rs f k + f k) % 65536
theorem rs_bd (f : Nat → Int) : ∀ k, 0 ≤ rs f k ∧ rs f k < 65536
  | 0 => by simp [rs]
  | k + 1 => by unfold rs; split; exact rs_bd f k; omega
theorem rs_low (f : Nat → Int) : ∀ k, k ≤ 334 → rs f k = tot f 0 k
  | 0, _ => rfl
  | k + 1, h => by unfold rs tot; rw [if_neg (by omega), rs_low f k (by omega), Nat.zero_add]
theorem rs_high (f : Nat → Int) : ∀ m, rs f (336 + m) = (tot f 0 334 + tot f 336 m) % 65536
  | 0 => by
    have e : rs f 336 = rs f 334 := by rw [rs, if_pos (by omega), rs, if_pos (by omega)]
    show rs f 336 = _
    rw [e, rs_low f 334 (by omega)]
    have := tot_bd f 0 334
    have e0 : tot f 336 0 = 0 := rfl
    rw [e0]
    omega
  | m + 1 => by
    show rs f (336 + m + 1) = _
    rw [rs, if_neg (by omega), rs_high f m, show tot f 336 (m + 1) = (tot f 336 m + f (336 + m)) % 65536 from rfl]
    omega
def chkV (n : Nat) (f : Nat → Int) : Int := if n < 336 then 0 else chk f 25
def sumV (n : Nat) (f : Nat → Int) : Int := if n < 336 then 0 else (tot f 0 334 + tot f 336 (n - 336)) % 65536
theorem rs_sum (n : Nat) (f : Nat → Int) (h : 336 ≤ n) : rs f n = sumV n f := by
  unfold sumV
  rw [if_neg (by omega), ← rs_high, Nat.add_sub_cancel' h]
theorem sumV_bd (n : Nat) (f : Nat → Int) : 0 ≤ sumV n f ∧ sumV n f < 65536 := by unfold sumV; split; decide; omega
theorem chkV_bd (n : Nat) (f : Nat → Int) : 0 ≤ chkV n f ∧ chkV n f < 256 := by unfold chkV; split; decide; exact chk_bd f 25
def kindV (b : Int) : Int := if b = 0 ∨ b = 8 ∨ b = 9 then 0 else if b = 1 ∨ b = 2 ∨ b = 3 then 1 else if b = 5 ∨ b = 6 then 2 else if 15 ≤ b ∧ b ≤ 19 then 3 else if 25 ≤ b ∧ b ≤ 30 then 5 else -1
def clockV (b : Int) : Bool := b == 15 || b == 16
def battV (b : Int) : Bool := b == 3 || b == 6 || b == 9 || b == 15 || b == 16 || b == 19 || b == 27 || b == 30
def bankV (b : Int) : Int := 2 ^ (b.toNat + 1)
def ramT (r : Int) : Int := if r = 1 then 2048 else if r = 2 then 8192 else if r = 3 then 32768 else if r = 4 then 131072 else if r = 5 then 65536 else 0
def ramV (k r : Int) : Int := if k = 2 then 512 else ramT r
def shown (x : Int) : Int := if x < 32 ∨ 126 < x then 63 else x
/-- How many of k bytes from i on stand ahead of the first 0. -/
def zl (f : Nat → Int) (i : Nat) : Nat → Nat
  | 0 => 0
  | k + 1 => if f i = 0 then 0 else zl f (i + 1) k + 1
theorem zl_le (f : Nat → Int) : ∀ k i, zl f i k ≤ k
  | 0, _ => Nat.le_refl _
  | k + 1, i => by unfold zl; split; omega; have := zl_le f k (i + 1); omega
theorem zl_nz (f : Nat → Int) : ∀ k i j, j < zl f i k → f (i + j) ≠ 0
  | 0, _, _, h => by simp [zl] at h
  | k + 1, i, j, h => by
    unfold zl at h
    by_cases e : f i = 0
    · rw [if_pos e] at h; omega
    · rw [if_neg e] at h
      cases j with
      | zero => exact e
      | succ j => have := zl_nz f k (i + 1) j (by omega); rwa [show i + 1 + j = i + (j + 1) by omega] at this
theorem zl_z (f : Nat → Int) : ∀ k i, zl f i k < k → f (i + zl f i k) = 0
  | 0, _, h => by omega
  | k + 1, i, h => by
    unfold zl at h ⊢
    by_cases e : f i = 0
    · rw [if_pos e]; exact e
    · rw [if_neg e] at h ⊢
      have := zl_z f k (i + 1) (by omega)
      rwa [show i + 1 + zl f (i + 1) k = i + (zl f (i + 1) k + 1) by omega] at this
theorem zl_congr {f g : Nat → Int} : ∀ k i, (∀ j, j < k → f (i + j) = g (i + j)) → zl f i k = zl g i k
  | 0, _, _ => rfl
  | k + 1, i, h => by
    unfold zl
    have e0 : f i = g i := h 0 (by omega)
    have e1 : zl f (i + 1) k = zl g (i + 1) k := zl_congr k (i + 1) (fun j hj => by have := h (j + 1) (by omega); rwa [show i + 1 + j = i + (j + 1) by omega])
    rw [e0, e1]
def byteOf (x : Int) : UInt8 := UInt8.ofNat x.toNat
def titL (f : Nat → Int) (k : Nat) : List UInt8 := (List.range k).map (fun j => byteOf (shown (f (308 + j))))
def titS (f : Nat → Int) (k : Nat) : ByteArray := ⟨(titL f k).toArray⟩
theorem titL_succ (f : Nat → Int) (k : Nat) : titL f (k + 1) = titL f k ++ [byteOf (shown (f (308 + k)))] := by
  unfold titL; rw [List.range_succ, List.map_append]; rfl
theorem titL_congr {f g : Nat → Int} (k : Nat) (h : ∀ j, j < k → f (308 + j) = g (308 + j)) : titL f k = titL g k := by
  unfold titL
  exact List.map_congr_left (fun j hj => by rw [h j (List.mem_range.1 hj)])
structure HV where
  t : ByteArray
  k : Int
  c : Bool
  b : Bool
  n : Int
  r : Int
  w : Bool
def noH : HV := ⟨ByteArray.empty, 0, false, false, 0, 0, false⟩
/-- The first error, or 0. -/
def perr (n : Nat) (f : Nat → Int) : Int :=
  if n < 336 then 2 else if f 333 ≠ chk f 25 then 4 else if kindV (f 327) < 0 then 5 else if 8 < f 328 ∨ 5 < f 329 then 7 else if (n : Int) ≠ bankV (f 328) * 16384 then 6 else 0
def headV (n : Nat) (f : Nat → Int) : HV :=
  ⟨titS f (zl f 308 15), kindV (f 327), clockV (f 327), battV (f 327), bankV (f 328), ramV (kindV (f 327)) (f 329), decide (f 334 * 256 + f 335 = sumV n f)⟩
def parV (n : Nat) (f : Nat → Int) : HV := if perr n f = 0 then headV n f else noH
/-- But for whether the sum is right, a header hangs on the bytes from 308 to 333 alone. -/
theorem perr_congr {n : Nat} {f g : Nat → Int} (h : ∀ i, 308 ≤ i → i ≤ 333 → f i = g i) : perr n f = perr n g := by
  unfold perr
  rw [h 333 (by omega) (by omega), h 327 (by omega) (by omega), h 328 (by omega) (by omega), h 329 (by omega) (by omega), chk_congr 25 (fun i hi => h (308 + i) (by omega) (by omega))]
theorem headV_congr {n : Nat} {f g : Nat → Int} (h : ∀ i, 308 ≤ i → i ≤ 333 → f i = g i) : { headV n f with w := false } = { headV n g with w := false } := by
  unfold headV titS
  have e : zl f 308 15 = zl g 308 15 := zl_congr 15 308 (fun j hj => h (308 + j) (by omega) (by omega))
  have hz := zl_le g 15 308
  rw [h 327 (by omega) (by omega), h 328 (by omega) (by omega), h 329 (by omega) (by omega), e, titL_congr (zl g 308 15) (fun j hj => h (308 + j) (by omega) (by omega))]
end Go.Proofs.YtifhajdcfjiaiaaDoor
