/-
  The document's own cartridge (Made) as plain data, and what the laws of layer 5 ask of it. No condition beyond those that each statement names.
-/
import Derived.Test.YtifhajdcfjiaiaaDoorPure
namespace Go.Proofs.YtifhajdcfjiaiaaDoor
def plc (i : Nat) : Nat := if i < 4 then 256 + i else 332 + i
/-- All bytes 0 but the first m of a program. -/
def pf (p : Nat → Int) : Nat → Nat → Int
  | 0 => fun _ => 0
  | i + 1 => upd (pf p i) (plc i) (p i)
theorem pf_ok {p : Nat → Int} (h : okB p) : ∀ m, okB (pf p m)
  | 0 => fun _ => by simp [pf]
  | i + 1 => (pf_ok h i).upd _ _ (h i).1 (h i).2
theorem pf_head (p : Nat → Int) : ∀ m a, 260 ≤ a → a < 336 → pf p m a = 0
  | 0, _, _, _ => rfl
  | i + 1, a, h0, h1 => by
    show upd (pf p i) (plc i) (p i) a = 0
    rw [upd_far _ _ _ _ (by unfold plc; split <;> omega)]
    exact pf_head p i a h0 h1
def made0 (k b r : Int) (p : Nat → Int) (m : Nat) : Nat → Int := upd (upd (upd (pf p m) 327 k) 328 b) 329 r
def made (k b r : Int) (p : Nat → Int) (m : Nat) : Nat → Int := upd (made0 k b r p m) 333 (chk (made0 k b r p m) 25)
theorem made0_ok {k b r : Int} {p : Nat → Int} (m : Nat) (hk : 0 ≤ k ∧ k < 256) (hb : 0 ≤ b ∧ b < 256) (hr : 0 ≤ r ∧ r < 256) (hp : okB p) : okB (made0 k b r p m) :=
  (((pf_ok hp m).upd _ _ hk.1 hk.2).upd _ _ hb.1 hb.2).upd _ _ hr.1 hr.2
theorem made_ok {k b r : Int} {p : Nat → Int} (m : Nat) (hk : 0 ≤ k ∧ k < 256) (hb : 0 ≤ b ∧ b < 256) (hr : 0 ≤ r ∧ r < 256) (hp : okB p) : okB (made k b r p m) :=
  (made0_ok m hk hb hr hp).upd _ _ (chk_bd _ _).1 (chk_bd _ _).2
/-- Another byte behind the header's sum changes nothing of it. -/
theorem chk_upd (f : Nat → Int) (a : Nat) (x : Int) (h : a < 308 ∨ 333 ≤ a) : chk (upd f a x) 25 = chk f 25 := chk_congr 25 (fun i hi => upd_far _ _ _ _ (by omega))
theorem made_sum (k b r : Int) (p : Nat → Int) (m : Nat) : made k b r p m 333 = chk (made k b r p m) 25 := by
  unfold made; rw [upd_same, chk_upd _ _ _ (Or.inr (by omega))]
theorem made_327 (k b r : Int) (p : Nat → Int) (m : Nat) : made k b r p m 327 = k := by
  unfold made made0; rw [upd_far _ _ _ _ (by decide), upd_far _ _ _ _ (by decide), upd_far _ _ _ _ (by decide), upd_same]
theorem made_328 (k b r : Int) (p : Nat → Int) (m : Nat) : made k b r p m 328 = b := by
  unfold made made0; rw [upd_far _ _ _ _ (by decide), upd_far _ _ _ _ (by decide), upd_same]
theorem made_329 (k b r : Int) (p : Nat → Int) (m : Nat) : made k b r p m 329 = r := by
  unfold made made0; rw [upd_far _ _ _ _ (by decide), upd_same]
/-- How many bytes. -/
def szN : Nat → Nat
  | 0 => 32768
  | b + 1 => szN b * 2
theorem szN_pow : ∀ b : Nat, (szN b : Int) = bankV b * 16384
  | 0 => by decide
  | b + 1 => by
    have ih := szN_pow b
    unfold bankV at ih ⊢
    have e1 : ((b + 1 : Nat) : Int).toNat = b + 1 := rfl
    have e2 : ((b : Nat) : Int).toNat = b := rfl
    rw [e1, Int.pow_succ]
    rw [e2] at ih
    show ((szN b * 2 : Nat) : Int) = _
    omega
theorem szN_ge : ∀ b : Nat, 32768 ≤ szN b
  | 0 => Nat.le_refl _
  | b + 1 => by have := szN_ge b; show 32768 ≤ szN b * 2; omega
theorem szN_le : ∀ b : Nat, b ≤ 8 → szN b ≤ 8388608
  | 0, _ => by decide
  | 1, _ => by decide
  | 2, _ => by decide
  | 3, _ => by decide
  | 4, _ => by decide
  | 5, _ => by decide
  | 6, _ => by decide
  | 7, _ => by decide
  | 8, _ => by decide
  | b + 9, h => by omega
theorem perr_made (k r : Int) (b : Nat) (hb : b ≤ 8) (p : Nat → Int) (m : Nat) (f : Nat → Int) (h : ∀ i, 308 ≤ i → i ≤ 333 → f i = made k b r p m i) : perr (szN b) f = if kindV k < 0 then 5 else if 5 < r then 7 else 0 := by
  rw [perr_congr h]
  unfold perr
  have h0 := szN_ge b
  rw [if_neg (by omega), if_neg (by rw [made_sum]; simp), made_327, made_328, made_329]
  by_cases h1 : kindV k < 0
  · rw [if_pos h1, if_pos h1]
  · rw [if_neg h1, if_neg h1]
    by_cases h2 : 5 < r
    · rw [if_pos (Or.inr h2), if_pos h2]
    · rw [if_neg (by omega), if_neg h2, if_neg (by rw [szN_pow b]; simp)]
/-- HeaderSums: one byte that is by more. -/
theorem sums_bad (n : Nat) (hn : 336 ≤ n) (f : Nat → Int) (hok : okB f) (hs : f 333 = chk f 25) (a : Nat) (ha : a < 25) (d : Int) (d0 : 0 < d) (d1 : d < 256) : perr n (upd f (308 + a) ((f (308 + a) + d) % 256)) = 4 := by
  have hf := hok (308 + a)
  have e := chk_one (x := (f (308 + a) + d) % 256) f a d (by omega) 25
  rw [if_pos ha] at e
  have hc := chk_bd f 25
  unfold perr
  rw [if_neg (by omega), if_pos (by rw [upd_far _ _ _ _ (by omega), e, hs]; omega)]
theorem sums_good (n : Nat) (hn : 336 ≤ n) (f : Nat → Int) : perr n (upd f 333 (chkV n f)) ≠ 4 ∧ perr n (upd f 333 (chkV n f)) ≠ 2 := by
  have e : upd f 333 (chkV n f) 333 = chk (upd f 333 (chkV n f)) 25 := by
    rw [upd_same, chk_upd _ _ _ (Or.inr (by omega))]
    unfold chkV
    rw [if_neg (by omega)]
  unfold perr
  rw [if_neg (by omega), if_neg (by rw [e]; simp)]
  constructor <;> (split; decide; split; decide; split <;> decide)
/-- Bytes far from a sum's own change it. -/
theorem sumV_own (n : Nat) (f : Nat → Int) (a : Nat) (x : Int) (h : a = 334 ∨ a = 335) : sumV n (upd f a x) = sumV n f := by
  unfold sumV
  rw [tot_congr (f := upd f a x) (g := f) 0 334 (fun i hi => upd_far _ _ _ _ (by omega)), tot_congr (f := upd f a x) (g := f) 336 (n - 336) (fun i hi => upd_far _ _ _ _ (by omega))]
theorem sumV_one (n : Nat) (hn : 336 ≤ n) (f : Nat → Int) (hok : okB f) (a : Nat) (ha : a < n) (h : a < 334 ∨ 336 ≤ a) (d : Int) (d0 : 0 < d) (d1 : d < 256) : sumV n (upd f a ((f a + d) % 256)) ≠ sumV n f := by
  have hf := hok a
  have b0 := tot_bd f 0 334
  have b1 := tot_bd f 336 (n - 336)
  unfold sumV
  rw [if_neg (by omega), if_neg (by omega)]
  rcases h with h | h
  · have e := tot_one f 0 a ((f a + d) % 256) 334
    rw [if_pos h, Nat.zero_add] at e
    rw [e, tot_congr (f := upd f a ((f a + d) % 256)) (g := f) 336 (n - 336) (fun i hi => upd_far _ _ _ _ (by omega))]
    omega
  · have e := tot_one f 336 (a - 336) ((f a + d) % 256) (n - 336)
    rw [if_pos (by omega), Nat.add_sub_cancel' h] at e
    rw [e, tot_congr (f := upd f a ((f a + d) % 256)) (g := f) 0 334 (fun i hi => upd_far _ _ _ _ (by omega))]
    omega
/-- HeaderShort: all bytes 0 but the header's sum. -/
def shortF : Nat → Int := upd (fun _ => 0) 333 231
theorem chk_zero : chk (fun _ => 0) 25 = 231 := by decide +kernel
theorem perr_short (n : Nat) (h : 336 ≤ n) : perr n shortF = if n = 32768 then 0 else 6 := by
  have e0 : shortF 333 = 231 := rfl
  have e1 : chk shortF 25 = 231 := by unfold shortF; rw [chk_upd _ _ _ (Or.inr (by omega)), chk_zero]
  have e2 : shortF 327 = 0 := rfl
  have e3 : shortF 328 = 0 := rfl
  have e4 : shortF 329 = 0 := rfl
  have e5 : bankV 0 * 16384 = 32768 := by decide
  have e6 : kindV 0 = 0 := by decide
  unfold perr
  rw [if_neg (by omega), if_neg (by rw [e0, e1]; simp), e2, e3, e4, e5, e6, if_neg (by omega), if_neg (by omega)]
  by_cases e : n = 32768
  · rw [if_pos e, if_neg (by omega)]
  · rw [if_neg e, if_pos (by omega)]
end Go.Proofs.YtifhajdcfjiaiaaDoor
