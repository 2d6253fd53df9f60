/-
  Read, and which of the voices are on; the table of the masks, as it is laid: for every board; no condition but that each number fits.
-/
import Derived.Test.YtonmnpadmphbdaaDoorSw
import Derived.Deep.Cut
import Derived.BigQuiet
import Derived.WalkSmall
import Derived.Deep.LoopGhost
namespace Go.Proofs.YtonmnpadmphbdaaDoor
open Go.ChangeShapes Go.WideShapes Go.ChangeAt Go.RowKit
set_option linter.unusedVariables false
set_option linter.unusedSimpArgs false
set_option maxRecDepth 100000
def masks : List Int := [128, 63, 0, 255, 191, 255, 63, 0, 255, 191, 127, 255, 159, 255, 191, 255, 255, 0, 0, 191, 0, 0, 112, 255, 255, 255, 255, 255, 255, 255, 255, 255, 0, 0, 0, 0, 0, 0, 0, 0, 0, 0, 0, 0, 0, 0, 0, 0]
def mask (n : Nat) : Int := masks.getD n 0
/-- The table of the masks lies where it was laid. -/
def Glob (w : World) : Prop := 0 < w.heap.size ∧ ∀ i, i < 48 → w.cell? ⟨0, i, none⟩ = some (.int .u8 (mask i))
theorem Glob.below {n : Nat} {W0 w : World} (h : Glob W0) (hn : 0 < n) (hb : Below n W0 w) : Glob w :=
  ⟨Nat.lt_of_lt_of_le h.1 hb.size, fun i hi => ((cell_block (hb.block 0 hn) i).1).trans (h.2 i hi)⟩
theorem Glob.next {w w' : World} (h : Glob w) (hb : Below w.heap.size w w') : Glob w' := h.below h.1 hb
def stN (m : M) : Nat → Int
  | 0 => if m 48 = 1 then 128 else 0
  | t + 1 => if m (51 + t * 4) = 1 then bits .or .u8 (stN m t) (2 ^ t) else stN m t
def statusV (m : M) : Int := stN m 4
def readV (m : M) (n : Int) : Int := if n < 0 ∨ 48 ≤ n then 255 else bits .or .u8 (if n = 22 then statusV m else m n.toNat) (mask n.toNat)
set_option maxHeartbeats 4000000 in
theorem status_1 (m : M) (hz : m 48 = 1) (w : World) : Calls Tryd.prog 19 #[.agg (enc m)] w fun q_ w' => q_ = .returned (.int .u8 (statusV m)) ∧ Below w.heap.size w w' := by
  suffices hall : ∀ (n_ : Nat) (W0 : World), n_ ≤ W0.heap.size → Below n_ W0 w → Calls Tryd.prog 19 #[.agg (enc m)] w fun q_ w' => q_ = .returned (.int .u8 (statusV m)) ∧ Below n_ W0 w' from hall _ _ (Nat.le_refl _) (Below.refl _ _)
  intro n_ W0 hn hB
  have HN := Lib.hid hn
  have BB := Lib.hid hB
  clear hn hB
  have s0 : stN m 0 = 128 := if_pos hz
  have S0 := Lib.hid s0
  have HZ := Lib.hid hz
  clear hz s0
  go_enter Tryd.func19, Tryd.ntmps19
  have Q_ := own1 w (.cells (enc m) 29)
  have B0 := Lib.hid (vian HN.out BB.out Q_)
  have P0 := Lib.hid (show Has (w.alloc (.cells (enc m) 29)) w.heap.size (enc m) by simpa using Has.new w (enc m) 29)
  have LP := Lib.hid (show n_ ≤ w.heap.size + 0 from Nat.le_add_right_of_le (Nat.le_trans HN.out BB.out.size))
  simp only [Nat.add_zero] at LP
  clear Q_
  go_upto_region 1 with (fail)
  generalize (w.alloc (.cells (enc m) 29)) = u0 at B0 P0 ⊢
  generalize w.heap.size = pb at P0 LP  ⊢
  obtain ⟨hc, hf⟩ := P0.out.out
  have e0 : (enc (m))[48]? = some (.bool true) := by rw [enc_b _ _ rfl (by omega)]; rw [decide_eq_true HZ.out]
  go_upto_region 4 with (fail)
  clear hc hf e0
  go_wp2
  go_loopg [7, 3] 4 (fun g' i x w5 => ∃ (t : Nat), t ≤ 4 ∧ g' + t = 4 ∧ i = .int .i64 t ∧ x = .int .u8 (stN m t) ∧ Below n_ W0 w5 ∧ Has w5 pb (enc m))
  case atStart => exact ⟨0, by omega, by omega, rfl, by rw [S0.out], B0.out, P0.out⟩
  case round =>
    obtain ⟨w5, hw5⟩ : ∃ q_, q_ = wr := ⟨_, rfl⟩
    subst hw5
    obtain ⟨t, ht, hg, rfl, rfl, hB, hP⟩ := hrel
    have TG := Lib.hid hg
    have B5 := Lib.hid hB
    have P5 := Lib.hid hP
    clear hg hB hP B0 P0
    obtain ⟨s, hs⟩ : ∃ q_, stN m t = q_ := ⟨_, rfl⟩
    by_cases hlt : t < 4
    · have hn := show stN m (t + 1) = (if m (51 + t * 4) = 1 then bits .or .u8 (stN m t) (2 ^ t) else stN m t) from rfl
      rw [hs] at hn ⊢
      have HN2 := Lib.hid hn
      clear hn hs
      obtain ⟨hc, hf⟩ := P5.out.out
      rcases four hlt with rfl | rfl | rfl | rfl
      · by_cases g : m 51 = 1
        · have eb : (enc m)[51]? = some (.bool true) := by rw [enc_b _ _ rfl (by omega), decide_eq_true g]
          have GG := Lib.hid g
          clear g
          go_wp2
          go_roundg (4 - (0 + 1))
          case measure => have := TG.out; omega
          case rel => exact ⟨0 + 1, by omega, by have := TG.out; omega, rfl, by rw [HN2.out, if_pos GG.out]; try rfl, B5.out, P5.out⟩
        · have eb : (enc m)[51]? = some (.bool false) := by rw [enc_b _ _ rfl (by omega), decide_eq_false g]
          have GG := Lib.hid g
          clear g
          go_wp2
          go_roundg (4 - (0 + 1))
          case measure => have := TG.out; omega
          case rel => exact ⟨0 + 1, by omega, by have := TG.out; omega, rfl, by rw [HN2.out, if_neg GG.out]; try rfl, B5.out, P5.out⟩
      · by_cases g : m 55 = 1
        · have eb : (enc m)[55]? = some (.bool true) := by rw [enc_b _ _ rfl (by omega), decide_eq_true g]
          have GG := Lib.hid g
          clear g
          go_wp2
          go_roundg (4 - (1 + 1))
          case measure => have := TG.out; omega
          case rel => exact ⟨1 + 1, by omega, by have := TG.out; omega, rfl, by rw [HN2.out, if_pos GG.out]; try rfl, B5.out, P5.out⟩
        · have eb : (enc m)[55]? = some (.bool false) := by rw [enc_b _ _ rfl (by omega), decide_eq_false g]
          have GG := Lib.hid g
          clear g
          go_wp2
          go_roundg (4 - (1 + 1))
          case measure => have := TG.out; omega
          case rel => exact ⟨1 + 1, by omega, by have := TG.out; omega, rfl, by rw [HN2.out, if_neg GG.out]; try rfl, B5.out, P5.out⟩
      · by_cases g : m 59 = 1
        · have eb : (enc m)[59]? = some (.bool true) := by rw [enc_b _ _ rfl (by omega), decide_eq_true g]
          have GG := Lib.hid g
          clear g
          go_wp2
          go_roundg (4 - (2 + 1))
          case measure => have := TG.out; omega
          case rel => exact ⟨2 + 1, by omega, by have := TG.out; omega, rfl, by rw [HN2.out, if_pos GG.out]; try rfl, B5.out, P5.out⟩
        · have eb : (enc m)[59]? = some (.bool false) := by rw [enc_b _ _ rfl (by omega), decide_eq_false g]
          have GG := Lib.hid g
          clear g
          go_wp2
          go_roundg (4 - (2 + 1))
          case measure => have := TG.out; omega
          case rel => exact ⟨2 + 1, by omega, by have := TG.out; omega, rfl, by rw [HN2.out, if_neg GG.out]; try rfl, B5.out, P5.out⟩
      · by_cases g : m 63 = 1
        · have eb : (enc m)[63]? = some (.bool true) := by rw [enc_b _ _ rfl (by omega), decide_eq_true g]
          have GG := Lib.hid g
          clear g
          go_wp2
          go_roundg (4 - (3 + 1))
          case measure => have := TG.out; omega
          case rel => exact ⟨3 + 1, by omega, by have := TG.out; omega, rfl, by rw [HN2.out, if_pos GG.out]; try rfl, B5.out, P5.out⟩
        · have eb : (enc m)[63]? = some (.bool false) := by rw [enc_b _ _ rfl (by omega), decide_eq_false g]
          have GG := Lib.hid g
          clear g
          go_wp2
          go_roundg (4 - (3 + 1))
          case measure => have := TG.out; omega
          case rel => exact ⟨3 + 1, by omega, by have := TG.out; omega, rfl, by rw [HN2.out, if_neg GG.out]; try rfl, B5.out, P5.out⟩
    · have te : t = 4 := by omega
      subst te
      have e4 : statusV m = s := hs
      have E4 := Lib.hid e4
      rw [hs]
      clear hs e4
      go_wp2
      all_goals exact bodyPost_ret (v := .int .u8 (statusV m)) (by rw [E4.out]; simp [results, Tryd.results19, go_sem]) rfl ⟨rfl, B5.out⟩
set_option maxHeartbeats 4000000 in
theorem status_0 (m : M) (hz : ¬ m 48 = 1) (w : World) : Calls Tryd.prog 19 #[.agg (enc m)] w fun q_ w' => q_ = .returned (.int .u8 (statusV m)) ∧ Below w.heap.size w w' := by
  suffices hall : ∀ (n_ : Nat) (W0 : World), n_ ≤ W0.heap.size → Below n_ W0 w → Calls Tryd.prog 19 #[.agg (enc m)] w fun q_ w' => q_ = .returned (.int .u8 (statusV m)) ∧ Below n_ W0 w' from hall _ _ (Nat.le_refl _) (Below.refl _ _)
  intro n_ W0 hn hB
  have HN := Lib.hid hn
  have BB := Lib.hid hB
  clear hn hB
  have s0 : stN m 0 = 0 := if_neg hz
  have S0 := Lib.hid s0
  have HZ := Lib.hid hz
  clear hz s0
  go_enter Tryd.func19, Tryd.ntmps19
  have Q_ := own1 w (.cells (enc m) 29)
  have B0 := Lib.hid (vian HN.out BB.out Q_)
  have P0 := Lib.hid (show Has (w.alloc (.cells (enc m) 29)) w.heap.size (enc m) by simpa using Has.new w (enc m) 29)
  have LP := Lib.hid (show n_ ≤ w.heap.size + 0 from Nat.le_add_right_of_le (Nat.le_trans HN.out BB.out.size))
  simp only [Nat.add_zero] at LP
  clear Q_
  go_upto_region 1 with (fail)
  generalize (w.alloc (.cells (enc m) 29)) = u0 at B0 P0 ⊢
  generalize w.heap.size = pb at P0 LP  ⊢
  obtain ⟨hc, hf⟩ := P0.out.out
  have e0 : (enc (m))[48]? = some (.bool false) := by rw [enc_b _ _ rfl (by omega)]; rw [decide_eq_false HZ.out]
  go_upto_region 4 with (fail)
  clear hc hf e0
  go_wp2
  go_loopg [7, 3] 4 (fun g' i x w5 => ∃ (t : Nat), t ≤ 4 ∧ g' + t = 4 ∧ i = .int .i64 t ∧ x = .int .u8 (stN m t) ∧ Below n_ W0 w5 ∧ Has w5 pb (enc m))
  case atStart => exact ⟨0, by omega, by omega, rfl, by rw [S0.out], B0.out, P0.out⟩
  case round =>
    obtain ⟨w5, hw5⟩ : ∃ q_, q_ = wr := ⟨_, rfl⟩
    subst hw5
    obtain ⟨t, ht, hg, rfl, rfl, hB, hP⟩ := hrel
    have TG := Lib.hid hg
    have B5 := Lib.hid hB
    have P5 := Lib.hid hP
    clear hg hB hP B0 P0
    obtain ⟨s, hs⟩ : ∃ q_, stN m t = q_ := ⟨_, rfl⟩
    by_cases hlt : t < 4
    · have hn := show stN m (t + 1) = (if m (51 + t * 4) = 1 then bits .or .u8 (stN m t) (2 ^ t) else stN m t) from rfl
      rw [hs] at hn ⊢
      have HN2 := Lib.hid hn
      clear hn hs
      obtain ⟨hc, hf⟩ := P5.out.out
      rcases four hlt with rfl | rfl | rfl | rfl
      · by_cases g : m 51 = 1
        · have eb : (enc m)[51]? = some (.bool true) := by rw [enc_b _ _ rfl (by omega), decide_eq_true g]
          have GG := Lib.hid g
          clear g
          go_wp2
          go_roundg (4 - (0 + 1))
          case measure => have := TG.out; omega
          case rel => exact ⟨0 + 1, by omega, by have := TG.out; omega, rfl, by rw [HN2.out, if_pos GG.out]; try rfl, B5.out, P5.out⟩
        · have eb : (enc m)[51]? = some (.bool false) := by rw [enc_b _ _ rfl (by omega), decide_eq_false g]
          have GG := Lib.hid g
          clear g
          go_wp2
          go_roundg (4 - (0 + 1))
          case measure => have := TG.out; omega
          case rel => exact ⟨0 + 1, by omega, by have := TG.out; omega, rfl, by rw [HN2.out, if_neg GG.out]; try rfl, B5.out, P5.out⟩
      · by_cases g : m 55 = 1
        · have eb : (enc m)[55]? = some (.bool true) := by rw [enc_b _ _ rfl (by omega), decide_eq_true g]
          have GG := Lib.hid g
          clear g
          go_wp2
          go_roundg (4 - (1 + 1))
          case measure => have := TG.out; omega
          case rel => exact ⟨1 + 1, by omega, by have := TG.out; omega, rfl, by rw [HN2.out, if_pos GG.out]; try rfl, B5.out, P5.out⟩
        · have eb : (enc m)[55]? = some (.bool false) := by rw [enc_b _ _ rfl (by omega), decide_eq_false g]
          have GG := Lib.hid g
          clear g
          go_wp2
          go_roundg (4 - (1 + 1))
          case measure => have := TG.out; omega
          case rel => exact ⟨1 + 1, by omega, by have := TG.out; omega, rfl, by rw [HN2.out, if_neg GG.out]; try rfl, B5.out, P5.out⟩
      · by_cases g : m 59 = 1
        · have eb : (enc m)[59]? = some (.bool true) := by rw [enc_b _ _ rfl (by omega), decide_eq_true g]
          have GG := Lib.hid g
          clear g
          go_wp2
          go_roundg (4 - (2 + 1))
          case measure => have := TG.out; omega
          case rel => exact ⟨2 + 1, by omega, by have := TG.out; omega, rfl, by rw [HN2.out, if_pos GG.out]; try rfl, B5.out, P5.out⟩
        · have eb : (enc m)[59]? = some (.bool false) := by rw [enc_b _ _ rfl (by omega), decide_eq_false g]
          have GG := Lib.hid g
          clear g
          go_wp2
          go_roundg (4 - (2 + 1))
          case measure => have := TG.out; omega
          case rel => exact ⟨2 + 1, by omega, by have := TG.out; omega, rfl, by rw [HN2.out, if_neg GG.out]; try rfl, B5.out, P5.out⟩
      · by_cases g : m 63 = 1
        · have eb : (enc m)[63]? = some (.bool true) := by rw [enc_b _ _ rfl (by omega), decide_eq_true g]
          have GG := Lib.hid g
          clear g
          go_wp2
          go_roundg (4 - (3 + 1))
          case measure => have := TG.out; omega
          case rel => exact ⟨3 + 1, by omega, by have := TG.out; omega, rfl, by rw [HN2.out, if_pos GG.out]; try rfl, B5.out, P5.out⟩
        · have eb : (enc m)[63]? = some (.bool false) := by rw [enc_b _ _ rfl (by omega), decide_eq_false g]
          have GG := Lib.hid g
          clear g
          go_wp2
          go_roundg (4 - (3 + 1))
          case measure => have := TG.out; omega
          case rel => exact ⟨3 + 1, by omega, by have := TG.out; omega, rfl, by rw [HN2.out, if_neg GG.out]; try rfl, B5.out, P5.out⟩
    · have te : t = 4 := by omega
      subst te
      have e4 : statusV m = s := hs
      have E4 := Lib.hid e4
      rw [hs]
      clear hs e4
      go_wp2
      all_goals exact bodyPost_ret (v := .int .u8 (statusV m)) (by rw [E4.out]; simp [results, Tryd.results19, go_sem]) rfl ⟨rfl, B5.out⟩
end Go.Proofs.YtonmnpadmphbdaaDoor
