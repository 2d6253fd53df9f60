/-
  Four bytes as a sprite memory; what the laws ask first: for every world.
-/
import Derived.Test.YtiekojnhkemjlaaSc
import Derived.Deep.Cut
import Derived.BigQuiet
import Derived.WalkSmall
namespace Go.Proofs.Ytiekojnhkemjlaa
open Go.ChangeShapes Go.WideShapes Go.ChangeAt Go.RowKit
set_option linter.unusedVariables false
set_option linter.unusedSimpArgs false
set_option maxRecDepth 100000
/-- Four bytes, and nothing behind them. -/
def litM (p q r s : Int) : M := fun k => if k = 0 then p else if k = 1 then q else if k = 2 then r else if k = 3 then s else 0
theorem lit_ok {p q r s : Int} (hp : 0 ≤ p ∧ p < 256) (hq : 0 ≤ q ∧ q < 256) (hr : 0 ≤ r ∧ r < 256) (hs : 0 ≤ s ∧ s < 256) : okB (litM p q r s) := fun k => by
  unfold litM
  split
  · exact hp
  · split
    · exact hq
    · split
      · exact hr
      · split
        · exact hs
        · decide
theorem mem_lit {w : World} {c : Nat} {p q r s : Int} (h : Has w c #[.int .u8 p, .int .u8 q, .int .u8 r, .int .u8 s]) (ok : okB (litM p q r s)) : Mem w (.slice (some ⟨c, 0, none⟩) 4 4) (litM p q r s) := by
  refine ⟨_, 4, 4, rfl, by omega, by omega, ok, fun k hk => by unfold litM; rw [if_neg (by omega), if_neg (by omega), if_neg (by omega), if_neg (by omega)], fun _ => ⟨c, 0, rfl, h.1, fun j hj => ?_⟩⟩
  rw [Nat.zero_add, h.2.1]
  rcases (show j = 0 ∨ j = 1 ∨ j = 2 ∨ j = 3 by omega) with rfl | rfl | rfl | rfl <;> rfl
def oneM (p : Int) : M := fun k => if k = 0 then p else 0
theorem mem_one {w : World} {c : Nat} {p : Int} (h : Has w c #[.int .u8 p]) (hp : 0 ≤ p ∧ p < 256) : Mem w (.slice (some ⟨c, 0, none⟩) 1 1) (oneM p) := by
  refine ⟨_, 1, 1, rfl, by omega, by omega, fun k => by unfold oneM; split; exact hp; decide, fun k hk => by unfold oneM; rw [if_neg (by omega)], fun _ => ⟨c, 0, rfl, h.1, fun j hj => ?_⟩⟩
  rw [Nat.zero_add, h.2.1]
  rw [show j = 0 by omega]
  rfl
theorem aw1 : seeV (oneM 128) (litM 16 8 0 0) 0 0 0 0 = 1 := by decide +kernel
theorem aw2 : (scN 0 (litM 16 8 0 0) 7 40).1 = 1 := by decide +kernel
theorem aw3 : (scN 0 (litM 16 8 0 0) 7 40).2 0 = 0 := by decide +kernel
theorem awo : okB (litM 16 8 0 0) := lit_ok (by decide) (by decide) (by decide) (by decide)
set_option maxHeartbeats 2000000 in
theorem awake_c  (w : World) : Calls Try.prog 9 #[] w fun q_ w' => q_ = .returned (.bool true) ∧ Below w.heap.size w w' := by
  suffices hall : ∀ (n_ : Nat) (W0 : World), n_ ≤ W0.heap.size → Below n_ W0 w → Calls Try.prog 9 #[] w fun q_ w' => q_ = .returned (.bool true) ∧ Below n_ W0 w' from hall _ _ (Nat.le_refl _) (Below.refl _ _)
  intro n_ W0 hn hB
  have HN := Lib.hid hn
  have BB := Lib.hid hB
  clear hn hB
  have DT := Lib.hid (fun W a b h1 h2 => dotp_c 0 0 0 0 (by decide) (by decide) (by decide) (by decide) (by decide) (by decide) (by decide) (by decide) a b (oneM 128) (litM 16 8 0 0) 0 0 0 (by decide) (by decide) (by decide) (by decide) (by decide) (by decide) W h1 h2)
  have ST := Lib.hid (fun W a h => scan_c 0 0 0 0 (by decide) (by decide) (by decide) (by decide) (by decide) (by decide) (by decide) (by decide) a (litM 16 8 0 0) 7 (by decide) (by decide) W h)
  rw [aw1, show decide ((1 : Int) ≠ 0) = true from rfl] at DT
  rw [aw2] at ST
  go_enter Try.func9, Try.ntmps9
  have Q_ := own1 w (.cells #[.int .u8 16, .int .u8 8, .int .u8 0, .int .u8 0] 5)
  have B0 := Lib.hid (vian HN.out BB.out Q_)
  have X0 := Lib.hid (show Has (w.alloc (.cells #[.int .u8 16, .int .u8 8, .int .u8 0, .int .u8 0] 5)) w.heap.size #[.int .u8 16, .int .u8 8, .int .u8 0, .int .u8 0] by simpa using Has.new w #[.int .u8 16, .int .u8 8, .int .u8 0, .int .u8 0] 5)
  have LX := Lib.hid (show n_ ≤ w.heap.size + 0 from Nat.le_add_right_of_le (Nat.le_trans HN.out BB.out.size))
  simp only [Nat.add_zero] at LX
  clear Q_
  go_upto_region 2 with (fail)
  generalize (w.alloc (.cells #[.int .u8 16, .int .u8 8, .int .u8 0, .int .u8 0] 5)) = u0 at B0 X0 ⊢
  generalize w.heap.size = xb at X0 LX  ⊢
  have Q_ := own1 u0 (.cells #[.int .u8 128] 5)
  have B1 := Lib.hid (vian HN.out B0.out Q_)
  have X1 := Lib.hid (X0.out.below Q_)
  have Y1 := Lib.hid (Has.new u0 #[.int .u8 128] 5)
  have LY := Lib.hid (Nat.le_trans HN.out B0.out.size)
  have NXY := Lib.hid (Nat.ne_of_lt X0.out.1)
  clear Q_
  go_wp2_with (fail)
  generalize u0.alloc (.cells #[.int .u8 128] 5) = u1 at B1 X1 Y1 ⊢
  generalize u0.heap.size = yb at Y1 LY NXY ⊢
  clear B0 X0
  with_reducible refine (DT.out _ _ _ (mem_one Y1.out ⟨by decide, by decide⟩) (mem_lit X1.out awo)).mono ?_
  rintro q_ u2 ⟨rfl, hb⟩
  have B2 := Lib.hid (vian HN.out B1.out hb)
  have X2 := Lib.hid (X1.out.below hb)
  have Y2 := Lib.hid (Y1.out.below hb)
  clear hb B1 X1 Y1
  go_wp2_with (fail)
  with_reducible refine (ST.out _ _ (mem_lit X2.out awo)).mono ?_
  rintro q_ u3 ⟨v, g, rfl, ⟨a, cp, rfl, hcp, hrow⟩, hg, hb⟩
  obtain ⟨rfl, hgl, hc, hf⟩ := hrow (by omega)
  have hc0 := hc 0 (by omega)
  rw [aw3] at hc0
  have hf0 := hf 0
  have B3 := Lib.hid (vian HN.out B2.out hb)
  clear hc hf hb hrow
  go_wp2_with (fail)
  all_goals exact bodyPost_ret (v := .bool true) (by simp [results, Try.results9, go_sem]) rfl ⟨rfl, B3.out⟩
end Go.Proofs.Ytiekojnhkemjlaa
