/-
  Blocks of memory that stay as they are while calls make memory, and the first test of each law (awake): true, for every world; no condition.
-/
import Derived.Test.YtiolfmmekcahaaaRegs2
import Derived.Deep.RegionHeld3
namespace Go.Proofs.Ytiolfmmekcahaaa
open Go.ChangeShapes Go.WideShapes Go.ChangeAt Go.RowKit

/-- The block b holds just the cells A, and may be written. -/
def Has (w : World) (b : Nat) (A : Array Value) : Prop := b < w.heap.size ∧ (∀ o, w.cell? ⟨b, o, none⟩ = A[o]?) ∧ (∀ o, w.frozen? ⟨b, o, none⟩ = false)
theorem Has.new (w : World) (A : Array Value) (t : TypeId) : Has (w.alloc (.cells A t)) w.heap.size A :=
  ⟨by simp, fun o => by simp [go_sem], fun o => by simp [go_sem]⟩
theorem Has.below {w w' : World} {b : Nat} {A : Array Value} (h : Has w b A) (hb : Below w.heap.size w w') : Has w' b A := by
  obtain ⟨hc, hf⟩ := bcell hb
  exact ⟨Nat.lt_of_lt_of_le h.1 hb.size, fun o => (hc b o h.1).trans (h.2.1 o), fun o => (hf b o h.1).trans (h.2.2 o)⟩
theorem Has.alloc {w : World} {b : Nat} {A : Array Value} (h : Has w b A) (o : Obj) : Has (w.alloc o) b A :=
  h.below ((Below.refl _ _).alloc (Nat.le_refl _) _)
theorem Has.drew {w : World} {b : Nat} {A : Array Value} (h : Has w b A) : Has w.drew b A :=
  h.below (Below.refl _ _).drew
theorem Has.set {w : World} {b : Nat} {A : Array Value} (h : Has w b A) (k : Nat) (v : Value) (hk : k < A.size) : Has (w.setCell ⟨b, k, none⟩ v) b (A.setIfInBounds k v) := by
  refine ⟨by simpa using h.1, fun o => ?_, fun o => ?_⟩
  · by_cases e : k = o
    · subst e
      rw [World.cell?_setCell_same w _ _ (u := A[k]) (by rw [h.2.1, Array.getElem?_eq_getElem hk])]
      simp [hk]
    · rw [World.cell?_setCell_other w _ _ _ (by intro h; injection h; contradiction), h.2.1, Array.getElem?_setIfInBounds_ne e]
  · simpa [go_sem] using h.2.2 o
theorem Has.out {w : World} {b : Nat} {A : Array Value} (h : Has w b A) : (∀ o, w.cell? ⟨b, o, none⟩ = A[o]?) ∧ (∀ o, w.frozen? ⟨b, o, none⟩ = false) := h.2

/-- The block b is there, and all that was there at the world w0 is as it was. -/
def In (w0 : World) (b : Nat) (w : World) : Prop := b < w.heap.size ∧ Below w0.heap.size w0 w
theorem In.step {w0 W w2 : World} {b : Nat} {A : Array Value} (h : (∀ o, W.cell? ⟨b, o, none⟩ = A[o]?) ∧ In w0 b W) (hb : Below W.heap.size W w2) :
    (∀ o, w2.cell? ⟨b, o, none⟩ = A[o]?) ∧ In w0 b w2 := by
  obtain ⟨hc, _⟩ := bcell hb
  exact ⟨fun o => (hc b o h.2.1).trans (h.1 o), Nat.lt_of_lt_of_le h.2.1 hb.size, h.2.2.trans (hb.mono h.2.2.size)⟩
theorem In.new {w0 w1 : World} (h : Below w0.heap.size w0 w1) (A : Array Value) (t : TypeId) :
    (∀ o, (w1.alloc (.cells A t)).drew.cell? ⟨w1.heap.size, o, none⟩ = A[o]?) ∧ In w0 w1.heap.size (w1.alloc (.cells A t)).drew :=
  ⟨(Has.new w1 A t).drew.2.1, by simp, (h.alloc h.size _).drew⟩

def zr : RR := ⟨0, 0, 18, 0, 0, 0, 0, 0, 0, 0⟩
def yr : RR := ⟨0, 0, 18, 52, 0, 0, 0, 0, 0, 0⟩
theorem aw1 (w : World) : Calls Try.prog 16 #[.agg #[.int .u8 0, .int .u8 0, .int .u8 0, .int .u8 0, .int .u8 0, .int .u8 0, .int .u8 0, .int .u8 0, .int .u16 0, .int .u16 0], .int .i64 0, .int .u8 18] w fun e w' =>
    e = .returned (.tuple #[.agg #[.int .u8 0, .int .u8 0, .int .u8 18, .int .u8 0, .int .u8 0, .int .u8 0, .int .u8 0, .int .u8 0, .int .u16 0, .int .u16 0], .int .i64 0]) ∧ Below w.heap.size w w' := set_c noR 0 18 w
theorem aw2 (w : World) : Calls Try.prog 16 #[.agg #[.int .u8 0, .int .u8 0, .int .u8 18, .int .u8 0, .int .u8 0, .int .u8 0, .int .u8 0, .int .u8 0, .int .u16 0, .int .u16 0], .int .i64 1, .int .u8 52] w fun e w' =>
    e = .returned (.tuple #[.agg #[.int .u8 0, .int .u8 0, .int .u8 18, .int .u8 52, .int .u8 0, .int .u8 0, .int .u8 0, .int .u8 0, .int .u16 0, .int .u16 0], .int .i64 0]) ∧ Below w.heap.size w w' := set_c zr 1 52 w
theorem aw3 (w : World) : Calls Try.prog 12 #[.agg #[.int .u8 0, .int .u8 0, .int .u8 18, .int .u8 52, .int .u8 0, .int .u8 0, .int .u8 0, .int .u8 0, .int .u16 0, .int .u16 0], .int .i64 0] w fun e w' =>
    e = .returned (.tuple #[.int .u16 4660, .int .i64 0]) ∧ Below w.heap.size w w' := pair_c yr 0 (by simp [RR.ok, yr]) w
theorem aw4 (w : World) : Calls Try.prog 14 #[.agg #[.int .u8 0, .int .u8 0, .int .u8 18, .int .u8 52, .int .u8 0, .int .u8 0, .int .u8 0, .int .u8 0, .int .u16 0, .int .u16 0], .int .i64 4] w fun e w' =>
    e = .returned (.bool true) ∧ Below w.heap.size w w' := is_c yr 4 (by decide) (by decide) w

set_option maxHeartbeats 2000000 in
theorem awake_c (w : World) : Calls Try.prog 9 #[] w fun e w' => e = .returned (.bool true) ∧ Below w.heap.size w w' := by
  go_enter Try.func9, Try.ntmps9
  go_wp2_with fail
  refine (aw1 _).mono ?_
  rintro e w1 ⟨rfl, hb1⟩
  have B1 := Lib.hid hb1; clear hb1
  go_wp2_with fail
  refine (aw2 _).mono ?_
  rintro e w2 ⟨rfl, hb2⟩
  have H2 := (Has.new w1 #[.int .u8 0, .int .u8 0, .int .u8 18, .int .u8 0, .int .u8 0, .int .u8 0, .int .u8 0, .int .u8 0, .int .u16 0, .int .u16 0] 26).below hb2
  obtain ⟨hc, hf⟩ := H2.out
  have H3 := (((((((((H2.set 0 (.int .u8 0) (by decide)).set 1 (.int .u8 0) (by decide)).set 2 (.int .u8 18) (by decide)).set 3 (.int .u8 52) (by decide)).set 4 (.int .u8 0) (by decide)).set 5 (.int .u8 0) (by decide)).set 6 (.int .u8 0) (by decide)).set 7 (.int .u8 0) (by decide)).set 8 (.int .u16 0) (by decide)).set 9 (.int .u16 0) (by decide)
  have B2 := Lib.hid hb2; clear hb2
  have HH := Lib.hid H3; clear H2 H3
  go_wp2_with fail
  refine (aw3 _).mono ?_
  rintro e w3 ⟨rfl, hb3⟩
  have H4 := HH.out.below hb3
  have B3 := Lib.hid hb3; clear hb3
  clear hc hf
  obtain ⟨hc, hf⟩ := H4.out
  clear H4
  go_wp2_with fail
  refine (aw4 _).mono ?_
  rintro e w4 ⟨rfl, hb4⟩
  have B4 := Lib.hid hb4; clear hb4
  go_wp2
  go_ret
  refine ⟨rfl, ?_⟩
  have b1 := B1.out
  have b2 := (b1.alloc b1.size (.cells #[.int .u8 0, .int .u8 0, .int .u8 18, .int .u8 0, .int .u8 0, .int .u8 0, .int .u8 0, .int .u8 0, .int .u16 0, .int .u16 0] 26)).trans (B2.out.mono (by have := b1.size; simp; omega))
  have b3 := (below10 b2 b1.size _ _ _ _ _ _ _ _ _ _).trans (B3.out.mono (by have := b2.size; simp; omega))
  exact b3.trans (B4.out.mono b3.size)
end Go.Proofs.Ytiolfmmekcahaaa
