/-
  Blocks of memory that stay as they are while calls make memory; the end of every law; bounds of kinds: for every world; no condition.
-/
import Derived.Test.YtnfjgofmfaadnaaPure
import Derived.WalkKit
import Derived.ProofKit
import Derived.OpenShut
import Derived.WalkLawsBesides
import Derived.Outline
import Derived.Lib.Hide
import Derived.Laws.BitsAllLaws
import Derived.Laws.ShiftsVarLaws
import Derived.BigRegion
import Derived.Below
import Derived.Deep.RegionHeld3
import Derived.Carry
import Derived.Laws.Small
import Derived.Deep.Fields
namespace Go.Proofs.Ytnfjgofmfaadnaa
open Go.ChangeShapes Go.WideShapes Go.ChangeAt Go.RowKit

theorem bcell {W w1 : World} (hb : Below W.heap.size W w1) : (∀ b o, b < W.heap.size → w1.cell? ⟨b, o, none⟩ = W.cell? ⟨b, o, none⟩) ∧ (∀ b o, b < W.heap.size → w1.frozen? ⟨b, o, none⟩ = W.frozen? ⟨b, o, none⟩) :=
  ⟨fun b o h => hb.cell (p := ⟨b, o, none⟩) h, fun b o h => hb.frozen (p := ⟨b, o, none⟩) h⟩

/-- The block b holds just the cells A, and may be written. -/
def Has (w : World) (b : Nat) (A : Array Value) : Prop := b < w.heap.size ∧ (∀ o, w.cell? ⟨b, o, none⟩ = A[o]?) ∧ (∀ o, w.frozen? ⟨b, o, none⟩ = false)
theorem Has.new (w : World) (A : Array Value) (t : TypeId) : Has (w.alloc (.cells A t)) w.heap.size A :=
  ⟨by simp, fun o => by simp [go_sem], fun o => by simp [go_sem]⟩
theorem Has.below {w w' : World} {b : Nat} {A : Array Value} (h : Has w b A) (hb : Below w.heap.size w w') : Has w' b A := by
  obtain ⟨hc, hf⟩ := bcell hb
  exact ⟨Nat.lt_of_lt_of_le h.1 hb.size, fun o => (hc b o h.1).trans (h.2.1 o), fun o => (hf b o h.1).trans (h.2.2 o)⟩
theorem Has.alloc {w : World} {b : Nat} {A : Array Value} (h : Has w b A) (o : Obj) : Has (w.alloc o) b A :=
  h.below ((Below.refl _ _).alloc (Nat.le_refl _) _)
theorem Has.drew {w : World} {b : Nat} {A : Array Value} (h : Has w b A) : Has w.drew b A :=
  h.below (Below.refl _ _).drew
theorem Has.set {w : World} {b : Nat} {A : Array Value} (h : Has w b A) (k : Nat) (v : Value) (hk : k < A.size) : Has (w.setCell ⟨b, k, none⟩ v) b (A.setIfInBounds k v) := by
  refine ⟨by simpa using h.1, fun o => ?_, fun o => ?_⟩
  · by_cases e : k = o
    · subst e
      rw [World.cell?_setCell_same w _ _ (u := A[k]) (by rw [h.2.1, Array.getElem?_eq_getElem hk])]
      simp [hk]
    · rw [World.cell?_setCell_other w _ _ _ (by intro h; injection h; contradiction), h.2.1, Array.getElem?_setIfInBounds_ne e]
  · simpa [go_sem] using h.2.2 o
theorem Has.far {w : World} {b : Nat} {A : Array Value} (h : Has w b A) (a : Addr) (v : Value) (hk : ¬ a.block = b) : Has (w.setCell a v) b A := by
  refine ⟨by simpa using h.1, fun o => ?_, fun o => ?_⟩
  · rw [World.cell?_setCell_other w _ _ _ (fun h => hk (by rw [h])), h.2.1]
  · simpa [go_sem] using h.2.2 o
theorem Has.out {w : World} {b : Nat} {A : Array Value} (h : Has w b A) : (∀ o, w.cell? ⟨b, o, none⟩ = A[o]?) ∧ (∀ o, w.frozen? ⟨b, o, none⟩ = false) := h.2

theorem u8_bd {a : Int} (h : (Lit.int .u8 a).wf = true) : 0 ≤ a ∧ a < 256 := by
  simp [Lit.wf, IntKind.min, IntKind.max, IntKind.bits, IntKind.signed] at h; omega
theorem u16_bd {a : Int} (h : (Lit.int .u16 a).wf = true) : 0 ≤ a ∧ a < 65536 := by
  simp [Lit.wf, IntKind.min, IntKind.max, IntKind.bits, IntKind.signed] at h; omega
theorem i64_bd {a : Int} (h : (Lit.int .i64 a).wf = true) : -9223372036854775808 ≤ a ∧ a ≤ 9223372036854775807 := by
  simp [Lit.wf, IntKind.min, IntKind.max, IntKind.bits, IntKind.signed] at h; omega
theorem own : ownKnob Try.prog.godebug = none := by kernel_rfl
theorem laidOut : laidOutB Try.prog = true := by kernel_rfl

theorem trodAll_below {H : Type} {enc : TypeId × Value → H} {P : Program} (hl : laidOutB P = true) {W W' : World} (hb : Below W.heap.size W W') :
    ∀ (ts : List TypeId) (vs : List Value) (ds : List (DataW H)) (p : List MemPlace), (∀ t, t ∈ ts → P.readableRec t = true ∧ t < P.types.size) →
      DataW.TrodAll enc P W 0 (fun _ => true) true ts vs ds p → (∀ x, x ∈ p → x.block < W.heap.size) →
      DataW.TrodAll enc P W' 0 (fun b => decide (b < W.heap.size)) true ts vs ds p
  | [], vs, ds, p, _, h, _ => by
    obtain ⟨rfl, rfl, rfl⟩ := trodAll_nil h
    exact trodAll_mk0
  | t :: ts, vs, ds, p, ht, h, hp => by
    obtain ⟨v0, vs0, d0, ds0, p0, q0, rfl, rfl, rfl, h0, r0⟩ := trodAll_cons h
    have k := ht t (by simp)
    exact trodAll_cons_mk (Below.trod hl k.1 k.2 h0 hb fun x hx => hp x (by simp [hx])) (trodAll_below hl hb ts vs0 ds0 q0 (fun t' h' => ht t' (by simp [h'])) r0 fun x hx => hp x (by simp [hx]))

/-- What the row asks behind a law that returned true. -/
theorem law_post {H : Type} {enc : TypeId × Value → H} {P : Program} {f : Func} {s : ChangeSpec} {W W' : World} {args : Array Value} {ds : List (DataW H)} {before : List MemPlace}
    (hl : laidOutB P = true) (hW : DataW.Whole enc P f.params.toList s.vars false W args.toList ds [] before)
    (hv : s.vars = []) (hfv : (s.fn H (ds ++ [])).vars = []) (hfa : (s.fn H (ds ++ [])).args = ds)
    (hres : DataW.TrodAll enc P W' W.heap.size (fun _ => false) false f.resultTypes.toList ((Value.bool true).resultList f.resultTypes.size) (s.fn H (ds ++ [])).results [])
    (hr : ∀ t, t ∈ f.params.toList → P.readableRec t = true ∧ t < P.types.size) (hb : Below W.heap.size W W') :
    s.post enc P f false true false false W args (.bool true) W' := by
  have hW' := hW
  obtain ⟨p, q, hA, hV, rfl, _, _⟩ := hW
  have hV2 := hV
  rw [hv] at hV2
  obtain ⟨_, rfl⟩ := trodVars_none hV2
  refine ⟨ds, [], p ++ [], [], p, [], hW', hres, ?_, ?_, hb.frame _, fun h => by cases h⟩
  · rw [hfa]
    exact trodAll_below hl hb _ _ _ _ hr hA fun x hx => hW'.lt x (by simpa using hx)
  · rw [hfv, hv]
    rfl
theorem Has.stepA {w w2 : World} {b : Nat} {A : Array Value} {o : Obj} (h : Has w b A) (hb : Below (w.alloc o).heap.size (w.alloc o) w2) : Has w2 b A := (h.alloc o).below hb
theorem Has.stepN {w w2 : World} {A : Array Value} {t : TypeId} (hb : Below (w.alloc (.cells A t)).heap.size (w.alloc (.cells A t)) w2) : Has w2 w.heap.size A := (Has.new w A t).below hb
theorem _root_.Go.RowKit.Below.stepA {B : Nat} {w0 w w2 : World} {o : Obj} (h : Below B w0 w) (hB : B ≤ w.heap.size) (hb : Below (w.alloc o).heap.size (w.alloc o) w2) : Below B w0 w2 :=
  (h.alloc hB o).trans (hb.mono (by simp; omega))
theorem _root_.Go.RowKit.Below.step {B : Nat} {w0 w w2 : World} (h : Below B w0 w) (hB : B ≤ w.heap.size) (hb : Below w.heap.size w w2) : Below B w0 w2 := h.trans (hb.mono hB)
theorem via {w W w1 : World} (h1 : Below w.heap.size w W) (h2 : Below W.heap.size W w1) : Below w.heap.size w w1 := h1.trans (h2.mono h1.size)
theorem own1 (w : World) (o1 : Obj) : Below w.heap.size w (w.alloc o1) := (Below.refl _ _).alloc (Nat.le_refl _) _
theorem own2 (w : World) (o1 o2 : Obj) : Below w.heap.size w ((w.alloc o1).alloc o2) := (own1 w o1).alloc (by simp) _
theorem own3 (w : World) (o1 o2 o3 : Obj) : Below w.heap.size w (((w.alloc o1).alloc o2).alloc o3) := (own2 w o1 o2).alloc (by simp; omega) _
theorem own4 (w : World) (o1 o2 o3 o4 : Obj) : Below w.heap.size w ((((w.alloc o1).alloc o2).alloc o3).alloc o4) := (own3 w o1 o2 o3).alloc (by simp; omega) _
theorem vian {n : Nat} {W0 W w1 : World} (hn : n ≤ W0.heap.size) (h1 : Below n W0 W) (h2 : Below W.heap.size W w1) : Below n W0 w1 := h1.trans (h2.mono (Nat.le_trans hn h1.size))
theorem store1 {n : Nat} {W0 W : World} (h : Below n W0 W) {b : Nat} (hb : n ≤ b) (o : Nat) (v : Value) : Below n W0 (W.setCell ⟨b, o, none⟩ v) := h.setCell hb v
theorem set2 {B : Nat} {w0 w : World} (h : Below B w0 w) (b : Nat) (hb : B ≤ b) (v0 v1 : Value) : Below B w0 (World.setCell (World.setCell w ⟨b, 0, none⟩ (v0)) ⟨b, 1, none⟩ (v1)) :=
  ((h.setCell hb _).setCell hb _)
theorem Has.put2 {w : World} {b : Nat} {a0 a1 : Value} (h : Has w b #[a0, a1]) (v0 v1 : Value) : Has (World.setCell (World.setCell w ⟨b, 0, none⟩ (v0)) ⟨b, 1, none⟩ (v1)) b #[v0, v1] := by
  have := ((h.set 0 v0 (by simp)).set 1 v1 (by simp))
  simpa using this
theorem Has.far2 {w : World} {r b : Nat} {A : Array Value} (h : Has w r A) (hn : r ≠ b) (v0 v1 : Value) : Has (World.setCell (World.setCell w ⟨b, 0, none⟩ (v0)) ⟨b, 1, none⟩ (v1)) r A :=
  ((h.far ⟨b, 0, none⟩ v0 (fun e => hn e.symm)).far ⟨b, 1, none⟩ v1 (fun e => hn e.symm))
end Go.Proofs.Ytnfjgofmfaadnaa
