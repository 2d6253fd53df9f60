/-
  Blocks of memory that stay as they are while calls make memory; the end of every law; bounds of kinds: for every world; no condition.
-/
import Derived.Test.YtklbhbappaibgaaRows
import Derived.WalkKit
import Derived.ProofKit
import Derived.OpenShut
import Derived.WalkLawsBesides
import Derived.Outline
import Derived.Lib.Hide
import Derived.Laws.BitsAllLaws
import Derived.Laws.ShiftsVarLaws
import Derived.BigRegion
import Derived.Below
import Derived.Deep.RegionHeld3
import Derived.Carry
import Derived.Laws.Small
import Derived.Deep.MidRow
import Derived.Deep.Fields
namespace Go.Proofs.Ytklbhbappaibgaa
open Go.ChangeShapes Go.WideShapes Go.ChangeAt Go.RowKit

theorem bcell {W w1 : World} (hb : Below W.heap.size W w1) : (∀ b o, b < W.heap.size → w1.cell? ⟨b, o, none⟩ = W.cell? ⟨b, o, none⟩) ∧ (∀ b o, b < W.heap.size → w1.frozen? ⟨b, o, none⟩ = W.frozen? ⟨b, o, none⟩) :=
  ⟨fun b o h => hb.cell (p := ⟨b, o, none⟩) h, fun b o h => hb.frozen (p := ⟨b, o, none⟩) h⟩

/-- The block b holds just the cells A, and may be written. -/
def Has (w : World) (b : Nat) (A : Array Value) : Prop := b < w.heap.size ∧ (∀ o, w.cell? ⟨b, o, none⟩ = A[o]?) ∧ (∀ o, w.frozen? ⟨b, o, none⟩ = false)
theorem Has.new (w : World) (A : Array Value) (t : TypeId) : Has (w.alloc (.cells A t)) w.heap.size A :=
  ⟨by simp, fun o => by simp [go_sem], fun o => by simp [go_sem]⟩
theorem Has.below {w w' : World} {b : Nat} {A : Array Value} (h : Has w b A) (hb : Below w.heap.size w w') : Has w' b A := by
  obtain ⟨hc, hf⟩ := bcell hb
  exact ⟨Nat.lt_of_lt_of_le h.1 hb.size, fun o => (hc b o h.1).trans (h.2.1 o), fun o => (hf b o h.1).trans (h.2.2 o)⟩
theorem Has.alloc {w : World} {b : Nat} {A : Array Value} (h : Has w b A) (o : Obj) : Has (w.alloc o) b A :=
  h.below ((Below.refl _ _).alloc (Nat.le_refl _) _)
theorem Has.drew {w : World} {b : Nat} {A : Array Value} (h : Has w b A) : Has w.drew b A :=
  h.below (Below.refl _ _).drew
theorem Has.set {w : World} {b : Nat} {A : Array Value} (h : Has w b A) (k : Nat) (v : Value) (hk : k < A.size) : Has (w.setCell ⟨b, k, none⟩ v) b (A.setIfInBounds k v) := by
  refine ⟨by simpa using h.1, fun o => ?_, fun o => ?_⟩
  · by_cases e : k = o
    · subst e
      rw [World.cell?_setCell_same w _ _ (u := A[k]) (by rw [h.2.1, Array.getElem?_eq_getElem hk])]
      simp [hk]
    · rw [World.cell?_setCell_other w _ _ _ (by intro h; injection h; contradiction), h.2.1, Array.getElem?_setIfInBounds_ne e]
  · simpa [go_sem] using h.2.2 o
theorem Has.far {w : World} {b : Nat} {A : Array Value} (h : Has w b A) (a : Addr) (v : Value) (hk : ¬ a.block = b) : Has (w.setCell a v) b A := by
  refine ⟨by simpa using h.1, fun o => ?_, fun o => ?_⟩
  · rw [World.cell?_setCell_other w _ _ _ (fun h => hk (by rw [h])), h.2.1]
  · simpa [go_sem] using h.2.2 o
theorem Has.out {w : World} {b : Nat} {A : Array Value} (h : Has w b A) : (∀ o, w.cell? ⟨b, o, none⟩ = A[o]?) ∧ (∀ o, w.frozen? ⟨b, o, none⟩ = false) := h.2

theorem u8_bd {a : Int} (h : (Lit.int .u8 a).wf = true) : 0 ≤ a ∧ a < 256 := by
  simp [Lit.wf, IntKind.min, IntKind.max, IntKind.bits, IntKind.signed] at h; omega
theorem u16_bd {a : Int} (h : (Lit.int .u16 a).wf = true) : 0 ≤ a ∧ a < 65536 := by
  simp [Lit.wf, IntKind.min, IntKind.max, IntKind.bits, IntKind.signed] at h; omega
theorem i64_bd {a : Int} (h : (Lit.int .i64 a).wf = true) : -9223372036854775808 ≤ a ∧ a ≤ 9223372036854775807 := by
  simp [Lit.wf, IntKind.min, IntKind.max, IntKind.bits, IntKind.signed] at h; omega
theorem own : ownKnob Try.prog.godebug = none := by kernel_rfl
theorem laidOut : laidOutB Try.prog = true := by kernel_rfl

theorem trodAll_below {H : Type} {enc : TypeId × Value → H} {P : Program} (hl : laidOutB P = true) {W W' : World} (hb : Below W.heap.size W W') :
    ∀ (ts : List TypeId) (vs : List Value) (ds : List (DataW H)) (p : List MemPlace), (∀ t, t ∈ ts → P.readableRec t = true ∧ t < P.types.size) →
      DataW.TrodAll enc P W 0 (fun _ => true) true ts vs ds p → (∀ x, x ∈ p → x.block < W.heap.size) →
      DataW.TrodAll enc P W' 0 (fun b => decide (b < W.heap.size)) true ts vs ds p
  | [], vs, ds, p, _, h, _ => by
    obtain ⟨rfl, rfl, rfl⟩ := trodAll_nil h
    exact trodAll_mk0
  | t :: ts, vs, ds, p, ht, h, hp => by
    obtain ⟨v0, vs0, d0, ds0, p0, q0, rfl, rfl, rfl, h0, r0⟩ := trodAll_cons h
    have k := ht t (by simp)
    exact trodAll_cons_mk (Below.trod hl k.1 k.2 h0 hb fun x hx => hp x (by simp [hx])) (trodAll_below hl hb ts vs0 ds0 q0 (fun t' h' => ht t' (by simp [h'])) r0 fun x hx => hp x (by simp [hx]))

/-- What the row asks behind a law that returned true. -/
theorem law_post {H : Type} {enc : TypeId × Value → H} {P : Program} {f : Func} {s : ChangeSpec} {W W' : World} {args : Array Value} {ds : List (DataW H)} {before : List MemPlace}
    (hl : laidOutB P = true) (hW : DataW.Whole enc P f.params.toList s.vars false W args.toList ds [] before)
    (hv : s.vars = []) (hfv : (s.fn H (ds ++ [])).vars = []) (hfa : (s.fn H (ds ++ [])).args = ds)
    (hres : DataW.TrodAll enc P W' W.heap.size (fun _ => false) false f.resultTypes.toList ((Value.bool true).resultList f.resultTypes.size) (s.fn H (ds ++ [])).results [])
    (hr : ∀ t, t ∈ f.params.toList → P.readableRec t = true ∧ t < P.types.size) (hb : Below W.heap.size W W') :
    s.post enc P f false true false false W args (.bool true) W' := by
  have hW' := hW
  obtain ⟨p, q, hA, hV, rfl, _, _⟩ := hW
  have hV2 := hV
  rw [hv] at hV2
  obtain ⟨_, rfl⟩ := trodVars_none hV2
  refine ⟨ds, [], p ++ [], [], p, [], hW', hres, ?_, ?_, hb.frame _, fun h => by cases h⟩
  · rw [hfa]
    exact trodAll_below hl hb _ _ _ _ hr hA fun x hx => hW'.lt x (by simpa using hx)
  · rw [hfv, hv]
    rfl
theorem Has.stepA {w w2 : World} {b : Nat} {A : Array Value} {o : Obj} (h : Has w b A) (hb : Below (w.alloc o).heap.size (w.alloc o) w2) : Has w2 b A := (h.alloc o).below hb
theorem Has.stepN {w w2 : World} {A : Array Value} {t : TypeId} (hb : Below (w.alloc (.cells A t)).heap.size (w.alloc (.cells A t)) w2) : Has w2 w.heap.size A := (Has.new w A t).below hb
theorem _root_.Go.RowKit.Below.stepA {B : Nat} {w0 w w2 : World} {o : Obj} (h : Below B w0 w) (hB : B ≤ w.heap.size) (hb : Below (w.alloc o).heap.size (w.alloc o) w2) : Below B w0 w2 :=
  (h.alloc hB o).trans (hb.mono (by simp; omega))
theorem _root_.Go.RowKit.Below.step {B : Nat} {w0 w w2 : World} (h : Below B w0 w) (hB : B ≤ w.heap.size) (hb : Below w.heap.size w w2) : Below B w0 w2 := h.trans (hb.mono hB)
theorem via {w W w1 : World} (h1 : Below w.heap.size w W) (h2 : Below W.heap.size W w1) : Below w.heap.size w w1 := h1.trans (h2.mono h1.size)
theorem own1 (w : World) (o1 : Obj) : Below w.heap.size w (w.alloc o1) := (Below.refl _ _).alloc (Nat.le_refl _) _
theorem own2 (w : World) (o1 o2 : Obj) : Below w.heap.size w ((w.alloc o1).alloc o2) := (own1 w o1).alloc (by simp) _
theorem own3 (w : World) (o1 o2 o3 : Obj) : Below w.heap.size w (((w.alloc o1).alloc o2).alloc o3) := (own2 w o1 o2).alloc (by simp; omega) _
theorem own4 (w : World) (o1 o2 o3 o4 : Obj) : Below w.heap.size w ((((w.alloc o1).alloc o2).alloc o3).alloc o4) := (own3 w o1 o2 o3).alloc (by simp; omega) _
theorem vian {n : Nat} {W0 W w1 : World} (hn : n ≤ W0.heap.size) (h1 : Below n W0 W) (h2 : Below W.heap.size W w1) : Below n W0 w1 := h1.trans (h2.mono (Nat.le_trans hn h1.size))
theorem store1 {n : Nat} {W0 W : World} (h : Below n W0 W) {b : Nat} (hb : n ≤ b) (o : Nat) (v : Value) : Below n W0 (W.setCell ⟨b, o, none⟩ v) := h.setCell hb v

/-- From w to w' only the block b may have changed, and blocks may have come. -/
structure Keeps (b : Nat) (w w' : World) : Prop where
  os : w'.os = w.os
  tape : w'.tape = w.tape
  output : w'.output = w.output
  size : w.heap.size ≤ w'.heap.size
  block : ∀ k, k < w.heap.size → k ≠ b → w'.heap[k]? = w.heap[k]?
theorem Keeps.refl (b : Nat) (w : World) : Keeps b w w := ⟨rfl, rfl, rfl, Nat.le_refl _, fun _ _ _ => rfl⟩
theorem Keeps.trans {b : Nat} {x y z : World} (h : Keeps b x y) (k : Keeps b y z) : Keeps b x z :=
  ⟨k.os.trans h.os, k.tape.trans h.tape, k.output.trans h.output, Nat.le_trans h.size k.size, fun i hi hn => (k.block i (Nat.lt_of_lt_of_le hi h.size) hn).trans (h.block i hi hn)⟩
theorem Keeps.of_below {b : Nat} {w w' : World} (h : Below w.heap.size w w') : Keeps b w w' := ⟨h.os, h.tape, h.output, h.size, fun k hk _ => h.block k hk⟩
theorem Keeps.drew {b : Nat} {x w : World} (h : Keeps b x w) : Keeps b x w.drew := ⟨h.os, h.tape, h.output, h.size, h.block⟩
theorem Keeps.setCell {b : Nat} {x w : World} (h : Keeps b x w) (o : Nat) (v : Value) : Keeps b x (w.setCell ⟨b, o, none⟩ v) :=
  ⟨h.os, h.tape, h.output, by simpa using h.size, fun k hk hn => (Below.heap_setCell w ⟨b, o, none⟩ v k hn).trans (h.block k hk hn)⟩
theorem Keeps.setCells {b : Nat} : ∀ (vs : List Value) (o : Nat) {x w : World}, Keeps b x w → Keeps b x (w.setCells b o vs)
  | [], _, _, _, h => h
  | v :: vs, o, _, _, h => by rw [World.setCells]; exact Keeps.setCells vs (o + 1) (h.setCell o v)
theorem Keeps.below {b n : Nat} {W0 w w' : World} (h : Keeps b w w') (hn : n ≤ W0.heap.size) (hb : n ≤ b) (k : Below n W0 w) : Below n W0 w' :=
  ⟨h.os.trans k.os, h.tape.trans k.tape, h.output.trans k.output, Nat.le_trans k.size h.size, fun i hi => (h.block i (by have := k.size; omega) (by omega)).trans (k.block i hi)⟩
theorem cell_block {w w' : World} {c : Nat} (e : w'.heap[c]? = w.heap[c]?) (o : Nat) : w'.cell? ⟨c, o, none⟩ = w.cell? ⟨c, o, none⟩ ∧ w'.frozen? ⟨c, o, none⟩ = w.frozen? ⟨c, o, none⟩ := by
  unfold World.cell? World.frozen?
  dsimp only
  constructor <;> rw [e]
theorem Keeps.has {b c : Nat} {w w' : World} {A : Array Value} (h : Keeps b w w') (hc : c ≠ b) (k : Has w c A) : Has w' c A :=
  ⟨Nat.lt_of_lt_of_le k.1 h.size, fun o => ((cell_block (h.block c k.1 hc) o).1).trans (k.2.1 o), fun o => ((cell_block (h.block c k.1 hc) o).2).trans (k.2.2 o)⟩
theorem Has.there {w : World} {b : Nat} {A : Array Value} (h : Has w b A) : w.there b 0 A.size := fun j hj =>
  ⟨by rw [h.2.1]; simp [hj], h.2.2 _⟩
theorem Has.puts {w : World} {b : Nat} {A A2 : Array Value} (h : Has w b A) (hs : A.size = A2.size) : Has (w.setCells b 0 A2.toList) b A2 := by
  refine ⟨Nat.lt_of_lt_of_le h.1 (Keeps.setCells (b := b) A2.toList 0 (Keeps.refl b w)).size, fun o => ?_, fun o => ?_⟩
  · by_cases ho : o < A2.size
    · have := World.cell?_setCells_in b A2.toList 0 w (fun i hi => by have := (h.there i (by simpa [hs] using hi)).1; simpa using this) o (by simpa using ho)
      simpa [ho] using this
    · rw [World.cell?_setCells_out b A2.toList 0 w ⟨b, o, none⟩ (fun _ _ => by right; simpa using ho)]
      rw [h.2.1]
      simp [hs, ho]
  · rw [World.frozen?_setCells]; exact h.2.2 o
end Go.Proofs.Ytklbhbappaibgaa
