/-
  The end of every law: if a law's walk returns true and leaves all old memory as it was, the row's post holds, whatever the arguments' types (each of which must be readable); no other condition.
-/
import Derived.Test.YtiolfmmekcahaaaOpen
import Derived.Carry
namespace Go.Proofs.Ytiolfmmekcahaaa
open Go.ChangeShapes Go.WideShapes Go.ChangeAt Go.RowKit

theorem trodAll_below {H : Type} {enc : TypeId × Value → H} {P : Program} (hl : laidOutB P = true) {W W' : World} (hb : Below W.heap.size W W') :
    ∀ (ts : List TypeId) (vs : List Value) (ds : List (DataW H)) (p : List MemPlace), (∀ t, t ∈ ts → P.readableRec t = true ∧ t < P.types.size) →
      DataW.TrodAll enc P W 0 (fun _ => true) true ts vs ds p → (∀ x, x ∈ p → x.block < W.heap.size) →
      DataW.TrodAll enc P W' 0 (fun b => decide (b < W.heap.size)) true ts vs ds p
  | [], vs, ds, p, _, h, _ => by
    obtain ⟨rfl, rfl, rfl⟩ := trodAll_nil h
    exact trodAll_mk0
  | t :: ts, vs, ds, p, ht, h, hp => by
    obtain ⟨v0, vs0, d0, ds0, p0, q0, rfl, rfl, rfl, h0, r0⟩ := trodAll_cons h
    have k := ht t (by simp)
    exact trodAll_cons_mk (Below.trod hl k.1 k.2 h0 hb fun x hx => hp x (by simp [hx])) (trodAll_below hl hb ts vs0 ds0 q0 (fun t' h' => ht t' (by simp [h'])) r0 fun x hx => hp x (by simp [hx]))

/-- What the row asks behind a law that returned true. -/
theorem law_post {H : Type} {enc : TypeId × Value → H} {P : Program} {f : Func} {s : ChangeSpec} {W W' : World} {args : Array Value} {ds : List (DataW H)} {before : List MemPlace}
    (hl : laidOutB P = true) (hW : DataW.Whole enc P f.params.toList s.vars false W args.toList ds [] before)
    (hv : s.vars = []) (hfv : (s.fn H (ds ++ [])).vars = []) (hfa : (s.fn H (ds ++ [])).args = ds)
    (hres : DataW.TrodAll enc P W' W.heap.size (fun _ => false) false f.resultTypes.toList ((Value.bool true).resultList f.resultTypes.size) (s.fn H (ds ++ [])).results [])
    (hr : ∀ t, t ∈ f.params.toList → P.readableRec t = true ∧ t < P.types.size) (hb : Below W.heap.size W W') :
    s.post enc P f false true false false W args (.bool true) W' := by
  have hW' := hW
  obtain ⟨p, q, hA, hV, rfl, _, _⟩ := hW
  have hV2 := hV
  rw [hv] at hV2
  obtain ⟨_, rfl⟩ := trodVars_none hV2
  refine ⟨ds, [], p ++ [], [], p, [], hW', hres, ?_, ?_, hb.frame _, fun h => by cases h⟩
  · rw [hfa]
    exact trodAll_below hl hb _ _ _ _ hr hA fun x hx => hW'.lt x (by simpa using hx)
  · rw [hfv, hv]
    rfl
theorem Has.stepA {w w2 : World} {b : Nat} {A : Array Value} {o : Obj} (h : Has w b A) (hb : Below (w.alloc o).heap.size (w.alloc o) w2) : Has w2 b A := (h.alloc o).below hb
theorem Has.stepN {w w2 : World} {A : Array Value} {t : TypeId} (hb : Below (w.alloc (.cells A t)).heap.size (w.alloc (.cells A t)) w2) : Has w2 w.heap.size A := (Has.new w A t).below hb
theorem _root_.Go.RowKit.Below.stepA {B : Nat} {w0 w w2 : World} {o : Obj} (h : Below B w0 w) (hB : B ≤ w.heap.size) (hb : Below (w.alloc o).heap.size (w.alloc o) w2) : Below B w0 w2 :=
  (h.alloc hB o).trans (hb.mono (by simp; omega))
theorem _root_.Go.RowKit.Below.step {B : Nat} {w0 w w2 : World} (h : Below B w0 w) (hB : B ≤ w.heap.size) (hb : Below w.heap.size w w2) : Below B w0 w2 := h.trans (hb.mono hB)
end Go.Proofs.Ytiolfmmekcahaaa
