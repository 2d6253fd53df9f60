/-
  What stays while ops.firstQuarter and ops.lastQuarter call: for every world; no condition.
-/
import Derived.Test.YtngdogldgcgnjaaGreatLeafA
import Derived.Test.YtngdogldgcgnjaaGreatLeafC
namespace Go.Proofs.YtngdogldgcgnjaaGreat
open Go.ChangeShapes Go.WideShapes Go.ChangeAt Go.RowKit

def Rest (w0 : World) (w : World) : Prop := (∃ v0 v1 v2 v3 v4 : Value, Has w (w0.heap.size + 1) #[v0, v1, v2, v3, v4]) ∧ Below w0.heap.size w0 w ∧ w0.heap.size < w.heap.size
theorem St.below {w0 W w2 : World} {A : Array Value} (h : (∀ o, W.cell? ⟨w0.heap.size, o, none⟩ = A[o]?) ∧ Rest w0 W) (hb : Below W.heap.size W w2) :
  (∀ o, w2.cell? ⟨w0.heap.size, o, none⟩ = A[o]?) ∧ Rest w0 w2 := by
 obtain ⟨hc, _⟩ := bcell hb
 obtain ⟨h0, ⟨v0, v1, v2, v3, v4, h1⟩, h2, h3⟩ := h
 exact ⟨fun o => (hc _ o h3).trans (h0 o), ⟨v0, v1, v2, v3, v4, h1.below hb⟩, via h2 hb, Nat.lt_of_lt_of_le h3 hb.size⟩
theorem St.alloc {w0 W : World} {A : Array Value} (h : (∀ o, W.cell? ⟨w0.heap.size, o, none⟩ = A[o]?) ∧ Rest w0 W) (o : Obj) :
  (∀ o', (W.alloc o).cell? ⟨w0.heap.size, o', none⟩ = A[o']?) ∧ Rest w0 (W.alloc o) := St.below h (own1 W o)
theorem St.new (w0 : World) (A : Array Value) (t t' : TypeId) :
  (∀ o, ((w0.alloc (.cells A t)).alloc (.cells #[.int .i64 0, .int .i64 0, .int .i64 0, .int .i64 0, .int .u16 0] t')).drew.cell? ⟨w0.heap.size, o, none⟩ = A[o]?) ∧ Rest w0 ((w0.alloc (.cells A t)).alloc (.cells #[.int .i64 0, .int .i64 0, .int .i64 0, .int .i64 0, .int .u16 0] t')).drew := by
 have h1 := (Has.new w0 A t).alloc (.cells #[.int .i64 0, .int .i64 0, .int .i64 0, .int .i64 0, .int .u16 0] t')
 have h2 := Has.new (w0.alloc (.cells A t)) #[.int .i64 0, .int .i64 0, .int .i64 0, .int .i64 0, .int .u16 0] t'
 exact ⟨h1.drew.2.1, ⟨_, _, _, _, _, by simpa using h2.drew⟩, (own2 _ _ _).drew, by simp; omega⟩
theorem St.set5 {w0 W : World} {A : Array Value} (h : (∀ o, W.cell? ⟨w0.heap.size, o, none⟩ = A[o]?) ∧ Rest w0 W) (a0 a1 a2 a3 a4 : Value) :
  (∀ o, (((((W.setCell ⟨w0.heap.size + 1, 0, none⟩ a0).setCell ⟨w0.heap.size + 1, 1, none⟩ a1).setCell ⟨w0.heap.size + 1, 2, none⟩ a2).setCell ⟨w0.heap.size + 1, 3, none⟩ a3).setCell ⟨w0.heap.size + 1, 4, none⟩ a4).cell? ⟨w0.heap.size, o, none⟩ = A[o]?)
   ∧ Rest w0 (((((W.setCell ⟨w0.heap.size + 1, 0, none⟩ a0).setCell ⟨w0.heap.size + 1, 1, none⟩ a1).setCell ⟨w0.heap.size + 1, 2, none⟩ a2).setCell ⟨w0.heap.size + 1, 3, none⟩ a3).setCell ⟨w0.heap.size + 1, 4, none⟩ a4) := by
 obtain ⟨h0, ⟨v0, v1, v2, v3, v4, h1⟩, h2, h3⟩ := h
 refine ⟨fun o => ?_, ⟨_, _, _, _, _, ((((h1.set 0 a0 (by simp)).set 1 a1 (by simp)).set 2 a2 (by simp)).set 3 a3 (by simp)).set 4 a4 (by simp)⟩, YtngdogldgcgnjaaGreat.set5 h2 _ (Nat.le_succ _) _ _ _ _ _, by simpa using h3⟩
 have n : ∀ k o : Nat, (⟨w0.heap.size + 1, k, none⟩ : Addr) ≠ ⟨w0.heap.size, o, none⟩ := fun k o h => by have := congrArg Addr.block h; simp at this
 rw [World.cell?_setCell_other _ _ _ _ (n _ _), World.cell?_setCell_other _ _ _ _ (n _ _), World.cell?_setCell_other _ _ _ _ (n _ _), World.cell?_setCell_other _ _ _ _ (n _ _), World.cell?_setCell_other _ _ _ _ (n _ _), h0]
theorem Has.lt {w : World} {b : Nat} {A : Array Value} (h : Has w b A) : b < w.heap.size := h.1
theorem Has.c0 {w : World} {b : Nat} {x : Int} (h : Has w b #[.int .i64 x]) : w.cell? ⟨b, 0, none⟩ = some (.int .i64 x) := h.2.1 0
theorem either_m (q k x s k' x' s' : Int) (r : OpV) (hr : eitherF q ⟨k, x, 0, s, 0⟩ ⟨k', x', 0, s', 0⟩ = r) (w : World) : Calls Tryz.prog 133 #[.int .i64 q, .agg #[.int .i64 k, .int .i64 x, .int .i64 0, .int .i64 s, .int .u16 0], .agg #[.int .i64 k', .int .i64 x', .int .i64 0, .int .i64 s', .int .u16 0]] w fun e w' =>
  e = .returned (.agg #[.int .i64 r.k, .int .i64 r.x, .int .i64 r.y, .int .i64 r.s, .int .u16 r.n]) ∧ Below w.heap.size w w' := hr ▸ either_c q ⟨k, x, 0, s, 0⟩ ⟨k', x', 0, s', 0⟩ w

theorem either_n (q k x s : Int) (b r : OpV) (hr : eitherF q ⟨k, x, 0, s, 0⟩ b = r) (w : World) : Calls Tryz.prog 133 #[.int .i64 q, .agg #[.int .i64 k, .int .i64 x, .int .i64 0, .int .i64 s, .int .u16 0], .agg #[.int .i64 b.k, .int .i64 b.x, .int .i64 b.y, .int .i64 b.s, .int .u16 b.n]] w fun e w' =>
  e = .returned (.agg #[.int .i64 r.k, .int .i64 r.x, .int .i64 r.y, .int .i64 r.s, .int .u16 r.n]) ∧ Below w.heap.size w w' := hr ▸ either_c q ⟨k, x, 0, s, 0⟩ b w
theorem stk_m (p s : Int) (hs : stkF p = s) (w : World) : Calls Tryz.prog 136 #[.int .i64 p] w fun e w' => e = .returned (.int .i64 s) ∧ w = w' := hs ▸ stk_c p w

def fqF (y z p q : Int) : OpV := if z = 0 then relF y else if z = 1 then eitherF q ⟨9, p, 0, 3, 0⟩ ⟨16, p, 0, 1, 0⟩ else if z = 2 then eitherF q ⟨33, p, 0, 1, 0⟩ ⟨32, p, 0, 1, 0⟩
 else if z = 3 then eitherF q ⟨14, p, 0, 1, 0⟩ ⟨15, p, 0, 1, 0⟩ else if z = 4 then ⟨12, y, 0, 1, 0⟩ else if z = 5 then ⟨13, y, 0, 1, 0⟩ else if z = 6 then ⟨8, y, 0, 2, 0⟩ else ofAF y
def lqF (y z p q : Int) : OpV := if z = 0 then rohF y else if z = 1 then eitherF q ⟨31, stkF p, 0, 1, 0⟩ (woF p) else if z = 2 then jofF y
 else if z = 3 then josF y else if z = 4 then ccF y else if z = 5 then eitherF q ⟨30, stkF p, 0, 1, 0⟩ (callF p) else if z = 6 then ⟨11, y, 0, 2, 0⟩ else ⟨28, 0, 0, 1, 8 * y⟩
end Go.Proofs.YtngdogldgcgnjaaGreat
