/-
  The document's unit in memory: a struct and two memories; what a store, and a call, keep: for every world; no condition.
-/
import Derived.Test.YtpfbodmadmneiaaUe
namespace Go.Proofs.Ytpfbodmadmneiaa
open Go.ChangeShapes Go.WideShapes Go.ChangeAt Go.RowKit
set_option linter.unusedVariables false
set_option linter.unusedSimpArgs false
structure RU (w : World) (r v s : Nat) (m : M) : Prop where
  R : Has w r (encR v s m)
  V : Has w v (encV m)
  S : Has w s (encS m)
  rv : r ≠ v
  rs : r ≠ s
  vs : v ≠ s
/-- From w to w' only the blocks r, v and s may have changed, and blocks may have come. -/
structure Keep3 (r v s : Nat) (w w' : World) : Prop where
  os : w'.os = w.os
  tape : w'.tape = w.tape
  output : w'.output = w.output
  size : w.heap.size ≤ w'.heap.size
  block : ∀ k, k < w.heap.size → k ≠ r → k ≠ v → k ≠ s → w'.heap[k]? = w.heap[k]?
theorem Keep3.refl (r v s : Nat) (w : World) : Keep3 r v s w w := ⟨rfl, rfl, rfl, Nat.le_refl _, fun _ _ _ _ _ => rfl⟩
theorem Keep3.trans {r v s : Nat} {x y z : World} (h : Keep3 r v s x y) (k : Keep3 r v s y z) : Keep3 r v s x z :=
  ⟨k.os.trans h.os, k.tape.trans h.tape, k.output.trans h.output, Nat.le_trans h.size k.size, fun i hi a b c => (k.block i (Nat.lt_of_lt_of_le hi h.size) a b c).trans (h.block i hi a b c)⟩
theorem Keep3.of_below {r v s : Nat} {w w' : World} (h : Below w.heap.size w w') : Keep3 r v s w w' := ⟨h.os, h.tape, h.output, h.size, fun k hk _ _ _ => h.block k hk⟩
theorem Keep3.ofR {r v s : Nat} {w w' : World} (h : Keeps r w w') : Keep3 r v s w w' := ⟨h.os, h.tape, h.output, h.size, fun k hk a _ _ => h.block k hk a⟩
theorem Keep3.ofV {r v s : Nat} {w w' : World} (h : Keeps v w w') : Keep3 r v s w w' := ⟨h.os, h.tape, h.output, h.size, fun k hk _ a _ => h.block k hk a⟩
theorem Keep3.ofS {r v s : Nat} {w w' : World} (h : Keeps s w w') : Keep3 r v s w w' := ⟨h.os, h.tape, h.output, h.size, fun k hk _ _ a => h.block k hk a⟩
theorem Keep3.drew {r v s : Nat} {x w : World} (h : Keep3 r v s x w) : Keep3 r v s x w.drew := ⟨h.os, h.tape, h.output, h.size, h.block⟩
theorem Keep3.drewN {r v s : Nat} {x w : World} (h : Keep3 r v s x w) (n : Nat) : Keep3 r v s x (w.drewN n) := h.trans (Keep3.of_below (below_drewN (Below.refl _ _) n))
theorem Keep3.below {r v s n : Nat} {W0 w w' : World} (h : Keep3 r v s w w') (hn : n ≤ W0.heap.size) (hr : n ≤ r) (hv : n ≤ v) (hs : n ≤ s) (k : Below n W0 w) : Below n W0 w' :=
  ⟨h.os.trans k.os, h.tape.trans k.tape, h.output.trans k.output, Nat.le_trans k.size h.size, fun i hi => (h.block i (by have := k.size; omega) (by omega) (by omega) (by omega)).trans (k.block i hi)⟩
theorem Keep3.has {r v s c : Nat} {w w' : World} {A : Array Value} (h : Keep3 r v s w w') (hr : c ≠ r) (hv : c ≠ v) (hs : c ≠ s) (k : Has w c A) : Has w' c A :=
  ⟨Nat.lt_of_lt_of_le k.1 h.size, fun o => ((cell_block (h.block c k.1 hr hv hs) o).1).trans (k.2.1 o), fun o => ((cell_block (h.block c k.1 hr hv hs) o).2).trans (k.2.2 o)⟩
/-- A block of its own that is written. -/
theorem Keep3.new {r v s x : Nat} {w0 u u' : World} (h : Keep3 r v s w0 u) (hx : w0.heap.size ≤ x) (hk : Keeps x u u') : Keep3 r v s w0 u' :=
  ⟨hk.os.trans h.os, hk.tape.trans h.tape, hk.output.trans h.output, Nat.le_trans h.size hk.size, fun k h1 a b c => (hk.block k (Nat.lt_of_lt_of_le h1 h.size) (by omega)).trans (h.block k h1 a b c)⟩
theorem RU.below {w w' : World} {r v s : Nat} {m : M} (h : RU w r v s m) (hb : Below w.heap.size w w') : RU w' r v s m := ⟨h.R.below hb, h.V.below hb, h.S.below hb, h.rv, h.rs, h.vs⟩
theorem RU.drew {w : World} {r v s : Nat} {m : M} (h : RU w r v s m) : RU w.drew r v s m := ⟨h.R.drew, h.V.drew, h.S.drew, h.rv, h.rs, h.vs⟩
theorem RU.drewN {w : World} {r v s : Nat} {m : M} (h : RU w r v s m) (n : Nat) : RU (w.drewN n) r v s m := h.below (below_drewN (Below.refl _ _) n)
theorem RU.other {w w' : World} {x r v s : Nat} {m : M} (h : RU w r v s m) (hk : Keeps x w w') (hr : x ≠ r) (hv : x ≠ v) (hs : x ≠ s) : RU w' r v s m := ⟨hk.has (Ne.symm hr) h.R, hk.has (Ne.symm hv) h.V, hk.has (Ne.symm hs) h.S, h.rv, h.rs, h.vs⟩
/-- A cell of the struct was written. -/
theorem RU.setR {w w' : World} {r v s : Nat} {m : M} (h : RU w r v s m) (o : Nat) (z : Int) (ho : 8352 ≤ o) (hP : Has w' r (encR v s (upd m o z))) (hk : Keeps r w w') : RU w' r v s (upd m o z) :=
  ⟨hP, by rw [encV_far _ _ _ (by omega)]; exact hk.has (Ne.symm h.rv) h.V, by rw [encS_far _ _ _ (by omega)]; exact hk.has (Ne.symm h.rs) h.S, h.rv, h.rs, h.vs⟩
theorem RU.setRow {w w' : World} {r v s : Nat} {m : M} (h : RU w r v s m) (k : Nat) (f : M) (ho : 8352 ≤ k) (hP : Has w' r (encR v s (row m k 160 f))) (hk : Keeps r w w') : RU w' r v s (row m k 160 f) :=
  ⟨hP, by rw [encV_row _ _ _ _ (by omega)]; exact hk.has (Ne.symm h.rv) h.V, by rw [encS_row _ _ _ _ (by omega)]; exact hk.has (Ne.symm h.rs) h.S, h.rv, h.rs, h.vs⟩
theorem RU.setV {w w' : World} {r v s : Nat} {m : M} (h : RU w r v s m) (o : Nat) (z : Int) (ho : o < 8192) (hP : Has w' v (encV (upd m o z))) (hk : Keeps v w w') : RU w' r v s (upd m o z) :=
  ⟨by rw [encR_far _ _ _ _ _ (by omega)]; exact hk.has h.rv h.R, hP, by rw [encS_far _ _ _ (by omega)]; exact hk.has (Ne.symm h.vs) h.S, h.rv, h.rs, h.vs⟩
theorem RU.setS {w w' : World} {r v s : Nat} {m : M} (h : RU w r v s m) (o : Nat) (z : Int) (ho : o < 160) (hP : Has w' s (encS (upd m (8192 + o) z))) (hk : Keeps s w w') : RU w' r v s (upd m (8192 + o) z) :=
  ⟨by rw [encR_far _ _ _ _ _ (by omega)]; exact hk.has h.rs h.R, by rw [encV_far _ _ _ (by omega)]; exact hk.has h.vs h.V, hP, h.rv, h.rs, h.vs⟩
/-- What its cells hold. -/
theorem rc_u (v s : Nat) (m : M) (o : Nat) (x : Int) (h0 : 2 ≤ o) (h1 : o < 14) (h6 : o ≠ 6) (h8 : o ≠ 8) (h : m (rp o) = x) : (encR v s m)[o]? = some (.int .u8 x) := by
  rw [encR_get _ _ _ _ h0 (by omega) h6 h8, h]
  unfold rcell
  rw [if_neg (by omega), if_neg (by omega)]
theorem rc_i (v s : Nat) (m : M) (o : Nat) (x : Int) (h0 : 14 ≤ o) (h1 : o ≤ 17) (h : m (rp o) = x) : (encR v s m)[o]? = some (.int .i64 x) := by
  rw [encR_get _ _ _ _ (by omega) (by omega) (by omega) (by omega), h]
  unfold rcell
  rw [if_pos ⟨h0, h1⟩]
theorem rc_b (v s : Nat) (m : M) (x : Bool) (h : decide (m 8366 ≠ 0) = x) : (encR v s m)[18]? = some (.bool x) := by
  rw [encR_get _ _ _ _ (by omega) (by omega) (by omega) (by omega)]
  exact congrArg (fun x => some (Value.bool x)) h
end Go.Proofs.Ytpfbodmadmneiaa
