/-
  A bus in memory: its bytes, its list of accesses, and that its calls touch nothing else: for every world; no condition.
-/
import Derived.Test.YtngdogldgcgnjaaGreatPure
import Derived.Maps.AppendAt
import Derived.Deep.AppendLies
import Derived.StillTailTactics
import Derived.Deep.QuietTactic
import Derived.BigQuiet
import Derived.RegionTactic
namespace Go.Proofs.YtngdogldgcgnjaaGreat
open Go.ChangeShapes Go.WideShapes Go.ChangeAt Go.RowKit
open Reg
set_option linter.unusedVariables false

/-- All that was there is as it was, but the blocks of X. -/
structure Off (X : Nat → Prop) (w w' : World) : Prop where
 os : w'.os = w.os
 tape : w'.tape = w.tape
 output : w'.output = w.output
 size : w.heap.size ≤ w'.heap.size
 block : ∀ k, k < w.heap.size → ¬ X k → w'.heap[k]? = w.heap[k]?
section
variable {X Y : Nat → Prop} {x y z w w' : World}
theorem Off.refl (X : Nat → Prop) (w : World) : Off X w w := ⟨rfl, rfl, rfl, Nat.le_refl _, fun _ _ _ => rfl⟩
theorem Off.trans (h : Off X x y) (k : Off Y y z) (hxy : ∀ b, b < x.heap.size → Y b → X b) : Off X x z :=
 ⟨k.os.trans h.os, k.tape.trans h.tape, k.output.trans h.output, Nat.le_trans h.size k.size, fun i hi hn => (k.block i (Nat.lt_of_lt_of_le hi h.size) (fun hy => hn (hxy i hi hy))).trans (h.block i hi hn)⟩
theorem Off.mono (h : Off X w w') (hx : ∀ b, b < w.heap.size → X b → Y b) : Off Y w w' :=
 ⟨h.os, h.tape, h.output, h.size, fun k hk hn => h.block k hk (fun e => hn (hx k hk e))⟩
theorem Off.of (X : Nat → Prop) (h : Below w.heap.size w w') : Off X w w' := ⟨h.os, h.tape, h.output, h.size, fun k hk _ => h.block k hk⟩
theorem Off.setCell (w : World) (b o : Nat) (v : Value) (hx : X b) : Off X w (w.setCell ⟨b, o, none⟩ v) :=
 ⟨rfl, rfl, rfl, by simp [World.setCell], fun k _ hn => Below.heap_setCell _ _ _ _ (fun e => hn (by rw [show k = b from e]; exact hx))⟩
theorem Off.below {B : Nat} (h : Off X w w') (h1 : ∀ k, k < B → ¬ X k) (hB : B ≤ w.heap.size) : Below B w w' :=
 ⟨h.os, h.tape, h.output, h.size, fun k hk => h.block k (by omega) (h1 k hk)⟩
theorem Off.drew (h : Off X w w') : Off X w w'.drew := ⟨h.os, h.tape, h.output, h.size, h.block⟩
theorem Off.cell (h : Off X w w') {p : Addr} (hp : p.block < w.heap.size) (hn : ¬ X p.block) : w'.cell? p = w.cell? p := World.cell?_of_block (w := w) (h.block p.block hp hn)
theorem Off.frozen (h : Off X w w') {p : Addr} (hp : p.block < w.heap.size) (hn : ¬ X p.block) : w'.frozen? p = w.frozen? p := World.frozen?_of_block (w := w) (h.block p.block hp hn)
theorem Has.off {c : Nat} {A : Array Value} (h : Has w c A) (hb : Off X w w') (hn : ¬ X c) : Has w' c A :=
 ⟨Nat.lt_of_lt_of_le h.1 hb.size, fun o => (hb.cell (p := ⟨c, o, none⟩) h.1 hn).trans (h.2.1 o), fun o => (hb.frozen (p := ⟨c, o, none⟩) h.1 hn).trans (h.2.2 o)⟩
theorem Tab.off {b : Nat} {d m : Int} {kp kf : Nat} (h : Tab w b d m kp kf) (hb : Off X w w') (hn : ¬ X b) : Tab w' b d m kp kf := by
 have hc : ∀ o, w'.cell? ⟨b, o, none⟩ = w.cell? ⟨b, o, none⟩ := fun o => hb.cell (p := ⟨b, o, none⟩) h.lt hn
 have hf : ∀ o, w'.frozen? ⟨b, o, none⟩ = w.frozen? ⟨b, o, none⟩ := fun o => hb.frozen (p := ⟨b, o, none⟩) h.lt hn
 exact ⟨Nat.lt_of_lt_of_le h.lt hb.size, fun o ho => by rw [hc o]; exact h.some o ho, fun o => (hf o).trans (h.free o), (hc _).trans h.word, (hc _).trans h.lock,
  fun i j hi hj => (hc _).trans (h.plain i j hi hj), fun i j hi hj => (hc _).trans (h.pref i j hi hj)⟩
theorem TabAny.off {b : Nat} (h : TabAny w b) (hb : Off X w w') (hn : ¬ X b) : TabAny w' b := h.imp (fun h => h.off hb hn) (fun h => h.off hb hn)
theorem TabAny.lt {b : Nat} (h : TabAny w b) : b < w.heap.size := by rcases h with h | h <;> exact h.lt
theorem owns_off {base n size : Nat} {e : TypeId} {v : Value} {xs : List Value} (h : w.ownsRow base e size v n xs) (hb : Off X w w') (hn : ∀ k, v.ownBlock = some k → ¬ X k) : w'.ownsRow base e size v n xs := by
 refine ⟨h.1, ?_⟩
 rcases h.2 with h0 | ⟨g, cap, cur, rfl, hbb, hgg, rest⟩
 ·exact .inl h0
 ·refine .inr ⟨g, cap, cur, rfl, hbb, ?_, rest⟩
  rw [hb.block g (Array.getElem?_eq_some_iff.1 hgg).1 (hn g rfl)]
  exact hgg
end

/-- The blocks that a bus's calls may change. -/
def BX (R M tb : Nat) (v : Value) (k : Nat) : Prop := k = R ∨ k = M ∨ k = tb ∨ v.ownBlock = some k
/-- A bus: a block R with its parts (C says how they lie), its bytes in the block M, its list of accesses v; beside it a table. -/
structure Bus (C : Nat → Int → Value → Array Value) (w : World) (R M tb : Nat) (v : Value) (m : Int → Int) (acc : List Ac) (n : Nat) : Prop where
 ram : ∃ q, Has w R (C M q v)
 mem : ∀ a : Nat, a < 65536 → w.cell? ⟨M, a, none⟩ = some (.int .u8 (m a))
 free : ∀ a, w.frozen? ⟨M, a, none⟩ = false
 mlt : M < w.heap.size
 own : w.ownsRow 0 59 3 v acc.length (accL acc)
 tab : TabAny w tb
 rm : R ≠ M
 rt : R ≠ tb
 mt : M ≠ tb
 vr : ∀ k, v.ownBlock = some k → k ≠ R ∧ k ≠ M ∧ k ≠ tb
 okm : ∀ a, 0 ≤ m a ∧ m a < 256
 len : acc.length ≤ n
/-- From one world and list to a later one. -/
def BM (R M tb : Nat) (v : Value) (w : World) (v' : Value) (w' : World) : Prop := Off (BX R M tb v) w w' ∧ ∀ k, v'.ownBlock = some k → v.ownBlock = some k ∨ w.heap.size ≤ k
section
variable {C : Nat → Int → Value → Array Value} {w w' w1 w2 : World} {R M tb n : Nat} {v v1 v2 : Value} {m : Int → Int} {acc : List Ac} {X : Nat → Prop}
theorem BM.refl (R M tb : Nat) (v : Value) (w : World) : BM R M tb v w v w := ⟨Off.refl _ _, fun _ h => .inl h⟩
theorem BM.back (h : BM R M tb v w v1 w1) (b : Nat) (hb : b < w.heap.size) (hx : BX R M tb v1 b) : BX R M tb v b := by
 rcases hx with hx | hx | hx | hx
 ·exact .inl hx
 ·exact .inr (.inl hx)
 ·exact .inr (.inr (.inl hx))
 ·rcases h.2 b hx with h' | h'
  ·exact .inr (.inr (.inr h'))
  ·omega
theorem BM.trans (h : BM R M tb v w v1 w1) (k : BM R M tb v1 w1 v2 w2) : BM R M tb v w v2 w2 := by
 refine ⟨h.1.trans k.1 h.back, fun b hb => ?_⟩
 rcases k.2 b hb with h' | h'
 ·exact h.2 b h'
 ·exact .inr (Nat.le_trans h.1.size h')
theorem BM.of (hb : Below w.heap.size w w') : BM R M tb v w v w' := ⟨Off.of _ hb, fun _ h => .inl h⟩
theorem Bus.lt (h : Bus C w R M tb v m acc n) {k : Nat} (hk : BX R M tb v k) : k < w.heap.size := by
 rcases hk with rfl | rfl | rfl | hk
 ·obtain ⟨q, hq⟩ := h.ram; exact hq.1
 ·exact h.mlt
 ·exact h.tab.lt
 ·exact (h.own.lt k hk).2
theorem Bus.keep (h : Bus C w R M tb v m acc n) (ho : Off X w w') (hx : ∀ k, BX R M tb v k → ¬ X k) : Bus C w' R M tb v m acc n := by
 obtain ⟨q, hq⟩ := h.ram
 have hM : ¬ X M := hx M (.inr (.inl rfl))
 exact ⟨⟨q, hq.off ho (hx R (.inl rfl))⟩, fun a ha => (ho.cell (p := ⟨M, a, none⟩) h.mlt hM).trans (h.mem a ha), fun a => (ho.frozen (p := ⟨M, a, none⟩) h.mlt hM).trans (h.free a), Nat.lt_of_lt_of_le h.mlt ho.size,
  owns_off h.own ho (fun k hk => hx k (.inr (.inr (.inr hk)))), h.tab.off ho (hx tb (.inr (.inr (.inl rfl)))), h.rm, h.rt, h.mt, h.vr, h.okm, h.len⟩
theorem Bus.below (h : Bus C w R M tb v m acc n) (hb : Below w.heap.size w w') : Bus C w' R M tb v m acc n := h.keep (Off.of (fun _ => False) hb) (fun _ _ h => h)
theorem Bus.mono (h : Bus C w R M tb v m acc n) {n' : Nat} (hn : n ≤ n') : Bus C w R M tb v m acc n' := ⟨h.ram, h.mem, h.free, h.mlt, h.own, h.tab, h.rm, h.rt, h.mt, h.vr, h.okm, Nat.le_trans h.len hn⟩
theorem Bus.tabs (h : Bus C w R M tb v m acc n) (ho : Out tb w w') : Bus C w' R M tb v m acc n ∧ BM R M tb v w v w' := by
 have hO : Off (fun k => k = tb) w w' := ⟨ho.1.os, ho.1.tape, ho.1.output, ho.1.size, fun k hk hn => ho.1.block k hk hn⟩
 obtain ⟨q, hq⟩ := h.ram
 have hv : ∀ k, v.ownBlock = some k → k ≠ tb := fun k hk => (h.vr k hk).2.2
 exact ⟨⟨⟨q, hq.off hO h.rt⟩, fun a ha => (hO.cell (p := ⟨M, a, none⟩) h.mlt h.mt).trans (h.mem a ha), fun a => (hO.frozen (p := ⟨M, a, none⟩) h.mlt h.mt).trans (h.free a), Nat.lt_of_lt_of_le h.mlt hO.size,
  owns_off h.own hO hv, Or.inr ho.2, h.rm, h.rt, h.mt, h.vr, h.okm, h.len⟩, hO.mono (fun k _ hk => .inr (.inr (.inl hk))), fun _ h => .inl h⟩
theorem accL_app (l : List Ac) (c : Ac) : accL (l ++ [c]) = accL l ++ c.cells := by simp [accL]
/-- One access more. -/
theorem Bus.app (ci : Nat) (hC : ∀ q x x', (C M q x).setIfInBounds ci x' = C M q x') (hci : ∀ q x, ci < (C M q x).size) (h : Bus C w R M tb v m acc n) (c : Ac)
  (hw1 : Below w.heap.size w w1) (hg : w1.grownBy w2 v.ownBlock) (ho : w2.ownsRow 0 59 3 v1 (acc.length + 1) (accL acc ++ c.cells)) (hat : v1.ownBlock = v.ownBlock ∨ v1.ownBlock = some w1.heap.size) :
  Bus C (w2.setCell ⟨R, ci, none⟩ v1) R M tb v1 m (acc ++ [c]) (n + 1) ∧ BM R M tb v w v1 (w2.setCell ⟨R, ci, none⟩ v1) := by
 have h1 := h.below hw1
 obtain ⟨q, hq⟩ := h1.ram
 have hO : Off (fun k => v.ownBlock = some k) w1 w2 := ⟨hg.os, hg.tape, hg.output, hg.size, fun k hk hn => hg.block k hk (fun e => hn e.symm)⟩
 have nR : ¬ v.ownBlock = some R := fun e => (h.vr R e).1 rfl
 have nM : ¬ v.ownBlock = some M := fun e => (h.vr M e).2.1 rfl
 have nT : ¬ v.ownBlock = some tb := fun e => (h.vr tb e).2.2 rfl
 have hvr : ∀ k, v1.ownBlock = some k → k ≠ R ∧ k ≠ M ∧ k ≠ tb := fun k hk => by
  rcases hat with e | e
  ·exact h.vr k (e ▸ hk)
  ·rw [hk] at e
   injection e with e
   have a1 := hq.1
   have a2 := h1.mlt
   have a3 := h1.tab.lt
   omega
 have hS : Off (fun k => k = R) w2 (w2.setCell ⟨R, ci, none⟩ v1) := Off.setCell w2 R ci v1 rfl
 refine ⟨⟨⟨q, ?_⟩, fun a ha => ?_, fun a => ?_, ?_, ?_, ?_, h.rm, h.rt, h.mt, hvr, h.okm, by simpa using h.len⟩, ?_, fun k hk => ?_⟩
 ·rw [← hC q v v1]
  exact (hq.off hO nR).set ci v1 (hci q v)
 ·have l2 : M < w2.heap.size := Nat.lt_of_lt_of_le h1.mlt hg.size
  exact (hS.cell (p := ⟨M, a, none⟩) l2 (fun e => h.rm e.symm)).trans ((hO.cell (p := ⟨M, a, none⟩) h1.mlt nM).trans (h1.mem a ha))
 ·have l2 : M < w2.heap.size := Nat.lt_of_lt_of_le h1.mlt hg.size
  exact (hS.frozen (p := ⟨M, a, none⟩) l2 (fun e => h.rm e.symm)).trans ((hO.frozen (p := ⟨M, a, none⟩) h1.mlt nM).trans (h1.free a))
 ·exact Nat.lt_of_lt_of_le (Nat.lt_of_lt_of_le h1.mlt hg.size) hS.size
 ·rw [accL_app, List.length_append]
  exact owns_off ho hS (fun k hk e => (hvr k hk).1 e)
 ·exact (h1.tab.off hO nT).off hS (fun e => h.rt e.symm)
 ·have o1 : Off (BX R M tb v) w w1 := Off.of _ hw1
  have o2 : Off (BX R M tb v) w1 w2 := hO.mono (fun b _ hb => .inr (.inr (.inr hb)))
  have o3 : Off (BX R M tb v) w2 (w2.setCell ⟨R, ci, none⟩ v1) := hS.mono (fun b _ e => .inl e)
  exact (o1.trans o2 (fun _ _ h => h)).trans o3 (fun _ _ h => h)
 ·rcases hat with e | e
  ·exact .inl (e ▸ hk)
  ·rw [hk] at e
   injection e with e
   exact .inr (by have := hw1.size; omega)
/-- A byte written. -/
theorem Bus.poke (h : Bus C w R M tb v m acc n) (a : Nat) (ha : a < 65536) (x : Int) (h0 : 0 ≤ x) (h1 : x < 256) :
  Bus C (w.setCell ⟨M, a, none⟩ (.int .u8 x)) R M tb v (upd m a x) acc n ∧ BM R M tb v w v (w.setCell ⟨M, a, none⟩ (.int .u8 x)) := by
 have hO : Off (fun k => k = M) w (w.setCell ⟨M, a, none⟩ (.int .u8 x)) := Off.setCell w M a _ rfl
 obtain ⟨q, hq⟩ := h.ram
 refine ⟨⟨⟨q, hq.off hO h.rm⟩, fun b hb => ?_, fun b => by simpa [go_sem] using h.free b, Nat.lt_of_lt_of_le h.mlt hO.size, owns_off h.own hO (fun k hk => (h.vr k hk).2.1), h.tab.off hO (fun e => h.mt e.symm), h.rm, h.rt, h.mt, h.vr, fun b => ?_, h.len⟩, hO.mono (fun k _ hk => .inr (.inl hk)), fun _ h => .inl h⟩
 ·unfold upd
  by_cases e : b = a
  ·subst e
   rw [if_pos rfl]
   exact World.cell?_setCell_same w _ _ (h.mem b hb)
  ·rw [if_neg (by omega), World.cell?_setCell_other _ _ _ _ (fun h => e (by injection h with _ h; exact h.symm))]
   exact h.mem b hb
 ·unfold upd
  split
  ·exact ⟨h0, h1⟩
  ·exact h.okm b
end
end Go.Proofs.YtngdogldgcgnjaaGreat
