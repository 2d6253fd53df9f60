/-
  A bus in memory: its bytes, its list of accesses, and that its calls touch nothing else: for every world; no condition.
  (Some texts in one.)
-/
import Derived.Test.YtngdogldgcgnjaaGreatZ07
import Derived.Maps.AppendAt
import Derived.Deep.AppendLies
import Derived.StillTailTactics
import Derived.Deep.QuietTactic
import Derived.BigQuiet
import Derived.RegionTactic
import Derived.BigRegion
import Derived.ChangeAlike
import Derived.Deep.RegionLaw
set_option maxRecDepth 100000
set_option maxHeartbeats 8000000
namespace Go.Proofs.YtngdogldgcgnjaaGreat
open Go.ChangeShapes Go.WideShapes Go.ChangeAt Go.RowKit
open Reg
set_option linter.unusedVariables false
structure Off (X : Nat → Prop) (w w' : World) : Prop where
 os : w'.os = w.os
 tape : w'.tape = w.tape
 output : w'.output = w.output
 size : w.heap.size ≤ w'.heap.size
 block : ∀ k, k < w.heap.size → ¬ X k → w'.heap[k]? = w.heap[k]?
section
variable {X Y : Nat → Prop} {x y z w w' : World}
theorem Off.refl (X : Nat → Prop) (w : World) : Off X w w := ⟨rfl, rfl, rfl, Nat.le_refl _, fun _ _ _ => rfl⟩
theorem Off.trans (h : Off X x y) (k : Off Y y z) (hxy : ∀ b, b < x.heap.size → Y b → X b) : Off X x z :=
 ⟨k.os.trans h.os, k.tape.trans h.tape, k.output.trans h.output, Nat.le_trans h.size k.size, fun i hi hn => (k.block i (Nat.lt_of_lt_of_le hi h.size) (fun hy => hn (hxy i hi hy))).trans (h.block i hi hn)⟩
theorem Off.mono (h : Off X w w') (hx : ∀ b, b < w.heap.size → X b → Y b) : Off Y w w' :=
 ⟨h.os, h.tape, h.output, h.size, fun k hk hn => h.block k hk (fun e => hn (hx k hk e))⟩
theorem Off.of (X : Nat → Prop) (h : Below w.heap.size w w') : Off X w w' := ⟨h.os, h.tape, h.output, h.size, fun k hk _ => h.block k hk⟩
theorem Off.setCell (w : World) (b o : Nat) (v : Value) (hx : X b) : Off X w (w.setCell ⟨b, o, none⟩ v) :=
 ⟨rfl, rfl, rfl, by simp [World.setCell], fun k _ hn => Below.heap_setCell _ _ _ _ (fun e => hn (by rw [show k = b from e]; exact hx))⟩
theorem Off.below {B : Nat} (h : Off X w w') (h1 : ∀ k, k < B → ¬ X k) (hB : B ≤ w.heap.size) : Below B w w' :=
 ⟨h.os, h.tape, h.output, h.size, fun k hk => h.block k (by omega) (h1 k hk)⟩
theorem Off.drew (h : Off X w w') : Off X w w'.drew := ⟨h.os, h.tape, h.output, h.size, h.block⟩
theorem Off.cell (h : Off X w w') {p : Addr} (hp : p.block < w.heap.size) (hn : ¬ X p.block) : w'.cell? p = w.cell? p := World.cell?_of_block (w := w) (h.block p.block hp hn)
theorem Off.frozen (h : Off X w w') {p : Addr} (hp : p.block < w.heap.size) (hn : ¬ X p.block) : w'.frozen? p = w.frozen? p := World.frozen?_of_block (w := w) (h.block p.block hp hn)
theorem Has.off {c : Nat} {A : Array Value} (h : Has w c A) (hb : Off X w w') (hn : ¬ X c) : Has w' c A :=
 ⟨Nat.lt_of_lt_of_le h.1 hb.size, fun o => (hb.cell (p := ⟨c, o, none⟩) h.1 hn).trans (h.2.1 o), fun o => (hb.frozen (p := ⟨c, o, none⟩) h.1 hn).trans (h.2.2 o)⟩
theorem Tab.off {b : Nat} {d m : Int} {kp kf : Nat} (h : Tab w b d m kp kf) (hb : Off X w w') (hn : ¬ X b) : Tab w' b d m kp kf := by
 have hc : ∀ o, w'.cell? ⟨b, o, none⟩ = w.cell? ⟨b, o, none⟩ := fun o => hb.cell (p := ⟨b, o, none⟩) h.lt hn
 have hf : ∀ o, w'.frozen? ⟨b, o, none⟩ = w.frozen? ⟨b, o, none⟩ := fun o => hb.frozen (p := ⟨b, o, none⟩) h.lt hn
 exact ⟨Nat.lt_of_lt_of_le h.lt hb.size, fun o ho => by rw [hc o]; exact h.some o ho, fun o => (hf o).trans (h.free o), (hc _).trans h.word, (hc _).trans h.lock,
  fun i j hi hj => (hc _).trans (h.plain i j hi hj), fun i j hi hj => (hc _).trans (h.pref i j hi hj)⟩
theorem TabAny.off {b : Nat} (h : TabAny w b) (hb : Off X w w') (hn : ¬ X b) : TabAny w' b := h.imp (fun h => h.off hb hn) (fun h => h.off hb hn)
theorem TabAny.lt {b : Nat} (h : TabAny w b) : b < w.heap.size := by rcases h with h | h <;> exact h.lt
theorem owns_off {base n size : Nat} {e : TypeId} {v : Value} {xs : List Value} (h : w.ownsRow base e size v n xs) (hb : Off X w w') (hn : ∀ k, v.ownBlock = some k → ¬ X k) : w'.ownsRow base e size v n xs := by
 refine ⟨h.1, ?_⟩
 rcases h.2 with h0 | ⟨g, cap, cur, rfl, hbb, hgg, rest⟩
 ·exact .inl h0
 ·refine .inr ⟨g, cap, cur, rfl, hbb, ?_, rest⟩
  rw [hb.block g (Array.getElem?_eq_some_iff.1 hgg).1 (hn g rfl)]
  exact hgg
end
def BX (R M tb : Nat) (v : Value) (k : Nat) : Prop := k = R ∨ k = M ∨ k = tb ∨ v.ownBlock = some k
structure Bus (C : Nat → Int → Value → Array Value) (w : World) (R M tb : Nat) (v : Value) (m : Int → Int) (acc : List Ac) (n : Nat) : Prop where
 ram : ∃ q, Has w R (C M q v)
 mem : ∀ a : Nat, a < 65536 → w.cell? ⟨M, a, none⟩ = some (.int .u8 (m a))
 free : ∀ a, w.frozen? ⟨M, a, none⟩ = false
 mlt : M < w.heap.size
 own : w.ownsRow 0 59 3 v acc.length (accL acc)
 tab : TabAny w tb
 rm : R ≠ M
 rt : R ≠ tb
 mt : M ≠ tb
 vr : ∀ k, v.ownBlock = some k → k ≠ R ∧ k ≠ M ∧ k ≠ tb
 okm : ∀ a, 0 ≤ m a ∧ m a < 256
 len : acc.length ≤ n
def BM (R M tb : Nat) (v : Value) (w : World) (v' : Value) (w' : World) : Prop := Off (BX R M tb v) w w' ∧ ∀ k, v'.ownBlock = some k → v.ownBlock = some k ∨ w.heap.size ≤ k
section
variable {C : Nat → Int → Value → Array Value} {w w' w1 w2 : World} {R M tb n : Nat} {v v1 v2 : Value} {m : Int → Int} {acc : List Ac} {X : Nat → Prop}
theorem BM.refl (R M tb : Nat) (v : Value) (w : World) : BM R M tb v w v w := ⟨Off.refl _ _, fun _ h => .inl h⟩
theorem BM.back (h : BM R M tb v w v1 w1) (b : Nat) (hb : b < w.heap.size) (hx : BX R M tb v1 b) : BX R M tb v b := by
 rcases hx with hx | hx | hx | hx
 ·exact .inl hx
 ·exact .inr (.inl hx)
 ·exact .inr (.inr (.inl hx))
 ·rcases h.2 b hx with h' | h'
  ·exact .inr (.inr (.inr h'))
  ·omega
theorem BM.trans (h : BM R M tb v w v1 w1) (k : BM R M tb v1 w1 v2 w2) : BM R M tb v w v2 w2 := by
 refine ⟨h.1.trans k.1 h.back, fun b hb => ?_⟩
 rcases k.2 b hb with h' | h'
 ·exact h.2 b h'
 ·exact .inr (Nat.le_trans h.1.size h')
theorem BM.of (hb : Below w.heap.size w w') : BM R M tb v w v w' := ⟨Off.of _ hb, fun _ h => .inl h⟩
theorem Bus.lt (h : Bus C w R M tb v m acc n) {k : Nat} (hk : BX R M tb v k) : k < w.heap.size := by
 rcases hk with rfl | rfl | rfl | hk
 ·obtain ⟨q, hq⟩ := h.ram; exact hq.1
 ·exact h.mlt
 ·exact h.tab.lt
 ·exact (h.own.lt k hk).2
theorem Bus.keep (h : Bus C w R M tb v m acc n) (ho : Off X w w') (hx : ∀ k, BX R M tb v k → ¬ X k) : Bus C w' R M tb v m acc n := by
 obtain ⟨q, hq⟩ := h.ram; have hM : ¬ X M := hx M (.inr (.inl rfl))
 exact ⟨⟨q, hq.off ho (hx R (.inl rfl))⟩, fun a ha => (ho.cell (p := ⟨M, a, none⟩) h.mlt hM).trans (h.mem a ha), fun a => (ho.frozen (p := ⟨M, a, none⟩) h.mlt hM).trans (h.free a), Nat.lt_of_lt_of_le h.mlt ho.size,
  owns_off h.own ho (fun k hk => hx k (.inr (.inr (.inr hk)))), h.tab.off ho (hx tb (.inr (.inr (.inl rfl)))), h.rm, h.rt, h.mt, h.vr, h.okm, h.len⟩
theorem Bus.below (h : Bus C w R M tb v m acc n) (hb : Below w.heap.size w w') : Bus C w' R M tb v m acc n := h.keep (Off.of (fun _ => False) hb) (fun _ _ h => h)
theorem Bus.mono (h : Bus C w R M tb v m acc n) {n' : Nat} (hn : n ≤ n') : Bus C w R M tb v m acc n' := ⟨h.ram, h.mem, h.free, h.mlt, h.own, h.tab, h.rm, h.rt, h.mt, h.vr, h.okm, Nat.le_trans h.len hn⟩
theorem Bus.tabs (h : Bus C w R M tb v m acc n) (ho : Out tb w w') : Bus C w' R M tb v m acc n ∧ BM R M tb v w v w' := by
 have hO : Off (fun k => k = tb) w w' := ⟨ho.1.os, ho.1.tape, ho.1.output, ho.1.size, fun k hk hn => ho.1.block k hk hn⟩
 obtain ⟨q, hq⟩ := h.ram
 have hv : ∀ k, v.ownBlock = some k → k ≠ tb := fun k hk => (h.vr k hk).2.2
 exact ⟨⟨⟨q, hq.off hO h.rt⟩, fun a ha => (hO.cell (p := ⟨M, a, none⟩) h.mlt h.mt).trans (h.mem a ha), fun a => (hO.frozen (p := ⟨M, a, none⟩) h.mlt h.mt).trans (h.free a), Nat.lt_of_lt_of_le h.mlt hO.size,
  owns_off h.own hO hv, Or.inr ho.2, h.rm, h.rt, h.mt, h.vr, h.okm, h.len⟩, hO.mono (fun k _ hk => .inr (.inr (.inl hk))), fun _ h => .inl h⟩
theorem accL_app (l : List Ac) (c : Ac) : accL (l ++ [c]) = accL l ++ c.cells := by simp [accL]
theorem Bus.app (ci : Nat) (hC : ∀ q x x', (C M q x).setIfInBounds ci x' = C M q x') (hci : ∀ q x, ci < (C M q x).size) (h : Bus C w R M tb v m acc n) (c : Ac)
  (hw1 : Below w.heap.size w w1) (hg : w1.grownBy w2 v.ownBlock) (ho : w2.ownsRow 0 59 3 v1 (acc.length + 1) (accL acc ++ c.cells)) (hat : v1.ownBlock = v.ownBlock ∨ v1.ownBlock = some w1.heap.size) :
  Bus C (w2.setCell ⟨R, ci, none⟩ v1) R M tb v1 m (acc ++ [c]) (n + 1) ∧ BM R M tb v w v1 (w2.setCell ⟨R, ci, none⟩ v1) := by
 have h1 := h.below hw1; obtain ⟨q, hq⟩ := h1.ram
 have hO : Off (fun k => v.ownBlock = some k) w1 w2 := ⟨hg.os, hg.tape, hg.output, hg.size, fun k hk hn => hg.block k hk (fun e => hn e.symm)⟩
 have nR : ¬ v.ownBlock = some R := fun e => (h.vr R e).1 rfl
 have nM : ¬ v.ownBlock = some M := fun e => (h.vr M e).2.1 rfl
 have nT : ¬ v.ownBlock = some tb := fun e => (h.vr tb e).2.2 rfl
 have hvr : ∀ k, v1.ownBlock = some k → k ≠ R ∧ k ≠ M ∧ k ≠ tb := fun k hk => by
  rcases hat with e | e
  ·exact h.vr k (e ▸ hk)
  ·rw [hk] at e
   injection e with e
   have a1 := hq.1; have a2 := h1.mlt; have a3 := h1.tab.lt
   omega
 have hS : Off (fun k => k = R) w2 (w2.setCell ⟨R, ci, none⟩ v1) := Off.setCell w2 R ci v1 rfl
 refine ⟨⟨⟨q, ?_⟩, fun a ha => ?_, fun a => ?_, ?_, ?_, ?_, h.rm, h.rt, h.mt, hvr, h.okm, by simpa using h.len⟩, ?_, fun k hk => ?_⟩
 ·rw [← hC q v v1]
  exact (hq.off hO nR).set ci v1 (hci q v)
 ·have l2 : M < w2.heap.size := Nat.lt_of_lt_of_le h1.mlt hg.size
  exact (hS.cell (p := ⟨M, a, none⟩) l2 (fun e => h.rm e.symm)).trans ((hO.cell (p := ⟨M, a, none⟩) h1.mlt nM).trans (h1.mem a ha))
 ·have l2 : M < w2.heap.size := Nat.lt_of_lt_of_le h1.mlt hg.size
  exact (hS.frozen (p := ⟨M, a, none⟩) l2 (fun e => h.rm e.symm)).trans ((hO.frozen (p := ⟨M, a, none⟩) h1.mlt nM).trans (h1.free a))
 ·exact Nat.lt_of_lt_of_le (Nat.lt_of_lt_of_le h1.mlt hg.size) hS.size
 ·rw [accL_app, List.length_append]
  exact owns_off ho hS (fun k hk e => (hvr k hk).1 e)
 ·exact (h1.tab.off hO nT).off hS (fun e => h.rt e.symm)
 ·have o1 : Off (BX R M tb v) w w1 := Off.of _ hw1
  have o2 : Off (BX R M tb v) w1 w2 := hO.mono (fun b _ hb => .inr (.inr (.inr hb)))
  have o3 : Off (BX R M tb v) w2 (w2.setCell ⟨R, ci, none⟩ v1) := hS.mono (fun b _ e => .inl e)
  exact (o1.trans o2 (fun _ _ h => h)).trans o3 (fun _ _ h => h)
 ·rcases hat with e | e
  ·exact .inl (e ▸ hk)
  ·rw [hk] at e
   injection e with e
   exact .inr (by have := hw1.size; omega)
theorem Bus.poke (h : Bus C w R M tb v m acc n) (a : Nat) (ha : a < 65536) (x : Int) (h0 : 0 ≤ x) (h1 : x < 256) :
  Bus C (w.setCell ⟨M, a, none⟩ (.int .u8 x)) R M tb v (upd m a x) acc n ∧ BM R M tb v w v (w.setCell ⟨M, a, none⟩ (.int .u8 x)) := by
 have hO : Off (fun k => k = M) w (w.setCell ⟨M, a, none⟩ (.int .u8 x)) := Off.setCell w M a _ rfl
 obtain ⟨q, hq⟩ := h.ram
 refine ⟨⟨⟨q, hq.off hO h.rm⟩, fun b hb => ?_, fun b => by simpa [go_sem] using h.free b, Nat.lt_of_lt_of_le h.mlt hO.size, owns_off h.own hO (fun k hk => (h.vr k hk).2.1), h.tab.off hO (fun e => h.mt e.symm), h.rm, h.rt, h.mt, h.vr, fun b => ?_, h.len⟩, hO.mono (fun k _ hk => .inr (.inl hk)), fun _ h => .inl h⟩
 ·unfold upd
  by_cases e : b = a
  ·subst e
   rw [if_pos rfl]
   exact World.cell?_setCell_same w _ _ (h.mem b hb)
  ·rw [if_neg (by omega), World.cell?_setCell_other _ _ _ _ (fun h => e (by injection h with _ h; exact h.symm))]
   exact h.mem b hb
 ·unfold upd
  split
  ·exact ⟨h0, h1⟩
  ·exact h.okm b
end
end Go.Proofs.YtngdogldgcgnjaaGreat
namespace Go.Proofs.YtngdogldgcgnjaaGreat
open Go.ChangeShapes Go.WideShapes Go.ChangeAt Go.RowKit
open Reg
set_option linter.unusedVariables false
def ramC (M : Nat) (_q : Int) (v : Value) : Array Value := #[.slice (some ⟨M, 0, none⟩) 65536 65536, v]
def BE (C : Nat → Int → Value → Array Value) (R M tb : Nat) (v : Value) (w : World) (ret : Value) (m : Int → Int) (acc : List Ac) (n : Nat) (e : Ending) (w' : World) : Prop :=
 e = .returned ret ∧ ∃ v', Bus C w' R M tb v' m acc n ∧ BM R M tb v w v' w'
theorem infoA : (Tryz.prog.info? 59).map (fun i => (i.zero, i.size, i.bytes)) = some (some (.agg #[.int .i64 0, .int .u16 0, .int .u8 0]), 3, 16) := by kernel_rfl
theorem app_new {W : World} {v : Value} {acc : List Ac} (hown : W.ownsRow 0 59 3 v acc.length (accL acc)) (c : Ac) (hl : acc.length < 1000000) :
  ∃ g cap w2, (Builtin.append_ #[33, 33] 33 #[v, .slice (some ⟨W.heap.size, 0, none⟩) 1 1]).run Tryz.prog (W.alloc (.cells #[.int .i64 c.k, .int .u16 c.a, .int .u8 c.v] 59)) = .ok (.slice (some ⟨g, 0, none⟩) (acc.length + 1) cap) w2 ∧
   w2.ownsRow 0 59 3 (.slice (some ⟨g, 0, none⟩) (acc.length + 1) cap) (acc.length + 1) (accL acc ++ c.cells) ∧
   (W.alloc (.cells #[.int .i64 c.k, .int .u16 c.a, .int .u8 c.v] 59)).grownBy w2 v.ownBlock ∧
   ((Value.slice (some ⟨g, 0, none⟩) (acc.length + 1) cap).ownBlock = v.ownBlock ∨ (Value.slice (some ⟨g, 0, none⟩) (acc.length + 1) cap).ownBlock = some (W.alloc (.cells #[.int .i64 c.k, .int .u16 c.a, .int .u8 c.v] 59)).heap.size) := by
 obtain ⟨i0, hi, hz0, hz1, hz2⟩ := info_parts infoA; obtain ⟨v', w2, hrun, ho, hg, _, hat⟩ := run_append_own_at (P := Tryz.prog) (W.alloc (.cells #[.int .i64 c.k, .int .u16 c.a, .int .u8 c.v] 59)) 0 33 33 59 i0 _ 3 16 Tryz.underlying33 hi hz0 hz1 hz2 rfl (by decide)
  v acc.length (accL acc) (hown.alloc _) ⟨W.heap.size, 0, none⟩ 1 1 c.cells rfl (fun j u hj => by
   match j, hj with
   | 0, hj => simp [Ac.cells] at hj; subst hj; simp [Addr.add, go_sem]
   | 1, hj => simp [Ac.cells] at hj; subst hj; simp [Addr.add, go_sem]
   | 2, hj => simp [Ac.cells] at hj; subst hj; simp [Addr.add, go_sem]
   | j + 3, hj => simp [Ac.cells] at hj) (fun u hu => by simp [Ac.cells] at hu; rcases hu with rfl | rfl | rfl <;> rfl)
  (by simp only [maxLen]; omega) (by omega) (Nat.zero_le _)
 rcases ho.2 with ⟨_, h0⟩ | ⟨g, cap, cur, rfl, _⟩
 ·omega
 ·exact ⟨g, cap, w2, hrun, ho, hg, hat⟩
theorem wp_append_run {P : Program} {w w' : World} {o : Oper} {a : Act} {K : Act → World → Prop} {Q : Exit → Act → World → Prop} (s x : Operand) (t : TypeId) (v u v' : Value)
  (ho : o.op = .call { callee := .builtin .append, args := #[s, x], argTypes := #[t, t] }) (hs : a.eval s = v) (hx : a.eval x = u)
  (hr : (Builtin.append_ #[t, t] o.type #[v, u]).run P w = .ok v' w') (h : K (a.put o.dst v') w') : o.wp P a w K Q := by
 unfold Oper.wp execOp
 simp only [ho, resolve, invoke, builtin, Sem.run_bind, Sem.run_pure, Result.andThen_ok, List.map_toArray, List.map_cons, List.map_nil, hs, hx, hr]
 exact h
theorem wpList_append_run {P : Program} {w w' : World} {ops : Array Oper} {rest : List Oper} {o : Oper} {a : Act} {Q : Exit → Act → World → Prop} (hgd : o.guard = none) (s x : Operand) (t : TypeId) (v u v' : Value)
  (ho : o.op = .call { callee := .builtin .append, args := #[s, x], argTypes := #[t, t] }) (hs : a.eval s = v) (hx : a.eval x = u)
  (hr : (Builtin.append_ #[t, t] o.type #[v, u]).run P w = .ok v' w') (h : wpList P ops Q rest (a.put o.dst v') w') : wpList P ops Q (o :: rest) a w :=
 wpList_plain hgd fun _ hK => wp_append_run s x t v u v' ho hs hx hr (hK _ _ h)
section
variable {w : World} {R M tb n : Nat} {v : Value} {m : Int → Int} {acc : List Ac}
theorem Has.grown {w w' : World} {b : Nat} {A : Array Value} {row : Option Nat} (h : Has w b A) (hg : w.grownBy w' row) (hn : ¬ row = some b) : Has w' b A :=
 h.off (X := fun k => row = some k) ⟨hg.os, hg.tape, hg.output, hg.size, fun k hk hn => hg.block k hk (fun e => hn e.symm)⟩ hn
theorem ramC_set (M : Nat) (q : Int) (x x' : Value) : (ramC M q x).setIfInBounds 1 x' = ramC M q x' := rfl
theorem ramC_size (M : Nat) (q : Int) (x : Value) : 1 < (ramC M q x).size := by show 1 < 2; decide
theorem idle_b (h : Bus ramC w R M tb v m acc n) (hn : n < 1000000) : Calls Tryz.prog 174 #[.pointer (some ⟨R, 0, none⟩)] w (BE ramC R M tb v w (.tuple #[]) m (acc ++ [⟨0, 0, 0⟩]) (n + 1)) := by
 obtain ⟨q, hR⟩ := h.ram; have hc1 : w.cell? ⟨R, 1, none⟩ = some v := hR.2.1 1; obtain ⟨g, cap, w2, hrun, ho, hg, hat⟩ := app_new h.own ⟨0, 0, 0⟩ (Nat.lt_of_le_of_lt h.len hn)
 have hR2 := (hR.alloc (.cells #[.int .i64 0, .int .u16 0, .int .u8 0] 59)).grown hg (fun e => (h.vr R e).1 rfl)
 have hc2 : w2.cell? ⟨R, 1, none⟩ = some v := hR2.2.1 1; have hf2 := hR2.2.2 1; have HB := Lib.hid (h.app 1 (ramC_set M) (ramC_size M) ⟨0, 0, 0⟩ (own1 w _) hg ho hat); have HRUN := Lib.hid hrun; clear hR hR2 ho hg hat h hrun; go_enter Tryz.func174, Tryz.ntmps174
 go_wp2_with (at_builtin; refine wpList_append_run rfl _ _ 33 _ _ _ rfl rfl rfl HRUN.out ?_)
 go_end0
 exact ⟨rfl, _, HB.out.1, HB.out.2⟩
theorem write_b (h : Bus ramC w R M tb v m acc n) (hn : n < 1000000) (a x : Int) (a0 : 0 ≤ a) (a1 : a < 65536) (x0 : 0 ≤ x) (x1 : x < 256) :
  Calls Tryz.prog 177 #[.pointer (some ⟨R, 0, none⟩), .int .u16 a, .int .u8 x] w (BE ramC R M tb v w (.tuple #[]) (upd m a x) (acc ++ [⟨2, a, x⟩]) (n + 1)) := by
 obtain ⟨q, hR⟩ := h.ram; have hc1 : w.cell? ⟨R, 1, none⟩ = some v := hR.2.1 1; obtain ⟨g, cap, w2, hrun, ho, hg, hat⟩ := app_new h.own ⟨2, a, x⟩ (Nat.lt_of_le_of_lt h.len hn)
 have hR2 := (hR.alloc (.cells #[.int .i64 2, .int .u16 a, .int .u8 x] 59)).grown hg (fun e => (h.vr R e).1 rfl)
 have hc2 : w2.cell? ⟨R, 1, none⟩ = some v := hR2.2.1 1; have hc20 : w2.cell? ⟨R, 0, none⟩ = some (.slice (some ⟨M, 0, none⟩) 65536 65536) := hR2.2.1 0; have hf2 := hR2.2.2 1; have hB := h.app 1 (ramC_set M) (ramC_size M) ⟨2, a, x⟩ (own1 w _) hg ho hat; obtain ⟨k, rfl⟩ := Int.eq_ofNat_of_zero_le a0
 have hk : k < 65536 := by omega
 have hP := hB.1.poke k hk x x0 x1; have hm := hB.1.mem k hk; have hfm := hB.1.free k; have hrm : ¬ R = M := h.rm; have HB := Lib.hid hB; have HP := Lib.hid hP; have HRUN := Lib.hid hrun; clear hR hR2 ho hg hat h hB hP hrun; go_enter Tryz.func177, Tryz.ntmps177
 go_wp2_with (at_builtin; refine wpList_append_run rfl _ _ 33 _ _ _ rfl rfl rfl HRUN.out ?_)
 go_end0
 exact ⟨rfl, _, HP.out.1, HB.out.2.trans HP.out.2⟩
end
end Go.Proofs.YtngdogldgcgnjaaGreat
namespace Go.Proofs.YtngdogldgcgnjaaGreat
open Go.ChangeShapes Go.WideShapes Go.ChangeAt Go.RowKit
open Reg
set_option linter.unusedVariables false
theorem step_append_run {P : Program} {w w' : World} {ops : Array Oper} {o : Oper} {a : Act} {K : Act → World → Prop} {Q : Exit → Act → World → Prop} {E : Prop} (hgd : o.guard = none) (s x : Operand) (t : TypeId) (v u v' : Value)
  (ho : o.op = .call { callee := .builtin .append, args := #[s, x], argTypes := #[t, t] }) (hs : a.eval s = v) (hx : a.eval x = u)
  (hr : (Builtin.append_ #[t, t] o.type #[v, u]).run P w = .ok v' w') (h : K (a.put o.dst v') w') : if Region.wanted o (yielded ops a.tmps) = true then Oper.wp P o a w K Q else E := by
 have hw : Region.wanted o (yielded ops a.tmps) = true := by simp [Region.wanted, hgd]
 rw [if_pos hw]
 exact wp_append_run s x t v u v' ho hs hx hr h
section
variable {w : World} {R M tb n : Nat} {v : Value} {m : Int → Int} {acc : List Ac}
theorem Bus.drew {C : Nat → Int → Value → Array Value} (h : Bus C w R M tb v m acc n) : Bus C w.drew R M tb v m acc n := h.below (Below.refl _ _).drew
theorem BM.ofDrew {v' : Value} {w' : World} (h : BM R M tb v w.drew v' w') : BM R M tb v w v' w' := (BM.of (Below.refl _ _).drew).trans h
theorem read_b (h0 : Bus ramC w R M tb v m acc n) (hn : n < 1000000) (a : Int) (a0 : 0 ≤ a) (a1 : a < 65536) :
  Calls Tryz.prog 176 #[.pointer (some ⟨R, 0, none⟩), .int .u16 a] w (BE ramC R M tb v w (.int .u8 (m a)) m (acc ++ [⟨1, a, m a⟩]) (n + 1)) := by
 obtain ⟨k, rfl⟩ := Int.eq_ofNat_of_zero_le a0
 have hk : k < 65536 := by omega
 have h := h0.drew; obtain ⟨q, hR⟩ := h.ram; have hc1 : w.drew.cell? ⟨R, 1, none⟩ = some v := hR.2.1 1; have hc0 : w.drew.cell? ⟨R, 0, none⟩ = some (.slice (some ⟨M, 0, none⟩) 65536 65536) := hR.2.1 0; have hmk := h.mem k hk; obtain ⟨g, cap, w2, hrun, ho, hg, hat⟩ := app_new h.own ⟨1, k, m k⟩ (Nat.lt_of_le_of_lt h.len hn)
 have hR2 := (hR.alloc (.cells #[.int .i64 1, .int .u16 k, .int .u8 (m k)] 59)).grown hg (fun e => (h.vr R e).1 rfl)
 have hc2 : w2.cell? ⟨R, 1, none⟩ = some v := hR2.2.1 1; have hc20 : w2.cell? ⟨R, 0, none⟩ = some (.slice (some ⟨M, 0, none⟩) 65536 65536) := hR2.2.1 0; have hf2 := hR2.2.2 1; have hB := h.app 1 (ramC_set M) (ramC_size M) ⟨1, k, m k⟩ (own1 w.drew _) hg ho hat; have hmk2 := hB.1.mem k hk; have HB := Lib.hid hB; have hA := (h0.below (own1 w (.cells #[.int .i64 1, .int .u16 k, .int .u8 (m k)] 59))); obtain ⟨q', hRA⟩ := hA.ram; have hcA1 : (w.alloc (.cells #[.int .i64 1, .int .u16 k, .int .u8 (m k)] 59)).cell? ⟨R, 1, none⟩ = some v := hRA.2.1 1; have hcA0 : (w.alloc (.cells #[.int .i64 1, .int .u16 k, .int .u8 (m k)] 59)).cell? ⟨R, 0, none⟩ = some (.slice (some ⟨M, 0, none⟩) 65536 65536) := hRA.2.1 0; have hcAm := hA.mem k hk; have hrun' : (Builtin.append_ #[33, 33] 33 #[v, .slice (some ⟨w.heap.size, 0, none⟩) 1 1]).run Tryz.prog (w.alloc (.cells #[.int .i64 1, .int .u16 k, .int .u8 (m k)] 59)).drew = .ok (.slice (some ⟨g, 0, none⟩) (acc.length + 1) cap) w2 := hrun; have HRUN := Lib.hid hrun'; clear hA hRA hrun'; clear hR hR2 ho hg hat h hB h0 hrun; go_enter Tryz.func176, Tryz.ntmps176; go_wp2
 go_region_law (refine step_append_run rfl _ _ 33 _ _ _ rfl rfl rfl HRUN.out ?_)
 all_goals
  go_wp2; go_ret
  exact ⟨rfl, _, HB.out.1, HB.out.2.ofDrew⟩
theorem fetch_b (h0 : Bus ramC w R M tb v m acc n) (hn : n < 1000000) (a : Int) (a0 : 0 ≤ a) (a1 : a < 65536) :
  Calls Tryz.prog 173 #[.pointer (some ⟨R, 0, none⟩), .int .u16 a] w (BE ramC R M tb v w (.int .u8 (m a)) m (acc ++ [⟨3, a, m a⟩]) (n + 1)) := by
 obtain ⟨k, rfl⟩ := Int.eq_ofNat_of_zero_le a0
 have hk : k < 65536 := by omega
 have h := h0.drew; obtain ⟨q, hR⟩ := h.ram; have hc1 : w.drew.cell? ⟨R, 1, none⟩ = some v := hR.2.1 1; have hc0 : w.drew.cell? ⟨R, 0, none⟩ = some (.slice (some ⟨M, 0, none⟩) 65536 65536) := hR.2.1 0; have hmk := h.mem k hk; obtain ⟨g, cap, w2, hrun, ho, hg, hat⟩ := app_new h.own ⟨3, k, m k⟩ (Nat.lt_of_le_of_lt h.len hn)
 have hR2 := (hR.alloc (.cells #[.int .i64 3, .int .u16 k, .int .u8 (m k)] 59)).grown hg (fun e => (h.vr R e).1 rfl)
 have hc2 : w2.cell? ⟨R, 1, none⟩ = some v := hR2.2.1 1; have hc20 : w2.cell? ⟨R, 0, none⟩ = some (.slice (some ⟨M, 0, none⟩) 65536 65536) := hR2.2.1 0; have hf2 := hR2.2.2 1; have hB := h.app 1 (ramC_set M) (ramC_size M) ⟨3, k, m k⟩ (own1 w.drew _) hg ho hat; have hmk2 := hB.1.mem k hk; have HB := Lib.hid hB; have hA := (h0.below (own1 w (.cells #[.int .i64 3, .int .u16 k, .int .u8 (m k)] 59))); obtain ⟨q', hRA⟩ := hA.ram; have hcA1 : (w.alloc (.cells #[.int .i64 3, .int .u16 k, .int .u8 (m k)] 59)).cell? ⟨R, 1, none⟩ = some v := hRA.2.1 1; have hcA0 : (w.alloc (.cells #[.int .i64 3, .int .u16 k, .int .u8 (m k)] 59)).cell? ⟨R, 0, none⟩ = some (.slice (some ⟨M, 0, none⟩) 65536 65536) := hRA.2.1 0; have hcAm := hA.mem k hk; have hrun' : (Builtin.append_ #[33, 33] 33 #[v, .slice (some ⟨w.heap.size, 0, none⟩) 1 1]).run Tryz.prog (w.alloc (.cells #[.int .i64 3, .int .u16 k, .int .u8 (m k)] 59)).drew = .ok (.slice (some ⟨g, 0, none⟩) (acc.length + 1) cap) w2 := hrun; have HRUN := Lib.hid hrun'; clear hA hRA hrun'; clear hR hR2 ho hg hat h hB h0 hrun; go_enter Tryz.func173, Tryz.ntmps173; go_wp2
 go_region_law (refine step_append_run rfl _ _ 33 _ _ _ rfl rfl rfl HRUN.out ?_)
 all_goals
  go_wp2; go_ret
  exact ⟨rfl, _, HB.out.1, HB.out.2.ofDrew⟩
theorem pend_bd (m : Int → Int) (h : ∀ a, 0 ≤ m a ∧ m a < 256) : 0 ≤ pend m ∧ pend m < 32 := by
 unfold pend
 have e := byte_all (P := fun x => 0 ≤ bits .and .u8 x 31 ∧ bits .and .u8 x 31 < 32) (by decide +kernel)
 have h1 := h 65295; have h2 := h 65535
 have hb : ∀ x y : Int, 0 ≤ x → x < 256 → 0 ≤ y → y < 256 → 0 ≤ bits .and .u8 x y ∧ bits .and .u8 x y < 256 := fun x y a b c d => by
  rw [u8_and x y a b c d]; have := Nat.and_le_left (n := x.toNat) (m := y.toNat)
  omega
 have h3 := hb _ _ h1.1 h1.2 h2.1 h2.2
 exact e _ h3.1 h3.2
theorem pend_b (h : Bus ramC w R M tb v m acc n) :
  Calls Tryz.prog 175 #[.pointer (some ⟨R, 0, none⟩)] w fun e w' => e = .returned (.int .u8 (pend m)) ∧ w' = w.drew := by
 obtain ⟨q, hR⟩ := h.ram; have hc0 : w.cell? ⟨R, 0, none⟩ = some (.slice (some ⟨M, 0, none⟩) 65536 65536) := hR.2.1 0; have h1 : w.cell? ⟨M, 65295, none⟩ = some (.int .u8 (m 65295)) := h.mem 65295 (by decide); have h2 : w.cell? ⟨M, 65535, none⟩ = some (.int .u8 (m 65535)) := h.mem 65535 (by decide); clear hR h; go_enter Tryz.func175, Tryz.ntmps175; go_wp2
 go_still_tail 12, (by kernel_rfl)
 change wpList _ _ _ _ _ w.drew
 go_wp2; go_ret
 exact ⟨rfl, rfl⟩
theorem andNot (x : Int) (h0 : 0 ≤ x) (h1 : x < 256) (k : Nat) (hk : k < 5) : bits .andNot .u8 x (2 ^ k) = clr x k :=
 byte_all (P := fun x => ∀ k : Fin 5, bits .andNot .u8 x (2 ^ k.val) = clr x k.val) (by decide +kernel) x h0 h1 ⟨k, hk⟩
theorem clr_bd (x : Int) (h0 : 0 ≤ x) (h1 : x < 256) (k : Nat) (hk : k < 8) : 0 ≤ clr x k ∧ clr x k < 256 :=
 byte_all (P := fun x => ∀ k : Fin 8, 0 ≤ clr x k.val ∧ clr x k.val < 256) (by decide +kernel) x h0 h1 ⟨k, hk⟩
theorem ack_b (h0 : Bus ramC w R M tb v m acc n) (k : Nat) (hk : k < 5) :
  Calls Tryz.prog 172 #[.pointer (some ⟨R, 0, none⟩), .int .i64 k] w (BE ramC R M tb v w (.tuple #[]) (ackM k m) acc n) := by
 have h := h0.drew; obtain ⟨q, hR⟩ := h.ram; have hc0 : w.drew.cell? ⟨R, 0, none⟩ = some (.slice (some ⟨M, 0, none⟩) 65536 65536) := hR.2.1 0; have h1 : w.drew.cell? ⟨M, 65295, none⟩ = some (.int .u8 (m 65295)) := h.mem 65295 (by decide); have hf : w.drew.frozen? ⟨M, 65295, none⟩ = false := h.free 65295; have hm := h.okm 65295; have e := andNot (m 65295) hm.1 hm.2 k hk; have hb := clr_bd (m 65295) hm.1 hm.2 k (by omega); have HP := Lib.hid (h.poke 65295 (by decide) (clr (m 65295) k) hb.1 hb.2); have E := Lib.hid e
 have HD := Lib.hid (show BM R M tb v w v w.drew from BM.of (Below.refl _ _).drew)
 clear hR h h0 hm hb e
 have hk' : k = 0 ∨ k = 1 ∨ k = 2 ∨ k = 3 ∨ k = 4 := by omega
 rcases hk' with rfl | rfl | rfl | rfl | rfl
 all_goals
  go_enter Tryz.func172, Tryz.ntmps172; go_wp2
  go_still_tail 10, (by kernel_rfl)
  change wpList _ _ _ _ _ w.drew
  generalize w.drew = w2 at *; go_wp2
  go_end0
  first | rw [show bits BinOp.andNot IntKind.u8 (m 65295) 1 = clr (m 65295) 0 from E.out] | rw [show bits BinOp.andNot IntKind.u8 (m 65295) 2 = clr (m 65295) 1 from E.out] | rw [show bits BinOp.andNot IntKind.u8 (m 65295) 4 = clr (m 65295) 2 from E.out] | rw [show bits BinOp.andNot IntKind.u8 (m 65295) 8 = clr (m 65295) 3 from E.out] | rw [show bits BinOp.andNot IntKind.u8 (m 65295) 16 = clr (m 65295) 4 from E.out]
  exact ⟨rfl, _, HP.out.1, HD.out.trans HP.out.2⟩
end
end Go.Proofs.YtngdogldgcgnjaaGreat
