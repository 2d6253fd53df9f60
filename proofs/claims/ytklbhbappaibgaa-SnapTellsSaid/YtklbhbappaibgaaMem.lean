/-
  Slices of bytes in memory: read ones, and ones of a call's own that grow by append; a scope with labels that the run jumps to: for every world; the condition is that fewer than a million bytes are put together.
-/
import Derived.Test.YtklbhbappaibgaaBase
import Derived.Test.YtklbhbappaibgaaPure
import Derived.Deep.Cut
import Derived.BigQuiet
import Derived.WalkSmall
import Derived.Deep.LoopGhost
import Derived.Deep.DeepCutAuto
import Derived.Deep.CutBlock
import Derived.Deep.QuietTactic
import Derived.OwnWalk
import Derived.Laws.AppendOwn
import Derived.Laws.OwnMore
import Derived.Laws.MakeOwn
import Derived.Laws.Tables
import Derived.Lib.AppendZeros
import Derived.ScopeJumps
import Derived.WalkMore
namespace Go.Proofs.Ytklbhbappaibgaa
open Go.ChangeShapes Go.WideShapes Go.ChangeAt Go.RowKit
set_option linter.unusedVariables false
set_option linter.unusedSimpArgs false
set_option maxRecDepth 100000
def By (L : List Nat) : Prop := ∀ x ∈ L, x < 256
theorem By.at {L : List Nat} (h : By L) {k x : Nat} (e : L[k]? = some x) : x < 256 := h x (List.mem_of_getElem? e)
theorem By.drop {L : List Nat} (h : By L) (k : Nat) : By (L.drop k) := fun x hx => h x (List.mem_of_mem_drop hx)
theorem By.take {L : List Nat} (h : By L) (k : Nat) : By (L.take k) := fun x hx => h x (List.mem_of_mem_take hx)
theorem By.app {L M : List Nat} (h : By L) (k : By M) : By (L ++ M) := fun x hx => (List.mem_append.1 hx).elim (h x) (k x)
theorem By.nil : By [] := fun x hx => by simp at hx
theorem By.one {x : Nat} (h : x < 256) : By [x] := fun y hy => by simp at hy; omega
def cs (L : List Nat) : List Value := L.map (fun (x : Nat) => Value.int .u8 (x : Int))
theorem cs_len (L : List Nat) : (cs L).length = L.length := by simp [cs]
theorem cs_at {L : List Nat} {k x : Nat} (e : L[k]? = some x) : (cs L)[k]? = some (.int .u8 x) := by simp [cs, e]
theorem cs_back {L : List Nat} {k : Nat} {u : Value} (e : (cs L)[k]? = some u) : ∃ x, L[k]? = some x ∧ u = .int .u8 x := by
 unfold cs at e
 rw [List.getElem?_map] at e
 rcases h : L[k]? with _ | x
 ·rw [h] at e; simp at e
 ·rw [h] at e; exact ⟨x, rfl, by simpa using e.symm⟩
theorem cs_one (L : List Nat) : ∀ u ∈ cs L, u.oneCell' = true := fun u h => by
 simp [cs] at h
 obtain ⟨x, _, rfl⟩ := h
 rfl
theorem cs_app (L M : List Nat) : cs (L ++ M) = cs L ++ cs M := by simp [cs]
/-- From the place a on lie the bytes L. -/
def At (w : World) (a : Option Addr) (L : List Nat) : Prop := 0 < L.length → ∃ b o, a = some ⟨b, o, none⟩ ∧ b < w.heap.size ∧ ∀ (j x : Nat), L[j]? = some x → w.cell? ⟨b, o + j, none⟩ = some (.int .u8 x)
theorem At.below {w w' : World} {a : Option Addr} {L : List Nat} (h : At w a L) (hb : Below w.heap.size w w') : At w' a L := fun h0 => by
 obtain ⟨b, o, e, hl, hc⟩ := h h0
 exact ⟨b, o, e, Nat.lt_of_lt_of_le hl hb.size, fun j x hx => (hb.cell (p := ⟨b, o + j, none⟩) hl).trans (hc j x hx)⟩
/-- The slice v of bytes reads L. -/
def Rd (w : World) (v : Value) (L : List Nat) : Prop := ∃ a c, v = .slice a L.length c ∧ L.length ≤ c ∧ (a = none → c = 0) ∧ By L ∧ At w a L
theorem Rd.below {w w' : World} {v : Value} {L : List Nat} (h : Rd w v L) (hb : Below w.heap.size w w') : Rd w' v L := by
 obtain ⟨a, c, h1, h2, h3, h4, h5⟩ := h
 exact ⟨a, c, h1, h2, h3, h4, h5.below hb⟩
theorem Rd.by {w : World} {v : Value} {L : List Nat} (h : Rd w v L) : By L := by
 obtain ⟨a, c, h1, h2, h3, h4, h5⟩ := h; exact h4
theorem Rd.open {w : World} {v : Value} {L : List Nat} (h : Rd w v L) : ∃ a n c, v = .slice a n c ∧ L.length = n ∧ n ≤ c ∧ (a = none → c = 0) ∧ By L ∧ At w a L := by
 obtain ⟨a, c, h1, h2, h3, h4, h5⟩ := h
 exact ⟨a, _, c, h1, rfl, h2, h3, h4, h5⟩
theorem Rd.nil (w : World) : Rd w (.slice none 0 0) [] := ⟨none, 0, rfl, Nat.le_refl _, fun _ => rfl, By.nil, fun h => absurd h (by simp)⟩
/-- A part of a slice. -/
theorem Rd.part {w : World} {a : Option Addr} {n c : Nat} {L : List Nat} (h : Rd w (.slice a n c) L) (lo hi : Nat) (h1 : lo ≤ hi) (h2 : hi ≤ n) : Rd w (sliced a lo hi c 1) ((L.take hi).drop lo) := by
 obtain ⟨a', c', e, hc, hn, hb, ha⟩ := h
 injection e with e1 e2 e3
 subst e1; subst e2; subst e3
 have hl : ((L.take hi).drop lo).length = hi - lo := by simp; omega
 refine ⟨if c = lo then a else a.map (·.add (lo * 1)), c - lo, by rw [hl]; rfl, by omega, fun q => ?_, (hb.take hi).drop lo, fun q => ?_⟩
 ·split at q
  ·have := hn q; omega
  ·have : a = none := by simpa using q
   have := hn this; omega
 ·rw [hl] at q
  obtain ⟨b, o, e, hlt, hcell⟩ := ha (by omega)
  subst e
  refine ⟨b, o + lo, ?_, hlt, fun j x hx => ?_⟩
  ·rw [if_neg (by omega)]; simp [Addr.add]
  ·rw [Nat.add_assoc]
   refine hcell (lo + j) x ?_
   rw [List.getElem?_drop] at hx
   rw [← hx, List.getElem?_take]
   have hj : j < ((L.take hi).drop lo).length := at_lt (by rw [List.getElem?_drop]; exact hx)
   rw [hl] at hj
   rw [if_pos (by omega)]
theorem Rd.rest {w : World} {a : Option Addr} {n c : Nat} {L : List Nat} (h : Rd w (.slice a n c) L) (lo : Nat) (h1 : lo ≤ n) : Rd w (sliced a lo n c 1) (L.drop lo) := by
 have := h.part lo n h1 (Nat.le_refl _)
 have hn : L.length = n := by
  obtain ⟨a', c', e, _⟩ := h
  injection e with _ e2 _
  exact e2.symm
 rwa [List.take_of_length_le (by omega)] at this
theorem infoB : (Try.prog.info? 5).map (fun i => (i.zero, i.size, i.bytes)) = some (some (.int .u8 0), 1, 1) := by kernel_rfl
/-- The slice v of bytes is of the call's own, from the block base on, and reads L. -/
def Ow (w : World) (base : Nat) (v : Value) (L : List Nat) : Prop := w.ownsRow base 5 1 v L.length (cs L) ∧ By L
theorem Ow.nil (w : World) (base : Nat) : Ow w base (.slice none 0 0) [] := ⟨World.ownsRow_nil w base 5 1, By.nil⟩
theorem Ow.below {w w' : World} {base : Nat} {v : Value} {L : List Nat} (h : Ow w base v L) (hb : Below w.heap.size w w') : Ow w' base v L :=
 ⟨World.ownsRow.kept (row := none) h.1 ⟨hb.os, hb.tape, hb.output, hb.size, fun k hk _ => hb.block k hk⟩ (by cases hv : v.ownBlock <;> simp), h.2⟩
theorem Ow.rd {w : World} {base : Nat} {v : Value} {L : List Nat} (h : Ow w base v L) : Rd w v L := by
 rcases h.1.2 with ⟨rfl, h0⟩ | ⟨g, cap, cur, rfl, hb, hk, hle, _⟩
 ·have e : L = [] := List.length_eq_zero_iff.1 h0
  subst e
  exact Rd.nil w
 ·refine ⟨_, cap, rfl, hle, fun q => by simp at q, h.2, fun _ => ⟨g, 0, rfl, (World.ownsRow.lt h.1 g rfl).2, fun j x hx => ?_⟩⟩
  have c1 := World.ownsRow.cells h.1 (g := g) rfl _ _ (cs_at hx)
  rwa [Go.WideShapes.add_plain] at c1
theorem Ow.slice {w : World} {base : Nat} {v : Value} {L : List Nat} (h : Ow w base v L) : ∃ a c, v = .slice a L.length c := by
 obtain ⟨a, c, e, _⟩ := h.rd; exact ⟨a, c, e⟩
theorem Ow.full {w : World} {base : Nat} {v : Value} {L : List Nat} (h : Ow w base v L) (h0 : 0 < L.length) : ∃ g c, v = .slice (some ⟨g, 0, none⟩) L.length c ∧ base ≤ g ∧ L.length ≤ c := by
 rcases h.1.2 with ⟨_, h1⟩ | ⟨g, cap, cur, e, hb, hk, hle, _⟩
 ·omega
 ·exact ⟨g, cap, e, hb, hle⟩
/-- append(v, s...). -/
theorem app_c {w : World} {base : Nat} {v s : Value} {L M : List Nat} (h : Ow w base v L) (hs : Rd w s M) (hb : base ≤ w.heap.size) (hn : L.length + M.length < 1000000) :
  ∃ v' w', (Builtin.append_ #[22, 22] 22 #[v, s]).run Try.prog w = .ok v' w' ∧ Ow w' base v' (L ++ M) ∧ Below base w w' := by
 obtain ⟨i0, hi, hz0, hz1, hz2⟩ := info_parts infoB
 obtain ⟨a, c, rfl, hle, hnone, hby, hat⟩ := hs
 rcases a with _ | a
 ·have hc := hnone rfl
  have e : M = [] := List.length_eq_zero_iff.1 (by omega)
  subst e; subst hc
  refine ⟨v, w, run_append_owned_none (P := Try.prog) w base 22 22 5 i0 1 Try.underlying22 hi v _ _ h.1, by rw [List.append_nil]; exact h, Below.refl _ _⟩
 ·obtain ⟨v', w', hr, ho, hg, _⟩ := run_append_own (P := Try.prog) w base 22 22 5 i0 _ 1 1 Try.underlying22 hi hz0 hz1 hz2 rfl (by decide)
   v _ _ h.1 a M.length c (cs M) (by rw [cs_len]; omega) (fun j u hj => by
    obtain ⟨x, hx, rfl⟩ := cs_back hj
    obtain ⟨b, o, e, _, hc⟩ := hat (by have := at_lt hx; omega)
    injection e with e
    subst e
    rw [Go.WideShapes.add_plain]; exact hc j x hx) (cs_one M) (by simp only [maxLen]; omega) (by omega) hb
  refine ⟨v', w', hr, ⟨by rw [List.length_append, cs_app]; exact ho, h.2.app hby⟩, ?_⟩
  exact (Below.refl base w).grown hg hb (fun k hk => (World.ownsRow.lt h.1 k hk).1)
theorem new_rd (w : World) (A : Array Value) (L : List Nat) (hL : By L) (e : A = (cs L).toArray) (n : Nat) (hn : L.length = n) : Rd (w.alloc (.cells A 5)) (.slice (some ⟨w.heap.size, 0, none⟩) n n) L := by
 subst e; subst hn
 refine ⟨_, _, rfl, Nat.le_refl _, fun q => by simp at q, hL, fun _ => ⟨w.heap.size, 0, rfl, by simp, fun j x hx => ?_⟩⟩
 rw [Nat.zero_add, (Has.new w _ 5).2.1 j]
 simpa using cs_at hx
/-- append(v, x). -/
theorem app_1 {w : World} {base : Nat} {v : Value} {L : List Nat} (x : Nat) (hx : x < 256) (z : Int) (hz : z = x) (h : Ow w base v L) (hb : base ≤ w.heap.size) (hn : L.length < 900000) :
  ∃ v' w', (Builtin.append_ #[22, 22] 22 #[v, .slice (some ⟨w.heap.size, 0, none⟩) 1 1]).run Try.prog (w.alloc (.cells #[.int .u8 z] 5)) = .ok v' w' ∧ Ow w' base v' (L ++ [x]) ∧ Below base w w' := by
 subst hz
 obtain ⟨v', w', h1, h2, h3⟩ := app_c (w := w.alloc (.cells #[.int .u8 x] 5)) (Ow.below h (own1 w _)) (new_rd w _ [x] (By.one hx) (by simp [cs]) 1 rfl) (by simp; omega) (by simp; omega)
 exact ⟨v', w', h1, h2, ((Below.refl base w).alloc hb _).trans h3⟩
/-- An empty slice that is written out. -/
theorem own_mt (w : World) (base : Nat) (hb : base ≤ w.heap.size) : Ow (w.alloc (.cells #[] 5)) base (.slice (some ⟨w.heap.size, 0, none⟩) 0 0) [] :=
 ⟨⟨by rfl, Or.inr ⟨w.heap.size, 0, #[], rfl, hb, (by show (w.heap.push _)[w.heap.size]? = _; simp), Nat.le_refl _, by decide, rfl, rfl⟩⟩, By.nil⟩
theorem mk_own {w : World} {base : Nat} (n : Nat) (hn : n < 1000000) (hb : base ≤ w.heap.size) : ∃ w', (Instr.makeSlice 22 (.int .i64 0) (.int .i64 n)).run Try.prog w = .ok (.slice (some ⟨w.heap.size, 0, none⟩) 0 n) w' ∧ Ow w' base (.slice (some ⟨w.heap.size, 0, none⟩) 0 n) [] ∧ Below base w w' := by
 obtain ⟨i0, hi, hz0, hz1, hz2⟩ := info_parts infoB
 obtain ⟨w', h1, h2, h3⟩ := run_make_own (P := Try.prog) w base 22 5 i0 _ 1 Try.underlying22 hi hz0 hz1 .i64 .i64 n (by rw [hz2]; omega) (by simp only [maxLen]; omega) hb
 exact ⟨w', h1, ⟨h2, By.nil⟩, (Below.refl base w).grown h3 hb (fun k hk => by cases hk)⟩
/-- A byte is stored into a slice of the call's own. -/
theorem st_own {w : World} {base g n c : Nat} {L : List Nat} (h : Ow w base (.slice (some ⟨g, 0, none⟩) n c) L) (hn : L.length = n) (k x : Nat) (hx : x < 256) :
  Ow (w.setCell ⟨g, k, none⟩ (.int .u8 x)) base (.slice (some ⟨g, 0, none⟩) n c) (L.set k x) ∧ Below base w (w.setCell ⟨g, k, none⟩ (.int .u8 x)) := by
 subst hn
 have h1 := World.ownsRow.stored h.1 k (.int .u8 (x : Int))
 have hg := (World.ownsRow.lt h.1 g rfl).1
 refine ⟨⟨?_, fun y hy => ?_⟩, ?_⟩
 ·have e : cs (L.set k x) = (cs L).set k (.int .u8 (x : Int)) := by simp [cs, List.map_set]
  rw [e, List.length_set]
  exact h1.1
 ·rcases List.mem_or_eq_of_mem_set hy with q | q
  ·exact h.2 y q
  ·omega
 ·exact (Below.refl base w).setCell hg _
theorem Ow.cell {w : World} {base g n c : Nat} {L : List Nat} (h : Ow w base (.slice (some ⟨g, 0, none⟩) n c) L) {k x : Nat} (hx : L[k]? = some x) : w.cell? ⟨g, k, none⟩ = some (.int .u8 x) ∧ w.frozen? ⟨g, k, none⟩ = false := by
 have hn : L.length = n := by
  obtain ⟨a', c', e, _⟩ := h.rd
  injection e with _ e2 _
  exact e2.symm
 subst hn
 have c1 := World.ownsRow.cells h.1 (g := g) rfl _ _ (cs_at hx)
 rw [Go.WideShapes.add_plain, Nat.zero_add] at c1
 exact ⟨c1, World.ownsRow.frozenAt h.1 k⟩
theorem wp_append_run {P : Program} {w w' : World} {o : Oper} {a : Act} {K : Act → World → Prop} {Q : Exit → Act → World → Prop} (s x : Operand) (t : TypeId) (v u v' : Value)
    (ho : o.op = .call { callee := .builtin .append, args := #[s, x], argTypes := #[t, t] }) (hs : a.eval s = v) (hx : a.eval x = u)
    (hr : (Builtin.append_ #[t, t] o.type #[v, u]).run P w = .ok v' w') (h : K (a.put o.dst v') w') : o.wp P a w K Q := by
  unfold Oper.wp execOp
  simp only [ho, resolve, invoke, builtin, Sem.run_bind, Sem.run_pure, Result.andThen_ok, List.map_toArray, List.map_cons, List.map_nil, hs, hx, hr]
  exact h
theorem wpList_append_run {P : Program} {w w' : World} {ops : Array Oper} {rest : List Oper} {o : Oper} {a : Act} {Q : Exit → Act → World → Prop} (hgd : o.guard = none) (s x : Operand) (t : TypeId) (v u v' : Value)
    (ho : o.op = .call { callee := .builtin .append, args := #[s, x], argTypes := #[t, t] }) (hs : a.eval s = v) (hx : a.eval x = u)
    (hr : (Builtin.append_ #[t, t] o.type #[v, u]).run P w = .ok v' w') (h : wpList P ops Q rest (a.put o.dst v') w') : wpList P ops Q (o :: rest) a w :=
  wpList_plain hgd fun _ hK => wp_append_run s x t v u v' ho hs hx hr (hK _ _ h)
/-- A scope with one label that is jumped back to, and one that is jumped to once. -/
def Exit.hops (l0 l1 : Nat) (J0 J1 : Act → World → Prop) (Q : Exit → Act → World → Prop) : Exit → Act → World → Prop
 | .goto l, a, w => (l = l0 ∧ J0 a w) ∨ (l = l1 ∧ J1 a w)
 | e, a, w => Q e a w
section
variable {P : Program} {a : Act} {w : World} {Q : Exit → Act → World → Prop}
theorem wp_scope_hops {c r0 r1 : Code} (l0 l1 : Nat) (J0 : Nat → Act → World → Prop) (J1 : Act → World → Prop) (h0 : findLabel c l0 = some r0) (h1 : findLabel c l1 = some r1)
  (first : ∀ Q' : Exit → Act → World → Prop, (∀ a w, Q .ret a w → Q' .ret a w) → (∀ n a w, J0 n a w → r0.wp P Q' a w) → c.wp P Q' a w)
  (pass : ∀ n a w, J0 n a w → ∀ Q' : Exit → Act → World → Prop, (∀ a w, Q .ret a w → Q' .ret a w) → (∀ n' a' w', n' < n → J0 n' a' w' → Q' (.goto l0) a' w') → (∀ a' w', J1 a' w' → Q' (.goto l1) a' w') → r0.wp P Q' a w)
  (last : ∀ a w, J1 a w → ∀ Q' : Exit → Act → World → Prop, (∀ a w, Q .ret a w → Q' .ret a w) → r1.wp P Q' a w) : (Code.scope c).wp P Q a w := by
 intro b k cs
 have hg0 : gotoIn l0 (.inScope c :: k) = some (.code r0 :: .inScope c :: k) := by simp [gotoIn, h0]
 have hg1 : gotoIn l1 (.inScope c :: k) = some (.code r1 :: .inScope c :: k) := by simp [gotoIn, h1]
 have tail : ∀ a w, J1 a w → ∃ e a' w', Q e a' w' ∧ Arrives P (lone (b.at a (.code r1 :: .inScope c :: k)) cs w) b k cs e a' w' := by
  intro a w hJ
  obtain ⟨e, a₁, w₁, hq, harr⟩ := last a w hJ (fun e a w => match e with | .goto l => False | e => Q e a w) (fun _ _ h => h) b (.inScope c :: k) cs
  cases e with
  | normal => exact ⟨.normal, a₁, w₁, hq, Steps.trans harr (.one step_inScope)⟩
  | exit id => exact ⟨.exit id, a₁, w₁, hq, fun k' hk => harr k' (by simp [exitTo, hk])⟩
  | goto l' => exact hq.elim
  | ret => exact ⟨_, a₁, w₁, hq, harr⟩
  | panic ch => exact ⟨_, a₁, w₁, hq, harr⟩
  | outgrown => exact ⟨_, a₁, w₁, hq, harr⟩
 have key : ∀ n a w, J0 n a w → ∃ e a' w', Q e a' w' ∧ Arrives P (lone (b.at a (.code r0 :: .inScope c :: k)) cs w) b k cs e a' w' := by
  intro n
  induction n using Nat.strongRecOn with
  | _ n ih =>
   intro a w hJ
   obtain ⟨e, a₁, w₁, hq, harr⟩ := pass n a w hJ (Exit.hops l0 l1 (fun a w => ∃ n', n' < n ∧ J0 n' a w) J1 Q) (fun _ _ h => h) (fun n' _ _ hn h => Or.inl ⟨rfl, n', hn, h⟩) (fun _ _ h => Or.inr ⟨rfl, h⟩) b (.inScope c :: k) cs
   cases e with
   | normal => exact ⟨.normal, a₁, w₁, hq, Steps.trans harr (.one step_inScope)⟩
   | exit id => exact ⟨.exit id, a₁, w₁, hq, fun k' hk => harr k' (by simp [exitTo, hk])⟩
   | goto l' =>
    rcases hq with ⟨rfl, n', hn, hJ'⟩ | ⟨rfl, hJ'⟩
    ·obtain ⟨e₂, a₂, w₂, hq₂, harr₂⟩ := ih n' hn a₁ w₁ hJ'
     exact ⟨e₂, a₂, w₂, hq₂, .of_steps (harr _ hg0) harr₂⟩
    ·obtain ⟨e₂, a₂, w₂, hq₂, harr₂⟩ := tail a₁ w₁ hJ'
     exact ⟨e₂, a₂, w₂, hq₂, .of_steps (harr _ hg1) harr₂⟩
   | ret => exact ⟨_, a₁, w₁, hq, harr⟩
   | panic ch => exact ⟨_, a₁, w₁, hq, harr⟩
   | outgrown => exact ⟨_, a₁, w₁, hq, harr⟩
 obtain ⟨e, a₁, w₁, hq, harr⟩ := first (Exit.hops l0 l1 (fun a w => ∃ n', J0 n' a w) J1 Q) (fun _ _ h => h) (fun n a w hJ => pass n a w hJ _ (fun _ _ h => h) (fun n' _ _ hn h => Or.inl ⟨rfl, n', h⟩) (fun _ _ h => Or.inr ⟨rfl, h⟩)) b (.inScope c :: k) cs
 cases e with
 | normal => exact ⟨.normal, a₁, w₁, hq, .head step_scope (Steps.trans harr (.one step_inScope))⟩
 | exit id => exact ⟨.exit id, a₁, w₁, hq, fun k' hk => .head step_scope (harr k' (by simp [exitTo, hk]))⟩
 | goto l' =>
  rcases hq with ⟨rfl, n', hJ'⟩ | ⟨rfl, hJ'⟩
  ·obtain ⟨e₂, a₂, w₂, hq₂, harr₂⟩ := key n' a₁ w₁ hJ'
   exact ⟨e₂, a₂, w₂, hq₂, .of_steps (.head step_scope (harr _ hg0)) harr₂⟩
  ·obtain ⟨e₂, a₂, w₂, hq₂, harr₂⟩ := tail a₁ w₁ hJ'
   exact ⟨e₂, a₂, w₂, hq₂, .of_steps (.head step_scope (harr _ hg1)) harr₂⟩
 | ret => exact ⟨_, a₁, w₁, hq, .of_steps (.one step_scope) harr⟩
 | panic ch => exact ⟨_, a₁, w₁, hq, .of_steps (.one step_scope) harr⟩
 | outgrown => exact ⟨_, a₁, w₁, hq, .of_steps (.one step_scope) harr⟩
/-- A scope with one label that is jumped back to. -/
theorem wp_scope_back {c r0 : Code} (l0 : Nat) (J0 : Nat → Act → World → Prop) (h0 : findLabel c l0 = some r0)
  (first : ∀ Q' : Exit → Act → World → Prop, (∀ a w, Q .ret a w → Q' .ret a w) → (∀ n a w, J0 n a w → r0.wp P Q' a w) → c.wp P Q' a w)
  (pass : ∀ n a w, J0 n a w → ∀ Q' : Exit → Act → World → Prop, (∀ a w, Q .ret a w → Q' .ret a w) → (∀ n' a' w', n' < n → J0 n' a' w' → Q' (.goto l0) a' w') → r0.wp P Q' a w) : (Code.scope c).wp P Q a w :=
 wp_scope_hops l0 l0 J0 (fun _ _ => False) h0 h0 first (fun n a w hJ Q' hq hb _ => pass n a w hJ Q' hq hb) (fun _ _ h => h.elim)
end
end Go.Proofs.Ytklbhbappaibgaa
