/-
  What the statements' own bus does, call by call: contracts, for every world; the bus is there.
-/
import Derived.Test.YtngdogldgcgnjaaGreatBus
namespace Go.Proofs.YtngdogldgcgnjaaGreat
open Go.ChangeShapes Go.WideShapes Go.ChangeAt Go.RowKit
open Reg
set_option linter.unusedVariables false
set_option maxRecDepth 100000

def ramC (M : Nat) (_q : Int) (v : Value) : Array Value := #[.slice (some ⟨M, 0, none⟩) 65536 65536, v]
/-- How a call of a bus ends. -/
def BE (C : Nat → Int → Value → Array Value) (R M tb : Nat) (v : Value) (w : World) (ret : Value) (m : Int → Int) (acc : List Ac) (n : Nat) (e : Ending) (w' : World) : Prop :=
  e = .returned ret ∧ ∃ v', Bus C w' R M tb v' m acc n ∧ BM R M tb v w v' w'
theorem infoA : (Tryz.prog.info? 59).map (fun i => (i.zero, i.size, i.bytes)) = some (some (.agg #[.int .i64 0, .int .u16 0, .int .u8 0]), 3, 16) := by kernel_rfl
theorem app_new {W : World} {v : Value} {acc : List Ac} (hown : W.ownsRow 0 59 3 v acc.length (accL acc)) (c : Ac) (hl : acc.length < 1000000) :
    ∃ g cap w2, (Builtin.append_ #[33, 33] 33 #[v, .slice (some ⟨W.heap.size, 0, none⟩) 1 1]).run Tryz.prog (W.alloc (.cells #[.int .i64 c.k, .int .u16 c.a, .int .u8 c.v] 59)) = .ok (.slice (some ⟨g, 0, none⟩) (acc.length + 1) cap) w2 ∧
      w2.ownsRow 0 59 3 (.slice (some ⟨g, 0, none⟩) (acc.length + 1) cap) (acc.length + 1) (accL acc ++ c.cells) ∧
      (W.alloc (.cells #[.int .i64 c.k, .int .u16 c.a, .int .u8 c.v] 59)).grownBy w2 v.ownBlock ∧
      ((Value.slice (some ⟨g, 0, none⟩) (acc.length + 1) cap).ownBlock = v.ownBlock ∨ (Value.slice (some ⟨g, 0, none⟩) (acc.length + 1) cap).ownBlock = some (W.alloc (.cells #[.int .i64 c.k, .int .u16 c.a, .int .u8 c.v] 59)).heap.size) := by
  obtain ⟨i0, hi, hz0, hz1, hz2⟩ := info_parts infoA
  obtain ⟨v', w2, hrun, ho, hg, _, hat⟩ := run_append_own_at (P := Tryz.prog) (W.alloc (.cells #[.int .i64 c.k, .int .u16 c.a, .int .u8 c.v] 59)) 0 33 33 59 i0 _ 3 16 Tryz.underlying33 hi hz0 hz1 hz2 rfl (by decide)
    v acc.length (accL acc) (hown.alloc _) ⟨W.heap.size, 0, none⟩ 1 1 c.cells rfl (fun j u hj => by
      match j, hj with
      | 0, hj => simp [Ac.cells] at hj; subst hj; simp [Addr.add, go_sem]
      | 1, hj => simp [Ac.cells] at hj; subst hj; simp [Addr.add, go_sem]
      | 2, hj => simp [Ac.cells] at hj; subst hj; simp [Addr.add, go_sem]
      | j + 3, hj => simp [Ac.cells] at hj) (fun u hu => by simp [Ac.cells] at hu; rcases hu with rfl | rfl | rfl <;> rfl)
    (by simp only [maxLen]; omega) (by omega) (Nat.zero_le _)
  rcases ho.2 with ⟨_, h0⟩ | ⟨g, cap, cur, rfl, _⟩
  · omega
  · exact ⟨g, cap, w2, hrun, ho, hg, hat⟩
theorem wp_append_run {P : Program} {w w' : World} {o : Oper} {a : Act} {K : Act → World → Prop} {Q : Exit → Act → World → Prop} (s x : Operand) (t : TypeId) (v u v' : Value)
    (ho : o.op = .call { callee := .builtin .append, args := #[s, x], argTypes := #[t, t] }) (hs : a.eval s = v) (hx : a.eval x = u)
    (hr : (Builtin.append_ #[t, t] o.type #[v, u]).run P w = .ok v' w') (h : K (a.put o.dst v') w') : o.wp P a w K Q := by
  unfold Oper.wp execOp
  simp only [ho, resolve, invoke, builtin, Sem.run_bind, Sem.run_pure, Result.andThen_ok, List.map_toArray, List.map_cons, List.map_nil, hs, hx, hr]
  exact h
theorem wpList_append_run {P : Program} {w w' : World} {ops : Array Oper} {rest : List Oper} {o : Oper} {a : Act} {Q : Exit → Act → World → Prop} (hgd : o.guard = none) (s x : Operand) (t : TypeId) (v u v' : Value)
    (ho : o.op = .call { callee := .builtin .append, args := #[s, x], argTypes := #[t, t] }) (hs : a.eval s = v) (hx : a.eval x = u)
    (hr : (Builtin.append_ #[t, t] o.type #[v, u]).run P w = .ok v' w') (h : wpList P ops Q rest (a.put o.dst v') w') : wpList P ops Q (o :: rest) a w :=
  wpList_plain hgd fun _ hK => wp_append_run s x t v u v' ho hs hx hr (hK _ _ h)
section
variable {w : World} {R M tb n : Nat} {v : Value} {m : Int → Int} {acc : List Ac}
theorem Has.grown {w w' : World} {b : Nat} {A : Array Value} {row : Option Nat} (h : Has w b A) (hg : w.grownBy w' row) (hn : ¬ row = some b) : Has w' b A :=
  h.off (X := fun k => row = some k) ⟨hg.os, hg.tape, hg.output, hg.size, fun k hk hn => hg.block k hk (fun e => hn e.symm)⟩ hn
theorem ramC_set (M : Nat) (q : Int) (x x' : Value) : (ramC M q x).setIfInBounds 1 x' = ramC M q x' := rfl
theorem ramC_size (M : Nat) (q : Int) (x : Value) : 1 < (ramC M q x).size := by show 1 < 2; decide
set_option maxHeartbeats 1000000 in
theorem idle_b (h : Bus ramC w R M tb v m acc n) (hn : n < 1000000) : Calls Tryz.prog 174 #[.pointer (some ⟨R, 0, none⟩)] w (BE ramC R M tb v w (.tuple #[]) m (acc ++ [⟨0, 0, 0⟩]) (n + 1)) := by
  obtain ⟨q, hR⟩ := h.ram
  have hc1 : w.cell? ⟨R, 1, none⟩ = some v := hR.2.1 1
  obtain ⟨g, cap, w2, hrun, ho, hg, hat⟩ := app_new h.own ⟨0, 0, 0⟩ (Nat.lt_of_le_of_lt h.len hn)
  have hR2 := (hR.alloc (.cells #[.int .i64 0, .int .u16 0, .int .u8 0] 59)).grown hg (fun e => (h.vr R e).1 rfl)
  have hc2 : w2.cell? ⟨R, 1, none⟩ = some v := hR2.2.1 1
  have hf2 := hR2.2.2 1
  have HB := Lib.hid (h.app 1 (ramC_set M) (ramC_size M) ⟨0, 0, 0⟩ (own1 w _) hg ho hat)
  have HRUN := Lib.hid hrun
  clear hR hR2 ho hg hat h hrun
  go_enter Tryz.func174, Tryz.ntmps174
  go_wp2_with (at_builtin; refine wpList_append_run rfl _ _ 33 _ _ _ rfl rfl rfl HRUN.out ?_)
  go_end0
  exact ⟨rfl, _, HB.out.1, HB.out.2⟩
set_option maxHeartbeats 1000000 in
theorem write_b (h : Bus ramC w R M tb v m acc n) (hn : n < 1000000) (a x : Int) (a0 : 0 ≤ a) (a1 : a < 65536) (x0 : 0 ≤ x) (x1 : x < 256) :
    Calls Tryz.prog 177 #[.pointer (some ⟨R, 0, none⟩), .int .u16 a, .int .u8 x] w (BE ramC R M tb v w (.tuple #[]) (upd m a x) (acc ++ [⟨2, a, x⟩]) (n + 1)) := by
  obtain ⟨q, hR⟩ := h.ram
  have hc1 : w.cell? ⟨R, 1, none⟩ = some v := hR.2.1 1
  obtain ⟨g, cap, w2, hrun, ho, hg, hat⟩ := app_new h.own ⟨2, a, x⟩ (Nat.lt_of_le_of_lt h.len hn)
  have hR2 := (hR.alloc (.cells #[.int .i64 2, .int .u16 a, .int .u8 x] 59)).grown hg (fun e => (h.vr R e).1 rfl)
  have hc2 : w2.cell? ⟨R, 1, none⟩ = some v := hR2.2.1 1
  have hc20 : w2.cell? ⟨R, 0, none⟩ = some (.slice (some ⟨M, 0, none⟩) 65536 65536) := hR2.2.1 0
  have hf2 := hR2.2.2 1
  have hB := h.app 1 (ramC_set M) (ramC_size M) ⟨2, a, x⟩ (own1 w _) hg ho hat
  obtain ⟨k, rfl⟩ := Int.eq_ofNat_of_zero_le a0
  have hk : k < 65536 := by omega
  have hP := hB.1.poke k hk x x0 x1
  have hm := hB.1.mem k hk
  have hfm := hB.1.free k
  have hrm : ¬ R = M := h.rm
  have HB := Lib.hid hB
  have HP := Lib.hid hP
  have HRUN := Lib.hid hrun
  clear hR hR2 ho hg hat h hB hP hrun
  go_enter Tryz.func177, Tryz.ntmps177
  go_wp2_with (at_builtin; refine wpList_append_run rfl _ _ 33 _ _ _ rfl rfl rfl HRUN.out ?_)
  go_end0
  exact ⟨rfl, _, HP.out.1, HB.out.2.trans HP.out.2⟩
end
end Go.Proofs.YtngdogldgcgnjaaGreat
