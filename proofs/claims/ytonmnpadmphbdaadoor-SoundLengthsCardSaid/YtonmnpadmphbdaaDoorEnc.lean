/-
  A whole board out of and into a block, by value; the block that a new board is: for every world; no condition.
-/
import Derived.Test.YtonmnpadmphbdaaDoorPure
import Derived.Test.YtonmnpadmphbdaaDoorBase
import Derived.Deep.MidRow
import Derived.Deep.WholeRow
import Derived.BigQuiet
import Derived.WalkSmall
namespace Go.Proofs.YtonmnpadmphbdaaDoor
open Go.ChangeShapes Go.WideShapes Go.ChangeAt Go.RowKit
set_option linter.unusedVariables false
set_option linter.unusedSimpArgs false
set_option maxRecDepth 100000
theorem under29 : ∃ fs, Tryd.prog.underlying 29 = some (.struct fs) := ⟨_, Tryd.underlying29⟩
theorem info29 : (Tryd.prog.info? 29).map (·.size) = some 70 := by kernel_rfl
def zeroM : M := fun _ => 0
theorem zero29 (w : World) : (zeroValue 29).run Tryd.prog w = .ok (.agg (enc zeroM)) w := by
  have h : (Tryd.prog.info? 29).map (fun i => (i.zero, i.size)) = some (some (.agg (enc zeroM)), 70) := by kernel_rfl
  exact (zero_of_info h).1 w
theorem range_of_has {w : World} {b : Nat} {m : M} (h : Has w b (enc m)) : w.rangeAt b 0 (enc m).toList := fun j v hv => by
  rw [Nat.zero_add, h.2.1]; simpa using hv
/-- A whole board is loaded. -/
theorem load_b {ops : Array Oper} {rest : List Oper} {op : Oper} {a : Act} {w : World} {Q : Exit → Act → World → Prop} {b : Nat} {m : M} (h : Has w b (enc m))
    (hgd : op.guard = none) (x : Operand) (ho : op.op = .load 29 x) (hx : a.eval x = .pointer (some ⟨b, 0, none⟩))
    (hK : wpList Tryd.prog ops Q rest (a.put op.dst (.agg (enc m))) w) : wpList Tryd.prog ops Q (op :: rest) a w := by
  obtain ⟨fs, hu⟩ := under29
  exact wpList_load_mid hgd 29 x ho b 0 hx (enc m).toList (.struct fs) (range_of_has h) hu rfl (by rw [info29]; simp [enc_size]) (by simpa using hK)
/-- A whole board is stored: of the world behind it no more is told than what lies there, and that nothing else is turned. -/
theorem store_b {ops : Array Oper} {rest : List Oper} {op : Oper} {a : Act} {w : World} {Q : Exit → Act → World → Prop} {b : Nat} {m : M} (h : Has w b (enc m)) (m2 : M)
    (hgd : op.guard = none) (x y : Operand) (ho : op.op = .store 29 x y) (hx : a.eval x = .pointer (some ⟨b, 0, none⟩)) (hy : a.eval y = .agg (enc m2))
    (hK : ∀ w', Has w' b (enc m2) → Keeps b w w' → wpList Tryd.prog ops Q rest (a.put op.dst undef) w') : wpList Tryd.prog ops Q (op :: rest) a w := by
  refine wpList_store_mid hgd 29 x y ho b 0 (enc m2) hx hy (by have := h.there; rw [enc_size] at this ⊢; exact this) (by rw [info29, enc_size]) (enc_one m2) ?_
  exact hK _ (h.puts (by rw [enc_size, enc_size])) (Keeps.setCells _ 0 (Keeps.refl b w))
/-- A board as a result. -/
theorem results_b {fn : Func} {t : Tmp} (h : fn.results = #[.cell t 29]) (tmps : Array Value) {b : Nat} {m : M} {w : World} (hx : tmps.getD t undef = .pointer (some ⟨b, 0, none⟩)) (hh : Has w b (enc m)) :
    (results fn tmps).run Tryd.prog w = .ok (.agg (enc m)) w := by
  obtain ⟨fs, hu⟩ := under29
  have hl := run_loadVar_mid (P := Tryd.prog) w b 0 29 (enc m).toList (.struct fs) (range_of_has hh) hu rfl (by rw [info29]; simp [enc_size])
  simp only [Array.toArray_toList] at hl
  unfold results
  rw [h]
  have hx2 : tmps[t]?.getD undef = .pointer (some ⟨b, 0, none⟩) := by simpa using hx
  have e : (asAddr (tmps[t]?.getD undef)).run Tryd.prog w = .ok ⟨b, 0, none⟩ w := by rw [hx2]; rfl
  simp [Sem.run_bind, e, hl, Result.andThen]
theorem store_i {ops : Array Oper} {rest : List Oper} {op : Oper} {a : Act} {w : World} {Q : Exit → Act → World → Prop} {b : Nat} {m : M} (h : Has w b (enc m))
    (hgd : op.guard = none) (x y : Operand) (ho : op.op = .store 3 x y) (o : Nat) (hx : a.eval x = .pointer (some ⟨b, o, none⟩)) (z : Int) (hy : a.eval y = .int .i64 z) (hB : isB o = false) (h1 : ¬ o < 48) (h2 : o < 70)
    (hK : ∀ w', Has w' b (enc (upd m o z)) → Keeps b w w' → wpList Tryd.prog ops Q rest (a.put op.dst undef) w') : wpList Tryd.prog ops Q (op :: rest) a w := by
  have ho2 : o < 70 := by omega
  have hc := h.2.1 o
  rw [enc_get m o ho2] at hc
  have hP := h.set o (.int .i64 z) (by rw [enc_size]; exact ho2)
  rw [enc_set_i m o z hB h1 h2] at hP
  have hs : (storeVar 3 ⟨b, o, none⟩ (.int .i64 z)).run Tryd.prog w = .ok () (w.setCell ⟨b, o, none⟩ (.int .i64 z)) := by
    have h1 : (w.cell? ⟨b, o, none⟩) = some (mk o (m o)) := hc
    have h2 : w.frozen? ⟨b, o, none⟩ = false := h.2.2 o
    simp [go_sem, h1, h2]
  refine wpList_plain hgd fun _ hKK => ?_
  unfold Oper.wp execOp
  simp only [ho, hx, hy, Instr.storeAt, Instr.sureAddr, Sem.run_bind, Sem.run_pure, Result.andThen_ok, hs]
  exact hKK _ _ (hK _ hP ((Keeps.refl b w).setCell o _))
theorem store_bo {ops : Array Oper} {rest : List Oper} {op : Oper} {a : Act} {w : World} {Q : Exit → Act → World → Prop} {b : Nat} {m : M} (h : Has w b (enc m))
    (hgd : op.guard = none) (x y : Operand) (ho : op.op = .store 4 x y) (o : Nat) (hx : a.eval x = .pointer (some ⟨b, o, none⟩)) (z : Bool) (hy : a.eval y = .bool z) (hB : isB o = true) (h2 : o < 70)
    (hK : ∀ w', Has w' b (enc (upd m o (tf z))) → Keeps b w w' → wpList Tryd.prog ops Q rest (a.put op.dst undef) w') : wpList Tryd.prog ops Q (op :: rest) a w := by
  have ho2 : o < 70 := by omega
  have hc := h.2.1 o
  rw [enc_get m o ho2] at hc
  have hP := h.set o (.bool z) (by rw [enc_size]; exact ho2)
  rw [enc_set_b m o z hB h2] at hP
  have hs : (storeVar 4 ⟨b, o, none⟩ (.bool z)).run Tryd.prog w = .ok () (w.setCell ⟨b, o, none⟩ (.bool z)) := by
    have h1 : (w.cell? ⟨b, o, none⟩) = some (mk o (m o)) := hc
    have h2 : w.frozen? ⟨b, o, none⟩ = false := h.2.2 o
    simp [go_sem, h1, h2]
  refine wpList_plain hgd fun _ hKK => ?_
  unfold Oper.wp execOp
  simp only [ho, hx, hy, Instr.storeAt, Instr.sureAddr, Sem.run_bind, Sem.run_pure, Result.andThen_ok, hs]
  exact hKK _ _ (hK _ hP ((Keeps.refl b w).setCell o _))
theorem store_u {ops : Array Oper} {rest : List Oper} {op : Oper} {a : Act} {w : World} {Q : Exit → Act → World → Prop} {b : Nat} {m : M} (h : Has w b (enc m))
    (hgd : op.guard = none) (x y : Operand) (ho : op.op = .store 5 x y) (o : Nat) (hx : a.eval x = .pointer (some ⟨b, o, none⟩)) (z : Int) (hy : a.eval y = .int .u8 z) (h1 : o < 48)
    (hK : ∀ w', Has w' b (enc (upd m o z)) → Keeps b w w' → wpList Tryd.prog ops Q rest (a.put op.dst undef) w') : wpList Tryd.prog ops Q (op :: rest) a w := by
  have ho2 : o < 70 := by omega
  have hc := h.2.1 o
  rw [enc_get m o ho2] at hc
  have hP := h.set o (.int .u8 z) (by rw [enc_size]; exact ho2)
  rw [enc_set_u8 m o z h1] at hP
  have hs : (storeVar 5 ⟨b, o, none⟩ (.int .u8 z)).run Tryd.prog w = .ok () (w.setCell ⟨b, o, none⟩ (.int .u8 z)) := by
    have h1 : (w.cell? ⟨b, o, none⟩) = some (mk o (m o)) := hc
    have h2 : w.frozen? ⟨b, o, none⟩ = false := h.2.2 o
    simp [go_sem, h1, h2]
  refine wpList_plain hgd fun _ hKK => ?_
  unfold Oper.wp execOp
  simp only [ho, hx, hy, Instr.storeAt, Instr.sureAddr, Sem.run_bind, Sem.run_pure, Result.andThen_ok, hs]
  exact hKK _ _ (hK _ hP ((Keeps.refl b w).setCell o _))
theorem Has.seti {w : World} {b : Nat} {m : M} (h : Has w b (enc m)) (o : Nat) (z : Int) (hB : isB o = false) (h1 : ¬ o < 48) (h2 : o < 70) : Has (w.setCell ⟨b, o, none⟩ (.int .i64 z)) b (enc (upd m o z)) := by
  have hP := h.set o (.int .i64 z) (by rw [enc_size]; exact h2)
  rwa [enc_set_i m o z hB h1 h2] at hP
theorem Has.setu {w : World} {b : Nat} {m : M} (h : Has w b (enc m)) (o : Nat) (z : Int) (h1 : o < 48) : Has (w.setCell ⟨b, o, none⟩ (.int .u8 z)) b (enc (upd m o z)) := by
  have hP := h.set o (.int .u8 z) (by rw [enc_size]; omega)
  rwa [enc_set_u8 m o z h1] at hP
theorem Has.drewN {w : World} {b : Nat} {A : Array Value} (h : Has w b A) (n : Nat) : Has (w.drewN n) b A := h.below (below_drewN (Below.refl _ _) n)
theorem Keeps.drewN {b : Nat} {w0 w : World} (h : Keeps b w0 w) (n : Nat) : Keeps b w0 (w.drewN n) := h.trans (Keeps.of_below (below_drewN (Below.refl _ _) n))
end Go.Proofs.YtonmnpadmphbdaaDoor
