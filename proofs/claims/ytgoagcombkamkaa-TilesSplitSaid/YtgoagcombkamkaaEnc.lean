/-
  A whole line out of and into a block, by value; one dot of it: for every world; no condition.
-/
import Derived.Test.YtgoagcombkamkaaPl
import Derived.Laws.StructEq
import Derived.Laws.Rows
import Derived.Deep.MidRow
import Derived.Deep.WholeRow
import Derived.BigQuiet
import Derived.WalkSmall
namespace Go.Proofs.Ytgoagcombkamkaa
open Go.ChangeShapes Go.WideShapes Go.ChangeAt Go.RowKit
set_option linter.unusedVariables false
set_option linter.unusedSimpArgs false
set_option maxRecDepth 100000
theorem under34 : Try.prog.underlying 34 = some (.array 160 5) := Try.underlying34
theorem info34 : (Try.prog.info? 34).map (·.size) = some 160 := by kernel_rfl
theorem zero34 (w : World) : (zeroValue 34).run Try.prog w = .ok (.agg (enc zeroM)) w := by
  have h : (Try.prog.info? 34).map (fun i => (i.zero, i.size)) = some (some (.agg (enc zeroM)), 160) := by unfold enc; kernel_rfl
  exact (zero_of_info h).1 w
theorem range_of_has {w : World} {b : Nat} {m : M} (h : Has w b (enc m)) : w.rangeAt b 0 (enc m).toList := fun j v hv => by
  rw [Nat.zero_add, h.2.1]; simpa using hv
/-- A whole line is loaded. -/
theorem load_b {ops : Array Oper} {rest : List Oper} {op : Oper} {a : Act} {w : World} {Q : Exit → Act → World → Prop} {b : Nat} {m : M} (h : Has w b (enc m))
    (hgd : op.guard = none) (x : Operand) (ho : op.op = .load 34 x) (hx : a.eval x = .pointer (some ⟨b, 0, none⟩))
    (hK : wpList Try.prog ops Q rest (a.put op.dst (.agg (enc m))) w) : wpList Try.prog ops Q (op :: rest) a w :=
  wpList_load_mid hgd 34 x ho b 0 hx (enc m).toList _ (range_of_has h) under34 rfl (by rw [info34]; simp [enc_size]) (by simpa using hK)
/-- The same at an operation with a guard that lets it. -/
theorem load_bg {ops : Array Oper} {rest : List Oper} {op : Oper} {a : Act} {w : World} {Q : Exit → Act → World → Prop} {b : Nat} {m : M} (h : Has w b (enc m))
    (hw : Region.wanted op (yielded ops a.tmps) = true) (x : Operand) (ho : op.op = .load 34 x) (hx : a.eval x = .pointer (some ⟨b, 0, none⟩))
    (hK : wpList Try.prog ops Q rest (a.put op.dst (.agg (enc m))) w) : wpList Try.prog ops Q (op :: rest) a w := by
  refine wpList_step fun K hKK => ?_
  rw [if_pos hw]
  exact wp_load_mid 34 x ho b 0 hx (enc m).toList _ (range_of_has h) under34 rfl (by rw [info34]; simp [enc_size]) (by simpa using hKK _ _ hK)
/-- A whole line is stored: of the world behind it no more is told than what lies there, and that nothing else is turned. -/
theorem store_b {ops : Array Oper} {rest : List Oper} {op : Oper} {a : Act} {w : World} {Q : Exit → Act → World → Prop} {b : Nat} {m : M} (h : Has w b (enc m)) (m2 : M)
    (hgd : op.guard = none) (x y : Operand) (ho : op.op = .store 34 x y) (hx : a.eval x = .pointer (some ⟨b, 0, none⟩)) (hy : a.eval y = .agg (enc m2))
    (hK : ∀ w', Has w' b (enc m2) → Keeps b w w' → wpList Try.prog ops Q rest (a.put op.dst undef) w') : wpList Try.prog ops Q (op :: rest) a w := by
  refine wpList_store_mid hgd 34 x y ho b 0 (enc m2) hx hy (by have := h.there; rw [enc_size] at this ⊢; exact this) (by rw [info34, enc_size]) (enc_one m2) ?_
  exact hK _ (h.puts (by rw [enc_size, enc_size])) (Keeps.setCells _ 0 (Keeps.refl b w))
/-- One dot is stored. -/
theorem store_u {ops : Array Oper} {rest : List Oper} {op : Oper} {a : Act} {w : World} {Q : Exit → Act → World → Prop} {b : Nat} {m : M} (h : Has w b (enc m))
    (hgd : op.guard = none) (x y : Operand) (ho : op.op = .store 5 x y) (o : Nat) (hx : a.eval x = .pointer (some ⟨b, o, none⟩)) (z : Int) (hy : a.eval y = .int .u8 z) (ho2 : o < 160)
    (hK : ∀ w', Has w' b (enc (upd m o z)) → Keeps b w w' → wpList Try.prog ops Q rest (a.put op.dst undef) w') : wpList Try.prog ops Q (op :: rest) a w := by
  have hc := h.2.1 o
  rw [enc_get m o ho2] at hc
  have hP := h.set o (.int .u8 z) (by rw [enc_size]; exact ho2)
  rw [enc_set m o z ho2] at hP
  have hs : (storeVar 5 ⟨b, o, none⟩ (.int .u8 z)).run Try.prog w = .ok () (w.setCell ⟨b, o, none⟩ (.int .u8 z)) := by
    have h1 : (w.cell? ⟨b, o, none⟩) = some (.int .u8 (m o)) := hc
    have h2 : w.frozen? ⟨b, o, none⟩ = false := h.2.2 o
    simp [go_sem, h1, h2]
  refine wpList_plain hgd fun _ hKK => ?_
  unfold Oper.wp execOp
  simp only [ho, hx, hy, Instr.storeAt, Instr.sureAddr, Sem.run_bind, Sem.run_pure, Result.andThen_ok, hs]
  exact hKK _ _ (hK _ hP ((Keeps.refl b w).setCell o _))
/-- A line as a result. -/
theorem results_b {fn : Func} {t : Tmp} (h : fn.results = #[.cell t 34]) (tmps : Array Value) {b : Nat} {m : M} {w : World} (hx : tmps.getD t undef = .pointer (some ⟨b, 0, none⟩)) (hh : Has w b (enc m)) :
    (results fn tmps).run Try.prog w = .ok (.agg (enc m)) w := by
  have hl := run_loadVar_mid (P := Try.prog) w b 0 34 (enc m).toList _ (range_of_has hh) under34 rfl (by rw [info34]; simp [enc_size])
  simp only [Array.toArray_toList] at hl
  unfold results
  rw [h]
  have hx2 : tmps[t]?.getD undef = .pointer (some ⟨b, 0, none⟩) := by simpa using hx
  have e : (asAddr (tmps[t]?.getD undef)).run Try.prog w = .ok ⟨b, 0, none⟩ w := by rw [hx2]; rfl
  simp [Sem.run_bind, e, hl, Result.andThen]
/-- A line and a Boolean as results. -/
theorem results_2 {fn : Func} {t u : Tmp} (h : fn.results = #[.cell t 34, .tmp u]) (tmps : Array Value) {b : Nat} {m : M} {w : World} {z : Bool} (hx : tmps.getD t undef = .pointer (some ⟨b, 0, none⟩)) (hz : tmps.getD u undef = .bool z) (hh : Has w b (enc m)) :
    (results fn tmps).run Try.prog w = .ok (.tuple #[.agg (enc m), .bool z]) w := by
  have hl := run_loadVar_mid (P := Try.prog) w b 0 34 (enc m).toList _ (range_of_has hh) under34 rfl (by rw [info34]; simp [enc_size])
  simp only [Array.toArray_toList] at hl
  unfold results
  rw [h]
  have hx2 : tmps[t]?.getD undef = .pointer (some ⟨b, 0, none⟩) := by simpa using hx
  have hz2 : tmps[u]?.getD undef = .bool z := by simpa using hz
  have e : (asAddr (tmps[t]?.getD undef)).run Try.prog w = .ok ⟨b, 0, none⟩ w := by rw [hx2]; rfl
  simp [Sem.run_bind, e, hl, hz2, Result.andThen]
theorem Has.drewN {w : World} {b : Nat} {A : Array Value} (h : Has w b A) (n : Nat) : Has (w.drewN n) b A := h.below (below_drewN (Below.refl _ _) n)
theorem Keeps.drewN {b : Nat} {w0 w : World} (h : Keeps b w0 w) (n : Nat) : Keeps b w0 (w.drewN n) := h.trans (Keeps.of_below (below_drewN (Below.refl _ _) n))
/-- Within a drawn region. -/
theorem yields_load {ops : Array Oper} {S : World → Prop} {op : Oper} {a : Act} (m : M) (b : Nat) (hS : ∀ w, S w → w.rangeAt b 0 (enc m).toList) (hw : Region.wanted op (yielded ops a.tmps) = true) (x : Operand) (ho : op.op = .load 34 x)
    (hx : a.eval x = .pointer (some ⟨b, 0, none⟩)) : YieldsIf Try.prog ops S op (.agg (enc m)) a := by
  simpa using yieldsIf_load_mid (P := Try.prog) (ops := ops) (S := S) hw 34 x ho b 0 hx (enc m).toList _ hS under34 rfl (by rw [info34]; simp [enc_size])
theorem eq_array {P : Program} (d : Nat) (t : TypeId) (len : Nat) (elem : TypeId) (A : Array Value) (n : Nat) (hu : P.underlying t = some (.array len elem)) (hn : ∀ w, (sizeOf elem).run P w = .ok n w)
    (he : ∀ i, i < len → ∃ v, ∀ w, (part elem A (i * n)).run P w = .ok v w ∧ (Op.equalIn d elem v v).run P w = .ok true w) (w : World) :
    (Op.equalIn (d + 1) t (.agg A) (.agg A)).run P w = .ok true w := by
  simp only [Op.equalIn, Sem.run_bind, run_underlying hu, Result.andThen_ok, hn]
  simp only [Std.Legacy.Range.forIn_eq_forIn_range', Std.Legacy.Range.size, Nat.sub_zero, Nat.add_sub_cancel, Nat.div_one]
  have key : ∀ l : List Nat, (∀ i, i ∈ l → i < len) → (forIn l ((none, ()) : Option Bool × PUnit) fun i _ => do
      let a ← part elem A (i * n)
      let b ← part elem A (i * n)
      let r ← Op.equalIn d elem a b
      if (!r) = true then pure (ForInStep.done ((some false, ()) : Option Bool × PUnit)) else pure (ForInStep.yield ((none, ()) : Option Bool × PUnit))).run P w = .ok (none, ()) w := by
    intro l
    induction l with
    | nil => intro _; rfl
    | cons i l ih =>
      intro hl
      obtain ⟨v, hv⟩ := he i (hl i (by simp))
      simp only [List.forIn_cons, Sem.run_bind, (hv w).1, (hv w).2, Result.andThen_ok, Bool.not_true, Bool.false_eq_true, if_false, Sem.run_pure]
      exact ih (fun j hj => hl j (by simp [hj]))
  have k := key (List.range' 0 len) (fun i hi => by simpa using hi)
  rw [k]
  rfl
theorem part_cell {P : Program} {t : TypeId} {A : Array Value} {o : Nat} {v : Value} (ha : ∀ w, (isAgg t).run P w = .ok false w) (h : A[o]? = some v) (w : World) : (part t A o).run P w = .ok v w := by
  simp [part, Sem.run_bind, ha, h, Result.andThen]
theorem eq_u8 (d : Nat) (x : Int) (w : World) : (Op.equalIn (d + 1) 5 (.int .u8 x) (.int .u8 x)).run Try.prog w = .ok true w := by
  rw [run_equalIn_int w d 5 .u8 .u8 x x Try.underlying5]; simp
theorem eq_line (m : M) (w : World) : (Op.equalIn 10000 34 (.agg (enc m)) (.agg (enc m))).run Try.prog w = .ok true w :=
  eq_array 9999 34 160 5 _ 1 Try.underlying34 (fun w => Try.sizeOf5 w) (fun i hi => ⟨.int .u8 (m i), fun w => ⟨part_cell (fun w => Try.isAgg5 w) (by rw [Nat.mul_one]; exact enc_get m i hi) w, eq_u8 9998 _ w⟩⟩) w
theorem yields_eq {ops : Array Oper} {S : World → Prop} {op : Oper} {a : Act} (m : M) (hw : Region.wanted op (yielded ops a.tmps) = true) (x y : Operand) (ho : op.op = .binOp .eql 34 x y 34)
    (hx : a.eval x = .agg (enc m)) (hy : a.eval y = .agg (enc m)) : YieldsIf Try.prog ops S op (.bool true) a :=
  .inl ⟨hw, fun w _ => by
    unfold execOp
    simp only [ho, hx, hy]
    have h1 := run_eqGuard_agg (P := Try.prog) w .eql 34 x y (enc m) (enc m) (by kernel_rfl)
    have h2 := run_eql_struct (P := Try.prog) w 34 (enc m) (enc m)
    rw [eq_line] at h2
    simp [Sem.run_bind, h1, h2, Result.andThen]⟩
/-- The document's line and whether the window is seen in it. -/
def seenV (c wx wy line : Int) : Bool := decide (bit c 0 = 1) && reachV c wx wy line
def lineE (F : M) (c sx sy wx wy line own : Int) : M := if bit c 0 = 1 then firstN (lineV F c sx sy wx wy line own) 160 else zeroM
end Go.Proofs.Ytgoagcombkamkaa
