/-
  Whole structs and lines out of and into a block, by value; one dot of them: for every world; no condition.
-/
import Derived.Test.YtpfbodmadmneiaaSq
import Derived.Laws.StructEq
import Derived.Laws.Rows
import Derived.Deep.MidRow
import Derived.Deep.WholeRow
import Derived.BigQuiet
import Derived.WalkSmall
namespace Go.Proofs.Ytpfbodmadmneiaa
open Go.ChangeShapes Go.WideShapes Go.ChangeAt Go.RowKit
set_option linter.unusedVariables false
set_option linter.unusedSimpArgs false
set_option maxRecDepth 100000
/-- A type of n cells, whose values stand as a row. -/
structure IsRow (T : TypeId) (n : Nat) : Prop where
  d : ∃ d, Try.prog.underlying T = some d ∧ d.isRow = true
  i : (Try.prog.info? T).map (·.size) = some n
theorem r34 : IsRow 34 160 := ⟨⟨_, Try.underlying34, rfl⟩, by kernel_rfl⟩
theorem r53 : IsRow 95 320 := ⟨⟨_, Try.underlying95, rfl⟩, by kernel_rfl⟩
theorem r43 : IsRow 105 4 := ⟨⟨_, Try.underlying105, rfl⟩, by kernel_rfl⟩
theorem r52 : IsRow 94 2 := ⟨⟨_, Try.underlying94, rfl⟩, by kernel_rfl⟩
theorem r27 : IsRow 81 4 := ⟨⟨_, Try.underlying81, rfl⟩, by kernel_rfl⟩
theorem r24 : IsRow 74 4 := ⟨⟨_, Try.underlying74, rfl⟩, by kernel_rfl⟩
theorem zero34 (w : World) : (zeroValue 34).run Try.prog w = .ok (.agg (enc zeroM)) w := by
  have h : (Try.prog.info? 34).map (fun i => (i.zero, i.size)) = some (some (.agg (enc zeroM)), 160) := by unfold enc; kernel_rfl
  exact (zero_of_info h).1 w
theorem zero53 (w : World) : (zeroValue 95).run Try.prog w = .ok (.agg (enc2 zeroM)) w := by
  have h : (Try.prog.info? 95).map (fun i => (i.zero, i.size)) = some (some (.agg (enc2 zeroM)), 320) := by unfold enc2; kernel_rfl
  exact (zero_of_info h).1 w
theorem range_of_has {w : World} {b : Nat} {A : Array Value} (h : Has w b A) : w.rangeAt b 0 A.toList := fun j v hv => by
  rw [Nat.zero_add, h.2.1]; simpa using hv
/-- A whole block is loaded. -/
theorem load_g {T : TypeId} {n : Nat} (hT : IsRow T n) {ops : Array Oper} {rest : List Oper} {op : Oper} {a : Act} {w : World} {Q : Exit → Act → World → Prop} {b : Nat} {A : Array Value} (h : Has w b A) (hs : A.size = n)
    (hgd : op.guard = none) (x : Operand) (ho : op.op = .load T x) (hx : a.eval x = .pointer (some ⟨b, 0, none⟩))
    (hK : wpList Try.prog ops Q rest (a.put op.dst (.agg A)) w) : wpList Try.prog ops Q (op :: rest) a w := by
  obtain ⟨d, hd, hr⟩ := hT.d
  exact wpList_load_mid hgd T x ho b 0 hx A.toList d (range_of_has h) hd hr (by rw [hT.i]; simp [hs]) (by simpa using hK)
theorem wp_load_g {T : TypeId} {n : Nat} (hT : IsRow T n) {op : Oper} {a : Act} {w : World} {K : Act → World → Prop} {Q : Exit → Act → World → Prop} {b : Nat} {A : Array Value} (h : Has w b A) (hs : A.size = n)
    (x : Operand) (ho : op.op = .load T x) (hx : a.eval x = .pointer (some ⟨b, 0, none⟩))
    (hK : K (a.put op.dst (.agg A)) w) : op.wp Try.prog a w K Q := by
  obtain ⟨d, hd, hr⟩ := hT.d
  exact wp_load_mid T x ho b 0 hx A.toList d (range_of_has h) hd hr (by rw [hT.i]; simp [hs]) (by simpa using hK)
/-- A dot of a line of dots is loaded. -/
theorem load_2 {ops : Array Oper} {rest : List Oper} {op : Oper} {a : Act} {w : World} {Q : Exit → Act → World → Prop} {b : Nat} {D : M} (h : Has w b (enc2 D))
    (hgd : op.guard = none) (x : Operand) (ho : op.op = .load 94 x) (o : Nat) (hx : a.eval x = .pointer (some ⟨b, o, none⟩)) (ho2 : o + 1 < 320)
    (hK : wpList Try.prog ops Q rest (a.put op.dst (.agg #[.int .u8 (D o), .int .u8 (D (o + 1))])) w) : wpList Try.prog ops Q (op :: rest) a w := by
  obtain ⟨d, hd, hr⟩ := r52.d
  refine wpList_load_mid hgd 94 x ho b o hx [.int .u8 (D o), .int .u8 (D (o + 1))] d (fun j v hv => ?_) hd hr (by rw [r52.i]; rfl) hK
  rw [h.2.1]
  match j, hv with
  | 0, hv => simp at hv; subst hv; exact enc2_get D o (by omega)
  | 1, hv => simp at hv; subst hv; exact enc2_get D (o + 1) ho2
  | j + 2, hv => simp at hv
/-- A whole block is stored: of the world behind it no more is told than what lies there, and that nothing else is turned. -/
theorem store_g {T : TypeId} {n : Nat} (hT : IsRow T n) {ops : Array Oper} {rest : List Oper} {op : Oper} {a : Act} {w : World} {Q : Exit → Act → World → Prop} {b : Nat} {A : Array Value} (h : Has w b A) (hs : A.size = n) (A2 : Array Value) (hs2 : A2.size = n) (h1 : A2.all (·.oneCell') = true)
    (hgd : op.guard = none) (x y : Operand) (ho : op.op = .store T x y) (hx : a.eval x = .pointer (some ⟨b, 0, none⟩)) (hy : a.eval y = .agg A2)
    (hK : ∀ w', Has w' b A2 → Keeps b w w' → wpList Try.prog ops Q rest (a.put op.dst undef) w') : wpList Try.prog ops Q (op :: rest) a w := by
  refine wpList_store_mid hgd T x y ho b 0 A2 hx hy (by have := h.there; rw [hs] at this; rw [hs2]; exact this) (by rw [hT.i, hs2]) h1 ?_
  exact hK _ (h.puts (by rw [hs, hs2])) (Keeps.setCells _ 0 (Keeps.refl b w))
theorem wp_store_g {T : TypeId} {n : Nat} (hT : IsRow T n) {op : Oper} {a : Act} {w : World} {K : Act → World → Prop} {Q : Exit → Act → World → Prop} {b : Nat} {A : Array Value} (h : Has w b A) (hs : A.size = n) (A2 : Array Value) (hs2 : A2.size = n) (h1 : A2.all (·.oneCell') = true)
    (x y : Operand) (ho : op.op = .store T x y) (hx : a.eval x = .pointer (some ⟨b, 0, none⟩)) (hy : a.eval y = .agg A2)
    (hK : ∀ w', Has w' b A2 → Keeps b w w' → K (a.put op.dst undef) w') : op.wp Try.prog a w K Q := by
  refine wp_store_mid T x y ho b 0 A2 hx hy (by have := h.there; rw [hs] at this; rw [hs2]; exact this) (by rw [hT.i, hs2]) h1 ?_
  exact hK _ (h.puts (by rw [hs, hs2])) (Keeps.setCells _ 0 (Keeps.refl b w))
theorem four_one (p q r s : Int) : (#[.int .u8 p, .int .u8 q, .int .u8 r, .int .u8 s] : Array Value).all (·.oneCell') = true := by simp [Value.oneCell']
/-- One dot of a line of dots is stored. -/
theorem store_2 {ops : Array Oper} {rest : List Oper} {op : Oper} {a : Act} {w : World} {Q : Exit → Act → World → Prop} {b : Nat} {D : M} (h : Has w b (enc2 D))
    (hgd : op.guard = none) (x y : Operand) (ho : op.op = .store 94 x y) (o : Nat) (hx : a.eval x = .pointer (some ⟨b, o, none⟩)) (p q : Int) (hy : a.eval y = .agg #[.int .u8 p, .int .u8 q]) (ho2 : o + 1 < 320)
    (hK : ∀ w', Has w' b (enc2 (upd (upd D o p) (o + 1) q)) → Keeps b w w' → wpList Try.prog ops Q rest (a.put op.dst undef) w') : wpList Try.prog ops Q (op :: rest) a w := by
  have h1 := h.set o (.int .u8 p) (by rw [enc2_size]; omega)
  rw [enc2_set D o p (by omega)] at h1
  have h2 := h1.set (o + 1) (.int .u8 q) (by rw [enc2_size]; omega)
  rw [enc2_set _ _ q ho2] at h2
  refine wpList_store_mid hgd 94 x y ho b o #[.int .u8 p, .int .u8 q] hx hy (fun j hj => ?_) (by rw [r52.i]; rfl) (by simp [Value.oneCell']) ?_
  · have hj : j < 2 := hj
    have := h.there (o + j) (by rw [enc2_size]; omega)
    rwa [Nat.zero_add] at this
  · exact hK _ h2 (Keeps.setCells [.int .u8 p, .int .u8 q] o (Keeps.refl b w))
/-- One colour of a line is stored. -/
theorem store_u {ops : Array Oper} {rest : List Oper} {op : Oper} {a : Act} {w : World} {Q : Exit → Act → World → Prop} {b : Nat} {m : M} (h : Has w b (enc m))
    (hgd : op.guard = none) (x y : Operand) (ho : op.op = .store 5 x y) (o : Nat) (hx : a.eval x = .pointer (some ⟨b, o, none⟩)) (z : Int) (hy : a.eval y = .int .u8 z) (ho2 : o < 160)
    (hK : ∀ w', Has w' b (enc (upd m o z)) → Keeps b w w' → wpList Try.prog ops Q rest (a.put op.dst undef) w') : wpList Try.prog ops Q (op :: rest) a w := by
  have hc := h.2.1 o
  rw [enc_get m o ho2] at hc
  have hP := h.set o (.int .u8 z) (by rw [enc_size]; exact ho2)
  rw [enc_set m o z ho2] at hP
  have hs : (storeVar 5 ⟨b, o, none⟩ (.int .u8 z)).run Try.prog w = .ok () (w.setCell ⟨b, o, none⟩ (.int .u8 z)) := by
    have h1 : (w.cell? ⟨b, o, none⟩) = some (.int .u8 (m o)) := hc
    have h2 : w.frozen? ⟨b, o, none⟩ = false := h.2.2 o
    simp [go_sem, h1, h2]
  refine wpList_plain hgd fun _ hKK => ?_
  unfold Oper.wp execOp
  simp only [ho, hx, hy, Instr.storeAt, Instr.sureAddr, Sem.run_bind, Sem.run_pure, Result.andThen_ok, hs]
  exact hKK _ _ (hK _ hP ((Keeps.refl b w).setCell o _))
theorem wp_store_u {op : Oper} {a : Act} {w : World} {K : Act → World → Prop} {Q : Exit → Act → World → Prop} {b : Nat} {m : M} (h : Has w b (enc m))
    (x y : Operand) (ho : op.op = .store 5 x y) (o : Nat) (hx : a.eval x = .pointer (some ⟨b, o, none⟩)) (z : Int) (hy : a.eval y = .int .u8 z) (ho2 : o < 160)
    (hK : ∀ w', Has w' b (enc (upd m o z)) → Keeps b w w' → K (a.put op.dst undef) w') : op.wp Try.prog a w K Q := by
  have hc := h.2.1 o
  rw [enc_get m o ho2] at hc
  have hP := h.set o (.int .u8 z) (by rw [enc_size]; exact ho2)
  rw [enc_set m o z ho2] at hP
  have hs : (storeVar 5 ⟨b, o, none⟩ (.int .u8 z)).run Try.prog w = .ok () (w.setCell ⟨b, o, none⟩ (.int .u8 z)) := by
    have h1 : (w.cell? ⟨b, o, none⟩) = some (.int .u8 (m o)) := hc
    have h2 : w.frozen? ⟨b, o, none⟩ = false := h.2.2 o
    simp [go_sem, h1, h2]
  unfold Oper.wp execOp
  simp only [ho, hx, hy, Instr.storeAt, Instr.sureAddr, Sem.run_bind, Sem.run_pure, Result.andThen_ok, hs]
  exact hK _ hP ((Keeps.refl b w).setCell o _)
/-- A block as a result. -/
theorem results_g {T : TypeId} {n : Nat} (hT : IsRow T n) {fn : Func} {t : Tmp} (h : fn.results = #[.cell t T]) (tmps : Array Value) {b : Nat} {A : Array Value} {w : World} (hx : tmps.getD t undef = .pointer (some ⟨b, 0, none⟩)) (hh : Has w b A) (hs : A.size = n) :
    (results fn tmps).run Try.prog w = .ok (.agg A) w := by
  obtain ⟨d, hd, hr⟩ := hT.d
  have hl := run_loadVar_mid (P := Try.prog) w b 0 T A.toList d (range_of_has hh) hd hr (by rw [hT.i]; simp [hs])
  simp only [Array.toArray_toList] at hl
  unfold results
  rw [h]
  have hx2 : tmps[t]?.getD undef = .pointer (some ⟨b, 0, none⟩) := by simpa using hx
  have e : (asAddr (tmps[t]?.getD undef)).run Try.prog w = .ok ⟨b, 0, none⟩ w := by rw [hx2]; rfl
  simp [Sem.run_bind, e, hl, Result.andThen]
theorem Has.drewN {w : World} {b : Nat} {A : Array Value} (h : Has w b A) (n : Nat) : Has (w.drewN n) b A := h.below (below_drewN (Below.refl _ _) n)
theorem Keeps.drewN {b : Nat} {w0 w : World} (h : Keeps b w0 w) (n : Nat) : Keeps b w0 (w.drewN n) := h.trans (Keeps.of_below (below_drewN (Below.refl _ _) n))
/-- Within a drawn region. -/
theorem yields_load {T : TypeId} {n : Nat} (hT : IsRow T n) {ops : Array Oper} {S : World → Prop} {op : Oper} {a : Act} (A : Array Value) (hs : A.size = n) (b : Nat) (hS : ∀ w, S w → w.rangeAt b 0 A.toList) (hw : Region.wanted op (yielded ops a.tmps) = true) (x : Operand) (ho : op.op = .load T x)
    (hx : a.eval x = .pointer (some ⟨b, 0, none⟩)) : YieldsIf Try.prog ops S op (.agg A) a := by
  obtain ⟨d, hd, hr⟩ := hT.d
  simpa using yieldsIf_load_mid (P := Try.prog) (ops := ops) (S := S) hw T x ho b 0 hx A.toList d hS hd hr (by rw [hT.i]; simp [hs])
theorem yields_load2 {ops : Array Oper} {S : World → Prop} {op : Oper} {a : Act} (D : M) (b o : Nat) (ho2 : o + 1 < 320) (hS : ∀ w, S w → w.rangeAt b 0 (enc2 D).toList) (hw : Region.wanted op (yielded ops a.tmps) = true) (x : Operand) (ho : op.op = .load 94 x)
    (hx : a.eval x = .pointer (some ⟨b, o, none⟩)) : YieldsIf Try.prog ops S op (.agg #[.int .u8 (D o), .int .u8 (D (o + 1))]) a := by
  obtain ⟨d, hd, hr⟩ := r52.d
  refine yieldsIf_load_mid (P := Try.prog) (ops := ops) (S := S) hw 94 x ho b o hx [.int .u8 (D o), .int .u8 (D (o + 1))] d (fun w h j v hv => ?_) hd hr (by rw [r52.i]; rfl)
  have hh := hS w h
  match j, hv with
  | 0, hv => simp at hv; subst hv; have := hh o _ (by simpa using enc2_get D o (by omega)); rwa [Nat.zero_add] at this
  | 1, hv => simp at hv; subst hv; have := hh (o + 1) _ (by simpa using enc2_get D (o + 1) ho2); rwa [Nat.zero_add] at this
  | j + 2, hv => simp at hv
theorem eq_array {P : Program} (d : Nat) (t : TypeId) (len : Nat) (elem : TypeId) (A : Array Value) (n : Nat) (hu : P.underlying t = some (.array len elem)) (hn : ∀ w, (sizeOf elem).run P w = .ok n w)
    (he : ∀ i, i < len → ∃ v, ∀ w, (part elem A (i * n)).run P w = .ok v w ∧ (Op.equalIn d elem v v).run P w = .ok true w) (w : World) :
    (Op.equalIn (d + 1) t (.agg A) (.agg A)).run P w = .ok true w := by
  simp only [Op.equalIn, Sem.run_bind, run_underlying hu, Result.andThen_ok, hn]
  simp only [Std.Legacy.Range.forIn_eq_forIn_range', Std.Legacy.Range.size, Nat.sub_zero, Nat.add_sub_cancel, Nat.div_one]
  have key : ∀ l : List Nat, (∀ i, i ∈ l → i < len) → (forIn l ((none, ()) : Option Bool × PUnit) fun i _ => do
      let a ← part elem A (i * n)
      let b ← part elem A (i * n)
      let r ← Op.equalIn d elem a b
      if (!r) = true then pure (ForInStep.done ((some false, ()) : Option Bool × PUnit)) else pure (ForInStep.yield ((none, ()) : Option Bool × PUnit))).run P w = .ok (none, ()) w := by
    intro l
    induction l with
    | nil => intro _; rfl
    | cons i l ih =>
      intro hl
      obtain ⟨v, hv⟩ := he i (hl i (by simp))
      simp only [List.forIn_cons, Sem.run_bind, (hv w).1, (hv w).2, Result.andThen_ok, Bool.not_true, Bool.false_eq_true, if_false, Sem.run_pure]
      exact ih (fun j hj => hl j (by simp [hj]))
  have k := key (List.range' 0 len) (fun i hi => by simpa using hi)
  rw [k]
  rfl
theorem part_cell {P : Program} {t : TypeId} {A : Array Value} {o : Nat} {v : Value} (ha : ∀ w, (isAgg t).run P w = .ok false w) (h : A[o]? = some v) (w : World) : (part t A o).run P w = .ok v w := by
  simp [part, Sem.run_bind, ha, h, Result.andThen]
theorem eq_u8 (d : Nat) (x : Int) (w : World) : (Op.equalIn (d + 1) 5 (.int .u8 x) (.int .u8 x)).run Try.prog w = .ok true w := by
  rw [run_equalIn_int w d 5 .u8 .u8 x x Try.underlying5]; simp
theorem eq_line (m : M) (w : World) : (Op.equalIn 10000 34 (.agg (enc m)) (.agg (enc m))).run Try.prog w = .ok true w :=
  eq_array 9999 34 160 5 _ 1 Try.underlying34 (fun w => Try.sizeOf5 w) (fun i hi => ⟨.int .u8 (m i), fun w => ⟨part_cell (fun w => Try.isAgg5 w) (by rw [Nat.mul_one]; exact enc_get m i hi) w, eq_u8 9998 _ w⟩⟩) w
theorem yields_eq {ops : Array Oper} {S : World → Prop} {op : Oper} {a : Act} (m : M) (hw : Region.wanted op (yielded ops a.tmps) = true) (x y : Operand) (ho : op.op = .binOp .eql 34 x y 34)
    (hx : a.eval x = .agg (enc m)) (hy : a.eval y = .agg (enc m)) : YieldsIf Try.prog ops S op (.bool true) a :=
  .inl ⟨hw, fun w _ => by
    unfold execOp
    simp only [ho, hx, hy]
    have h1 := run_eqGuard_agg (P := Try.prog) w .eql 34 x y (enc m) (enc m) (by kernel_rfl)
    have h2 := run_eql_struct (P := Try.prog) w 34 (enc m) (enc m)
    rw [eq_line] at h2
    simp [Sem.run_bind, h1, h2, Result.andThen]⟩
/-- A block of its own that is written at once. -/
theorem keep_new {n : Nat} {W0 u u' : World} (hn : n ≤ W0.heap.size) (hb : Below n W0 u) (o : Obj) (hk : Keeps u.heap.size (u.alloc o) u') : Below n W0 u' :=
  hk.below hn (Nat.le_trans hn hb.size) (vian hn hb (own1 u o))
end Go.Proofs.Ytpfbodmadmneiaa
