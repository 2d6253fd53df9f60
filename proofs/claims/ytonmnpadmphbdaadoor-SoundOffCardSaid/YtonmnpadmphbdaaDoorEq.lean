/-
  A board is equal to itself: for every board; no condition.
-/
import Derived.Test.YtonmnpadmphbdaaDoorPr
import Derived.Laws.StructEq
import Derived.Laws.Rows
namespace Go.Proofs.YtonmnpadmphbdaaDoor
open Go.ChangeShapes Go.WideShapes Go.ChangeAt Go.RowKit
set_option linter.unusedVariables false
set_option linter.unusedSimpArgs false
set_option maxRecDepth 100000
theorem eq_array {P : Program} (d : Nat) (t : TypeId) (len : Nat) (elem : TypeId) (A : Array Value) (n : Nat) (hu : P.underlying t = some (.array len elem)) (hn : ∀ w, (sizeOf elem).run P w = .ok n w)
    (he : ∀ i, i < len → ∃ v, ∀ w, (part elem A (i * n)).run P w = .ok v w ∧ (Op.equalIn d elem v v).run P w = .ok true w) (w : World) :
    (Op.equalIn (d + 1) t (.agg A) (.agg A)).run P w = .ok true w := by
  simp only [Op.equalIn, Sem.run_bind, run_underlying hu, Result.andThen_ok, hn]
  simp only [Std.Legacy.Range.forIn_eq_forIn_range', Std.Legacy.Range.size, Nat.sub_zero, Nat.add_sub_cancel, Nat.div_one]
  have key : ∀ l : List Nat, (∀ i, i ∈ l → i < len) → (forIn l ((none, ()) : Option Bool × PUnit) fun i _ => do
      let a ← part elem A (i * n)
      let b ← part elem A (i * n)
      let r ← Op.equalIn d elem a b
      if (!r) = true then pure (ForInStep.done ((some false, ()) : Option Bool × PUnit)) else pure (ForInStep.yield ((none, ()) : Option Bool × PUnit))).run P w = .ok (none, ()) w := by
    intro l
    induction l with
    | nil => intro _; rfl
    | cons i l ih =>
      intro hl
      obtain ⟨v, hv⟩ := he i (hl i (by simp))
      simp only [List.forIn_cons, Sem.run_bind, (hv w).1, (hv w).2, Result.andThen_ok, Bool.not_true, Bool.false_eq_true, if_false, Sem.run_pure]
      exact ih (fun j hj => hl j (by simp [hj]))
  have k := key (List.range' 0 len) (fun i hi => by simpa using hi)
  rw [k]
  rfl
theorem part_cell {P : Program} {t : TypeId} {A : Array Value} {o : Nat} {v : Value} (ha : ∀ w, (isAgg t).run P w = .ok false w) (h : A[o]? = some v) (w : World) : (part t A o).run P w = .ok v w := by
  simp [part, Sem.run_bind, ha, h, Result.andThen]
theorem eq_u8 (d : Nat) (x : Int) (w : World) : (Op.equalIn (d + 1) 5 (.int .u8 x) (.int .u8 x)).run Tryd.prog w = .ok true w := by
  rw [run_equalIn_int w d 5 .u8 .u8 x x Tryd.underlying5]; simp
theorem eq_i64 (d : Nat) (x : Int) (w : World) : (Op.equalIn (d + 1) 3 (.int .i64 x) (.int .i64 x)).run Tryd.prog w = .ok true w := by
  rw [run_equalIn_int w d 3 .i64 .i64 x x Tryd.underlying3]; simp
theorem eq_bool (d : Nat) (x : Bool) (w : World) : (Op.equalIn (d + 1) 4 (.bool x) (.bool x)).run Tryd.prog w = .ok true w := by
  rw [run_equalIn_bool' w d 4 x x Tryd.underlying4]; simp
theorem eq_regs (d : Nat) (m : M) (w : World) : (Op.equalIn (d + 1 + 1) 24 (.agg ((enc m).extract 0 48)) (.agg ((enc m).extract 0 48))).run Tryd.prog w = .ok true w :=
  eq_array (d + 1) 24 48 5 _ 1 Tryd.underlying24 (fun w => Tryd.sizeOf5 w) (fun i hi => ⟨.int .u8 (m i), fun w => ⟨part_cell (fun w => Tryd.isAgg5 w) (by rw [Array.getElem?_extract]; simp [hi, enc_size]; exact enc_u8 m i hi) w, eq_u8 d _ w⟩⟩) w
theorem eq_field {d : Nat} {A : Array Value} {f : Field} {fs : List Field} {v : Value} {w : World} (hv : (part f.type A f.offset).run Tryd.prog w = .ok v w) (he : (Op.equalIn d f.type v v).run Tryd.prog w = .ok true w)
    (hr : (Op.eqFields d A A fs).run Tryd.prog w = .ok true w) : (Op.eqFields d A A (f :: fs)).run Tryd.prog w = .ok true w := by
  unfold Op.eqFields
  split
  · simp only [Sem.run_bind, hv, he, Result.andThen_ok, Bool.not_true, Bool.false_eq_true, if_false, hr]
  · exact hr
theorem eq_voice (d : Nat) (m : M) (i : Nat) (hi : i < 4) (w : World) : (Op.equalIn (d + 1 + 1) 26 (.agg (((enc m).extract 51 67).extract (i * 4) (i * 4 + 4))) (.agg (((enc m).extract 51 67).extract (i * 4) (i * 4 + 4)))).run Tryd.prog w = .ok true w := by
  rw [run_equalIn_struct w (d + 1) 26 _ _ Tryd.underlying26 (by kernel_rfl)]
  have c : ∀ j, j < 4 → (((enc m).extract 51 67).extract (i * 4) (i * 4 + 4))[j]? = (enc m)[51 + i * 4 + j]? := fun j hj => by
    rw [Array.getElem?_extract, Array.getElem?_extract]
    simp only [Array.size_extract, enc_size]
    rw [if_pos (by omega), if_pos (by omega)]
    congr 1
    omega
  show (Op.eqFields (d + 1) _ _ [_, _, _, _]).run Tryd.prog w = _
  refine eq_field (part_cell (fun w => Tryd.isAgg4 w) ((c 0 (by omega)).trans (enc_b m (51 + i * 4) (isB_on i hi) (by omega))) w) (eq_bool d _ w) ?_
  refine eq_field (part_cell (fun w => Tryd.isAgg3 w) ((c 1 (by omega)).trans (enc_i m (51 + i * 4 + 1) (isB_no i 1 hi (by omega) (by omega)) (by omega) (by omega))) w) (eq_i64 d _ w) ?_
  refine eq_field (part_cell (fun w => Tryd.isAgg3 w) ((c 2 (by omega)).trans (enc_i m (51 + i * 4 + 2) (isB_no i 2 hi (by omega) (by omega)) (by omega) (by omega))) w) (eq_i64 d _ w) ?_
  refine eq_field (part_cell (fun w => Tryd.isAgg3 w) ((c 3 (by omega)).trans (enc_i m (51 + i * 4 + 3) (isB_no i 3 hi (by omega) (by omega)) (by omega) (by omega))) w) (eq_i64 d _ w) ?_
  rfl
theorem part_agg {P : Program} {t : TypeId} {A : Array Value} {o n : Nat} (ha : ∀ w, (isAgg t).run P w = .ok true w) (hs : ∀ w, (sizeOf t).run P w = .ok n w) (w : World) : (part t A o).run P w = .ok (.agg (A.extract o (o + n))) w := by
  simp [part, Sem.run_bind, ha, hs, Result.andThen]
theorem eq_voices (d : Nat) (m : M) (w : World) : (Op.equalIn (d + 1 + 1 + 1) 27 (.agg ((enc m).extract 51 67)) (.agg ((enc m).extract 51 67))).run Tryd.prog w = .ok true w :=
  eq_array (d + 1 + 1) 27 4 26 _ 4 Tryd.underlying27 (fun w => Tryd.sizeOf26 w) (fun i hi => ⟨_, fun w => ⟨part_agg (fun w => Tryd.isAgg26 w) (fun w => Tryd.sizeOf26 w) w, eq_voice d m i hi w⟩⟩) w
theorem eq_board (m : M) (w : World) : (Op.equalIn 10000 29 (.agg (enc m)) (.agg (enc m))).run Tryd.prog w = .ok true w := by
  rw [show (10000 : Nat) = 9999 + 1 from rfl, run_equalIn_struct w 9999 29 _ _ Tryd.underlying29 (by kernel_rfl)]
  show (Op.eqFields 9999 _ _ [_, _, _, _, _, _, _, _]).run Tryd.prog w = _
  refine eq_field (part_agg (fun w => Tryd.isAgg24 w) (fun w => Tryd.sizeOf24 w) w) (eq_regs 9997 m w) ?_
  refine eq_field (part_cell (fun w => Tryd.isAgg4 w) (enc_b m 48 rfl (by omega)) w) (eq_bool 9998 _ w) ?_
  refine eq_field (part_cell (fun w => Tryd.isAgg3 w) (enc_i m 49 rfl (by omega) (by omega)) w) (eq_i64 9998 _ w) ?_
  refine eq_field (part_cell (fun w => Tryd.isAgg3 w) (enc_i m 50 rfl (by omega) (by omega)) w) (eq_i64 9998 _ w) ?_
  refine eq_field (part_agg (fun w => Tryd.isAgg27 w) (fun w => Tryd.sizeOf27 w) w) (eq_voices 9996 m w) ?_
  refine eq_field (part_cell (fun w => Tryd.isAgg3 w) (enc_i m 67 rfl (by omega) (by omega)) w) (eq_i64 9998 _ w) ?_
  refine eq_field (part_cell (fun w => Tryd.isAgg3 w) (enc_i m 68 rfl (by omega) (by omega)) w) (eq_i64 9998 _ w) ?_
  refine eq_field (part_cell (fun w => Tryd.isAgg4 w) (enc_b m 69 rfl (by omega)) w) (eq_bool 9998 _ w) ?_
  rfl
end Go.Proofs.YtonmnpadmphbdaaDoor
