/-
  A whole line out of and into a block, in the words that the views' lines use: out of the general ones; no condition.
-/
import Derived.Test.YtpfbodmadmneiaaEnc
namespace Go.Proofs.Ytpfbodmadmneiaa
open Go.ChangeShapes Go.WideShapes Go.ChangeAt Go.RowKit
set_option linter.unusedVariables false
set_option linter.unusedSimpArgs false
set_option maxRecDepth 100000
theorem under34 : Try.prog.underlying 34 = some (.array 160 5) := Try.underlying34
theorem info34 : (Try.prog.info? 34).map (·.size) = some 160 := by kernel_rfl
theorem load_b {ops : Array Oper} {rest : List Oper} {op : Oper} {a : Act} {w : World} {Q : Exit → Act → World → Prop} {b : Nat} {m : M} (h : Has w b (enc m))
    (hgd : op.guard = none) (x : Operand) (ho : op.op = .load 34 x) (hx : a.eval x = .pointer (some ⟨b, 0, none⟩))
    (hK : wpList Try.prog ops Q rest (a.put op.dst (.agg (enc m))) w) : wpList Try.prog ops Q (op :: rest) a w :=
  wpList_load_mid hgd 34 x ho b 0 hx (enc m).toList _ (range_of_has h) under34 rfl (by rw [info34]; simp [enc_size]) (by simpa using hK)
theorem load_bg {ops : Array Oper} {rest : List Oper} {op : Oper} {a : Act} {w : World} {Q : Exit → Act → World → Prop} {b : Nat} {m : M} (h : Has w b (enc m))
    (hw : Region.wanted op (yielded ops a.tmps) = true) (x : Operand) (ho : op.op = .load 34 x) (hx : a.eval x = .pointer (some ⟨b, 0, none⟩))
    (hK : wpList Try.prog ops Q rest (a.put op.dst (.agg (enc m))) w) : wpList Try.prog ops Q (op :: rest) a w := by
  refine wpList_step fun K hKK => ?_
  rw [if_pos hw]
  exact wp_load_mid 34 x ho b 0 hx (enc m).toList _ (range_of_has h) under34 rfl (by rw [info34]; simp [enc_size]) (by simpa using hKK _ _ hK)
theorem store_b {ops : Array Oper} {rest : List Oper} {op : Oper} {a : Act} {w : World} {Q : Exit → Act → World → Prop} {b : Nat} {m : M} (h : Has w b (enc m)) (m2 : M)
    (hgd : op.guard = none) (x y : Operand) (ho : op.op = .store 34 x y) (hx : a.eval x = .pointer (some ⟨b, 0, none⟩)) (hy : a.eval y = .agg (enc m2))
    (hK : ∀ w', Has w' b (enc m2) → Keeps b w w' → wpList Try.prog ops Q rest (a.put op.dst undef) w') : wpList Try.prog ops Q (op :: rest) a w := by
  refine wpList_store_mid hgd 34 x y ho b 0 (enc m2) hx hy (by have := h.there; rw [enc_size] at this ⊢; exact this) (by rw [info34, enc_size]) (enc_one m2) ?_
  exact hK _ (h.puts (by rw [enc_size, enc_size])) (Keeps.setCells _ 0 (Keeps.refl b w))
theorem results_b {fn : Func} {t : Tmp} (h : fn.results = #[.cell t 34]) (tmps : Array Value) {b : Nat} {m : M} {w : World} (hx : tmps.getD t undef = .pointer (some ⟨b, 0, none⟩)) (hh : Has w b (enc m)) :
    (results fn tmps).run Try.prog w = .ok (.agg (enc m)) w := by
  have hl := run_loadVar_mid (P := Try.prog) w b 0 34 (enc m).toList _ (range_of_has hh) under34 rfl (by rw [info34]; simp [enc_size])
  simp only [Array.toArray_toList] at hl
  unfold results
  rw [h]
  have hx2 : tmps[t]?.getD undef = .pointer (some ⟨b, 0, none⟩) := by simpa using hx
  have e : (asAddr (tmps[t]?.getD undef)).run Try.prog w = .ok ⟨b, 0, none⟩ w := by rw [hx2]; rfl
  simp [Sem.run_bind, e, hl, Result.andThen]
theorem results_2 {fn : Func} {t u : Tmp} (h : fn.results = #[.cell t 34, .tmp u]) (tmps : Array Value) {b : Nat} {m : M} {w : World} {z : Bool} (hx : tmps.getD t undef = .pointer (some ⟨b, 0, none⟩)) (hz : tmps.getD u undef = .bool z) (hh : Has w b (enc m)) :
    (results fn tmps).run Try.prog w = .ok (.tuple #[.agg (enc m), .bool z]) w := by
  have hl := run_loadVar_mid (P := Try.prog) w b 0 34 (enc m).toList _ (range_of_has hh) under34 rfl (by rw [info34]; simp [enc_size])
  simp only [Array.toArray_toList] at hl
  unfold results
  rw [h]
  have hx2 : tmps[t]?.getD undef = .pointer (some ⟨b, 0, none⟩) := by simpa using hx
  have hz2 : tmps[u]?.getD undef = .bool z := by simpa using hz
  have e : (asAddr (tmps[t]?.getD undef)).run Try.prog w = .ok ⟨b, 0, none⟩ w := by rw [hx2]; rfl
  simp [Sem.run_bind, e, hl, hz2, Result.andThen]
end Go.Proofs.Ytpfbodmadmneiaa
