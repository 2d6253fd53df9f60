/-
  One cell, and a row, stored into the program's unit, the document's, and the document's memories: for every world; no condition.
-/
import Derived.Test.YtpfbodmadmneiaaUn
import Derived.Test.YtpfbodmadmneiaaTk
import Derived.Test.YtpfbodmadmneiaaEnc
import Derived.Deep.MidRow
import Derived.Deep.WholeRow
import Derived.BigQuiet
import Derived.WalkSmall
namespace Go.Proofs.Ytpfbodmadmneiaa
open Go.ChangeShapes Go.WideShapes Go.ChangeAt Go.RowKit
set_option linter.unusedVariables false
set_option linter.unusedSimpArgs false
theorem Has.putRow {w : World} {b : Nat} {A A2 : Array Value} (h : Has w b A) (k : Nat) (vs : List Value) (hs : k + vs.length ≤ A.size) (hin : ∀ j, j < vs.length → A2[k + j]? = vs[j]?) (hout : ∀ o, o < k ∨ k + vs.length ≤ o → A2[o]? = A[o]?) : Has (w.setCells b k vs) b A2 := by
  have ht : ∀ j, j < vs.length → (w.cell? ⟨b, k + j, none⟩).isSome = true := fun j hj => by
    rw [h.2.1, Array.getElem?_eq_getElem (by omega)]; rfl
  refine ⟨Nat.lt_of_lt_of_le h.1 (Keeps.setCells (b := b) vs k (Keeps.refl b w)).size, fun o => ?_, fun o => by rw [World.frozen?_setCells]; exact h.2.2 o⟩
  by_cases ho : o < k ∨ k + vs.length ≤ o
  · rw [World.cell?_setCells_out b vs k w ⟨b, o, none⟩ (fun _ _ => ho), hout o ho]
    exact h.2.1 o
  · obtain ⟨j, rfl⟩ : ∃ j, o = k + j := ⟨o - k, by omega⟩
    rw [hin j (by omega)]
    have := World.cell?_setCells_in b vs k w ht j (by omega)
    rw [this, List.getElem?_eq_getElem]
theorem put_g {t : TypeId} {ops : Array Oper} {rest : List Oper} {op : Oper} {a : Act} {w : World} {Q : Exit → Act → World → Prop} {b : Nat} {A : Array Value} (h : Has w b A) (A2 : Array Value)
    (hgd : op.guard = none) (x y : Operand) (ho : op.op = .store t x y) (o : Nat) (hx : a.eval x = .pointer (some ⟨b, o, none⟩)) (v : Value) (hy : a.eval y = v)
    (hs : (storeVar t ⟨b, o, none⟩ v).run Try.prog w = .ok () (w.setCell ⟨b, o, none⟩ v)) (h2 : o < A.size) (hA : A.setIfInBounds o v = A2)
    (hK : ∀ w', Has w' b A2 → Keeps b w w' → wpList Try.prog ops Q rest (a.put op.dst undef) w') : wpList Try.prog ops Q (op :: rest) a w := by
  subst hA
  refine wpList_plain hgd fun _ hKK => ?_
  unfold Oper.wp execOp
  simp only [ho, hx, hy, Instr.storeAt, Instr.sureAddr, Sem.run_bind, Sem.run_pure, Result.andThen_ok, hs]
  exact hKK _ _ (hK _ (h.set o v h2) ((Keeps.refl b w).setCell o _))
theorem sv_u {w : World} {b o : Nat} {A : Array Value} (h : Has w b A) {z z0 : Int} (hc : A[o]? = some (.int .u8 z0)) : (storeVar 5 ⟨b, o, none⟩ (.int .u8 z)).run Try.prog w = .ok () (w.setCell ⟨b, o, none⟩ (.int .u8 z)) := by
  have h1 : (w.cell? ⟨b, o, none⟩) = some (.int .u8 z0) := (h.2.1 o).trans hc
  have h2 : w.frozen? ⟨b, o, none⟩ = false := h.2.2 o
  simp [go_sem, h1, h2]
theorem sv_w {w : World} {b o : Nat} {A : Array Value} (h : Has w b A) {z z0 : Int} (hc : A[o]? = some (.int .u16 z0)) : (storeVar 30 ⟨b, o, none⟩ (.int .u16 z)).run Try.prog w = .ok () (w.setCell ⟨b, o, none⟩ (.int .u16 z)) := by
  have h1 : (w.cell? ⟨b, o, none⟩) = some (.int .u16 z0) := (h.2.1 o).trans hc
  have h2 : w.frozen? ⟨b, o, none⟩ = false := h.2.2 o
  simp [go_sem, h1, h2]
theorem sv_i {w : World} {b o : Nat} {A : Array Value} (h : Has w b A) {z z0 : Int} (hc : A[o]? = some (.int .i64 z0)) : (storeVar 3 ⟨b, o, none⟩ (.int .i64 z)).run Try.prog w = .ok () (w.setCell ⟨b, o, none⟩ (.int .i64 z)) := by
  have h1 : (w.cell? ⟨b, o, none⟩) = some (.int .i64 z0) := (h.2.1 o).trans hc
  have h2 : w.frozen? ⟨b, o, none⟩ = false := h.2.2 o
  simp [go_sem, h1, h2]
theorem sv_b {w : World} {b o : Nat} {A : Array Value} (h : Has w b A) {z z0 : Bool} (hc : A[o]? = some (.bool z0)) : (storeVar 4 ⟨b, o, none⟩ (.bool z)).run Try.prog w = .ok () (w.setCell ⟨b, o, none⟩ (.bool z)) := by
  have h1 : (w.cell? ⟨b, o, none⟩) = some (.bool z0) := (h.2.1 o).trans hc
  have h2 : w.frozen? ⟨b, o, none⟩ = false := h.2.2 o
  simp [go_sem, h1, h2]
/-- A byte of the program's unit. -/
theorem ust_u {ops : Array Oper} {rest : List Oper} {op : Oper} {a : Act} {w : World} {Q : Exit → Act → World → Prop} {b : Nat} {m : M} (h : Has w b (encU m))
    (hgd : op.guard = none) (x y : Operand) (ho : op.op = .store 5 x y) (o : Nat) (hx : a.eval x = .pointer (some ⟨b, o, none⟩)) (z : Int) (hy : a.eval y = .int .u8 z) (h1 : o < 31407) (h3 : o ≠ 8365) (h4 : o ≠ 8366)
    (hK : ∀ w', Has w' b (encU (upd m o z)) → Keeps b w w' → wpList Try.prog ops Q rest (a.put op.dst undef) w') : wpList Try.prog ops Q (op :: rest) a w :=
  put_g h _ hgd x y ho o hx _ hy (sv_u h (encU_u m o h1 h3 h4)) (by rw [encU_size]; exact h1) (by rw [← ucell_u o z h3 h4, encU_set m o z h1]) hK
theorem store_f {ops : Array Oper} {rest : List Oper} {op : Oper} {a : Act} {w : World} {Q : Exit → Act → World → Prop} {b : Nat} {m : M} (h : Has w b (encU m))
    (hgd : op.guard = none) (x y : Operand) (ho : op.op = .store 30 x y) (hx : a.eval x = .pointer (some ⟨b, 8365, none⟩)) (z : Int) (hy : a.eval y = .int .u16 z)
    (hK : ∀ w', Has w' b (encU (upd m 8365 z)) → Keeps b w w' → wpList Try.prog ops Q rest (a.put op.dst undef) w') : wpList Try.prog ops Q (op :: rest) a w :=
  put_g h _ hgd x y ho 8365 hx _ hy (sv_w h (encU_f m)) (by rw [encU_size]; decide) (encU_set m 8365 z (by decide)) hK
theorem store_s {ops : Array Oper} {rest : List Oper} {op : Oper} {a : Act} {w : World} {Q : Exit → Act → World → Prop} {b : Nat} {m : M} (h : Has w b (encU m))
    (hgd : op.guard = none) (x y : Operand) (ho : op.op = .store 4 x y) (hx : a.eval x = .pointer (some ⟨b, 8366, none⟩)) (z : Bool) (hy : a.eval y = .bool z)
    (hK : ∀ w', Has w' b (encU (upd m 8366 (tf z))) → Keeps b w w' → wpList Try.prog ops Q rest (a.put op.dst undef) w') : wpList Try.prog ops Q (op :: rest) a w :=
  put_g h _ hgd x y ho 8366 hx _ hy (sv_b h (encU_s m)) (by rw [encU_size]; decide) (by rw [← ucell_s z]; exact encU_set m 8366 _ (by decide)) hK
theorem encU_row (m r : M) (k j : Nat) (h : 8367 ≤ k) (h2 : k + 160 ≤ 31407) (hj : j < 160) : (encU (row m k 160 r))[k + j]? = (enc r).toList[j]? := by
  rw [encU_u _ _ (by omega) (by omega) (by omega), row_in _ _ _ _ _ (by omega) (by omega), Nat.add_sub_cancel_left, Array.getElem?_toList, enc_get r j hj]
theorem encU_row_out (m r : M) (k o : Nat) (h : o < k ∨ k + 160 ≤ o) : (encU (row m k 160 r))[o]? = (encU m)[o]? := by
  by_cases ho : o < 31407
  · rw [encU_get _ _ ho, encU_get _ _ ho, row_out _ _ _ _ _ h]
  · rw [Array.getElem?_eq_none (by rw [encU_size]; omega), Array.getElem?_eq_none (by rw [encU_size]; omega)]
theorem Has.urow {w : World} {b : Nat} {m : M} (h : Has w b (encU m)) (k : Nat) (r : M) (h1 : 8367 ≤ k) (h2 : k + 160 ≤ 31407) : Has (w.setCells b k (enc r).toList) b (encU (row m k 160 r)) := by
  have hl : (enc r).toList.length = 160 := by rw [Array.length_toList, enc_size]
  refine h.putRow k _ (by rw [hl, encU_size]; exact h2) (fun j hj => encU_row m r k j h1 h2 (by omega)) (fun o ho => encU_row_out m r k o (by omega))
theorem rcell_row (o : Nat) (x : Int) (h : 19 ≤ o) : rcell o x = .int .u8 x := by
  unfold rcell
  rw [if_neg (by omega), if_neg (by omega)]
theorem encR_row (v s : Nat) (m r : M) (k j : Nat) (h : 19 ≤ k) (h2 : k + 160 ≤ 23059) (hj : j < 160) : (encR v s (row m (8348 + k) 160 r))[k + j]? = (enc r).toList[j]? := by
  have hr : rp (k + j) = 8348 + k + j := by
    unfold rp
    rw [if_neg (by omega), if_neg (by omega), if_neg (by omega), if_neg (by omega)]
    omega
  rw [encR_get _ _ _ _ (by omega) (by omega) (by omega) (by omega), rcell_row _ _ (by omega), hr, row_in _ _ _ _ _ (by omega) (by omega), Nat.add_sub_cancel_left, Array.getElem?_toList, enc_get r j hj]
theorem encR_row_out (v s : Nat) (m r : M) (k o : Nat) (hk : 19 ≤ k) (h : o < k ∨ k + 160 ≤ o) : (encR v s (row m (8348 + k) 160 r))[o]? = (encR v s m)[o]? := by
  by_cases ho : o < 23059
  · by_cases a0 : o = 0
    · subst a0; rw [encR_V, encR_V]
    by_cases a1 : o = 1
    · subst a1; rw [encR_S, encR_S]
    by_cases a6 : o = 6 ∨ o = 8
    · rw [encR_z _ _ _ _ a6, encR_z _ _ _ _ a6]
    rw [encR_get _ _ _ _ (by omega) ho (by omega) (by omega), encR_get _ _ _ _ (by omega) ho (by omega) (by omega)]
    congr 2
    refine row_out _ _ _ _ _ ?_
    unfold rp
    repeat' split
    all_goals omega
  · rw [Array.getElem?_eq_none (by rw [encR_size]; omega), Array.getElem?_eq_none (by rw [encR_size]; omega)]
theorem Has.rrow {w : World} {b v s : Nat} {m : M} (h : Has w b (encR v s m)) (k : Nat) (r : M) (h1 : 19 ≤ k) (h2 : k + 160 ≤ 23059) : Has (w.setCells b k (enc r).toList) b (encR v s (row m (8348 + k) 160 r)) := by
  have hl : (enc r).toList.length = 160 := by rw [Array.length_toList, enc_size]
  exact h.putRow k _ (by rw [hl, encR_size]; exact h2) (fun j hj => encR_row v s m r k j h1 h2 (by omega)) (fun o ho => encR_row_out v s m r k o h1 (by omega))
theorem uinfo34 : (Try.prog.info? 34).map (·.size) = some 160 := by kernel_rfl
theorem store_row {ops : Array Oper} {rest : List Oper} {op : Oper} {a : Act} {w : World} {Q : Exit → Act → World → Prop} {b : Nat} {m : M} (h : Has w b (encU m)) (r : M)
    (hgd : op.guard = none) (x y : Operand) (ho : op.op = .store 34 x y) (k : Nat) (hx : a.eval x = .pointer (some ⟨b, k, none⟩)) (hy : a.eval y = .agg (enc r)) (h1 : 8367 ≤ k) (h2 : k + 160 ≤ 31407)
    (hK : ∀ w', Has w' b (encU (row m k 160 r)) → Keeps b w w' → wpList Try.prog ops Q rest (a.put op.dst undef) w') : wpList Try.prog ops Q (op :: rest) a w := by
  refine wpList_store_mid hgd 34 x y ho b k (enc r) hx hy (fun j hj => ⟨?_, h.2.2 _⟩) (by rw [uinfo34, enc_size]) (enc_one r) ?_
  · rw [enc_size] at hj
    rw [h.2.1, Array.getElem?_eq_getElem (by rw [encU_size]; omega)]; rfl
  · exact hK _ (h.urow k r h1 h2) (Keeps.setCells _ k (Keeps.refl b w))
theorem store_rrow {ops : Array Oper} {rest : List Oper} {op : Oper} {a : Act} {w : World} {Q : Exit → Act → World → Prop} {b v s : Nat} {m : M} (h : Has w b (encR v s m)) (r : M)
    (hgd : op.guard = none) (x y : Operand) (ho : op.op = .store 34 x y) (k : Nat) (hx : a.eval x = .pointer (some ⟨b, k, none⟩)) (hy : a.eval y = .agg (enc r)) (h1 : 19 ≤ k) (h2 : k + 160 ≤ 23059)
    (hK : ∀ w', Has w' b (encR v s (row m (8348 + k) 160 r)) → Keeps b w w' → wpList Try.prog ops Q rest (a.put op.dst undef) w') : wpList Try.prog ops Q (op :: rest) a w := by
  refine wpList_store_mid hgd 34 x y ho b k (enc r) hx hy (fun j hj => ⟨?_, h.2.2 _⟩) (by rw [uinfo34, enc_size]) (enc_one r) ?_
  · rw [enc_size] at hj
    rw [h.2.1, Array.getElem?_eq_getElem (by rw [encR_size]; omega)]; rfl
  · exact hK _ (h.rrow k r h1 h2) (Keeps.setCells _ k (Keeps.refl b w))
/-- The document's unit, cell by cell. -/
theorem store_ri {ops : Array Oper} {rest : List Oper} {op : Oper} {a : Act} {w : World} {Q : Exit → Act → World → Prop} {b v s : Nat} {m : M} (h : Has w b (encR v s m))
    (hgd : op.guard = none) (x y : Operand) (ho : op.op = .store 3 x y) (o : Nat) (hx : a.eval x = .pointer (some ⟨b, o, none⟩)) (z : Int) (hy : a.eval y = .int .i64 z) (h1 : 14 ≤ o) (h2 : o ≤ 17)
    (hK : ∀ w', Has w' b (encR v s (upd m (rp o) z)) → Keeps b w w' → wpList Try.prog ops Q rest (a.put op.dst undef) w') : wpList Try.prog ops Q (op :: rest) a w := by
  have e : ∀ x, rcell o x = .int .i64 x := fun x => by unfold rcell; rw [if_pos ⟨h1, h2⟩]
  refine put_g h _ hgd x y ho o hx _ hy (sv_i h (z0 := m (rp o)) ?_) (by rw [encR_size]; omega) (by rw [← e z, encR_set v s m o z (by omega) (by omega) (by omega) (by omega)]) hK
  rw [encR_get _ _ _ _ (by omega) (by omega) (by omega) (by omega), e]
theorem store_rb {ops : Array Oper} {rest : List Oper} {op : Oper} {a : Act} {w : World} {Q : Exit → Act → World → Prop} {b v s : Nat} {m : M} (h : Has w b (encR v s m))
    (hgd : op.guard = none) (x y : Operand) (ho : op.op = .store 4 x y) (hx : a.eval x = .pointer (some ⟨b, 18, none⟩)) (z : Bool) (hy : a.eval y = .bool z)
    (hK : ∀ w', Has w' b (encR v s (upd m 8366 (tf z))) → Keeps b w w' → wpList Try.prog ops Q rest (a.put op.dst undef) w') : wpList Try.prog ops Q (op :: rest) a w := by
  refine put_g h _ hgd x y ho 18 hx _ hy (sv_b h (z0 := decide (m 8366 ≠ 0)) ?_) (by rw [encR_size]; decide) ?_ hK
  · rw [encR_get _ _ _ _ (by omega) (by omega) (by omega) (by omega)]; rfl
  · have e1 : (encR v s m).setIfInBounds 18 (rcell 18 (tf z)) = encR v s (upd m 8366 (tf z)) := encR_set v s m 18 (tf z) (by omega) (by omega) (by omega) (by omega)
    have e2 : rcell 18 (tf z) = .bool z := by cases z <;> rfl
    rw [← e1, e2]
theorem store_ru {ops : Array Oper} {rest : List Oper} {op : Oper} {a : Act} {w : World} {Q : Exit → Act → World → Prop} {b v s : Nat} {m : M} (h : Has w b (encR v s m))
    (hgd : op.guard = none) (x y : Operand) (ho : op.op = .store 5 x y) (o : Nat) (hx : a.eval x = .pointer (some ⟨b, o, none⟩)) (z : Int) (hy : a.eval y = .int .u8 z) (h0 : 2 ≤ o) (h1 : o < 14) (h6 : o ≠ 6) (h8 : o ≠ 8)
    (hK : ∀ w', Has w' b (encR v s (upd m (rp o) z)) → Keeps b w w' → wpList Try.prog ops Q rest (a.put op.dst undef) w') : wpList Try.prog ops Q (op :: rest) a w := by
  have e : ∀ x, rcell o x = .int .u8 x := fun x => by unfold rcell; rw [if_neg (by omega), if_neg (by omega)]
  refine put_g h _ hgd x y ho o hx _ hy (sv_u h (z0 := m (rp o)) ?_) (by rw [encR_size]; omega) (by rw [← e z, encR_set v s m o z (by omega) (by omega) (by omega) (by omega)]) hK
  rw [encR_get _ _ _ _ (by omega) (by omega) (by omega) (by omega), e]
theorem store_v {ops : Array Oper} {rest : List Oper} {op : Oper} {a : Act} {w : World} {Q : Exit → Act → World → Prop} {b : Nat} {m : M} (h : Has w b (encV m))
    (hgd : op.guard = none) (x y : Operand) (ho : op.op = .store 5 x y) (o : Nat) (hx : a.eval x = .pointer (some ⟨b, o, none⟩)) (z : Int) (hy : a.eval y = .int .u8 z) (h1 : o < 8192)
    (hK : ∀ w', Has w' b (encV (upd m o z)) → Keeps b w w' → wpList Try.prog ops Q rest (a.put op.dst undef) w') : wpList Try.prog ops Q (op :: rest) a w :=
  put_g h _ hgd x y ho o hx _ hy (sv_u h (encV_get m o h1)) (by rw [encV_size]; exact h1) (encV_set m o z h1) hK
theorem store_o {ops : Array Oper} {rest : List Oper} {op : Oper} {a : Act} {w : World} {Q : Exit → Act → World → Prop} {b : Nat} {m : M} (h : Has w b (encS m))
    (hgd : op.guard = none) (x y : Operand) (ho : op.op = .store 5 x y) (o : Nat) (hx : a.eval x = .pointer (some ⟨b, o, none⟩)) (z : Int) (hy : a.eval y = .int .u8 z) (h1 : o < 160)
    (hK : ∀ w', Has w' b (encS (upd m (8192 + o) z)) → Keeps b w w' → wpList Try.prog ops Q rest (a.put op.dst undef) w') : wpList Try.prog ops Q (op :: rest) a w :=
  put_g h _ hgd x y ho o hx _ hy (sv_u h (encS_get m o h1)) (by rw [encS_size]; exact h1) (encS_set m o z h1) hK
theorem Has.setu {w : World} {b : Nat} {m : M} (h : Has w b (encU m)) (o : Nat) (z : Int) (h1 : o < 31407) (h3 : o ≠ 8365) (h4 : o ≠ 8366) : Has (w.setCell ⟨b, o, none⟩ (.int .u8 z)) b (encU (upd m o z)) := by
  have hP := h.set o (.int .u8 z) (by rw [encU_size]; exact h1)
  rwa [← ucell_u o z h3 h4, encU_set m o z h1, ucell_u o z h3 h4] at hP
theorem wp_store_row {op : Oper} {a : Act} {w : World} {K : Act → World → Prop} {Q : Exit → Act → World → Prop} {b : Nat} {m : M} (h : Has w b (encU m)) (r : M)
    (x y : Operand) (ho : op.op = .store 34 x y) (k : Nat) (hx : a.eval x = .pointer (some ⟨b, k, none⟩)) (hy : a.eval y = .agg (enc r)) (h1 : 8367 ≤ k) (h2 : k + 160 ≤ 31407)
    (hK : ∀ w', Has w' b (encU (row m k 160 r)) → Keeps b w w' → K (a.put op.dst undef) w') : op.wp Try.prog a w K Q := by
  refine wp_store_mid 34 x y ho b k (enc r) hx hy (fun j hj => ⟨?_, h.2.2 _⟩) (by rw [uinfo34, enc_size]) (enc_one r) ?_
  · rw [enc_size] at hj
    rw [h.2.1, Array.getElem?_eq_getElem (by rw [encU_size]; omega)]; rfl
  · exact hK _ (h.urow k r h1 h2) (Keeps.setCells _ k (Keeps.refl b w))
theorem wp_store_rrow {op : Oper} {a : Act} {w : World} {K : Act → World → Prop} {Q : Exit → Act → World → Prop} {b v s : Nat} {m : M} (h : Has w b (encR v s m)) (r : M)
    (x y : Operand) (ho : op.op = .store 34 x y) (k : Nat) (hx : a.eval x = .pointer (some ⟨b, k, none⟩)) (hy : a.eval y = .agg (enc r)) (h1 : 19 ≤ k) (h2 : k + 160 ≤ 23059)
    (hK : ∀ w', Has w' b (encR v s (row m (8348 + k) 160 r)) → Keeps b w w' → K (a.put op.dst undef) w') : op.wp Try.prog a w K Q := by
  refine wp_store_mid 34 x y ho b k (enc r) hx hy (fun j hj => ⟨?_, h.2.2 _⟩) (by rw [uinfo34, enc_size]) (enc_one r) ?_
  · rw [enc_size] at hj
    rw [h.2.1, Array.getElem?_eq_getElem (by rw [encR_size]; omega)]; rfl
  · exact hK _ (h.rrow k r h1 h2) (Keeps.setCells _ k (Keeps.refl b w))
/-- The program's memories, as slices of its unit. -/
theorem mem_vid {w : World} {b : Nat} {m : M} (h : Has w b (encU m)) (ok : ∀ o, o < 31407 → o ≠ 8365 → 0 ≤ m o ∧ m o < 256) : Mem w (.slice (some ⟨b, 0, none⟩) 8192 8192) (vid m) := by
  refine ⟨_, _, _, rfl, Nat.le_refl _, Nat.le_refl _, fun i => ?_, fun k hk => ?_, fun _ => ⟨b, 0, rfl, h.1, fun j hj => ?_⟩⟩
  · unfold vid
    split
    · exact ok i (by omega) (by omega)
    · decide
  · unfold vid; rw [if_neg (by omega)]
  · rw [h.2.1, encU_u _ _ (by omega) (by omega) (by omega)]
    unfold vid; rw [if_pos (by omega)]; simp
theorem mem_oam {w : World} {b : Nat} {m : M} (h : Has w b (encU m)) (ok : ∀ o, o < 31407 → o ≠ 8365 → 0 ≤ m o ∧ m o < 256) : Mem w (.slice (some ⟨b, 8192, none⟩) 160 160) (oam m) := by
  refine ⟨_, _, _, rfl, by decide, Nat.le_refl _, fun i => ?_, fun k hk => ?_, fun _ => ⟨b, 8192, rfl, h.1, fun j hj => ?_⟩⟩
  · unfold oam
    split
    · exact ok _ (by omega) (by omega)
    · decide
  · unfold oam; rw [if_neg (by omega)]
  · rw [h.2.1, encU_u _ _ (by omega) (by omega) (by omega)]
    unfold oam; rw [if_pos (by omega)]
theorem mem_rv {w : World} {b : Nat} {m : M} (h : Has w b (encV m)) (ok : ∀ o, o < 31407 → o ≠ 8365 → 0 ≤ m o ∧ m o < 256) : Mem w (.slice (some ⟨b, 0, none⟩) 8192 8192) (vid m) := by
  refine ⟨_, _, _, rfl, Nat.le_refl _, Nat.le_refl _, fun i => ?_, fun k hk => ?_, fun _ => ⟨b, 0, rfl, h.1, fun j hj => ?_⟩⟩
  · unfold vid
    split
    · exact ok i (by omega) (by omega)
    · decide
  · unfold vid; rw [if_neg (by omega)]
  · rw [h.2.1, encV_get _ _ (by omega)]
    unfold vid; rw [if_pos (by omega)]; simp
theorem mem_rs {w : World} {b : Nat} {m : M} (h : Has w b (encS m)) (ok : ∀ o, o < 31407 → o ≠ 8365 → 0 ≤ m o ∧ m o < 256) : Mem w (.slice (some ⟨b, 0, none⟩) 160 160) (oam m) := by
  refine ⟨_, _, _, rfl, by decide, Nat.le_refl _, fun i => ?_, fun k hk => ?_, fun _ => ⟨b, 0, rfl, h.1, fun j hj => ?_⟩⟩
  · unfold oam
    split
    · exact ok _ (by omega) (by omega)
    · decide
  · unfold oam; rw [if_neg (by omega)]
  · rw [h.2.1, encS_get _ _ (by omega)]
    unfold oam; rw [if_pos (by omega)]; simp
end Go.Proofs.Ytpfbodmadmneiaa
