/-
  A row of numbers that a function makes: what it holds, and what one more does; no condition but that there are few.
-/
import Derived.Test.YtpfbodmadmneiaaSt
import Derived.Deep.Cut
import Derived.Laws.AppendOwn
import Derived.Lib.AppendZeros
import Derived.OwnWalk
namespace Go.Proofs.Ytpfbodmadmneiaa
open Go.ChangeShapes Go.WideShapes Go.ChangeAt Go.RowKit
set_option linter.unusedVariables false
set_option linter.unusedSimpArgs false
set_option maxRecDepth 100000
theorem wp_append_run {P : Program} {w w' : World} {o : Oper} {a : Act} {K : Act → World → Prop} {Q : Exit → Act → World → Prop} (s x : Operand) (t : TypeId) (v u v' : Value)
    (ho : o.op = .call { callee := .builtin .append, args := #[s, x], argTypes := #[t, t] }) (hs : a.eval s = v) (hx : a.eval x = u)
    (hr : (Builtin.append_ #[t, t] o.type #[v, u]).run P w = .ok v' w') (h : K (a.put o.dst v') w') : o.wp P a w K Q := by
  unfold Oper.wp execOp
  simp only [ho, resolve, invoke, builtin, Sem.run_bind, Sem.run_pure, Result.andThen_ok, List.map_toArray, List.map_cons, List.map_nil, hs, hx, hr]
  exact h
theorem wpList_append_run {P : Program} {w w' : World} {ops : Array Oper} {rest : List Oper} {o : Oper} {a : Act} {Q : Exit → Act → World → Prop} (hgd : o.guard = none) (s x : Operand) (t : TypeId) (v u v' : Value)
    (ho : o.op = .call { callee := .builtin .append, args := #[s, x], argTypes := #[t, t] }) (hs : a.eval s = v) (hx : a.eval x = u)
    (hr : (Builtin.append_ #[t, t] o.type #[v, u]).run P w = .ok v' w') (h : wpList P ops Q rest (a.put o.dst v') w') : wpList P ops Q (o :: rest) a w :=
  wpList_plain hgd fun _ hK => wp_append_run s x t v u v' ho hs hx hr (hK _ _ h)
/-- The cells of the first n numbers. -/
def il (f : M) : Nat → List Value
  | 0 => []
  | n + 1 => il f n ++ [.int .i64 (f n)]
theorem il_len (f : M) : ∀ n, (il f n).length = n
  | 0 => rfl
  | n + 1 => by rw [il, List.length_append, il_len f n]; rfl
theorem il_at (f : M) : ∀ n j, j < n → (il f n)[j]? = some (.int .i64 (f j))
  | 0, j, h => by omega
  | n + 1, j, h => by
    have l := il_len f n
    rw [il]
    by_cases e : j = n
    · subst e
      rw [List.getElem?_append_right (by omega), l]
      simp
    · rw [List.getElem?_append_left (by omega)]
      exact il_at f n j (by omega)
theorem il_congr (f g : M) : ∀ n, (∀ j, j < n → f j = g j) → il f n = il g n
  | 0, _ => rfl
  | n + 1, h => by rw [il, il, il_congr f g n (fun j hj => h j (by omega)), h n (by omega)]
theorem il_upd (f : M) (n : Nat) (x : Int) : il (upd f n x) (n + 1) = il f n ++ [.int .i64 x] := by
  rw [il, il_congr (upd f n x) f n (fun j hj => by unfold upd; rw [if_neg (by omega)])]
  unfold upd
  rw [if_pos rfl]
theorem plus (g j : Nat) : (⟨g, 0, none⟩ : Addr).add j = ⟨g, j, none⟩ := by unfold Addr.add; split <;> simp_all
/-- v is a slice of n numbers f, in the block g, if it has any. -/
def RowG (w : World) (v : Value) (n : Nat) (f : M) (g : Nat) : Prop := ∃ a c, v = .slice a n c ∧ n ≤ c ∧ (0 < n → a = some ⟨g, 0, none⟩ ∧ g < w.heap.size ∧ (∀ j, j < n → w.cell? ⟨g, j, none⟩ = some (.int .i64 (f j))) ∧ ∀ j, w.frozen? ⟨g, j, none⟩ = false)
theorem RowG.below {w w' : World} {v : Value} {n : Nat} {f : M} {g : Nat} (h : RowG w v n f g) (hb : Below w.heap.size w w') : RowG w' v n f g := by
  obtain ⟨a, c, h1, h2, h3⟩ := h
  refine ⟨a, c, h1, h2, fun h0 => ?_⟩
  obtain ⟨e, hg, hc, hf⟩ := h3 h0
  exact ⟨e, Nat.lt_of_lt_of_le hg hb.size, fun j hj => (hb.cell (p := ⟨g, j, none⟩) hg).trans (hc j hj), fun j => ((bcell hb).2 g j hg).trans (hf j)⟩
theorem own_row {w : World} {base n : Nat} {v : Value} {f : M} (h : w.ownsRow base 3 1 v n (il f n)) : ∃ g, RowG w v n f g ∧ base ≤ g := by
  rcases h.2 with ⟨rfl, rfl⟩ | ⟨b, cap, cur, rfl, hb, hk, hle, _⟩
  · exact ⟨base, ⟨none, 0, rfl, Nat.le_refl _, fun h => absurd h (by omega)⟩, Nat.le_refl _⟩
  · refine ⟨b, ⟨_, cap, rfl, hle, fun h0 => ⟨rfl, (h.lt b rfl).2, fun j hj => ?_, fun j => ?_⟩⟩, hb⟩
    · have c1 := h.cells (g := b) rfl _ _ (il_at f n j hj)
      rwa [plus] at c1
    · exact h.frozenAt j
theorem info3 : (Try.prog.info? 3).map (fun i => (i.zero, i.size, i.bytes)) = some (some (.int .i64 0), 1, 8) := by kernel_rfl
theorem one_cell (w : World) (F : Int) : ∀ j u, [Value.int .i64 F][j]? = some u → (w.alloc (.cells #[.int .i64 F] 3)).cell? ((⟨w.heap.size, 0, none⟩ : Addr).add j) = some u := by
  intro j u hj
  match j, hj with
  | 0, hj => simp at hj; subst hj; simp [Addr.add, go_sem]
  | j + 1, hj => simp at hj
/-- append of one number, told by its run. -/
theorem app_c {w : World} {base n : Nat} {v : Value} {f : M} (x : Int) (h : w.ownsRow base 3 1 v n (il f n)) (hb : base ≤ w.heap.size) (hn : n < 1000000) :
    ∃ v' w', (Builtin.append_ #[84, 84] 84 #[v, .slice (some ⟨w.heap.size, 0, none⟩) 1 1]).run Try.prog (w.alloc (.cells #[.int .i64 x] 3)) = .ok v' w' ∧
      w'.ownsRow base 3 1 v' (n + 1) (il (upd f n x) (n + 1)) ∧ Below base w w' := by
  obtain ⟨i0, hi, hz0, hz1, hz2⟩ := info_parts info3
  obtain ⟨v', w', hr, ho, hg, _⟩ := run_append_own (P := Try.prog) (w.alloc (.cells #[.int .i64 x] 3)) base 84 84 3 i0 _ 1 8 Try.underlying84 hi hz0 hz1 hz2 rfl (by decide)
    v n (il f n) (h.alloc _) ⟨w.heap.size, 0, none⟩ 1 1 [.int .i64 x] rfl (one_cell w _) (fun u hu => by simp at hu; subst hu; rfl)
    (by simp only [maxLen]; omega) (by omega) (by simp; omega)
  refine ⟨v', w', hr, by rw [il_upd]; exact ho, ?_⟩
  exact ((Below.refl base w).alloc hb _).grown hg (by simp; omega) (fun k hk => (h.lt k hk).1)
theorem own_below {w w' : World} {base n : Nat} {v : Value} {xs : List Value} (h : w.ownsRow base 3 1 v n xs) (hb : Below w.heap.size w w') : w'.ownsRow base 3 1 v n xs :=
  h.kept (row := none) ⟨hb.os, hb.tape, hb.output, hb.size, fun k hk _ => hb.block k hk⟩ (by cases hv : v.ownBlock <;> simp)
theorem _root_.Go.World.ownsRow.below {w w' : World} {base n : Nat} {v : Value} {xs : List Value} (h : w.ownsRow base 3 1 v n xs) (hb : Below w.heap.size w w') : w'.ownsRow base 3 1 v n xs := own_below h hb
theorem own_slice {w : World} {base n : Nat} {v : Value} {xs : List Value} (h : w.ownsRow base 3 1 v n xs) : ∃ a c, v = .slice a n c := by
  rcases h.2 with ⟨rfl, rfl⟩ | ⟨b, cap, cur, rfl, _⟩
  · exact ⟨none, 0, rfl⟩
  · exact ⟨_, cap, rfl⟩
/-- What a function hands back that makes a row. -/
def RowE (n : Nat) (f : M) (k : Nat) (W0 : World) (e : Ending) (w' : World) : Prop := ∃ v g, e = .returned v ∧ RowG w' v n f g ∧ k ≤ g ∧ Below k W0 w'
theorem rowE_mk {n : Nat} {f : M} {k : Nat} {W0 w' : World} {v : Value} {g : Nat} (h : RowG w' v n f g) (hk : k ≤ g) (hb : Below k W0 w') : RowE n f k W0 (.returned v) w' := ⟨v, g, rfl, h, hk, hb⟩
end Go.Proofs.Ytpfbodmadmneiaa
