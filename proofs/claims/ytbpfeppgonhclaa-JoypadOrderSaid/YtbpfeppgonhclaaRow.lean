/-
  A plan that a law makes, change by change: what it holds, and what one more does; no condition but that there are few.
-/
import Derived.Test.YtbpfeppgonhclaaBase
import Derived.Deep.Cut
import Derived.Laws.AppendOwn
import Derived.Lib.AppendZeros
namespace Go.Proofs.Ytbpfeppgonhclaa
open Go.ChangeShapes Go.WideShapes Go.ChangeAt Go.RowKit
set_option linter.unusedVariables false
set_option linter.unusedSimpArgs false
set_option maxRecDepth 100000
/-- The cells of the first n changes. -/
def plL (f g : Nat → Int) : Nat → List Value
  | 0 => []
  | n + 1 => plL f g n ++ [.int .u64 (f n), .int .u8 (g n)]
theorem plL_len (f g : Nat → Int) : ∀ n, (plL f g n).length = n * 2
  | 0 => rfl
  | n + 1 => by rw [plL, List.length_append, plL_len f g n]; simp; omega
theorem plL_at (f g : Nat → Int) : ∀ n j, j < n → (plL f g n)[j * 2]? = some (.int .u64 (f j)) ∧ (plL f g n)[j * 2 + 1]? = some (.int .u8 (g j))
  | 0, j, h => by omega
  | n + 1, j, h => by
    have l := plL_len f g n
    rw [plL]
    by_cases e : j = n
    · subst e
      rw [List.getElem?_append_right (by omega), List.getElem?_append_right (by omega), l]
      simp
    · rw [List.getElem?_append_left (by omega), List.getElem?_append_left (by omega)]
      exact plL_at f g n j (by omega)
theorem plus (g j : Nat) : (⟨g, 0, none⟩ : Addr).add j = ⟨g, j, none⟩ := by unfold Addr.add; split <;> simp_all
/-- A plan of one's own is a slice that lies in memory. -/
theorem own_in {w : World} {base n : Nat} {v : Value} {f g : Nat → Int} (h : w.ownsRow base 41 2 v n (plL f g n)) :
    ∃ (a : Option Addr) (c : Nat), v = .slice a n c ∧ (0 < n → ∃ qb qo, a = some ⟨qb, qo, none⟩ ∧ qb < w.heap.size ∧ ∀ j, j < n → w.cell? ⟨qb, qo + j * 2, none⟩ = some (.int .u64 (f j)) ∧ w.cell? ⟨qb, qo + j * 2 + 1, none⟩ = some (.int .u8 (g j))) := by
  rcases h.2 with ⟨rfl, rfl⟩ | ⟨b, cap, cur, rfl, hb, _⟩
  · exact ⟨none, 0, rfl, fun h => absurd h (by omega)⟩
  · refine ⟨some ⟨b, 0, none⟩, cap, rfl, fun _ => ⟨b, 0, rfl, (h.lt b rfl).2, fun j hj => ?_⟩⟩
    have q := plL_at f g n j hj
    have c1 := h.cells (g := b) rfl _ _ q.1
    have c2 := h.cells (g := b) rfl _ _ q.2
    rw [plus] at c1 c2
    exact ⟨by rw [Nat.zero_add]; exact c1, by rw [Nat.zero_add]; exact c2⟩
theorem infoC : (Try.prog.info? 41).map (fun i => (i.zero, i.size, i.bytes)) = some (some (.agg #[.int .u64 0, .int .u8 0]), 2, 16) := by kernel_rfl
theorem two_cells (w : World) (F G : Int) : ∀ j u, [Value.int .u64 F, .int .u8 G][j]? = some u → (w.alloc (.cells #[.int .u64 F, .int .u8 G] 41)).cell? ((⟨w.heap.size, 0, none⟩ : Addr).add j) = some u := by
  intro j u hj
  match j, hj with
  | 0, hj => simp at hj; subst hj; simp [Addr.add, go_sem]
  | 1, hj => simp at hj; subst hj; simp [Addr.add, go_sem]
  | j + 2, hj => simp at hj
/-- append of one change, told by its run. -/
theorem app_c {w : World} {base n : Nat} {v : Value} {f g : Nat → Int} (h : w.ownsRow base 41 2 v n (plL f g n)) (hb : base ≤ w.heap.size) (hn : n < 1000000) :
    ∃ v' w', (Builtin.append_ #[39, 39] 39 #[v, .slice (some ⟨w.heap.size, 0, none⟩) 1 1]).run Try.prog (w.alloc (.cells #[.int .u64 (f n), .int .u8 (g n)] 41)) = .ok v' w' ∧
      w'.ownsRow base 41 2 v' (n + 1) (plL f g (n + 1)) ∧ Below base w w' ∧ w.grownBy w' v.ownBlock := by
  obtain ⟨i0, hi, hz0, hz1, hz2⟩ := info_parts infoC
  obtain ⟨v', w', hr, ho, hg, _⟩ := run_append_own (P := Try.prog) (w.alloc (.cells #[.int .u64 (f n), .int .u8 (g n)] 41)) base 39 39 41 i0 _ 2 16 Try.underlying39 hi hz0 hz1 hz2 rfl (by decide)
    v n (plL f g n) (h.alloc _) ⟨w.heap.size, 0, none⟩ 1 1 [.int .u64 (f n), .int .u8 (g n)] rfl (two_cells w _ _) (fun u hu => by simp at hu; rcases hu with rfl | rfl <;> rfl)
    (by simp only [maxLen]; omega) (by omega) (by simp; omega)
  refine ⟨v', w', hr, ho, ?_, ?_⟩
  · exact ((Below.refl base w).alloc hb _).grown hg (by simp; omega) (fun k hk => (h.lt k hk).1)
  · have ga := World.grownBy_alloc w (.cells #[.int .u64 (f n), .int .u8 (g n)] 41) v.ownBlock
    exact ⟨hg.os.trans ga.os, hg.tape.trans ga.tape, hg.output.trans ga.output, Nat.le_trans ga.size hg.size, fun k hk hne => (hg.block k (Nat.lt_of_lt_of_le hk ga.size) hne).trans (ga.block k hk hne)⟩
end Go.Proofs.Ytbpfeppgonhclaa
