/-
 A unit's bytes, as the program makes them: for every unit as it can be; no other condition.
-/
import Derived.Test.YtpfbodmadmneiaaTz
import Derived.Test.YtpfbodmadmneiaaRu
import Derived.Deep.Cut
import Derived.BigQuiet
import Derived.WalkSmall
import Derived.Deep.LoopGhost
import Derived.OwnWalk
import Derived.Laws.AppendOwn
import Derived.Laws.OwnMore
import Derived.Laws.MakeOwn
import Derived.Laws.Tables
import Derived.Test.YtpfbodmadmneiaaRow
import Derived.Test.YtpfbodmadmneiaaPf
import Derived.Test.YtpfbodmadmneiaaTk
namespace Go.Proofs.Ytpfbodmadmneiaa
open Go.ChangeShapes Go.WideShapes Go.ChangeAt Go.RowKit
set_option linter.unusedVariables false
set_option linter.unusedSimpArgs false
set_option maxRecDepth 100000
def pl39 : Array (Nat × Nat) := #[(0, 1), (1, 1), (2, 12), (14, 1), (15, 1), (16, 1), (17, 1), (18, 1), (19, 23040)]
theorem places39 : ∃ fs : Array Field, Try.prog.underlying 39 = some (.struct fs) ∧ ∀ w, (fs.mapM (fun (f : Field) => do pure (f.offset, ← sizeOf f.type))).run Try.prog w = .ok pl39 w := ⟨_, Try.underlying39, fun w => by kernel_rfl⟩
theorem build39 (p q : Value) (hp : p.cells = #[p]) (hq : q.cells = #[q]) (w : World) : (Instr.build 39 #[(0, p), (1, q)]).run Try.prog w = .ok (.agg ((Try.zeroCells39.setIfInBounds 0 p).setIfInBounds 1 q)) w := by
 obtain ⟨fs, h1, h2⟩ := places39
 have hs : Try.zeroCells39.size = 23059 := Try.zeroCells39_size
 unfold Instr.build
 simp only [Sem.run_bind, Try.zeroValue39, Result.andThen_ok, Value.cells]
 rw [run_underlying h1]
 simp only [Result.andThen_ok, Sem.run_bind]
 rw [h2 w]
 simp only [Result.andThen_ok]
 have hf : Instr.fill (fun x => pl39[x]?) Try.zeroCells39 [(0, p), (1, q)] = some ((Try.zeroCells39.setIfInBounds 0 p).setIfInBounds 1 q) := by
  simp [Instr.fill, pl39, hp, hq, hs]
 simp only [hf]
 rfl
theorem infoB : (Try.prog.info? 5).map (fun i => (i.zero, i.size, i.bytes)) = some (some (.int .u8 0), 1, 1) := by kernel_rfl
def zeroB (n : Nat) : Array Value := madeCells (Value.int .u8 0).cells n
theorem zeroB_get (n a : Nat) (h : a < n) : (zeroB n)[a]? = some (.int .u8 0) := by
 unfold zeroB madeCells
 rw [Array.getElem?_map, Array.getElem?_range]
 rw [if_pos (by simpa [Value.cells] using h)]
 show some ((Value.int .u8 0).cells[a % 1]!) = _
 rw [Nat.mod_one]
 rfl
theorem zeroB_size (n : Nat) : (zeroB n).size = n := by unfold zeroB madeCells; simp [Value.cells]
theorem mk_run (n : Nat) (hn : n < 2147483648) (w : World) : (Instr.makeSlice 31 (.int .i64 n) (.int .i64 n)).run Try.prog w = .ok (.slice (some ⟨w.heap.size, 0, none⟩) n n) (w.alloc (.cells (zeroB n) 5)) := by
 obtain ⟨i0, hi, hz0, hz1, hz2⟩ := info_parts infoB
 have h := run_make (P := Try.prog) w 31 5 i0 _ Try.underlying31 hi hz0 .i64 .i64 n n (by omega) (by omega) (by rw [hz2]; omega) (by omega)
 rw [hz1] at h
 simpa [zeroB] using h
theorem zero_V : zeroB 8192 = encV zeroM := by
 apply Array.ext_getElem?
 intro i
 by_cases h : i < 8192
 ·rw [zeroB_get _ _ h, encV_get _ _ h, zero_at]
 ·rw [Array.getElem?_eq_none (by rw [zeroB_size]; omega), Array.getElem?_eq_none (by rw [encV_size]; omega)]
theorem zero_S : zeroB 160 = encS zeroM := by
 apply Array.ext_getElem?
 intro i
 by_cases h : i < 160
 ·rw [zeroB_get _ _ h, encS_get _ _ h, zero_at]
 ·rw [Array.getElem?_eq_none (by rw [zeroB_size]; omega), Array.getElem?_eq_none (by rw [encS_size]; omega)]
theorem z39 (v s : Nat) : (Try.zeroCells39.setIfInBounds 0 (.slice (some ⟨v, 0, none⟩) 8192 8192)).setIfInBounds 1 (.slice (some ⟨s, 0, none⟩) 160 160) = encR v s zeroM := by
 have h := go39
 have hs := Try.zeroCells39_size
 generalize Try.zeroCells39 = A at h hs
 obtain ⟨l⟩ := A
 simp only [List.size_toArray] at hs
 dsimp only at h
 rcases l with _ | ⟨a, _ | ⟨b, r⟩⟩
 ·cases h
 ·cases h
 ·have hr : True := trivial
  dsimp only at h
  generalize hq : runs zU 12 r = qq at h
  rcases qq with _ | ⟨c, _ | ⟨d, _ | ⟨e, _ | ⟨f, _ | ⟨g, q⟩⟩⟩⟩⟩
  ·cases h
  ·cases h
  ·cases h
  ·cases h
  ·cases h
  ·dsimp only at h
   obtain ⟨h1, h2⟩ := runs_out zU _ (fun v hv => zU_out hv) 12 r (by rw [hq]; simp)
   simp only [Bool.and_eq_true] at h
   obtain ⟨⟨⟨hc, hd⟩, he, hf⟩, hg, hz⟩ := h
   obtain rfl := zI_out hc
   obtain rfl := zI_out hd
   obtain rfl := zI_out he
   obtain rfl := zI_out hf
   obtain rfl := zB_out hg
   have hl : r = List.replicate 12 (.int .u8 0) ++ (.int .i64 0 :: .int .i64 0 :: .int .i64 0 :: .int .i64 0 :: .bool false :: q) := by
    rw [← h1, ← hq, h2, List.take_append_drop]
   have hlen : q.length = 23040 := by
    rw [hl] at hs
    simp only [List.length_cons, List.length_append, List.length_replicate] at hs
    omega
   have e := endsU_out q hz
   apply Array.ext_getElem?
   intro i
   by_cases hi : i < 23059
   ·match i, hi with
    | 0, _ => rw [encR_V]; rfl
    | 1, _ => rw [encR_S]; rfl
    | i + 2, hi =>
     have e0 : (((List.toArray (a :: b :: r)).setIfInBounds 0 (.slice (some ⟨v, 0, none⟩) 8192 8192)).setIfInBounds 1 (.slice (some ⟨s, 0, none⟩) 160 160))[i + 2]? = r[i]? := by
      rw [Array.getElem?_setIfInBounds_ne (by omega), Array.getElem?_setIfInBounds_ne (by omega)]
      simp
     rw [e0, hl]
     by_cases h6 : i + 2 = 6 ∨ i + 2 = 8
     ·rw [encR_z _ _ _ _ h6]
      rcases h6 with h6 | h6
      ·obtain rfl : i = 4 := by omega
       rfl
      ·obtain rfl : i = 6 := by omega
       rfl
     rw [encR_get _ _ _ _ (by omega) hi (by omega) (by omega), zero_at]
     by_cases h3 : i < 12
     ·rw [List.getElem?_append_left (by rw [List.length_replicate]; exact h3)]
      unfold rcell
      rw [if_neg (by omega), if_neg (by omega), List.getElem?_replicate, if_pos h3]
     ·rw [List.getElem?_append_right (by rw [List.length_replicate]; omega), List.length_replicate]
      obtain ⟨j, rfl⟩ : ∃ j, i = 12 + j := ⟨i - 12, by omega⟩
      rw [Nat.add_sub_cancel_left]
      match j with
      | 0 => rfl
      | 1 => rfl
      | 2 => rfl
      | 3 => rfl
      | 4 => rfl
      | j + 5 =>
       rw [rcell_row _ _ (by omega)]
       exact e j (by omega)
   ·rw [Array.getElem?_eq_none (by simp only [Array.size_setIfInBounds, List.size_toArray, hs]; omega), Array.getElem?_eq_none (by rw [encR_size]; omega)]
def NewR (k : Nat) (W0 : World) (e : Ending) (w' : World) : Prop := ∃ r v s, e = .returned (.pointer (some ⟨r, 0, none⟩)) ∧ RU w' r v s zeroM ∧ k ≤ r ∧ k ≤ v ∧ k ≤ s ∧ Below k W0 w'
set_option maxHeartbeats 4000000 in
theorem rnew_c (w : World) : Calls Try.prog 13 #[] w (NewR w.heap.size w) := by
 have m8 : ∀ w, (Instr.makeSlice 31 (.int .i64 8192) (.int .i64 8192)).run Try.prog w = .ok (.slice (some ⟨w.heap.size, 0, none⟩) 8192 8192) (w.alloc (.cells (encV zeroM) 5)) := fun w => by rw [← zero_V]; exact mk_run 8192 (by omega) w
 have m1 : ∀ w, (Instr.makeSlice 31 (.int .i64 160) (.int .i64 160)).run Try.prog w = .ok (.slice (some ⟨w.heap.size, 0, none⟩) 160 160) (w.alloc (.cells (encS zeroM) 5)) := fun w => by rw [← zero_S]; exact mk_run 160 (by omega) w
 have b39 : ∀ (x y : Nat) (w : World), (Instr.build 39 #[(0, .slice (some ⟨x, 0, none⟩) 8192 8192), (1, .slice (some ⟨y, 0, none⟩) 160 160)]).run Try.prog w = .ok (.agg (encR x y zeroM)) w := fun x y w => by rw [build39 _ _ rfl rfl w, z39]
 go_enter Try.func13, Try.ntmps13
 go_upto_region 1 with (fail)
 refine wp_region_held_drew (S := (fun w' => True)) (by kernel_rfl) trivial (fun hHeld => ?_)
 have HL := Lib.hid (show w.heap.size ≤ w.drew.heap.size from Nat.le_refl _)
 have BL := Lib.hid (show Below w.heap.size w w.drew from (Below.refl _ _).drew)
 generalize w.drew = w0 at HL BL ⊢
 refine wpAnyH_ready (rs := [0, 1]) (by kernel_rfl) (by simp) ?_
 refine (acc rfl (fun K hK => ?_) (acc rfl (fun K hK => ?_) AllReadyH.nil))
 ·skip
  go_simp
  refine hK.out _ _ ?s1 (fun hNew => ?r1)
  case s1 => exact trivial
  clear hK K hHeld
  have hHeld := hNew
  clear hNew
  refine wpAnyH_ready (rs := [1]) (by kernel_rfl) (by simp) ?_
  refine (acc rfl (fun K hK => ?_) AllReadyH.nil)
  ·skip
   go_simp
   refine hK.out _ _ ?s2 (fun hNew => ?r2)
   case s2 => exact trivial
   clear hK K hHeld
   have hHeld := hNew
   clear hNew
   refine tzz 2 ?_
   refine wpAnyH_ready (rs := [3]) (by kernel_rfl) (by simp) ?_
   refine (acc rfl (fun K hK => ?_) AllReadyH.nil)
   ·skip
    go_simp
    refine hK.out _ _ ?s4 (fun hNew => ?r4)
    case s4 => exact trivial
    clear hK K hHeld
    have hHeld := hNew
    clear hNew
    refine tzz 4 ?_
    refine wpAnyH_done (by kernel_rfl) ?_ _
    clear hHeld
    go_wp2
    go_ret
    rw [z39]
    unfold NewR
    refine ⟨w0.heap.size + 2, w0.heap.size, (w0.heap.size + 1), by simp, ⟨?_, ?_, ?_, by omega, by omega, by omega⟩, ?_, ?_, ?_, ?_⟩
    ·have h := Has.new ((w0.alloc (.cells (encV zeroM) 5)).alloc (.cells (encS zeroM) 5)) (encR w0.heap.size (w0.heap.size + 1) zeroM) 39
     simpa [Nat.add_assoc] using h
    ·have h := ((Has.new w0 (encV zeroM) 5).alloc (.cells (encS zeroM) 5)).alloc (.cells (encR w0.heap.size (w0.heap.size + 1) zeroM) 39)
     simpa using h
    ·have h := ((Has.new (w0.alloc (.cells (encV zeroM) 5)) (encS zeroM) 5)).alloc (.cells (encR w0.heap.size (w0.heap.size + 1) zeroM) 39)
     simpa using h
    ·have := HL.out; omega
    ·have := HL.out; omega
    ·have := HL.out; omega
    ·exact BL.out.trans ((own3 w0 (.cells (encV zeroM) 5) (.cells (encS zeroM) 5) (.cells (encR w0.heap.size (w0.heap.size + 1) zeroM) 39)).mono HL.out)
 ·skip
  go_simp
  refine hK.out _ _ ?s6 (fun hNew => ?r6)
  case s6 => exact trivial
  clear hK K hHeld
  have hHeld := hNew
  clear hNew
  refine wpAnyH_ready (rs := [0]) (by kernel_rfl) (by simp) ?_
  refine (acc rfl (fun K hK => ?_) AllReadyH.nil)
  ·skip
   go_simp
   refine hK.out _ _ ?s7 (fun hNew => ?r7)
   case s7 => exact trivial
   clear hK K hHeld
   have hHeld := hNew
   clear hNew
   refine tzz 2 ?_
   refine wpAnyH_ready (rs := [3]) (by kernel_rfl) (by simp) ?_
   refine (acc rfl (fun K hK => ?_) AllReadyH.nil)
   ·skip
    go_simp
    refine hK.out _ _ ?s9 (fun hNew => ?r9)
    case s9 => exact trivial
    clear hK K hHeld
    have hHeld := hNew
    clear hNew
    refine tzz 4 ?_
    refine wpAnyH_done (by kernel_rfl) ?_ _
    clear hHeld
    go_wp2
    go_ret
    rw [z39]
    unfold NewR
    refine ⟨w0.heap.size + 2, (w0.heap.size + 1), w0.heap.size, by simp, ⟨?_, ?_, ?_, by omega, by omega, by omega⟩, ?_, ?_, ?_, ?_⟩
    ·have h := Has.new ((w0.alloc (.cells (encS zeroM) 5)).alloc (.cells (encV zeroM) 5)) (encR (w0.heap.size + 1) w0.heap.size zeroM) 39
     simpa [Nat.add_assoc] using h
    ·have h := ((Has.new (w0.alloc (.cells (encS zeroM) 5)) (encV zeroM) 5)).alloc (.cells (encR (w0.heap.size + 1) w0.heap.size zeroM) 39)
     simpa using h
    ·have h := ((Has.new w0 (encS zeroM) 5).alloc (.cells (encV zeroM) 5)).alloc (.cells (encR (w0.heap.size + 1) w0.heap.size zeroM) 39)
     simpa using h
    ·have := HL.out; omega
    ·have := HL.out; omega
    ·have := HL.out; omega
    ·exact BL.out.trans ((own3 w0 (.cells (encS zeroM) 5) (.cells (encV zeroM) 5) (.cells (encR (w0.heap.size + 1) w0.heap.size zeroM) 39)).mono HL.out)
end Go.Proofs.Ytpfbodmadmneiaa
namespace Go.Proofs.Ytpfbodmadmneiaa
open Go.ChangeShapes Go.WideShapes Go.ChangeAt Go.RowKit
set_option linter.unusedVariables false
set_option linter.unusedSimpArgs false
set_option maxRecDepth 100000
/-- The cells of the first n bytes. -/
def bl (f : M) : Nat → List Value
 | 0 => []
 | n + 1 => bl f n ++ [.int .u8 (f n)]
theorem bl_len (f : M) : ∀ n, (bl f n).length = n
 | 0 => rfl
 | n + 1 => by rw [bl, List.length_append, bl_len f n]; rfl
theorem bl_at (f : M) : ∀ n j, j < n → (bl f n)[j]? = some (.int .u8 (f j))
 | 0, j, h => by omega
 | n + 1, j, h => by
  have l := bl_len f n
  rw [bl]
  by_cases e : j = n
  ·subst e
   rw [List.getElem?_append_right (by omega), l]
   simp
  ·rw [List.getElem?_append_left (by omega)]
   exact bl_at f n j (by omega)
theorem bl_congr (f g : M) : ∀ n, (∀ j, j < n → f j = g j) → bl f n = bl g n
 | 0, _ => rfl
 | n + 1, h => by rw [bl, bl, bl_congr f g n (fun j hj => h j (by omega)), h n (by omega)]
theorem bl_add (f : M) (n : Nat) : ∀ m, bl f (n + m) = bl f n ++ bl (fun j => f (n + j)) m
 | 0 => by simp [bl]
 | m + 1 => by
  show bl f (n + m) ++ [.int .u8 (f (n + m))] = bl f n ++ (bl (fun j => f (n + j)) m ++ [.int .u8 (f (n + m))])
  rw [bl_add f n m, List.append_assoc]
theorem bl_one (f : M) : ∀ n, ∀ u ∈ bl f n, u.oneCell' = true
 | 0, u, h => by simp [bl] at h
 | n + 1, u, h => by
  rw [bl, List.mem_append] at h
  rcases h with h | h
  ·exact bl_one f n u h
  ·simp at h; subst h; rfl
attribute [irreducible] bl
abbrev OwnB (w : World) (base : Nat) (v : Value) (n : Nat) (f : M) : Prop := w.ownsRow base 5 1 v n (bl f n)
theorem OwnB.below {w w' : World} {base n : Nat} {v : Value} {f : M} (h : OwnB w base v n f) (hb : Below w.heap.size w w') : OwnB w' base v n f :=
 World.ownsRow.kept (row := none) h ⟨hb.os, hb.tape, hb.output, hb.size, fun k hk _ => hb.block k hk⟩ (by cases hv : v.ownBlock <;> simp)
theorem OwnB.slice {w : World} {base n : Nat} {v : Value} {f : M} (h : OwnB w base v n f) : ∃ a c, v = .slice a n c := by
 rcases h.2 with ⟨rfl, rfl⟩ | ⟨b, cap, cur, rfl, _⟩
 ·exact ⟨none, 0, rfl⟩
 ·exact ⟨_, cap, rfl⟩
/-- More bytes behind: what lies there is what is to come. -/
theorem app_bs {w : World} {base n : Nat} {v : Value} {f : M} (sb so m c : Nat) (h : OwnB w base v n f) (hs : ∀ j, j < m → w.cell? ⟨sb, so + j, none⟩ = some (.int .u8 (f (n + j)))) (hb : base ≤ w.heap.size) (hn : n + m < 1000000) :
  ∃ v' w', (Builtin.append_ #[31, 31] 31 #[v, .slice (some ⟨sb, so, none⟩) m c]).run Try.prog w = .ok v' w' ∧ OwnB w' base v' (n + m) f ∧ Below base w w' := by
 obtain ⟨i0, hi, hz0, hz1, hz2⟩ := info_parts infoB
 obtain ⟨v', w', hr, ho, hg, _⟩ := run_append_own (P := Try.prog) w base 31 31 5 i0 _ 1 1 Try.underlying31 hi hz0 hz1 hz2 rfl (by decide)
  v n (bl f n) h ⟨sb, so, none⟩ m c (bl (fun j => f (n + j)) m) (by rw [bl_len]; omega) (fun j u hj => by
   have hj2 : j < m := by have := List.getElem?_eq_some_iff.1 hj; obtain ⟨q, _⟩ := this; rwa [bl_len] at q
   rw [bl_at _ _ _ hj2] at hj
   rw [Go.WideShapes.add_plain, hs j hj2]; exact hj) (bl_one _ m) (by simp only [maxLen]; omega) (by omega) hb
 refine ⟨v', w', hr, by show w'.ownsRow base 5 1 v' (n + m) (bl f (n + m)); rw [bl_add]; exact ho, ?_⟩
 exact (Below.refl base w).grown hg hb (fun k hk => (World.ownsRow.lt h k hk).1)
/-- Bytes in a block of their own. -/
def RowB (w : World) (v : Value) (n : Nat) (f : M) (g : Nat) : Prop := ∃ c, v = .slice (some ⟨g, 0, none⟩) n c ∧ n ≤ c ∧ g < w.heap.size ∧ (∀ j, j < n → w.cell? ⟨g, j, none⟩ = some (.int .u8 (f j))) ∧ ∀ j, w.frozen? ⟨g, j, none⟩ = false
theorem RowB.below {w w' : World} {v : Value} {n : Nat} {f : M} {g : Nat} (h : RowB w v n f g) (hb : Below w.heap.size w w') : RowB w' v n f g := by
 obtain ⟨c, h1, h2, hg, hc, hf⟩ := h
 exact ⟨c, h1, h2, Nat.lt_of_lt_of_le hg hb.size, fun j hj => (hb.cell (p := ⟨g, j, none⟩) hg).trans (hc j hj), fun j => ((bcell hb).2 g j hg).trans (hf j)⟩
theorem own_rowB {w : World} {base n : Nat} {v : Value} {f : M} (h : OwnB w base v n f) (h0 : 0 < n) : ∃ g, RowB w v n f g ∧ base ≤ g := by
 rcases h.2 with ⟨rfl, rfl⟩ | ⟨b, cap, cur, rfl, hb, hk, hle, _⟩
 ·omega
 ·refine ⟨b, ⟨cap, rfl, hle, (World.ownsRow.lt h b rfl).2, fun j hj => ?_, fun j => ?_⟩, hb⟩
  ·have c1 := World.ownsRow.cells h (g := b) rfl _ _ (bl_at f n j hj)
   rwa [plus] at c1
  ·exact World.ownsRow.frozenAt h j
/-- A unit's bytes. -/
def encF (m : M) : M := fun i => if i < 8365 then m i else if i = 8365 then m 8365 % 256 else if i = 8366 then m 8365 / 256 else m (i - 1)
theorem encF_lo (m : M) (i : Nat) (h : i < 8365) : encF m i = m i := by unfold encF; rw [if_pos h]
theorem encF_hi (m : M) (i : Nat) (h : 8366 ≤ i) : encF m (i + 1) = m i := by unfold encF; rw [if_neg (by omega), if_neg (by omega), if_neg (by omega)]; rfl
theorem encF_1 (m : M) : encF m 8365 = m 8365 % 256 := rfl
theorem encF_2 (m : M) : encF m 8366 = m 8365 / 256 := rfl
/-- What an encoder hands back. -/
def EncE (f : M) (k : Nat) (W0 : World) (e : Ending) (w' : World) : Prop := ∃ v g, e = .returned v ∧ RowB w' v 31408 f g ∧ k ≤ g ∧ Below k W0 w'
theorem encE_mk {f : M} {k : Nat} {W0 w' : World} {v : Value} (h : OwnB w' k v 31408 f) (hb : Below k W0 w') : EncE f k W0 (.returned v) w' := by
 obtain ⟨g, h1, h2⟩ := own_rowB h (by decide)
 exact ⟨v, g, rfl, h1, h2, hb⟩
end Go.Proofs.Ytpfbodmadmneiaa
namespace Go.Proofs.Ytpfbodmadmneiaa
open Go.ChangeShapes Go.WideShapes Go.ChangeAt Go.RowKit
set_option linter.unusedVariables false
set_option linter.unusedSimpArgs false
set_option maxRecDepth 100000
theorem bl0 (f : M) : bl f 0 = [] := by have := bl_len f 0; exact List.length_eq_zero_iff.1 this
theorem Has.at {W0 u : World} {b n_ : Nat} {A : Array Value} (h : Has W0 b A) (hb : b < n_) (hn : n_ ≤ W0.heap.size) (B : Below n_ W0 u) : Has u b A :=
 ⟨Nat.lt_of_lt_of_le h.1 B.size, fun o => (B.cell (p := ⟨b, o, none⟩) hb).trans (h.2.1 o), fun o => (B.frozen (p := ⟨b, o, none⟩) hb).trans (h.2.2 o)⟩
theorem RU.at {W0 u : World} {r v s n_ : Nat} {m : M} (h : RU W0 r v s m) (hr : r < n_) (hv : v < n_) (hs : s < n_) (hn : n_ ≤ W0.heap.size) (B : Below n_ W0 u) : RU u r v s m :=
 ⟨h.R.at hr hn B, h.V.at hv hn B, h.S.at hs hn B, h.rv, h.rs, h.vs⟩
/-- Bytes that were just written out are put behind. -/
theorem app_new {w : World} {base n : Nat} {v : Value} {f : M} (A : Array Value) (m : Nat) (h : OwnB w base v n f) (hx : ∀ j, j < m → A[j]? = some (.int .u8 (f (n + j)))) (hb : base ≤ w.heap.size) (hn : n + m < 1000000) :
  ∃ v' w', (Builtin.append_ #[31, 31] 31 #[v, .slice (some ⟨w.heap.size, 0, none⟩) m m]).run Try.prog (w.alloc (.cells A 5)) = .ok v' w' ∧ OwnB w' base v' (n + m) f ∧ Below base w w' := by
 obtain ⟨v', w', h1, h2, h3⟩ := app_bs (w := w.alloc (.cells A 5)) w.heap.size 0 m m (OwnB.below h (own1 w _)) (fun j hj => by
  rw [Nat.zero_add, (Has.new w A 5).2.1 j]; exact hx j hj) (by simp; omega) hn
 exact ⟨v', w', h1, h2, ((Below.refl base w).alloc hb _).trans h3⟩
theorem mk_own {w : World} {base : Nat} (f : M) (hb : base ≤ w.heap.size) : ∃ w', (Instr.makeSlice 31 (.int .i64 0) (.int .i64 31408)).run Try.prog w = .ok (.slice (some ⟨w.heap.size, 0, none⟩) 0 31408) w' ∧ OwnB w' base (.slice (some ⟨w.heap.size, 0, none⟩) 0 31408) 0 f ∧ Below base w w' := by
 obtain ⟨i0, hi, hz0, hz1, hz2⟩ := info_parts infoB
 obtain ⟨w', h1, h2, h3⟩ := run_make_own (P := Try.prog) w base 31 5 i0 _ 1 Try.underlying31 hi hz0 hz1 .i64 .i64 31408 (by rw [hz2]; decide) (by decide) hb
 refine ⟨w', h1, by show w'.ownsRow base 5 1 _ 0 (bl f 0); rw [bl0]; exact h2, ?_⟩
 exact (Below.refl base w).grown h3 hb (fun k hk => by cases hk)
theorem OwnB.slice2 {w : World} {base n : Nat} {v : Value} {f : M} (h : OwnB w base v n f) (h0 : 0 < n) : ∃ g c, v = .slice (some ⟨g, 0, none⟩) n c := by
 rcases h.2 with ⟨rfl, rfl⟩ | ⟨b, cap, cur, rfl, _⟩
 ·omega
 ·exact ⟨b, cap, rfl⟩
set_option maxHeartbeats 1000000 in
theorem unum_t  (w : World) : Calls Try.prog 35 #[.bool true] w fun q_ w' => q_ = .returned (.int .u8 1) ∧ w' = w := by
 go_enter Try.func35, Try.ntmps35
 go_wp2
 all_goals exact bodyPost_ret (v := .int .u8 1) (by simp [results, Try.results35, go_sem]) rfl ⟨rfl, rfl⟩
set_option maxHeartbeats 1000000 in
theorem unum_f  (w : World) : Calls Try.prog 35 #[.bool false] w fun q_ w' => q_ = .returned (.int .u8 0) ∧ w' = w := by
 go_enter Try.func35, Try.ntmps35
 go_wp2
 all_goals exact bodyPost_ret (v := .int .u8 0) (by simp [results, Try.results35, go_sem]) rfl ⟨rfl, rfl⟩
theorem unum_c (z : Bool) (w : World) : Calls Try.prog 35 #[.bool z] w fun q_ w' => q_ = .returned (.int .u8 (tf z)) ∧ w' = w := by
 cases z
 ·exact unum_f w
 ·exact unum_t w
set_option maxHeartbeats 16000000 in
theorem enc_c (b : Nat) (m : M) (ok : Ok m) (w : World) (h : Has w b (encU m)) : Calls Try.prog 17 #[.pointer (some ⟨b, 0, none⟩)] w (EncE (encF m) w.heap.size w) := by
 suffices hall : ∀ (n_ : Nat) (W0 : World), n_ ≤ W0.heap.size → Below n_ W0 w → Has W0 b (encU m) → b < n_ → Calls Try.prog 17 #[.pointer (some ⟨b, 0, none⟩)] w (EncE (encF m) n_ W0) from hall _ _ (Nat.le_refl _) (Below.refl _ _) h h.1
 clear h
 intro n_ W0 hn hB hP q1
 have HN := Lib.hid hn
 have B0 := Lib.hid hB
 have PW := Lib.hid hP
 have Q1 := Lib.hid q1
 clear hn hB hP q1
 obtain ⟨u0, hu0⟩ : ∃ u0, u0 = w := ⟨_, rfl⟩
 rw [← hu0] at B0 ⊢
 clear hu0
 obtain ⟨f, hf⟩ : ∃ f, f = encF m := ⟨_, rfl⟩
 have FL := Lib.hid (show ∀ i, i < 8365 → f i = m i from fun i hi => by rw [hf]; exact encF_lo m i hi)
 have FH := Lib.hid (show ∀ i, 8366 ≤ i → f (i + 1) = m i from fun i hi => by rw [hf]; exact encF_hi m i hi)
 have FA := Lib.hid (show f 8365 = m 8365 % 256 by rw [hf]; rfl)
 have FB := Lib.hid (show f 8366 = m 8365 / 256 by rw [hf]; rfl)
 rw [← hf]
 clear hf
 obtain ⟨d, hd⟩ : ∃ x, m 8363 = x := ⟨_, rfl⟩
 have bd := ok.byte 8363 (by decide) (by decide)
 rw [hd] at bd
 have Hd := Lib.hid hd
 clear hd
 obtain ⟨ow, how⟩ : ∃ x, m 8364 = x := ⟨_, rfl⟩
 have bow := ok.byte 8364 (by decide) (by decide)
 rw [how] at bow
 have How := Lib.hid how
 clear how
 obtain ⟨fr, hfr⟩ : ∃ x, m 8365 = x := ⟨_, rfl⟩
 have bfr := ok.fr
 rw [hfr] at bfr
 have Hfr := Lib.hid hfr
 clear hfr
 obtain ⟨ac, hac⟩ : ∃ x, decide (m 8366 ≠ 0) = x := ⟨_, rfl⟩
 have Hac := Lib.hid hac
 have Tac := Lib.hid (show tf ac = m 8366 by rw [← hac]; rcases ok.act with q | q <;> rw [q] <;> rfl)
 clear hac
 have OK := Lib.hid ok
 clear ok
 go_enter Try.func17, Try.ntmps17
 obtain ⟨u1, hr, ho, hb⟩ := mk_own (w := u0) f (Nat.le_trans HN.out B0.out.size)
 have mk0 := hr
 go_upto_region 4 with (fail)
 clear mk0 hr
 have R1 := Lib.hid (show OwnB u1 n_ _ 0 f from ho)
 have B1 := Lib.hid (B0.out.trans hb)
 clear ho hb B0
 obtain ⟨g0, hg0⟩ : ∃ g, g = u0.heap.size := ⟨_, rfl⟩
 rw [← hg0] at R1 ⊢
 clear hg0
 obtain ⟨v2, u2, hr, ho, hb⟩ := app_bs b 0 8192 8192 R1.out (fun j hj => by
   rw [(PW.out.at Q1.out HN.out B1.out).2.1, encU_u _ _ (by omega) (by omega) (by omega), FL.out _ (by omega)]
   try rw [Nat.zero_add]) (Nat.le_trans HN.out B1.out.size) (by omega)
 have RUN := Lib.hid hr
 clear hr
 go_wp2_with (fail)
 refine wp_append_run _ _ _ (.slice (some ⟨g0, 0, none⟩) 0 31408) (.slice (some ⟨b, 0, none⟩) 8192 8192) _ rfl rfl rfl RUN.out ?_
 have R2 := Lib.hid (show OwnB u2 n_ v2 (8192) f from ho)
 have B2 := Lib.hid (B1.out.trans hb)
 clear ho hb RUN R1 B1
 try simp only [Act.put, qqA, qqB, qqC]
 obtain ⟨g_2, c_2, eV⟩ := OwnB.slice2 R2.out (by omega)
 subst eV
 obtain ⟨v3, u3, hr, ho, hb⟩ := app_bs b 8192 160 160 R2.out (fun j hj => by
   rw [(PW.out.at Q1.out HN.out B2.out).2.1, encU_u _ _ (by omega) (by omega) (by omega), FL.out _ (by omega)]
   try rw [Nat.zero_add]) (Nat.le_trans HN.out B2.out.size) (by omega)
 have RUN := Lib.hid hr
 clear hr
 go_wp2_with (fail)
 refine wp_append_run _ _ _ (.slice (some ⟨g_2, 0, none⟩) 8192 c_2) (.slice (some ⟨b, 8192, none⟩) 160 160) _ rfl rfl rfl RUN.out ?_
 have R3 := Lib.hid (show OwnB u3 n_ v3 (8352) f from ho)
 have B3 := Lib.hid (B2.out.trans hb)
 clear ho hb RUN R2 B2
 try simp only [Act.put, qqA, qqB, qqC]
 obtain ⟨g_3, c_3, eV⟩ := OwnB.slice2 R3.out (by omega)
 subst eV
 obtain ⟨v4, u4, hr, ho, hb⟩ := app_bs b 8352 11 11 R3.out (fun j hj => by
   rw [(PW.out.at Q1.out HN.out B3.out).2.1, encU_u _ _ (by omega) (by omega) (by omega), FL.out _ (by omega)]
   try rw [Nat.zero_add]) (Nat.le_trans HN.out B3.out.size) (by omega)
 have RUN := Lib.hid hr
 clear hr
 go_wp2_with (fail)
 refine wp_append_run _ _ _ (.slice (some ⟨g_3, 0, none⟩) 8352 c_3) (.slice (some ⟨b, 8352, none⟩) 11 11) _ rfl rfl rfl RUN.out ?_
 have R4 := Lib.hid (show OwnB u4 n_ v4 (8363) f from ho)
 have B4 := Lib.hid (B3.out.trans hb)
 clear ho hb RUN R3 B3
 try simp only [Act.put, qqA, qqB, qqC]
 have A5 := Lib.hid (show ∀ j, j < 5 → (#[.int .u8 d, .int .u8 ow, .int .u8 (fr % 256), .int .u8 (fr / 256), .int .u8 (tf ac)] : Array Value)[j]? = some (.int .u8 (f (8363 + j))) from fun j hj => by
  match j, hj with
  | 0, _ => exact congrArg (fun x => some (Value.int .u8 x)) ((FL.out 8363 (by decide)).trans Hd.out).symm
  | 1, _ => exact congrArg (fun x => some (Value.int .u8 x)) ((FL.out 8364 (by decide)).trans How.out).symm
  | 2, _ => exact congrArg (fun x => some (Value.int .u8 x)) (FA.out.trans (by rw [Hfr.out])).symm
  | 3, _ => exact congrArg (fun x => some (Value.int .u8 x)) (FB.out.trans (by rw [Hfr.out])).symm
  | 4, _ => exact congrArg (fun x => some (Value.int .u8 x)) (Tac.out.trans (FH.out 8366 (by decide)).symm))
 have w1 : IntKind.u8.wrap fr = fr % 256 := by rw [IntKind.wrap_u8]
 have w3 : IntKind.u8.wrap (fr / 256) = fr / 256 := by rw [IntKind.wrap_u8]; omega
 go_upto_region 7 with (fail)
 have B5 := Lib.hid B4.out.drew
 have R5 := Lib.hid (OwnB.below R4.out (Below.refl _ _).drew)
 clear B4 R4
 obtain ⟨g_, c_, eV⟩ := OwnB.slice2 R5.out (by omega)
 subst eV
 have e_d : (encU (m))[8363]? = some (.int .u8 d) := (encU_u _ 8363 (by decide) (by decide) (by decide)).trans (congrArg (fun x => some (Value.int .u8 x)) (Hd.out))
 have e_ow : (encU (m))[8364]? = some (.int .u8 ow) := (encU_u _ 8364 (by decide) (by decide) (by decide)).trans (congrArg (fun x => some (Value.int .u8 x)) (How.out))
 have e_fr : (encU (m))[8365]? = some (.int .u16 fr) := (encU_f _).trans (congrArg (fun x => some (Value.int .u16 x)) (Hfr.out))
 have e_ac : (encU (m))[8366]? = some (.bool ac) := (encU_s _).trans (congrArg (fun x => some (Value.bool x)) (Hac.out))
 refine wp_region_held_drew (S := (fun w' => ∀ o, w'.cell? ⟨b, o, none⟩ = (encU m)[o]?)) (by kernel_rfl) (PW.out.at Q1.out HN.out B5.out).2.1 (fun hHeld => ?_)
 generalize World.drew _ = u5 at hHeld B5 R5 ⊢
 refine tzz 0 ?_
 refine tzz 1 ?_
 refine tzz 2 ?_
 refine tzz 3 ?_
 refine tzz 4 ?_
 refine tzz 5 ?_
 refine tzz 6 ?_
 refine tzz 7 ?_
 refine tzz 8 ?_
 refine tzz 9 ?_
 refine tzz 10 ?_
 refine tzz 11 ?_
 refine tzz 12 ?_
 refine tzz 13 ?_
 refine tzz 14 ?_
 refine tzz 15 ?_
 refine tzz 16 ?_
 refine tzz 17 ?_
 refine tzz 18 ?_
 refine tzz 19 ?_
 refine tzz 20 ?_
 refine tzz 21 ?_
 refine tzz 22 ?_
 refine tzz 23 ?_
 refine wpAnyH_ready (rs := [24]) (by kernel_rfl) (by simp) ?_
 refine (acc rfl (fun K hK => ?_) AllReadyH.nil)
 ·skip
  go_simp
  with_reducible refine (unum_c ac _).mono ?_
  rintro q_ u6 ⟨rfl, hb⟩
  subst hb
  have B6 := B5
  have R6 := R5
  clear B5 R5
  refine hK.out _ _ ?s25 (fun hNew => ?r25)
  case s25 => exact (PW.out.at Q1.out HN.out B6.out).2.1
  clear hK K hHeld
  have hHeld := hNew
  clear hNew
  refine wpAnyH_ready (rs := [25]) (by kernel_rfl) (by simp) ?_
  refine (acc rfl (fun K hK => ?_) AllReadyH.nil)
  ·skip
   obtain ⟨v9, u9, hr, ho, hb⟩ := app_new #[.int .u8 d, .int .u8 ow, .int .u8 (fr % 256), .int .u8 (fr / 256), .int .u8 (tf ac)] 5 R6.out A5.out (Nat.le_trans HN.out B6.out.size) (by omega)
   have RUN := Lib.hid hr
   clear hr
   go_simp
   have B7 := Lib.hid (vian HN.out B6.out (own1 _ (.cells #[.int .u8 d, .int .u8 ow, .int .u8 (fr % 256), .int .u8 (fr / 256), .int .u8 (tf ac)] 5)))
   have B9 := Lib.hid (B6.out.trans hb)
   have R9 := Lib.hid (show OwnB u9 n_ v9 8368 f from ho)
   clear ho hb B6 R6
   refine hK.out _ _ ?s26 (fun hNew => ?r26)
   case s26 => exact (PW.out.at Q1.out HN.out B7.out).2.1
   clear hK K hHeld
   have hHeld := hNew
   clear hNew
   refine wpAnyH_ready (rs := [26]) (by kernel_rfl) (by simp) ?_
   refine (acc rfl (fun K hK => ?_) AllReadyH.nil)
   ·skip
    refine wp_append_run _ _ _ (.slice (some ⟨g_, 0, none⟩) 8363 c_) (.slice (some ⟨u6.heap.size, 0, none⟩) 5 5) _ rfl rfl rfl RUN.out ?_
    try simp only [Act.put, qqA, qqB, qqC]
    refine hK.out _ _ ?s27 (fun hNew => ?r27)
    case s27 => exact (PW.out.at Q1.out HN.out B9.out).2.1
    clear hK K hHeld
    have hHeld := hNew
    clear hNew
    refine tzz 27 ?_
    refine wpAnyH_done (by kernel_rfl) ?_ _
    clear hHeld RUN
    clear e_d e_ow e_fr e_ac w1 w3
    go_wp2
    go_loopg [3, 53] 144 (fun g' vv i wr => ∃ (t : Nat) (V : Value), t ≤ 144 ∧ g' + t = 144 ∧ vv = V ∧ i = .int .i64 t ∧ Below n_ W0 wr ∧ OwnB wr n_ V (8368 + 160 * t) f)
    case atStart => exact ⟨0, _, by omega, by omega, rfl, rfl, B9.out, R9.out⟩
    case round =>
     obtain ⟨u20, hu⟩ : ∃ q_, q_ = wr := ⟨_, rfl⟩
     subst hu
     obtain ⟨t, VV_, ht, hg, rfl, rfl, hB, hR⟩ := hrel
     have TG := Lib.hid hg
     have B20 := Lib.hid hB
     have R20 := Lib.hid hR
     clear hg hB hR B9 R9
     by_cases hlt : t < 144
     ·have l1 : (t : Int) < 144 := by omega
      obtain ⟨g_20, c_20, eV⟩ := OwnB.slice2 R20.out (by omega)
      subst eV
      obtain ⟨v21, u21, hr, ho, hb⟩ := app_bs b (8367 + t * 160) 160 160 R20.out (fun j hj => by
        rw [(PW.out.at Q1.out HN.out B20.out).2.1, encU_u _ _ (by omega) (by omega) (by omega), show 8368 + 160 * t + j = (8367 + t * 160 + j) + 1 by omega, FH.out _ (by omega)]) (Nat.le_trans HN.out B20.out.size) (by omega)
      have RUN := Lib.hid hr
      clear hr
      go_wp2_with (fail)
      refine wp_append_run _ _ _ (.slice (some ⟨g_20, 0, none⟩) (8368 + 160 * t) c_20) (.slice (some ⟨b, 8367 + t * 160, none⟩) 160 160) _ rfl rfl rfl RUN.out ?_
      have R21 := Lib.hid (show OwnB u21 n_ v21 (8368 + 160 * t + 160) f from ho)
      have B21 := Lib.hid (B20.out.trans hb)
      clear ho hb RUN R20 B20
      try simp only [Act.put, qqA, qqB, qqC]
      go_wp2
      go_roundg (gk - 1)
      ·exact ⟨t + 1, _, by omega, by have := TG.out; omega, rfl, by simp, B21.out, by have := R21.out; rwa [show 8368 + 160 * t + 160 = 8368 + 160 * (t + 1) by omega] at this⟩
      case measure => have := TG.out; omega
     ·obtain rfl : 144 = t := by omega
      go_wp2
      go_ret
      exact encE_mk R20.out B20.out
end Go.Proofs.Ytpfbodmadmneiaa
