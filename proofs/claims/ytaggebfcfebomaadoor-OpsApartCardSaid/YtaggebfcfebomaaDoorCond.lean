/-
  What ops.list, ops.at and ops.conditional return: for every world and every number.
-/
import Derived.Test.YtaggebfcfebomaaDoorMn
import Derived.Deep.AppendSrc
namespace Go.Proofs.YtaggebfcfebomaaDoor
open Go.ChangeShapes Go.WideShapes Go.ChangeAt Go.RowKit
set_option linter.unusedVariables false

/-- A slice of texts. -/
def IsL (w : World) (v : Value) (l : List (List UInt8)) : Prop := (l = [] ∧ v = .slice none 0 0) ∨ (∃ b c, v = .slice (some ⟨b, 0, none⟩) l.length c ∧ l.length ≤ c ∧ 0 < l.length ∧ Texts w b l)
/-- A slice of texts is returned, and nothing else is touched. -/
def RetL (w : World) (l : List (List UInt8)) (e : Ending) (w' : World) : Prop := ∃ v, e = .returned v ∧ IsL w' v l ∧ Below w.heap.size w w'
theorem IsL.below {w w' : World} {v : Value} {l : List (List UInt8)} (h : IsL w v l) (hb : Below w.heap.size w w') : IsL w' v l :=
  h.imp id fun ⟨b, c, h1, h2, h3, h4⟩ => ⟨b, c, h1, h2, h3, h4.below hb⟩
theorem list_c (v : Value) (w : World) : Calls Tryd.prog 43 #[v] w fun e w' => e = .returned v ∧ w = w' := by
  go_enter Tryd.func43, Tryd.ntmps43
  go_wp2
  go_ret
  exact ⟨rfl, rfl⟩
theorem cat (a b : List UInt8) : (⟨a.toArray⟩ : ByteArray) ++ ⟨b.toArray⟩ = ⟨(a ++ b).toArray⟩ := by
  apply ByteArray.ext
  simp
theorem at_c (L : List UInt8) (hL : L.length ≤ 100) (w : World) : Calls Tryd.prog 62 #[.string ⟨(L).toArray⟩] w fun e w' => e = .returned (.string ⟨(40 :: (L ++ [41])).toArray⟩) ∧ w = w' := by
  have q1 : ¬ 9223372036854775807 < 1 + L.length := by omega
  have q2 : ¬ 9223372036854775807 < 1 + L.length + 1 := by omega
  go_enter Tryd.func62, Tryd.ntmps62
  go_wp2
  go_ret
  rw [cat, cat]
  exact ⟨rfl, rfl⟩
theorem cond4_c (v : Value) (w : World) : Calls Tryd.prog 49 #[.int .i64 4, v] w fun e w' => e = .returned v ∧ w = w' := by
  go_enter Tryd.func49, Tryd.ntmps49
  go_wp2
  go_ret
  exact ⟨rfl, rfl⟩
theorem i9 : (Tryd.prog.info? 9).map (fun i => (i.size, i.bytes, i.zero)) = some (1, 16, some (.string ⟨#[]⟩)) := by kernel_rfl
theorem info9 : ∃ i, Tryd.prog.info? 9 = some i ∧ i.size = 1 ∧ i.zero = some (.string ⟨#[]⟩) ∧ i.bytes = 16 := by
  have h := i9
  cases e : Tryd.prog.info? 9 with
  | none => rw [e] at h; simp at h
  | some i =>
    rw [e] at h
    simp at h
    exact ⟨i, rfl, h.1, h.2.2, h.2.1⟩
theorem app0 (b : Nat) (W : World) : (Builtin.append_ #[59, 59] 59 #[.slice (some ⟨b, 0, none⟩) 1 1, .slice none 0 0]).run Tryd.prog W = .ok (.slice (some ⟨b, 0, none⟩) 1 1) W := by
  obtain ⟨i, hi, h1, hz, hb⟩ := info9
  have := run_append_room_src (P := Tryd.prog) W 59 59 59 9 i Tryd.underlying59 hi b 0 1 1 (.slice none 0 0) 0 [] (Src.ofNil W Tryd.underlying59 0) (by omega) (fun j hj => absurd hj (by simp)) (fun j hj => absurd hj (by simp))
  simpa [World.setCells] using this
set_option maxRecDepth 100000 in
set_option maxHeartbeats 2000000 in
theorem cond0_c (x : Int) (hx : (x == 4) = false) (w : World) : Calls Tryd.prog 49 #[.int .i64 x, .slice none 0 0] w (RetL w [pickL x condN]) := by
  have ha := app0
  go_enter Tryd.func49, Tryd.ntmps49
  go_wp2_with fail
  refine (pick_c x condN w.heap.size 4 rfl (by omega) _ (Texts.new w _ _ rfl _)).mono ?_
  rintro e w' ⟨rfl, rfl⟩
  go_wp2_with (go_at_call 43; (with_reducible refine (list_c _ _).mono ?_); rintro e w' ⟨rfl, rfl⟩)
  go_ret
  exact ⟨_, rfl, Or.inr ⟨w.heap.size + 1, 1, rfl, Nat.le_refl _, Nat.le_refl _, Texts.newB (w.alloc _) [pickL x condN] _ rfl _ _ (by simp)⟩, own2 _ _ _⟩
set_option maxRecDepth 100000 in
set_option maxHeartbeats 2000000 in
theorem cond1_c (x : Int) (hx : (x == 4) = false) (c : Nat) (B : List UInt8) (w : World) (hc : Texts w c [B]) : Calls Tryd.prog 49 #[.int .i64 x, .slice (some ⟨c, 0, none⟩) 1 1] w (RetL w [pickL x condN, B]) := by
  have H := Lib.hid hc
  clear hc
  go_enter Tryd.func49, Tryd.ntmps49
  go_wp2_with fail
  refine (pick_c x condN w.heap.size 4 rfl (by omega) _ (Texts.new w _ _ rfl _)).mono ?_
  rintro e w' ⟨rfl, rfl⟩
  have hB := own1 w (.cells (condN.map fun x => Value.string ⟨x.toArray⟩).toArray 9)
  have H1 := Lib.hid (H.out.below hB)
  have B1 := Lib.hid hB
  clear H hB
  generalize w.alloc (.cells (condN.map fun x => Value.string ⟨x.toArray⟩).toArray 9) = V at H1 B1 ⊢
  have hcell : (V.alloc (.cells #[.string ⟨(pickL x condN).toArray⟩] 9)).cell? ⟨c, 0, none⟩ = some (.string ⟨(B).toArray⟩) := (H1.out.below (own1 _ _)).2 0 (by simp)
  clear H1
  go_wp2_with (go_at_call 43; (with_reducible refine (list_c _ _).mono ?_); rintro e w' ⟨rfl, rfl⟩)
  go_ret
  have g := grownCap_ge V 2 1 9
  unfold grownCap at g
  generalize (Question.appendCap 2 1 9).cut (V.tape V.drawn (Question.appendCap 2 1 9)) = cap at g ⊢
  refine ⟨_, rfl, Or.inr ⟨V.heap.size + 1, cap, rfl, g, by simp, ?_⟩, via B1.out (own2 V _ _).drew⟩
  have h := (Has.new (V.alloc (.cells #[.string ⟨(pickL x condN).toArray⟩] 9)) (#[.string ⟨(pickL x condN).toArray⟩, .string ⟨(B).toArray⟩] ++ Builtin.zeroCells #[.string ⟨#[]⟩] (cap - 2)) 9).drew
  refine ⟨by simp, fun j hj => ?_⟩
  have hj2 : j = 0 ∨ j = 1 := by simp at hj; omega
  have hs : (V.alloc (.cells #[.string ⟨(pickL x condN).toArray⟩] 9)).heap.size = V.heap.size + 1 := by simp
  rw [hs] at h
  rcases hj2 with rfl | rfl
  · exact (h.2.1 0).trans (by rw [Array.getElem?_append_left (by simp)]; rfl)
  · exact (h.2.1 1).trans (by rw [Array.getElem?_append_left (by simp)]; rfl)
/-- Operands behind a condition, which is not told if it always holds. -/
def condL (x : Int) (l : List (List UInt8)) : List (List UInt8) := if x = 4 then l else pickL x condN :: l
theorem condN_c (x : Int) (w : World) : Calls Tryd.prog 49 #[.int .i64 x, .slice none 0 0] w (RetL w (condL x [])) := by
  by_cases h : x = 4
  · subst h
    exact (cond4_c _ w).mono fun e w' ⟨h1, h2⟩ => ⟨_, h1, Or.inl ⟨rfl, rfl⟩, h2 ▸ Below.refl _ _⟩
  · have e : condL x [] = [pickL x condN] := if_neg h
    rw [e]
    exact cond0_c x (by simpa using h) w
theorem condA_c (x : Int) (c : Nat) (B : List UInt8) (w : World) (hc : Texts w c [B]) : Calls Tryd.prog 49 #[.int .i64 x, .slice (some ⟨c, 0, none⟩) 1 1] w (RetL w (condL x [B])) := by
  by_cases h : x = 4
  · subst h
    exact (cond4_c _ w).mono fun e w' ⟨h1, h2⟩ => ⟨_, h1, Or.inr ⟨c, 1, rfl, Nat.le_refl _, Nat.le_refl _, h2 ▸ hc⟩, h2 ▸ Below.refl _ _⟩
  · have e : condL x [B] = [pickL x condN, B] := if_neg h
    rw [e]
    exact cond1_c x (by simpa using h) c B w hc
theorem RetL.via {w W : World} {l : List (List UInt8)} (h1 : Below w.heap.size w W) {e : Ending} {w' : World} (h : RetL W l e w') : RetL w l e w' :=
  let ⟨v, h2, h3, h4⟩ := h
  ⟨v, h2, h3, YtaggebfcfebomaaDoor.via h1 h4⟩
end Go.Proofs.YtaggebfcfebomaaDoor
