/-
  Proved: for every two bytes, flags, a kind and a word, the law AluFlags returns true (Rows.AluFlagsSaid), with no condition.
-/
import Derived.Test.YtiodaonehbkgcaaRows
import Derived.WalkKit
import Derived.ProofKit
import Derived.OpenShut
import Derived.Test.YtiodaonehbkgcaaAlu
import Derived.Test.YtiodaonehbkgcaaBase
namespace Go.Proofs.Ytiodaonehbkgcaa.aluFlags
open Go.ChangeShapes Go.WideShapes Go.ChangeAt Go.RowKit
set_option linter.unusedVariables false      -- a walk need not use every 'w<i>' (that an integer argument fits its kind)

theorem Try.info5 : (Try.prog.info? 5).map (fun i => (i.zero, i.size, i.bytes)) = some (some (.int .u8 0), 1, 1) := by kernel_rfl
theorem four_cells (w : World) (x0 x1 x2 x3 : Value) : ∀ (j : Nat) (u : Value), [x0, x1, x2, x3][j]? = some u → (w.alloc (Obj.cells #[x0, x1, x2, x3] 5)).cell? ((⟨w.heap.size, 0, none⟩ : Addr).add j) = some u := by
  intro j u hj
  match j, hj with
  | 0, hj => simp at hj; subst hj; simp [Addr.add]
  | 1, hj => simp at hj; subst hj; simp [Addr.add]
  | 2, hj => simp at hj; subst hj; simp [Addr.add]
  | 3, hj => simp at hj; subst hj; simp [Addr.add]
theorem five_cells (w : World) (x0 x1 x2 x3 x4 : Value) : ∀ (j : Nat) (u : Value), [x0, x1, x2, x3, x4][j]? = some u → (w.alloc (Obj.cells #[x0, x1, x2, x3, x4] 5)).cell? ((⟨w.heap.size, 0, none⟩ : Addr).add j) = some u := by
  intro j u hj
  match j, hj with
  | 0, hj => simp at hj; subst hj; simp [Addr.add]
  | 1, hj => simp at hj; subst hj; simp [Addr.add]
  | 2, hj => simp at hj; subst hj; simp [Addr.add]
  | 3, hj => simp at hj; subst hj; simp [Addr.add]
  | 4, hj => simp at hj; subst hj; simp [Addr.add]
theorem own9 {w : World} {base : Nat} {v : Value} {fs : List Int} (hl : fs.length = 9) (h : w.ownsRow base 5 1 v 9 (fs.map (Value.int .u8))) :
    ∃ g cap, v = .slice (some ⟨g, 0, none⟩) 9 cap ∧ ∀ j, j < 9 → w.cell? ⟨g, j, none⟩ = some (.int .u8 (fs.getD j 0)) := by
  rcases h.2 with ⟨_, h0⟩ | ⟨g, cap, cur, rfl, _⟩
  · exact absurd h0 (by decide)
  · refine ⟨g, cap, rfl, fun j hj => ?_⟩
    rw [h.cellAt j (by omega)]
    simp [List.getElem?_eq_getElem (show j < fs.length by omega)]
theorem FL_all (z n h c : Bool) : 0 ≤ FL z n h c ∧ FL z n h c < 256 ∧ FL z n h c % 16 = 0 := by have := FL_bd z n h c; omega
theorem all_flags (a b a2 a3 a4 : Int) (c : Bool) :
    ∀ j, j < 9 → 0 ≤ [addF a b c, subF a b c, incF a a2, decF a a2, daaF a a2, turnF a3 a a2, add16F a4 a a2, shiftF a4 b, bitF a3 a a2].getD j 0 ∧ [addF a b c, subF a b c, incF a a2, decF a a2, daaF a a2, turnF a3 a a2, add16F a4 a a2, shiftF a4 b, bitF a3 a a2].getD j 0 < 256 ∧ [addF a b c, subF a b c, incF a a2, decF a a2, daaF a a2, turnF a3 a a2, add16F a4 a a2, shiftF a4 b, bitF a3 a a2].getD j 0 % 16 = 0 := by
  intro j hj
  match j, hj with
  | 0, _ => exact FL_all _ _ _ _
  | 1, _ => exact FL_all _ _ _ _
  | 2, _ => exact FL_all _ _ _ _
  | 3, _ => exact FL_all _ _ _ _
  | 4, _ => exact FL_all _ _ _ _
  | 5, _ => exact FL_all _ _ _ _
  | 6, _ => exact FL_all _ _ _ _
  | 7, _ => exact FL_all _ _ _ _
  | 8, _ => exact FL_all _ _ _ _
theorem own : ownKnob Try.prog.godebug = none := by kernel_rfl

/-! ### STEP 1: THE WALK: the Go text returns true. Part the cases AHEAD of 'go_enter' where a test parts the walk; take each callee by a contract of your own. -/
set_option maxHeartbeats 2000000 in
theorem walk (a0 : Int) (a1 : Int) (a2 : Int) (a3 : Int) (a4 : Int) (w0 : (Lit.int .u8 a0).wf = true) (w1 : (Lit.int .u8 a1).wf = true) (w2 : (Lit.int .u8 a2).wf = true) (w3 : (Lit.int .i64 a3).wf = true) (w4 : (Lit.int .u16 a4).wf = true) (w : World) :
    Calls Try.prog 9 #[.int .u8 a0, .int .u8 a1, .int .u8 a2, .int .i64 a3, .int .u16 a4] w fun e w' => e = .returned (.bool true) ∧ Below w.heap.size w w' := by
  obtain ⟨p0, q0⟩ := u8_bd w0
  obtain ⟨p1, q1⟩ := u8_bd w1
  obtain ⟨p2, q2⟩ := u8_bd w2
  obtain ⟨p4, q4⟩ := u16_bd w4
  clear w0 w1 w2 w3 w4
  obtain ⟨i0, hi, hz0, hz1, hz2⟩ := info_parts Try.info5
  have hn := World.ownsRow_nil (w.alloc (.cells #[.int .u8 (addF a0 a1 (decide (9 < a2))), .int .u8 (subF a0 a1 (decide (9 < a2))), .int .u8 (incF a0 a2), .int .u8 (decF a0 a2)] 5)) w.heap.size 5 1
  have HN := Lib.hid hn
  clear hn
  go_enter Try.func9, Try.ntmps9
  go_wp2_with (first
    | (go_at_call 10; (with_reducible refine (awake_c _).mono ?_); rintro e w' ⟨rfl, rfl⟩)
    | (go_at_call 11; (with_reducible refine (add_c _ _ _ (by omega) (by omega) (by omega) (by omega) _).mono ?_); rintro e w' ⟨rfl, rfl⟩)
    | (go_at_call 13; (with_reducible refine (sub_c _ _ _ (by omega) (by omega) (by omega) (by omega) _).mono ?_); rintro e w' ⟨rfl, rfl⟩)
    | (go_at_call 19; (with_reducible refine (inc_c _ _ (by omega) (by omega) (by omega) (by omega) _).mono ?_); rintro e w' ⟨rfl, rfl⟩)
    | (go_at_call 21; (with_reducible refine (dec_c _ _ (by omega) (by omega) (by omega) (by omega) _).mono ?_); rintro e w' ⟨rfl, rfl⟩)
    | (at_builtin; refine wpList_append_own _ rfl _ _ 38 rfl w.heap.size 5 i0 (.int .u8 0) 1 1 Try.underlying38 hi hz0 hz1 hz2 rfl (by decide) _ _ _ rfl HN.out ⟨w.heap.size, 0, none⟩ 4 4 [.int .u8 (addF a0 a1 (decide (9 < a2))), .int .u8 (subF a0 a1 (decide (9 < a2))), .int .u8 (incF a0 a2), .int .u8 (decF a0 a2)] rfl rfl ?c1 ?c2 ?c3 ?c4 ?c5 ?_))
  case c1 => exact four_cells w _ _ _ _
  case c2 => intro u hu; simp at hu; rcases hu with rfl | rfl | rfl | rfl <;> rfl
  case c3 => unfold maxLen; omega
  case c4 => omega
  case c5 => simp
  intro v1 w1 hown1 hgrow1 _
  have B1 : Below w.heap.size w w1 := ((Below.refl _ _).alloc (Nat.le_refl _) _).grown hgrow1 (by simp) (fun k hk => by simp [Value.ownBlock] at hk)
  have O1 := Lib.hid hown1
  have HB1 := Lib.hid B1
  clear hown1 hgrow1 B1 HN
  go_wp2_with (first
    | (go_at_call 23; (with_reducible refine (daa_c _ _ (by omega) (by omega) (by omega) (by omega) _).mono ?_); rintro e w' ⟨rfl, rfl⟩)
    | (go_at_call 25; (with_reducible refine (turn_c _ _ _ (by omega) (by omega) (by omega) (by omega) _).mono ?_); rintro e w' ⟨rfl, rfl⟩)
    | (go_at_call 29; (with_reducible refine (add16_c _ _ _ (by omega) (by omega) (by omega) (by omega) (by omega) (by omega) _).mono ?_); rintro e w' ⟨rfl, rfl⟩)
    | (go_at_call 31; (with_reducible refine (shift16_c _ _ (by omega) (by omega) (by omega) (by omega) _).mono ?_); rintro e w' ⟨rfl, rfl⟩)
    | (go_at_call 27; (with_reducible refine (bit_c _ _ _ (by omega) (by omega) (by omega) (by omega) _).mono ?_); rintro e w' ⟨rfl, rfl⟩)
    | (at_builtin; refine wpList_append_own _ rfl _ _ 38 rfl w.heap.size 5 i0 (.int .u8 0) 1 1 Try.underlying38 hi hz0 hz1 hz2 rfl (by decide) _ _ _ rfl (O1.out.alloc _) ⟨w1.heap.size, 0, none⟩ 5 5 [.int .u8 (daaF a0 a2), .int .u8 (turnF a3 a0 a2), .int .u8 (add16F a4 a0 a2), .int .u8 (shiftF a4 a1), .int .u8 (bitF a3 a0 a2)] rfl rfl ?d1 ?d2 ?d3 ?d4 ?d5 ?_))
  case d1 => exact five_cells w1 _ _ _ _ _
  case d2 => intro u hu; simp at hu; rcases hu with rfl | rfl | rfl | rfl | rfl <;> rfl
  case d3 => unfold maxLen; omega
  case d4 => omega
  case d5 => have := HB1.out.size; simp; omega
  intro v2 w2 hown2 hgrow2 _
  have B2 : Below w.heap.size w w2 := (HB1.out.alloc HB1.out.size _).grown hgrow2 (by have := HB1.out.size; simp; omega) (fun k hk => (O1.out.lt k hk).1)
  obtain ⟨g, cap, hv, hcells⟩ := own9 (fs := [addF a0 a1 (decide (9 < a2)), subF a0 a1 (decide (9 < a2)), incF a0 a2, decF a0 a2, daaF a0 a2, turnF a3 a0 a2, add16F a4 a0 a2, shiftF a4 a1, bitF a3 a0 a2]) rfl hown2
  have HF : Hid (∀ j, j < 9 → 0 ≤ [addF a0 a1 (decide (9 < a2)), subF a0 a1 (decide (9 < a2)), incF a0 a2, decF a0 a2, daaF a0 a2, turnF a3 a0 a2, add16F a4 a0 a2, shiftF a4 a1, bitF a3 a0 a2].getD j 0 ∧ [addF a0 a1 (decide (9 < a2)), subF a0 a1 (decide (9 < a2)), incF a0 a2, decF a0 a2, daaF a0 a2, turnF a3 a0 a2, add16F a4 a0 a2, shiftF a4 a1, bitF a3 a0 a2].getD j 0 < 256 ∧ [addF a0 a1 (decide (9 < a2)), subF a0 a1 (decide (9 < a2)), incF a0 a2, decF a0 a2, daaF a0 a2, turnF a3 a0 a2, add16F a4 a0 a2, shiftF a4 a1, bitF a3 a0 a2].getD j 0 % 16 = 0) := all_flags a0 a1 a2 a3 a4 (decide (9 < a2))
  revert hcells HF
  generalize [addF a0 a1 (decide (9 < a2)), subF a0 a1 (decide (9 < a2)), incF a0 a2, decF a0 a2, daaF a0 a2, turnF a3 a0 a2, add16F a4 a0 a2, shiftF a4 a1, bitF a3 a0 a2] = fs
  intro hcells HF
  have HC := Lib.hid hcells
  have HB2 := Lib.hid B2
  clear hown2 hgrow2 B2 hcells O1 HB1
  rw [hv]
  clear hv
  go_wp2
  go_loop [98] (fun i => ∃ k : Nat, k ≤ 9 ∧ i = .int .i64 k) (fun i => 9 - (intOf i).toNat)
  case atStart => exact ⟨0, by omega, rfl⟩
  case round =>
    obtain ⟨k, hk, rfl⟩ := hrel
    by_cases hlt : k < 9
    · have hc := HC.out k hlt
      obtain ⟨x1, x2, x3⟩ := HF.out k hlt
      obtain ⟨x, hx⟩ : ∃ x, x = fs.getD k 0 := ⟨_, rfl⟩
      rw [← hx] at hc x1 x2 x3
      clear hx
      go_wp2
      go_round
      case rel => exact ⟨k + 1, by omega, by go_num⟩
      case measure => simp [intOf]; omega
    · obtain rfl : k = 9 := by omega
      go_wp2
      go_ret
      exact ⟨rfl, HB2.out⟩

/-! ### THE ROW's STEP: WRITTEN OUT: LEAVE IT -/
set_option maxRecDepth 100000 in
theorem lifted (os : Os) (started : os.Started) (H : Type) (enc : TypeId × Value → H) :
    ReturnsInHanded {} Try.checked os 9 .any (Rows.aluFlagsSpec.pre6 enc Try.prog Try.f9 Rows.aluFlagsRow.domain false) (Rows.aluFlagsSpec.post enc Try.prog Try.f9 false true false false) := by
  refine returnsInHanded_of_change (C := Try.checked) own started (by kernel_rfl) Try.func9
    (ChangeSpec.witness6 (enc := enc) (C := Try.checked) false ⟨#[], #[.int .u8 0, .int .u8 0, .int .u8 0, .int .i64 0, .int .u16 0], []⟩ 8 (by kernel_rfl) (by kernel_rfl) (by kernel_rfl) (by kernel_rfl)) ?_
  intro W base args ds gs before hval0 hW hcnd _
  have hval : ∀ (j : Nat) t v, Try.f9.params[j]? = some t → args[j]? = some v → Value.okWide Try.prog W .any base t v := hval0
  have hW' := hW
  obtain ⟨p, q, hA0, hV, rfl, hfz, hnd⟩ := hW
  have hA : DataW.TrodAll enc Try.prog W 0 (fun _ => true) true Try.f9.params.toList args.toList ds p := hA0
  rw [Try.params9] at hA hval
  obtain ⟨v0, vs0, d0, ds0, p0, q0, hargs, rfl, rfl, h0, r0⟩ := trodAll_cons hA
  obtain ⟨v1, vs1, d1, ds1, p1, q1, rfl, rfl, rfl, h1, r1⟩ := trodAll_cons r0
  obtain ⟨v2, vs2, d2, ds2, p2, q2, rfl, rfl, rfl, h2, r2⟩ := trodAll_cons r1
  obtain ⟨v3, vs3, d3, ds3, p3, q3, rfl, rfl, rfl, h3, r3⟩ := trodAll_cons r2
  obtain ⟨v4, vs4, d4, ds4, p4, q4, rfl, rfl, rfl, h4, r4⟩ := trodAll_cons r3
  obtain ⟨rfl, rfl, rfl⟩ := trodAll_nil r4
  obtain rfl : args = #[v0, v1, v2, v3, v4] := by cases args; simp_all
  obtain ⟨rfl, rfl⟩ := trodVars_none hV
  obtain ⟨a0, rfl, rfl, rfl, w0⟩ := open_int Try.underlying5 (hval 0 5 v0 rfl rfl) h0
  obtain ⟨a1, rfl, rfl, rfl, w1⟩ := open_int Try.underlying5 (hval 1 5 v1 rfl rfl) h1
  obtain ⟨a2, rfl, rfl, rfl, w2⟩ := open_int Try.underlying5 (hval 2 5 v2 rfl rfl) h2
  obtain ⟨a3, rfl, rfl, rfl, w3⟩ := open_int Try.underlying3 (hval 3 3 v3 rfl rfl) h3
  obtain ⟨a4, rfl, rfl, rfl, w4⟩ := open_int Try.underlying30 (hval 4 30 v4 rfl rfl) h4
  clear hA0 hval0
  simp only [List.append_nil] at hW'
  refine (walk a0 a1 a2 a3 a4 w0 w1 w2 w3 w4 W).mono fun e W' ⟨he, hg⟩ => ?_
  subst he
  exact ⟨_, rfl, _, _, _, [], [], [], hW', (trodAll_cons_mk (shut_bool Try.underlying4 _) trodAll_mk0), (trodAll_cons_mk (shut_int Try.underlying5 w0) (trodAll_cons_mk (shut_int Try.underlying5 w1) (trodAll_cons_mk (shut_int Try.underlying5 w2) (trodAll_cons_mk (shut_int Try.underlying3 w3) (trodAll_cons_mk (shut_int Try.underlying30 w4) trodAll_mk0))))), rfl, hg.frame _, fun h => by cases h⟩

theorem over : Rows.aluFlagsRow.holds Try.pinned (OpenSpec.ofChange Rows.aluFlagsSpec) :=
  OpenClaim.holds_of_wide 9 Try.f9 rfl rfl rfl rfl rfl rfl rfl ⟨rfl, rfl, rfl, rfl, rfl⟩ rfl rfl rfl rfl rfl (by kernel_rfl) Try.func9 (by kernel_rfl)
    (of_decide_eq_true (by kernel_rfl)) (by unfold Func.isWrapper; first | (rw [if_pos (by decide +kernel)]; kernel_rfl) | (rw [if_neg (by decide +kernel)]; exact ⟨rfl, rfl⟩))
    (fun os started H enc _ => lifted os started H enc)

/-- ████ THE STATEMENT ████ -/
theorem proved : Rows.AluFlagsSaid :=
  over
#print axioms proved
end Go.Proofs.Ytiodaonehbkgcaa.aluFlags
