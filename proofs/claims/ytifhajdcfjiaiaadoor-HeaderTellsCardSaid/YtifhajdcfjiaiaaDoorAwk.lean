/-
  Bytes as a value, the program's calls on them, and the first test of each law (awake): for every world in which the two tables lie as told; no other condition.
-/
import Derived.Test.YtifhajdcfjiaiaaDoorPar
import Derived.Test.YtifhajdcfjiaiaaDoorMade
namespace Go.Proofs.YtifhajdcfjiaiaaDoor
open Go.ChangeShapes Go.WideShapes Go.ChangeAt Go.RowKit
set_option linter.unusedVariables false
set_option maxRecDepth 100000
/-- The value v is a slice of n bytes f. -/
def By (w : World) (v : Value) (n : Nat) (f : Nat → Int) : Prop := n < 2147483648 ∧ okB f ∧ ((n < 336 ∧ ∃ a c, v = .slice a n c) ∨ (336 ≤ n ∧ ∃ b o c, v = .slice (some ⟨b, o, none⟩) n c ∧ n ≤ c ∧ b < w.heap.size ∧ Rd w b o n f))
theorem By.below {w w' : World} {v : Value} {n : Nat} {f : Nat → Int} (h : By w v n f) (hb : Below w.heap.size w w') : By w' v n f := by
  obtain ⟨h1, h2, h3 | ⟨h0, b, o, c, e, hc, hl, hr⟩⟩ := h
  · exact ⟨h1, h2, Or.inl h3⟩
  · exact ⟨h1, h2, Or.inr ⟨h0, b, o, c, e, hc, Nat.lt_of_lt_of_le hl hb.size, hr.below hl hb⟩⟩
theorem Own.by {w : World} {g n : Nat} {f : Nat → Int} (h : Own w g n f) (ok : okB f) (hn : n < 2147483648) : By w (.slice (some ⟨g, 0, none⟩) n n) n f := by
  refine ⟨hn, ok, ?_⟩
  rcases Nat.lt_or_ge n 336 with h0 | h0
  · exact Or.inl ⟨h0, _, _, rfl⟩
  · exact Or.inr ⟨h0, g, 0, n, rfl, Nat.le_refl _, h.lt, h.rd⟩
theorem parse_c {w : World} {v : Value} {n : Nat} {f : Nat → Int} (h : By w v n f) (G : Glob w) : Calls Tryd.prog 11 #[v] w (PE (parV n f) (perr n f) w) := by
  obtain ⟨h1, h2, ⟨h0, a, c, rfl⟩ | ⟨h0, b, o, c, rfl, hc, hl, hr⟩⟩ := h
  · have e : perr n f = 2 := if_pos h0
    rw [e, show parV n f = noH by unfold parV; rw [e]; rfl]
    exact parse_short a n c w h0
  · by_cases hs : f 333 = chk f 25
    · exact parse_rest b o n c f w hl h0 h1 hc hr h2 G hs
    · have e : perr n f = 4 := by unfold perr; rw [if_neg (by omega), if_pos hs]
      rw [e, show parV n f = noH by unfold parV; rw [e]; rfl]
      exact parse_sum b o n c f w hl h0 h1 hc hr h2 hs
theorem check_c {w : World} {v : Value} {n : Nat} {f : Nat → Int} (h : By w v n f) : Calls Tryd.prog 13 #[v] w fun e w' => e = .returned (.int .u8 (chkV n f)) ∧ w = w' := by
  obtain ⟨h1, h2, ⟨h0, a, c, rfl⟩ | ⟨h0, b, o, c, rfl, hc, hl, hr⟩⟩ := h
  · rw [show chkV n f = 0 from if_pos h0]; exact check_s a n c w h0
  · rw [show chkV n f = chk f 25 from if_neg (by omega)]; exact check_l b o n c f w h0 h1 hc hr h2
theorem rcheck_c {w : World} {v : Value} {n : Nat} {f : Nat → Int} (h : By w v n f) : Calls Tryd.prog 14 #[v] w fun e w' => e = .returned (.int .u8 (chkV n f)) ∧ w = w' := by
  obtain ⟨h1, h2, ⟨h0, a, c, rfl⟩ | ⟨h0, b, o, c, rfl, hc, hl, hr⟩⟩ := h
  · rw [show chkV n f = 0 from if_pos h0]; exact rcheck_s a n c w h0
  · rw [show chkV n f = chk f 25 from if_neg (by omega)]; exact rcheck_l b o n c f w h0 h1 hc hr h2
theorem sum_c {w : World} {v : Value} {n : Nat} {f : Nat → Int} (h : By w v n f) : Calls Tryd.prog 15 #[v] w fun e w' => e = .returned (.int .u16 (sumV n f)) ∧ Below w.heap.size w w' := by
  obtain ⟨h1, h2, ⟨h0, a, c, rfl⟩ | ⟨h0, b, o, c, rfl, hc, hl, hr⟩⟩ := h
  · rw [show sumV n f = 0 from if_pos h0]; exact (sum_s a n c w h0).mono fun _ _ h => ⟨h.1, by rw [h.2]; exact Below.refl _ _⟩
  · exact (sum_l b o n c f w h0 h1 hc hr h2).mono fun _ _ h => ⟨h.1, by obtain ⟨q, h2⟩ := h.2; rw [h2]; exact bdrewN _ _⟩
theorem rsum_c {w : World} {v : Value} {n : Nat} {f : Nat → Int} (h : By w v n f) : Calls Tryd.prog 16 #[v] w fun e w' => e = .returned (.int .u16 (sumV n f)) ∧ w = w' := by
  obtain ⟨h1, h2, ⟨h0, a, c, rfl⟩ | ⟨h0, b, o, c, rfl, hc, hl, hr⟩⟩ := h
  · rw [show sumV n f = 0 from if_pos h0]; exact rsum_s a n c w h0
  · exact rsum_l b o n c f w h0 h1 hc hr h2
theorem parse_v {w : World} {v : Value} {n : Nat} {f : Nat → Int} {ph : HV} {pe : Int} (h : By w v n f) (G : Glob w) (hp : parV n f = ph) (he : perr n f = pe) : Calls Tryd.prog 11 #[v] w fun e w' => e = .returned (.tuple #[.agg #[.string ph.t, .int .i64 ph.k, .bool ph.c, .bool ph.b, .int .i64 ph.n, .int .i64 ph.r, .bool ph.w], .int .i64 pe]) ∧ Below w.heap.size w w' := by
  subst hp
  subst he
  exact parse_c h G
def zf : Nat → Int := fun _ => 0
theorem zf_ok : okB zf := fun _ => by show (0 : Int) ≤ 0 ∧ (0 : Int) < 256; decide
theorem aw_err : perr (szN 0) (made 0 (0 : Nat) 0 zf 0) = 0 := by
  rw [perr_made 0 0 0 (by omega) zf 0 _ (fun _ _ _ => rfl)]
  rfl
theorem aw_bank : (parV (szN 0) (made 0 (0 : Nat) 0 zf 0)).n = 2 := by
  unfold parV
  rw [if_pos aw_err]
  show bankV (made 0 (0 : Nat) 0 zf 0 328) = 2
  rw [made_328]
  rfl
theorem aw_chk : chkV 336 (fun _ => 0) = 231 := by rw [show chkV 336 (fun _ => 0) = chk (fun _ => 0) 25 from if_neg (by omega), chk_zero]
set_option maxHeartbeats 2000000 in
theorem awake_c (w : World) (G : Glob w) : Calls Tryd.prog 9 #[] w fun e w' => e = .returned (.bool true) ∧ Below w.heap.size w w' := by
  have MC := Lib.hid (show Calls Tryd.prog 17 #[.int .u8 0, .int .u8 0, .int .u8 0, .slice none 0 0] w (MadeE (szN 0) (made 0 (0 : Nat) 0 zf 0) w) from made_c 0 0 0 none 0 0 zf w (by decide) (by decide) (by omega) (by omega) zf_ok (fun h => absurd h (by omega)))
  have GG := Lib.hid G
  have mk : ∀ w : World, (Instr.makeSlice 24 (.int .i64 336) (.int .i64 336)).run Tryd.prog w = .ok (.slice (some ⟨w.heap.size, 0, none⟩) 336 336) (w.alloc (.cells (zeroM 336) 5)) := fun w => mk_run 336 (by omega) w
  clear G
  go_enter Tryd.func9, Tryd.ntmps9
  go_wp2_with fail
  with_reducible refine MC.out.mono ?_
  rintro e w1 ⟨rfl, O1, b1⟩
  have BY := Lib.hid (O1.by (made_ok 0 (by decide) (by decide) (by decide) zf_ok) (by have := szN_le 0 (by omega); omega))
  have B1 := Lib.hid b1
  clear O1 b1 MC
  obtain ⟨ph, hph⟩ : ∃ q_, parV (szN 0) (made 0 (0 : Nat) 0 zf 0) = q_ := ⟨_, rfl⟩
  have hn2 := aw_bank
  rw [hph] at hn2
  have PC := Lib.hid (parse_v BY.out (GG.out.below B1.out) hph aw_err)
  have HN2 := Lib.hid hn2
  clear hph hn2
  go_wp2_with fail
  with_reducible refine PC.out.mono ?_
  rintro e w2 ⟨rfl, b2⟩
  have B2 := Lib.hid (via B1.out b2)
  clear b2 PC BY B1
  have hn2 := HN2.out
  obtain ⟨pt, pk, pc, pb, pn, pr, pw⟩ := ph
  dsimp only at hn2 ⊢
  subst hn2
  have BZ := own2 w2 (.cells #[.string pt, .int .i64 pk, .bool pc, .bool pb, .int .i64 2, .int .i64 pr, .bool pw] 27) (.cells (zeroM 336) 5)
  have OZ := Own.zero 336 (w2.alloc (.cells #[.string pt, .int .i64 pk, .bool pc, .bool pb, .int .i64 2, .int .i64 pr, .bool pw] 27))
  have ea : (w2.alloc (.cells #[.string pt, .int .i64 pk, .bool pc, .bool pb, .int .i64 2, .int .i64 pr, .bool pw] 27)).heap.size = w2.heap.size + 1 := by simp
  rw [ea] at OZ
  clear ea
  have HZ := Lib.hid BZ
  have HO := Lib.hid OZ
  clear BZ OZ
  go_wp2_with fail
  clear mk
  generalize (w2.alloc (.cells #[.string pt, .int .i64 pk, .bool pc, .bool pb, .int .i64 2, .int .i64 pr, .bool pw] 27)).alloc (.cells (zeroM 336) 5) = w3 at HZ HO ⊢
  have CC := Lib.hid (check_c (HO.out.by zf_ok (by omega)))
  rw [aw_chk] at CC
  with_reducible refine CC.out.mono ?_
  rintro e w4 ⟨rfl, rfl⟩
  go_wp2
  go_ret
  exact ⟨rfl, via B2.out HZ.out⟩
end Go.Proofs.YtifhajdcfjiaiaaDoor
