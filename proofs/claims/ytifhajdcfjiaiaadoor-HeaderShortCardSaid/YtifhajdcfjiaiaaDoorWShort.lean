/-
  The walk through HeaderShort: for every world in which the two tables lie as told; no other condition.
-/
import Derived.Test.YtifhajdcfjiaiaaDoorAwk
namespace Go.Proofs.YtifhajdcfjiaiaaDoor
open Go.ChangeShapes Go.WideShapes Go.ChangeAt Go.RowKit
set_option linter.unusedVariables false
set_option maxRecDepth 100000
theorem mk_run16 (n : Nat) (hn : n < 2147483648) (w : World) : (Instr.makeSlice 24 (.int .u16 n) (.int .u16 n)).run Tryd.prog w = .ok (.slice (some ⟨w.heap.size, 0, none⟩) n n) (w.alloc (.cells (zeroM n) 5)) := by
  obtain ⟨i0, hi, hz0, hz1, hz2⟩ := info_parts infoB
  have h := run_make (P := Tryd.prog) w 24 5 i0 _ Tryd.underlying24 hi hz0 .u16 .u16 n n (by omega) (by omega) (by rw [hz2]; omega) (by omega)
  rw [hz1] at h
  simpa [zeroM] using h
set_option maxHeartbeats 2000000 in
theorem short_walk (n : Nat) (hn : n < 65536) (w : World) (G : Glob w) : Calls Tryd.prog 8 #[.int .u16 n] w fun e w' => e = .returned (.bool true) ∧ Below w.heap.size w w' := by
  have GG := Lib.hid G
  have hnot : ∀ (x : Bool) (w : World), (Op.unary .not (.bool x)).run Tryd.prog w = .ok (.bool (!x)) w := fun _ _ => rfl
  have mk := fun w => mk_run16 n (by omega) w
  have AW := Lib.hid (awake_c w G)
  clear G
  go_enter Tryd.func8, Tryd.ntmps8
  go_wp2_with fail
  with_reducible refine AW.out.mono ?_
  rintro e w1 ⟨rfl, b1⟩
  have B1 := Lib.hid b1
  clear b1 AW
  have OZ := Lib.hid (Own.zero n w1)
  have BZ := Lib.hid (via B1.out (own1 w1 (.cells (zeroM n) 5)))
  have LZ := Lib.hid B1.out.size
  by_cases h0 : n < 336
  · have h0I : (n : Int) < 336 := by omega
    go_wp2_with fail
    clear mk
    generalize w1.alloc (.cells (zeroM n) 5) = w2 at OZ BZ ⊢
    generalize w1.heap.size = g at OZ LZ ⊢
    have BY := Lib.hid (OZ.out.by zf_ok (by omega))
    have E0 := Lib.hid (show perr n (fun _ => 0) = 2 from if_pos h0)
    obtain ⟨ph, hph⟩ : ∃ q_, parV n (fun _ => 0) = q_ := ⟨_, rfl⟩
    with_reducible refine (parse_v BY.out (GG.out.below BZ.out) hph E0.out).mono ?_
    rintro e w3 ⟨rfl, b3⟩
    have B3 := Lib.hid (via BZ.out b3)
    have Y3 := Lib.hid (BY.out.below b3)
    clear b3 hph
    have Q3 := own1 w3 (.cells #[.string ph.t, .int .i64 ph.k, .bool ph.c, .bool ph.b, .int .i64 ph.n, .int .i64 ph.r, .bool ph.w] 27)
    have B4 := Lib.hid (via B3.out Q3)
    have Y4 := Lib.hid (Y3.out.below Q3)
    clear Q3
    go_wp2_with fail
    generalize w3.alloc (.cells #[.string ph.t, .int .i64 ph.k, .bool ph.c, .bool ph.b, .int .i64 ph.n, .int .i64 ph.r, .bool ph.w] 27) = w4 at B4 Y4 ⊢
    have CC := check_c Y4.out
    rw [show chkV n (fun _ => 0) = 0 from if_pos h0] at CC
    have SC := sum_c Y4.out
    rw [show sumV n (fun _ => 0) = 0 from if_pos h0] at SC
    have CH := Lib.hid CC
    have SH := Lib.hid SC
    clear CC SC
    with_reducible refine CH.out.mono ?_
    rintro e w5 ⟨rfl, rfl⟩
    go_wp2_with fail
    with_reducible refine SH.out.mono ?_
    rintro e w5 ⟨rfl, b5⟩
    have B5 := Lib.hid (via B4.out b5)
    clear b5
    go_wp2
    go_ret
    exact ⟨rfl, B5.out⟩
  · have h0I : ¬ (n : Int) < 336 := by omega
    go_wp2_with fail
    clear mk
    generalize w1.alloc (.cells (zeroM n) 5) = w2 at OZ BZ ⊢
    generalize w1.heap.size = g at OZ LZ ⊢
    have CC := check_c (OZ.out.by zf_ok (by omega))
    rw [show chkV n (fun _ => 0) = 231 by rw [show chkV n (fun _ => 0) = chk (fun _ => 0) 25 from if_neg h0, chk_zero]] at CC
    have CH := Lib.hid CC
    clear CC
    with_reducible refine CH.out.mono ?_
    rintro e w5 ⟨rfl, rfl⟩
    have c3 := OZ.out.mem 333 (by omega)
    have f3 := OZ.out.free 333
    have i3 : (333 : Int) < n := by omega
    have O2 := Lib.hid (show Own (w2.setCell ⟨g, 333, none⟩ (.int .u8 231)) g n shortF from OZ.out.set 333 (by omega) 231)
    have B2 := Lib.hid (BZ.out.setCell (p := ⟨g, 333, none⟩) LZ.out (.int .u8 231))
    go_wp2_with fail
    generalize w2.setCell ⟨g, 333, none⟩ (.int .u8 231) = w3 at O2 B2 ⊢
    clear c3 f3
    have BY := Lib.hid (O2.out.by (zf_ok.upd 333 231 (by decide) (by decide)) (by omega))
    have PS := perr_short n (by omega)
    obtain ⟨ph, hph⟩ : ∃ q_, parV n shortF = q_ := ⟨_, rfl⟩
    by_cases hs : n = 32768
    · rw [if_pos hs] at PS
      have PC := Lib.hid (parse_v BY.out (GG.out.below B2.out) hph PS)
      clear PS hph
      subst hs
      with_reducible refine PC.out.mono ?_
      rintro e w4 ⟨rfl, b4⟩
      have B4 := Lib.hid (via (via B2.out b4) (own1 w4 (.cells #[.string ph.t, .int .i64 ph.k, .bool ph.c, .bool ph.b, .int .i64 ph.n, .int .i64 ph.r, .bool ph.w] 27)))
      clear b4
      go_wp2
      go_ret
      exact ⟨rfl, B4.out⟩
    · rw [if_neg hs] at PS
      have PC := Lib.hid (parse_v BY.out (GG.out.below B2.out) hph PS)
      have hsb : ((n : Int) == 32768) = false := by simp; omega
      clear PS hph hs
      with_reducible refine PC.out.mono ?_
      rintro e w4 ⟨rfl, b4⟩
      have B4 := Lib.hid (via (via B2.out b4) (own1 w4 (.cells #[.string ph.t, .int .i64 ph.k, .bool ph.c, .bool ph.b, .int .i64 ph.n, .int .i64 ph.r, .bool ph.w] 27)))
      clear b4
      go_wp2
      go_ret
      exact ⟨rfl, B4.out⟩
end Go.Proofs.YtifhajdcfjiaiaaDoor
