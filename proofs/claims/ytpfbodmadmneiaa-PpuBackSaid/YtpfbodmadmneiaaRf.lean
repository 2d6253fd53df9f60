/-
  The document's small functions, and its signal: for every unit; no condition but that each number fits.
-/
import Derived.Test.YtpfbodmadmneiaaRu
import Derived.Test.YtpfbodmadmneiaaTb
import Derived.Test.YtpfbodmadmneiaaVw
import Derived.Deep.Cut
import Derived.BigQuiet
import Derived.WalkSmall
import Derived.Deep.DeepCutAuto
import Derived.Deep.CutBlock
namespace Go.Proofs.Ytpfbodmadmneiaa
open Go.ChangeShapes Go.WideShapes Go.ChangeAt Go.RowKit
set_option linter.unusedVariables false
set_option linter.unusedSimpArgs false
set_option maxRecDepth 100000
set_option maxHeartbeats 2000000 in
theorem ron_c (r v s : Nat) (m : M) (c : Int) (hc : m 8352 = c) (c0 : 0 ≤ c) (c1 : c < 256)  (z : Bool) (hz : decide (128 ≤ c) = z) (w : World) (h : RU w r v s m) : Calls Try.prog 47 #[.pointer (some ⟨r, 0, none⟩)] w fun q_ w' => q_ = .returned (.bool z) ∧ w' = w := by
  have P0 := Lib.hid h
  clear h
  have Hc := Lib.hid hc
  clear hc
  have HZ := hz
  obtain ⟨hc, hf⟩ := P0.out.R.out
  have e_c := rc_u v s (m) 2 c (by decide) (by decide) (by decide) (by decide) (Hc.out)
  go_enter Try.func47, Try.ntmps47
  go_wp2
  all_goals first | exact bodyPost_ret (v := .bool z) (by simp [results, Try.results47, go_sem]) rfl ⟨rfl, rfl⟩ | exact bodyPost_end (v := .bool z) (by simp [results, Try.results47, go_sem]) rfl ⟨rfl, rfl⟩
set_option maxHeartbeats 2000000 in
theorem rmode_off (r v s : Nat) (m : M) (c : Int) (hc : m 8352 = c) (c0 : 0 ≤ c) (c1 : c < 256)  (hz : decide (128 ≤ c) = false) (w : World) (h : RU w r v s m) : Calls Try.prog 30 #[.pointer (some ⟨r, 0, none⟩)] w fun q_ w' => q_ = .returned (.int .i64 0) ∧ w' = w := by
  have P0 := Lib.hid h
  clear h
  have Hc := Lib.hid hc
  clear hc
  have HZ := Lib.hid hz
  clear hz
  have hnot : ∀ (x : Bool) (w : World), (Op.unary .not (.bool x)).run Try.prog w = .ok (.bool (!x)) w := fun _ _ => rfl
  go_enter Try.func30, Try.ntmps30
  go_wp2_with (fail)
  with_reducible refine (ron_c r v s m c Hc.out c0 c1 false HZ.out _ P0.out).mono ?_
  rintro q_ w' ⟨rfl, rfl⟩
  go_wp2
  all_goals first | exact bodyPost_ret (v := .int .i64 0) (by simp [results, Try.results30, go_sem]) rfl ⟨rfl, rfl⟩ | exact bodyPost_end (v := .int .i64 0) (by simp [results, Try.results30, go_sem]) rfl ⟨rfl, rfl⟩
set_option maxHeartbeats 2000000 in
theorem rmode_1 (r v s : Nat) (m : M) (c : Int) (hc : m 8352 = c) (c0 : 0 ≤ c) (c1 : c < 256) (L : Int) (hL : m 8356 = L) (L0 : 0 ≤ L) (L1 : L < 256)  (hz : decide (128 ≤ c) = true) (g : 144 ≤ L) (w : World) (h : RU w r v s m) : Calls Try.prog 30 #[.pointer (some ⟨r, 0, none⟩)] w fun q_ w' => q_ = .returned (.int .i64 1) ∧ w' = w := by
  have P0 := Lib.hid h
  clear h
  have Hc := Lib.hid hc
  clear hc
  have HL := Lib.hid hL
  clear hL
  have HZ := Lib.hid hz
  clear hz
  have hnot : ∀ (x : Bool) (w : World), (Op.unary .not (.bool x)).run Try.prog w = .ok (.bool (!x)) w := fun _ _ => rfl
  go_enter Try.func30, Try.ntmps30
  go_wp2_with (fail)
  with_reducible refine (ron_c r v s m c Hc.out c0 c1 true HZ.out _ P0.out).mono ?_
  rintro q_ w' ⟨rfl, rfl⟩
  obtain ⟨hc, hf⟩ := P0.out.R.out
  have e_L := rc_i v s (m) 14 L (by decide) (by decide) (HL.out)
  skip
  go_wp2
  all_goals first | exact bodyPost_ret (v := .int .i64 1) (by simp [results, Try.results30, go_sem]) rfl ⟨rfl, rfl⟩ | exact bodyPost_end (v := .int .i64 1) (by simp [results, Try.results30, go_sem]) rfl ⟨rfl, rfl⟩
set_option maxHeartbeats 2000000 in
theorem rmode_2 (r v s : Nat) (m : M) (c : Int) (hc : m 8352 = c) (c0 : 0 ≤ c) (c1 : c < 256) (L : Int) (hL : m 8356 = L) (L0 : 0 ≤ L) (L1 : L < 256) (d : Int) (hd : m 8363 = d) (d0 : 0 ≤ d) (d1 : d < 256)  (hz : decide (128 ≤ c) = true) (g : L < 144) (g2 : d < 20) (w : World) (h : RU w r v s m) : Calls Try.prog 30 #[.pointer (some ⟨r, 0, none⟩)] w fun q_ w' => q_ = .returned (.int .i64 2) ∧ w' = w := by
  have P0 := Lib.hid h
  clear h
  have Hc := Lib.hid hc
  clear hc
  have HL := Lib.hid hL
  clear hL
  have Hd := Lib.hid hd
  clear hd
  have HZ := Lib.hid hz
  clear hz
  have hnot : ∀ (x : Bool) (w : World), (Op.unary .not (.bool x)).run Try.prog w = .ok (.bool (!x)) w := fun _ _ => rfl
  go_enter Try.func30, Try.ntmps30
  go_wp2_with (fail)
  with_reducible refine (ron_c r v s m c Hc.out c0 c1 true HZ.out _ P0.out).mono ?_
  rintro q_ w' ⟨rfl, rfl⟩
  obtain ⟨hc, hf⟩ := P0.out.R.out
  have e_L := rc_i v s (m) 14 L (by decide) (by decide) (HL.out)
  have e_d := rc_i v s (m) 15 d (by decide) (by decide) (Hd.out)
  have g3 : ¬ 144 ≤ L := by omega
  go_wp2
  all_goals first | exact bodyPost_ret (v := .int .i64 2) (by simp [results, Try.results30, go_sem]) rfl ⟨rfl, rfl⟩ | exact bodyPost_end (v := .int .i64 2) (by simp [results, Try.results30, go_sem]) rfl ⟨rfl, rfl⟩
set_option maxHeartbeats 2000000 in
theorem rmode_3 (r v s : Nat) (m : M) (c : Int) (hc : m 8352 = c) (c0 : 0 ≤ c) (c1 : c < 256) (L : Int) (hL : m 8356 = L) (L0 : 0 ≤ L) (L1 : L < 256) (d : Int) (hd : m 8363 = d) (d0 : 0 ≤ d) (d1 : d < 256)  (hz : decide (128 ≤ c) = true) (g : L < 144) (g2 : 20 ≤ d) (g4 : d < 63) (w : World) (h : RU w r v s m) : Calls Try.prog 30 #[.pointer (some ⟨r, 0, none⟩)] w fun q_ w' => q_ = .returned (.int .i64 3) ∧ w' = w := by
  have P0 := Lib.hid h
  clear h
  have Hc := Lib.hid hc
  clear hc
  have HL := Lib.hid hL
  clear hL
  have Hd := Lib.hid hd
  clear hd
  have HZ := Lib.hid hz
  clear hz
  have hnot : ∀ (x : Bool) (w : World), (Op.unary .not (.bool x)).run Try.prog w = .ok (.bool (!x)) w := fun _ _ => rfl
  go_enter Try.func30, Try.ntmps30
  go_wp2_with (fail)
  with_reducible refine (ron_c r v s m c Hc.out c0 c1 true HZ.out _ P0.out).mono ?_
  rintro q_ w' ⟨rfl, rfl⟩
  obtain ⟨hc, hf⟩ := P0.out.R.out
  have e_L := rc_i v s (m) 14 L (by decide) (by decide) (HL.out)
  have e_d := rc_i v s (m) 15 d (by decide) (by decide) (Hd.out)
  have g3 : ¬ 144 ≤ L := by omega
  have g5 : ¬ d < 20 := by omega
  go_wp2
  all_goals first | exact bodyPost_ret (v := .int .i64 3) (by simp [results, Try.results30, go_sem]) rfl ⟨rfl, rfl⟩ | exact bodyPost_end (v := .int .i64 3) (by simp [results, Try.results30, go_sem]) rfl ⟨rfl, rfl⟩
set_option maxHeartbeats 2000000 in
theorem rmode_0 (r v s : Nat) (m : M) (c : Int) (hc : m 8352 = c) (c0 : 0 ≤ c) (c1 : c < 256) (L : Int) (hL : m 8356 = L) (L0 : 0 ≤ L) (L1 : L < 256) (d : Int) (hd : m 8363 = d) (d0 : 0 ≤ d) (d1 : d < 256)  (hz : decide (128 ≤ c) = true) (g : L < 144) (g2 : 63 ≤ d) (w : World) (h : RU w r v s m) : Calls Try.prog 30 #[.pointer (some ⟨r, 0, none⟩)] w fun q_ w' => q_ = .returned (.int .i64 0) ∧ w' = w := by
  have P0 := Lib.hid h
  clear h
  have Hc := Lib.hid hc
  clear hc
  have HL := Lib.hid hL
  clear hL
  have Hd := Lib.hid hd
  clear hd
  have HZ := Lib.hid hz
  clear hz
  have hnot : ∀ (x : Bool) (w : World), (Op.unary .not (.bool x)).run Try.prog w = .ok (.bool (!x)) w := fun _ _ => rfl
  go_enter Try.func30, Try.ntmps30
  go_wp2_with (fail)
  with_reducible refine (ron_c r v s m c Hc.out c0 c1 true HZ.out _ P0.out).mono ?_
  rintro q_ w' ⟨rfl, rfl⟩
  obtain ⟨hc, hf⟩ := P0.out.R.out
  have e_L := rc_i v s (m) 14 L (by decide) (by decide) (HL.out)
  have e_d := rc_i v s (m) 15 d (by decide) (by decide) (Hd.out)
  have g3 : ¬ 144 ≤ L := by omega
  have g5 : ¬ d < 20 := by omega
  have g6 : ¬ d < 63 := by omega
  go_wp2
  all_goals first | exact bodyPost_ret (v := .int .i64 0) (by simp [results, Try.results30, go_sem]) rfl ⟨rfl, rfl⟩ | exact bodyPost_end (v := .int .i64 0) (by simp [results, Try.results30, go_sem]) rfl ⟨rfl, rfl⟩
theorem rmode_c (r v s : Nat) (m : M) (c : Int) (hc : m 8352 = c) (c0 : 0 ≤ c) (c1 : c < 256) (L : Int) (hL : m 8356 = L) (L0 : 0 ≤ L) (L1 : L < 256) (d : Int) (hd : m 8363 = d) (d0 : 0 ≤ d) (d1 : d < 256) (x : Int) (hx : modeV c L d = x) (w : World) (h : RU w r v s m) : Calls Try.prog 30 #[.pointer (some ⟨r, 0, none⟩)] w fun q_ w' => q_ = .returned (.int .i64 x) ∧ w' = w := by
  subst hx
  unfold modeV
  by_cases a : 128 ≤ c
  · have hz : decide (128 ≤ c) = true := by simpa using a
    rw [if_pos a]
    by_cases g : 144 ≤ L
    · rw [if_pos g]; exact rmode_1 r v s m c hc c0 c1 L hL L0 L1 hz g w h
    · rw [if_neg g]
      by_cases g2 : d < 20
      · rw [if_pos g2]; exact rmode_2 r v s m c hc c0 c1 L hL L0 L1 d hd d0 d1 hz (by omega) g2 w h
      · rw [if_neg g2]
        by_cases g3 : d < 63
        · rw [if_pos g3]; exact rmode_3 r v s m c hc c0 c1 L hL L0 L1 d hd d0 d1 hz (by omega) (by omega) g3 w h
        · rw [if_neg g3]; exact rmode_0 r v s m c hc c0 c1 L hL L0 L1 d hd d0 d1 hz (by omega) (by omega) w h
  · rw [if_neg a]; exact rmode_off r v s m c hc c0 c1 (by simpa using a) w h
theorem rbit_c (x : Int) (n : Nat) (h0 : 0 ≤ x) (h1 : x < 256) (hn : n < 64) (y : Int) (hy : bit x n = y) (w : World) : Calls Try.prog 63 #[.int .u8 x, .int .i64 (n : Int)] w fun q_ w' => q_ = .returned (.int .i64 y) ∧ w' = w := by
  subst hy; exact (bit_c x n h0 h1 hn w).mono (fun q_ w' hh => ⟨hh.1, hh.2.symm⟩)
theorem rbit6_c (x : Int) (h0 : 0 ≤ x) (h1 : x < 256) (y : Int) (hy : bit x 6 = y) (w : World) : Calls Try.prog 63 #[.int .u8 x, .int .i64 6] w fun q_ w' => q_ = .returned (.int .i64 y) ∧ w' = w := rbit_c x 6 h0 h1 (by omega) y hy w
theorem rbit3_c (x : Int) (h0 : 0 ≤ x) (h1 : x < 256) (y : Int) (hy : bit x 3 = y) (w : World) : Calls Try.prog 63 #[.int .u8 x, .int .i64 3] w fun q_ w' => q_ = .returned (.int .i64 y) ∧ w' = w := rbit_c x 3 h0 h1 (by omega) y hy w
theorem rbit4_c (x : Int) (h0 : 0 ≤ x) (h1 : x < 256) (y : Int) (hy : bit x 4 = y) (w : World) : Calls Try.prog 63 #[.int .u8 x, .int .i64 4] w fun q_ w' => q_ = .returned (.int .i64 y) ∧ w' = w := rbit_c x 4 h0 h1 (by omega) y hy w
theorem rbit5_c (x : Int) (h0 : 0 ≤ x) (h1 : x < 256) (y : Int) (hy : bit x 5 = y) (w : World) : Calls Try.prog 63 #[.int .u8 x, .int .i64 5] w fun q_ w' => q_ = .returned (.int .i64 y) ∧ w' = w := rbit_c x 5 h0 h1 (by omega) y hy w
/-- What all stands for, without whether it is on. -/
def isV6 (b6 e b3 b4 b5 : Bool) (x : Int) : Bool := (b6 && e) || (b3 && decide (x = 0)) || (b4 && decide (x = 1)) || (b5 && decide (x = 2))
set_option maxHeartbeats 16000000 in
theorem rstat_w (r v s : Nat) (m : M) (c : Int) (hc : m 8352 = c) (c0 : 0 ≤ c) (c1 : c < 256) (st : Int) (hst : m 8353 = st) (st0 : 0 ≤ st) (st1 : st < 256) (L : Int) (hL : m 8356 = L) (L0 : 0 ≤ L) (L1 : L < 256) (ly : Int) (hly : m 8357 = ly) (ly0 : 0 ≤ ly) (ly1 : ly < 256) (d : Int) (hd : m 8363 = d) (d0 : 0 ≤ d) (d1 : d < 256)  (x : Int) (hx : modeV c L d = x) (zo : Bool) (hz : decide (128 ≤ c) = zo) (b6 e b3 b4 b5 : Bool) (h6 : decide (bit st 6 = 1) = b6) (he : (L == ly) = e) (h3 : decide (bit st 3 = 1) = b3) (h4 : decide (bit st 4 = 1) = b4) (h5 : decide (bit st 5 = 1) = b5) (zz : Bool) (hzz : (isV6 b6 e b3 b4 b5 x && zo) = zz) (ac : Bool) (hac : decide (m 8366 ≠ 0) = ac) (rr : Int) (hr : (if (zz && !ac) = true then (2 : Int) else 0) = rr) (w : World) (h : RU w r v s m) : Calls Try.prog 51 #[.pointer (some ⟨r, 0, none⟩)] w fun q_ w' => q_ = .returned (.int .u8 rr) ∧ RU w' r v s (upd m 8366 (tf zz)) ∧ Keep3 r v s w w' := by
  suffices hall : ∀ w0 : World, Keep3 r v s w0 w → Calls Try.prog 51 #[.pointer (some ⟨r, 0, none⟩)] w fun q_ w' => q_ = .returned (.int .u8 rr) ∧ RU w' r v s (upd m 8366 (tf zz)) ∧ Keep3 r v s w0 w' from hall w (Keep3.refl r v s w)
  intro w0 hK
  have P0 := Lib.hid h
  have K0 := Lib.hid hK
  clear h hK
  have Hc := Lib.hid hc
  clear hc
  have Hst := Lib.hid hst
  clear hst
  have HL := Lib.hid hL
  clear hL
  have Hly := Lib.hid hly
  clear hly
  have Hd := Lib.hid hd
  clear hd
  have HX := Lib.hid hx
  have HZ := Lib.hid hz
  have Hac := Lib.hid hac
  have HZZ := Lib.hid hzz
  have HR := Lib.hid hr
  clear hx hz hac hzz hr
  have hnot : ∀ (x : Bool) (w : World), (Op.unary .not (.bool x)).run Try.prog w = .ok (.bool (!x)) w := fun _ _ => rfl
  have y6 : bit st 6 = tf b6 := by have := bit_bd st 6; rw [← h6]; rcases this with q | q <;> rw [q] <;> rfl
  have y3 : bit st 3 = tf b3 := by have := bit_bd st 3; rw [← h3]; rcases this with q | q <;> rw [q] <;> rfl
  have y4 : bit st 4 = tf b4 := by have := bit_bd st 4; rw [← h4]; rcases this with q | q <;> rw [q] <;> rfl
  have y5 : bit st 5 = tf b5 := by have := bit_bd st 5; rw [← h5]; rcases this with q | q <;> rw [q] <;> rfl
  have Y6 := Lib.hid y6
  have Y3 := Lib.hid y3
  have Y4 := Lib.hid y4
  have Y5 := Lib.hid y5
  have HE := Lib.hid he
  clear y6 y3 y4 y5 h6 h3 h4 h5 he
  go_enter Try.func51, Try.ntmps51
  go_wp2_with (fail)
  with_reducible refine (rmode_c r v s m c Hc.out c0 c1 L HL.out L0 L1 d Hd.out d0 d1 x HX.out _ P0.out).mono ?_
  rintro q_ w' ⟨rfl, rfl⟩
  obtain ⟨hc, hf⟩ := P0.out.R.out
  have e_st := rc_u v s (m) 3 st (by decide) (by decide) (by decide) (by decide) (Hst.out)
  go_upto_region 3 with (fail)
  clear hc hf e_st
  obtain ⟨ii, hii⟩ : ∃ ii, ii = isV6 b6 e b3 b4 b5 x := ⟨_, rfl⟩
  have HI := Lib.hid hii
  clear hii
  go_cut [5] (fun s_ wx => s_ = .bool ii ∧ RU wx r v s m ∧ Keep3 r v s w0 wx)
  case first =>
    cases b6
    · replace Y6 := Lib.hid (show bit st 6 = 0 from Y6.out)
      cases b3
      · replace Y3 := Lib.hid (show bit st 3 = 0 from Y3.out)
        cases b4
        · replace Y4 := Lib.hid (show bit st 4 = 0 from Y4.out)
          cases b5
          · replace Y5 := Lib.hid (show bit st 5 = 0 from Y5.out)
            go_quiet (((go_at_call 63; first | with_reducible exact Calls.quiet_of_same (rbit6_c st st0 st1 0 Y6.out _) | with_reducible exact Calls.quiet_of_same (rbit3_c st st0 st1 0 Y3.out _) | with_reducible exact Calls.quiet_of_same (rbit4_c st st0 st1 0 Y4.out _) | with_reducible exact Calls.quiet_of_same (rbit5_c st st0 st1 0 Y5.out _))))
            go_wp2
            go_meet
            refine ⟨?_, P0.out.drewN _, K0.out.drewN _⟩
            rw [HI.out]
            unfold isV6
            try (have z0_ := X0.out)
            try (have z1_ := X1.out)
            try (have z2_ := X2.out)
            simp [*]
          · replace Y5 := Lib.hid (show bit st 5 = 1 from Y5.out)
            by_cases x2 : x = 2
            · have q2 : (x == 2) = true := by simpa using x2
              have X2 := Lib.hid x2
              clear x2
              go_quiet (((go_at_call 63; first | with_reducible exact Calls.quiet_of_same (rbit6_c st st0 st1 0 Y6.out _) | with_reducible exact Calls.quiet_of_same (rbit3_c st st0 st1 0 Y3.out _) | with_reducible exact Calls.quiet_of_same (rbit4_c st st0 st1 0 Y4.out _) | with_reducible exact Calls.quiet_of_same (rbit5_c st st0 st1 1 Y5.out _))))
              go_wp2
              go_meet
              refine ⟨?_, P0.out.drewN _, K0.out.drewN _⟩
              rw [HI.out]
              unfold isV6
              try (have z0_ := X0.out)
              try (have z1_ := X1.out)
              try (have z2_ := X2.out)
              simp [*]
            · have q2 : (x == 2) = false := by simpa using x2
              have X2 := Lib.hid x2
              clear x2
              go_quiet (((go_at_call 63; first | with_reducible exact Calls.quiet_of_same (rbit6_c st st0 st1 0 Y6.out _) | with_reducible exact Calls.quiet_of_same (rbit3_c st st0 st1 0 Y3.out _) | with_reducible exact Calls.quiet_of_same (rbit4_c st st0 st1 0 Y4.out _) | with_reducible exact Calls.quiet_of_same (rbit5_c st st0 st1 1 Y5.out _))))
              go_wp2
              go_meet
              refine ⟨?_, P0.out.drewN _, K0.out.drewN _⟩
              rw [HI.out]
              unfold isV6
              try (have z0_ := X0.out)
              try (have z1_ := X1.out)
              try (have z2_ := X2.out)
              simp [*]
        · replace Y4 := Lib.hid (show bit st 4 = 1 from Y4.out)
          by_cases x1 : x = 1
          · have q1 : (x == 1) = true := by simpa using x1
            have X1 := Lib.hid x1
            clear x1
            go_quiet (((go_at_call 63; first | with_reducible exact Calls.quiet_of_same (rbit6_c st st0 st1 0 Y6.out _) | with_reducible exact Calls.quiet_of_same (rbit3_c st st0 st1 0 Y3.out _) | with_reducible exact Calls.quiet_of_same (rbit4_c st st0 st1 1 Y4.out _))))
            go_wp2
            go_meet
            refine ⟨?_, P0.out.drewN _, K0.out.drewN _⟩
            rw [HI.out]
            unfold isV6
            try (have z0_ := X0.out)
            try (have z1_ := X1.out)
            try (have z2_ := X2.out)
            simp [*]
          · have q1 : (x == 1) = false := by simpa using x1
            have X1 := Lib.hid x1
            clear x1
            cases b5
            · replace Y5 := Lib.hid (show bit st 5 = 0 from Y5.out)
              go_quiet (((go_at_call 63; first | with_reducible exact Calls.quiet_of_same (rbit6_c st st0 st1 0 Y6.out _) | with_reducible exact Calls.quiet_of_same (rbit3_c st st0 st1 0 Y3.out _) | with_reducible exact Calls.quiet_of_same (rbit4_c st st0 st1 1 Y4.out _) | with_reducible exact Calls.quiet_of_same (rbit5_c st st0 st1 0 Y5.out _))))
              go_wp2
              go_meet
              refine ⟨?_, P0.out.drewN _, K0.out.drewN _⟩
              rw [HI.out]
              unfold isV6
              try (have z0_ := X0.out)
              try (have z1_ := X1.out)
              try (have z2_ := X2.out)
              simp [*]
            · replace Y5 := Lib.hid (show bit st 5 = 1 from Y5.out)
              by_cases x2 : x = 2
              · have q2 : (x == 2) = true := by simpa using x2
                have X2 := Lib.hid x2
                clear x2
                go_quiet (((go_at_call 63; first | with_reducible exact Calls.quiet_of_same (rbit6_c st st0 st1 0 Y6.out _) | with_reducible exact Calls.quiet_of_same (rbit3_c st st0 st1 0 Y3.out _) | with_reducible exact Calls.quiet_of_same (rbit4_c st st0 st1 1 Y4.out _) | with_reducible exact Calls.quiet_of_same (rbit5_c st st0 st1 1 Y5.out _))))
                go_wp2
                go_meet
                refine ⟨?_, P0.out.drewN _, K0.out.drewN _⟩
                rw [HI.out]
                unfold isV6
                try (have z0_ := X0.out)
                try (have z1_ := X1.out)
                try (have z2_ := X2.out)
                simp [*]
              · have q2 : (x == 2) = false := by simpa using x2
                have X2 := Lib.hid x2
                clear x2
                go_quiet (((go_at_call 63; first | with_reducible exact Calls.quiet_of_same (rbit6_c st st0 st1 0 Y6.out _) | with_reducible exact Calls.quiet_of_same (rbit3_c st st0 st1 0 Y3.out _) | with_reducible exact Calls.quiet_of_same (rbit4_c st st0 st1 1 Y4.out _) | with_reducible exact Calls.quiet_of_same (rbit5_c st st0 st1 1 Y5.out _))))
                go_wp2
                go_meet
                refine ⟨?_, P0.out.drewN _, K0.out.drewN _⟩
                rw [HI.out]
                unfold isV6
                try (have z0_ := X0.out)
                try (have z1_ := X1.out)
                try (have z2_ := X2.out)
                simp [*]
      · replace Y3 := Lib.hid (show bit st 3 = 1 from Y3.out)
        by_cases x0 : x = 0
        · have q0 : (x == 0) = true := by simpa using x0
          have X0 := Lib.hid x0
          clear x0
          go_quiet (((go_at_call 63; first | with_reducible exact Calls.quiet_of_same (rbit6_c st st0 st1 0 Y6.out _) | with_reducible exact Calls.quiet_of_same (rbit3_c st st0 st1 1 Y3.out _))))
          go_wp2
          go_meet
          refine ⟨?_, P0.out.drewN _, K0.out.drewN _⟩
          rw [HI.out]
          unfold isV6
          try (have z0_ := X0.out)
          try (have z1_ := X1.out)
          try (have z2_ := X2.out)
          simp [*]
        · have q0 : (x == 0) = false := by simpa using x0
          have X0 := Lib.hid x0
          clear x0
          cases b4
          · replace Y4 := Lib.hid (show bit st 4 = 0 from Y4.out)
            cases b5
            · replace Y5 := Lib.hid (show bit st 5 = 0 from Y5.out)
              go_quiet (((go_at_call 63; first | with_reducible exact Calls.quiet_of_same (rbit6_c st st0 st1 0 Y6.out _) | with_reducible exact Calls.quiet_of_same (rbit3_c st st0 st1 1 Y3.out _) | with_reducible exact Calls.quiet_of_same (rbit4_c st st0 st1 0 Y4.out _) | with_reducible exact Calls.quiet_of_same (rbit5_c st st0 st1 0 Y5.out _))))
              go_wp2
              go_meet
              refine ⟨?_, P0.out.drewN _, K0.out.drewN _⟩
              rw [HI.out]
              unfold isV6
              try (have z0_ := X0.out)
              try (have z1_ := X1.out)
              try (have z2_ := X2.out)
              simp [*]
            · replace Y5 := Lib.hid (show bit st 5 = 1 from Y5.out)
              by_cases x2 : x = 2
              · have q2 : (x == 2) = true := by simpa using x2
                have X2 := Lib.hid x2
                clear x2
                go_quiet (((go_at_call 63; first | with_reducible exact Calls.quiet_of_same (rbit6_c st st0 st1 0 Y6.out _) | with_reducible exact Calls.quiet_of_same (rbit3_c st st0 st1 1 Y3.out _) | with_reducible exact Calls.quiet_of_same (rbit4_c st st0 st1 0 Y4.out _) | with_reducible exact Calls.quiet_of_same (rbit5_c st st0 st1 1 Y5.out _))))
                go_wp2
                go_meet
                refine ⟨?_, P0.out.drewN _, K0.out.drewN _⟩
                rw [HI.out]
                unfold isV6
                try (have z0_ := X0.out)
                try (have z1_ := X1.out)
                try (have z2_ := X2.out)
                simp [*]
              · have q2 : (x == 2) = false := by simpa using x2
                have X2 := Lib.hid x2
                clear x2
                go_quiet (((go_at_call 63; first | with_reducible exact Calls.quiet_of_same (rbit6_c st st0 st1 0 Y6.out _) | with_reducible exact Calls.quiet_of_same (rbit3_c st st0 st1 1 Y3.out _) | with_reducible exact Calls.quiet_of_same (rbit4_c st st0 st1 0 Y4.out _) | with_reducible exact Calls.quiet_of_same (rbit5_c st st0 st1 1 Y5.out _))))
                go_wp2
                go_meet
                refine ⟨?_, P0.out.drewN _, K0.out.drewN _⟩
                rw [HI.out]
                unfold isV6
                try (have z0_ := X0.out)
                try (have z1_ := X1.out)
                try (have z2_ := X2.out)
                simp [*]
          · replace Y4 := Lib.hid (show bit st 4 = 1 from Y4.out)
            by_cases x1 : x = 1
            · have q1 : (x == 1) = true := by simpa using x1
              have X1 := Lib.hid x1
              clear x1
              go_quiet (((go_at_call 63; first | with_reducible exact Calls.quiet_of_same (rbit6_c st st0 st1 0 Y6.out _) | with_reducible exact Calls.quiet_of_same (rbit3_c st st0 st1 1 Y3.out _) | with_reducible exact Calls.quiet_of_same (rbit4_c st st0 st1 1 Y4.out _))))
              go_wp2
              go_meet
              refine ⟨?_, P0.out.drewN _, K0.out.drewN _⟩
              rw [HI.out]
              unfold isV6
              try (have z0_ := X0.out)
              try (have z1_ := X1.out)
              try (have z2_ := X2.out)
              simp [*]
            · have q1 : (x == 1) = false := by simpa using x1
              have X1 := Lib.hid x1
              clear x1
              cases b5
              · replace Y5 := Lib.hid (show bit st 5 = 0 from Y5.out)
                go_quiet (((go_at_call 63; first | with_reducible exact Calls.quiet_of_same (rbit6_c st st0 st1 0 Y6.out _) | with_reducible exact Calls.quiet_of_same (rbit3_c st st0 st1 1 Y3.out _) | with_reducible exact Calls.quiet_of_same (rbit4_c st st0 st1 1 Y4.out _) | with_reducible exact Calls.quiet_of_same (rbit5_c st st0 st1 0 Y5.out _))))
                go_wp2
                go_meet
                refine ⟨?_, P0.out.drewN _, K0.out.drewN _⟩
                rw [HI.out]
                unfold isV6
                try (have z0_ := X0.out)
                try (have z1_ := X1.out)
                try (have z2_ := X2.out)
                simp [*]
              · replace Y5 := Lib.hid (show bit st 5 = 1 from Y5.out)
                by_cases x2 : x = 2
                · have q2 : (x == 2) = true := by simpa using x2
                  have X2 := Lib.hid x2
                  clear x2
                  go_quiet (((go_at_call 63; first | with_reducible exact Calls.quiet_of_same (rbit6_c st st0 st1 0 Y6.out _) | with_reducible exact Calls.quiet_of_same (rbit3_c st st0 st1 1 Y3.out _) | with_reducible exact Calls.quiet_of_same (rbit4_c st st0 st1 1 Y4.out _) | with_reducible exact Calls.quiet_of_same (rbit5_c st st0 st1 1 Y5.out _))))
                  go_wp2
                  go_meet
                  refine ⟨?_, P0.out.drewN _, K0.out.drewN _⟩
                  rw [HI.out]
                  unfold isV6
                  try (have z0_ := X0.out)
                  try (have z1_ := X1.out)
                  try (have z2_ := X2.out)
                  simp [*]
                · have q2 : (x == 2) = false := by simpa using x2
                  have X2 := Lib.hid x2
                  clear x2
                  go_quiet (((go_at_call 63; first | with_reducible exact Calls.quiet_of_same (rbit6_c st st0 st1 0 Y6.out _) | with_reducible exact Calls.quiet_of_same (rbit3_c st st0 st1 1 Y3.out _) | with_reducible exact Calls.quiet_of_same (rbit4_c st st0 st1 1 Y4.out _) | with_reducible exact Calls.quiet_of_same (rbit5_c st st0 st1 1 Y5.out _))))
                  go_wp2
                  go_meet
                  refine ⟨?_, P0.out.drewN _, K0.out.drewN _⟩
                  rw [HI.out]
                  unfold isV6
                  try (have z0_ := X0.out)
                  try (have z1_ := X1.out)
                  try (have z2_ := X2.out)
                  simp [*]
    · replace Y6 := Lib.hid (show bit st 6 = 1 from Y6.out)
      cases e
      · have he := HE.out
        cases b3
        · replace Y3 := Lib.hid (show bit st 3 = 0 from Y3.out)
          cases b4
          · replace Y4 := Lib.hid (show bit st 4 = 0 from Y4.out)
            cases b5
            · replace Y5 := Lib.hid (show bit st 5 = 0 from Y5.out)
              obtain ⟨hc, hf⟩ := P0.out.R.out
              have e_L := rc_i v s (m) 14 L (by decide) (by decide) (HL.out)
              have e_ly := rc_u v s (m) 7 ly (by decide) (by decide) (by decide) (by decide) (Hly.out)
              go_quiet (((go_at_call 63; first | with_reducible exact Calls.quiet_of_same (rbit6_c st st0 st1 1 Y6.out _) | with_reducible exact Calls.quiet_of_same (rbit3_c st st0 st1 0 Y3.out _) | with_reducible exact Calls.quiet_of_same (rbit4_c st st0 st1 0 Y4.out _) | with_reducible exact Calls.quiet_of_same (rbit5_c st st0 st1 0 Y5.out _))))
              go_wp2
              go_meet
              refine ⟨?_, P0.out.drewN _, K0.out.drewN _⟩
              rw [HI.out]
              unfold isV6
              try (have z0_ := X0.out)
              try (have z1_ := X1.out)
              try (have z2_ := X2.out)
              simp [*]
            · replace Y5 := Lib.hid (show bit st 5 = 1 from Y5.out)
              by_cases x2 : x = 2
              · have q2 : (x == 2) = true := by simpa using x2
                have X2 := Lib.hid x2
                clear x2
                obtain ⟨hc, hf⟩ := P0.out.R.out
                have e_L := rc_i v s (m) 14 L (by decide) (by decide) (HL.out)
                have e_ly := rc_u v s (m) 7 ly (by decide) (by decide) (by decide) (by decide) (Hly.out)
                go_quiet (((go_at_call 63; first | with_reducible exact Calls.quiet_of_same (rbit6_c st st0 st1 1 Y6.out _) | with_reducible exact Calls.quiet_of_same (rbit3_c st st0 st1 0 Y3.out _) | with_reducible exact Calls.quiet_of_same (rbit4_c st st0 st1 0 Y4.out _) | with_reducible exact Calls.quiet_of_same (rbit5_c st st0 st1 1 Y5.out _))))
                go_wp2
                go_meet
                refine ⟨?_, P0.out.drewN _, K0.out.drewN _⟩
                rw [HI.out]
                unfold isV6
                try (have z0_ := X0.out)
                try (have z1_ := X1.out)
                try (have z2_ := X2.out)
                simp [*]
              · have q2 : (x == 2) = false := by simpa using x2
                have X2 := Lib.hid x2
                clear x2
                obtain ⟨hc, hf⟩ := P0.out.R.out
                have e_L := rc_i v s (m) 14 L (by decide) (by decide) (HL.out)
                have e_ly := rc_u v s (m) 7 ly (by decide) (by decide) (by decide) (by decide) (Hly.out)
                go_quiet (((go_at_call 63; first | with_reducible exact Calls.quiet_of_same (rbit6_c st st0 st1 1 Y6.out _) | with_reducible exact Calls.quiet_of_same (rbit3_c st st0 st1 0 Y3.out _) | with_reducible exact Calls.quiet_of_same (rbit4_c st st0 st1 0 Y4.out _) | with_reducible exact Calls.quiet_of_same (rbit5_c st st0 st1 1 Y5.out _))))
                go_wp2
                go_meet
                refine ⟨?_, P0.out.drewN _, K0.out.drewN _⟩
                rw [HI.out]
                unfold isV6
                try (have z0_ := X0.out)
                try (have z1_ := X1.out)
                try (have z2_ := X2.out)
                simp [*]
          · replace Y4 := Lib.hid (show bit st 4 = 1 from Y4.out)
            by_cases x1 : x = 1
            · have q1 : (x == 1) = true := by simpa using x1
              have X1 := Lib.hid x1
              clear x1
              obtain ⟨hc, hf⟩ := P0.out.R.out
              have e_L := rc_i v s (m) 14 L (by decide) (by decide) (HL.out)
              have e_ly := rc_u v s (m) 7 ly (by decide) (by decide) (by decide) (by decide) (Hly.out)
              go_quiet (((go_at_call 63; first | with_reducible exact Calls.quiet_of_same (rbit6_c st st0 st1 1 Y6.out _) | with_reducible exact Calls.quiet_of_same (rbit3_c st st0 st1 0 Y3.out _) | with_reducible exact Calls.quiet_of_same (rbit4_c st st0 st1 1 Y4.out _))))
              go_wp2
              go_meet
              refine ⟨?_, P0.out.drewN _, K0.out.drewN _⟩
              rw [HI.out]
              unfold isV6
              try (have z0_ := X0.out)
              try (have z1_ := X1.out)
              try (have z2_ := X2.out)
              simp [*]
            · have q1 : (x == 1) = false := by simpa using x1
              have X1 := Lib.hid x1
              clear x1
              cases b5
              · replace Y5 := Lib.hid (show bit st 5 = 0 from Y5.out)
                obtain ⟨hc, hf⟩ := P0.out.R.out
                have e_L := rc_i v s (m) 14 L (by decide) (by decide) (HL.out)
                have e_ly := rc_u v s (m) 7 ly (by decide) (by decide) (by decide) (by decide) (Hly.out)
                go_quiet (((go_at_call 63; first | with_reducible exact Calls.quiet_of_same (rbit6_c st st0 st1 1 Y6.out _) | with_reducible exact Calls.quiet_of_same (rbit3_c st st0 st1 0 Y3.out _) | with_reducible exact Calls.quiet_of_same (rbit4_c st st0 st1 1 Y4.out _) | with_reducible exact Calls.quiet_of_same (rbit5_c st st0 st1 0 Y5.out _))))
                go_wp2
                go_meet
                refine ⟨?_, P0.out.drewN _, K0.out.drewN _⟩
                rw [HI.out]
                unfold isV6
                try (have z0_ := X0.out)
                try (have z1_ := X1.out)
                try (have z2_ := X2.out)
                simp [*]
              · replace Y5 := Lib.hid (show bit st 5 = 1 from Y5.out)
                by_cases x2 : x = 2
                · have q2 : (x == 2) = true := by simpa using x2
                  have X2 := Lib.hid x2
                  clear x2
                  obtain ⟨hc, hf⟩ := P0.out.R.out
                  have e_L := rc_i v s (m) 14 L (by decide) (by decide) (HL.out)
                  have e_ly := rc_u v s (m) 7 ly (by decide) (by decide) (by decide) (by decide) (Hly.out)
                  go_quiet (((go_at_call 63; first | with_reducible exact Calls.quiet_of_same (rbit6_c st st0 st1 1 Y6.out _) | with_reducible exact Calls.quiet_of_same (rbit3_c st st0 st1 0 Y3.out _) | with_reducible exact Calls.quiet_of_same (rbit4_c st st0 st1 1 Y4.out _) | with_reducible exact Calls.quiet_of_same (rbit5_c st st0 st1 1 Y5.out _))))
                  go_wp2
                  go_meet
                  refine ⟨?_, P0.out.drewN _, K0.out.drewN _⟩
                  rw [HI.out]
                  unfold isV6
                  try (have z0_ := X0.out)
                  try (have z1_ := X1.out)
                  try (have z2_ := X2.out)
                  simp [*]
                · have q2 : (x == 2) = false := by simpa using x2
                  have X2 := Lib.hid x2
                  clear x2
                  obtain ⟨hc, hf⟩ := P0.out.R.out
                  have e_L := rc_i v s (m) 14 L (by decide) (by decide) (HL.out)
                  have e_ly := rc_u v s (m) 7 ly (by decide) (by decide) (by decide) (by decide) (Hly.out)
                  go_quiet (((go_at_call 63; first | with_reducible exact Calls.quiet_of_same (rbit6_c st st0 st1 1 Y6.out _) | with_reducible exact Calls.quiet_of_same (rbit3_c st st0 st1 0 Y3.out _) | with_reducible exact Calls.quiet_of_same (rbit4_c st st0 st1 1 Y4.out _) | with_reducible exact Calls.quiet_of_same (rbit5_c st st0 st1 1 Y5.out _))))
                  go_wp2
                  go_meet
                  refine ⟨?_, P0.out.drewN _, K0.out.drewN _⟩
                  rw [HI.out]
                  unfold isV6
                  try (have z0_ := X0.out)
                  try (have z1_ := X1.out)
                  try (have z2_ := X2.out)
                  simp [*]
        · replace Y3 := Lib.hid (show bit st 3 = 1 from Y3.out)
          by_cases x0 : x = 0
          · have q0 : (x == 0) = true := by simpa using x0
            have X0 := Lib.hid x0
            clear x0
            obtain ⟨hc, hf⟩ := P0.out.R.out
            have e_L := rc_i v s (m) 14 L (by decide) (by decide) (HL.out)
            have e_ly := rc_u v s (m) 7 ly (by decide) (by decide) (by decide) (by decide) (Hly.out)
            go_quiet (((go_at_call 63; first | with_reducible exact Calls.quiet_of_same (rbit6_c st st0 st1 1 Y6.out _) | with_reducible exact Calls.quiet_of_same (rbit3_c st st0 st1 1 Y3.out _))))
            go_wp2
            go_meet
            refine ⟨?_, P0.out.drewN _, K0.out.drewN _⟩
            rw [HI.out]
            unfold isV6
            try (have z0_ := X0.out)
            try (have z1_ := X1.out)
            try (have z2_ := X2.out)
            simp [*]
          · have q0 : (x == 0) = false := by simpa using x0
            have X0 := Lib.hid x0
            clear x0
            cases b4
            · replace Y4 := Lib.hid (show bit st 4 = 0 from Y4.out)
              cases b5
              · replace Y5 := Lib.hid (show bit st 5 = 0 from Y5.out)
                obtain ⟨hc, hf⟩ := P0.out.R.out
                have e_L := rc_i v s (m) 14 L (by decide) (by decide) (HL.out)
                have e_ly := rc_u v s (m) 7 ly (by decide) (by decide) (by decide) (by decide) (Hly.out)
                go_quiet (((go_at_call 63; first | with_reducible exact Calls.quiet_of_same (rbit6_c st st0 st1 1 Y6.out _) | with_reducible exact Calls.quiet_of_same (rbit3_c st st0 st1 1 Y3.out _) | with_reducible exact Calls.quiet_of_same (rbit4_c st st0 st1 0 Y4.out _) | with_reducible exact Calls.quiet_of_same (rbit5_c st st0 st1 0 Y5.out _))))
                go_wp2
                go_meet
                refine ⟨?_, P0.out.drewN _, K0.out.drewN _⟩
                rw [HI.out]
                unfold isV6
                try (have z0_ := X0.out)
                try (have z1_ := X1.out)
                try (have z2_ := X2.out)
                simp [*]
              · replace Y5 := Lib.hid (show bit st 5 = 1 from Y5.out)
                by_cases x2 : x = 2
                · have q2 : (x == 2) = true := by simpa using x2
                  have X2 := Lib.hid x2
                  clear x2
                  obtain ⟨hc, hf⟩ := P0.out.R.out
                  have e_L := rc_i v s (m) 14 L (by decide) (by decide) (HL.out)
                  have e_ly := rc_u v s (m) 7 ly (by decide) (by decide) (by decide) (by decide) (Hly.out)
                  go_quiet (((go_at_call 63; first | with_reducible exact Calls.quiet_of_same (rbit6_c st st0 st1 1 Y6.out _) | with_reducible exact Calls.quiet_of_same (rbit3_c st st0 st1 1 Y3.out _) | with_reducible exact Calls.quiet_of_same (rbit4_c st st0 st1 0 Y4.out _) | with_reducible exact Calls.quiet_of_same (rbit5_c st st0 st1 1 Y5.out _))))
                  go_wp2
                  go_meet
                  refine ⟨?_, P0.out.drewN _, K0.out.drewN _⟩
                  rw [HI.out]
                  unfold isV6
                  try (have z0_ := X0.out)
                  try (have z1_ := X1.out)
                  try (have z2_ := X2.out)
                  simp [*]
                · have q2 : (x == 2) = false := by simpa using x2
                  have X2 := Lib.hid x2
                  clear x2
                  obtain ⟨hc, hf⟩ := P0.out.R.out
                  have e_L := rc_i v s (m) 14 L (by decide) (by decide) (HL.out)
                  have e_ly := rc_u v s (m) 7 ly (by decide) (by decide) (by decide) (by decide) (Hly.out)
                  go_quiet (((go_at_call 63; first | with_reducible exact Calls.quiet_of_same (rbit6_c st st0 st1 1 Y6.out _) | with_reducible exact Calls.quiet_of_same (rbit3_c st st0 st1 1 Y3.out _) | with_reducible exact Calls.quiet_of_same (rbit4_c st st0 st1 0 Y4.out _) | with_reducible exact Calls.quiet_of_same (rbit5_c st st0 st1 1 Y5.out _))))
                  go_wp2
                  go_meet
                  refine ⟨?_, P0.out.drewN _, K0.out.drewN _⟩
                  rw [HI.out]
                  unfold isV6
                  try (have z0_ := X0.out)
                  try (have z1_ := X1.out)
                  try (have z2_ := X2.out)
                  simp [*]
            · replace Y4 := Lib.hid (show bit st 4 = 1 from Y4.out)
              by_cases x1 : x = 1
              · have q1 : (x == 1) = true := by simpa using x1
                have X1 := Lib.hid x1
                clear x1
                obtain ⟨hc, hf⟩ := P0.out.R.out
                have e_L := rc_i v s (m) 14 L (by decide) (by decide) (HL.out)
                have e_ly := rc_u v s (m) 7 ly (by decide) (by decide) (by decide) (by decide) (Hly.out)
                go_quiet (((go_at_call 63; first | with_reducible exact Calls.quiet_of_same (rbit6_c st st0 st1 1 Y6.out _) | with_reducible exact Calls.quiet_of_same (rbit3_c st st0 st1 1 Y3.out _) | with_reducible exact Calls.quiet_of_same (rbit4_c st st0 st1 1 Y4.out _))))
                go_wp2
                go_meet
                refine ⟨?_, P0.out.drewN _, K0.out.drewN _⟩
                rw [HI.out]
                unfold isV6
                try (have z0_ := X0.out)
                try (have z1_ := X1.out)
                try (have z2_ := X2.out)
                simp [*]
              · have q1 : (x == 1) = false := by simpa using x1
                have X1 := Lib.hid x1
                clear x1
                cases b5
                · replace Y5 := Lib.hid (show bit st 5 = 0 from Y5.out)
                  obtain ⟨hc, hf⟩ := P0.out.R.out
                  have e_L := rc_i v s (m) 14 L (by decide) (by decide) (HL.out)
                  have e_ly := rc_u v s (m) 7 ly (by decide) (by decide) (by decide) (by decide) (Hly.out)
                  go_quiet (((go_at_call 63; first | with_reducible exact Calls.quiet_of_same (rbit6_c st st0 st1 1 Y6.out _) | with_reducible exact Calls.quiet_of_same (rbit3_c st st0 st1 1 Y3.out _) | with_reducible exact Calls.quiet_of_same (rbit4_c st st0 st1 1 Y4.out _) | with_reducible exact Calls.quiet_of_same (rbit5_c st st0 st1 0 Y5.out _))))
                  go_wp2
                  go_meet
                  refine ⟨?_, P0.out.drewN _, K0.out.drewN _⟩
                  rw [HI.out]
                  unfold isV6
                  try (have z0_ := X0.out)
                  try (have z1_ := X1.out)
                  try (have z2_ := X2.out)
                  simp [*]
                · replace Y5 := Lib.hid (show bit st 5 = 1 from Y5.out)
                  by_cases x2 : x = 2
                  · have q2 : (x == 2) = true := by simpa using x2
                    have X2 := Lib.hid x2
                    clear x2
                    obtain ⟨hc, hf⟩ := P0.out.R.out
                    have e_L := rc_i v s (m) 14 L (by decide) (by decide) (HL.out)
                    have e_ly := rc_u v s (m) 7 ly (by decide) (by decide) (by decide) (by decide) (Hly.out)
                    go_quiet (((go_at_call 63; first | with_reducible exact Calls.quiet_of_same (rbit6_c st st0 st1 1 Y6.out _) | with_reducible exact Calls.quiet_of_same (rbit3_c st st0 st1 1 Y3.out _) | with_reducible exact Calls.quiet_of_same (rbit4_c st st0 st1 1 Y4.out _) | with_reducible exact Calls.quiet_of_same (rbit5_c st st0 st1 1 Y5.out _))))
                    go_wp2
                    go_meet
                    refine ⟨?_, P0.out.drewN _, K0.out.drewN _⟩
                    rw [HI.out]
                    unfold isV6
                    try (have z0_ := X0.out)
                    try (have z1_ := X1.out)
                    try (have z2_ := X2.out)
                    simp [*]
                  · have q2 : (x == 2) = false := by simpa using x2
                    have X2 := Lib.hid x2
                    clear x2
                    obtain ⟨hc, hf⟩ := P0.out.R.out
                    have e_L := rc_i v s (m) 14 L (by decide) (by decide) (HL.out)
                    have e_ly := rc_u v s (m) 7 ly (by decide) (by decide) (by decide) (by decide) (Hly.out)
                    go_quiet (((go_at_call 63; first | with_reducible exact Calls.quiet_of_same (rbit6_c st st0 st1 1 Y6.out _) | with_reducible exact Calls.quiet_of_same (rbit3_c st st0 st1 1 Y3.out _) | with_reducible exact Calls.quiet_of_same (rbit4_c st st0 st1 1 Y4.out _) | with_reducible exact Calls.quiet_of_same (rbit5_c st st0 st1 1 Y5.out _))))
                    go_wp2
                    go_meet
                    refine ⟨?_, P0.out.drewN _, K0.out.drewN _⟩
                    rw [HI.out]
                    unfold isV6
                    try (have z0_ := X0.out)
                    try (have z1_ := X1.out)
                    try (have z2_ := X2.out)
                    simp [*]
      · have he := HE.out
        obtain ⟨hc, hf⟩ := P0.out.R.out
        have e_L := rc_i v s (m) 14 L (by decide) (by decide) (HL.out)
        have e_ly := rc_u v s (m) 7 ly (by decide) (by decide) (by decide) (by decide) (Hly.out)
        go_quiet (((go_at_call 63; first | with_reducible exact Calls.quiet_of_same (rbit6_c st st0 st1 1 Y6.out _))))
        go_wp2
        go_meet
        refine ⟨?_, P0.out.drewN _, K0.out.drewN _⟩
        rw [HI.out]
        unfold isV6
        try (have z0_ := X0.out)
        try (have z1_ := X1.out)
        try (have z2_ := X2.out)
        simp [*]
  case rest =>
    obtain ⟨rfl, hP, hK⟩ := hcut
    have P1 := Lib.hid hP
    have K1 := Lib.hid hK
    clear hP hK P0 K0
    obtain ⟨u1, hu⟩ : ∃ q_, q_ = wc := ⟨_, rfl⟩
    subst hu
    have HI2 := HI.out
    rw [← HI2] at HZZ
    clear HI2 HI
    cases ii
    · obtain rfl : zz = false := by rw [← HZZ.out]; rfl
      obtain rfl : rr = 0 := by rw [← HR.out]; rfl
      obtain ⟨hc, hf⟩ := P1.out.R.out
      have e_ac := rc_b v s m ac Hac.out
      go_wp2_with (refine store_rb P1.out.R rfl _ _ rfl rfl _ rfl ?_)
      intro u2 hP hk
      clear hc hf e_ac
      replace hP : Has u2 r (encR v s (upd m 8366 (tf false))) := hP
      have P2 := Lib.hid (P1.out.setR 8366 (tf false) (by omega) hP hk)
      have K2 := Lib.hid (K1.out.trans (Keep3.ofR hk))
      clear hP hk P1 K1
      try simp only [Act.put]
      go_wp2
      all_goals first | exact bodyPost_ret (v := .int .u8 0) (by simp [results, Try.results51, go_sem]) rfl ⟨rfl, P2.out, K2.out⟩ | exact bodyPost_end (v := .int .u8 0) (by simp [results, Try.results51, go_sem]) rfl ⟨rfl, P2.out, K2.out⟩
    · cases zo
      · obtain rfl : zz = false := by rw [← HZZ.out]; rfl
        obtain rfl : rr = 0 := by rw [← HR.out]; rfl
        go_wp2_with (fail)
        with_reducible refine (ron_c r v s m c Hc.out c0 c1 false HZ.out _ P1.out).mono ?_
        rintro q_ w' ⟨rfl, rfl⟩
        obtain ⟨hc, hf⟩ := P1.out.R.out
        have e_ac := rc_b v s m ac Hac.out
        go_wp2_with (refine store_rb P1.out.R rfl _ _ rfl rfl _ rfl ?_)
        intro u2 hP hk
        clear hc hf e_ac
        replace hP : Has u2 r (encR v s (upd m 8366 (tf false))) := hP
        have P2 := Lib.hid (P1.out.setR 8366 (tf false) (by omega) hP hk)
        have K2 := Lib.hid (K1.out.trans (Keep3.ofR hk))
        clear hP hk P1 K1
        try simp only [Act.put]
        go_wp2
        all_goals first | exact bodyPost_ret (v := .int .u8 0) (by simp [results, Try.results51, go_sem]) rfl ⟨rfl, P2.out, K2.out⟩ | exact bodyPost_end (v := .int .u8 0) (by simp [results, Try.results51, go_sem]) rfl ⟨rfl, P2.out, K2.out⟩
      · obtain rfl : zz = true := by rw [← HZZ.out]; rfl
        cases ac
        · obtain rfl : rr = 2 := by rw [← HR.out]; rfl
          go_wp2_with (fail)
          with_reducible refine (ron_c r v s m c Hc.out c0 c1 true HZ.out _ P1.out).mono ?_
          rintro q_ w' ⟨rfl, rfl⟩
          obtain ⟨hc, hf⟩ := P1.out.R.out
          have e_ac := rc_b v s m false Hac.out
          go_wp2_with (refine store_rb P1.out.R rfl _ _ rfl rfl _ rfl ?_)
          intro u2 hP hk
          clear hc hf e_ac
          replace hP : Has u2 r (encR v s (upd m 8366 (tf true))) := hP
          have P2 := Lib.hid (P1.out.setR 8366 (tf true) (by omega) hP hk)
          have K2 := Lib.hid (K1.out.trans (Keep3.ofR hk))
          clear hP hk P1 K1
          try simp only [Act.put]
          go_wp2
          all_goals first | exact bodyPost_ret (v := .int .u8 2) (by simp [results, Try.results51, go_sem]) rfl ⟨rfl, P2.out, K2.out⟩ | exact bodyPost_end (v := .int .u8 2) (by simp [results, Try.results51, go_sem]) rfl ⟨rfl, P2.out, K2.out⟩
        · obtain rfl : rr = 0 := by rw [← HR.out]; rfl
          go_wp2_with (fail)
          with_reducible refine (ron_c r v s m c Hc.out c0 c1 true HZ.out _ P1.out).mono ?_
          rintro q_ w' ⟨rfl, rfl⟩
          obtain ⟨hc, hf⟩ := P1.out.R.out
          have e_ac := rc_b v s m true Hac.out
          go_wp2_with (refine store_rb P1.out.R rfl _ _ rfl rfl _ rfl ?_)
          intro u2 hP hk
          clear hc hf e_ac
          replace hP : Has u2 r (encR v s (upd m 8366 (tf true))) := hP
          have P2 := Lib.hid (P1.out.setR 8366 (tf true) (by omega) hP hk)
          have K2 := Lib.hid (K1.out.trans (Keep3.ofR hk))
          clear hP hk P1 K1
          try simp only [Act.put]
          go_wp2
          all_goals first | exact bodyPost_ret (v := .int .u8 0) (by simp [results, Try.results51, go_sem]) rfl ⟨rfl, P2.out, K2.out⟩ | exact bodyPost_end (v := .int .u8 0) (by simp [results, Try.results51, go_sem]) rfl ⟨rfl, P2.out, K2.out⟩
/-- The signal is reckoned anew. -/
theorem rstat_c (r v s : Nat) (m : M) (ok : Ok m) (w : World) (h : RU w r v s m) : Calls Try.prog 51 #[.pointer (some ⟨r, 0, none⟩)] w fun q_ w' => q_ = .returned (.int .u8 (askM m)) ∧ RU w' r v s (sgM m) ∧ Keep3 r v s w w' := by
  have B := ok.byte
  have hs : sgM m = upd m 8366 (tf (sigM m)) := rfl
  rw [hs]
  refine rstat_w r v s m _ rfl (B 8352 (by decide) (by decide)).1 (B 8352 (by decide) (by decide)).2 _ rfl (B 8353 (by decide) (by decide)).1 (B 8353 (by decide) (by decide)).2 _ rfl (B 8356 (by decide) (by decide)).1 (B 8356 (by decide) (by decide)).2 _ rfl (B 8357 (by decide) (by decide)).1 (B 8357 (by decide) (by decide)).2 _ rfl (B 8363 (by decide) (by decide)).1 (B 8363 (by decide) (by decide)).2 _ rfl _ rfl _ _ _ _ _ rfl rfl rfl rfl rfl _ ?_ _ rfl _ ?_ w h
  · unfold isV6 sigM sigV
    have e : (m 8356 == m 8357) = decide (m 8356 = m 8357) := rfl
    rw [e, Bool.and_comm]
  · unfold askM
    by_cases a : m 8366 = 0
    · simp [a]
    · simp [a]
end Go.Proofs.Ytpfbodmadmneiaa
