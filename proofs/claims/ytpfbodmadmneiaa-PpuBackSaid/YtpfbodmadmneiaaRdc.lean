/-
  A sprite's colour at any place, and the sprites of a line, as the document tells them: for every memory of at most 8192 bytes.
-/
import Derived.Test.YtpfbodmadmneiaaRd
import Derived.Deep.Cut
import Derived.BigQuiet
import Derived.WalkSmall
import Derived.Deep.LoopGhost
import Derived.OwnWalk
import Derived.Laws.AppendOwn
import Derived.Laws.OwnMore
namespace Go.Proofs.Ytpfbodmadmneiaa
open Go.ChangeShapes Go.WideShapes Go.ChangeAt Go.RowKit
set_option linter.unusedVariables false
set_option linter.unusedSimpArgs false
set_option maxRecDepth 100000
theorem dotr_c (c bk fi se : Int) (c0 : 0 ≤ c) (c1 : c < 256) (bk0 : 0 ≤ bk) (bk1 : bk < 256) (fi0 : 0 ≤ fi) (fi1 : fi < 256) (se0 : 0 ≤ se) (se1 : se < 256) (vr ov : Value) (V O : M) (n x line : Int) (n0 : -9223372036854775808 ≤ n) (n1 : n ≤ 9223372036854775807) (x0 : -9223372036854775808 ≤ x) (x1 : x ≤ 9223372036854775807) (line0 : -9223372036854775808 ≤ line) (line1 : line ≤ 9223372036854775807) (w : World) (hM0 : Mem w vr V) (hM1 : Mem w ov O) : Calls Try.prog 65 #[.agg #[.int .u8 c, .int .u8 bk, .int .u8 fi, .int .u8 se], vr, ov, .int .i64 n, .int .i64 x, .int .i64 line] w fun q_ w' => q_ = .returned (.tuple #[.int .u8 (seeV V O c n x line), .bool (decide (seeV V O c n x line ≠ 0))]) ∧ Below w.heap.size w w' := by
  unfold seeV
  by_cases h : 0 ≤ n ∧ n < 40
  · rw [if_pos h]
    obtain ⟨m, rfl⟩ := Int.eq_ofNat_of_zero_le h.1
    by_cases hr : x < -1000 ∨ 1000 < x ∨ line < -1000 ∨ 1000 < line
    · rw [colV_out V O c ((m : Int).toNat) x line hM1.ok hr]
      exact dotr_out c bk fi se c0 c1 bk0 bk1 fi0 fi1 se0 se1 vr ov m x line n0 n1 x0 x1 line0 line1 (by omega) w
    · by_cases hb : O (4 * m) - 16 ≤ line ∧ line < O (4 * m) - 16 + hgt c ∧ O (4 * m + 1) - 8 ≤ x ∧ x < O (4 * m + 1)
      · rcases bit_bd (O (4 * m + 3)) 5 with h5 | h5 <;> rcases bit_bd (O (4 * m + 3)) 6 with h6 | h6 <;> rcases bit_bd c 2 with h2 | h2
        · exact dotr_0000 c bk fi se c0 c1 bk0 bk1 fi0 fi1 se0 se1 vr ov V O m (by omega) x line (by omega) (by omega) (by omega) (by omega) hb h5 h6 h2 (by unfold hgt at hb; rw [h2, if_neg (by decide)] at hb; omega) w hM0 hM1
        · by_cases hu : 7 < (line - (O (4 * m) - 16))
          · exact dotr_0011 c bk fi se c0 c1 bk0 bk1 fi0 fi1 se0 se1 vr ov V O m (by omega) x line (by omega) (by omega) (by omega) (by omega) hb h5 h6 h2 hu w hM0 hM1
          · exact dotr_0010 c bk fi se c0 c1 bk0 bk1 fi0 fi1 se0 se1 vr ov V O m (by omega) x line (by omega) (by omega) (by omega) (by omega) hb h5 h6 h2 hu w hM0 hM1
        · exact dotr_0100 c bk fi se c0 c1 bk0 bk1 fi0 fi1 se0 se1 vr ov V O m (by omega) x line (by omega) (by omega) (by omega) (by omega) hb h5 h6 h2 (by unfold hgt at hb; rw [h2, if_neg (by decide)] at hb; omega) w hM0 hM1
        · by_cases hu : 7 < (15 - (line - (O (4 * m) - 16)))
          · exact dotr_0111 c bk fi se c0 c1 bk0 bk1 fi0 fi1 se0 se1 vr ov V O m (by omega) x line (by omega) (by omega) (by omega) (by omega) hb h5 h6 h2 hu w hM0 hM1
          · exact dotr_0110 c bk fi se c0 c1 bk0 bk1 fi0 fi1 se0 se1 vr ov V O m (by omega) x line (by omega) (by omega) (by omega) (by omega) hb h5 h6 h2 hu w hM0 hM1
        · exact dotr_1000 c bk fi se c0 c1 bk0 bk1 fi0 fi1 se0 se1 vr ov V O m (by omega) x line (by omega) (by omega) (by omega) (by omega) hb h5 h6 h2 (by unfold hgt at hb; rw [h2, if_neg (by decide)] at hb; omega) w hM0 hM1
        · by_cases hu : 7 < (line - (O (4 * m) - 16))
          · exact dotr_1011 c bk fi se c0 c1 bk0 bk1 fi0 fi1 se0 se1 vr ov V O m (by omega) x line (by omega) (by omega) (by omega) (by omega) hb h5 h6 h2 hu w hM0 hM1
          · exact dotr_1010 c bk fi se c0 c1 bk0 bk1 fi0 fi1 se0 se1 vr ov V O m (by omega) x line (by omega) (by omega) (by omega) (by omega) hb h5 h6 h2 hu w hM0 hM1
        · exact dotr_1100 c bk fi se c0 c1 bk0 bk1 fi0 fi1 se0 se1 vr ov V O m (by omega) x line (by omega) (by omega) (by omega) (by omega) hb h5 h6 h2 (by unfold hgt at hb; rw [h2, if_neg (by decide)] at hb; omega) w hM0 hM1
        · by_cases hu : 7 < (15 - (line - (O (4 * m) - 16)))
          · exact dotr_1111 c bk fi se c0 c1 bk0 bk1 fi0 fi1 se0 se1 vr ov V O m (by omega) x line (by omega) (by omega) (by omega) (by omega) hb h5 h6 h2 hu w hM0 hM1
          · exact dotr_1110 c bk fi se c0 c1 bk0 bk1 fi0 fi1 se0 se1 vr ov V O m (by omega) x line (by omega) (by omega) (by omega) (by omega) hb h5 h6 h2 hu w hM0 hM1
      · have e : colV V O c ((m : Int).toNat) x line = 0 := by
          unfold colV inV
          refine if_neg fun hh => hb ?_
          rw [Bool.and_eq_true, decide_eq_true_eq, decide_eq_true_eq] at hh
          exact ⟨hh.1.1, hh.1.2, hh.2⟩
        have := dotr_no c bk fi se c0 c1 bk0 bk1 fi0 fi1 se0 se1 vr ov V O m (by omega) x line (by omega) (by omega) (by omega) (by omega) e hb w hM0 hM1
        rw [e]
        exact this
  · rw [if_neg h]
    exact dotr_out c bk fi se c0 c1 bk0 bk1 fi0 fi1 se0 se1 vr ov n x line n0 n1 x0 x1 line0 line1 (by omega) w
theorem scan_out (c line : Int) (O : M) (ok : okB O) (h : line < -1000 ∨ 1000 < line) : scN c O line 40 = (0, zeroM) :=
  sc_none c O line (fun n hn => by
    unfold inV
    have h1 := ok (4 * n)
    have h3 := hgt_is c
    rcases h with h | h
    · rw [decide_eq_false (show ¬ O (4 * n) - 16 ≤ line by omega)]; rfl
    · rw [decide_eq_false (show ¬ line < O (4 * n) - 16 + hgt c by omega), Bool.and_false]) 40 (Nat.le_refl _)
set_option maxHeartbeats 1000000 in
theorem rscan_out (c bk fi se : Int) (c0 : 0 ≤ c) (c1 : c < 256) (bk0 : 0 ≤ bk) (bk1 : bk < 256) (fi0 : 0 ≤ fi) (fi1 : fi < 256) (se0 : 0 ≤ se) (se1 : se < 256) (ov : Value) (O : M) (line : Int) (line0 : -9223372036854775808 ≤ line) (line1 : line ≤ 9223372036854775807) (h : line < -1000 ∨ 1000 < line) (w : World) (hM0 : Mem w ov O) : Calls Try.prog 60 #[.agg #[.int .u8 c, .int .u8 bk, .int .u8 fi, .int .u8 se], ov, .int .i64 line] w  (RowE (scN c O line 40).1 (scN c O line 40).2 w.heap.size w) := by
  suffices hall : ∀ (n_ : Nat) (W0 : World), n_ ≤ W0.heap.size → Below n_ W0 w → MemB n_ W0 ov O → Calls Try.prog 60 #[.agg #[.int .u8 c, .int .u8 bk, .int .u8 fi, .int .u8 se], ov, .int .i64 line] w  (RowE (scN c O line 40).1 (scN c O line 40).2 n_ W0) from hall _ _ (Nat.le_refl _) (Below.refl _ _) hM0
  clear hM0
  intro n_ W0 hn hB hM0
  have HN := Lib.hid hn
  have BB := Lib.hid hB
  clear hn hB
  have HM0 := Lib.hid hM0
  clear hM0
  rw [scan_out c line O HM0.out.ok h]
  by_cases h1 : line < -1000
  · skip
    have d1 : decide (line < -1000) = true := decide_eq_true h1
    go_enter Try.func60, Try.ntmps60
    have Q_ := own1 w (.cells #[.int .u8 c, .int .u8 bk, .int .u8 fi, .int .u8 se] 74)
    have B0 := Lib.hid (vian HN.out BB.out Q_)
    have P0 := Lib.hid (show Has (w.alloc (.cells #[.int .u8 c, .int .u8 bk, .int .u8 fi, .int .u8 se] 74)) w.heap.size #[.int .u8 c, .int .u8 bk, .int .u8 fi, .int .u8 se] by simpa using Has.new w #[.int .u8 c, .int .u8 bk, .int .u8 fi, .int .u8 se] 74)
    have LP := Lib.hid (show n_ ≤ w.heap.size + 0 from Nat.le_add_right_of_le (Nat.le_trans HN.out BB.out.size))
    simp only [Nat.add_zero] at LP
    clear Q_
    go_upto_region 1 with (fail)
    generalize (w.alloc (.cells #[.int .u8 c, .int .u8 bk, .int .u8 fi, .int .u8 se] 74)) = u0 at B0 P0 ⊢
    generalize w.heap.size = pb at P0 LP  ⊢
    obtain ⟨hc0, hf0⟩ := P0.out.out
    go_wp2_with (fail)
    clear hc0 hf0
    exact bodyPost_ret (v := .slice none 0 0) (by simp [results, Try.results60, go_sem]) rfl (rowE_mk ⟨none, 0, rfl, Nat.le_refl _, fun h => absurd h (by omega)⟩ (Nat.le_refl _) B0.out)
  · skip
    have h2 : 1000 < line := by omega
    have d1 : decide (line < -1000) = false := decide_eq_false h1
    have d2 : decide (1000 < line) = true := decide_eq_true h2
    go_enter Try.func60, Try.ntmps60
    have Q_ := own1 w (.cells #[.int .u8 c, .int .u8 bk, .int .u8 fi, .int .u8 se] 74)
    have B0 := Lib.hid (vian HN.out BB.out Q_)
    have P0 := Lib.hid (show Has (w.alloc (.cells #[.int .u8 c, .int .u8 bk, .int .u8 fi, .int .u8 se] 74)) w.heap.size #[.int .u8 c, .int .u8 bk, .int .u8 fi, .int .u8 se] by simpa using Has.new w #[.int .u8 c, .int .u8 bk, .int .u8 fi, .int .u8 se] 74)
    have LP := Lib.hid (show n_ ≤ w.heap.size + 0 from Nat.le_add_right_of_le (Nat.le_trans HN.out BB.out.size))
    simp only [Nat.add_zero] at LP
    clear Q_
    go_upto_region 1 with (fail)
    generalize (w.alloc (.cells #[.int .u8 c, .int .u8 bk, .int .u8 fi, .int .u8 se] 74)) = u0 at B0 P0 ⊢
    generalize w.heap.size = pb at P0 LP  ⊢
    obtain ⟨hc0, hf0⟩ := P0.out.out
    go_wp2_with (fail)
    clear hc0 hf0
    exact bodyPost_ret (v := .slice none 0 0) (by simp [results, Try.results60, go_sem]) rfl (rowE_mk ⟨none, 0, rfl, Nat.le_refl _, fun h => absurd h (by omega)⟩ (Nat.le_refl _) B0.out)
set_option maxHeartbeats 8000000 in
theorem rscan_in (c bk fi se : Int) (c0 : 0 ≤ c) (c1 : c < 256) (bk0 : 0 ≤ bk) (bk1 : bk < 256) (fi0 : 0 ≤ fi) (fi1 : fi < 256) (se0 : 0 ≤ se) (se1 : se < 256) (ov : Value) (O : M) (line : Int) (line0 : -9223372036854775808 ≤ line) (line1 : line ≤ 9223372036854775807) (m0 : -1000 ≤ line) (m1 : line ≤ 1000) (w : World) (hM0 : Mem w ov O) : Calls Try.prog 60 #[.agg #[.int .u8 c, .int .u8 bk, .int .u8 fi, .int .u8 se], ov, .int .i64 line] w  (RowE (scN c O line 40).1 (scN c O line 40).2 w.heap.size w) := by
  suffices hall : ∀ (n_ : Nat) (W0 : World), n_ ≤ W0.heap.size → Below n_ W0 w → MemB n_ W0 ov O → Calls Try.prog 60 #[.agg #[.int .u8 c, .int .u8 bk, .int .u8 fi, .int .u8 se], ov, .int .i64 line] w  (RowE (scN c O line 40).1 (scN c O line 40).2 n_ W0) from hall _ _ (Nat.le_refl _) (Below.refl _ _) hM0
  clear hM0
  intro n_ W0 hn hB hM0
  have HN := Lib.hid hn
  have BB := Lib.hid hB
  clear hn hB
  have HM0 := Lib.hid hM0
  clear hM0
  have OK := Lib.hid HM0.out.ok
  have AT := Lib.hid (fun (t : Nat) (ht : t < 40) W h => oat0_c ov O t ht W h)
  have HG := Lib.hid (fun W => rheight_c c bk fi se c0 c1 bk0 bk1 fi0 fi1 se0 se1 W)
  have hh := hgt_is c
  have IV := Lib.hid (show ∀ t, inV c O t line = (decide (O (4 * t) - 16 ≤ line) && decide (line < O (4 * t) - 16 + hgt c)) from fun _ => rfl)
  obtain ⟨g8, hg8⟩ : ∃ q_, q_ = hgt c := ⟨_, rfl⟩
  rw [← hg8] at HG hh IV
  clear hg8
  have m2 : ¬ (line < -1000) := by omega
  have m3 : ¬ (1000 < line) := by omega
  have t0 : decide (line < -1000) = false := decide_eq_false m2
  have t1 : decide (1000 < line) = false := decide_eq_false m3
  go_enter Try.func60, Try.ntmps60
  have Q_ := own1 w (.cells #[.int .u8 c, .int .u8 bk, .int .u8 fi, .int .u8 se] 74)
  have B0 := Lib.hid (vian HN.out BB.out Q_)
  have P0 := Lib.hid (show Has (w.alloc (.cells #[.int .u8 c, .int .u8 bk, .int .u8 fi, .int .u8 se] 74)) w.heap.size #[.int .u8 c, .int .u8 bk, .int .u8 fi, .int .u8 se] by simpa using Has.new w #[.int .u8 c, .int .u8 bk, .int .u8 fi, .int .u8 se] 74)
  have LP := Lib.hid (show n_ ≤ w.heap.size + 0 from Nat.le_add_right_of_le (Nat.le_trans HN.out BB.out.size))
  simp only [Nat.add_zero] at LP
  clear Q_
  go_upto_region 1 with (fail)
  generalize (w.alloc (.cells #[.int .u8 c, .int .u8 bk, .int .u8 fi, .int .u8 se] 74)) = u0 at B0 P0 ⊢
  generalize w.heap.size = pb at P0 LP  ⊢
  obtain ⟨n3, V3, hn3, b3, m0, gP, z3, q3⟩ : ∃ (n3 : Nat) (V3 : World), n3 ≤ V3.heap.size ∧ Below n3 V3 u0 ∧ MemB n3 V3 ov O ∧ pb < n3 ∧ (∀ w', Below n3 V3 w' → Below n_ W0 w') ∧ n_ ≤ n3 := ⟨u0.heap.size, u0, Nat.le_refl _, Below.refl _ _, HM0.out.at HN.out B0.out, P0.out.1, fun w' h => vian HN.out B0.out h, Nat.le_trans HN.out B0.out.size⟩
  clear B0 HN HM0
  have HN := Lib.hid hn3
  have B0 := Lib.hid b3
  have ZF := Lib.hid z3
  have QF := Lib.hid q3
  have HM0 := Lib.hid m0
  clear hn3 b3 z3 q3 m0
  have GP := Lib.hid gP
  clear LP gP
  have R0 := Lib.hid (World.ownsRow_nil u0 n3 3 1)
  go_wp2_with (fail)
  go_loopg [7, 8] 40 (fun g' v i wr => ∃ (t N : Nat) (F : M), t ≤ 40 ∧ g' + t = 40 ∧ i = .int .i64 t ∧ scN c O line t = (N, F) ∧ wr.ownsRow n3 3 1 v N (il F N) ∧ Below n3 V3 wr ∧ Has wr pb #[.int .u8 c, .int .u8 bk, .int .u8 fi, .int .u8 se])
  case atStart => exact ⟨0, 0, zeroM, by omega, by omega, rfl, sc_zero c O line, R0.out, B0.out, P0.out⟩
  case round =>
    obtain ⟨u20, hw5⟩ : ∃ q_, q_ = wr := ⟨_, rfl⟩
    subst hw5
    obtain ⟨t, N, F, ht, hg, rfl, hs, hR, hB, hP⟩ := hrel
    have HS := Lib.hid hs
    clear hs
    obtain ⟨a, cp, rfl⟩ := own_slice hR
    have TG := Lib.hid hg
    have B20 := Lib.hid hB
    have P20 := Lib.hid hP
    have R20 := Lib.hid hR
    clear hg hB hP hR B0 P0 R0
    have LE := Lib.hid (show N ≤ 10 by have := (sc_le c O line t).1; rw [HS.out] at this; exact this)
    by_cases hlt : t < 40
    · skip
      have l1 : (t : Int) < 40 := by omega
      have l0 : (0 : Int) ≤ t := by omega
      have ATT := Lib.hid (AT.out t hlt)
      have y0 := OK.out (4 * t)
      have HY := Lib.hid (show N < 10 → (decide (O (4 * t) - 16 ≤ line) && decide (line < O (4 * t) - 16 + g8)) = true → scN c O line (t + 1) = (N + 1, upd F N (t : Int)) from fun h1 h2 => by have := sc_yes c O line t (by rw [HS.out]; exact h1) (by rw [IV.out]; exact h2); rw [HS.out] at this; exact this)
      have HZ := Lib.hid (show ¬ (N < 10 ∧ (decide (O (4 * t) - 16 ≤ line) && decide (line < O (4 * t) - 16 + g8)) = true) → scN c O line (t + 1) = (N, F) from fun h => by have := sc_no c O line t (fun hh => h ⟨by have := hh.1; rw [HS.out] at this; exact this, by rw [← IV.out]; exact hh.2⟩); rw [HS.out] at this; exact this)
      obtain ⟨y, hy⟩ : ∃ q_, q_ = O (4 * t) := ⟨_, rfl⟩
      rw [← hy] at ATT y0 HY HZ
      clear hy
      by_cases d1 : y - 16 ≤ line
      · skip
        by_cases d2 : line < y - 16 + g8
        · skip
          by_cases d3 : N < 10
          · skip
            have d4 : (N : Int) < 10 := by omega
            have ez := Lib.hid (HY.out d3 (by rw [decide_eq_true d1, decide_eq_true d2]; rfl))
            clear HY HZ
            obtain ⟨hc0, hf0⟩ := P20.out.out
            go_wp2_with (fail)
            clear hc0 hf0
            with_reducible refine (ATT.out _ (HM0.out.at HN.out B20.out)).mono ?_
            rintro q_ w' ⟨rfl, rfl⟩
            obtain ⟨hc0, hf0⟩ := P20.out.out
            go_wp2_with (fail)
            clear hc0 hf0
            with_reducible refine (HG.out _).mono ?_
            rintro q_ u21 ⟨rfl, hb⟩
            have B21 := Lib.hid (vian HN.out B20.out hb)
            have P21 := Lib.hid (P20.out.below hb)
            have R21 := Lib.hid (R20.out.below hb)
            clear hb B20 P20 R20
            obtain ⟨v', w3, hrun, ho, hb⟩ := app_c (t : Int) R21.out (Nat.le_trans HN.out B21.out.size) (by omega)
            have RUN := Lib.hid hrun
            have O3 := Lib.hid ho
            have B3 := Lib.hid (B21.out.trans hb)
            have P3 := Lib.hid (has_base hb GP.out P21.out)
            clear hrun ho hb
            go_wp2_with (at_builtin; refine wpList_append_run rfl _ _ _ _ _ _ rfl rfl rfl RUN.out ?_)
            go_wp2
            go_roundg (40 - (t + 1))
            case measure => have := TG.out; omega
            case rel => exact ⟨t + 1, N + 1, upd F N (t : Int), by omega, by have := TG.out; omega, by simp, ez.out, O3.out, B3.out, P3.out⟩
          · skip
            have d4 : ¬ (N : Int) < 10 := by omega
            have ez := Lib.hid (HZ.out (fun h => d3 h.1))
            clear HY HZ
            obtain ⟨hc0, hf0⟩ := P20.out.out
            go_wp2_with (fail)
            clear hc0 hf0
            with_reducible refine (ATT.out _ (HM0.out.at HN.out B20.out)).mono ?_
            rintro q_ w' ⟨rfl, rfl⟩
            obtain ⟨hc0, hf0⟩ := P20.out.out
            go_wp2_with (fail)
            clear hc0 hf0
            with_reducible refine (HG.out _).mono ?_
            rintro q_ u21 ⟨rfl, hb⟩
            have B21 := Lib.hid (vian HN.out B20.out hb)
            have P21 := Lib.hid (P20.out.below hb)
            have R21 := Lib.hid (R20.out.below hb)
            clear hb B20 P20 R20
            go_wp2_with (fail)
            go_roundg (40 - (t + 1))
            case measure => have := TG.out; omega
            case rel => exact ⟨t + 1, N, F, by omega, by have := TG.out; omega, by simp, ez.out, R21.out, B21.out, P21.out⟩
        · skip
          have ez := Lib.hid (HZ.out (fun h => by have := h.2; rw [Bool.and_eq_true, decide_eq_true_eq, decide_eq_true_eq] at this; omega))
          clear HY HZ
          obtain ⟨hc0, hf0⟩ := P20.out.out
          go_wp2_with (fail)
          clear hc0 hf0
          with_reducible refine (ATT.out _ (HM0.out.at HN.out B20.out)).mono ?_
          rintro q_ w' ⟨rfl, rfl⟩
          obtain ⟨hc0, hf0⟩ := P20.out.out
          go_wp2_with (fail)
          clear hc0 hf0
          with_reducible refine (HG.out _).mono ?_
          rintro q_ u21 ⟨rfl, hb⟩
          have B21 := Lib.hid (vian HN.out B20.out hb)
          have P21 := Lib.hid (P20.out.below hb)
          have R21 := Lib.hid (R20.out.below hb)
          clear hb B20 P20 R20
          go_wp2_with (fail)
          go_roundg (40 - (t + 1))
          case measure => have := TG.out; omega
          case rel => exact ⟨t + 1, N, F, by omega, by have := TG.out; omega, by simp, ez.out, R21.out, B21.out, P21.out⟩
      · skip
        have ez := Lib.hid (HZ.out (fun h => by have := h.2; rw [Bool.and_eq_true, decide_eq_true_eq, decide_eq_true_eq] at this; omega))
        clear HY HZ
        obtain ⟨hc0, hf0⟩ := P20.out.out
        go_wp2_with (fail)
        clear hc0 hf0
        with_reducible refine (ATT.out _ (HM0.out.at HN.out B20.out)).mono ?_
        rintro q_ w' ⟨rfl, rfl⟩
        obtain ⟨hc0, hf0⟩ := P20.out.out
        go_wp2_with (fail)
        clear hc0 hf0
        go_roundg (40 - (t + 1))
        case measure => have := TG.out; omega
        case rel => exact ⟨t + 1, N, F, by omega, by have := TG.out; omega, by simp, ez.out, R20.out, B20.out, P20.out⟩
    · skip
      have te : t = 40 := by omega
      subst te
      clear LE
      have HE := Lib.hid HS.out
      have l1 : ¬ ((40 : Nat) : Int) < 40 := by omega
      go_wp2_with (fail)
      obtain ⟨g, hr, hg⟩ := own_row R20.out
      have he := HE.out
      exact bodyPost_ret (v := .slice a N cp) (by simp [results, Try.results60, go_sem]) rfl (by rw [he]; exact rowE_mk hr (Nat.le_trans QF.out hg) (ZF.out _ B20.out))
theorem rscan_c (c bk fi se : Int) (c0 : 0 ≤ c) (c1 : c < 256) (bk0 : 0 ≤ bk) (bk1 : bk < 256) (fi0 : 0 ≤ fi) (fi1 : fi < 256) (se0 : 0 ≤ se) (se1 : se < 256) (ov : Value) (O : M) (line : Int) (line0 : -9223372036854775808 ≤ line) (line1 : line ≤ 9223372036854775807) (w : World) (hM0 : Mem w ov O) : Calls Try.prog 60 #[.agg #[.int .u8 c, .int .u8 bk, .int .u8 fi, .int .u8 se], ov, .int .i64 line] w (RowE (scN c O line 40).1 (scN c O line 40).2 w.heap.size w) := by
  by_cases h : line < -1000 ∨ 1000 < line
  · exact rscan_out c bk fi se c0 c1 bk0 bk1 fi0 fi1 se0 se1 ov O line line0 line1 h w hM0
  · exact rscan_in c bk fi se c0 c1 bk0 bk1 fi0 fi1 se0 se1 ov O line line0 line1 (by omega) (by omega) w hM0
end Go.Proofs.Ytpfbodmadmneiaa
