/-
  The uppermost dots of a line, as the program finds them: for every memory of at most 8192 bytes, every line.
-/
import Derived.Test.YtpfbodmadmneiaaStb
import Derived.Deep.Cut
import Derived.BigQuiet
import Derived.WalkSmall
import Derived.Deep.LoopGhost
namespace Go.Proofs.Ytpfbodmadmneiaa
open Go.ChangeShapes Go.WideShapes Go.ChangeAt Go.RowKit
set_option linter.unusedVariables false
set_option linter.unusedSimpArgs false
set_option maxRecDepth 100000
/-- The uppermost dots of a line. -/
def topD (V O : M) (c line : Int) : M := fun i => if i < 320 then (if topV V O c line (i / 2) < 0 then 0 else if i % 2 = 0 then seeV V O c (topV V O c line (i / 2)) ((i / 2 : Nat) : Int) line else howV O (topV V O c line (i / 2))) else 0
theorem dot_top (V O : M) (c line : Int) (A : M) (L : Nat) (hL : L = (scN c O line 40).1) (h : Same (keyV O) (scN c O line 40).2 A L) (hs : Upto (keyV O) A L) : dotN V O c line A L = topD V O c line := by
  funext i
  have e : ∀ x, fstN (seesV V O c line x) A L = topV V O c line x := fun x => by
    unfold topV
    rw [h.fst hs, hL]
  unfold dotN topD
  simp only [e]
theorem mix_start (V O : M) (c line : Int) (A : M) (m t : Nat) (h0 : ∀ j, j < m → 0 ≤ A j) (h : (t : Int) ≤ O (4 * (A m).toNat + 1) - 8 ∨ t = 0) : mixV (dotN V O c line A m) (dotN V O c line A (m + 1)) t = dotN V O c line A m :=
  mix_lo _ _ t (fun i hi => dts_same V O c line A m i h0 (by omega))
theorem mix_end (V O : M) (c line : Int) (A : M) (m t : Nat) (h0 : ∀ j, j < m → 0 ≤ A j) (h : O (4 * (A m).toNat + 1) ≤ (t : Int) ∨ 160 ≤ t) : mixV (dotN V O c line A m) (dotN V O c line A (m + 1)) t = dotN V O c line A (m + 1) :=
  mix_hi _ _ t (fun i hi => dts_same V O c line A m i h0 (by omega))
theorem keep_row {g b : Nat} {w w' : World} {v : Value} {n : Nat} {f : M} (hk : Keeps b w w') (h : RowG w v n f g) (hb : 0 < n → g ≠ b) : RowG w' v n f g := by
  obtain ⟨a, c, h1, h2, h3⟩ := h
  refine ⟨a, c, h1, h2, fun h0 => ?_⟩
  obtain ⟨e, hg, hc, hf⟩ := h3 h0
  exact ⟨e, Nat.lt_of_lt_of_le hg hk.size, fun j hj => ((cell_block (hk.block g hg (hb h0)) j).1).trans (hc j hj), fun j => ((cell_block (hk.block g hg (hb h0)) j).2).trans (hf j)⟩
set_option maxHeartbeats 16000000 in
theorem upm_c (c bk fi se : Int) (c0 : 0 ≤ c) (c1 : c < 256) (bk0 : 0 ≤ bk) (bk1 : bk < 256) (fi0 : 0 ≤ fi) (fi1 : fi < 256) (se0 : 0 ≤ se) (se1 : se < 256) (vr ov : Value) (V O : M) (line : Int) (line0 : -9223372036854775808 ≤ line) (line1 : line ≤ 9223372036854775807) (w : World) (hM0 : Mem w vr V) (hM1 : Mem w ov O) : Calls Try.prog 71 #[.agg #[.int .u8 c, .int .u8 bk, .int .u8 fi, .int .u8 se], vr, ov, .int .i64 line] w fun q_ w' => q_ = .returned (.agg (enc2 (topD V O c line))) ∧ Below w.heap.size w w' := by
  suffices hall : ∀ (n_ : Nat) (W0 : World), n_ ≤ W0.heap.size → Below n_ W0 w → MemB n_ W0 vr V → MemB n_ W0 ov O → Calls Try.prog 71 #[.agg #[.int .u8 c, .int .u8 bk, .int .u8 fi, .int .u8 se], vr, ov, .int .i64 line] w fun q_ w' => q_ = .returned (.agg (enc2 (topD V O c line))) ∧ Below n_ W0 w' from hall _ _ (Nat.le_refl _) (Below.refl _ _) hM0 hM1
  clear hM0 hM1
  intro n_ W0 hn hB hM0 hM1
  have HN := Lib.hid hn
  have BB := Lib.hid hB
  clear hn hB
  have HM0 := Lib.hid hM0
  clear hM0
  have HM1 := Lib.hid hM1
  clear hM1
  have hz53 : ∀ w : World, (zeroValue 95).run Try.prog w = .ok (.agg (enc2 zeroM)) w := zero53
  have OK := Lib.hid HM1.out.ok
  have SC := Lib.hid (fun W h => scan_c c bk fi se c0 c1 bk0 bk1 fi0 fi1 se0 se1 ov O line line0 line1 W h)
  have SP := Lib.hid (fun (t : Nat) (ht : t < 40) W h => spr_c ov O t ht W h)
  have LF := Lib.hid (fun (t : Nat) W => left_c _ _ _ _ (OK.out (4 * t)).1 (OK.out (4 * t)).2 (OK.out (4 * t + 1)).1 (OK.out (4 * t + 1)).2 (OK.out (4 * t + 2)).1 (OK.out (4 * t + 2)).2 (OK.out (4 * t + 3)).1 (OK.out (4 * t + 3)).2 W)
  have DT := Lib.hid (fun (n x : Nat) (hn : n < 40) (hx : x < 400) W h1 h2 => dotp_c c bk fi se c0 c1 bk0 bk1 fi0 fi1 se0 se1 vr ov V O (n : Int) (x : Int) line (by omega) (by omega) (by omega) (by omega) line0 line1 W h1 h2)
  have LE := Lib.hid (sc_le c O line 40).1
  have AT := Lib.hid (sc_at c O line 40)
  have DD := Lib.hid (fun A => dot_top V O c line A (scN c O line 40).1 rfl)
  obtain ⟨q, hq⟩ : ∃ q_, q_ = scN c O line 40 := ⟨_, rfl⟩
  rw [← hq] at SC LE AT DD
  obtain ⟨N, S⟩ := q
  dsimp only at SC LE AT DD
  clear hq
  go_enter Try.func71, Try.ntmps71
  have Q_ := own3 w (.cells #[.int .u8 c, .int .u8 bk, .int .u8 fi, .int .u8 se] 81) (.cells (enc2 zeroM) 95) (.cells (enc2 zeroM) 95)
  have B0 := Lib.hid (vian HN.out BB.out Q_)
  have P0 := Lib.hid (show Has (((w.alloc (.cells #[.int .u8 c, .int .u8 bk, .int .u8 fi, .int .u8 se] 81)).alloc (.cells (enc2 zeroM) 95)).alloc (.cells (enc2 zeroM) 95)) w.heap.size #[.int .u8 c, .int .u8 bk, .int .u8 fi, .int .u8 se] by simpa using ((Has.new w #[.int .u8 c, .int .u8 bk, .int .u8 fi, .int .u8 se] 81).alloc (.cells (enc2 zeroM) 95)).alloc (.cells (enc2 zeroM) 95))
  have LP := Lib.hid (show n_ ≤ w.heap.size + 0 from Nat.le_add_right_of_le (Nat.le_trans HN.out BB.out.size))
  have R0 := Lib.hid (show Has (((w.alloc (.cells #[.int .u8 c, .int .u8 bk, .int .u8 fi, .int .u8 se] 81)).alloc (.cells (enc2 zeroM) 95)).alloc (.cells (enc2 zeroM) 95)) (w.heap.size + 1) (enc2 zeroM) by simpa using (Has.new (w.alloc (.cells #[.int .u8 c, .int .u8 bk, .int .u8 fi, .int .u8 se] 81)) (enc2 zeroM) 95).alloc (.cells (enc2 zeroM) 95))
  have LR := Lib.hid (show n_ ≤ (w.heap.size + 1) from Nat.le_add_right_of_le (Nat.le_trans HN.out BB.out.size))
  have D0 := Lib.hid (show Has (((w.alloc (.cells #[.int .u8 c, .int .u8 bk, .int .u8 fi, .int .u8 se] 81)).alloc (.cells (enc2 zeroM) 95)).alloc (.cells (enc2 zeroM) 95)) (w.heap.size + 2) (enc2 zeroM) by simpa using Has.new ((w.alloc (.cells #[.int .u8 c, .int .u8 bk, .int .u8 fi, .int .u8 se] 81)).alloc (.cells (enc2 zeroM) 95)) (enc2 zeroM) 95)
  have LD := Lib.hid (show n_ ≤ (w.heap.size + 2) from Nat.le_add_right_of_le (Nat.le_trans HN.out BB.out.size))
  have NPR := Lib.hid (show w.heap.size + 0 ≠ w.heap.size + 1 by omega)
  have NPD := Lib.hid (show w.heap.size + 0 ≠ w.heap.size + 2 by omega)
  have NRD := Lib.hid (show w.heap.size + 1 ≠ w.heap.size + 2 by omega)
  simp only [Nat.add_zero] at LP NPR NPD
  clear Q_
  go_upto_region 2 with (fail)
  generalize (((w.alloc (.cells #[.int .u8 c, .int .u8 bk, .int .u8 fi, .int .u8 se] 81)).alloc (.cells (enc2 zeroM) 95)).alloc (.cells (enc2 zeroM) 95)) = u0 at B0 P0 R0 D0 ⊢
  generalize w.heap.size + 2 = db at D0 LD NPD NRD ⊢
  generalize w.heap.size + 1 = rb at R0 LR NPR NRD ⊢
  generalize w.heap.size = pb at P0 LP NPR NPD ⊢
  obtain ⟨hc0, hf0⟩ := P0.out.out
  go_wp2_with (fail)
  clear hc0 hf0
  with_reducible refine (SC.out _ (HM1.out.at HN.out B0.out)).mono ?_
  rintro q_ u1 ⟨v, g0, rfl, ⟨a, cp, rfl, hcp, hrow⟩, hg0, hb⟩
  have hR : RowG u1 (.slice a N cp) N S g0 := rowG_mk ⟨hcp, hrow⟩
  have B1 := Lib.hid (vian HN.out B0.out hb)
  have P1 := Lib.hid (P0.out.below hb)
  have R1 := Lib.hid (R0.out.below hb)
  have D1 := Lib.hid (D0.out.below hb)
  have hs1 : n_ ≤ u1.heap.size := Nat.le_trans HN.out B1.out.size
  have hs0 : n_ ≤ u0.heap.size := Nat.le_trans HN.out B0.out.size
  have hu01 := hb.size
  obtain ⟨g, hR2, hg0g, hgu⟩ : ∃ g, RowG u1 (.slice a N cp) N S g ∧ u0.heap.size ≤ g ∧ u1.heap.size ≠ g := by
    by_cases h0 : 0 < N
    · exact ⟨g0, hR, hg0, by have := (hrow h0).2.1; omega⟩
    · exact ⟨u1.heap.size + 1, ⟨a, cp, rfl, hcp, fun h => absurd h h0⟩, by omega, by omega⟩
  have hgn : n_ ≤ g := Nat.le_trans hs0 hg0g
  have W1 := Lib.hid hR2
  have GN := Lib.hid hgn
  have NPG := Lib.hid (show pb ≠ g from by have := P0.out.1; omega)
  have NRG := Lib.hid (show rb ≠ g from by have := R0.out.1; omega)
  have NDG := Lib.hid (show db ≠ g from by have := D0.out.1; omega)
  have UF := Lib.hid (upf_c ov O S a N cp g LE.out u1 hR2 (fun j hj => by have := AT.out j hj; omega) n_ (HM1.out.here B1.out) hgn hs1 hgu)
  clear hu01 hs0 hg0g
  clear hb hcp hrow hR hR2 hg0 hs1 hgn hgu SC B0 P0 R0 D0
  go_wp2_with (fail)
  with_reducible refine UF.out.mono ?_
  rintro q_ u2 ⟨rfl, A, hR, hS, hU, hk⟩
  have B2 := Lib.hid (hk.below HN.out GN.out B1.out)
  have P2 := Lib.hid (hk.has NPG.out P1.out)
  have R2 := Lib.hid (hk.has NRG.out R1.out)
  have D2 := Lib.hid (hk.has NDG.out D1.out)
  have W2 := Lib.hid hR
  have BD := Lib.hid hS.bd
  have DT2 := Lib.hid (DD.out A hS hU)
  clear hR hS hU hk UF B1 P1 R1 D1 W1 DD AT
  go_wp2_with (fail)
  go_loopg [23] N (fun g1 i wr => ∃ m : Nat, m ≤ N ∧ g1 + m = N ∧ i = .int .i64 (m : Int) ∧ Below n_ W0 wr ∧ Has wr pb #[.int .u8 c, .int .u8 bk, .int .u8 fi, .int .u8 se] ∧ Has wr rb (enc2 zeroM) ∧ Has wr db (enc2 (dotN V O c line A m)) ∧ RowG wr (.slice a N cp) N A g)
  case atStart => exact ⟨0, by omega, by omega, rfl, B2.out, P2.out, R2.out, by rw [dts_zero]; exact D2.out, W2.out⟩
  case round =>
    obtain ⟨u20, hw5⟩ : ∃ q_, q_ = wr := ⟨_, rfl⟩
    subst hw5
    obtain ⟨m, hm, hg1, rfl, hB, hP, hR, hD, hW⟩ := hrel
    have TG := Lib.hid hg1
    have B20 := Lib.hid hB
    have P20 := Lib.hid hP
    have R20 := Lib.hid hR
    have D20 := Lib.hid hD
    have W20 := Lib.hid hW
    clear hg1 hB hP hR hD hW B2 P2 R2 D2 W2
    by_cases hlt : m < N
    · skip
      have m1 : (m : Int) < N := by omega
      have m10 : (m : Int) < 10 := by have := LE.out; omega
      have m0 : (0 : Int) ≤ m := by omega
      have hA := BD.out m hlt
      obtain ⟨an, han⟩ := Int.eq_ofNat_of_zero_le hA.1
      have a40 : an < 40 := by omega
      obtain ⟨a1, c1, e1, hc1, hrow⟩ := W20.out
      injection e1 with ea eb ec
      subst ea ec
      obtain ⟨rfl, hgl, hcs, hfs⟩ := hrow (by omega)
      have hcell := hcs m hlt
      rw [han] at hcell
      have SPA := Lib.hid (SP.out an a40)
      have LFA := Lib.hid (LF.out an)
      have HA0 := Lib.hid (show ∀ j, j < m → 0 ≤ A j from fun j hj => (BD.out j (by omega)).1)
      have HA1 := Lib.hid (show ∀ j, j < m + 1 → 0 ≤ A j from fun j hj => (BD.out j (by omega)).1)
      have eA : (A m).toNat = an := by rw [han]; rfl
      have MS := Lib.hid (fun t => mix_start V O c line A m t HA0.out)
      have ME := Lib.hid (fun t => mix_end V O c line A m t HA0.out)
      have DP := Lib.hid (fun x hx => dts_pass V O c line A m x hx HA0.out)
      have DQ := Lib.hid (fun x hx => dts_put V O c line A m x hx HA1.out)
      have DTA := Lib.hid (fun x hx => DT.out an x a40 hx)
      simp only [eA] at MS ME
      have ey : howV O (A m) = O (4 * an + 3) := by unfold howV; rw [eA]
      rw [ey] at DQ
      rw [han] at DP DQ
      have xb := OK.out (4 * an + 1)
      have yb := OK.out (4 * an + 3)
      have W21 := Lib.hid W20.out
      generalize O (4 * an) = ys at *
      generalize O (4 * an + 1) = xs at *
      generalize O (4 * an + 2) = tl at *
      generalize O (4 * an + 3) = av at *
      generalize hDm : dotN V O c line A m = Dm at *
      generalize hDn : dotN V O c line A (m + 1) = Dn at *
      clear eb hrow hcs hfs hc1 hA han eA ey SP LF DT W20
      have HDN := Lib.hid hDn
      have HDM := Lib.hid hDm
      clear hDn hDm
      have W20 := Lib.hid W21.out
      clear W21
      obtain ⟨hc0, hf0⟩ := P20.out.out
      go_wp2_with (fail)
      clear hc0 hf0
      with_reducible refine (SPA.out _ (HM1.out.at HN.out B20.out)).mono ?_
      rintro q_ u21 ⟨rfl, hb⟩
      have B21 := Lib.hid (vian HN.out B20.out hb)
      have P21 := Lib.hid (P20.out.below hb)
      have R21 := Lib.hid (R20.out.below hb)
      have D21 := Lib.hid (D20.out.below hb)
      have W21 := Lib.hid (W20.out.below hb)
      clear hb B20 P20 R20 D20 W20
      clear hcell
      go_wp2_with (refine store_g r43 (Has.new u21 #[.int .u8 0, .int .u8 0, .int .u8 0, .int .u8 0] 105) rfl #[.int .u8 ys, .int .u8 xs, .int .u8 tl, .int .u8 av] rfl (four_one _ _ _ _) rfl _ _ rfl rfl rfl ?_)
      intro u22 hP hk
      have B22 := Lib.hid (keep_new HN.out B21.out _ hk)
      have LS := Lib.hid (Nat.le_trans HN.out B21.out.size)
      have NPS := Lib.hid (Nat.ne_of_lt P21.out.1)
      have P22 := Lib.hid (hk.has NPS.out (P21.out.below (own1 _ _)))
      have NRS := Lib.hid (Nat.ne_of_lt R21.out.1)
      have R22 := Lib.hid (hk.has NRS.out (R21.out.below (own1 _ _)))
      have NDS := Lib.hid (Nat.ne_of_lt D21.out.1)
      have D22 := Lib.hid (hk.has NDS.out (D21.out.below (own1 _ _)))
      have W22 := Lib.hid (keep_row hk (W21.out.below (own1 _ _)) (fun h0 => by obtain ⟨a1, c1, e1, hc1, hrow⟩ := W21.out; have := (hrow h0).2.1; omega))
      have S22 := Lib.hid hP
      generalize u21.heap.size = sb at S22 LS NPS NRS NDS ⊢
      clear hk hP B21 P21 R21 D21 W21
      try simp only [Act.put, List.setIfInBounds_toArray, List.set_cons_zero, List.set_cons_succ]
      obtain ⟨hc0, hf0⟩ := S22.out.out
      go_wp2_with (fail)
      clear hc0 hf0
      with_reducible refine (LFA.out _).mono ?_
      rintro q_ u23 ⟨rfl, hb⟩
      have B23 := Lib.hid (vian HN.out B22.out hb)
      have P23 := Lib.hid (P22.out.below hb)
      have R23 := Lib.hid (R22.out.below hb)
      have D23 := Lib.hid (D22.out.below hb)
      have W23 := Lib.hid (W22.out.below hb)
      have S23 := Lib.hid (S22.out.below hb)
      clear hb B22 P22 R22 D22 W22 S22
      obtain ⟨lo, hlo, hlo2⟩ : ∃ lo : Nat, ((lo : Int) = xs - 8 ∧ 8 ≤ xs ∨ lo = 0 ∧ xs < 8) ∧ lo < 300 := by
        by_cases h : 8 ≤ xs
        · exact ⟨(xs - 8).toNat, .inl ⟨by omega, h⟩, by omega⟩
        · exact ⟨0, .inr ⟨rfl, by omega⟩, by omega⟩
      have D123 := Lib.hid (show Has u23 db (enc2 (mixV Dm Dn lo)) from by rw [MS.out lo (by omega)]; exact D23.out)
      clear D23 MS
      obtain ⟨hi, hhi, hhi2⟩ : ∃ hi : Nat, ((hi : Int) = xs ∧ xs ≤ 160 ∨ hi = 160 ∧ 160 < xs) ∧ hi ≤ 160 := by
        by_cases h : xs ≤ 160
        · exact ⟨xs.toNat, .inl ⟨by omega, h⟩, by omega⟩
        · exact ⟨160, .inr ⟨rfl, by omega⟩, by omega⟩
      have HHI := Lib.hid hhi
      have HLO := Lib.hid hlo
      have GOAL0 := Lib.hid hlo2
      have D23 := Lib.hid D123.out
      clear D123
      rcases hlo with ⟨q1, q2⟩ | ⟨q1, q2⟩ <;> rcases hhi with ⟨q3, q4⟩ | ⟨q3, q4⟩
      · skip
        have x2 : (0 : Int) ≤ xs - 8 := by omega
        have x3 : ¬ xs - 8 < 0 := by omega
        clear x3
        have y1 : xs ≤ 160 := q4
        have y2 : ¬ (160 : Int) < xs := by omega
        obtain ⟨hc0, hf0⟩ := P23.out.out
        obtain ⟨hc1, hf1⟩ := S23.out.out
        go_upto_region 7 with (fail)
        clear hc0 hf0 hc1 hf1
        rw [show xs - 8 = (lo : Int) from q1.symm]
        have QL := Lib.hid q1
        clear q1 q2 q3 q4
        go_loopg [13] (hi - lo) (fun g2 tx wr2 => ∃ t : Nat, tx = .int .i64 (t : Int) ∧ lo ≤ t ∧ (t ≤ hi ∨ t = lo) ∧ g2 = hi - t ∧ Below n_ W0 wr2 ∧ Has wr2 pb #[.int .u8 c, .int .u8 bk, .int .u8 fi, .int .u8 se] ∧ Has wr2 rb (enc2 zeroM) ∧ Has wr2 db (enc2 (mixV Dm Dn t)) ∧ RowG wr2 (.slice (some ⟨g, 0, none⟩) N cp) N A g ∧ Has wr2 sb #[.int .u8 ys, .int .u8 xs, .int .u8 tl, .int .u8 av])
        case atStart => exact ⟨lo, rfl, Nat.le_refl _, Or.inr rfl, rfl, B23.out, P23.out, R23.out, D23.out, W23.out, S23.out⟩
        case round =>
          obtain ⟨u50, hw6⟩ : ∃ q_, q_ = wr := ⟨_, rfl⟩
          subst hw6
          obtain ⟨t, rfl, htl, hth, hg2, hB, hP, hR, hD, hW, hS⟩ := hrel
          have TG2 := Lib.hid hg2
          have TH := Lib.hid hth
          have B50 := Lib.hid hB
          have P50 := Lib.hid hP
          have R50 := Lib.hid hR
          have D50 := Lib.hid hD
          have W50 := Lib.hid hW
          have S50 := Lib.hid hS
          clear hg2 hth hB hP hR hD hW hS B23 P23 R23 D23 W23 S23
          have t0 : (0 : Int) ≤ (t : Int) := by omega
          by_cases hlt2 : t < hi
          · skip
            have t1 : (t : Int) < xs := by rcases HHI.out with h | h <;> omega
            have t2 : t < 160 := by omega
            obtain ⟨hc0, hf0⟩ := P50.out.out
            obtain ⟨hc1, hf1⟩ := S50.out.out
            go_wp2_with (fail)
            clear hc0 hf0 hc1 hf1
            with_reducible refine (LFA.out _).mono ?_
            rintro q_ u51 ⟨rfl, hb⟩
            have B51 := Lib.hid (vian HN.out B50.out hb)
            have P51 := Lib.hid (P50.out.below hb)
            have R51 := Lib.hid (R50.out.below hb)
            have D51 := Lib.hid (D50.out.below hb)
            have W51 := Lib.hid (W50.out.below hb)
            have S51 := Lib.hid (S50.out.below hb)
            clear hb B50 P50 R50 D50 W50 S50
            have DC := Lib.hid (DTA.out t (by omega))
            have DQ1 := Lib.hid (DQ.out t t2)
            have DP1 := Lib.hid (DP.out t t2)
            have MA := Lib.hid (mix_at Dm Dn t)
            have MP := Lib.hid (mix_put Dm Dn t)
            have MQ := Lib.hid (mix_pass Dm Dn t)
            have sbd := seeV_bd V O c (an : Int) (t : Int) line
            obtain ⟨d, hd⟩ : ∃ q_, q_ = seeV V O c (an : Int) (t : Int) line := ⟨_, rfl⟩
            rw [← hd] at DC DQ1 DP1 sbd
            obtain ⟨z, hz⟩ : ∃ q_, q_ = decide (d ≠ 0) := ⟨_, rfl⟩
            rw [← hz] at DC
            have HZ := Lib.hid hz
            clear hz hd DTA DQ DP
            obtain ⟨hc0, hf0⟩ := P51.out.out
            obtain ⟨hc1, hf1⟩ := S51.out.out
            go_wp2_with (fail)
            clear hc0 hf0 hc1 hf1
            with_reducible refine (DC.out _ (HM0.out.at HN.out B51.out) (HM1.out.at HN.out B51.out)).mono ?_
            rintro q_ u52 ⟨rfl, hb⟩
            have B52 := Lib.hid (vian HN.out B51.out hb)
            have P52 := Lib.hid (P51.out.below hb)
            have R52 := Lib.hid (R51.out.below hb)
            have D52 := Lib.hid (D51.out.below hb)
            have W52 := Lib.hid (W51.out.below hb)
            have S52 := Lib.hid (S51.out.below hb)
            clear hb B51 P51 R51 D51 W51 S51
            cases z
            · skip
              have hd0 : d = 0 := by have := HZ.out; simpa using this.symm
              have pp := DP1.out (fun h => h.1 hd0)
              have em := MQ.out pp.1 pp.2
              have DM := Lib.hid (show Has u52 db (enc2 (mixV Dm Dn (t + 1))) from by rw [← em]; exact D52.out)
              clear em pp hd0 D52
              obtain ⟨hc0, hf0⟩ := P52.out.out
              obtain ⟨hc1, hf1⟩ := S52.out.out
              go_wp2_with (fail)
              clear hc0 hf0 hc1 hf1
              go_roundg (hi - (t + 1))
              case measure => have := TG2.out; omega
              case rel => exact ⟨t + 1, by simp, by omega, by omega, rfl, B52.out, P52.out, R52.out, DM.out, W52.out, S52.out⟩
            · skip
              have hd0 : d ≠ 0 := by have := HZ.out; simpa using this.symm
              obtain ⟨y, hy⟩ : ∃ q_, q_ = Dm (2 * t) := ⟨_, rfl⟩
              have ce := D52.out.2.1 (t * 2)
              rw [enc2_get _ _ (by omega), show t * 2 = 2 * t by omega, MA.out, ← hy] at ce
              have ce2 : u52.cell? ⟨db, t * 2, none⟩ = some (.int .u8 y) := by rw [show t * 2 = 2 * t by omega]; exact ce
              rw [← hy] at DQ1 DP1
              clear ce
              by_cases hy0 : y = 0
              · skip
                obtain ⟨v1, v2⟩ := DQ1.out hd0 hy0
                have em := MP.out
                rw [v1, v2] at em
                have EM := Lib.hid em
                have dy : (y == 0) = true := by simp; exact hy0
                have HY0 := Lib.hid hy0
                clear em v1 v2 hy0 hd0 DQ1 DP1
                obtain ⟨hc0, hf0⟩ := P52.out.out
                obtain ⟨hc1, hf1⟩ := S52.out.out
                go_upto_region 11 with (fail)
                go_wp2_with (refine store_2 D52.out rfl _ _ rfl (t * 2) rfl d av rfl (by omega) ?_)
                intro u53 hP hk
                clear hc0 hf0 hc1 hf1
                rw [show t * 2 = 2 * t by omega, EM.out] at hP
                have D53 := Lib.hid hP
                have B53 := Lib.hid (hk.below HN.out LD.out B52.out)
                have P53 := Lib.hid (hk.has NPD.out P52.out)
                have R53 := Lib.hid (hk.has NRD.out R52.out)
                have S53 := Lib.hid (hk.has (Ne.symm NDS.out) S52.out)
                have W53 := Lib.hid (keep_row hk W52.out (fun _ => Ne.symm NDG.out))
                clear hk hP B52 P52 R52 S52 W52 D52
                try simp only [Act.put, List.setIfInBounds_toArray, List.set_cons_zero, List.set_cons_succ]
                go_wp2_with (fail)
                go_roundg (hi - (t + 1))
                case measure => have := TG2.out; omega
                case rel => exact ⟨t + 1, by simp, by omega, by omega, rfl, B53.out, P53.out, R53.out, D53.out, W53.out, S53.out⟩
              · skip
                have pp := DP1.out (fun h => hy0 h.2)
                have em := MQ.out (pp.1.trans hy) pp.2
                have DM := Lib.hid (show Has u52 db (enc2 (mixV Dm Dn (t + 1))) from by rw [← em]; exact D52.out)
                have dy : (y == 0) = false := by simp; exact hy0
                clear em pp hd0 D52 DQ1 DP1
                obtain ⟨hc0, hf0⟩ := P52.out.out
                obtain ⟨hc1, hf1⟩ := S52.out.out
                go_wp2_with (fail)
                clear hc0 hf0 hc1 hf1
                go_roundg (hi - (t + 1))
                case measure => have := TG2.out; omega
                case rel => exact ⟨t + 1, by simp, by omega, by omega, rfl, B52.out, P52.out, R52.out, DM.out, W52.out, S52.out⟩
          · skip
            have t1 : ¬ (t : Int) < xs := by rcases HHI.out with h | h <;> omega
            obtain ⟨hc0, hf0⟩ := P50.out.out
            obtain ⟨hc1, hf1⟩ := S50.out.out
            go_wp2_with (fail)
            clear hc0 hf0 hc1 hf1
            with_reducible refine (LFA.out _).mono ?_
            rintro q_ u51 ⟨rfl, hb⟩
            have B51 := Lib.hid (vian HN.out B50.out hb)
            have P51 := Lib.hid (P50.out.below hb)
            have R51 := Lib.hid (R50.out.below hb)
            have D51 := Lib.hid (D50.out.below hb)
            have W51 := Lib.hid (W50.out.below hb)
            have S51 := Lib.hid (S50.out.below hb)
            clear hb B50 P50 R50 D50 W50 S50
            have ee := ME.out t (by rcases HHI.out with h | h <;> omega)
            have DE := Lib.hid (show Has u51 db (enc2 (dotN V O c line A (m + 1))) from by rw [HDN.out, ← ee]; exact D51.out)
            clear ee D51 ME
            go_wp2_with (fail)
            go_roundg (N - (m + 1))
            case measure => have := TG.out; omega
            case rel => exact ⟨m + 1, by omega, by have := TG.out; omega, by simp, B51.out, P51.out, R51.out, DE.out, W51.out⟩
      · skip
        have x2 : (0 : Int) ≤ xs - 8 := by omega
        have x3 : ¬ xs - 8 < 0 := by omega
        clear x3
        have y1 : (160 : Int) < xs := q4
        have y2 : ¬ xs ≤ 160 := by omega
        have y3 : (160 : Int) ≤ xs := by omega
        have y4 : ¬ xs < 160 := by omega
        obtain ⟨hc0, hf0⟩ := P23.out.out
        obtain ⟨hc1, hf1⟩ := S23.out.out
        go_upto_region 7 with (fail)
        clear hc0 hf0 hc1 hf1
        rw [show xs - 8 = (lo : Int) from q1.symm]
        have QL := Lib.hid q1
        clear q1 q2 q3 q4
        go_loopg [13] (hi - lo) (fun g2 tx wr2 => ∃ t : Nat, tx = .int .i64 (t : Int) ∧ lo ≤ t ∧ (t ≤ hi ∨ t = lo) ∧ g2 = hi - t ∧ Below n_ W0 wr2 ∧ Has wr2 pb #[.int .u8 c, .int .u8 bk, .int .u8 fi, .int .u8 se] ∧ Has wr2 rb (enc2 zeroM) ∧ Has wr2 db (enc2 (mixV Dm Dn t)) ∧ RowG wr2 (.slice (some ⟨g, 0, none⟩) N cp) N A g ∧ Has wr2 sb #[.int .u8 ys, .int .u8 xs, .int .u8 tl, .int .u8 av])
        case atStart => exact ⟨lo, rfl, Nat.le_refl _, Or.inr rfl, rfl, B23.out, P23.out, R23.out, D23.out, W23.out, S23.out⟩
        case round =>
          obtain ⟨u50, hw6⟩ : ∃ q_, q_ = wr := ⟨_, rfl⟩
          subst hw6
          obtain ⟨t, rfl, htl, hth, hg2, hB, hP, hR, hD, hW, hS⟩ := hrel
          have TG2 := Lib.hid hg2
          have TH := Lib.hid hth
          have B50 := Lib.hid hB
          have P50 := Lib.hid hP
          have R50 := Lib.hid hR
          have D50 := Lib.hid hD
          have W50 := Lib.hid hW
          have S50 := Lib.hid hS
          clear hg2 hth hB hP hR hD hW hS B23 P23 R23 D23 W23 S23
          have t0 : (0 : Int) ≤ (t : Int) := by omega
          by_cases hlt2 : t < hi
          · skip
            have t1 : (t : Int) < 160 := by rcases HHI.out with h | h <;> omega
            have t2 : t < 160 := by omega
            obtain ⟨hc0, hf0⟩ := P50.out.out
            obtain ⟨hc1, hf1⟩ := S50.out.out
            go_wp2_with (fail)
            clear hc0 hf0 hc1 hf1
            with_reducible refine (LFA.out _).mono ?_
            rintro q_ u51 ⟨rfl, hb⟩
            have B51 := Lib.hid (vian HN.out B50.out hb)
            have P51 := Lib.hid (P50.out.below hb)
            have R51 := Lib.hid (R50.out.below hb)
            have D51 := Lib.hid (D50.out.below hb)
            have W51 := Lib.hid (W50.out.below hb)
            have S51 := Lib.hid (S50.out.below hb)
            clear hb B50 P50 R50 D50 W50 S50
            have DC := Lib.hid (DTA.out t (by omega))
            have DQ1 := Lib.hid (DQ.out t t2)
            have DP1 := Lib.hid (DP.out t t2)
            have MA := Lib.hid (mix_at Dm Dn t)
            have MP := Lib.hid (mix_put Dm Dn t)
            have MQ := Lib.hid (mix_pass Dm Dn t)
            have sbd := seeV_bd V O c (an : Int) (t : Int) line
            obtain ⟨d, hd⟩ : ∃ q_, q_ = seeV V O c (an : Int) (t : Int) line := ⟨_, rfl⟩
            rw [← hd] at DC DQ1 DP1 sbd
            obtain ⟨z, hz⟩ : ∃ q_, q_ = decide (d ≠ 0) := ⟨_, rfl⟩
            rw [← hz] at DC
            have HZ := Lib.hid hz
            clear hz hd DTA DQ DP
            obtain ⟨hc0, hf0⟩ := P51.out.out
            obtain ⟨hc1, hf1⟩ := S51.out.out
            go_wp2_with (fail)
            clear hc0 hf0 hc1 hf1
            with_reducible refine (DC.out _ (HM0.out.at HN.out B51.out) (HM1.out.at HN.out B51.out)).mono ?_
            rintro q_ u52 ⟨rfl, hb⟩
            have B52 := Lib.hid (vian HN.out B51.out hb)
            have P52 := Lib.hid (P51.out.below hb)
            have R52 := Lib.hid (R51.out.below hb)
            have D52 := Lib.hid (D51.out.below hb)
            have W52 := Lib.hid (W51.out.below hb)
            have S52 := Lib.hid (S51.out.below hb)
            clear hb B51 P51 R51 D51 W51 S51
            cases z
            · skip
              have hd0 : d = 0 := by have := HZ.out; simpa using this.symm
              have pp := DP1.out (fun h => h.1 hd0)
              have em := MQ.out pp.1 pp.2
              have DM := Lib.hid (show Has u52 db (enc2 (mixV Dm Dn (t + 1))) from by rw [← em]; exact D52.out)
              clear em pp hd0 D52
              obtain ⟨hc0, hf0⟩ := P52.out.out
              obtain ⟨hc1, hf1⟩ := S52.out.out
              go_wp2_with (fail)
              clear hc0 hf0 hc1 hf1
              go_roundg (hi - (t + 1))
              case measure => have := TG2.out; omega
              case rel => exact ⟨t + 1, by simp, by omega, by omega, rfl, B52.out, P52.out, R52.out, DM.out, W52.out, S52.out⟩
            · skip
              have hd0 : d ≠ 0 := by have := HZ.out; simpa using this.symm
              obtain ⟨y, hy⟩ : ∃ q_, q_ = Dm (2 * t) := ⟨_, rfl⟩
              have ce := D52.out.2.1 (t * 2)
              rw [enc2_get _ _ (by omega), show t * 2 = 2 * t by omega, MA.out, ← hy] at ce
              have ce2 : u52.cell? ⟨db, t * 2, none⟩ = some (.int .u8 y) := by rw [show t * 2 = 2 * t by omega]; exact ce
              rw [← hy] at DQ1 DP1
              clear ce
              by_cases hy0 : y = 0
              · skip
                obtain ⟨v1, v2⟩ := DQ1.out hd0 hy0
                have em := MP.out
                rw [v1, v2] at em
                have EM := Lib.hid em
                have dy : (y == 0) = true := by simp; exact hy0
                have HY0 := Lib.hid hy0
                clear em v1 v2 hy0 hd0 DQ1 DP1
                obtain ⟨hc0, hf0⟩ := P52.out.out
                obtain ⟨hc1, hf1⟩ := S52.out.out
                go_upto_region 11 with (fail)
                go_wp2_with (refine store_2 D52.out rfl _ _ rfl (t * 2) rfl d av rfl (by omega) ?_)
                intro u53 hP hk
                clear hc0 hf0 hc1 hf1
                rw [show t * 2 = 2 * t by omega, EM.out] at hP
                have D53 := Lib.hid hP
                have B53 := Lib.hid (hk.below HN.out LD.out B52.out)
                have P53 := Lib.hid (hk.has NPD.out P52.out)
                have R53 := Lib.hid (hk.has NRD.out R52.out)
                have S53 := Lib.hid (hk.has (Ne.symm NDS.out) S52.out)
                have W53 := Lib.hid (keep_row hk W52.out (fun _ => Ne.symm NDG.out))
                clear hk hP B52 P52 R52 S52 W52 D52
                try simp only [Act.put, List.setIfInBounds_toArray, List.set_cons_zero, List.set_cons_succ]
                go_wp2_with (fail)
                go_roundg (hi - (t + 1))
                case measure => have := TG2.out; omega
                case rel => exact ⟨t + 1, by simp, by omega, by omega, rfl, B53.out, P53.out, R53.out, D53.out, W53.out, S53.out⟩
              · skip
                have pp := DP1.out (fun h => hy0 h.2)
                have em := MQ.out (pp.1.trans hy) pp.2
                have DM := Lib.hid (show Has u52 db (enc2 (mixV Dm Dn (t + 1))) from by rw [← em]; exact D52.out)
                have dy : (y == 0) = false := by simp; exact hy0
                clear em pp hd0 D52 DQ1 DP1
                obtain ⟨hc0, hf0⟩ := P52.out.out
                obtain ⟨hc1, hf1⟩ := S52.out.out
                go_wp2_with (fail)
                clear hc0 hf0 hc1 hf1
                go_roundg (hi - (t + 1))
                case measure => have := TG2.out; omega
                case rel => exact ⟨t + 1, by simp, by omega, by omega, rfl, B52.out, P52.out, R52.out, DM.out, W52.out, S52.out⟩
          · skip
            have t1 : ¬ (t : Int) < 160 := by rcases HHI.out with h | h <;> omega
            obtain ⟨hc0, hf0⟩ := P50.out.out
            obtain ⟨hc1, hf1⟩ := S50.out.out
            go_wp2_with (fail)
            clear hc0 hf0 hc1 hf1
            with_reducible refine (LFA.out _).mono ?_
            rintro q_ u51 ⟨rfl, hb⟩
            have B51 := Lib.hid (vian HN.out B50.out hb)
            have P51 := Lib.hid (P50.out.below hb)
            have R51 := Lib.hid (R50.out.below hb)
            have D51 := Lib.hid (D50.out.below hb)
            have W51 := Lib.hid (W50.out.below hb)
            have S51 := Lib.hid (S50.out.below hb)
            clear hb B50 P50 R50 D50 W50 S50
            have ee := ME.out t (by rcases HHI.out with h | h <;> omega)
            have DE := Lib.hid (show Has u51 db (enc2 (dotN V O c line A (m + 1))) from by rw [HDN.out, ← ee]; exact D51.out)
            clear ee D51 ME
            go_wp2_with (fail)
            go_roundg (N - (m + 1))
            case measure => have := TG.out; omega
            case rel => exact ⟨m + 1, by omega, by have := TG.out; omega, by simp, B51.out, P51.out, R51.out, DE.out, W51.out⟩
      · skip
        have x2 : ¬ (0 : Int) ≤ xs - 8 := by omega
        have y1 : xs ≤ 160 := q4
        have y2 : ¬ (160 : Int) < xs := by omega
        obtain ⟨hc0, hf0⟩ := P23.out.out
        obtain ⟨hc1, hf1⟩ := S23.out.out
        go_upto_region 7 with (fail)
        clear hc0 hf0 hc1 hf1
        have QL := Lib.hid q1
        clear q1 q2 q3 q4
        go_loopg [13] (hi - lo) (fun g2 tx wr2 => ∃ t : Nat, tx = .int .i64 (t : Int) ∧ lo ≤ t ∧ (t ≤ hi ∨ t = lo) ∧ g2 = hi - t ∧ Below n_ W0 wr2 ∧ Has wr2 pb #[.int .u8 c, .int .u8 bk, .int .u8 fi, .int .u8 se] ∧ Has wr2 rb (enc2 zeroM) ∧ Has wr2 db (enc2 (mixV Dm Dn t)) ∧ RowG wr2 (.slice (some ⟨g, 0, none⟩) N cp) N A g ∧ Has wr2 sb #[.int .u8 ys, .int .u8 xs, .int .u8 tl, .int .u8 av])
        case atStart => exact ⟨lo, by rw [QL.out]; rfl, Nat.le_refl _, Or.inr rfl, rfl, B23.out, P23.out, R23.out, D23.out, W23.out, S23.out⟩
        case round =>
          obtain ⟨u50, hw6⟩ : ∃ q_, q_ = wr := ⟨_, rfl⟩
          subst hw6
          obtain ⟨t, rfl, htl, hth, hg2, hB, hP, hR, hD, hW, hS⟩ := hrel
          have TG2 := Lib.hid hg2
          have TH := Lib.hid hth
          have B50 := Lib.hid hB
          have P50 := Lib.hid hP
          have R50 := Lib.hid hR
          have D50 := Lib.hid hD
          have W50 := Lib.hid hW
          have S50 := Lib.hid hS
          clear hg2 hth hB hP hR hD hW hS B23 P23 R23 D23 W23 S23
          have t0 : (0 : Int) ≤ (t : Int) := by omega
          by_cases hlt2 : t < hi
          · skip
            have t1 : (t : Int) < xs := by rcases HHI.out with h | h <;> omega
            have t2 : t < 160 := by omega
            obtain ⟨hc0, hf0⟩ := P50.out.out
            obtain ⟨hc1, hf1⟩ := S50.out.out
            go_wp2_with (fail)
            clear hc0 hf0 hc1 hf1
            with_reducible refine (LFA.out _).mono ?_
            rintro q_ u51 ⟨rfl, hb⟩
            have B51 := Lib.hid (vian HN.out B50.out hb)
            have P51 := Lib.hid (P50.out.below hb)
            have R51 := Lib.hid (R50.out.below hb)
            have D51 := Lib.hid (D50.out.below hb)
            have W51 := Lib.hid (W50.out.below hb)
            have S51 := Lib.hid (S50.out.below hb)
            clear hb B50 P50 R50 D50 W50 S50
            have DC := Lib.hid (DTA.out t (by omega))
            have DQ1 := Lib.hid (DQ.out t t2)
            have DP1 := Lib.hid (DP.out t t2)
            have MA := Lib.hid (mix_at Dm Dn t)
            have MP := Lib.hid (mix_put Dm Dn t)
            have MQ := Lib.hid (mix_pass Dm Dn t)
            have sbd := seeV_bd V O c (an : Int) (t : Int) line
            obtain ⟨d, hd⟩ : ∃ q_, q_ = seeV V O c (an : Int) (t : Int) line := ⟨_, rfl⟩
            rw [← hd] at DC DQ1 DP1 sbd
            obtain ⟨z, hz⟩ : ∃ q_, q_ = decide (d ≠ 0) := ⟨_, rfl⟩
            rw [← hz] at DC
            have HZ := Lib.hid hz
            clear hz hd DTA DQ DP
            obtain ⟨hc0, hf0⟩ := P51.out.out
            obtain ⟨hc1, hf1⟩ := S51.out.out
            go_wp2_with (fail)
            clear hc0 hf0 hc1 hf1
            with_reducible refine (DC.out _ (HM0.out.at HN.out B51.out) (HM1.out.at HN.out B51.out)).mono ?_
            rintro q_ u52 ⟨rfl, hb⟩
            have B52 := Lib.hid (vian HN.out B51.out hb)
            have P52 := Lib.hid (P51.out.below hb)
            have R52 := Lib.hid (R51.out.below hb)
            have D52 := Lib.hid (D51.out.below hb)
            have W52 := Lib.hid (W51.out.below hb)
            have S52 := Lib.hid (S51.out.below hb)
            clear hb B51 P51 R51 D51 W51 S51
            cases z
            · skip
              have hd0 : d = 0 := by have := HZ.out; simpa using this.symm
              have pp := DP1.out (fun h => h.1 hd0)
              have em := MQ.out pp.1 pp.2
              have DM := Lib.hid (show Has u52 db (enc2 (mixV Dm Dn (t + 1))) from by rw [← em]; exact D52.out)
              clear em pp hd0 D52
              obtain ⟨hc0, hf0⟩ := P52.out.out
              obtain ⟨hc1, hf1⟩ := S52.out.out
              go_wp2_with (fail)
              clear hc0 hf0 hc1 hf1
              go_roundg (hi - (t + 1))
              case measure => have := TG2.out; omega
              case rel => exact ⟨t + 1, by simp, by omega, by omega, rfl, B52.out, P52.out, R52.out, DM.out, W52.out, S52.out⟩
            · skip
              have hd0 : d ≠ 0 := by have := HZ.out; simpa using this.symm
              obtain ⟨y, hy⟩ : ∃ q_, q_ = Dm (2 * t) := ⟨_, rfl⟩
              have ce := D52.out.2.1 (t * 2)
              rw [enc2_get _ _ (by omega), show t * 2 = 2 * t by omega, MA.out, ← hy] at ce
              have ce2 : u52.cell? ⟨db, t * 2, none⟩ = some (.int .u8 y) := by rw [show t * 2 = 2 * t by omega]; exact ce
              rw [← hy] at DQ1 DP1
              clear ce
              by_cases hy0 : y = 0
              · skip
                obtain ⟨v1, v2⟩ := DQ1.out hd0 hy0
                have em := MP.out
                rw [v1, v2] at em
                have EM := Lib.hid em
                have dy : (y == 0) = true := by simp; exact hy0
                have HY0 := Lib.hid hy0
                clear em v1 v2 hy0 hd0 DQ1 DP1
                obtain ⟨hc0, hf0⟩ := P52.out.out
                obtain ⟨hc1, hf1⟩ := S52.out.out
                go_upto_region 11 with (fail)
                go_wp2_with (refine store_2 D52.out rfl _ _ rfl (t * 2) rfl d av rfl (by omega) ?_)
                intro u53 hP hk
                clear hc0 hf0 hc1 hf1
                rw [show t * 2 = 2 * t by omega, EM.out] at hP
                have D53 := Lib.hid hP
                have B53 := Lib.hid (hk.below HN.out LD.out B52.out)
                have P53 := Lib.hid (hk.has NPD.out P52.out)
                have R53 := Lib.hid (hk.has NRD.out R52.out)
                have S53 := Lib.hid (hk.has (Ne.symm NDS.out) S52.out)
                have W53 := Lib.hid (keep_row hk W52.out (fun _ => Ne.symm NDG.out))
                clear hk hP B52 P52 R52 S52 W52 D52
                try simp only [Act.put, List.setIfInBounds_toArray, List.set_cons_zero, List.set_cons_succ]
                go_wp2_with (fail)
                go_roundg (hi - (t + 1))
                case measure => have := TG2.out; omega
                case rel => exact ⟨t + 1, by simp, by omega, by omega, rfl, B53.out, P53.out, R53.out, D53.out, W53.out, S53.out⟩
              · skip
                have pp := DP1.out (fun h => hy0 h.2)
                have em := MQ.out (pp.1.trans hy) pp.2
                have DM := Lib.hid (show Has u52 db (enc2 (mixV Dm Dn (t + 1))) from by rw [← em]; exact D52.out)
                have dy : (y == 0) = false := by simp; exact hy0
                clear em pp hd0 D52 DQ1 DP1
                obtain ⟨hc0, hf0⟩ := P52.out.out
                obtain ⟨hc1, hf1⟩ := S52.out.out
                go_wp2_with (fail)
                clear hc0 hf0 hc1 hf1
                go_roundg (hi - (t + 1))
                case measure => have := TG2.out; omega
                case rel => exact ⟨t + 1, by simp, by omega, by omega, rfl, B52.out, P52.out, R52.out, DM.out, W52.out, S52.out⟩
          · skip
            have t1 : ¬ (t : Int) < xs := by rcases HHI.out with h | h <;> omega
            obtain ⟨hc0, hf0⟩ := P50.out.out
            obtain ⟨hc1, hf1⟩ := S50.out.out
            go_wp2_with (fail)
            clear hc0 hf0 hc1 hf1
            with_reducible refine (LFA.out _).mono ?_
            rintro q_ u51 ⟨rfl, hb⟩
            have B51 := Lib.hid (vian HN.out B50.out hb)
            have P51 := Lib.hid (P50.out.below hb)
            have R51 := Lib.hid (R50.out.below hb)
            have D51 := Lib.hid (D50.out.below hb)
            have W51 := Lib.hid (W50.out.below hb)
            have S51 := Lib.hid (S50.out.below hb)
            clear hb B50 P50 R50 D50 W50 S50
            have ee := ME.out t (by rcases HHI.out with h | h <;> omega)
            have DE := Lib.hid (show Has u51 db (enc2 (dotN V O c line A (m + 1))) from by rw [HDN.out, ← ee]; exact D51.out)
            clear ee D51 ME
            go_wp2_with (fail)
            go_roundg (N - (m + 1))
            case measure => have := TG.out; omega
            case rel => exact ⟨m + 1, by omega, by have := TG.out; omega, by simp, B51.out, P51.out, R51.out, DE.out, W51.out⟩
      · skip
        omega
    · skip
      have te : m = N := by omega
      subst te
      have l1 : ¬ (m : Int) < m := by omega
      have D21 := Lib.hid (show Has u20 db (enc2 (topD V O c line)) from by rw [← DT2.out]; exact D20.out)
      clear D20 W20 BD
      go_wp2_with (first | (refine load_g r53 D21.out (enc2_size _) rfl _ rfl rfl ?_; simp only [Act.put, List.setIfInBounds_toArray, List.set_cons_zero, List.set_cons_succ]) | (refine store_g r53 R20.out (enc2_size _) (enc2 (topD V O c line)) (enc2_size _) (enc2_one _) rfl _ _ rfl rfl rfl ?_))
      intro u21 hP hk
      have R22 := Lib.hid hP
      have B22 := Lib.hid (hk.below HN.out LR.out B20.out)
      clear hk hP
      try simp only [Act.put]
      go_wp2_with (fail)
      exact bodyPost_ret (results_g r53 rfl _ rfl R22.out (enc2_size _)) rfl ⟨rfl, B22.out⟩
end Go.Proofs.Ytpfbodmadmneiaa
