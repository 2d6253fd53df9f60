/-
 A line of shades, as the program paints it: for every look, line, colours below, and memories of at most 8192 bytes.
-/
import Derived.Test.YtpfbodmadmneiaaTz
import Derived.Test.YtpfbodmadmneiaaShd
import Derived.Deep.Cut
import Derived.BigQuiet
import Derived.WalkSmall
import Derived.Deep.LoopGhost
namespace Go.Proofs.Ytpfbodmadmneiaa
open Go.ChangeShapes Go.WideShapes Go.ChangeAt Go.RowKit
set_option linter.unusedVariables false
set_option linter.unusedSimpArgs false
set_option maxRecDepth 100000
theorem idx_line (U : M) (t : Nat) (ht : t < 160) (w : World) : (Instr.index 34 (.agg (enc U)) (.int .i64 (t : Int))).run Try.prog w = .ok (.int .u8 (U t)) w := by
 have h1 : (0 ≤ (t : Int) ∧ (t : Int) < (160 : Nat)) := by omega
 have hp : (part 5 (enc U) t).run Try.prog w = .ok (.int .u8 (U t)) w := part_cell (fun w => Try.isAgg5 w) (enc_get U t ht) w
 simp [Instr.index, Sem.run_bind, run_underlying Try.underlying34, asIntOf, h1, Try.sizeOf5, Result.andThen, hp]
 intro h
 omega
/-- The line of shades that a line of dots makes. -/
def mkL (bk fi se : Int) (U D : M) : M := fun x => shadeAt bk fi se (U x) (D (2 * x)) (D (2 * x + 1))
theorem topD_at (V O : M) (c bk fi se line : Int) (U : M) (x : Nat) (hx : x < 160) (h1 : bit c 1 = 1) : mkL bk fi se U (topD V O c line) x = outV c bk fi se V O line U x := by
 have e1 : topD V O c line (2 * x) = if topV V O c line x < 0 then 0 else seeV V O c (topV V O c line x) x line := by
  unfold topD
  rw [if_pos (by omega), show 2 * x / 2 = x by omega, show 2 * x % 2 = 0 by omega, if_pos (show (0 : Nat) = 0 from rfl)]
 have e2 : topD V O c line (2 * x + 1) = if topV V O c line x < 0 then 0 else howV O (topV V O c line x) := by
  unfold topD
  rw [if_pos (by omega), show (2 * x + 1) / 2 = x by omega, if_neg (show ¬ (2 * x + 1) % 2 = 0 by omega)]
 unfold mkL
 rw [e1, e2]
 unfold outV
 by_cases ht : topV V O c line x < 0
 ·rw [if_pos ht, if_pos ht, if_pos (Or.inr ht)]
  exact if_pos (Or.inl rfl)
 ·rw [if_neg ht, if_neg ht, if_neg (by omega)]
theorem dark_at (V O : M) (c bk fi se line : Int) (U : M) (x : Nat) (h1 : bit c 1 = 0) : mkL bk fi se U zeroM x = outV c bk fi se V O line U x := out_dark c bk fi se V O line U x h1
theorem firstN_congr (A B : M) (n : Nat) (h : ∀ x, x < n → A x = B x) : firstN A n = firstN B n := by
 funext i
 unfold firstN
 split
 ·exact h i (by assumption)
 ·rfl
theorem topD_bd (V O : M) (c line : Int) (ok : okB O) : okB (topD V O c line) := fun i => by
 unfold topD
 split
 ·split
  ·decide
  ·split
   ·have := seeV_bd V O c (topV V O c line (i / 2)) ((i / 2 : Nat) : Int) line; omega
   ·exact ok _
 ·decide
set_option maxHeartbeats 8000000 in
theorem linep_0 (c bk fi se : Int) (c0 : 0 ≤ c) (c1 : c < 256) (bk0 : 0 ≤ bk) (bk1 : bk < 256) (fi0 : 0 ≤ fi) (fi1 : fi < 256) (se0 : 0 ≤ se) (se1 : se < 256) (vr ov : Value) (V O U : M) (okU : okB U) (line : Int) (line0 : -9223372036854775808 ≤ line) (line1 : line ≤ 9223372036854775807) (hb1 : bit c 1 = 0) (w : World) (hM0 : Mem w vr V) (hM1 : Mem w ov O) : Calls Try.prog 58 #[.agg #[.int .u8 c, .int .u8 bk, .int .u8 fi, .int .u8 se], vr, ov, .int .i64 line, .agg (enc U)] w fun q_ w' => q_ = .returned (.agg (enc (firstN (outV c bk fi se V O line U) 160))) ∧ Below w.heap.size w w' := by
 suffices hall : ∀ (n_ : Nat) (W0 : World), n_ ≤ W0.heap.size → Below n_ W0 w → MemB n_ W0 vr V → MemB n_ W0 ov O → Calls Try.prog 58 #[.agg #[.int .u8 c, .int .u8 bk, .int .u8 fi, .int .u8 se], vr, ov, .int .i64 line, .agg (enc U)] w fun q_ w' => q_ = .returned (.agg (enc (firstN (outV c bk fi se V O line U) 160))) ∧ Below n_ W0 w' from hall _ _ (Nat.le_refl _) (Below.refl _ _) hM0 hM1
 clear hM0 hM1
 intro n_ W0 hn hB hM0 hM1
 have HN := Lib.hid hn
 have BB := Lib.hid hB
 clear hn hB
 have HM0 := Lib.hid hM0
 clear hM0
 have HM1 := Lib.hid hM1
 clear hM1
 have hz53 : ∀ w : World, (zeroValue 95).run Try.prog w = .ok (.agg (enc2 zeroM)) w := zero53
 have hz34 : ∀ w : World, (zeroValue 34).run Try.prog w = .ok (.agg (enc zeroM)) w := zero34
 have ea := an1 c c0 c1
 rw [hb1] at ea
 rw [show (2 : Int) * 0 = 0 by decide] at ea
 have OKO := HM1.out.ok
 have eo : firstN (mkL bk fi se U zeroM) 160 = (firstN (outV c bk fi se V O line U) 160) := firstN_congr _ _ _ (fun x hx => dark_at V O c bk fi se line U x hb1)
 have OKD : okB zeroM := fun _ => by unfold zeroM; decide
 obtain ⟨D, hD⟩ : ∃ q_, q_ = zeroM := ⟨_, rfl⟩
 rw [← hD] at eo OKD
 rw [← eo]
 have SD := Lib.hid (fun (t : Nat) W => (show Calls Try.prog 72 #[.agg #[.int .u8 c, .int .u8 bk, .int .u8 fi, .int .u8 se], .agg #[.int .u8 (D (2 * t)), .int .u8 (D (2 * t + 1))], .int .u8 (U t)] W fun q_ w' => q_ = .returned (.int .u8 (mkL bk fi se U D t)) ∧ Below W.heap.size W w' from dshade_c c bk fi se c0 c1 bk0 bk1 fi0 fi1 se0 se1 _ _ _ (OKD _).1 (OKD _).2 (OKD _).1 (OKD _).2 (okU t).1 (okU t).2 W))
 clear eo OKD okU OKO hb1
 go_enter Try.func58, Try.ntmps58
 have Q_ := own4 w (.cells #[.int .u8 c, .int .u8 bk, .int .u8 fi, .int .u8 se] 81) (.cells (enc U) 34) (.cells (enc zeroM) 34) (.cells (enc2 zeroM) 95)
 have B0 := Lib.hid (vian HN.out BB.out Q_)
 have P0 := Lib.hid (show Has ((((w.alloc (.cells #[.int .u8 c, .int .u8 bk, .int .u8 fi, .int .u8 se] 81)).alloc (.cells (enc U) 34)).alloc (.cells (enc zeroM) 34)).alloc (.cells (enc2 zeroM) 95)) w.heap.size #[.int .u8 c, .int .u8 bk, .int .u8 fi, .int .u8 se] by simpa using (((Has.new w #[.int .u8 c, .int .u8 bk, .int .u8 fi, .int .u8 se] 81).alloc (.cells (enc U) 34)).alloc (.cells (enc zeroM) 34)).alloc (.cells (enc2 zeroM) 95))
 have LP := Lib.hid (show n_ ≤ w.heap.size + 0 from Nat.le_add_right_of_le (Nat.le_trans HN.out BB.out.size))
 have U0 := Lib.hid (show Has ((((w.alloc (.cells #[.int .u8 c, .int .u8 bk, .int .u8 fi, .int .u8 se] 81)).alloc (.cells (enc U) 34)).alloc (.cells (enc zeroM) 34)).alloc (.cells (enc2 zeroM) 95)) (w.heap.size + 1) (enc U) by simpa using ((Has.new (w.alloc (.cells #[.int .u8 c, .int .u8 bk, .int .u8 fi, .int .u8 se] 81)) (enc U) 34).alloc (.cells (enc zeroM) 34)).alloc (.cells (enc2 zeroM) 95))
 have LU := Lib.hid (show n_ ≤ (w.heap.size + 1) from Nat.le_add_right_of_le (Nat.le_trans HN.out BB.out.size))
 have R0 := Lib.hid (show Has ((((w.alloc (.cells #[.int .u8 c, .int .u8 bk, .int .u8 fi, .int .u8 se] 81)).alloc (.cells (enc U) 34)).alloc (.cells (enc zeroM) 34)).alloc (.cells (enc2 zeroM) 95)) (w.heap.size + 2) (enc zeroM) by simpa using (Has.new ((w.alloc (.cells #[.int .u8 c, .int .u8 bk, .int .u8 fi, .int .u8 se] 81)).alloc (.cells (enc U) 34)) (enc zeroM) 34).alloc (.cells (enc2 zeroM) 95))
 have LR := Lib.hid (show n_ ≤ (w.heap.size + 2) from Nat.le_add_right_of_le (Nat.le_trans HN.out BB.out.size))
 have A0 := Lib.hid (show Has ((((w.alloc (.cells #[.int .u8 c, .int .u8 bk, .int .u8 fi, .int .u8 se] 81)).alloc (.cells (enc U) 34)).alloc (.cells (enc zeroM) 34)).alloc (.cells (enc2 zeroM) 95)) (w.heap.size + 3) (enc2 zeroM) by simpa using Has.new (((w.alloc (.cells #[.int .u8 c, .int .u8 bk, .int .u8 fi, .int .u8 se] 81)).alloc (.cells (enc U) 34)).alloc (.cells (enc zeroM) 34)) (enc2 zeroM) 95)
 have LA := Lib.hid (show n_ ≤ (w.heap.size + 3) from Nat.le_add_right_of_le (Nat.le_trans HN.out BB.out.size))
 have NPU := Lib.hid (show w.heap.size + 0 ≠ w.heap.size + 1 by omega)
 have NPR := Lib.hid (show w.heap.size + 0 ≠ w.heap.size + 2 by omega)
 have NPA := Lib.hid (show w.heap.size + 0 ≠ w.heap.size + 3 by omega)
 have NUR := Lib.hid (show w.heap.size + 1 ≠ w.heap.size + 2 by omega)
 have NUA := Lib.hid (show w.heap.size + 1 ≠ w.heap.size + 3 by omega)
 have NRA := Lib.hid (show w.heap.size + 2 ≠ w.heap.size + 3 by omega)
 simp only [Nat.add_zero] at LP NPU NPR NPA
 clear Q_
 go_upto_region 2 with (fail)
 generalize ((((w.alloc (.cells #[.int .u8 c, .int .u8 bk, .int .u8 fi, .int .u8 se] 81)).alloc (.cells (enc U) 34)).alloc (.cells (enc zeroM) 34)).alloc (.cells (enc2 zeroM) 95)) = u0 at B0 P0 U0 R0 A0 ⊢
 generalize w.heap.size + 3 = ab at A0 LA NPA NUA NRA ⊢
 generalize w.heap.size + 2 = rb at R0 LR NPR NUR NRA ⊢
 generalize w.heap.size + 1 = ub at U0 LU NPU NUR NUA ⊢
 generalize w.heap.size = pb at P0 LP NPU NPR NPA ⊢
 obtain ⟨hc0, hf0⟩ := P0.out.out
 go_upto_region 4 with (fail)
 clear hc0 hf0
 have A1 := Lib.hid (show Has u0 ab (enc2 D) from by rw [hD]; exact A0.out)
 clear A0
 have A0 := Lib.hid A1.out
 clear A1 hD
 have Q_ := own1 u0 (.cells (enc zeroM) 34)
 have B1 := Lib.hid (vian HN.out B0.out Q_)
 have P1 := Lib.hid (P0.out.below Q_)
 have U1 := Lib.hid (U0.out.below Q_)
 have R1 := Lib.hid (R0.out.below Q_)
 have A1 := Lib.hid (A0.out.below Q_)
 have S1 := Lib.hid (Has.new u0 (enc zeroM) 34)
 have LS := Lib.hid (Nat.le_trans HN.out B0.out.size)
 have NPS := Lib.hid (Nat.ne_of_lt P0.out.1)
 have NUS := Lib.hid (Nat.ne_of_lt U0.out.1)
 have NRS := Lib.hid (Nat.ne_of_lt R0.out.1)
 have NAS := Lib.hid (Nat.ne_of_lt A0.out.1)
 clear Q_
 go_upto_region 5 with (fail)
 generalize u0.alloc (.cells (enc zeroM) 34) = u1 at B1 P1 U1 R1 A1 S1 ⊢
 generalize u0.heap.size = sb at S1 LS NPS NUS NRS NAS ⊢
 clear B0 P0 U0 R0 A0
 go_wp2_with (refine load_g r34 U1.out (enc_size _) rfl _ rfl rfl ?_; simp only [Act.put, List.setIfInBounds_toArray, List.set_cons_zero, List.set_cons_succ])
 go_loopg [25] 160 (fun g' i wr => ∃ t : Nat, t ≤ 160 ∧ g' + t = 160 ∧ i = .int .i64 (t : Int) ∧ Below n_ W0 wr ∧ Has wr pb #[.int .u8 c, .int .u8 bk, .int .u8 fi, .int .u8 se] ∧ Has wr rb (enc zeroM) ∧ Has wr ab (enc2 D) ∧ Has wr sb (enc (firstN (mkL bk fi se U D) t)))
 case atStart => exact ⟨0, by omega, by omega, rfl, B1.out, P1.out, R1.out, A1.out, by rw [first_zero]; exact S1.out⟩
 case round =>
  obtain ⟨u20, hw5⟩ : ∃ q_, q_ = wr := ⟨_, rfl⟩
  subst hw5
  obtain ⟨t, ht, hg, rfl, hB, hP, hR, hA, hS⟩ := hrel
  have TG := Lib.hid hg
  have B20 := Lib.hid hB
  have P20 := Lib.hid hP
  have R20 := Lib.hid hR
  have A20 := Lib.hid hA
  have S20 := Lib.hid hS
  clear hg hB hP hR hA hS B1 P1 U1 R1 A1 S1
  by_cases hlt : t < 160
  ·skip
   have l1 : (t : Int) < 160 := by omega
   have l0 : (0 : Int) ≤ t := by omega
   have HS := Lib.hid (first_succ (mkL bk fi se U D) t)
   have SDT := Lib.hid (SD.out t)
   have ix := idx_line U t hlt
   obtain ⟨z, hz⟩ : ∃ q_, q_ = mkL bk fi se U D t := ⟨_, rfl⟩
   rw [← hz] at HS SDT
   obtain ⟨y, hy⟩ : ∃ q_, q_ = U t := ⟨_, rfl⟩
   rw [← hy] at SDT ix
   obtain ⟨m, hm⟩ : ∃ q_, q_ = firstN (mkL bk fi se U D) t := ⟨_, rfl⟩
   rw [← hm] at HS S20
   clear hz hy hm
   have E2 := Lib.hid (show 2 * t = t * 2 by omega)
   rw [E2.out] at SDT
   go_upto_region 8 with (fail)
   have B21 := Lib.hid B20.out.drew
   have P21 := Lib.hid P20.out.drew
   have R21 := Lib.hid R20.out.drew
   have A21 := Lib.hid A20.out.drew
   have S21 := Lib.hid S20.out.drew
   clear B20 P20 R20 A20 S20
   refine wp_region_held_drew (S := (fun w' => (∀ o, w'.cell? ⟨pb, o, none⟩ = (#[.int .u8 c, .int .u8 bk, .int .u8 fi, .int .u8 se])[o]?) ∧ (w'.rangeAt ab 0 (enc2 D).toList))) (by kernel_rfl) ⟨P21.out.2.1, range_of_has A21.out⟩ (fun hHeld => ?_)
   generalize World.drew _ = u21 at hHeld B21 P21 R21 A21 S21 ⊢
   refine tzz 0 ?_
   refine tzz 1 ?_
   refine tzz 2 ?_
   refine tzz 3 ?_
   refine wpAnyH_take (i := 4) (oi := ⟨_, _, _, _, _, _⟩) (v := .agg #[.int .u8 (D (t * 2)), .int .u8 (D (t * 2 + 1))]) rfl (by kernel_rfl) (by kernel_rfl) (by kernel_rfl) (fun _ _ _ h => h) (yields_load2 D ab (t * 2) (by omega) (fun w hw => hw.2) (by rfl) _ rfl rfl) (by assumption) ?_
   try simp only [Act.put, qqA, qqB, qqC]
   refine tzz 5 ?_
   refine wpAnyH_ready (rs := [6]) (by kernel_rfl) (by simp) ?_
   refine (acc rfl (fun K hK => ?_) AllReadyH.nil)
   ·skip
    go_simp
    with_reducible refine (SDT.out _).mono ?_
    rintro q_ u22 ⟨rfl, hb⟩
    have B22 := Lib.hid (vian HN.out B21.out hb)
    have P22 := Lib.hid (P21.out.below hb)
    have R22 := Lib.hid (R21.out.below hb)
    have A22 := Lib.hid (A21.out.below hb)
    have S22 := Lib.hid (S21.out.below hb)
    clear hb B21 P21 R21 A21 S21
    refine hK.out _ _ ?s7 (fun hNew => ?r7)
    case s7 => exact ⟨P22.out.2.1, range_of_has A22.out⟩
    clear hK K hHeld
    have hHeld := hNew
    clear hNew
    refine tzz 7 ?_
    refine wpAnyH_ready (rs := [8]) (by kernel_rfl) (by simp) ?_
    refine (acc rfl (fun K hK => ?_) AllReadyH.nil)
    ·skip
     refine wp_store_u S22.out _ _ rfl t rfl z rfl (by omega) ?_
     intro u23 hP hk
     try simp only [Act.put, qqA, qqB, qqC]
     rw [HS.out] at hP
     have S23 := Lib.hid hP
     have B23 := Lib.hid (hk.below HN.out LS.out B22.out)
     have P23 := Lib.hid (hk.has NPS.out P22.out)
     have R23 := Lib.hid (hk.has NRS.out R22.out)
     have A23 := Lib.hid (hk.has NAS.out A22.out)
     clear hP hk B22 P22 R22 A22 S22
     refine hK.out _ _ ?s9 (fun hNew => ?r9)
     case s9 => exact ⟨P23.out.2.1, range_of_has A23.out⟩
     clear hK K hHeld
     have hHeld := hNew
     clear hNew
     refine wpAnyH_done (by kernel_rfl) ?_ _
     clear hHeld
     go_wp2_with (fail)
     go_roundg (160 - (t + 1))
     case measure => have := TG.out; omega
     case rel => exact ⟨t + 1, by omega, by have := TG.out; omega, by simp, B23.out, P23.out, R23.out, A23.out, S23.out⟩
  ·skip
   have te : t = 160 := by omega
   subst te
   have l1 : ¬ ((160 : Nat) : Int) < 160 := by omega
   go_wp2_with (first | (refine load_g r34 S20.out (enc_size _) rfl _ rfl rfl ?_; simp only [Act.put, List.setIfInBounds_toArray, List.set_cons_zero, List.set_cons_succ]) | (refine store_g r34 R20.out (enc_size _) (enc (firstN (mkL bk fi se U D) 160)) (enc_size _) (enc_one _) rfl _ _ rfl rfl rfl ?_))
   intro u21 hP hk
   have R22 := Lib.hid hP
   have B22 := Lib.hid (hk.below HN.out LR.out B20.out)
   clear hk hP
   try simp only [Act.put]
   go_wp2_with (fail)
   exact bodyPost_ret (results_g r34 rfl _ rfl R22.out (enc_size _)) rfl ⟨rfl, B22.out⟩
set_option maxHeartbeats 8000000 in
theorem linep_1 (c bk fi se : Int) (c0 : 0 ≤ c) (c1 : c < 256) (bk0 : 0 ≤ bk) (bk1 : bk < 256) (fi0 : 0 ≤ fi) (fi1 : fi < 256) (se0 : 0 ≤ se) (se1 : se < 256) (vr ov : Value) (V O U : M) (okU : okB U) (line : Int) (line0 : -9223372036854775808 ≤ line) (line1 : line ≤ 9223372036854775807) (hb1 : bit c 1 = 1) (w : World) (hM0 : Mem w vr V) (hM1 : Mem w ov O) : Calls Try.prog 58 #[.agg #[.int .u8 c, .int .u8 bk, .int .u8 fi, .int .u8 se], vr, ov, .int .i64 line, .agg (enc U)] w fun q_ w' => q_ = .returned (.agg (enc (firstN (outV c bk fi se V O line U) 160))) ∧ Below w.heap.size w w' := by
 suffices hall : ∀ (n_ : Nat) (W0 : World), n_ ≤ W0.heap.size → Below n_ W0 w → MemB n_ W0 vr V → MemB n_ W0 ov O → Calls Try.prog 58 #[.agg #[.int .u8 c, .int .u8 bk, .int .u8 fi, .int .u8 se], vr, ov, .int .i64 line, .agg (enc U)] w fun q_ w' => q_ = .returned (.agg (enc (firstN (outV c bk fi se V O line U) 160))) ∧ Below n_ W0 w' from hall _ _ (Nat.le_refl _) (Below.refl _ _) hM0 hM1
 clear hM0 hM1
 intro n_ W0 hn hB hM0 hM1
 have HN := Lib.hid hn
 have BB := Lib.hid hB
 clear hn hB
 have HM0 := Lib.hid hM0
 clear hM0
 have HM1 := Lib.hid hM1
 clear hM1
 have hz53 : ∀ w : World, (zeroValue 95).run Try.prog w = .ok (.agg (enc2 zeroM)) w := zero53
 have hz34 : ∀ w : World, (zeroValue 34).run Try.prog w = .ok (.agg (enc zeroM)) w := zero34
 have ea := an1 c c0 c1
 rw [hb1] at ea
 rw [show (2 : Int) * 1 = 2 by decide] at ea
 have OKO := HM1.out.ok
 have UP := Lib.hid (fun W h1 h2 => upm_c c bk fi se c0 c1 bk0 bk1 fi0 fi1 se0 se1 vr ov V O line line0 line1 W h1 h2)
 have eo : firstN (mkL bk fi se U (topD V O c line)) 160 = (firstN (outV c bk fi se V O line U) 160) := firstN_congr _ _ _ (fun x hx => topD_at V O c bk fi se line U x hx hb1)
 have OKD := topD_bd V O c line OKO
 obtain ⟨D, hD⟩ : ∃ q_, q_ = topD V O c line := ⟨_, rfl⟩
 rw [← hD] at UP eo OKD
 clear hD
 rw [← eo]
 have SD := Lib.hid (fun (t : Nat) W => (show Calls Try.prog 72 #[.agg #[.int .u8 c, .int .u8 bk, .int .u8 fi, .int .u8 se], .agg #[.int .u8 (D (2 * t)), .int .u8 (D (2 * t + 1))], .int .u8 (U t)] W fun q_ w' => q_ = .returned (.int .u8 (mkL bk fi se U D t)) ∧ Below W.heap.size W w' from dshade_c c bk fi se c0 c1 bk0 bk1 fi0 fi1 se0 se1 _ _ _ (OKD _).1 (OKD _).2 (OKD _).1 (OKD _).2 (okU t).1 (okU t).2 W))
 clear eo OKD okU OKO hb1
 go_enter Try.func58, Try.ntmps58
 have Q_ := own4 w (.cells #[.int .u8 c, .int .u8 bk, .int .u8 fi, .int .u8 se] 81) (.cells (enc U) 34) (.cells (enc zeroM) 34) (.cells (enc2 zeroM) 95)
 have B0 := Lib.hid (vian HN.out BB.out Q_)
 have P0 := Lib.hid (show Has ((((w.alloc (.cells #[.int .u8 c, .int .u8 bk, .int .u8 fi, .int .u8 se] 81)).alloc (.cells (enc U) 34)).alloc (.cells (enc zeroM) 34)).alloc (.cells (enc2 zeroM) 95)) w.heap.size #[.int .u8 c, .int .u8 bk, .int .u8 fi, .int .u8 se] by simpa using (((Has.new w #[.int .u8 c, .int .u8 bk, .int .u8 fi, .int .u8 se] 81).alloc (.cells (enc U) 34)).alloc (.cells (enc zeroM) 34)).alloc (.cells (enc2 zeroM) 95))
 have LP := Lib.hid (show n_ ≤ w.heap.size + 0 from Nat.le_add_right_of_le (Nat.le_trans HN.out BB.out.size))
 have U0 := Lib.hid (show Has ((((w.alloc (.cells #[.int .u8 c, .int .u8 bk, .int .u8 fi, .int .u8 se] 81)).alloc (.cells (enc U) 34)).alloc (.cells (enc zeroM) 34)).alloc (.cells (enc2 zeroM) 95)) (w.heap.size + 1) (enc U) by simpa using ((Has.new (w.alloc (.cells #[.int .u8 c, .int .u8 bk, .int .u8 fi, .int .u8 se] 81)) (enc U) 34).alloc (.cells (enc zeroM) 34)).alloc (.cells (enc2 zeroM) 95))
 have LU := Lib.hid (show n_ ≤ (w.heap.size + 1) from Nat.le_add_right_of_le (Nat.le_trans HN.out BB.out.size))
 have R0 := Lib.hid (show Has ((((w.alloc (.cells #[.int .u8 c, .int .u8 bk, .int .u8 fi, .int .u8 se] 81)).alloc (.cells (enc U) 34)).alloc (.cells (enc zeroM) 34)).alloc (.cells (enc2 zeroM) 95)) (w.heap.size + 2) (enc zeroM) by simpa using (Has.new ((w.alloc (.cells #[.int .u8 c, .int .u8 bk, .int .u8 fi, .int .u8 se] 81)).alloc (.cells (enc U) 34)) (enc zeroM) 34).alloc (.cells (enc2 zeroM) 95))
 have LR := Lib.hid (show n_ ≤ (w.heap.size + 2) from Nat.le_add_right_of_le (Nat.le_trans HN.out BB.out.size))
 have A0 := Lib.hid (show Has ((((w.alloc (.cells #[.int .u8 c, .int .u8 bk, .int .u8 fi, .int .u8 se] 81)).alloc (.cells (enc U) 34)).alloc (.cells (enc zeroM) 34)).alloc (.cells (enc2 zeroM) 95)) (w.heap.size + 3) (enc2 zeroM) by simpa using Has.new (((w.alloc (.cells #[.int .u8 c, .int .u8 bk, .int .u8 fi, .int .u8 se] 81)).alloc (.cells (enc U) 34)).alloc (.cells (enc zeroM) 34)) (enc2 zeroM) 95)
 have LA := Lib.hid (show n_ ≤ (w.heap.size + 3) from Nat.le_add_right_of_le (Nat.le_trans HN.out BB.out.size))
 have NPU := Lib.hid (show w.heap.size + 0 ≠ w.heap.size + 1 by omega)
 have NPR := Lib.hid (show w.heap.size + 0 ≠ w.heap.size + 2 by omega)
 have NPA := Lib.hid (show w.heap.size + 0 ≠ w.heap.size + 3 by omega)
 have NUR := Lib.hid (show w.heap.size + 1 ≠ w.heap.size + 2 by omega)
 have NUA := Lib.hid (show w.heap.size + 1 ≠ w.heap.size + 3 by omega)
 have NRA := Lib.hid (show w.heap.size + 2 ≠ w.heap.size + 3 by omega)
 simp only [Nat.add_zero] at LP NPU NPR NPA
 clear Q_
 go_upto_region 2 with (fail)
 generalize ((((w.alloc (.cells #[.int .u8 c, .int .u8 bk, .int .u8 fi, .int .u8 se] 81)).alloc (.cells (enc U) 34)).alloc (.cells (enc zeroM) 34)).alloc (.cells (enc2 zeroM) 95)) = u0 at B0 P0 U0 R0 A0 ⊢
 generalize w.heap.size + 3 = ab at A0 LA NPA NUA NRA ⊢
 generalize w.heap.size + 2 = rb at R0 LR NPR NUR NRA ⊢
 generalize w.heap.size + 1 = ub at U0 LU NPU NUR NUA ⊢
 generalize w.heap.size = pb at P0 LP NPU NPR NPA ⊢
 obtain ⟨hc0, hf0⟩ := P0.out.out
 go_upto_region 3 with (fail)
 clear hc0 hf0
 obtain ⟨hc0, hf0⟩ := P0.out.out
 go_wp2_with (fail)
 clear hc0 hf0
 with_reducible refine (UP.out _ (HM0.out.at HN.out B0.out) (HM1.out.at HN.out B0.out)).mono ?_
 rintro q_ u1 ⟨rfl, hb⟩
 have B1 := Lib.hid (vian HN.out B0.out hb)
 have P1 := Lib.hid (P0.out.below hb)
 have U1 := Lib.hid (U0.out.below hb)
 have R1 := Lib.hid (R0.out.below hb)
 have A1 := Lib.hid (A0.out.below hb)
 clear hb B0 P0 U0 R0 A0
 go_wp2_with (refine store_g r53 A1.out (enc2_size _) (enc2 D) (enc2_size _) (enc2_one _) rfl _ _ rfl rfl rfl ?_)
 intro u2 hP hk
 have A2 := Lib.hid hP
 have B2 := Lib.hid (hk.below HN.out LA.out B1.out)
 have P2 := Lib.hid (hk.has NPA.out P1.out)
 have U2 := Lib.hid (hk.has NUA.out U1.out)
 have R2 := Lib.hid (hk.has NRA.out R1.out)
 clear hP hk B1 P1 U1 R1 A1
 try simp only [Act.put, qqA, qqB, qqC]
 have Q_ := own1 u2 (.cells (enc zeroM) 34)
 have B3 := Lib.hid (vian HN.out B2.out Q_)
 have P3 := Lib.hid (P2.out.below Q_)
 have U3 := Lib.hid (U2.out.below Q_)
 have R3 := Lib.hid (R2.out.below Q_)
 have A3 := Lib.hid (A2.out.below Q_)
 have S3 := Lib.hid (Has.new u2 (enc zeroM) 34)
 have LS := Lib.hid (Nat.le_trans HN.out B2.out.size)
 have NPS := Lib.hid (Nat.ne_of_lt P2.out.1)
 have NUS := Lib.hid (Nat.ne_of_lt U2.out.1)
 have NRS := Lib.hid (Nat.ne_of_lt R2.out.1)
 have NAS := Lib.hid (Nat.ne_of_lt A2.out.1)
 clear Q_
 go_upto_region 5 with (fail)
 generalize u2.alloc (.cells (enc zeroM) 34) = u3 at B3 P3 U3 R3 A3 S3 ⊢
 generalize u2.heap.size = sb at S3 LS NPS NUS NRS NAS ⊢
 clear B2 P2 U2 R2 A2
 go_wp2_with (refine load_g r34 U3.out (enc_size _) rfl _ rfl rfl ?_; simp only [Act.put, List.setIfInBounds_toArray, List.set_cons_zero, List.set_cons_succ])
 go_loopg [25] 160 (fun g' i wr => ∃ t : Nat, t ≤ 160 ∧ g' + t = 160 ∧ i = .int .i64 (t : Int) ∧ Below n_ W0 wr ∧ Has wr pb #[.int .u8 c, .int .u8 bk, .int .u8 fi, .int .u8 se] ∧ Has wr rb (enc zeroM) ∧ Has wr ab (enc2 D) ∧ Has wr sb (enc (firstN (mkL bk fi se U D) t)))
 case atStart => exact ⟨0, by omega, by omega, rfl, B3.out, P3.out, R3.out, A3.out, by rw [first_zero]; exact S3.out⟩
 case round =>
  obtain ⟨u20, hw5⟩ : ∃ q_, q_ = wr := ⟨_, rfl⟩
  subst hw5
  obtain ⟨t, ht, hg, rfl, hB, hP, hR, hA, hS⟩ := hrel
  have TG := Lib.hid hg
  have B20 := Lib.hid hB
  have P20 := Lib.hid hP
  have R20 := Lib.hid hR
  have A20 := Lib.hid hA
  have S20 := Lib.hid hS
  clear hg hB hP hR hA hS B3 P3 U3 R3 A3 S3
  by_cases hlt : t < 160
  ·skip
   have l1 : (t : Int) < 160 := by omega
   have l0 : (0 : Int) ≤ t := by omega
   have HS := Lib.hid (first_succ (mkL bk fi se U D) t)
   have SDT := Lib.hid (SD.out t)
   have ix := idx_line U t hlt
   obtain ⟨z, hz⟩ : ∃ q_, q_ = mkL bk fi se U D t := ⟨_, rfl⟩
   rw [← hz] at HS SDT
   obtain ⟨y, hy⟩ : ∃ q_, q_ = U t := ⟨_, rfl⟩
   rw [← hy] at SDT ix
   obtain ⟨m, hm⟩ : ∃ q_, q_ = firstN (mkL bk fi se U D) t := ⟨_, rfl⟩
   rw [← hm] at HS S20
   clear hz hy hm
   have E2 := Lib.hid (show 2 * t = t * 2 by omega)
   rw [E2.out] at SDT
   go_upto_region 8 with (fail)
   have B21 := Lib.hid B20.out.drew
   have P21 := Lib.hid P20.out.drew
   have R21 := Lib.hid R20.out.drew
   have A21 := Lib.hid A20.out.drew
   have S21 := Lib.hid S20.out.drew
   clear B20 P20 R20 A20 S20
   refine wp_region_held_drew (S := (fun w' => (∀ o, w'.cell? ⟨pb, o, none⟩ = (#[.int .u8 c, .int .u8 bk, .int .u8 fi, .int .u8 se])[o]?) ∧ (w'.rangeAt ab 0 (enc2 D).toList))) (by kernel_rfl) ⟨P21.out.2.1, range_of_has A21.out⟩ (fun hHeld => ?_)
   generalize World.drew _ = u21 at hHeld B21 P21 R21 A21 S21 ⊢
   refine tzz 0 ?_
   refine tzz 1 ?_
   refine tzz 2 ?_
   refine tzz 3 ?_
   refine wpAnyH_take (i := 4) (oi := ⟨_, _, _, _, _, _⟩) (v := .agg #[.int .u8 (D (t * 2)), .int .u8 (D (t * 2 + 1))]) rfl (by kernel_rfl) (by kernel_rfl) (by kernel_rfl) (fun _ _ _ h => h) (yields_load2 D ab (t * 2) (by omega) (fun w hw => hw.2) (by rfl) _ rfl rfl) (by assumption) ?_
   try simp only [Act.put, qqA, qqB, qqC]
   refine tzz 5 ?_
   refine wpAnyH_ready (rs := [6]) (by kernel_rfl) (by simp) ?_
   refine (acc rfl (fun K hK => ?_) AllReadyH.nil)
   ·skip
    go_simp
    with_reducible refine (SDT.out _).mono ?_
    rintro q_ u22 ⟨rfl, hb⟩
    have B22 := Lib.hid (vian HN.out B21.out hb)
    have P22 := Lib.hid (P21.out.below hb)
    have R22 := Lib.hid (R21.out.below hb)
    have A22 := Lib.hid (A21.out.below hb)
    have S22 := Lib.hid (S21.out.below hb)
    clear hb B21 P21 R21 A21 S21
    refine hK.out _ _ ?s16 (fun hNew => ?r16)
    case s16 => exact ⟨P22.out.2.1, range_of_has A22.out⟩
    clear hK K hHeld
    have hHeld := hNew
    clear hNew
    refine tzz 7 ?_
    refine wpAnyH_ready (rs := [8]) (by kernel_rfl) (by simp) ?_
    refine (acc rfl (fun K hK => ?_) AllReadyH.nil)
    ·skip
     refine wp_store_u S22.out _ _ rfl t rfl z rfl (by omega) ?_
     intro u23 hP hk
     try simp only [Act.put, qqA, qqB, qqC]
     rw [HS.out] at hP
     have S23 := Lib.hid hP
     have B23 := Lib.hid (hk.below HN.out LS.out B22.out)
     have P23 := Lib.hid (hk.has NPS.out P22.out)
     have R23 := Lib.hid (hk.has NRS.out R22.out)
     have A23 := Lib.hid (hk.has NAS.out A22.out)
     clear hP hk B22 P22 R22 A22 S22
     refine hK.out _ _ ?s18 (fun hNew => ?r18)
     case s18 => exact ⟨P23.out.2.1, range_of_has A23.out⟩
     clear hK K hHeld
     have hHeld := hNew
     clear hNew
     refine wpAnyH_done (by kernel_rfl) ?_ _
     clear hHeld
     go_wp2_with (fail)
     go_roundg (160 - (t + 1))
     case measure => have := TG.out; omega
     case rel => exact ⟨t + 1, by omega, by have := TG.out; omega, by simp, B23.out, P23.out, R23.out, A23.out, S23.out⟩
  ·skip
   have te : t = 160 := by omega
   subst te
   have l1 : ¬ ((160 : Nat) : Int) < 160 := by omega
   go_wp2_with (first | (refine load_g r34 S20.out (enc_size _) rfl _ rfl rfl ?_; simp only [Act.put, List.setIfInBounds_toArray, List.set_cons_zero, List.set_cons_succ]) | (refine store_g r34 R20.out (enc_size _) (enc (firstN (mkL bk fi se U D) 160)) (enc_size _) (enc_one _) rfl _ _ rfl rfl rfl ?_))
   intro u21 hP hk
   have R22 := Lib.hid hP
   have B22 := Lib.hid (hk.below HN.out LR.out B20.out)
   clear hk hP
   try simp only [Act.put]
   go_wp2_with (fail)
   exact bodyPost_ret (results_g r34 rfl _ rfl R22.out (enc_size _)) rfl ⟨rfl, B22.out⟩
theorem linep_c (c bk fi se : Int) (c0 : 0 ≤ c) (c1 : c < 256) (bk0 : 0 ≤ bk) (bk1 : bk < 256) (fi0 : 0 ≤ fi) (fi1 : fi < 256) (se0 : 0 ≤ se) (se1 : se < 256) (vr ov : Value) (V O U : M) (okU : okB U) (line : Int) (line0 : -9223372036854775808 ≤ line) (line1 : line ≤ 9223372036854775807) (w : World) (hM0 : Mem w vr V) (hM1 : Mem w ov O) : Calls Try.prog 58 #[.agg #[.int .u8 c, .int .u8 bk, .int .u8 fi, .int .u8 se], vr, ov, .int .i64 line, .agg (enc U)] w fun q_ w' => q_ = .returned (.agg (enc (firstN (outV c bk fi se V O line U) 160))) ∧ Below w.heap.size w w' := by
 rcases bit_bd c 1 with h | h
 ·exact linep_0 c bk fi se c0 c1 bk0 bk1 fi0 fi1 se0 se1 vr ov V O U okU line line0 line1 h w hM0 hM1
 ·exact linep_1 c bk fi se c0 c1 bk0 bk1 fi0 fi1 se0 se1 vr ov V O U okU line line0 line1 h w hM0 hM1
end Go.Proofs.Ytpfbodmadmneiaa
