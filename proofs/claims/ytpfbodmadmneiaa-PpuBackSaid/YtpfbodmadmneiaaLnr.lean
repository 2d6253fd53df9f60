/-
 A line of shades, as the document paints it: for every look, line, colours below, and memories of at most 8192 bytes.
-/
import Derived.Test.YtpfbodmadmneiaaTz
import Derived.Test.YtpfbodmadmneiaaUpr
import Derived.Deep.Cut
import Derived.BigQuiet
import Derived.WalkSmall
import Derived.Deep.LoopGhost
namespace Go.Proofs.Ytpfbodmadmneiaa
open Go.ChangeShapes Go.WideShapes Go.ChangeAt Go.RowKit
set_option linter.unusedVariables false
set_option linter.unusedSimpArgs false
set_option maxRecDepth 100000
theorem upd_upd (m : M) (o : Nat) (x y : Int) : upd (upd m o x) o y = upd m o y := by
 funext i
 unfold upd
 split <;> rfl
theorem keep_row2 {g b : Nat} {w w' : World} {v : Value} {n : Nat} {f : M} (hk : Keeps b w w') (h : RowG w v n f g) (hb : 0 < n → g ≠ b) : RowG w' v n f g := by
 obtain ⟨a, c, h1, h2, h3⟩ := h
 refine ⟨a, c, h1, h2, fun h0 => ?_⟩
 obtain ⟨e, hg, hc, hf⟩ := h3 h0
 exact ⟨e, Nat.lt_of_lt_of_le hg hk.size, fun j hj => ((cell_block (hk.block g hg (hb h0)) j).1).trans (hc j hj), fun j => ((cell_block (hk.block g hg (hb h0)) j).2).trans (hf j)⟩
theorem top_sees (V O : M) (c line : Int) (x : Nat) (S : M) (N : Nat) (hs : ∀ j, j < N → 0 ≤ S j ∧ S j < 40) (h : 0 ≤ bestN (seesV V O c line x) (keyV O) S N) : seeV V O c (bestN (seesV V O c line x) (keyV O) S N) x line ≠ 0 ∧ bestN (seesV V O c line x) (keyV O) S N < 40 := by
 obtain ⟨h1, j, h2, h3⟩ := best_in _ _ S N (fun j hj => (hs j hj).1) h
 exact ⟨of_decide_eq_true (show decide (seeV V O c (bestN (seesV V O c line x) (keyV O) S N) x line ≠ 0) = true from h1), by rw [h3]; exact (hs j h2).2⟩
set_option maxHeartbeats 8000000 in
theorem liner_0 (c bk fi se : Int) (c0 : 0 ≤ c) (c1 : c < 256) (bk0 : 0 ≤ bk) (bk1 : bk < 256) (fi0 : 0 ≤ fi) (fi1 : fi < 256) (se0 : 0 ≤ se) (se1 : se < 256) (vr ov : Value) (V O U : M) (okU : okB U) (line : Int) (line0 : -9223372036854775808 ≤ line) (line1 : line ≤ 9223372036854775807) (hb1 : bit c 1 = 0) (w : World) (hM0 : Mem w vr V) (hM1 : Mem w ov O) : Calls Try.prog 48 #[.agg #[.int .u8 c, .int .u8 bk, .int .u8 fi, .int .u8 se], vr, ov, .int .i64 line, .agg (enc U)] w fun q_ w' => q_ = .returned (.agg (enc (firstN (outV c bk fi se V O line U) 160))) ∧ Below w.heap.size w w' := by
 suffices hall : ∀ (n_ : Nat) (W0 : World), n_ ≤ W0.heap.size → Below n_ W0 w → MemB n_ W0 vr V → MemB n_ W0 ov O → Calls Try.prog 48 #[.agg #[.int .u8 c, .int .u8 bk, .int .u8 fi, .int .u8 se], vr, ov, .int .i64 line, .agg (enc U)] w fun q_ w' => q_ = .returned (.agg (enc (firstN (outV c bk fi se V O line U) 160))) ∧ Below n_ W0 w' from hall _ _ (Nat.le_refl _) (Below.refl _ _) hM0 hM1
 clear hM0 hM1
 intro n_ W0 hn hB hM0 hM1
 have HN := Lib.hid hn
 have BB := Lib.hid hB
 clear hn hB
 have HM0 := Lib.hid hM0
 clear hM0
 have HM1 := Lib.hid hM1
 clear hM1
 have hz34 : ∀ w : World, (zeroValue 34).run Try.prog w = .ok (.agg (enc zeroM)) w := zero34
 have OK := Lib.hid HM1.out.ok
 have UK := Lib.hid okU
 have Q1 := Lib.hid (fun W => bit1_c c c0 c1 W)
 rw [hb1] at Q1
 have SC := Lib.hid (fun W h => rscan_c c bk fi se c0 c1 bk0 bk1 fi0 fi1 se0 se1 ov O line line0 line1 W h)
 have UP := Lib.hid (fun (x : Nat) (hx : x < 160) S N a cp g hN hs W hR h1 h2 => upr_c c bk fi se c0 c1 bk0 bk1 fi0 fi1 se0 se1 vr ov V O line line0 line1 x hx S N a cp g hN hs W hR h1 h2)
 have AT := Lib.hid (fun (n : Nat) (hn : n < 40) W h => oat3_c ov O n hn W h)
 have DT := Lib.hid (fun (n x : Nat) (hn : n < 40) (hx : x < 160) W h1 h2 => dotr_c c bk fi se c0 c1 bk0 bk1 fi0 fi1 se0 se1 vr ov V O (n : Int) (x : Int) line (by omega) (by omega) (by omega) (by omega) line0 line1 W h1 h2)
 have LE := Lib.hid (sc_le c O line 40).1
 have RG := Lib.hid (sc_at c O line 40)
 have TP := Lib.hid (show ∀ x, topV V O c line x = bestN (seesV V O c line x) (keyV O) (scN c O line 40).2 (scN c O line 40).1 from fun _ => rfl)
 obtain ⟨q, hq⟩ : ∃ q_, q_ = scN c O line 40 := ⟨_, rfl⟩
 rw [← hq] at SC LE RG TP
 obtain ⟨N, S⟩ := q
 dsimp only at SC LE RG TP
 have SB4 := Lib.hid (show ∀ j, j < N → 0 ≤ S j ∧ S j < 40 from fun j hj => RG.out j hj)
 have EO := Lib.hid (show ∀ x, (outV c bk fi se V O line U) x = if bit c 1 = 0 ∨ topV V O c line x < 0 then shadeV bk (U x) else shadeAt bk fi se (U x) (seeV V O c (topV V O c line x) x line) (howV O (topV V O c line x)) from fun _ => rfl)
 obtain ⟨OUT, hO⟩ : ∃ q_, q_ = (outV c bk fi se V O line U) := ⟨_, rfl⟩
 rw [← hO] at EO ⊢
 have H1 := Lib.hid hb1
 clear hq hO okU hb1 RG
 go_enter Try.func48, Try.ntmps48
 have Q_ := own3 w (.cells #[.int .u8 c, .int .u8 bk, .int .u8 fi, .int .u8 se] 74) (.cells (enc U) 34) (.cells (enc zeroM) 34)
 have B0 := Lib.hid (vian HN.out BB.out Q_)
 have P0 := Lib.hid (show Has (((w.alloc (.cells #[.int .u8 c, .int .u8 bk, .int .u8 fi, .int .u8 se] 74)).alloc (.cells (enc U) 34)).alloc (.cells (enc zeroM) 34)) w.heap.size #[.int .u8 c, .int .u8 bk, .int .u8 fi, .int .u8 se] by simpa using ((Has.new w #[.int .u8 c, .int .u8 bk, .int .u8 fi, .int .u8 se] 74).alloc (.cells (enc U) 34)).alloc (.cells (enc zeroM) 34))
 have LP := Lib.hid (show n_ ≤ w.heap.size + 0 from Nat.le_add_right_of_le (Nat.le_trans HN.out BB.out.size))
 have U0 := Lib.hid (show Has (((w.alloc (.cells #[.int .u8 c, .int .u8 bk, .int .u8 fi, .int .u8 se] 74)).alloc (.cells (enc U) 34)).alloc (.cells (enc zeroM) 34)) (w.heap.size + 1) (enc U) by simpa using (Has.new (w.alloc (.cells #[.int .u8 c, .int .u8 bk, .int .u8 fi, .int .u8 se] 74)) (enc U) 34).alloc (.cells (enc zeroM) 34))
 have LU := Lib.hid (show n_ ≤ (w.heap.size + 1) from Nat.le_add_right_of_le (Nat.le_trans HN.out BB.out.size))
 have R0 := Lib.hid (show Has (((w.alloc (.cells #[.int .u8 c, .int .u8 bk, .int .u8 fi, .int .u8 se] 74)).alloc (.cells (enc U) 34)).alloc (.cells (enc zeroM) 34)) (w.heap.size + 2) (enc zeroM) by simpa using Has.new ((w.alloc (.cells #[.int .u8 c, .int .u8 bk, .int .u8 fi, .int .u8 se] 74)).alloc (.cells (enc U) 34)) (enc zeroM) 34)
 have LR := Lib.hid (show n_ ≤ (w.heap.size + 2) from Nat.le_add_right_of_le (Nat.le_trans HN.out BB.out.size))
 have NPU := Lib.hid (show w.heap.size + 0 ≠ w.heap.size + 1 by omega)
 have NPR := Lib.hid (show w.heap.size + 0 ≠ w.heap.size + 2 by omega)
 have NUR := Lib.hid (show w.heap.size + 1 ≠ w.heap.size + 2 by omega)
 simp only [Nat.add_zero] at LP NPU NPR
 clear Q_
 go_upto_region 1 with (fail)
 generalize (((w.alloc (.cells #[.int .u8 c, .int .u8 bk, .int .u8 fi, .int .u8 se] 74)).alloc (.cells (enc U) 34)).alloc (.cells (enc zeroM) 34)) = u0 at B0 P0 U0 R0 ⊢
 generalize w.heap.size + 2 = rb at R0 LR NPR NUR ⊢
 generalize w.heap.size + 1 = ub at U0 LU NPU NUR ⊢
 generalize w.heap.size = pb at P0 LP NPU NPR ⊢
 go_wp2_with (refine store_g r34 (Has.new u0 (enc zeroM) 34) (enc_size _) (enc zeroM) (enc_size _) (enc_one _) rfl _ _ rfl rfl rfl ?_)
 intro u1 hP hk
 have B1 := Lib.hid (keep_new HN.out B0.out _ hk)
 have NPS := Lib.hid (Nat.ne_of_lt P0.out.1)
 have P1 := Lib.hid (hk.has NPS.out (P0.out.below (own1 _ _)))
 have NUS := Lib.hid (Nat.ne_of_lt U0.out.1)
 have U1 := Lib.hid (hk.has NUS.out (U0.out.below (own1 _ _)))
 have NRS := Lib.hid (Nat.ne_of_lt R0.out.1)
 have R1 := Lib.hid (hk.has NRS.out (R0.out.below (own1 _ _)))
 have S1 := Lib.hid hP
 have LS := Lib.hid (Nat.le_trans HN.out B0.out.size)
 generalize u0.heap.size = sb at S1 LS NPS NUS NRS ⊢
 clear hk hP B0 P0 U0 R0
 try simp only [Act.put, qqA, qqB, qqC]
 obtain ⟨hc0, hf0⟩ := P1.out.out
 go_wp2_with (fail)
 clear hc0 hf0
 with_reducible refine (SC.out _ (HM1.out.at HN.out B1.out)).mono ?_
 rintro q_ u2 ⟨v, g, rfl, ⟨a, cp, rfl, hcp, hrow⟩, hg0, hb⟩
 have X2 := Lib.hid (rowG_mk (a := a) (c := cp) ⟨hcp, hrow⟩)
 have GS := Lib.hid (show g ≠ sb from by have := S1.out.1; omega)
 have B2 := Lib.hid (vian HN.out B1.out hb)
 have P2 := Lib.hid (P1.out.below hb)
 have U2 := Lib.hid (U1.out.below hb)
 have R2 := Lib.hid (R1.out.below hb)
 have S2 := Lib.hid (S1.out.below hb)
 clear hb hg0 hcp hrow SC B1 P1 U1 R1 S1
 go_wp2_with (fail)
 go_loopg [23] 160 (fun g' i wr => ∃ t : Nat, t ≤ 160 ∧ g' + t = 160 ∧ i = .int .i64 (t : Int) ∧ Below n_ W0 wr ∧ Has wr pb #[.int .u8 c, .int .u8 bk, .int .u8 fi, .int .u8 se] ∧ Has wr ub (enc U) ∧ Has wr rb (enc zeroM) ∧ Has wr sb (enc (firstN OUT t)) ∧ RowG wr (.slice a N cp) N S g)
 case atStart => exact ⟨0, by omega, by omega, rfl, B2.out, P2.out, U2.out, R2.out, by rw [first_zero]; exact S2.out, X2.out⟩
 case round =>
  obtain ⟨u20, hw5⟩ : ∃ q_, q_ = wr := ⟨_, rfl⟩
  subst hw5
  obtain ⟨t, ht, hg, rfl, hB, hP, hU, hR, hS, hX⟩ := hrel
  have TG := Lib.hid hg
  have B20 := Lib.hid hB
  have P20 := Lib.hid hP
  have U20 := Lib.hid hU
  have R20 := Lib.hid hR
  have S20 := Lib.hid hS
  have X20 := Lib.hid hX
  clear hg hB hP hU hR hS hX B2 P2 U2 R2 S2 X2
  by_cases hlt : t < 160
  ·skip
   have l1 : (t : Int) < 160 := by omega
   have l0 : (0 : Int) ≤ t := by omega
   have hfs := first_succ OUT t
   have eo := EO.out t
   rw [TP.out t] at eo
   have ts := top_sees V O c line t S N SB4.out
   have UPT := Lib.hid (UP.out t hlt S N a cp g LE.out SB4.out)
   have yb := UK.out t
   have ucell : (enc U)[t]? = some (.int .u8 (U t)) := enc_get U t hlt
   obtain ⟨y, hy⟩ : ∃ q_, q_ = U t := ⟨_, rfl⟩
   rw [← hy] at eo yb ucell
   have SH0 := Lib.hid (fun W => rshade_c bk y bk0 bk1 yb.1 yb.2 W)
   obtain ⟨s0, hs0⟩ : ∃ q_, q_ = shadeV bk y := ⟨_, rfl⟩
   rw [← hs0] at SH0
   obtain ⟨tp, htp⟩ : ∃ q_, q_ = bestN (seesV V O c line t) (keyV O) S N := ⟨_, rfl⟩
   rw [← htp] at eo ts UPT
   obtain ⟨m, hm⟩ : ∃ q_, q_ = firstN OUT t := ⟨_, rfl⟩
   rw [← hm] at hfs S20
   have FS := Lib.hid hfs
   have TS := Lib.hid ts
   have EOT := Lib.hid eo
   have UC := Lib.hid ucell
   have HS0 := Lib.hid hs0
   clear hy htp hm hfs ts eo ucell UP TP EO hs0
   go_upto_region 6 with (fail)
   have B21 := Lib.hid B20.out.drew
   have P21 := Lib.hid P20.out.drew
   have U21 := Lib.hid U20.out.drew
   have R21 := Lib.hid R20.out.drew
   have S21 := Lib.hid S20.out.drew
   have X21 := Lib.hid X20.out.drew
   clear B20 P20 U20 R20 S20 X20
   refine wp_region_held_drew (S := (fun w' => (∀ o, w'.cell? ⟨pb, o, none⟩ = (#[.int .u8 c, .int .u8 bk, .int .u8 fi, .int .u8 se])[o]?) ∧ (w'.cell? ⟨ub, t, none⟩ = some (.int .u8 y)))) (by kernel_rfl) ⟨P21.out.2.1, (U21.out.2.1 t).trans UC.out⟩ (fun hHeld => ?_)
   generalize World.drew _ = u21 at hHeld B21 P21 U21 R21 S21 X21 ⊢
   refine tzz 0 ?_
   refine tzz 1 ?_
   refine tzz 2 ?_
   refine tzz 3 ?_
   refine tzz 4 ?_
   refine tzz 5 ?_
   refine wpAnyH_ready (rs := [6]) (by kernel_rfl) (by simp) ?_
   refine (acc rfl (fun K hK => ?_) AllReadyH.nil)
   ·skip
    go_simp
    with_reducible refine (SH0.out _).mono ?_
    rintro q_ u22 ⟨rfl, hb⟩
    subst hb
    have B22 := B21
    have P22 := P21
    have U22 := U21
    have R22 := R21
    have S22 := S21
    have X22 := X21
    clear B21 P21 U21 R21 S21 X21
    refine hK.out _ _ ?s7 (fun hNew => ?r7)
    case s7 => exact ⟨P22.out.2.1, (U22.out.2.1 t).trans UC.out⟩
    clear hK K hHeld
    have hHeld := hNew
    clear hNew
    refine tzz 7 ?_
    refine wpAnyH_ready (rs := [8]) (by kernel_rfl) (by simp) ?_
    refine (acc rfl (fun K hK => ?_) AllReadyH.nil)
    ·skip
     refine wp_store_u S22.out _ _ rfl t rfl s0 rfl (by omega) ?_
     intro u23 hP hk
     try simp only [Act.put, qqA, qqB, qqC]
     have S23 := Lib.hid hP
     have B23 := Lib.hid (hk.below HN.out LS.out B22.out)
     have P23 := Lib.hid (hk.has NPS.out P22.out)
     have U23 := Lib.hid (hk.has NUS.out U22.out)
     have R23 := Lib.hid (hk.has NRS.out R22.out)
     have X23 := Lib.hid (keep_row2 hk X22.out (fun _ => GS.out))
     clear hP hk B22 P22 U22 R22 S22 X22
     refine hK.out _ _ ?s9 (fun hNew => ?r9)
     case s9 => exact ⟨P23.out.2.1, (U23.out.2.1 t).trans UC.out⟩
     clear hK K hHeld
     have hHeld := hNew
     clear hNew
     refine wpAnyH_done (by kernel_rfl) ?_ _
     clear hHeld
     obtain ⟨hc0, hf0⟩ := P23.out.out
     go_wp2_with (fail)
     clear hc0 hf0
     with_reducible refine (UPT.out _ X23.out (HM0.out.at HN.out B23.out) (HM1.out.at HN.out B23.out)).mono ?_
     rintro q_ u24 ⟨rfl, hb⟩
     have B24 := Lib.hid (vian HN.out B23.out hb)
     have P24 := Lib.hid (P23.out.below hb)
     have U24 := Lib.hid (U23.out.below hb)
     have R24 := Lib.hid (R23.out.below hb)
     have S24 := Lib.hid (S23.out.below hb)
     have X24 := Lib.hid (X23.out.below hb)
     clear hb UPT B23 P23 U23 R23 S23 X23
     obtain ⟨hc0, hf0⟩ := P24.out.out
     go_wp2_with (fail)
     clear hc0 hf0
     with_reducible refine (Q1.out _).mono ?_
     rintro q_ w' ⟨rfl, rfl⟩
     have ev := Lib.hid (show s0 = OUT t from by rw [EOT.out, if_pos (Or.inl H1.out)]; exact HS0.out)
     obtain ⟨hc0, hf0⟩ := P24.out.out
     go_wp2_with (fail)
     clear hc0 hf0
     go_roundg (160 - (t + 1))
     case measure => have := TG.out; omega
     case rel => exact ⟨t + 1, by omega, by have := TG.out; omega, by simp, B24.out, P24.out, U24.out, R24.out, by rw [← FS.out, ← ev.out]; exact S24.out, X24.out⟩
  ·skip
   have te : t = 160 := by omega
   subst te
   have l1 : ¬ ((160 : Nat) : Int) < 160 := by omega
   go_wp2_with (first | (refine load_g r34 S20.out (enc_size _) rfl _ rfl rfl ?_; simp only [Act.put, List.setIfInBounds_toArray, List.set_cons_zero, List.set_cons_succ]) | (refine store_g r34 R20.out (enc_size _) (enc (firstN OUT 160)) (enc_size _) (enc_one _) rfl _ _ rfl rfl rfl ?_))
   intro u21 hP hk
   have R22 := Lib.hid hP
   have B22 := Lib.hid (hk.below HN.out LR.out B20.out)
   clear hk hP
   try simp only [Act.put]
   go_wp2_with (fail)
   exact bodyPost_ret (results_g r34 rfl _ rfl R22.out (enc_size _)) rfl ⟨rfl, B22.out⟩
set_option maxHeartbeats 8000000 in
theorem liner_1 (c bk fi se : Int) (c0 : 0 ≤ c) (c1 : c < 256) (bk0 : 0 ≤ bk) (bk1 : bk < 256) (fi0 : 0 ≤ fi) (fi1 : fi < 256) (se0 : 0 ≤ se) (se1 : se < 256) (vr ov : Value) (V O U : M) (okU : okB U) (line : Int) (line0 : -9223372036854775808 ≤ line) (line1 : line ≤ 9223372036854775807) (hb1 : bit c 1 = 1) (w : World) (hM0 : Mem w vr V) (hM1 : Mem w ov O) : Calls Try.prog 48 #[.agg #[.int .u8 c, .int .u8 bk, .int .u8 fi, .int .u8 se], vr, ov, .int .i64 line, .agg (enc U)] w fun q_ w' => q_ = .returned (.agg (enc (firstN (outV c bk fi se V O line U) 160))) ∧ Below w.heap.size w w' := by
 suffices hall : ∀ (n_ : Nat) (W0 : World), n_ ≤ W0.heap.size → Below n_ W0 w → MemB n_ W0 vr V → MemB n_ W0 ov O → Calls Try.prog 48 #[.agg #[.int .u8 c, .int .u8 bk, .int .u8 fi, .int .u8 se], vr, ov, .int .i64 line, .agg (enc U)] w fun q_ w' => q_ = .returned (.agg (enc (firstN (outV c bk fi se V O line U) 160))) ∧ Below n_ W0 w' from hall _ _ (Nat.le_refl _) (Below.refl _ _) hM0 hM1
 clear hM0 hM1
 intro n_ W0 hn hB hM0 hM1
 have HN := Lib.hid hn
 have BB := Lib.hid hB
 clear hn hB
 have HM0 := Lib.hid hM0
 clear hM0
 have HM1 := Lib.hid hM1
 clear hM1
 have hz34 : ∀ w : World, (zeroValue 34).run Try.prog w = .ok (.agg (enc zeroM)) w := zero34
 have OK := Lib.hid HM1.out.ok
 have UK := Lib.hid okU
 have Q1 := Lib.hid (fun W => bit1_c c c0 c1 W)
 rw [hb1] at Q1
 have SC := Lib.hid (fun W h => rscan_c c bk fi se c0 c1 bk0 bk1 fi0 fi1 se0 se1 ov O line line0 line1 W h)
 have UP := Lib.hid (fun (x : Nat) (hx : x < 160) S N a cp g hN hs W hR h1 h2 => upr_c c bk fi se c0 c1 bk0 bk1 fi0 fi1 se0 se1 vr ov V O line line0 line1 x hx S N a cp g hN hs W hR h1 h2)
 have AT := Lib.hid (fun (n : Nat) (hn : n < 40) W h => oat3_c ov O n hn W h)
 have DT := Lib.hid (fun (n x : Nat) (hn : n < 40) (hx : x < 160) W h1 h2 => dotr_c c bk fi se c0 c1 bk0 bk1 fi0 fi1 se0 se1 vr ov V O (n : Int) (x : Int) line (by omega) (by omega) (by omega) (by omega) line0 line1 W h1 h2)
 have LE := Lib.hid (sc_le c O line 40).1
 have RG := Lib.hid (sc_at c O line 40)
 have TP := Lib.hid (show ∀ x, topV V O c line x = bestN (seesV V O c line x) (keyV O) (scN c O line 40).2 (scN c O line 40).1 from fun _ => rfl)
 obtain ⟨q, hq⟩ : ∃ q_, q_ = scN c O line 40 := ⟨_, rfl⟩
 rw [← hq] at SC LE RG TP
 obtain ⟨N, S⟩ := q
 dsimp only at SC LE RG TP
 have SB4 := Lib.hid (show ∀ j, j < N → 0 ≤ S j ∧ S j < 40 from fun j hj => RG.out j hj)
 have EO := Lib.hid (show ∀ x, (outV c bk fi se V O line U) x = if bit c 1 = 0 ∨ topV V O c line x < 0 then shadeV bk (U x) else shadeAt bk fi se (U x) (seeV V O c (topV V O c line x) x line) (howV O (topV V O c line x)) from fun _ => rfl)
 obtain ⟨OUT, hO⟩ : ∃ q_, q_ = (outV c bk fi se V O line U) := ⟨_, rfl⟩
 rw [← hO] at EO ⊢
 have H1 := Lib.hid hb1
 clear hq hO okU hb1 RG
 go_enter Try.func48, Try.ntmps48
 have Q_ := own3 w (.cells #[.int .u8 c, .int .u8 bk, .int .u8 fi, .int .u8 se] 74) (.cells (enc U) 34) (.cells (enc zeroM) 34)
 have B0 := Lib.hid (vian HN.out BB.out Q_)
 have P0 := Lib.hid (show Has (((w.alloc (.cells #[.int .u8 c, .int .u8 bk, .int .u8 fi, .int .u8 se] 74)).alloc (.cells (enc U) 34)).alloc (.cells (enc zeroM) 34)) w.heap.size #[.int .u8 c, .int .u8 bk, .int .u8 fi, .int .u8 se] by simpa using ((Has.new w #[.int .u8 c, .int .u8 bk, .int .u8 fi, .int .u8 se] 74).alloc (.cells (enc U) 34)).alloc (.cells (enc zeroM) 34))
 have LP := Lib.hid (show n_ ≤ w.heap.size + 0 from Nat.le_add_right_of_le (Nat.le_trans HN.out BB.out.size))
 have U0 := Lib.hid (show Has (((w.alloc (.cells #[.int .u8 c, .int .u8 bk, .int .u8 fi, .int .u8 se] 74)).alloc (.cells (enc U) 34)).alloc (.cells (enc zeroM) 34)) (w.heap.size + 1) (enc U) by simpa using (Has.new (w.alloc (.cells #[.int .u8 c, .int .u8 bk, .int .u8 fi, .int .u8 se] 74)) (enc U) 34).alloc (.cells (enc zeroM) 34))
 have LU := Lib.hid (show n_ ≤ (w.heap.size + 1) from Nat.le_add_right_of_le (Nat.le_trans HN.out BB.out.size))
 have R0 := Lib.hid (show Has (((w.alloc (.cells #[.int .u8 c, .int .u8 bk, .int .u8 fi, .int .u8 se] 74)).alloc (.cells (enc U) 34)).alloc (.cells (enc zeroM) 34)) (w.heap.size + 2) (enc zeroM) by simpa using Has.new ((w.alloc (.cells #[.int .u8 c, .int .u8 bk, .int .u8 fi, .int .u8 se] 74)).alloc (.cells (enc U) 34)) (enc zeroM) 34)
 have LR := Lib.hid (show n_ ≤ (w.heap.size + 2) from Nat.le_add_right_of_le (Nat.le_trans HN.out BB.out.size))
 have NPU := Lib.hid (show w.heap.size + 0 ≠ w.heap.size + 1 by omega)
 have NPR := Lib.hid (show w.heap.size + 0 ≠ w.heap.size + 2 by omega)
 have NUR := Lib.hid (show w.heap.size + 1 ≠ w.heap.size + 2 by omega)
 simp only [Nat.add_zero] at LP NPU NPR
 clear Q_
 go_upto_region 1 with (fail)
 generalize (((w.alloc (.cells #[.int .u8 c, .int .u8 bk, .int .u8 fi, .int .u8 se] 74)).alloc (.cells (enc U) 34)).alloc (.cells (enc zeroM) 34)) = u0 at B0 P0 U0 R0 ⊢
 generalize w.heap.size + 2 = rb at R0 LR NPR NUR ⊢
 generalize w.heap.size + 1 = ub at U0 LU NPU NUR ⊢
 generalize w.heap.size = pb at P0 LP NPU NPR ⊢
 go_wp2_with (refine store_g r34 (Has.new u0 (enc zeroM) 34) (enc_size _) (enc zeroM) (enc_size _) (enc_one _) rfl _ _ rfl rfl rfl ?_)
 intro u1 hP hk
 have B1 := Lib.hid (keep_new HN.out B0.out _ hk)
 have NPS := Lib.hid (Nat.ne_of_lt P0.out.1)
 have P1 := Lib.hid (hk.has NPS.out (P0.out.below (own1 _ _)))
 have NUS := Lib.hid (Nat.ne_of_lt U0.out.1)
 have U1 := Lib.hid (hk.has NUS.out (U0.out.below (own1 _ _)))
 have NRS := Lib.hid (Nat.ne_of_lt R0.out.1)
 have R1 := Lib.hid (hk.has NRS.out (R0.out.below (own1 _ _)))
 have S1 := Lib.hid hP
 have LS := Lib.hid (Nat.le_trans HN.out B0.out.size)
 generalize u0.heap.size = sb at S1 LS NPS NUS NRS ⊢
 clear hk hP B0 P0 U0 R0
 try simp only [Act.put, qqA, qqB, qqC]
 obtain ⟨hc0, hf0⟩ := P1.out.out
 go_wp2_with (fail)
 clear hc0 hf0
 with_reducible refine (SC.out _ (HM1.out.at HN.out B1.out)).mono ?_
 rintro q_ u2 ⟨v, g, rfl, ⟨a, cp, rfl, hcp, hrow⟩, hg0, hb⟩
 have X2 := Lib.hid (rowG_mk (a := a) (c := cp) ⟨hcp, hrow⟩)
 have GS := Lib.hid (show g ≠ sb from by have := S1.out.1; omega)
 have B2 := Lib.hid (vian HN.out B1.out hb)
 have P2 := Lib.hid (P1.out.below hb)
 have U2 := Lib.hid (U1.out.below hb)
 have R2 := Lib.hid (R1.out.below hb)
 have S2 := Lib.hid (S1.out.below hb)
 clear hb hg0 hcp hrow SC B1 P1 U1 R1 S1
 go_wp2_with (fail)
 go_loopg [23] 160 (fun g' i wr => ∃ t : Nat, t ≤ 160 ∧ g' + t = 160 ∧ i = .int .i64 (t : Int) ∧ Below n_ W0 wr ∧ Has wr pb #[.int .u8 c, .int .u8 bk, .int .u8 fi, .int .u8 se] ∧ Has wr ub (enc U) ∧ Has wr rb (enc zeroM) ∧ Has wr sb (enc (firstN OUT t)) ∧ RowG wr (.slice a N cp) N S g)
 case atStart => exact ⟨0, by omega, by omega, rfl, B2.out, P2.out, U2.out, R2.out, by rw [first_zero]; exact S2.out, X2.out⟩
 case round =>
  obtain ⟨u20, hw5⟩ : ∃ q_, q_ = wr := ⟨_, rfl⟩
  subst hw5
  obtain ⟨t, ht, hg, rfl, hB, hP, hU, hR, hS, hX⟩ := hrel
  have TG := Lib.hid hg
  have B20 := Lib.hid hB
  have P20 := Lib.hid hP
  have U20 := Lib.hid hU
  have R20 := Lib.hid hR
  have S20 := Lib.hid hS
  have X20 := Lib.hid hX
  clear hg hB hP hU hR hS hX B2 P2 U2 R2 S2 X2
  by_cases hlt : t < 160
  ·skip
   have l1 : (t : Int) < 160 := by omega
   have l0 : (0 : Int) ≤ t := by omega
   have hfs := first_succ OUT t
   have eo := EO.out t
   rw [TP.out t] at eo
   have ts := top_sees V O c line t S N SB4.out
   have UPT := Lib.hid (UP.out t hlt S N a cp g LE.out SB4.out)
   have yb := UK.out t
   have ucell : (enc U)[t]? = some (.int .u8 (U t)) := enc_get U t hlt
   obtain ⟨y, hy⟩ : ∃ q_, q_ = U t := ⟨_, rfl⟩
   rw [← hy] at eo yb ucell
   have SH0 := Lib.hid (fun W => rshade_c bk y bk0 bk1 yb.1 yb.2 W)
   obtain ⟨s0, hs0⟩ : ∃ q_, q_ = shadeV bk y := ⟨_, rfl⟩
   rw [← hs0] at SH0
   obtain ⟨tp, htp⟩ : ∃ q_, q_ = bestN (seesV V O c line t) (keyV O) S N := ⟨_, rfl⟩
   rw [← htp] at eo ts UPT
   obtain ⟨m, hm⟩ : ∃ q_, q_ = firstN OUT t := ⟨_, rfl⟩
   rw [← hm] at hfs S20
   have FS := Lib.hid hfs
   have TS := Lib.hid ts
   have EOT := Lib.hid eo
   have UC := Lib.hid ucell
   have HS0 := Lib.hid hs0
   clear hy htp hm hfs ts eo ucell UP TP EO hs0
   go_upto_region 6 with (fail)
   have B21 := Lib.hid B20.out.drew
   have P21 := Lib.hid P20.out.drew
   have U21 := Lib.hid U20.out.drew
   have R21 := Lib.hid R20.out.drew
   have S21 := Lib.hid S20.out.drew
   have X21 := Lib.hid X20.out.drew
   clear B20 P20 U20 R20 S20 X20
   refine wp_region_held_drew (S := (fun w' => (∀ o, w'.cell? ⟨pb, o, none⟩ = (#[.int .u8 c, .int .u8 bk, .int .u8 fi, .int .u8 se])[o]?) ∧ (w'.cell? ⟨ub, t, none⟩ = some (.int .u8 y)))) (by kernel_rfl) ⟨P21.out.2.1, (U21.out.2.1 t).trans UC.out⟩ (fun hHeld => ?_)
   generalize World.drew _ = u21 at hHeld B21 P21 U21 R21 S21 X21 ⊢
   refine tzz 0 ?_
   refine tzz 1 ?_
   refine tzz 2 ?_
   refine tzz 3 ?_
   refine tzz 4 ?_
   refine tzz 5 ?_
   refine wpAnyH_ready (rs := [6]) (by kernel_rfl) (by simp) ?_
   refine (acc rfl (fun K hK => ?_) AllReadyH.nil)
   ·skip
    go_simp
    with_reducible refine (SH0.out _).mono ?_
    rintro q_ u22 ⟨rfl, hb⟩
    subst hb
    have B22 := B21
    have P22 := P21
    have U22 := U21
    have R22 := R21
    have S22 := S21
    have X22 := X21
    clear B21 P21 U21 R21 S21 X21
    refine hK.out _ _ ?s16 (fun hNew => ?r16)
    case s16 => exact ⟨P22.out.2.1, (U22.out.2.1 t).trans UC.out⟩
    clear hK K hHeld
    have hHeld := hNew
    clear hNew
    refine tzz 7 ?_
    refine wpAnyH_ready (rs := [8]) (by kernel_rfl) (by simp) ?_
    refine (acc rfl (fun K hK => ?_) AllReadyH.nil)
    ·skip
     refine wp_store_u S22.out _ _ rfl t rfl s0 rfl (by omega) ?_
     intro u23 hP hk
     try simp only [Act.put, qqA, qqB, qqC]
     have S23 := Lib.hid hP
     have B23 := Lib.hid (hk.below HN.out LS.out B22.out)
     have P23 := Lib.hid (hk.has NPS.out P22.out)
     have U23 := Lib.hid (hk.has NUS.out U22.out)
     have R23 := Lib.hid (hk.has NRS.out R22.out)
     have X23 := Lib.hid (keep_row2 hk X22.out (fun _ => GS.out))
     clear hP hk B22 P22 U22 R22 S22 X22
     refine hK.out _ _ ?s18 (fun hNew => ?r18)
     case s18 => exact ⟨P23.out.2.1, (U23.out.2.1 t).trans UC.out⟩
     clear hK K hHeld
     have hHeld := hNew
     clear hNew
     refine wpAnyH_done (by kernel_rfl) ?_ _
     clear hHeld
     obtain ⟨hc0, hf0⟩ := P23.out.out
     go_wp2_with (fail)
     clear hc0 hf0
     with_reducible refine (UPT.out _ X23.out (HM0.out.at HN.out B23.out) (HM1.out.at HN.out B23.out)).mono ?_
     rintro q_ u24 ⟨rfl, hb⟩
     have B24 := Lib.hid (vian HN.out B23.out hb)
     have P24 := Lib.hid (P23.out.below hb)
     have U24 := Lib.hid (U23.out.below hb)
     have R24 := Lib.hid (R23.out.below hb)
     have S24 := Lib.hid (S23.out.below hb)
     have X24 := Lib.hid (X23.out.below hb)
     clear hb UPT B23 P23 U23 R23 S23 X23
     obtain ⟨hc0, hf0⟩ := P24.out.out
     go_wp2_with (fail)
     clear hc0 hf0
     with_reducible refine (Q1.out _).mono ?_
     rintro q_ w' ⟨rfl, rfl⟩
     by_cases htn : tp < 0
     ·skip
      have ev := Lib.hid (show s0 = OUT t from by rw [EOT.out, if_pos (Or.inr htn)]; exact HS0.out)
      have dn : decide (tp < 0) = true := decide_eq_true htn
      obtain ⟨hc0, hf0⟩ := P24.out.out
      go_wp2_with (fail)
      clear hc0 hf0
      go_roundg (160 - (t + 1))
      case measure => have := TG.out; omega
      case rel => exact ⟨t + 1, by omega, by have := TG.out; omega, by simp, B24.out, P24.out, U24.out, R24.out, by rw [← FS.out, ← ev.out]; exact S24.out, X24.out⟩
     ·skip
      have ts := TS.out (by omega)
      have eo := EOT.out
      rw [if_neg (by have := H1.out; omega)] at eo
      unfold shadeAt at eo
      obtain ⟨tn, htn2⟩ := Int.eq_ofNat_of_zero_le (show 0 ≤ tp by omega)
      subst htn2
      have t40 : tn < 40 := by omega
      have ATT := Lib.hid (AT.out tn t40)
      have DTT := Lib.hid (DT.out tn t t40 hlt)
      have hd0 := ts.1
      rw [show howV O (tn : Int) = O (4 * tn + 3) from rfl] at eo
      have hb9 := OK.out (4 * tn + 3)
      obtain ⟨hw, hhw⟩ : ∃ q_, q_ = O (4 * tn + 3) := ⟨_, rfl⟩
      rw [← hhw] at eo ATT hb9
      have sbd := seeV_bd V O c (tn : Int) (t : Int) line
      obtain ⟨d, hd⟩ : ∃ q_, q_ = seeV V O c (tn : Int) (t : Int) line := ⟨_, rfl⟩
      rw [← hd] at eo DTT hd0 sbd
      have d1 : d < 256 := by omega
      have ew : IntKind.u8.wrap hw = hw := by rw [IntKind.wrap_u8]; omega
      have q7 := Lib.hid (fun W => bit7_c hw hb9.1 hb9.2 W)
      have q4 := Lib.hid (fun W => bit4_c hw hb9.1 hb9.2 W)
      have SHS := Lib.hid (fun W => rshade_c se d se0 se1 sbd.1 d1 W)
      have SHF := Lib.hid (fun W => rshade_c fi d fi0 fi1 sbd.1 d1 W)
      have b7 := bit_bd hw 7
      have b4 := bit_bd hw 4
      obtain ⟨x7, hx7⟩ : ∃ q_, q_ = bit hw 7 := ⟨_, rfl⟩
      obtain ⟨x4, hx4⟩ : ∃ q_, q_ = bit hw 4 := ⟨_, rfl⟩
      rw [← hx7] at eo q7 b7
      rw [← hx4] at eo q4 b4
      have EOD := Lib.hid eo
      have HD0 := Lib.hid hd0
      have dn : ¬ (tn : Int) < 0 := by omega
      have dn2 : decide ((tn : Int) < 0) = false := decide_eq_false dn
      clear eo ts TS EOT AT DT hhw hd hd0 hx7 hx4 htn
      obtain ⟨hc0, hf0⟩ := P24.out.out
      go_wp2_with (fail)
      clear hc0 hf0
      with_reducible refine (ATT.out _ (HM1.out.at HN.out B24.out)).mono ?_
      rintro q_ w' ⟨rfl, rfl⟩
      obtain ⟨hc0, hf0⟩ := P24.out.out
      go_wp2_with (fail)
      clear hc0 hf0
      with_reducible refine (q7.out _).mono ?_
      rintro q_ w' ⟨rfl, rfl⟩
      rcases b7 with rfl | rfl
      ·skip
       obtain ⟨hc0, hf0⟩ := P24.out.out
       go_wp2_with (fail)
       clear hc0 hf0
       with_reducible refine (DTT.out _ (HM0.out.at HN.out B24.out) (HM1.out.at HN.out B24.out)).mono ?_
       rintro q_ u25 ⟨rfl, hb⟩
       have B25 := Lib.hid (vian HN.out B24.out hb)
       have P25 := Lib.hid (P24.out.below hb)
       have U25 := Lib.hid (U24.out.below hb)
       have R25 := Lib.hid (R24.out.below hb)
       have S25 := Lib.hid (S24.out.below hb)
       have X25 := Lib.hid (X24.out.below hb)
       clear hb B24 P24 U24 R24 S24 X24
       obtain ⟨hc0, hf0⟩ := P25.out.out
       go_wp2_with (fail)
       clear hc0 hf0
       with_reducible refine (q4.out _).mono ?_
       rintro q_ w' ⟨rfl, rfl⟩
       rcases b4 with rfl | rfl
       ·skip
        have ev := Lib.hid (show shadeV fi d = OUT t from by rw [EOD.out, if_neg (by have := HD0.out; omega), if_neg (by omega)])
        obtain ⟨zz, hzz⟩ : ∃ q_, q_ = shadeV fi d := ⟨_, rfl⟩
        rw [← hzz] at ev SHF
        clear hzz
        obtain ⟨hc0, hf0⟩ := P25.out.out
        go_wp2_with (fail)
        clear hc0 hf0
        with_reducible refine (SHF.out _).mono ?_
        rintro q_ w' ⟨rfl, rfl⟩
        go_wp2_with (refine store_u S25.out rfl _ _ rfl t rfl zz rfl (by omega) ?_)
        intro u26 hP hk
        rw [upd_upd] at hP
        have S26 := Lib.hid hP
        have B26 := Lib.hid (hk.below HN.out LS.out B25.out)
        have P26 := Lib.hid (hk.has NPS.out P25.out)
        have U26 := Lib.hid (hk.has NUS.out U25.out)
        have R26 := Lib.hid (hk.has NRS.out R25.out)
        have X26 := Lib.hid (keep_row2 hk X25.out (fun _ => GS.out))
        clear hP hk B25 P25 U25 R25 S25 X25
        try simp only [Act.put, qqA, qqB, qqC]
        go_wp2_with (fail)
        go_roundg (160 - (t + 1))
        case measure => have := TG.out; omega
        case rel => exact ⟨t + 1, by omega, by have := TG.out; omega, by simp, B26.out, P26.out, U26.out, R26.out, by rw [← FS.out, ← ev.out]; exact S26.out, X26.out⟩
       ·skip
        have ev := Lib.hid (show shadeV se d = OUT t from by rw [EOD.out, if_neg (by have := HD0.out; omega), if_pos rfl])
        obtain ⟨zz, hzz⟩ : ∃ q_, q_ = shadeV se d := ⟨_, rfl⟩
        rw [← hzz] at ev SHS
        clear hzz
        obtain ⟨hc0, hf0⟩ := P25.out.out
        go_wp2_with (fail)
        clear hc0 hf0
        with_reducible refine (SHS.out _).mono ?_
        rintro q_ w' ⟨rfl, rfl⟩
        go_wp2_with (refine store_u S25.out rfl _ _ rfl t rfl zz rfl (by omega) ?_)
        intro u26 hP hk
        rw [upd_upd] at hP
        have S26 := Lib.hid hP
        have B26 := Lib.hid (hk.below HN.out LS.out B25.out)
        have P26 := Lib.hid (hk.has NPS.out P25.out)
        have U26 := Lib.hid (hk.has NUS.out U25.out)
        have R26 := Lib.hid (hk.has NRS.out R25.out)
        have X26 := Lib.hid (keep_row2 hk X25.out (fun _ => GS.out))
        clear hP hk B25 P25 U25 R25 S25 X25
        try simp only [Act.put, qqA, qqB, qqC]
        go_wp2_with (fail)
        go_roundg (160 - (t + 1))
        case measure => have := TG.out; omega
        case rel => exact ⟨t + 1, by omega, by have := TG.out; omega, by simp, B26.out, P26.out, U26.out, R26.out, by rw [← FS.out, ← ev.out]; exact S26.out, X26.out⟩
      ·skip
       have uc : u24.cell? ⟨ub, t, none⟩ = some (.int .u8 y) := (U24.out.2.1 t).trans UC.out
       by_cases hy4 : y % 4 = 0
       ·skip
        have dy : ¬ (y % 4 != 0) = true := by simp; exact hy4
        have uy := Lib.hid hy4
        obtain ⟨hc0, hf0⟩ := P24.out.out
        go_wp2_with (fail)
        clear hc0 hf0
        with_reducible refine (DTT.out _ (HM0.out.at HN.out B24.out) (HM1.out.at HN.out B24.out)).mono ?_
        rintro q_ u25 ⟨rfl, hb⟩
        have B25 := Lib.hid (vian HN.out B24.out hb)
        have P25 := Lib.hid (P24.out.below hb)
        have U25 := Lib.hid (U24.out.below hb)
        have R25 := Lib.hid (R24.out.below hb)
        have S25 := Lib.hid (S24.out.below hb)
        have X25 := Lib.hid (X24.out.below hb)
        clear hb B24 P24 U24 R24 S24 X24
        obtain ⟨hc0, hf0⟩ := P25.out.out
        go_wp2_with (fail)
        clear hc0 hf0
        with_reducible refine (q4.out _).mono ?_
        rintro q_ w' ⟨rfl, rfl⟩
        rcases b4 with rfl | rfl
        ·skip
         have ev := Lib.hid (show shadeV fi d = OUT t from by rw [EOD.out, if_neg (by have := HD0.out; omega), if_neg (by omega)])
         obtain ⟨zz, hzz⟩ : ∃ q_, q_ = shadeV fi d := ⟨_, rfl⟩
         rw [← hzz] at ev SHF
         clear hzz
         obtain ⟨hc0, hf0⟩ := P25.out.out
         go_wp2_with (fail)
         clear hc0 hf0
         with_reducible refine (SHF.out _).mono ?_
         rintro q_ w' ⟨rfl, rfl⟩
         go_wp2_with (refine store_u S25.out rfl _ _ rfl t rfl zz rfl (by omega) ?_)
         intro u26 hP hk
         rw [upd_upd] at hP
         have S26 := Lib.hid hP
         have B26 := Lib.hid (hk.below HN.out LS.out B25.out)
         have P26 := Lib.hid (hk.has NPS.out P25.out)
         have U26 := Lib.hid (hk.has NUS.out U25.out)
         have R26 := Lib.hid (hk.has NRS.out R25.out)
         have X26 := Lib.hid (keep_row2 hk X25.out (fun _ => GS.out))
         clear hP hk B25 P25 U25 R25 S25 X25
         try simp only [Act.put, qqA, qqB, qqC]
         go_wp2_with (fail)
         go_roundg (160 - (t + 1))
         case measure => have := TG.out; omega
         case rel => exact ⟨t + 1, by omega, by have := TG.out; omega, by simp, B26.out, P26.out, U26.out, R26.out, by rw [← FS.out, ← ev.out]; exact S26.out, X26.out⟩
        ·skip
         have ev := Lib.hid (show shadeV se d = OUT t from by rw [EOD.out, if_neg (by have := HD0.out; omega), if_pos rfl])
         obtain ⟨zz, hzz⟩ : ∃ q_, q_ = shadeV se d := ⟨_, rfl⟩
         rw [← hzz] at ev SHS
         clear hzz
         obtain ⟨hc0, hf0⟩ := P25.out.out
         go_wp2_with (fail)
         clear hc0 hf0
         with_reducible refine (SHS.out _).mono ?_
         rintro q_ w' ⟨rfl, rfl⟩
         go_wp2_with (refine store_u S25.out rfl _ _ rfl t rfl zz rfl (by omega) ?_)
         intro u26 hP hk
         rw [upd_upd] at hP
         have S26 := Lib.hid hP
         have B26 := Lib.hid (hk.below HN.out LS.out B25.out)
         have P26 := Lib.hid (hk.has NPS.out P25.out)
         have U26 := Lib.hid (hk.has NUS.out U25.out)
         have R26 := Lib.hid (hk.has NRS.out R25.out)
         have X26 := Lib.hid (keep_row2 hk X25.out (fun _ => GS.out))
         clear hP hk B25 P25 U25 R25 S25 X25
         try simp only [Act.put, qqA, qqB, qqC]
         go_wp2_with (fail)
         go_roundg (160 - (t + 1))
         case measure => have := TG.out; omega
         case rel => exact ⟨t + 1, by omega, by have := TG.out; omega, by simp, B26.out, P26.out, U26.out, R26.out, by rw [← FS.out, ← ev.out]; exact S26.out, X26.out⟩
       ·skip
        obtain ⟨y4, hy5⟩ : ∃ q_, q_ = y % 4 := ⟨_, rfl⟩
        rw [← hy5] at hy4
        have e5 := hy5.symm
        have ev := Lib.hid (show s0 = OUT t from by rw [EOD.out, if_pos (Or.inr ⟨rfl, by rw [← hy5]; exact hy4⟩)]; exact HS0.out)
        have dy : (y4 != 0) = true := by simp; exact hy4
        clear hy5
        obtain ⟨hc0, hf0⟩ := P24.out.out
        go_wp2_with (fail)
        clear hc0 hf0
        go_roundg (160 - (t + 1))
        case measure => have := TG.out; omega
        case rel => exact ⟨t + 1, by omega, by have := TG.out; omega, by simp, B24.out, P24.out, U24.out, R24.out, by rw [← FS.out, ← ev.out]; exact S24.out, X24.out⟩
  ·skip
   have te : t = 160 := by omega
   subst te
   have l1 : ¬ ((160 : Nat) : Int) < 160 := by omega
   go_wp2_with (first | (refine load_g r34 S20.out (enc_size _) rfl _ rfl rfl ?_; simp only [Act.put, List.setIfInBounds_toArray, List.set_cons_zero, List.set_cons_succ]) | (refine store_g r34 R20.out (enc_size _) (enc (firstN OUT 160)) (enc_size _) (enc_one _) rfl _ _ rfl rfl rfl ?_))
   intro u21 hP hk
   have R22 := Lib.hid hP
   have B22 := Lib.hid (hk.below HN.out LR.out B20.out)
   clear hk hP
   try simp only [Act.put]
   go_wp2_with (fail)
   exact bodyPost_ret (results_g r34 rfl _ rfl R22.out (enc_size _)) rfl ⟨rfl, B22.out⟩
theorem liner_c (c bk fi se : Int) (c0 : 0 ≤ c) (c1 : c < 256) (bk0 : 0 ≤ bk) (bk1 : bk < 256) (fi0 : 0 ≤ fi) (fi1 : fi < 256) (se0 : 0 ≤ se) (se1 : se < 256) (vr ov : Value) (V O U : M) (okU : okB U) (line : Int) (line0 : -9223372036854775808 ≤ line) (line1 : line ≤ 9223372036854775807) (w : World) (hM0 : Mem w vr V) (hM1 : Mem w ov O) : Calls Try.prog 48 #[.agg #[.int .u8 c, .int .u8 bk, .int .u8 fi, .int .u8 se], vr, ov, .int .i64 line, .agg (enc U)] w fun q_ w' => q_ = .returned (.agg (enc (firstN (outV c bk fi se V O line U) 160))) ∧ Below w.heap.size w w' := by
 rcases bit_bd c 1 with h | h
 ·exact liner_0 c bk fi se c0 c1 bk0 bk1 fi0 fi1 se0 se1 vr ov V O U okU line line0 line1 h w hM0 hM1
 ·exact liner_1 c bk fi se c0 c1 bk0 bk1 fi0 fi1 se0 se1 vr ov V O U okU line line0 line1 h w hM0 hM1
end Go.Proofs.Ytpfbodmadmneiaa
