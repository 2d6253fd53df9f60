/-
 The next line, and the row of a line: for every unit; no condition but that each number fits.
-/
import Derived.Test.YtpfbodmadmneiaaTz
import Derived.Test.YtpfbodmadmneiaaPw
import Derived.Test.YtpfbodmadmneiaaLnp
import Derived.Test.YtpfbodmadmneiaaLn
import Derived.Deep.Cut
import Derived.BigQuiet
import Derived.WalkSmall
namespace Go.Proofs.Ytpfbodmadmneiaa
open Go.ChangeShapes Go.WideShapes Go.ChangeAt Go.RowKit
set_option linter.unusedVariables false
set_option linter.unusedSimpArgs false
set_option maxRecDepth 100000
theorem keeps_new {b x : Nat} {w0 u u' : World} (h : Keeps b w0 u) (hx : w0.heap.size ≤ x) (hk : Keeps x u u') : Keeps b w0 u' :=
 ⟨hk.os.trans h.os, hk.tape.trans h.tape, hk.output.trans h.output, Nat.le_trans h.size hk.size, fun k h1 h2 => (hk.block k (Nat.lt_of_lt_of_le h1 h.size) (by omega)).trans (h.block k h1 h2)⟩
theorem r80 : IsRow 80 5 := ⟨⟨_, Try.underlying80, rfl⟩, by kernel_rfl⟩
theorem five_one (p q r s v : Int) : (#[.int .u8 p, .int .u8 q, .int .u8 r, .int .u8 s, .int .u8 v] : Array Value).all (·.oneCell') = true := by simp [Value.oneCell']
set_option maxHeartbeats 2000000 in
theorem next_144 (b : Nat) (m : M) (L : Int) (hL : m 8356 = L) (L0 : 0 ≤ L)  (fr : Int) (hfr : m 8365 = fr) (fr0 : 0 ≤ fr) (fr1 : fr < 65536) (ow : Int) (how : m 8364 = ow) (ow0 : 0 ≤ ow) (ow1 : ow < 256)  (L1 : L < 154) (N : Int) (hN : L + 1 = N) (g : (N == 144) = true) (w : World) (h : Has w b (encU m)) : Calls Try.prog 45 #[.pointer (some ⟨b, 0, none⟩)] w fun q_ w' => q_ = .returned (.int .u8 1) ∧ Has w' b (encU (upd (upd (upd m 8363 0) 8356 N) 8365 ((fr + 1) % 65536))) ∧ Keeps b w w' := by
 suffices hall : ∀ w0 : World, Keeps b w0 w → Calls Try.prog 45 #[.pointer (some ⟨b, 0, none⟩)] w fun q_ w' => q_ = .returned (.int .u8 1) ∧ Has w' b (encU (upd (upd (upd m 8363 0) 8356 N) 8365 ((fr + 1) % 65536))) ∧ Keeps b w0 w' from hall w (Keeps.refl b w)
 intro w0 hK
 have P0 := Lib.hid h
 have K0 := Lib.hid hK
 clear h hK
 have HL := Lib.hid hL
 clear hL
 have Hfr := Lib.hid hfr
 clear hfr
 have How := Lib.hid how
 clear how
 have hw : IntKind.u8.wrap (L + 1) = N := by rw [IntKind.wrap_u8]; omega
 have HN := Lib.hid hN
 clear hN
 go_enter Try.func45, Try.ntmps45
 obtain ⟨hc, hf⟩ := P0.out.out
 go_wp2_with (refine ust_u P0.out rfl _ _ rfl _ rfl _ rfl (by omega) (by omega) (by omega) ?_)
 intro u1 hP hk
 clear hc hf
 replace hP : Has u1 b (encU (upd m 8363 0)) := hP
 have P1 := Lib.hid hP
 have K1 := Lib.hid (K0.out.trans hk)
 clear hP hk P0 K0
 try simp only [Act.put]
 have e_L : (encU (upd m 8363 0))[8356]? = some (.int .u8 L) := (encU_u _ 8356 (by decide) (by decide) (by decide)).trans (congrArg (fun x => some (Value.int .u8 x)) (HL.out))
 go_upto_region 2 with (fail)
 have P2 := Lib.hid P1.out.drew
 have K2 := Lib.hid (K1.out.drew)
 clear P1 K1
 refine wp_region_held_drew (S := (fun w' => True)) (by kernel_rfl) trivial (fun hHeld => ?_)
 generalize World.drew _ = u2 at hHeld P2 K2 ⊢
 refine tzz 0 ?_
 refine tzz 1 ?_
 refine tzz 2 ?_
 refine tzz 3 ?_
 refine tzz 6 ?_
 refine tzz 7 ?_
 refine wpAnyH_ready (rs := [4]) (by kernel_rfl) (by simp) ?_
 refine (acc rfl (fun K hK => ?_) AllReadyH.nil)
 ·skip
  obtain ⟨hc, hfz⟩ := P2.out.out
  go_simp
  clear hc hfz
  have P3 := P2
  have K3 := K2
  clear P2 K2
  refine hK.out _ _ ?s7 (fun hNew => ?r7)
  case s7 => exact trivial
  clear hK K hHeld
  have hHeld := hNew
  clear hNew
  refine tzz 5 ?_
  refine tzz 8 ?_
  refine wpAnyH_ready (rs := [9]) (by kernel_rfl) (by simp) ?_
  refine (acc rfl (fun K hK => ?_) AllReadyH.nil)
  ·skip
   have e9 := encU_u (upd m 8363 0) 8356 (by omega) (by omega) (by omega)
   obtain ⟨hc, hfz⟩ := P3.out.out
   go_simp
   clear hc hfz e9
   have P4 := Lib.hid (P3.out.setu 8356 (N) (by omega) (by omega) (by omega))
   have K4 := Lib.hid (K3.out.setCell 8356 (.int .u8 (N)))
   clear P3 K3
   refine hK.out _ _ ?s10 (fun hNew => ?r10)
   case s10 => exact trivial
   clear hK K hHeld
   have hHeld := hNew
   clear hNew
   generalize World.setCell _ _ _ = u4 at hHeld P4 K4 ⊢
   refine wpAnyH_done (by kernel_rfl) ?_ _
   clear hHeld
   clear e_L
   obtain ⟨hc, hf⟩ := P4.out.out
   have e_L : (encU (upd (upd m 8363 0) 8356 N))[8356]? = some (.int .u8 N) := (encU_u _ 8356 (by decide) (by decide) (by decide)).trans (congrArg (fun x => some (Value.int .u8 x)) (upd_same _ _ _))
   have e_fr : (encU (upd (upd m 8363 0) 8356 N))[8365]? = some (.int .u16 fr) := (encU_f _).trans (congrArg (fun x => some (Value.int .u16 x)) (Hfr.out))
   have hw2 : IntKind.u16.wrap (fr + 1) = (fr + 1) % 65536 := by rw [IntKind.wrap_u16]
   go_wp2_with (refine store_f P4.out rfl _ _ rfl rfl _ rfl ?_)
   intro u5 hP hk
   clear hc hf e_L e_fr
   replace hP : Has u5 b (encU (upd (upd (upd m 8363 0) 8356 N) 8365 ((fr + 1) % 65536))) := hP
   have P5 := Lib.hid hP
   have K5 := Lib.hid (K4.out.trans hk)
   clear hP hk P4 K4
   try simp only [Act.put]
   go_wp2
   all_goals first | exact bodyPost_ret (v := .int .u8 1) (by simp [results, Try.results45, go_sem]) rfl ⟨rfl, P5.out, K5.out⟩ | exact bodyPost_end (v := .int .u8 1) (by simp [results, Try.results45, go_sem]) rfl ⟨rfl, P5.out, K5.out⟩
set_option maxHeartbeats 2000000 in
theorem next_154 (b : Nat) (m : M) (L : Int) (hL : m 8356 = L) (L0 : 0 ≤ L)  (fr : Int) (hfr : m 8365 = fr) (fr0 : 0 ≤ fr) (fr1 : fr < 65536) (ow : Int) (how : m 8364 = ow) (ow0 : 0 ≤ ow) (ow1 : ow < 256)  (L1 : L < 154) (N : Int) (hN : L + 1 = N) (g1 : (N == 144) = false) (g : (N == 154) = true) (w : World) (h : Has w b (encU m)) : Calls Try.prog 45 #[.pointer (some ⟨b, 0, none⟩)] w fun q_ w' => q_ = .returned (.int .u8 0) ∧ Has w' b (encU (upd (upd (upd (upd m 8363 0) 8356 N) 8356 0) 8364 0)) ∧ Keeps b w w' := by
 suffices hall : ∀ w0 : World, Keeps b w0 w → Calls Try.prog 45 #[.pointer (some ⟨b, 0, none⟩)] w fun q_ w' => q_ = .returned (.int .u8 0) ∧ Has w' b (encU (upd (upd (upd (upd m 8363 0) 8356 N) 8356 0) 8364 0)) ∧ Keeps b w0 w' from hall w (Keeps.refl b w)
 intro w0 hK
 have P0 := Lib.hid h
 have K0 := Lib.hid hK
 clear h hK
 have HL := Lib.hid hL
 clear hL
 have Hfr := Lib.hid hfr
 clear hfr
 have How := Lib.hid how
 clear how
 have hw : IntKind.u8.wrap (L + 1) = N := by rw [IntKind.wrap_u8]; omega
 have HN := Lib.hid hN
 clear hN
 go_enter Try.func45, Try.ntmps45
 obtain ⟨hc, hf⟩ := P0.out.out
 go_wp2_with (refine ust_u P0.out rfl _ _ rfl _ rfl _ rfl (by omega) (by omega) (by omega) ?_)
 intro u1 hP hk
 clear hc hf
 replace hP : Has u1 b (encU (upd m 8363 0)) := hP
 have P1 := Lib.hid hP
 have K1 := Lib.hid (K0.out.trans hk)
 clear hP hk P0 K0
 try simp only [Act.put]
 have e_L : (encU (upd m 8363 0))[8356]? = some (.int .u8 L) := (encU_u _ 8356 (by decide) (by decide) (by decide)).trans (congrArg (fun x => some (Value.int .u8 x)) (HL.out))
 go_upto_region 2 with (fail)
 have P2 := Lib.hid P1.out.drew
 have K2 := Lib.hid (K1.out.drew)
 clear P1 K1
 refine wp_region_held_drew (S := (fun w' => True)) (by kernel_rfl) trivial (fun hHeld => ?_)
 generalize World.drew _ = u2 at hHeld P2 K2 ⊢
 refine tzz 0 ?_
 refine tzz 1 ?_
 refine tzz 2 ?_
 refine tzz 3 ?_
 refine tzz 6 ?_
 refine tzz 7 ?_
 refine wpAnyH_ready (rs := [4]) (by kernel_rfl) (by simp) ?_
 refine (acc rfl (fun K hK => ?_) AllReadyH.nil)
 ·skip
  obtain ⟨hc, hfz⟩ := P2.out.out
  go_simp
  clear hc hfz
  have P3 := P2
  have K3 := K2
  clear P2 K2
  refine hK.out _ _ ?s17 (fun hNew => ?r17)
  case s17 => exact trivial
  clear hK K hHeld
  have hHeld := hNew
  clear hNew
  refine tzz 5 ?_
  refine tzz 8 ?_
  refine wpAnyH_ready (rs := [9]) (by kernel_rfl) (by simp) ?_
  refine (acc rfl (fun K hK => ?_) AllReadyH.nil)
  ·skip
   have e9 := encU_u (upd m 8363 0) 8356 (by omega) (by omega) (by omega)
   obtain ⟨hc, hfz⟩ := P3.out.out
   go_simp
   clear hc hfz e9
   have P4 := Lib.hid (P3.out.setu 8356 (N) (by omega) (by omega) (by omega))
   have K4 := Lib.hid (K3.out.setCell 8356 (.int .u8 (N)))
   clear P3 K3
   refine hK.out _ _ ?s20 (fun hNew => ?r20)
   case s20 => exact trivial
   clear hK K hHeld
   have hHeld := hNew
   clear hNew
   generalize World.setCell _ _ _ = u4 at hHeld P4 K4 ⊢
   refine wpAnyH_done (by kernel_rfl) ?_ _
   clear hHeld
   clear e_L
   obtain ⟨hc, hf⟩ := P4.out.out
   have e_L : (encU (upd (upd m 8363 0) 8356 N))[8356]? = some (.int .u8 N) := (encU_u _ 8356 (by decide) (by decide) (by decide)).trans (congrArg (fun x => some (Value.int .u8 x)) (upd_same _ _ _))
   go_wp2_with (refine ust_u P4.out rfl _ _ rfl _ rfl _ rfl (by omega) (by omega) (by omega) ?_)
   intro u5 hP hk
   clear hc hf e_L
   replace hP : Has u5 b (encU (upd (upd (upd m 8363 0) 8356 N) 8356 0)) := hP
   have P5 := Lib.hid hP
   have K5 := Lib.hid (K4.out.trans hk)
   clear hP hk P4 K4
   try simp only [Act.put]
   obtain ⟨hc, hf⟩ := P5.out.out
   go_wp2_with (refine ust_u P5.out rfl _ _ rfl _ rfl _ rfl (by omega) (by omega) (by omega) ?_)
   intro u6 hP hk
   clear hc hf
   replace hP : Has u6 b (encU (upd (upd (upd (upd m 8363 0) 8356 N) 8356 0) 8364 0)) := hP
   have P6 := Lib.hid hP
   have K6 := Lib.hid (K5.out.trans hk)
   clear hP hk P5 K5
   try simp only [Act.put]
   go_wp2
   all_goals first | exact bodyPost_ret (v := .int .u8 0) (by simp [results, Try.results45, go_sem]) rfl ⟨rfl, P6.out, K6.out⟩ | exact bodyPost_end (v := .int .u8 0) (by simp [results, Try.results45, go_sem]) rfl ⟨rfl, P6.out, K6.out⟩
set_option maxHeartbeats 2000000 in
theorem next_x (b : Nat) (m : M) (L : Int) (hL : m 8356 = L) (L0 : 0 ≤ L)  (fr : Int) (hfr : m 8365 = fr) (fr0 : 0 ≤ fr) (fr1 : fr < 65536) (ow : Int) (how : m 8364 = ow) (ow0 : 0 ≤ ow) (ow1 : ow < 256)  (L1 : L < 154) (N : Int) (hN : L + 1 = N) (g : (N == 144) = false) (g2 : (N == 154) = false) (w : World) (h : Has w b (encU m)) : Calls Try.prog 45 #[.pointer (some ⟨b, 0, none⟩)] w fun q_ w' => q_ = .returned (.int .u8 0) ∧ Has w' b (encU (upd (upd m 8363 0) 8356 N)) ∧ Keeps b w w' := by
 suffices hall : ∀ w0 : World, Keeps b w0 w → Calls Try.prog 45 #[.pointer (some ⟨b, 0, none⟩)] w fun q_ w' => q_ = .returned (.int .u8 0) ∧ Has w' b (encU (upd (upd m 8363 0) 8356 N)) ∧ Keeps b w0 w' from hall w (Keeps.refl b w)
 intro w0 hK
 have P0 := Lib.hid h
 have K0 := Lib.hid hK
 clear h hK
 have HL := Lib.hid hL
 clear hL
 have Hfr := Lib.hid hfr
 clear hfr
 have How := Lib.hid how
 clear how
 have hw : IntKind.u8.wrap (L + 1) = N := by rw [IntKind.wrap_u8]; omega
 have HN := Lib.hid hN
 clear hN
 go_enter Try.func45, Try.ntmps45
 obtain ⟨hc, hf⟩ := P0.out.out
 go_wp2_with (refine ust_u P0.out rfl _ _ rfl _ rfl _ rfl (by omega) (by omega) (by omega) ?_)
 intro u1 hP hk
 clear hc hf
 replace hP : Has u1 b (encU (upd m 8363 0)) := hP
 have P1 := Lib.hid hP
 have K1 := Lib.hid (K0.out.trans hk)
 clear hP hk P0 K0
 try simp only [Act.put]
 have e_L : (encU (upd m 8363 0))[8356]? = some (.int .u8 L) := (encU_u _ 8356 (by decide) (by decide) (by decide)).trans (congrArg (fun x => some (Value.int .u8 x)) (HL.out))
 go_upto_region 2 with (fail)
 have P2 := Lib.hid P1.out.drew
 have K2 := Lib.hid (K1.out.drew)
 clear P1 K1
 refine wp_region_held_drew (S := (fun w' => True)) (by kernel_rfl) trivial (fun hHeld => ?_)
 generalize World.drew _ = u2 at hHeld P2 K2 ⊢
 refine tzz 0 ?_
 refine tzz 1 ?_
 refine tzz 2 ?_
 refine tzz 3 ?_
 refine tzz 6 ?_
 refine tzz 7 ?_
 refine wpAnyH_ready (rs := [4]) (by kernel_rfl) (by simp) ?_
 refine (acc rfl (fun K hK => ?_) AllReadyH.nil)
 ·skip
  obtain ⟨hc, hfz⟩ := P2.out.out
  go_simp
  clear hc hfz
  have P3 := P2
  have K3 := K2
  clear P2 K2
  refine hK.out _ _ ?s27 (fun hNew => ?r27)
  case s27 => exact trivial
  clear hK K hHeld
  have hHeld := hNew
  clear hNew
  refine tzz 5 ?_
  refine tzz 8 ?_
  refine wpAnyH_ready (rs := [9]) (by kernel_rfl) (by simp) ?_
  refine (acc rfl (fun K hK => ?_) AllReadyH.nil)
  ·skip
   have e9 := encU_u (upd m 8363 0) 8356 (by omega) (by omega) (by omega)
   obtain ⟨hc, hfz⟩ := P3.out.out
   go_simp
   clear hc hfz e9
   have P4 := Lib.hid (P3.out.setu 8356 (N) (by omega) (by omega) (by omega))
   have K4 := Lib.hid (K3.out.setCell 8356 (.int .u8 (N)))
   clear P3 K3
   refine hK.out _ _ ?s30 (fun hNew => ?r30)
   case s30 => exact trivial
   clear hK K hHeld
   have hHeld := hNew
   clear hNew
   generalize World.setCell _ _ _ = u4 at hHeld P4 K4 ⊢
   refine wpAnyH_done (by kernel_rfl) ?_ _
   clear hHeld
   clear e_L
   obtain ⟨hc, hf⟩ := P4.out.out
   have e_L : (encU (upd (upd m 8363 0) 8356 N))[8356]? = some (.int .u8 N) := (encU_u _ 8356 (by decide) (by decide) (by decide)).trans (congrArg (fun x => some (Value.int .u8 x)) (upd_same _ _ _))
   go_wp2
   all_goals first | exact bodyPost_ret (v := .int .u8 0) (by simp [results, Try.results45, go_sem]) rfl ⟨rfl, P4.out, K4.out⟩ | exact bodyPost_end (v := .int .u8 0) (by simp [results, Try.results45, go_sem]) rfl ⟨rfl, P4.out, K4.out⟩
/-- The next line. -/
theorem next_c (b : Nat) (m : M) (B : ∀ o, o < 31407 → o ≠ 8365 → 0 ≤ m o ∧ m o < 256) (BF : 0 ≤ m 8365 ∧ m 8365 < 65536) (BL : m 8356 < 154) (w : World) (h : Has w b (encU m)) : Calls Try.prog 45 #[.pointer (some ⟨b, 0, none⟩)] w fun q_ w' => q_ = .returned (.int .u8 (nextR m)) ∧ Has w' b (encU (nextM m)) ∧ Keeps b w w' := by
 have b2 := B 8356 (by decide) (by decide)
 have b3 := B 8364 (by decide) (by decide)
 unfold nextR nextM lnM
 by_cases a : m 8356 + 1 = 144
 ·rw [if_pos a, if_pos a]
  exact next_144 b m _ rfl b2.1 _ rfl BF.1 BF.2 _ rfl b3.1 b3.2 BL _ rfl (by simpa using a) w h
 ·rw [if_neg a, if_neg a]
  by_cases a2 : m 8356 + 1 = 154
  ·rw [if_pos a2]
   exact next_154 b m _ rfl b2.1 _ rfl BF.1 BF.2 _ rfl b3.1 b3.2 BL _ rfl (by simpa using a) (by simpa using a2) w h
  ·rw [if_neg a2]
   exact next_x b m _ rfl b2.1 _ rfl BF.1 BF.2 _ rfl b3.1 b3.2 BL _ rfl (by simpa using a) (by simpa using a2) w h
set_option maxHeartbeats 8000000 in
theorem ren_1 (b : Nat) (m : M) (c : Int) (hc : m 8352 = c) (c0 : 0 ≤ c) (c1 : c < 256) (sy : Int) (hsy : m 8354 = sy) (sy0 : 0 ≤ sy) (sy1 : sy < 256) (sx : Int) (hsx : m 8355 = sx) (sx0 : 0 ≤ sx) (sx1 : sx < 256) (bk : Int) (hbk : m 8358 = bk) (bk0 : 0 ≤ bk) (bk1 : bk < 256) (fi : Int) (hfi : m 8359 = fi) (fi0 : 0 ≤ fi) (fi1 : fi < 256) (se : Int) (hse : m 8360 = se) (se0 : 0 ≤ se) (se1 : se < 256) (wy : Int) (hwy : m 8361 = wy) (wy0 : 0 ≤ wy) (wy1 : wy < 256) (wx : Int) (hwx : m 8362 = wx) (wx0 : 0 ≤ wx) (wx1 : wx < 256) (ow : Int) (how : m 8364 = ow) (ow0 : 0 ≤ ow) (ow1 : ow < 256)  (B : ∀ o, o < 31407 → o ≠ 8365 → 0 ≤ m o ∧ m o < 256) (n : Nat) (hL : m 8356 = n) (n1 : n < 144) (hs : seenV c wx wy n = true) (U : M) (hU : lineE (vid m) c sx sy wx wy n ow = U) (R : M) (hR : firstN (outV c bk fi se (vid m) (oam m) n U) 160 = R) (okU : okB U) (ow2 : ow < 255) (w : World) (h : Has w b (encU m)) : Calls Try.prog 44 #[.pointer (some ⟨b, 0, none⟩)] w fun q_ w' => q_ = .returned (.tuple #[]) ∧ Has w' b (encU (upd (row m (8367 + n * 160) 160 R) 8364 (ow + 1))) ∧ Keeps b w w' := by
 suffices hall : ∀ w0 : World, Keeps b w0 w → Calls Try.prog 44 #[.pointer (some ⟨b, 0, none⟩)] w fun q_ w' => q_ = .returned (.tuple #[]) ∧ Has w' b (encU (upd (row m (8367 + n * 160) 160 R) 8364 (ow + 1))) ∧ Keeps b w0 w' from hall w (Keeps.refl b w)
 intro w0 hK
 have P0 := Lib.hid h
 have K0 := Lib.hid hK
 clear h hK
 have Hc := Lib.hid hc
 clear hc
 have Hsy := Lib.hid hsy
 clear hsy
 have Hsx := Lib.hid hsx
 clear hsx
 have Hbk := Lib.hid hbk
 clear hbk
 have Hfi := Lib.hid hfi
 clear hfi
 have Hse := Lib.hid hse
 clear hse
 have Hwy := Lib.hid hwy
 clear hwy
 have Hwx := Lib.hid hwx
 clear hwx
 have How := Lib.hid how
 clear how
 have HB := Lib.hid B
 have HL := Lib.hid hL
 have HS := Lib.hid hs
 have HU := Lib.hid hU
 have HR := Lib.hid hR
 have OU := Lib.hid okU
 clear B hL hs hU hR okU
 have n2 : (n : Int) < 144 := by omega
 have w64 : IntKind.i64.wrap ow = ow := by rw [IntKind.wrap_i64]; omega
 have HLN := Lib.hid (show ∀ W, Mem W (.slice (some ⟨b, 0, none⟩) 8192 8192) (vid m) → Calls Try.prog 57 #[.agg #[.int .u8 c, .int .u8 sx, .int .u8 sy, .int .u8 wx, .int .u8 wy], .slice (some ⟨b, 0, none⟩) 8192 8192, .int .i64 (n : Int), .int .i64 ow] W fun q_ w' => q_ = .returned (.tuple #[.agg (enc U), .bool true]) ∧ Below W.heap.size W w' from fun W hM => by
  have q := line_c c sx sy wx wy c0 c1 sx0 sx1 sy0 sy1 wx0 wx1 wy0 wy1 _ _ (n : Int) ow (by omega) (by omega) (by omega) (by omega) W hM
  rw [HU.out, HS.out] at q
  exact q)
 have HLK := Lib.hid (show ∀ W, Mem W (.slice (some ⟨b, 0, none⟩) 8192 8192) (vid m) → Mem W (.slice (some ⟨b, 8192, none⟩) 160 160) (oam m) → Calls Try.prog 58 #[.agg #[.int .u8 c, .int .u8 bk, .int .u8 fi, .int .u8 se], .slice (some ⟨b, 0, none⟩) 8192 8192, .slice (some ⟨b, 8192, none⟩) 160 160, .int .i64 (n : Int), .agg (enc U)] W fun q_ w' => q_ = .returned (.agg (enc R)) ∧ Below W.heap.size W w' from fun W hM hM2 => by
  have q := linep_c c bk fi se c0 c1 bk0 bk1 fi0 fi1 se0 se1 _ _ _ _ U OU.out (n : Int) (by omega) (by omega) W hM hM2
  rw [HR.out] at q
  exact q)
 go_enter Try.func44, Try.ntmps44
 go_upto_region 1 with (fail)
 have P1 := Lib.hid P0.out.drew
 have K1 := Lib.hid (K0.out.drew)
 clear P0 K0
 have e_c : (encU (m))[8352]? = some (.int .u8 c) := (encU_u _ 8352 (by decide) (by decide) (by decide)).trans (congrArg (fun x => some (Value.int .u8 x)) (Hc.out))
 have e_sy : (encU (m))[8354]? = some (.int .u8 sy) := (encU_u _ 8354 (by decide) (by decide) (by decide)).trans (congrArg (fun x => some (Value.int .u8 x)) (Hsy.out))
 have e_sx : (encU (m))[8355]? = some (.int .u8 sx) := (encU_u _ 8355 (by decide) (by decide) (by decide)).trans (congrArg (fun x => some (Value.int .u8 x)) (Hsx.out))
 have e_wy : (encU (m))[8361]? = some (.int .u8 wy) := (encU_u _ 8361 (by decide) (by decide) (by decide)).trans (congrArg (fun x => some (Value.int .u8 x)) (Hwy.out))
 have e_wx : (encU (m))[8362]? = some (.int .u8 wx) := (encU_u _ 8362 (by decide) (by decide) (by decide)).trans (congrArg (fun x => some (Value.int .u8 x)) (Hwx.out))
 refine wp_region_held_drew (S := (fun w' => (∀ o, w'.cell? ⟨b, o, none⟩ = (encU m)[o]?))) (by kernel_rfl) P1.out.2.1 (fun hHeld => ?_)
 generalize World.drew _ = u1 at hHeld P1 K1 ⊢
 refine tzz 0 ?_
 refine tzz 1 ?_
 refine tzz 2 ?_
 refine tzz 3 ?_
 refine tzz 4 ?_
 refine tzz 5 ?_
 refine tzz 6 ?_
 refine tzz 7 ?_
 refine tzz 8 ?_
 refine tzz 9 ?_
 refine tzz 10 ?_
 refine tzz 11 ?_
 refine tzz 12 ?_
 refine tzz 13 ?_
 refine tzz 14 ?_
 refine tzz 15 ?_
 refine tzz 16 ?_
 refine tzz 17 ?_
 refine tzz 18 ?_
 refine tzz 19 ?_
 refine tzz 20 ?_
 refine wpAnyH_ready (rs := [21]) (by kernel_rfl) (by simp) ?_
 refine (acc rfl (fun K hK => ?_) AllReadyH.nil)
 ·skip
  go_simp
  have Q_ := own1 u1 (.cells #[.int .u8 0, .int .u8 0, .int .u8 0, .int .u8 0, .int .u8 0] 80)
  have P2 := Lib.hid (P1.out.below Q_)
  have K2 := Lib.hid (K1.out.trans (Keeps.of_below Q_))
  have X2 := Lib.hid (Has.new u1 #[.int .u8 0, .int .u8 0, .int .u8 0, .int .u8 0, .int .u8 0] 80)
  have LX := Lib.hid (K1.out.size)
  have NX := Lib.hid (Nat.ne_of_lt P1.out.1)
  clear Q_
  clear P1 K1
  generalize u1.alloc (.cells #[.int .u8 0, .int .u8 0, .int .u8 0, .int .u8 0, .int .u8 0] 80) = u2 at P2 K2 X2 ⊢
  generalize u1.heap.size = xb at X2 LX NX  ⊢
  refine hK.out _ _ ?s52 (fun hNew => ?r52)
  case s52 => exact P2.out.2.1
  clear hK K hHeld
  have hHeld := hNew
  clear hNew
  refine wpAnyH_ready (rs := [22]) (by kernel_rfl) (by simp) ?_
  refine (acc rfl (fun K hK => ?_) AllReadyH.nil)
  ·skip
   refine wp_store_g r80 X2.out rfl #[.int .u8 c, .int .u8 sx, .int .u8 sy, .int .u8 wx, .int .u8 wy] rfl (five_one _ _ _ _ _) _ _ rfl rfl rfl ?_
   intro u3 hP hk
   try simp only [Act.put, qqA, qqB, qqC]
   have X3 := Lib.hid hP
   have K3 := Lib.hid (keeps_new K2.out LX.out hk)
   have P3 := Lib.hid (hk.has NX.out P2.out)
   clear hP hk
   clear P2 K2 X2
   refine hK.out _ _ ?s53 (fun hNew => ?r53)
   case s53 => exact P3.out.2.1
   clear hK K hHeld
   have hHeld := hNew
   clear hNew
   refine wpAnyH_done (by kernel_rfl) ?_ _
   clear hHeld
   clear e_c e_sx e_sy e_wx e_wy
   go_upto_region 2 with (fail)
   have P4 := Lib.hid P3.out.drew
   have X4 := Lib.hid X3.out.drew
   have K4 := Lib.hid (K3.out.drew)
   clear P3 K3 X3
   have e_c : (encU (m))[8352]? = some (.int .u8 c) := (encU_u _ 8352 (by decide) (by decide) (by decide)).trans (congrArg (fun x => some (Value.int .u8 x)) (Hc.out))
   have e_bk : (encU (m))[8358]? = some (.int .u8 bk) := (encU_u _ 8358 (by decide) (by decide) (by decide)).trans (congrArg (fun x => some (Value.int .u8 x)) (Hbk.out))
   have e_fi : (encU (m))[8359]? = some (.int .u8 fi) := (encU_u _ 8359 (by decide) (by decide) (by decide)).trans (congrArg (fun x => some (Value.int .u8 x)) (Hfi.out))
   have e_se : (encU (m))[8360]? = some (.int .u8 se) := (encU_u _ 8360 (by decide) (by decide) (by decide)).trans (congrArg (fun x => some (Value.int .u8 x)) (Hse.out))
   refine wp_region_held_drew (S := (fun w' => (∀ o, w'.cell? ⟨b, o, none⟩ = (encU m)[o]?))) (by kernel_rfl) P4.out.2.1 (fun hHeld => ?_)
   generalize World.drew _ = u4 at hHeld P4 K4 X4 ⊢
   refine tzz 0 ?_
   refine tzz 1 ?_
   refine tzz 2 ?_
   refine tzz 3 ?_
   refine tzz 4 ?_
   refine tzz 5 ?_
   refine tzz 6 ?_
   refine tzz 7 ?_
   refine tzz 8 ?_
   refine tzz 9 ?_
   refine tzz 10 ?_
   refine tzz 11 ?_
   refine tzz 12 ?_
   refine tzz 13 ?_
   refine tzz 14 ?_
   refine tzz 15 ?_
   refine tzz 16 ?_
   refine wpAnyH_ready (rs := [17]) (by kernel_rfl) (by simp) ?_
   refine (acc rfl (fun K hK => ?_) AllReadyH.nil)
   ·skip
    go_simp
    have Q_ := own1 u4 (.cells #[.int .u8 0, .int .u8 0, .int .u8 0, .int .u8 0] 81)
    have P5 := Lib.hid (P4.out.below Q_)
    have K5 := Lib.hid (K4.out.trans (Keeps.of_below Q_))
    have X5 := Lib.hid (X4.out.below Q_)
    have Y5 := Lib.hid (Has.new u4 #[.int .u8 0, .int .u8 0, .int .u8 0, .int .u8 0] 81)
    have LY := Lib.hid (K4.out.size)
    have NY := Lib.hid (Nat.ne_of_lt P4.out.1)
    have NXY := Lib.hid (Nat.ne_of_lt X4.out.1)
    clear Q_
    clear P4 K4 X4
    generalize u4.alloc (.cells #[.int .u8 0, .int .u8 0, .int .u8 0, .int .u8 0] 81) = u5 at P5 K5 X5 Y5 ⊢
    generalize u4.heap.size = yb at Y5 LY NY NXY ⊢
    refine hK.out _ _ ?s71 (fun hNew => ?r71)
    case s71 => exact P5.out.2.1
    clear hK K hHeld
    have hHeld := hNew
    clear hNew
    refine wpAnyH_ready (rs := [18]) (by kernel_rfl) (by simp) ?_
    refine (acc rfl (fun K hK => ?_) AllReadyH.nil)
    ·skip
     refine wp_store_g r27 Y5.out rfl #[.int .u8 c, .int .u8 bk, .int .u8 fi, .int .u8 se] rfl (four_one _ _ _ _) _ _ rfl rfl rfl ?_
     intro u6 hP hk
     try simp only [Act.put, qqA, qqB, qqC]
     have Y6 := Lib.hid hP
     have K6 := Lib.hid (keeps_new K5.out LY.out hk)
     have P6 := Lib.hid (hk.has NY.out P5.out)
     have X6 := Lib.hid (hk.has NXY.out X5.out)
     clear hP hk
     clear P5 K5 X5 Y5
     refine hK.out _ _ ?s72 (fun hNew => ?r72)
     case s72 => exact P6.out.2.1
     clear hK K hHeld
     have hHeld := hNew
     clear hNew
     refine wpAnyH_done (by kernel_rfl) ?_ _
     clear hHeld
     clear e_c e_bk e_fi e_se
     go_wp2_with (fail)
     with_reducible refine (line_u b m (n : Int) HL.out (by omega) (by omega) _ P6.out).mono ?_
     rintro q_ w' ⟨rfl, rfl⟩
     go_upto_region 4 with (fail)
     have P7 := Lib.hid P6.out.drew
     have X7 := Lib.hid X6.out.drew
     have Y7 := Lib.hid Y6.out.drew
     have K7 := Lib.hid (K6.out.drew)
     clear P6 K6 X6 Y6
     have e_ow : (encU (m))[8364]? = some (.int .u8 ow) := (encU_u _ 8364 (by decide) (by decide) (by decide)).trans (congrArg (fun x => some (Value.int .u8 x)) (How.out))
     refine wp_region_held_drew (S := (fun w' => (∀ o, w'.cell? ⟨b, o, none⟩ = (encU m)[o]?) ∧ w'.rangeAt xb 0 (#[.int .u8 c, .int .u8 sx, .int .u8 sy, .int .u8 wx, .int .u8 wy] : Array Value).toList)) (by kernel_rfl) ⟨P7.out.2.1, range_of_has X7.out⟩ (fun hHeld => ?_)
     generalize World.drew _ = u7 at hHeld P7 K7 X7 Y7 ⊢
     refine wpAnyH_take (i := 0) (oi := ⟨_, _, _, _, _, _⟩) (v := .agg #[.int .u8 c, .int .u8 sx, .int .u8 sy, .int .u8 wx, .int .u8 wy]) rfl (by kernel_rfl) (by kernel_rfl) (by kernel_rfl) (fun _ _ _ h => h) (yields_load r80 #[.int .u8 c, .int .u8 sx, .int .u8 sy, .int .u8 wx, .int .u8 wy] rfl xb (fun w hw => hw.2) (by rfl) _ rfl rfl) (by assumption) ?_
     try simp only [Act.put, qqA, qqB, qqC]
     refine tzz 1 ?_
     refine tzz 2 ?_
     refine tzz 3 ?_
     refine tzz 4 ?_
     refine tzz 5 ?_
     refine tzz 6 ?_
     refine tzz 7 ?_
     refine tzz 8 ?_
     refine tzz 9 ?_
     refine tzz 10 ?_
     refine wpAnyH_ready (rs := [11, 15]) (by kernel_rfl) (by simp) ?_
     refine (acc rfl (fun K hK => ?_) (acc rfl (fun K hK => ?_) AllReadyH.nil))
     ·skip
      go_simp
      with_reducible refine ((HLN.out _ (mem_vid P7.out HB.out))).mono ?_
      rintro q_ u8 ⟨rfl, hb⟩
      have P8 := Lib.hid (P7.out.below hb)
      have K8 := Lib.hid (K7.out.trans (Keeps.of_below hb))
      have X8 := Lib.hid (X7.out.below hb)
      have Y8 := Lib.hid (Y7.out.below hb)
      clear hb
      clear P7 K7 X7 Y7
      refine hK.out _ _ ?s84 (fun hNew => ?r84)
      case s84 => exact ⟨P8.out.2.1, range_of_has X8.out⟩
      clear hK K hHeld
      have hHeld := hNew
      clear hNew
      refine tzz 12 ?_
      refine tzz 13 ?_
      refine tzz 14 ?_
      refine wpAnyH_ready (rs := [15]) (by kernel_rfl) (by simp) ?_
      refine (acc rfl (fun K hK => ?_) AllReadyH.nil)
      ·skip
       go_simp
       have Q_ := own1 u8 (.cells Try.zeroCells34 34)
       have P9 := Lib.hid (P8.out.below Q_)
       have K9 := Lib.hid (K8.out.trans (Keeps.of_below Q_))
       have X9 := Lib.hid (X8.out.below Q_)
       have Y9 := Lib.hid (Y8.out.below Q_)
       have Z9 := Lib.hid (Has.new u8 Try.zeroCells34 34)
       have LZ := Lib.hid (K8.out.size)
       have NZ := Lib.hid (Nat.ne_of_lt P8.out.1)
       have NXZ := Lib.hid (Nat.ne_of_lt X8.out.1)
       have NYZ := Lib.hid (Nat.ne_of_lt Y8.out.1)
       clear Q_
       clear P8 K8 X8 Y8
       generalize u8.alloc (.cells Try.zeroCells34 34) = u9 at P9 K9 X9 Y9 Z9 ⊢
       generalize u8.heap.size = zb at Z9 LZ NZ NXZ NYZ ⊢
       refine hK.out _ _ ?s88 (fun hNew => ?r88)
       case s88 => exact ⟨P9.out.2.1, range_of_has X9.out⟩
       clear hK K hHeld
       have hHeld := hNew
       clear hNew
       refine wpAnyH_ready (rs := [16]) (by kernel_rfl) (by simp) ?_
       refine (acc rfl (fun K hK => ?_) AllReadyH.nil)
       ·skip
        refine wp_store_g r34 Z9.out Try.zeroCells34_size (enc U) (enc_size _) (enc_one _) _ _ rfl rfl rfl ?_
        intro u10 hP hk
        try simp only [Act.put, qqA, qqB, qqC]
        have Z10 := Lib.hid hP
        have K10 := Lib.hid (keeps_new K9.out LZ.out hk)
        have P10 := Lib.hid (hk.has NZ.out P9.out)
        have X10 := Lib.hid (hk.has NXZ.out X9.out)
        have Y10 := Lib.hid (hk.has NYZ.out Y9.out)
        clear hP hk
        clear P9 K9 X9 Y9 Z9
        refine hK.out _ _ ?s89 (fun hNew => ?r89)
        case s89 => exact ⟨P10.out.2.1, range_of_has X10.out⟩
        clear hK K hHeld
        have hHeld := hNew
        clear hNew
        refine tzz 17 ?_
        refine wpAnyH_done (by kernel_rfl) ?_ _
        clear hHeld
        clear e_ow
        go_upto_region 5 with (fail)
        have P11 := Lib.hid P10.out.drew
        have X11 := Lib.hid X10.out.drew
        have Y11 := Lib.hid Y10.out.drew
        have Z11 := Lib.hid Z10.out.drew
        have K11 := Lib.hid (K10.out.drew)
        clear P10 K10 X10 Y10 Z10
        refine wp_region_held_drew (S := (fun w' => w'.rangeAt yb 0 (#[.int .u8 c, .int .u8 bk, .int .u8 fi, .int .u8 se] : Array Value).toList ∧ w'.rangeAt zb 0 (enc U).toList)) (by kernel_rfl) ⟨range_of_has Y11.out, range_of_has Z11.out⟩ (fun hHeld => ?_)
        generalize World.drew _ = u11 at hHeld P11 K11 X11 Y11 Z11 ⊢
        refine tzz 0 ?_
        refine tzz 1 ?_
        refine wpAnyH_take (i := 2) (oi := ⟨_, _, _, _, _, _⟩) (v := .agg #[.int .u8 c, .int .u8 bk, .int .u8 fi, .int .u8 se]) rfl (by kernel_rfl) (by kernel_rfl) (by kernel_rfl) (fun _ _ _ h => h) (yields_load r27 #[.int .u8 c, .int .u8 bk, .int .u8 fi, .int .u8 se] rfl yb (fun w hw => hw.1) (by rfl) _ rfl rfl) (by assumption) ?_
        try simp only [Act.put, qqA, qqB, qqC]
        refine tzz 3 ?_
        refine tzz 4 ?_
        refine tzz 5 ?_
        refine tzz 6 ?_
        refine tzz 7 ?_
        refine tzz 8 ?_
        refine tzz 9 ?_
        refine tzz 10 ?_
        refine tzz 11 ?_
        refine wpAnyH_take (i := 12) (oi := ⟨_, _, _, _, _, _⟩) (v := .agg (enc U)) rfl (by kernel_rfl) (by kernel_rfl) (by kernel_rfl) (fun _ _ _ h => h) (yields_load r34 (enc U) (enc_size _) zb (fun w hw => hw.2) (by rfl) _ rfl rfl) (by assumption) ?_
        try simp only [Act.put, qqA, qqB, qqC]
        refine tzz 14 ?_
        refine tzz 15 ?_
        refine wpAnyH_ready (rs := [13]) (by kernel_rfl) (by simp) ?_
        refine (acc rfl (fun K hK => ?_) AllReadyH.nil)
        ·skip
         go_simp
         with_reducible refine ((HLK.out _ (mem_vid P11.out HB.out) (mem_oam P11.out HB.out))).mono ?_
         rintro q_ u12 ⟨rfl, hb⟩
         have P12 := Lib.hid (P11.out.below hb)
         have K12 := Lib.hid (K11.out.trans (Keeps.of_below hb))
         have X12 := Lib.hid (X11.out.below hb)
         have Y12 := Lib.hid (Y11.out.below hb)
         have Z12 := Lib.hid (Z11.out.below hb)
         clear hb
         clear P11 K11 X11 Y11 Z11
         refine hK.out _ _ ?s106 (fun hNew => ?r106)
         case s106 => exact ⟨range_of_has Y12.out, range_of_has Z12.out⟩
         clear hK K hHeld
         have hHeld := hNew
         clear hNew
         refine tzz 16 ?_
         refine wpAnyH_ready (rs := [17]) (by kernel_rfl) (by simp) ?_
         refine (acc rfl (fun K hK => ?_) AllReadyH.nil)
         ·skip
          refine wp_store_row P12.out R _ _ rfl (8367 + n * 160) rfl rfl (by omega) (by omega) ?_
          intro u13 hP hk
          try simp only [Act.put, qqA, qqB, qqC]
          have P13 := Lib.hid hP
          have K13 := Lib.hid (K12.out.trans hk)
          have X13 := Lib.hid (hk.has (Ne.symm NX.out) X12.out)
          have Y13 := Lib.hid (hk.has (Ne.symm NY.out) Y12.out)
          have Z13 := Lib.hid (hk.has (Ne.symm NZ.out) Z12.out)
          clear hP hk
          clear P12 K12 X12 Y12 Z12
          refine hK.out _ _ ?s108 (fun hNew => ?r108)
          case s108 => exact ⟨range_of_has Y13.out, range_of_has Z13.out⟩
          clear hK K hHeld
          have hHeld := hNew
          clear hNew
          refine wpAnyH_done (by kernel_rfl) ?_ _
          clear hHeld
          obtain ⟨hc, hf⟩ := P13.out.out
          have e_ow : (encU (row m (8367 + n * 160) 160 R))[8364]? = some (.int .u8 ow) := (encU_u _ 8364 (by decide) (by decide) (by decide)).trans (congrArg (fun x => some (Value.int .u8 x)) ((row_out _ _ _ _ _ (by omega)).trans How.out))
          have hw : IntKind.u8.wrap (ow + 1) = ow + 1 := by rw [IntKind.wrap_u8]; omega
          go_wp2_with (refine ust_u P13.out rfl _ _ rfl _ rfl _ rfl (by omega) (by omega) (by omega) ?_)
          intro u14 hP hk
          clear hc hf e_ow
          replace hP : Has u14 b (encU (upd (row m (8367 + n * 160) 160 R) 8364 (ow + 1))) := hP
          have P14 := Lib.hid hP
          have K14 := Lib.hid (K13.out.trans hk)
          clear hP hk P13 K13
          try simp only [Act.put]
          go_wp2
          all_goals first | exact bodyPost_ret (v := .tuple #[]) (by simp [results, Try.results44, go_sem]) rfl ⟨rfl, P14.out, K14.out⟩ | exact bodyPost_end (v := .tuple #[]) (by simp [results, Try.results44, go_sem]) rfl ⟨rfl, P14.out, K14.out⟩
     ·skip
      go_simp
      have Q_ := own1 u7 (.cells Try.zeroCells34 34)
      have P8 := Lib.hid (P7.out.below Q_)
      have K8 := Lib.hid (K7.out.trans (Keeps.of_below Q_))
      have X8 := Lib.hid (X7.out.below Q_)
      have Y8 := Lib.hid (Y7.out.below Q_)
      have Z8 := Lib.hid (Has.new u7 Try.zeroCells34 34)
      have LZ := Lib.hid (K7.out.size)
      have NZ := Lib.hid (Nat.ne_of_lt P7.out.1)
      have NXZ := Lib.hid (Nat.ne_of_lt X7.out.1)
      have NYZ := Lib.hid (Nat.ne_of_lt Y7.out.1)
      clear Q_
      clear P7 K7 X7 Y7
      generalize u7.alloc (.cells Try.zeroCells34 34) = u8 at P8 K8 X8 Y8 Z8 ⊢
      generalize u7.heap.size = zb at Z8 LZ NZ NXZ NYZ ⊢
      refine hK.out _ _ ?s109 (fun hNew => ?r109)
      case s109 => exact ⟨P8.out.2.1, range_of_has X8.out⟩
      clear hK K hHeld
      have hHeld := hNew
      clear hNew
      refine wpAnyH_ready (rs := [11]) (by kernel_rfl) (by simp) ?_
      refine (acc rfl (fun K hK => ?_) AllReadyH.nil)
      ·skip
       go_simp
       with_reducible refine ((HLN.out _ (mem_vid P8.out HB.out))).mono ?_
       rintro q_ u9 ⟨rfl, hb⟩
       have P9 := Lib.hid (P8.out.below hb)
       have K9 := Lib.hid (K8.out.trans (Keeps.of_below hb))
       have X9 := Lib.hid (X8.out.below hb)
       have Y9 := Lib.hid (Y8.out.below hb)
       have Z9 := Lib.hid (Z8.out.below hb)
       clear hb
       clear P8 K8 X8 Y8 Z8
       refine hK.out _ _ ?s110 (fun hNew => ?r110)
       case s110 => exact ⟨P9.out.2.1, range_of_has X9.out⟩
       clear hK K hHeld
       have hHeld := hNew
       clear hNew
       refine tzz 12 ?_
       refine tzz 13 ?_
       refine tzz 14 ?_
       refine wpAnyH_ready (rs := [16]) (by kernel_rfl) (by simp) ?_
       refine (acc rfl (fun K hK => ?_) AllReadyH.nil)
       ·skip
        refine wp_store_g r34 Z9.out Try.zeroCells34_size (enc U) (enc_size _) (enc_one _) _ _ rfl rfl rfl ?_
        intro u10 hP hk
        try simp only [Act.put, qqA, qqB, qqC]
        have Z10 := Lib.hid hP
        have K10 := Lib.hid (keeps_new K9.out LZ.out hk)
        have P10 := Lib.hid (hk.has NZ.out P9.out)
        have X10 := Lib.hid (hk.has NXZ.out X9.out)
        have Y10 := Lib.hid (hk.has NYZ.out Y9.out)
        clear hP hk
        clear P9 K9 X9 Y9 Z9
        refine hK.out _ _ ?s114 (fun hNew => ?r114)
        case s114 => exact ⟨P10.out.2.1, range_of_has X10.out⟩
        clear hK K hHeld
        have hHeld := hNew
        clear hNew
        refine tzz 17 ?_
        refine wpAnyH_done (by kernel_rfl) ?_ _
        clear hHeld
        clear e_ow
        go_upto_region 5 with (fail)
        have P11 := Lib.hid P10.out.drew
        have X11 := Lib.hid X10.out.drew
        have Y11 := Lib.hid Y10.out.drew
        have Z11 := Lib.hid Z10.out.drew
        have K11 := Lib.hid (K10.out.drew)
        clear P10 K10 X10 Y10 Z10
        refine wp_region_held_drew (S := (fun w' => w'.rangeAt yb 0 (#[.int .u8 c, .int .u8 bk, .int .u8 fi, .int .u8 se] : Array Value).toList ∧ w'.rangeAt zb 0 (enc U).toList)) (by kernel_rfl) ⟨range_of_has Y11.out, range_of_has Z11.out⟩ (fun hHeld => ?_)
        generalize World.drew _ = u11 at hHeld P11 K11 X11 Y11 Z11 ⊢
        refine tzz 0 ?_
        refine tzz 1 ?_
        refine wpAnyH_take (i := 2) (oi := ⟨_, _, _, _, _, _⟩) (v := .agg #[.int .u8 c, .int .u8 bk, .int .u8 fi, .int .u8 se]) rfl (by kernel_rfl) (by kernel_rfl) (by kernel_rfl) (fun _ _ _ h => h) (yields_load r27 #[.int .u8 c, .int .u8 bk, .int .u8 fi, .int .u8 se] rfl yb (fun w hw => hw.1) (by rfl) _ rfl rfl) (by assumption) ?_
        try simp only [Act.put, qqA, qqB, qqC]
        refine tzz 3 ?_
        refine tzz 4 ?_
        refine tzz 5 ?_
        refine tzz 6 ?_
        refine tzz 7 ?_
        refine tzz 8 ?_
        refine tzz 9 ?_
        refine tzz 10 ?_
        refine tzz 11 ?_
        refine wpAnyH_take (i := 12) (oi := ⟨_, _, _, _, _, _⟩) (v := .agg (enc U)) rfl (by kernel_rfl) (by kernel_rfl) (by kernel_rfl) (fun _ _ _ h => h) (yields_load r34 (enc U) (enc_size _) zb (fun w hw => hw.2) (by rfl) _ rfl rfl) (by assumption) ?_
        try simp only [Act.put, qqA, qqB, qqC]
        refine tzz 14 ?_
        refine tzz 15 ?_
        refine wpAnyH_ready (rs := [13]) (by kernel_rfl) (by simp) ?_
        refine (acc rfl (fun K hK => ?_) AllReadyH.nil)
        ·skip
         go_simp
         with_reducible refine ((HLK.out _ (mem_vid P11.out HB.out) (mem_oam P11.out HB.out))).mono ?_
         rintro q_ u12 ⟨rfl, hb⟩
         have P12 := Lib.hid (P11.out.below hb)
         have K12 := Lib.hid (K11.out.trans (Keeps.of_below hb))
         have X12 := Lib.hid (X11.out.below hb)
         have Y12 := Lib.hid (Y11.out.below hb)
         have Z12 := Lib.hid (Z11.out.below hb)
         clear hb
         clear P11 K11 X11 Y11 Z11
         refine hK.out _ _ ?s131 (fun hNew => ?r131)
         case s131 => exact ⟨range_of_has Y12.out, range_of_has Z12.out⟩
         clear hK K hHeld
         have hHeld := hNew
         clear hNew
         refine tzz 16 ?_
         refine wpAnyH_ready (rs := [17]) (by kernel_rfl) (by simp) ?_
         refine (acc rfl (fun K hK => ?_) AllReadyH.nil)
         ·skip
          refine wp_store_row P12.out R _ _ rfl (8367 + n * 160) rfl rfl (by omega) (by omega) ?_
          intro u13 hP hk
          try simp only [Act.put, qqA, qqB, qqC]
          have P13 := Lib.hid hP
          have K13 := Lib.hid (K12.out.trans hk)
          have X13 := Lib.hid (hk.has (Ne.symm NX.out) X12.out)
          have Y13 := Lib.hid (hk.has (Ne.symm NY.out) Y12.out)
          have Z13 := Lib.hid (hk.has (Ne.symm NZ.out) Z12.out)
          clear hP hk
          clear P12 K12 X12 Y12 Z12
          refine hK.out _ _ ?s133 (fun hNew => ?r133)
          case s133 => exact ⟨range_of_has Y13.out, range_of_has Z13.out⟩
          clear hK K hHeld
          have hHeld := hNew
          clear hNew
          refine wpAnyH_done (by kernel_rfl) ?_ _
          clear hHeld
          obtain ⟨hc, hf⟩ := P13.out.out
          have e_ow : (encU (row m (8367 + n * 160) 160 R))[8364]? = some (.int .u8 ow) := (encU_u _ 8364 (by decide) (by decide) (by decide)).trans (congrArg (fun x => some (Value.int .u8 x)) ((row_out _ _ _ _ _ (by omega)).trans How.out))
          have hw : IntKind.u8.wrap (ow + 1) = ow + 1 := by rw [IntKind.wrap_u8]; omega
          go_wp2_with (refine ust_u P13.out rfl _ _ rfl _ rfl _ rfl (by omega) (by omega) (by omega) ?_)
          intro u14 hP hk
          clear hc hf e_ow
          replace hP : Has u14 b (encU (upd (row m (8367 + n * 160) 160 R) 8364 (ow + 1))) := hP
          have P14 := Lib.hid hP
          have K14 := Lib.hid (K13.out.trans hk)
          clear hP hk P13 K13
          try simp only [Act.put]
          go_wp2
          all_goals first | exact bodyPost_ret (v := .tuple #[]) (by simp [results, Try.results44, go_sem]) rfl ⟨rfl, P14.out, K14.out⟩ | exact bodyPost_end (v := .tuple #[]) (by simp [results, Try.results44, go_sem]) rfl ⟨rfl, P14.out, K14.out⟩
set_option maxHeartbeats 8000000 in
theorem ren_0 (b : Nat) (m : M) (c : Int) (hc : m 8352 = c) (c0 : 0 ≤ c) (c1 : c < 256) (sy : Int) (hsy : m 8354 = sy) (sy0 : 0 ≤ sy) (sy1 : sy < 256) (sx : Int) (hsx : m 8355 = sx) (sx0 : 0 ≤ sx) (sx1 : sx < 256) (bk : Int) (hbk : m 8358 = bk) (bk0 : 0 ≤ bk) (bk1 : bk < 256) (fi : Int) (hfi : m 8359 = fi) (fi0 : 0 ≤ fi) (fi1 : fi < 256) (se : Int) (hse : m 8360 = se) (se0 : 0 ≤ se) (se1 : se < 256) (wy : Int) (hwy : m 8361 = wy) (wy0 : 0 ≤ wy) (wy1 : wy < 256) (wx : Int) (hwx : m 8362 = wx) (wx0 : 0 ≤ wx) (wx1 : wx < 256) (ow : Int) (how : m 8364 = ow) (ow0 : 0 ≤ ow) (ow1 : ow < 256)  (B : ∀ o, o < 31407 → o ≠ 8365 → 0 ≤ m o ∧ m o < 256) (n : Nat) (hL : m 8356 = n) (n1 : n < 144) (hs : seenV c wx wy n = false) (U : M) (hU : lineE (vid m) c sx sy wx wy n ow = U) (R : M) (hR : firstN (outV c bk fi se (vid m) (oam m) n U) 160 = R) (okU : okB U) (ow2 : ow < 255) (w : World) (h : Has w b (encU m)) : Calls Try.prog 44 #[.pointer (some ⟨b, 0, none⟩)] w fun q_ w' => q_ = .returned (.tuple #[]) ∧ Has w' b (encU (row m (8367 + n * 160) 160 R)) ∧ Keeps b w w' := by
 suffices hall : ∀ w0 : World, Keeps b w0 w → Calls Try.prog 44 #[.pointer (some ⟨b, 0, none⟩)] w fun q_ w' => q_ = .returned (.tuple #[]) ∧ Has w' b (encU (row m (8367 + n * 160) 160 R)) ∧ Keeps b w0 w' from hall w (Keeps.refl b w)
 intro w0 hK
 have P0 := Lib.hid h
 have K0 := Lib.hid hK
 clear h hK
 have Hc := Lib.hid hc
 clear hc
 have Hsy := Lib.hid hsy
 clear hsy
 have Hsx := Lib.hid hsx
 clear hsx
 have Hbk := Lib.hid hbk
 clear hbk
 have Hfi := Lib.hid hfi
 clear hfi
 have Hse := Lib.hid hse
 clear hse
 have Hwy := Lib.hid hwy
 clear hwy
 have Hwx := Lib.hid hwx
 clear hwx
 have How := Lib.hid how
 clear how
 have HB := Lib.hid B
 have HL := Lib.hid hL
 have HS := Lib.hid hs
 have HU := Lib.hid hU
 have HR := Lib.hid hR
 have OU := Lib.hid okU
 clear B hL hs hU hR okU
 have n2 : (n : Int) < 144 := by omega
 have w64 : IntKind.i64.wrap ow = ow := by rw [IntKind.wrap_i64]; omega
 have HLN := Lib.hid (show ∀ W, Mem W (.slice (some ⟨b, 0, none⟩) 8192 8192) (vid m) → Calls Try.prog 57 #[.agg #[.int .u8 c, .int .u8 sx, .int .u8 sy, .int .u8 wx, .int .u8 wy], .slice (some ⟨b, 0, none⟩) 8192 8192, .int .i64 (n : Int), .int .i64 ow] W fun q_ w' => q_ = .returned (.tuple #[.agg (enc U), .bool false]) ∧ Below W.heap.size W w' from fun W hM => by
  have q := line_c c sx sy wx wy c0 c1 sx0 sx1 sy0 sy1 wx0 wx1 wy0 wy1 _ _ (n : Int) ow (by omega) (by omega) (by omega) (by omega) W hM
  rw [HU.out, HS.out] at q
  exact q)
 have HLK := Lib.hid (show ∀ W, Mem W (.slice (some ⟨b, 0, none⟩) 8192 8192) (vid m) → Mem W (.slice (some ⟨b, 8192, none⟩) 160 160) (oam m) → Calls Try.prog 58 #[.agg #[.int .u8 c, .int .u8 bk, .int .u8 fi, .int .u8 se], .slice (some ⟨b, 0, none⟩) 8192 8192, .slice (some ⟨b, 8192, none⟩) 160 160, .int .i64 (n : Int), .agg (enc U)] W fun q_ w' => q_ = .returned (.agg (enc R)) ∧ Below W.heap.size W w' from fun W hM hM2 => by
  have q := linep_c c bk fi se c0 c1 bk0 bk1 fi0 fi1 se0 se1 _ _ _ _ U OU.out (n : Int) (by omega) (by omega) W hM hM2
  rw [HR.out] at q
  exact q)
 go_enter Try.func44, Try.ntmps44
 go_upto_region 1 with (fail)
 have P1 := Lib.hid P0.out.drew
 have K1 := Lib.hid (K0.out.drew)
 clear P0 K0
 have e_c : (encU (m))[8352]? = some (.int .u8 c) := (encU_u _ 8352 (by decide) (by decide) (by decide)).trans (congrArg (fun x => some (Value.int .u8 x)) (Hc.out))
 have e_sy : (encU (m))[8354]? = some (.int .u8 sy) := (encU_u _ 8354 (by decide) (by decide) (by decide)).trans (congrArg (fun x => some (Value.int .u8 x)) (Hsy.out))
 have e_sx : (encU (m))[8355]? = some (.int .u8 sx) := (encU_u _ 8355 (by decide) (by decide) (by decide)).trans (congrArg (fun x => some (Value.int .u8 x)) (Hsx.out))
 have e_wy : (encU (m))[8361]? = some (.int .u8 wy) := (encU_u _ 8361 (by decide) (by decide) (by decide)).trans (congrArg (fun x => some (Value.int .u8 x)) (Hwy.out))
 have e_wx : (encU (m))[8362]? = some (.int .u8 wx) := (encU_u _ 8362 (by decide) (by decide) (by decide)).trans (congrArg (fun x => some (Value.int .u8 x)) (Hwx.out))
 refine wp_region_held_drew (S := (fun w' => (∀ o, w'.cell? ⟨b, o, none⟩ = (encU m)[o]?))) (by kernel_rfl) P1.out.2.1 (fun hHeld => ?_)
 generalize World.drew _ = u1 at hHeld P1 K1 ⊢
 refine tzz 0 ?_
 refine tzz 1 ?_
 refine tzz 2 ?_
 refine tzz 3 ?_
 refine tzz 4 ?_
 refine tzz 5 ?_
 refine tzz 6 ?_
 refine tzz 7 ?_
 refine tzz 8 ?_
 refine tzz 9 ?_
 refine tzz 10 ?_
 refine tzz 11 ?_
 refine tzz 12 ?_
 refine tzz 13 ?_
 refine tzz 14 ?_
 refine tzz 15 ?_
 refine tzz 16 ?_
 refine tzz 17 ?_
 refine tzz 18 ?_
 refine tzz 19 ?_
 refine tzz 20 ?_
 refine wpAnyH_ready (rs := [21]) (by kernel_rfl) (by simp) ?_
 refine (acc rfl (fun K hK => ?_) AllReadyH.nil)
 ·skip
  go_simp
  have Q_ := own1 u1 (.cells #[.int .u8 0, .int .u8 0, .int .u8 0, .int .u8 0, .int .u8 0] 80)
  have P2 := Lib.hid (P1.out.below Q_)
  have K2 := Lib.hid (K1.out.trans (Keeps.of_below Q_))
  have X2 := Lib.hid (Has.new u1 #[.int .u8 0, .int .u8 0, .int .u8 0, .int .u8 0, .int .u8 0] 80)
  have LX := Lib.hid (K1.out.size)
  have NX := Lib.hid (Nat.ne_of_lt P1.out.1)
  clear Q_
  clear P1 K1
  generalize u1.alloc (.cells #[.int .u8 0, .int .u8 0, .int .u8 0, .int .u8 0, .int .u8 0] 80) = u2 at P2 K2 X2 ⊢
  generalize u1.heap.size = xb at X2 LX NX  ⊢
  refine hK.out _ _ ?s155 (fun hNew => ?r155)
  case s155 => exact P2.out.2.1
  clear hK K hHeld
  have hHeld := hNew
  clear hNew
  refine wpAnyH_ready (rs := [22]) (by kernel_rfl) (by simp) ?_
  refine (acc rfl (fun K hK => ?_) AllReadyH.nil)
  ·skip
   refine wp_store_g r80 X2.out rfl #[.int .u8 c, .int .u8 sx, .int .u8 sy, .int .u8 wx, .int .u8 wy] rfl (five_one _ _ _ _ _) _ _ rfl rfl rfl ?_
   intro u3 hP hk
   try simp only [Act.put, qqA, qqB, qqC]
   have X3 := Lib.hid hP
   have K3 := Lib.hid (keeps_new K2.out LX.out hk)
   have P3 := Lib.hid (hk.has NX.out P2.out)
   clear hP hk
   clear P2 K2 X2
   refine hK.out _ _ ?s156 (fun hNew => ?r156)
   case s156 => exact P3.out.2.1
   clear hK K hHeld
   have hHeld := hNew
   clear hNew
   refine wpAnyH_done (by kernel_rfl) ?_ _
   clear hHeld
   clear e_c e_sx e_sy e_wx e_wy
   go_upto_region 2 with (fail)
   have P4 := Lib.hid P3.out.drew
   have X4 := Lib.hid X3.out.drew
   have K4 := Lib.hid (K3.out.drew)
   clear P3 K3 X3
   have e_c : (encU (m))[8352]? = some (.int .u8 c) := (encU_u _ 8352 (by decide) (by decide) (by decide)).trans (congrArg (fun x => some (Value.int .u8 x)) (Hc.out))
   have e_bk : (encU (m))[8358]? = some (.int .u8 bk) := (encU_u _ 8358 (by decide) (by decide) (by decide)).trans (congrArg (fun x => some (Value.int .u8 x)) (Hbk.out))
   have e_fi : (encU (m))[8359]? = some (.int .u8 fi) := (encU_u _ 8359 (by decide) (by decide) (by decide)).trans (congrArg (fun x => some (Value.int .u8 x)) (Hfi.out))
   have e_se : (encU (m))[8360]? = some (.int .u8 se) := (encU_u _ 8360 (by decide) (by decide) (by decide)).trans (congrArg (fun x => some (Value.int .u8 x)) (Hse.out))
   refine wp_region_held_drew (S := (fun w' => (∀ o, w'.cell? ⟨b, o, none⟩ = (encU m)[o]?))) (by kernel_rfl) P4.out.2.1 (fun hHeld => ?_)
   generalize World.drew _ = u4 at hHeld P4 K4 X4 ⊢
   refine tzz 0 ?_
   refine tzz 1 ?_
   refine tzz 2 ?_
   refine tzz 3 ?_
   refine tzz 4 ?_
   refine tzz 5 ?_
   refine tzz 6 ?_
   refine tzz 7 ?_
   refine tzz 8 ?_
   refine tzz 9 ?_
   refine tzz 10 ?_
   refine tzz 11 ?_
   refine tzz 12 ?_
   refine tzz 13 ?_
   refine tzz 14 ?_
   refine tzz 15 ?_
   refine tzz 16 ?_
   refine wpAnyH_ready (rs := [17]) (by kernel_rfl) (by simp) ?_
   refine (acc rfl (fun K hK => ?_) AllReadyH.nil)
   ·skip
    go_simp
    have Q_ := own1 u4 (.cells #[.int .u8 0, .int .u8 0, .int .u8 0, .int .u8 0] 81)
    have P5 := Lib.hid (P4.out.below Q_)
    have K5 := Lib.hid (K4.out.trans (Keeps.of_below Q_))
    have X5 := Lib.hid (X4.out.below Q_)
    have Y5 := Lib.hid (Has.new u4 #[.int .u8 0, .int .u8 0, .int .u8 0, .int .u8 0] 81)
    have LY := Lib.hid (K4.out.size)
    have NY := Lib.hid (Nat.ne_of_lt P4.out.1)
    have NXY := Lib.hid (Nat.ne_of_lt X4.out.1)
    clear Q_
    clear P4 K4 X4
    generalize u4.alloc (.cells #[.int .u8 0, .int .u8 0, .int .u8 0, .int .u8 0] 81) = u5 at P5 K5 X5 Y5 ⊢
    generalize u4.heap.size = yb at Y5 LY NY NXY ⊢
    refine hK.out _ _ ?s174 (fun hNew => ?r174)
    case s174 => exact P5.out.2.1
    clear hK K hHeld
    have hHeld := hNew
    clear hNew
    refine wpAnyH_ready (rs := [18]) (by kernel_rfl) (by simp) ?_
    refine (acc rfl (fun K hK => ?_) AllReadyH.nil)
    ·skip
     refine wp_store_g r27 Y5.out rfl #[.int .u8 c, .int .u8 bk, .int .u8 fi, .int .u8 se] rfl (four_one _ _ _ _) _ _ rfl rfl rfl ?_
     intro u6 hP hk
     try simp only [Act.put, qqA, qqB, qqC]
     have Y6 := Lib.hid hP
     have K6 := Lib.hid (keeps_new K5.out LY.out hk)
     have P6 := Lib.hid (hk.has NY.out P5.out)
     have X6 := Lib.hid (hk.has NXY.out X5.out)
     clear hP hk
     clear P5 K5 X5 Y5
     refine hK.out _ _ ?s175 (fun hNew => ?r175)
     case s175 => exact P6.out.2.1
     clear hK K hHeld
     have hHeld := hNew
     clear hNew
     refine wpAnyH_done (by kernel_rfl) ?_ _
     clear hHeld
     clear e_c e_bk e_fi e_se
     go_wp2_with (fail)
     with_reducible refine (line_u b m (n : Int) HL.out (by omega) (by omega) _ P6.out).mono ?_
     rintro q_ w' ⟨rfl, rfl⟩
     go_upto_region 4 with (fail)
     have P7 := Lib.hid P6.out.drew
     have X7 := Lib.hid X6.out.drew
     have Y7 := Lib.hid Y6.out.drew
     have K7 := Lib.hid (K6.out.drew)
     clear P6 K6 X6 Y6
     have e_ow : (encU (m))[8364]? = some (.int .u8 ow) := (encU_u _ 8364 (by decide) (by decide) (by decide)).trans (congrArg (fun x => some (Value.int .u8 x)) (How.out))
     refine wp_region_held_drew (S := (fun w' => (∀ o, w'.cell? ⟨b, o, none⟩ = (encU m)[o]?) ∧ w'.rangeAt xb 0 (#[.int .u8 c, .int .u8 sx, .int .u8 sy, .int .u8 wx, .int .u8 wy] : Array Value).toList)) (by kernel_rfl) ⟨P7.out.2.1, range_of_has X7.out⟩ (fun hHeld => ?_)
     generalize World.drew _ = u7 at hHeld P7 K7 X7 Y7 ⊢
     refine wpAnyH_take (i := 0) (oi := ⟨_, _, _, _, _, _⟩) (v := .agg #[.int .u8 c, .int .u8 sx, .int .u8 sy, .int .u8 wx, .int .u8 wy]) rfl (by kernel_rfl) (by kernel_rfl) (by kernel_rfl) (fun _ _ _ h => h) (yields_load r80 #[.int .u8 c, .int .u8 sx, .int .u8 sy, .int .u8 wx, .int .u8 wy] rfl xb (fun w hw => hw.2) (by rfl) _ rfl rfl) (by assumption) ?_
     try simp only [Act.put, qqA, qqB, qqC]
     refine tzz 1 ?_
     refine tzz 2 ?_
     refine tzz 3 ?_
     refine tzz 4 ?_
     refine tzz 5 ?_
     refine tzz 6 ?_
     refine tzz 7 ?_
     refine tzz 8 ?_
     refine tzz 9 ?_
     refine tzz 10 ?_
     refine wpAnyH_ready (rs := [11, 15]) (by kernel_rfl) (by simp) ?_
     refine (acc rfl (fun K hK => ?_) (acc rfl (fun K hK => ?_) AllReadyH.nil))
     ·skip
      go_simp
      with_reducible refine ((HLN.out _ (mem_vid P7.out HB.out))).mono ?_
      rintro q_ u8 ⟨rfl, hb⟩
      have P8 := Lib.hid (P7.out.below hb)
      have K8 := Lib.hid (K7.out.trans (Keeps.of_below hb))
      have X8 := Lib.hid (X7.out.below hb)
      have Y8 := Lib.hid (Y7.out.below hb)
      clear hb
      clear P7 K7 X7 Y7
      refine hK.out _ _ ?s187 (fun hNew => ?r187)
      case s187 => exact ⟨P8.out.2.1, range_of_has X8.out⟩
      clear hK K hHeld
      have hHeld := hNew
      clear hNew
      refine tzz 12 ?_
      refine tzz 13 ?_
      refine tzz 14 ?_
      refine wpAnyH_ready (rs := [15]) (by kernel_rfl) (by simp) ?_
      refine (acc rfl (fun K hK => ?_) AllReadyH.nil)
      ·skip
       go_simp
       have Q_ := own1 u8 (.cells Try.zeroCells34 34)
       have P9 := Lib.hid (P8.out.below Q_)
       have K9 := Lib.hid (K8.out.trans (Keeps.of_below Q_))
       have X9 := Lib.hid (X8.out.below Q_)
       have Y9 := Lib.hid (Y8.out.below Q_)
       have Z9 := Lib.hid (Has.new u8 Try.zeroCells34 34)
       have LZ := Lib.hid (K8.out.size)
       have NZ := Lib.hid (Nat.ne_of_lt P8.out.1)
       have NXZ := Lib.hid (Nat.ne_of_lt X8.out.1)
       have NYZ := Lib.hid (Nat.ne_of_lt Y8.out.1)
       clear Q_
       clear P8 K8 X8 Y8
       generalize u8.alloc (.cells Try.zeroCells34 34) = u9 at P9 K9 X9 Y9 Z9 ⊢
       generalize u8.heap.size = zb at Z9 LZ NZ NXZ NYZ ⊢
       refine hK.out _ _ ?s191 (fun hNew => ?r191)
       case s191 => exact ⟨P9.out.2.1, range_of_has X9.out⟩
       clear hK K hHeld
       have hHeld := hNew
       clear hNew
       refine wpAnyH_ready (rs := [16]) (by kernel_rfl) (by simp) ?_
       refine (acc rfl (fun K hK => ?_) AllReadyH.nil)
       ·skip
        refine wp_store_g r34 Z9.out Try.zeroCells34_size (enc U) (enc_size _) (enc_one _) _ _ rfl rfl rfl ?_
        intro u10 hP hk
        try simp only [Act.put, qqA, qqB, qqC]
        have Z10 := Lib.hid hP
        have K10 := Lib.hid (keeps_new K9.out LZ.out hk)
        have P10 := Lib.hid (hk.has NZ.out P9.out)
        have X10 := Lib.hid (hk.has NXZ.out X9.out)
        have Y10 := Lib.hid (hk.has NYZ.out Y9.out)
        clear hP hk
        clear P9 K9 X9 Y9 Z9
        refine hK.out _ _ ?s192 (fun hNew => ?r192)
        case s192 => exact ⟨P10.out.2.1, range_of_has X10.out⟩
        clear hK K hHeld
        have hHeld := hNew
        clear hNew
        refine tzz 17 ?_
        refine wpAnyH_done (by kernel_rfl) ?_ _
        clear hHeld
        clear e_ow
        go_upto_region 5 with (fail)
        have P11 := Lib.hid P10.out.drew
        have X11 := Lib.hid X10.out.drew
        have Y11 := Lib.hid Y10.out.drew
        have Z11 := Lib.hid Z10.out.drew
        have K11 := Lib.hid (K10.out.drew)
        clear P10 K10 X10 Y10 Z10
        refine wp_region_held_drew (S := (fun w' => w'.rangeAt yb 0 (#[.int .u8 c, .int .u8 bk, .int .u8 fi, .int .u8 se] : Array Value).toList ∧ w'.rangeAt zb 0 (enc U).toList)) (by kernel_rfl) ⟨range_of_has Y11.out, range_of_has Z11.out⟩ (fun hHeld => ?_)
        generalize World.drew _ = u11 at hHeld P11 K11 X11 Y11 Z11 ⊢
        refine tzz 0 ?_
        refine tzz 1 ?_
        refine wpAnyH_take (i := 2) (oi := ⟨_, _, _, _, _, _⟩) (v := .agg #[.int .u8 c, .int .u8 bk, .int .u8 fi, .int .u8 se]) rfl (by kernel_rfl) (by kernel_rfl) (by kernel_rfl) (fun _ _ _ h => h) (yields_load r27 #[.int .u8 c, .int .u8 bk, .int .u8 fi, .int .u8 se] rfl yb (fun w hw => hw.1) (by rfl) _ rfl rfl) (by assumption) ?_
        try simp only [Act.put, qqA, qqB, qqC]
        refine tzz 3 ?_
        refine tzz 4 ?_
        refine tzz 5 ?_
        refine tzz 6 ?_
        refine tzz 7 ?_
        refine tzz 8 ?_
        refine tzz 9 ?_
        refine tzz 10 ?_
        refine tzz 11 ?_
        refine wpAnyH_take (i := 12) (oi := ⟨_, _, _, _, _, _⟩) (v := .agg (enc U)) rfl (by kernel_rfl) (by kernel_rfl) (by kernel_rfl) (fun _ _ _ h => h) (yields_load r34 (enc U) (enc_size _) zb (fun w hw => hw.2) (by rfl) _ rfl rfl) (by assumption) ?_
        try simp only [Act.put, qqA, qqB, qqC]
        refine tzz 14 ?_
        refine tzz 15 ?_
        refine wpAnyH_ready (rs := [13]) (by kernel_rfl) (by simp) ?_
        refine (acc rfl (fun K hK => ?_) AllReadyH.nil)
        ·skip
         go_simp
         with_reducible refine ((HLK.out _ (mem_vid P11.out HB.out) (mem_oam P11.out HB.out))).mono ?_
         rintro q_ u12 ⟨rfl, hb⟩
         have P12 := Lib.hid (P11.out.below hb)
         have K12 := Lib.hid (K11.out.trans (Keeps.of_below hb))
         have X12 := Lib.hid (X11.out.below hb)
         have Y12 := Lib.hid (Y11.out.below hb)
         have Z12 := Lib.hid (Z11.out.below hb)
         clear hb
         clear P11 K11 X11 Y11 Z11
         refine hK.out _ _ ?s209 (fun hNew => ?r209)
         case s209 => exact ⟨range_of_has Y12.out, range_of_has Z12.out⟩
         clear hK K hHeld
         have hHeld := hNew
         clear hNew
         refine tzz 16 ?_
         refine wpAnyH_ready (rs := [17]) (by kernel_rfl) (by simp) ?_
         refine (acc rfl (fun K hK => ?_) AllReadyH.nil)
         ·skip
          refine wp_store_row P12.out R _ _ rfl (8367 + n * 160) rfl rfl (by omega) (by omega) ?_
          intro u13 hP hk
          try simp only [Act.put, qqA, qqB, qqC]
          have P13 := Lib.hid hP
          have K13 := Lib.hid (K12.out.trans hk)
          have X13 := Lib.hid (hk.has (Ne.symm NX.out) X12.out)
          have Y13 := Lib.hid (hk.has (Ne.symm NY.out) Y12.out)
          have Z13 := Lib.hid (hk.has (Ne.symm NZ.out) Z12.out)
          clear hP hk
          clear P12 K12 X12 Y12 Z12
          refine hK.out _ _ ?s211 (fun hNew => ?r211)
          case s211 => exact ⟨range_of_has Y13.out, range_of_has Z13.out⟩
          clear hK K hHeld
          have hHeld := hNew
          clear hNew
          refine wpAnyH_done (by kernel_rfl) ?_ _
          clear hHeld
          go_wp2
          all_goals first | exact bodyPost_ret (v := .tuple #[]) (by simp [results, Try.results44, go_sem]) rfl ⟨rfl, P13.out, K13.out⟩ | exact bodyPost_end (v := .tuple #[]) (by simp [results, Try.results44, go_sem]) rfl ⟨rfl, P13.out, K13.out⟩
     ·skip
      go_simp
      have Q_ := own1 u7 (.cells Try.zeroCells34 34)
      have P8 := Lib.hid (P7.out.below Q_)
      have K8 := Lib.hid (K7.out.trans (Keeps.of_below Q_))
      have X8 := Lib.hid (X7.out.below Q_)
      have Y8 := Lib.hid (Y7.out.below Q_)
      have Z8 := Lib.hid (Has.new u7 Try.zeroCells34 34)
      have LZ := Lib.hid (K7.out.size)
      have NZ := Lib.hid (Nat.ne_of_lt P7.out.1)
      have NXZ := Lib.hid (Nat.ne_of_lt X7.out.1)
      have NYZ := Lib.hid (Nat.ne_of_lt Y7.out.1)
      clear Q_
      clear P7 K7 X7 Y7
      generalize u7.alloc (.cells Try.zeroCells34 34) = u8 at P8 K8 X8 Y8 Z8 ⊢
      generalize u7.heap.size = zb at Z8 LZ NZ NXZ NYZ ⊢
      refine hK.out _ _ ?s212 (fun hNew => ?r212)
      case s212 => exact ⟨P8.out.2.1, range_of_has X8.out⟩
      clear hK K hHeld
      have hHeld := hNew
      clear hNew
      refine wpAnyH_ready (rs := [11]) (by kernel_rfl) (by simp) ?_
      refine (acc rfl (fun K hK => ?_) AllReadyH.nil)
      ·skip
       go_simp
       with_reducible refine ((HLN.out _ (mem_vid P8.out HB.out))).mono ?_
       rintro q_ u9 ⟨rfl, hb⟩
       have P9 := Lib.hid (P8.out.below hb)
       have K9 := Lib.hid (K8.out.trans (Keeps.of_below hb))
       have X9 := Lib.hid (X8.out.below hb)
       have Y9 := Lib.hid (Y8.out.below hb)
       have Z9 := Lib.hid (Z8.out.below hb)
       clear hb
       clear P8 K8 X8 Y8 Z8
       refine hK.out _ _ ?s213 (fun hNew => ?r213)
       case s213 => exact ⟨P9.out.2.1, range_of_has X9.out⟩
       clear hK K hHeld
       have hHeld := hNew
       clear hNew
       refine tzz 12 ?_
       refine tzz 13 ?_
       refine tzz 14 ?_
       refine wpAnyH_ready (rs := [16]) (by kernel_rfl) (by simp) ?_
       refine (acc rfl (fun K hK => ?_) AllReadyH.nil)
       ·skip
        refine wp_store_g r34 Z9.out Try.zeroCells34_size (enc U) (enc_size _) (enc_one _) _ _ rfl rfl rfl ?_
        intro u10 hP hk
        try simp only [Act.put, qqA, qqB, qqC]
        have Z10 := Lib.hid hP
        have K10 := Lib.hid (keeps_new K9.out LZ.out hk)
        have P10 := Lib.hid (hk.has NZ.out P9.out)
        have X10 := Lib.hid (hk.has NXZ.out X9.out)
        have Y10 := Lib.hid (hk.has NYZ.out Y9.out)
        clear hP hk
        clear P9 K9 X9 Y9 Z9
        refine hK.out _ _ ?s217 (fun hNew => ?r217)
        case s217 => exact ⟨P10.out.2.1, range_of_has X10.out⟩
        clear hK K hHeld
        have hHeld := hNew
        clear hNew
        refine tzz 17 ?_
        refine wpAnyH_done (by kernel_rfl) ?_ _
        clear hHeld
        clear e_ow
        go_upto_region 5 with (fail)
        have P11 := Lib.hid P10.out.drew
        have X11 := Lib.hid X10.out.drew
        have Y11 := Lib.hid Y10.out.drew
        have Z11 := Lib.hid Z10.out.drew
        have K11 := Lib.hid (K10.out.drew)
        clear P10 K10 X10 Y10 Z10
        refine wp_region_held_drew (S := (fun w' => w'.rangeAt yb 0 (#[.int .u8 c, .int .u8 bk, .int .u8 fi, .int .u8 se] : Array Value).toList ∧ w'.rangeAt zb 0 (enc U).toList)) (by kernel_rfl) ⟨range_of_has Y11.out, range_of_has Z11.out⟩ (fun hHeld => ?_)
        generalize World.drew _ = u11 at hHeld P11 K11 X11 Y11 Z11 ⊢
        refine tzz 0 ?_
        refine tzz 1 ?_
        refine wpAnyH_take (i := 2) (oi := ⟨_, _, _, _, _, _⟩) (v := .agg #[.int .u8 c, .int .u8 bk, .int .u8 fi, .int .u8 se]) rfl (by kernel_rfl) (by kernel_rfl) (by kernel_rfl) (fun _ _ _ h => h) (yields_load r27 #[.int .u8 c, .int .u8 bk, .int .u8 fi, .int .u8 se] rfl yb (fun w hw => hw.1) (by rfl) _ rfl rfl) (by assumption) ?_
        try simp only [Act.put, qqA, qqB, qqC]
        refine tzz 3 ?_
        refine tzz 4 ?_
        refine tzz 5 ?_
        refine tzz 6 ?_
        refine tzz 7 ?_
        refine tzz 8 ?_
        refine tzz 9 ?_
        refine tzz 10 ?_
        refine tzz 11 ?_
        refine wpAnyH_take (i := 12) (oi := ⟨_, _, _, _, _, _⟩) (v := .agg (enc U)) rfl (by kernel_rfl) (by kernel_rfl) (by kernel_rfl) (fun _ _ _ h => h) (yields_load r34 (enc U) (enc_size _) zb (fun w hw => hw.2) (by rfl) _ rfl rfl) (by assumption) ?_
        try simp only [Act.put, qqA, qqB, qqC]
        refine tzz 14 ?_
        refine tzz 15 ?_
        refine wpAnyH_ready (rs := [13]) (by kernel_rfl) (by simp) ?_
        refine (acc rfl (fun K hK => ?_) AllReadyH.nil)
        ·skip
         go_simp
         with_reducible refine ((HLK.out _ (mem_vid P11.out HB.out) (mem_oam P11.out HB.out))).mono ?_
         rintro q_ u12 ⟨rfl, hb⟩
         have P12 := Lib.hid (P11.out.below hb)
         have K12 := Lib.hid (K11.out.trans (Keeps.of_below hb))
         have X12 := Lib.hid (X11.out.below hb)
         have Y12 := Lib.hid (Y11.out.below hb)
         have Z12 := Lib.hid (Z11.out.below hb)
         clear hb
         clear P11 K11 X11 Y11 Z11
         refine hK.out _ _ ?s234 (fun hNew => ?r234)
         case s234 => exact ⟨range_of_has Y12.out, range_of_has Z12.out⟩
         clear hK K hHeld
         have hHeld := hNew
         clear hNew
         refine tzz 16 ?_
         refine wpAnyH_ready (rs := [17]) (by kernel_rfl) (by simp) ?_
         refine (acc rfl (fun K hK => ?_) AllReadyH.nil)
         ·skip
          refine wp_store_row P12.out R _ _ rfl (8367 + n * 160) rfl rfl (by omega) (by omega) ?_
          intro u13 hP hk
          try simp only [Act.put, qqA, qqB, qqC]
          have P13 := Lib.hid hP
          have K13 := Lib.hid (K12.out.trans hk)
          have X13 := Lib.hid (hk.has (Ne.symm NX.out) X12.out)
          have Y13 := Lib.hid (hk.has (Ne.symm NY.out) Y12.out)
          have Z13 := Lib.hid (hk.has (Ne.symm NZ.out) Z12.out)
          clear hP hk
          clear P12 K12 X12 Y12 Z12
          refine hK.out _ _ ?s236 (fun hNew => ?r236)
          case s236 => exact ⟨range_of_has Y13.out, range_of_has Z13.out⟩
          clear hK K hHeld
          have hHeld := hNew
          clear hNew
          refine wpAnyH_done (by kernel_rfl) ?_ _
          clear hHeld
          go_wp2
          all_goals first | exact bodyPost_ret (v := .tuple #[]) (by simp [results, Try.results44, go_sem]) rfl ⟨rfl, P13.out, K13.out⟩ | exact bodyPost_end (v := .tuple #[]) (by simp [results, Try.results44, go_sem]) rfl ⟨rfl, P13.out, K13.out⟩
end Go.Proofs.Ytpfbodmadmneiaa
