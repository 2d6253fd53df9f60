/-
  The pack, as the program makes it: for every world in which the slices lie as told; they have at most 16000 bytes.
-/
import Derived.Test.YtklbhbappaibgaaRr
import Derived.StillTailTactics
import Derived.Test.YtklbhbappaibgaaSc
namespace Go.Proofs.Ytklbhbappaibgaa
open Go.ChangeShapes Go.WideShapes Go.ChangeAt Go.RowKit
set_option linter.unusedVariables false
set_option linter.unusedSimpArgs false
set_option maxRecDepth 100000
theorem cut_c {w : World} {v : Value} {L : List Nat} (h : Rd w v L) (k : Nat) (hk : k ≤ L.length) : ∃ V, (∀ w', (Instr.sliceAt 22 v (some (.int .i64 k)) none none).run Try.prog w' = .ok V w') ∧ (∀ w', Rd w' v L → Rd w' V (L.drop k)) := by
 obtain ⟨a, c, rfl, hc, _⟩ := h
 refine ⟨sliced a k L.length c 1, fun w' => ?_, fun w' h' => h'.rest k hk⟩
 rw [run_sliceAt_slice w' 22 _ _ _ _ Try.underlying22, run_slice_l w' 22 a L.length c Try.underlying22 .i64 k (by omega) (by omega)]
 have hs : (sizeOf (Try.prog.elem 22)).run Try.prog w' = .ok 1 w' := by kernel_rfl
 rw [hs]; rfl
theorem cut2_c {w : World} {v : Value} {L : List Nat} (h : Rd w v L) (lo hi : Nat) (h1 : lo ≤ hi) (h2 : hi ≤ L.length) (z : Int) (hz : z = hi) : ∃ V, (∀ w', (Instr.sliceAt 22 v (some (.int .i64 lo)) (some (.int .i64 z)) none).run Try.prog w' = .ok V w') ∧ (∀ w', Rd w' v L → Rd w' V ((L.take hi).drop lo)) := by
 subst hz
 obtain ⟨a, c, rfl, hc, _⟩ := h
 refine ⟨sliced a lo hi c 1, fun w' => ?_, fun w' h' => h'.part lo hi h1 h2⟩
 rw [run_sliceAt_slice w' 22 _ _ _ _ Try.underlying22, run_slice_lh w' 22 a L.length c Try.underlying22 .i64 .i64 lo hi (by omega) (by omega) (by omega)]
 have hs : (sizeOf (Try.prog.elem 22)).run Try.prog w' = .ok 1 w' := by kernel_rfl
 rw [hs]; rfl
theorem cut3_c {w : World} {v : Value} {L : List Nat} (h : Rd w v L) (hi : Nat) (h2 : hi ≤ L.length) (z : Int) (hz : z = hi) : ∃ V, (∀ w', (Instr.sliceAt 22 v none (some (.int .i64 z)) none).run Try.prog w' = .ok V w') ∧ (∀ w', Rd w' v L → Rd w' V (L.take hi)) := by
 subst hz
 obtain ⟨a, c, rfl, hc, _⟩ := h
 refine ⟨sliced a 0 hi c 1, fun w' => ?_, fun w' h' => h'.part 0 hi (Nat.zero_le _) h2⟩
 rw [run_sliceAt_slice w' 22 _ _ _ _ Try.underlying22, run_slice_h w' 22 a L.length c Try.underlying22 .i64 hi (by omega) (by omega)]
 have hs : (sizeOf (Try.prog.elem 22)).run Try.prog w' = .ok 1 w' := by kernel_rfl
 rw [hs]; rfl
theorem Rd.slice {w : World} {v : Value} {L : List Nat} (h : Rd w v L) : ∃ a c, v = .slice a L.length c := by
 obtain ⟨a, c, e, _⟩ := h; exact ⟨a, c, e⟩
theorem pk_len (n : Nat) : ∀ (B C : List Nat), C.length ≤ n → B.length = C.length → C.length < 16384 → (pk B C).length ≤ 5 * C.length + 2 := by
 induction n with
 | zero =>
  intro B C hn hl hb
  have e : eqR B C = C.length := by have := eqR_le B C; omega
  have := num_len2 hb
  rw [pk_end e]; omega
 | succ n ih =>
  intro B C hn hl hb
  have hle := eqR_le B C
  rcases Nat.lt_or_ge (eqR B C) C.length with hc | hc
  ·obtain ⟨e, he⟩ : ∃ e, eqR B C = e := ⟨_, rfl⟩
   obtain ⟨d, hdd⟩ : ∃ d, dR (B.drop e) (C.drop e) = d := ⟨_, rfl⟩
   have hz := @eqR_stop B C
   rw [he] at hle hc hz
   have hp : 0 < d := by rw [← hdd]; exact dR_pos (by simp [hl]) hz (by simp; omega)
   have hdl : d ≤ C.length - e := by rw [← hdd]; have := dR_le (B.drop e) (C.drop e); simpa using this
   have h1 := num_len2 (n := e) (by omega)
   have h2 := num_len2 (n := d) (by omega)
   have h3 := ih (B.drop (e + d)) (C.drop (e + d)) (by simp; omega) (by simp [hl]) (by simp; omega)
   rw [pk_more hl he hc hdd]
   simp only [List.length_append, List.length_take, List.length_drop] at h3 ⊢
   omega
  ·have e : eqR B C = C.length := by omega
   have := num_len2 hb
   rw [pk_end e]; omega
/-- What a packer hands back. -/
def PackE (B C : List Nat) (w : World) (q_ : Ending) (w' : World) : Prop := ∃ v', q_ = .returned (.tuple #[v', .int .i64 (if B.length = C.length then 0 else 6)]) ∧ Ow w' w.heap.size v' (if B.length = C.length then pk B C else []) ∧ Below w.heap.size w w'
theorem PackE.ne {B C : List Nat} {w : World} (h : ¬ B.length = C.length) : PackE B C w (.returned (.tuple #[.slice none 0 0, .int .i64 6])) w := by
 unfold PackE; rw [if_neg h, if_neg h]
 exact ⟨_, rfl, Ow.nil w _, Below.refl _ _⟩
theorem PackE.eq {B C : List Nat} {w w' : World} {v : Value} (h : B.length = C.length) (ho : Ow w' w.heap.size v (pk B C)) (hb : Below w.heap.size w w') : PackE B C w (.returned (.tuple #[v, .int .i64 0])) w' := by
 unfold PackE; rw [if_pos h, if_pos h]
 exact ⟨_, rfl, ho, hb⟩
set_option maxHeartbeats 1000000 in
theorem pack_ne (v1 v2 : Value) (B C : List Nat) (hl : ¬ B.length = C.length) (hm : B.length ≤ 16000) (hm2 : C.length ≤ 16000) (w : World) (h1 : Rd w v1 B) (h2 : Rd w v2 C) : Calls Try.prog 11 #[v1, v2] w (PackE B C w) := by
 have R := Lib.hid (PackE.ne (w := w) hl)
 obtain ⟨a1, n, c1, rfl, n1, hc1, hz1, by1, at1⟩ := h1.open
 obtain ⟨a2, n', c2, rfl, n2, hc2, hz2, by2, at2⟩ := h2.open
 have hne : ((n : Int) != n') = true := by simp; omega
 clear hl hm hm2 h1 h2 by1 by2 at1 at2 n1 n2
 go_enter Try.func11, Try.ntmps11
 go_wp2
 go_step3
 go_wp2
 rw [Exit.noGoto_ret]
 go_ret2
 exact R.out
/-- Where the packer stands at its label: m bytes are to come. -/
def PJ (a1 a2 : Option Addr) (n c1 c2 : Nat) (B C : List Nat) (w : World) (m : Nat) (a' : Act) (w' : World) : Prop := ∃ (k : Nat) (M : List Nat) (s u8 u9 u10 u11 u12 u13 u14 u15 u16 u17 u18 u19 u20 u21 u22 u23 u24 u25 u26 u27 u28 u29 u30 u31 u32 u33 u34 u35 u36 u37 u38 u39 u40 u41 u42 u43 u44 u45 u46 u47 u48 u49 u50 u51 u52 : Value), a' = { tmps := #[.slice a1 n c1, .slice a2 n c2, undef, undef, .slice none 0 0, .int .i64 0, s, .int .i64 k, u8, u9, u10, u11, u12, u13, u14, u15, u16, u17, u18, u19, u20, u21, u22, u23, u24, u25, u26, u27, u28, u29, u30, u31, u32, u33, u34, u35, u36, u37, u38, u39, u40, u41, u42, u43, u44, u45, u46, u47, u48, u49, u50, u51, u52], defers := [] } ∧ k ≤ n ∧ m + k = n ∧ Ow w' w.heap.size s M ∧ Below w.heap.size w w' ∧ M ++ pk (B.drop k) (C.drop k) = pk B C
set_option maxHeartbeats 8000000 in
theorem pack_pass (a1 a2 : Option Addr) (n c1 c2 : Nat) (B C : List Nat) (n1 : B.length = n) (n2 : C.length = n) (hm : n ≤ 16000) (w : World) (h1 : Rd w (.slice a1 n c1) B) (h2 : Rd w (.slice a2 n c2) C) (m : Nat) (a' : Act) (w' : World) (hJ : PJ a1 a2 n c1 c2 B C w m a' w')
  (Q' : Exit → Act → World → Prop) (hq : ∀ a w', bodyPost Try.prog Try.f11 (PackE B C w) .ret a w' → Q' .ret a w') (hg : ∀ n' a' w', n' < m → PJ a1 a2 n c1 c2 B C w n' a' w' → Q' (.goto 0) a' w') : Code.wp Try.prog (behind Try.f11 0) Q' a' w' := by
 obtain ⟨k, M, s, u8, u9, u10, u11, u12, u13, u14, u15, u16, u17, u18, u19, u20, u21, u22, u23, u24, u25, u26, u27, u28, u29, u30, u31, u32, u33, u34, u35, u36, u37, u38, u39, u40, u41, u42, u43, u44, u45, u46, u47, u48, u49, u50, u51, u52, rfl, hk, hmk, ho, hb, hp⟩ := hJ
 have LN := Lib.hid (pk_len _ B C (Nat.le_refl _) (by omega) (by omega))
 have R1 := Lib.hid h1
 have R2 := Lib.hid h2
 have N1 := Lib.hid n1
 have N2 := Lib.hid n2
 have HO := Lib.hid ho
 have HB := Lib.hid hb
 have HP := Lib.hid hp
 have MK := Lib.hid hmk
 have HQ := Lib.hid hq
 have HG := Lib.hid hg
 clear ho hb hp hmk n1 n2 h1 h2 hq hg
 obtain ⟨V1, s1, r1⟩ := cut_c R1.out k (by rw [N1.out]; exact hk)
 obtain ⟨V2, s2, r2⟩ := cut_c R2.out k (by rw [N2.out]; exact hk)
 have RV1 := Lib.hid r1
 have RV2 := Lib.hid r2
 clear r1 r2
 unfold behind
 conv => { arg 2; whnf }
 obtain ⟨u, hu⟩ : ∃ q_, q_ = w' := ⟨_, rfl⟩
 subst hu
 have LM : M.length ≤ 80010 := by have h := congrArg List.length HP.out; simp at h; have := LN.out; have := N2.out; omega
 have LBD : (B.drop k).length = n - k ∧ (C.drop k).length = n - k := by simp [N1.out, N2.out]
 have HL := Lib.hid LBD
 clear LBD
 go_upto_region 5 with (fail)
 go_still_tail 6, (by kernel_rfl)
 change wpList _ _ _ _ _ (World.drew u)
 have bd := (Below.refl u.heap.size u).drew
 have HO1 := Lib.hid (HO.out.below bd)
 have HB1 := Lib.hid (via HB.out bd)
 clear bd HO HB
 generalize World.drew u = u1 at HO1 HB1 ⊢
 go_wp2_with (fail)
 refine (er_c V1 V2 _ _ (by rw [HL.out.1, HL.out.2]) (by rw [HL.out.2]; omega) u1 (RV1.out _ (R1.out.below HB1.out)) (RV2.out _ (R2.out.below HB1.out))).mono ?_
 rintro q_ u2 ⟨rfl, b2⟩
 have HO2 := Lib.hid (HO1.out.below b2)
 have HB2 := Lib.hid (via HB1.out b2)
 clear b2 HO1 HB1
 obtain ⟨e, he⟩ : ∃ e, eqR (B.drop k) (C.drop k) = e := ⟨_, rfl⟩
 have ebd : e ≤ n - k := by have := eqR_le (B.drop k) (C.drop k); rw [HL.out.2, he] at this; exact this
 rw [he]
 have HE := Lib.hid he
 clear he s1 s2 RV1 RV2
 obtain ⟨k1, hk1⟩ : ∃ q_, q_ = k + e := ⟨_, rfl⟩
 have k1i : (k : Int) + e = k1 := by omega
 have K1 := Lib.hid hk1
 have k1n : k1 ≤ n := by omega
 clear hk1
 go_wp2_with (fail)
 refine (an_c s M w.heap.size e (by omega) (by omega) u2 HB2.out.size HO2.out).mono ?_
 rintro q_ u3 ⟨s3, rfl, o3, b3⟩
 have HO3 := Lib.hid o3
 have HB3 := Lib.hid (HB2.out.trans b3)
 clear o3 b3 HO2 HB2
 by_cases hend : k1 = n
 ·have RES := Lib.hid (show M ++ num e = pk B C by
   have h := HP.out
   rw [pk_end (by rw [HE.out, HL.out.2]; have := K1.out; omega), HL.out.2, show n - k = e by have := K1.out; omega] at h
   exact h)
  have hc : ((k1 : Int) == n) = true := by simp; omega
  clear hend
  go_wp2
  refine HQ.out _ _ ?_
  go_ret2
  exact PackE.eq (by rw [N1.out, N2.out]) (by rw [← RES.out]; exact HO3.out) HB3.out
 have hc : ((k1 : Int) == n) = false := by simp; omega
 have k1lt : k1 < n := by omega
 clear hend
 obtain ⟨V3, s3', r3⟩ := cut_c R1.out k1 (by rw [N1.out]; exact k1n)
 obtain ⟨V4, s4', r4⟩ := cut_c R2.out k1 (by rw [N2.out]; exact k1n)
 have RV3 := Lib.hid r3
 have RV4 := Lib.hid r4
 clear r3 r4
 have HL1 := Lib.hid (show (B.drop k1).length = n - k1 ∧ (C.drop k1).length = n - k1 by simp [N1.out, N2.out])
 go_upto_region 10 with (fail)
 go_still_tail 6, (by kernel_rfl)
 change wpList _ _ _ _ _ (World.drew u3)
 have bd := (Below.refl u3.heap.size u3).drew
 have HO4 := Lib.hid (HO3.out.below bd)
 have HB4 := Lib.hid (via HB3.out bd)
 clear bd HO3 HB3
 generalize World.drew u3 = u4 at HO4 HB4 ⊢
 go_wp2_with (fail)
 refine (dr_c V3 V4 _ _ (by rw [HL1.out.1, HL1.out.2]) (by rw [HL1.out.2]; omega) u4 (RV3.out _ (R1.out.below HB4.out)) (RV4.out _ (R2.out.below HB4.out))).mono ?_
 rintro q_ u5 ⟨rfl, b5⟩
 have HO5 := Lib.hid (HO4.out.below b5)
 have HB5 := Lib.hid (via HB4.out b5)
 clear b5 HO4 HB4
 obtain ⟨d, hd⟩ : ∃ d, dR (B.drop k1) (C.drop k1) = d := ⟨_, rfl⟩
 have dbd : d ≤ n - k1 := by have := dR_le (B.drop k1) (C.drop k1); rw [HL1.out.2, hd] at this; exact this
 rw [hd]
 have HD := Lib.hid hd
 have HPK := Lib.hid (show (M ++ num e) ++ num d ++ ((C.take (k1 + d)).drop k1) ++ pk (B.drop (k1 + d)) (C.drop (k1 + d)) = pk B C ∧ 0 < d by
  have h := HP.out
  have hz := @eqR_stop (B.drop k) (C.drop k)
  rw [HE.out, List.drop_drop, List.drop_drop, ← K1.out] at hz
  have hpos : 0 < d := by rw [← hd]; exact dR_pos (by rw [HL1.out.1, HL1.out.2]) hz (by rw [HL1.out.2]; omega)
  rw [pk_more (e := e) (d := d) (by rw [HL.out.1, HL.out.2]) HE.out (by rw [HL.out.2]; have := K1.out; omega) (by rw [List.drop_drop, List.drop_drop, ← K1.out]; exact hd), List.drop_drop, List.drop_drop, List.drop_drop, ← Nat.add_assoc, ← K1.out] at h
  refine ⟨?_, hpos⟩
  rw [← h, List.drop_take, show k1 + d - k1 = d by omega]
  simp only [List.append_assoc])
 clear hd s3' s4' RV3 RV4
 obtain ⟨k2, hk2⟩ : ∃ q_, q_ = k1 + d := ⟨_, rfl⟩
 have k2i : (k1 : Int) + d = k2 := by omega
 have K2 := Lib.hid hk2
 have k2n : k2 ≤ n := by omega
 have k12 : k1 ≤ k2 := by omega
 rw [← hk2] at HPK
 clear hk2
 go_wp2_with (fail)
 refine (an_c s3 (M ++ num e) w.heap.size d (by omega) (by have := num_len2 (n := e) (by omega); simp; omega) u5 HB5.out.size HO5.out).mono ?_
 rintro q_ u6 ⟨s4, rfl, o6, b6⟩
 have HO6 := Lib.hid o6
 have HB6 := Lib.hid (HB5.out.trans b6)
 clear o6 b6 HO5 HB5
 obtain ⟨V5, s5', r5⟩ := cut2_c R2.out k1 k2 k12 (by rw [N2.out]; exact k2n) _ (rfl : (k2 : Int) = k2)
 obtain ⟨s5, u7, hr, ho, hb⟩ := app_c HO6.out (r5 _ (R2.out.below HB6.out)) HB6.out.size (by have := num_len2 (n := e) (by omega); have := num_len2 (n := d) (by omega); simp; omega)
 obtain ⟨a4, c4, rfl⟩ := HO6.out.slice
 obtain ⟨n4, hn4⟩ : ∃ q_, (M ++ num e ++ num d).length = q_ := ⟨_, rfl⟩
 rw [hn4] at hr ⊢
 clear hn4
 have RUN := Lib.hid hr
 have HO7 := Lib.hid ho
 have HB7 := Lib.hid (HB6.out.trans hb)
 clear hr ho hb r5 HO6 HB6
 go_wp2_with (at_builtin; refine wpList_append_run rfl _ _ _ (.slice a4 n4 c4) V5 _ rfl rfl rfl RUN.out ?_)
 go_wp2
 go_step3
 refine HG.out (n - k2) _ _ (by have := MK.out; have := K1.out; have := K2.out; have := HPK.out.2; omega) ?_
 exact ⟨k2, _, s5, _, _, _, _, _, _, _, _, _, _, _, _, _, _, _, _, _, _, _, _, _, _, _, _, _, _, _, _, _, _, _, _, _, _, _, _, _, _, _, _, _, _, _, _, _, rfl, k2n, by omega, HO7.out, HB7.out, HPK.out.1⟩
set_option maxHeartbeats 4000000 in
theorem pack_eq (v1 v2 : Value) (B C : List Nat) (hl : B.length = C.length) (hm : C.length ≤ 16000) (w : World) (h1 : Rd w v1 B) (h2 : Rd w v2 C) : Calls Try.prog 11 #[v1, v2] w (PackE B C w) := by
 have h1' := h1
 have h2' := h2
 obtain ⟨a1, n, c1, rfl, n1, hc1, hz1, by1, at1⟩ := h1.open
 obtain ⟨a2, n', c2, rfl, n2, hc2, hz2, by2, at2⟩ := h2.open
 obtain rfl : n = n' := by omega
 have PP := Lib.hid (pack_pass a1 a2 n c1 c2 B C n1 n2 (by omega) w h1' h2')
 have J0 := Lib.hid (fun (u8 u9 u10 u11 u12 u13 u14 u15 u16 u17 u18 u19 u20 u21 u22 u23 u24 u25 u26 u27 u28 u29 u30 u31 u32 u33 u34 u35 u36 u37 u38 u39 u40 u41 u42 u43 u44 u45 u46 u47 u48 u49 u50 u51 u52 : Value) => (⟨0, [], .slice none 0 0, u8, u9, u10, u11, u12, u13, u14, u15, u16, u17, u18, u19, u20, u21, u22, u23, u24, u25, u26, u27, u28, u29, u30, u31, u32, u33, u34, u35, u36, u37, u38, u39, u40, u41, u42, u43, u44, u45, u46, u47, u48, u49, u50, u51, u52, rfl, Nat.zero_le _, rfl, Ow.nil w _, Below.refl _ _, rfl⟩ : PJ a1 a2 n c1 c2 B C w n { tmps := #[.slice a1 n c1, .slice a2 n c2, undef, undef, .slice none 0 0, .int .i64 0, .slice none 0 0, .int .i64 (0 : Nat), u8, u9, u10, u11, u12, u13, u14, u15, u16, u17, u18, u19, u20, u21, u22, u23, u24, u25, u26, u27, u28, u29, u30, u31, u32, u33, u34, u35, u36, u37, u38, u39, u40, u41, u42, u43, u44, u45, u46, u47, u48, u49, u50, u51, u52], defers := [] } w))
 have hne : ((n : Int) != n) = false := by simp
 clear h1 h2 h1' h2' by1 by2 at1 at2 n1 n2 hl hm
 go_enter Try.func11, Try.ntmps11
 go_wp2
 refine wp_scope_jump 0 0 (PJ a1 a2 n c1 c2 B C w) (fun _ _ => False) rfl rfl ?_ ?_ (fun _ _ h => h.elim)
 ·intro Q' hq hg _
  go_wp2
  go_step3
  rename_i K hK
  refine hK _ _ (PP.out n _ _ (J0.out _ _ _ _ _ _ _ _ _ _ _ _ _ _ _ _ _ _ _ _ _ _ _ _ _ _ _ _ _ _ _ _ _ _ _ _ _ _ _ _ _ _ _ _ _) Q' hq (fun n' a' w' _ h => hg n' a' w' h))
 ·intro m a' w' hJ Q' hq hg _
  exact wp_seq (wp_skip (PP.out m a' w' hJ Q' hq hg))
theorem pack_c (v1 v2 : Value) (B C : List Nat) (hm : B.length ≤ 16000) (hm2 : C.length ≤ 16000) (w : World) (h1 : Rd w v1 B) (h2 : Rd w v2 C) : Calls Try.prog 11 #[v1, v2] w (PackE B C w) := by
 by_cases hl : B.length = C.length
 ·exact pack_eq v1 v2 B C hl hm2 w h1 h2
 ·exact pack_ne v1 v2 B C hl hm hm2 w h1 h2
end Go.Proofs.Ytklbhbappaibgaa
