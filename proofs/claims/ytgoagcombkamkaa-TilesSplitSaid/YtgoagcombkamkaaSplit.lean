/-
  The walk through TilesSplit: for every memory, view and line.
-/
import Derived.Test.YtgoagcombkamkaaSpl
import Derived.Deep.Cut
import Derived.BigQuiet
import Derived.WalkSmall
import Derived.Deep.LoopGhost
import Derived.Laws.StructEq
namespace Go.Proofs.Ytgoagcombkamkaa
open Go.ChangeShapes Go.WideShapes Go.ChangeAt Go.RowKit
set_option linter.unusedVariables false
set_option linter.unusedSimpArgs false
set_option maxRecDepth 100000
set_option maxHeartbeats 2000000 in
theorem split_long (c sx sy wx wy : Int) (c0 : 0 ≤ c) (c1 : c < 256) (sx0 : 0 ≤ sx) (sx1 : sx < 256) (sy0 : 0 ≤ sy) (sy1 : sy < 256) (wx0 : 0 ≤ wx) (wx1 : wx < 256) (wy0 : 0 ≤ wy) (wy1 : wy < 256) (a : Option Addr) (n cp : Nat) (line ow : Int) (line0 : 0 ≤ line) (line1 : line < 256) (ow0 : -9223372036854775808 ≤ ow) (ow1 : ow ≤ 9223372036854775807) (h : 3000 < n) (w : World) : Calls Try.prog 7 #[.slice a n cp, .agg #[.int .u8 c, .int .u8 sx, .int .u8 sy, .int .u8 wx, .int .u8 wy], .int .u8 line, .int .i64 ow] w fun q_ w' => q_ = .returned (.bool true) ∧ Below w.heap.size w w' := by
  suffices hall : ∀ (n_ : Nat) (W0 : World), n_ ≤ W0.heap.size → Below n_ W0 w → Calls Try.prog 7 #[.slice a n cp, .agg #[.int .u8 c, .int .u8 sx, .int .u8 sy, .int .u8 wx, .int .u8 wy], .int .u8 line, .int .i64 ow] w fun q_ w' => q_ = .returned (.bool true) ∧ Below n_ W0 w' from hall _ _ (Nat.le_refl _) (Below.refl _ _)
  intro n_ W0 hn hB
  have HN := Lib.hid hn
  have BB := Lib.hid hB
  clear hn hB
  have AW := Lib.hid awake_c
  have hnot : ∀ (x : Bool) (w : World), (Op.unary .not (.bool x)).run Try.prog w = .ok (.bool (!x)) w := fun _ _ => rfl
  have hI : (3000 : Int) < n := by omega
  go_enter Try.func7, Try.ntmps7
  have Q_ := own1 w (.cells #[.int .u8 c, .int .u8 sx, .int .u8 sy, .int .u8 wx, .int .u8 wy] 24)
  have B0 := Lib.hid (vian HN.out BB.out Q_)
  have P0 := Lib.hid (show Has (w.alloc (.cells #[.int .u8 c, .int .u8 sx, .int .u8 sy, .int .u8 wx, .int .u8 wy] 24)) w.heap.size #[.int .u8 c, .int .u8 sx, .int .u8 sy, .int .u8 wx, .int .u8 wy] by simpa using Has.new w #[.int .u8 c, .int .u8 sx, .int .u8 sy, .int .u8 wx, .int .u8 wy] 24)
  have LP := Lib.hid (show n_ ≤ w.heap.size + 0 from Nat.le_add_right_of_le (Nat.le_trans HN.out BB.out.size))
  simp only [Nat.add_zero] at LP
  clear Q_
  go_upto_region 1 with (fail)
  generalize (w.alloc (.cells #[.int .u8 c, .int .u8 sx, .int .u8 sy, .int .u8 wx, .int .u8 wy] 24)) = u0 at B0 P0 ⊢
  generalize w.heap.size = pb at P0 LP  ⊢
  go_wp2_with (fail)
  with_reducible refine (AW.out _).mono ?_
  rintro q_ u1 ⟨rfl, hb⟩
  have B1 := Lib.hid (vian HN.out B0.out hb)
  have P1 := Lib.hid (P0.out.below hb)
  clear hb B0 P0
  go_wp2_with (fail)
  with_reducible refine (AW.out _).mono ?_
  rintro q_ u2 ⟨rfl, hb⟩
  have B2 := Lib.hid (vian HN.out B1.out hb)
  have P2 := Lib.hid (P1.out.below hb)
  clear hb B1 P1
  go_wp2_with (fail)
  all_goals exact bodyPost_ret (v := .bool true) (by simp [results, Try.results7, go_sem]) rfl ⟨rfl, B2.out⟩
set_option maxHeartbeats 8000000 in
theorem split_short (c sx sy wx wy : Int) (c0 : 0 ≤ c) (c1 : c < 256) (sx0 : 0 ≤ sx) (sx1 : sx < 256) (sy0 : 0 ≤ sy) (sy1 : sy < 256) (wx0 : 0 ≤ wx) (wx1 : wx < 256) (wy0 : 0 ≤ wy) (wy1 : wy < 256) (a : Option Addr) (n cp : Nat) (F : M) (line ow : Int) (line0 : 0 ≤ line) (line1 : line < 256) (ow0 : -9223372036854775808 ≤ ow) (ow1 : ow ≤ 9223372036854775807) (h : n ≤ 3000) (w : World) (hM0 : Mem w (.slice a n cp) F) : Calls Try.prog 7 #[.slice a n cp, .agg #[.int .u8 c, .int .u8 sx, .int .u8 sy, .int .u8 wx, .int .u8 wy], .int .u8 line, .int .i64 ow] w fun q_ w' => q_ = .returned (.bool true) ∧ Below w.heap.size w w' := by
  suffices hall : ∀ (n_ : Nat) (W0 : World), n_ ≤ W0.heap.size → Below n_ W0 w → MemB n_ W0 (.slice a n cp) F → Calls Try.prog 7 #[.slice a n cp, .agg #[.int .u8 c, .int .u8 sx, .int .u8 sy, .int .u8 wx, .int .u8 wy], .int .u8 line, .int .i64 ow] w fun q_ w' => q_ = .returned (.bool true) ∧ Below n_ W0 w' from hall _ _ (Nat.le_refl _) (Below.refl _ _) hM0
  clear hM0
  intro n_ W0 hn hB hM0
  have HN := Lib.hid hn
  have BB := Lib.hid hB
  clear hn hB
  have HM0 := Lib.hid hM0
  clear hM0
  have AW := Lib.hid awake_c
  have hnot : ∀ (x : Bool) (w : World), (Op.unary .not (.bool x)).run Try.prog w = .ok (.bool (!x)) w := fun _ _ => rfl
  have hI : ¬ (3000 : Int) < n := by omega
  have hz34 : ∀ w : World, (zeroValue 34).run Try.prog w = .ok (.agg (enc zeroM)) w := zero34
  go_enter Try.func7, Try.ntmps7
  have Q_ := own1 w (.cells #[.int .u8 c, .int .u8 sx, .int .u8 sy, .int .u8 wx, .int .u8 wy] 24)
  have B0 := Lib.hid (vian HN.out BB.out Q_)
  have P0 := Lib.hid (show Has (w.alloc (.cells #[.int .u8 c, .int .u8 sx, .int .u8 sy, .int .u8 wx, .int .u8 wy] 24)) w.heap.size #[.int .u8 c, .int .u8 sx, .int .u8 sy, .int .u8 wx, .int .u8 wy] by simpa using Has.new w #[.int .u8 c, .int .u8 sx, .int .u8 sy, .int .u8 wx, .int .u8 wy] 24)
  have LP := Lib.hid (show n_ ≤ w.heap.size + 0 from Nat.le_add_right_of_le (Nat.le_trans HN.out BB.out.size))
  simp only [Nat.add_zero] at LP
  clear Q_
  go_upto_region 1 with (fail)
  generalize (w.alloc (.cells #[.int .u8 c, .int .u8 sx, .int .u8 sy, .int .u8 wx, .int .u8 wy] 24)) = u0 at B0 P0 ⊢
  generalize w.heap.size = pb at P0 LP  ⊢
  go_wp2_with (fail)
  with_reducible refine (AW.out _).mono ?_
  rintro q_ u1 ⟨rfl, hb⟩
  have B1 := Lib.hid (vian HN.out B0.out hb)
  have P1 := Lib.hid (P0.out.below hb)
  clear hb B0 P0
  obtain ⟨hc0, hf0⟩ := P1.out.out
  go_wp2_with (fail)
  clear hc0 hf0
  with_reducible refine (filled_m a n cp F _ (HM0.out.at HN.out B1.out)).mono ?_
  rintro q_ u2 ⟨sv, rfl, hm, hb⟩
  have hb3 := vian HN.out B1.out hb
  have hm0 := (HM0.out.at HN.out B1.out).at (Nat.le_refl _) hb
  have P2 := Lib.hid (P1.out.below hb)
  have QF := Lib.hid (show ∀ w', Below u2.heap.size u2 w' → Below n_ W0 w' from fun w' h => vian HN.out hb3 h)
  have ZN := Lib.hid (show n_ ≤ u2.heap.size from Nat.le_trans HN.out hb3.size)
  obtain ⟨n3, V3, hn3, b3, m0, m1, z3⟩ : ∃ (n3 : Nat) (V3 : World), n3 ≤ V3.heap.size ∧ Below n3 V3 u2 ∧ MemB n3 V3 (.slice a n cp) F ∧ MemB n3 V3 sv (filledV F n) ∧ (∀ w', Below n3 V3 w' → Below n_ W0 w') := ⟨u2.heap.size, u2, Nat.le_refl _, Below.refl _ _, hm0, hm, QF.out⟩
  have HN := Lib.hid hn3
  have B2 := Lib.hid b3
  have HM0 := Lib.hid m0
  have HM1 := Lib.hid m1
  have ZF := Lib.hid z3
  clear hm hb hb3 hm0 hn3 b3 m0 m1 z3 QF ZN B1 P1
  obtain ⟨G, hG⟩ : ∃ G, G = filledV F n := ⟨_, rfl⟩
  rw [← hG] at HM1
  clear hG
  obtain ⟨c2, hc2⟩ : ∃ q_, bits .andNot .u8 c 32 = q_ := ⟨_, rfl⟩
  obtain ⟨c3, hc3⟩ : ∃ q_, bits .andNot .u8 c 1 = q_ := ⟨_, rfl⟩
  obtain ⟨c20, c21⟩ := nd32 c c0 c1
  obtain ⟨c30, c31⟩ := nd1 c c0 c1
  rw [hc2] at c20 c21
  rw [hc3] at c30 c31
  have L1 := Lib.hid (fun W h => line_c c sx sy wx wy c0 c1 sx0 sx1 sy0 sy1 wx0 wx1 wy0 wy1 sv G line ow (by omega) (by omega) ow0 ow1 W h)
  have L2 := Lib.hid (fun W h => line_c c2 sx sy wx wy c20 c21 sx0 sx1 sy0 sy1 wx0 wx1 wy0 wy1 sv G line ow (by omega) (by omega) ow0 ow1 W h)
  have L3 := Lib.hid (fun W h => line_c c3 sx sy wx wy c30 c31 sx0 sx1 sy0 sy1 wx0 wx1 wy0 wy1 sv G line ow (by omega) (by omega) ow0 ow1 W h)
  have s2 := seen_off c wx wy line c0 c1
  have s3 := seen_dark c wx wy line c0 c1
  have d3 := line_off G c sx sy wx wy line ow c0 c1
  have HA := Lib.hid (split_back G c sx sy wx wy line ow c0 c1)
  have HW := Lib.hid (split_win G c sx sy wx wy line ow)
  have MB := Lib.hid (lineE_bd G c sx sy wx wy line ow)
  rw [hc2] at s2 HA
  rw [hc3] at s3 d3
  rw [s2] at L2
  rw [s3, d3] at L3
  obtain ⟨m, hm⟩ : ∃ q_, q_ = lineE G c sx sy wx wy line ow := ⟨_, rfl⟩
  obtain ⟨m2, hm2⟩ : ∃ q_, q_ = lineE G c2 sx sy wx wy line ow := ⟨_, rfl⟩
  obtain ⟨v, hv⟩ : ∃ q_, q_ = seenV c wx wy line := ⟨_, rfl⟩
  rw [← hm] at L1 HA HW MB
  rw [← hm2] at L2 HA
  rw [← hv] at L1 HA HW
  have SW := Lib.hid (fun W (z : Int) (z0 : -300 < z) (z1 : z < 300) h => win_c c sx sy wx wy c0 c1 sx0 sx1 sy0 sy1 wx0 wx1 wy0 wy1 sv G z ow (by omega) (by omega) ow0 ow1 W h)
  clear hm hm2 hv s2 s3 d3
  have Q_ := own1 u2 (.cells #[.int .u8 c, .int .u8 sx, .int .u8 sy, .int .u8 wx, .int .u8 wy] 26)
  have B3 := Lib.hid (vian HN.out B2.out Q_)
  have P3 := Lib.hid (P2.out.below Q_)
  have Q3 := Lib.hid (Has.new u2 #[.int .u8 c, .int .u8 sx, .int .u8 sy, .int .u8 wx, .int .u8 wy] 26)
  have LQ := Lib.hid (Nat.le_trans HN.out B2.out.size)
  have NPQ := Lib.hid (Nat.ne_of_lt P2.out.1)
  clear Q_
  obtain ⟨hc0, hf0⟩ := P2.out.out
  go_upto_region 5 with (fail)
  clear hc0 hf0
  generalize u2.alloc (.cells #[.int .u8 c, .int .u8 sx, .int .u8 sy, .int .u8 wx, .int .u8 wy] 26) = u3 at B3 P3 Q3 ⊢
  generalize u2.heap.size = qb at Q3 LQ NPQ ⊢
  clear B2 P2
  clear P3
  obtain ⟨hc0, hf0⟩ := Q3.out.out
  go_wp2_with (fail)
  clear hc0 hf0
  with_reducible refine (L1.out _ (HM1.out.at HN.out B3.out)).mono ?_
  rintro q_ u4 ⟨rfl, hb⟩
  have B4 := Lib.hid (vian HN.out B3.out hb)
  have Q4 := Lib.hid (Q3.out.below hb)
  clear hb B3 Q3
  go_wp2_with (refine store_b (Has.new u4 (enc zeroM) 34) (m) rfl _ _ rfl rfl rfl ?_)
  intro u5 hP hk
  have B5 := Lib.hid (keep_new HN.out B4.out _ hk)
  have LE := Lib.hid (Nat.le_trans HN.out B4.out.size)
  have NQE := Lib.hid (Nat.ne_of_lt Q4.out.1)
  have Q5 := Lib.hid (hk.has NQE.out (Q4.out.below (own1 _ _)))
  have E5 := Lib.hid hP
  generalize u4.heap.size = eb at LE E5 NQE ⊢
  clear hk hP B4 Q4
  try simp only [Act.put, List.setIfInBounds_toArray, List.set_cons_zero, List.set_cons_succ]
  have Q_ := own1 u5 (.cells #[.int .u8 c, .int .u8 sx, .int .u8 sy, .int .u8 wx, .int .u8 wy] 26)
  have B6 := Lib.hid (vian HN.out B5.out Q_)
  have Q6 := Lib.hid (Q5.out.below Q_)
  have E6 := Lib.hid (E5.out.below Q_)
  have A6 := Lib.hid (Has.new u5 #[.int .u8 c, .int .u8 sx, .int .u8 sy, .int .u8 wx, .int .u8 wy] 26)
  have LA := Lib.hid (Nat.le_trans HN.out B5.out.size)
  have NQA := Lib.hid (Nat.ne_of_lt Q5.out.1)
  have NEA := Lib.hid (Nat.ne_of_lt E5.out.1)
  clear Q_
  obtain ⟨hc0, hf0⟩ := Q5.out.out
  go_upto_region 8 with (fail)
  clear hc0 hf0
  generalize u5.alloc (.cells #[.int .u8 c, .int .u8 sx, .int .u8 sy, .int .u8 wx, .int .u8 wy] 26) = u6 at B6 Q6 E6 A6 ⊢
  generalize u5.heap.size = ab at A6 LA NQA NEA ⊢
  clear B5 Q5 E5
  obtain ⟨hc0, hf0⟩ := A6.out.out
  go_wp2_with (refine store_c A6.out rfl _ _ rfl 0 rfl _ _ rfl rfl #[.int .u8 c2, .int .u8 sx, .int .u8 sy, .int .u8 wx, .int .u8 wy] rfl ?_)
  intro u7 hP hk
  clear hc0 hf0
  have A7 := Lib.hid hP
  have B7 := Lib.hid (hk.below HN.out LA.out B6.out)
  have Q7 := Lib.hid (hk.has NQA.out Q6.out)
  have E7 := Lib.hid (hk.has NEA.out E6.out)
  clear hP hk B6 Q6 E6 A6
  try simp only [Act.put]
  obtain ⟨hc0, hf0⟩ := A7.out.out
  go_wp2_with (fail)
  clear hc0 hf0
  with_reducible refine (L2.out _ (HM1.out.at HN.out B7.out)).mono ?_
  rintro q_ u8 ⟨rfl, hb⟩
  have B8 := Lib.hid (vian HN.out B7.out hb)
  have Q8 := Lib.hid (Q7.out.below hb)
  have E8 := Lib.hid (E7.out.below hb)
  have A8 := Lib.hid (A7.out.below hb)
  clear hb B7 Q7 E7 A7
  go_wp2_with (refine store_b (Has.new u8 (enc zeroM) 34) (m2) rfl _ _ rfl rfl rfl ?_)
  intro u9 hP hk
  have B9 := Lib.hid (keep_new HN.out B8.out _ hk)
  have LR := Lib.hid (Nat.le_trans HN.out B8.out.size)
  have NQR := Lib.hid (Nat.ne_of_lt Q8.out.1)
  have Q9 := Lib.hid (hk.has NQR.out (Q8.out.below (own1 _ _)))
  have NER := Lib.hid (Nat.ne_of_lt E8.out.1)
  have E9 := Lib.hid (hk.has NER.out (E8.out.below (own1 _ _)))
  have NAR := Lib.hid (Nat.ne_of_lt A8.out.1)
  have A9 := Lib.hid (hk.has NAR.out (A8.out.below (own1 _ _)))
  have R9 := Lib.hid hP
  generalize u8.heap.size = rb at LR R9 NQR NER NAR ⊢
  clear hk hP B8 Q8 E8 A8
  try simp only [Act.put, List.setIfInBounds_toArray, List.set_cons_zero, List.set_cons_succ]
  clear A9
  have Q_ := own1 u9 (.cells #[.int .u8 c, .int .u8 sx, .int .u8 sy, .int .u8 wx, .int .u8 wy] 26)
  have B10 := Lib.hid (vian HN.out B9.out Q_)
  have Q10 := Lib.hid (Q9.out.below Q_)
  have E10 := Lib.hid (E9.out.below Q_)
  have R10 := Lib.hid (R9.out.below Q_)
  have C10 := Lib.hid (Has.new u9 #[.int .u8 c, .int .u8 sx, .int .u8 sy, .int .u8 wx, .int .u8 wy] 26)
  have LC := Lib.hid (Nat.le_trans HN.out B9.out.size)
  have NQC := Lib.hid (Nat.ne_of_lt Q9.out.1)
  have NEC := Lib.hid (Nat.ne_of_lt E9.out.1)
  have NRC := Lib.hid (Nat.ne_of_lt R9.out.1)
  clear Q_
  obtain ⟨hc0, hf0⟩ := Q9.out.out
  go_upto_region 11 with (fail)
  clear hc0 hf0
  generalize u9.alloc (.cells #[.int .u8 c, .int .u8 sx, .int .u8 sy, .int .u8 wx, .int .u8 wy] 26) = u10 at B10 Q10 E10 R10 C10 ⊢
  generalize u9.heap.size = cb at C10 LC NQC NEC NRC ⊢
  clear B9 Q9 E9 R9
  obtain ⟨hc0, hf0⟩ := C10.out.out
  go_wp2_with (refine store_c C10.out rfl _ _ rfl 0 rfl _ _ rfl rfl #[.int .u8 c3, .int .u8 sx, .int .u8 sy, .int .u8 wx, .int .u8 wy] rfl ?_)
  intro u11 hP hk
  clear hc0 hf0
  have C11 := Lib.hid hP
  have B11 := Lib.hid (hk.below HN.out LC.out B10.out)
  have Q11 := Lib.hid (hk.has NQC.out Q10.out)
  have E11 := Lib.hid (hk.has NEC.out E10.out)
  have R11 := Lib.hid (hk.has NRC.out R10.out)
  clear hP hk B10 Q10 E10 R10 C10
  try simp only [Act.put]
  obtain ⟨hc0, hf0⟩ := C11.out.out
  go_wp2_with (fail)
  clear hc0 hf0
  with_reducible refine (L3.out _ (HM1.out.at HN.out B11.out)).mono ?_
  rintro q_ u12 ⟨rfl, hb⟩
  have B12 := Lib.hid (vian HN.out B11.out hb)
  have Q12 := Lib.hid (Q11.out.below hb)
  have E12 := Lib.hid (E11.out.below hb)
  have R12 := Lib.hid (R11.out.below hb)
  have C12 := Lib.hid (C11.out.below hb)
  clear hb B11 Q11 E11 R11 C11
  go_wp2_with (refine store_b (Has.new u12 (enc zeroM) 34) (zeroM) rfl _ _ rfl rfl rfl ?_)
  intro u13 hP hk
  have B13 := Lib.hid (keep_new HN.out B12.out _ hk)
  have LD := Lib.hid (Nat.le_trans HN.out B12.out.size)
  have NQD := Lib.hid (Nat.ne_of_lt Q12.out.1)
  have Q13 := Lib.hid (hk.has NQD.out (Q12.out.below (own1 _ _)))
  have NED := Lib.hid (Nat.ne_of_lt E12.out.1)
  have E13 := Lib.hid (hk.has NED.out (E12.out.below (own1 _ _)))
  have NRD := Lib.hid (Nat.ne_of_lt R12.out.1)
  have R13 := Lib.hid (hk.has NRD.out (R12.out.below (own1 _ _)))
  have NCD := Lib.hid (Nat.ne_of_lt C12.out.1)
  have C13 := Lib.hid (hk.has NCD.out (C12.out.below (own1 _ _)))
  have D13 := Lib.hid hP
  generalize u12.heap.size = db at LD D13 NQD NED NRD NCD ⊢
  clear hk hP B12 Q12 E12 R12 C12
  try simp only [Act.put, List.setIfInBounds_toArray, List.set_cons_zero, List.set_cons_succ]
  clear C13
  have hgd : Try.prog.eqGuardType Try.prog.depth 34 = false := by kernel_rfl
  have heq := eq_line zeroM
  go_upto_region 15 with (refine load_bg D13.out (by rfl) _ rfl rfl ?_; simp only [Act.put, List.setIfInBounds_toArray, List.set_cons_zero, List.set_cons_succ])
  clear hgd heq
  clear D13
  go_wp2_with (fail)
  go_loopg [75] 160 (fun g' i w5 => ∃ (t : Nat), t ≤ 160 ∧ g' + t = 160 ∧ i = .int .i64 t ∧ Below n3 V3 w5 ∧ Has w5 qb #[.int .u8 c, .int .u8 sx, .int .u8 sy, .int .u8 wx, .int .u8 wy] ∧ Has w5 eb (enc m) ∧ Has w5 rb (enc m2))
  case atStart => exact ⟨0, by omega, by omega, rfl, B13.out, Q13.out, E13.out, R13.out⟩
  case round =>
    obtain ⟨u20, hw5⟩ : ∃ q_, q_ = wr := ⟨_, rfl⟩
    subst hw5
    obtain ⟨t, ht, hg, rfl, hB, hQ, hE, hR⟩ := hrel
    have TG := Lib.hid hg
    have B20 := Lib.hid hB
    have Q20 := Lib.hid hQ
    have E20 := Lib.hid hE
    have R20 := Lib.hid hR
    clear hg hB hQ hE hR B13 Q13 E13 R13
    by_cases hlt : t < 160
    · skip
      have l1 : (t : Int) < 160 := by omega
      have l0 : (0 : Int) ≤ t := by omega
      have zb := MB.out t
      have e1 := enc_get m t hlt
      have e2 := enc_get m2 t hlt
      cases v
      · skip
        have ez := HA.out t hlt (Or.inl (by first | rfl | trivial))
        rw [← ez] at e2
        clear ez
        obtain ⟨z, hz⟩ : ∃ q_, q_ = m t := ⟨_, rfl⟩
        rw [← hz] at e1 e2 zb
        clear hz
        obtain ⟨hc0, hf0⟩ := Q20.out.out
        obtain ⟨hc1, hf1⟩ := E20.out.out
        obtain ⟨hc2, hf2⟩ := R20.out.out
        go_upto_region 20 with (fail)
        go_quiet (fail)
        go_wp2_with (fail)
        clear hc0 hf0 hc1 hf1 hc2 hf2
        have B21 := Lib.hid (below_drewN B20.out nq)
        have Q21 := Lib.hid (Q20.out.drewN nq)
        have E21 := Lib.hid (E20.out.drewN nq)
        have R21 := Lib.hid (R20.out.drewN nq)
        go_roundg (160 - (t + 1))
        case measure => have := TG.out; omega
        case rel => exact ⟨t + 1, by omega, by have := TG.out; omega, by simp, B21.out, Q21.out, E21.out, R21.out⟩
      · skip
        by_cases h2 : 0 ≤ (t : Int) + 7 - wx
        · skip
          have ez := HW.out t hlt (by first | rfl | trivial) h2
          clear e2
          have SC := Lib.hid (fun W h => SW.out W ((t : Int) + 7 - wx) (by omega) (by omega) h)
          rw [← ez] at SC
          clear ez
          obtain ⟨z, hz⟩ : ∃ q_, q_ = m t := ⟨_, rfl⟩
          rw [← hz] at e1 SC zb
          clear hz
          obtain ⟨hc0, hf0⟩ := Q20.out.out
          go_upto_region 22 with (fail)
          clear hc0 hf0
          have B21 := Lib.hid B20.out.drew
          have Q21 := Lib.hid Q20.out.drew
          have E21 := Lib.hid E20.out.drew
          have R21 := Lib.hid R20.out.drew
          clear B20 Q20 E20 R20
          refine wp_region_held_drew (S := (fun w' => (∀ o, w'.cell? ⟨qb, o, none⟩ = (#[.int .u8 c, .int .u8 sx, .int .u8 sy, .int .u8 wx, .int .u8 wy])[o]?) ∧ w'.cell? ⟨eb, t, none⟩ = some (.int .u8 z))) (by kernel_rfl) ⟨Q21.out.2.1, (E21.out.2.1 t).trans e1⟩ (fun hHeld => ?_)
          generalize World.drew _ = u21 at hHeld B21 Q21 E21 R21 ⊢
          refine wpAnyH_take (i := 0) (oi := { dst := some 97, op := Go.Op.move (Go.Operand.tmp 20), type := 3, pos := "law.go:85", after := #[], guard := none }) (v := ?v1) rfl (by kernel_rfl) (by kernel_rfl) (by kernel_rfl) (fun _ _ _ h => h) (Or.inl ⟨by rfl, ?y1⟩) (by assumption) ?z1
          case y1 => (intro w hSw; (try dsimp only at hSw); go_simp) <;> with_reducible rfl
          try simp only [Act.put, List.setIfInBounds_toArray, List.set_cons_zero, List.set_cons_succ]
          refine wpAnyH_take (i := 1) (oi := { dst := some 98, op := Go.Op.indexAddr 34 (Go.Operand.tmp 12) (Go.Operand.tmp 97), type := 0, pos := "law.go:85", after := #[{ on := 0, ground := Go.Ground.data }], guard := none }) (v := ?v2) rfl (by kernel_rfl) (by kernel_rfl) (by kernel_rfl) (fun _ _ _ h => h) (Or.inl ⟨by rfl, ?y2⟩) (by assumption) ?z2
          case y2 => (intro w hSw; (try dsimp only at hSw); go_simp) <;> with_reducible rfl
          try simp only [Act.put, List.setIfInBounds_toArray, List.set_cons_zero, List.set_cons_succ]
          refine wpAnyH_take (i := 2) (oi := { dst := some 99, op := Go.Op.load 5 (Go.Operand.tmp 98), type := 5, pos := "law.go:85", after := #[{ on := 1, ground := Go.Ground.data }], guard := none }) (v := ?v3) rfl (by kernel_rfl) (by kernel_rfl) (by kernel_rfl) (fun _ _ _ h => h) (Or.inl ⟨by rfl, ?y3⟩) (by assumption) ?z3
          case y3 => (intro w hSw; (try dsimp only at hSw); go_simp) <;> with_reducible rfl
          try simp only [Act.put, List.setIfInBounds_toArray, List.set_cons_zero, List.set_cons_succ]
          refine wpAnyH_take (i := 3) (oi := { dst := some 100, op := Go.Op.load 26 (Go.Operand.tmp 10), type := 26, pos := "law.go:85", after := #[], guard := none }) (v := ?v4) rfl (by kernel_rfl) (by kernel_rfl) (by kernel_rfl) (fun _ _ _ h => h) (Or.inl ⟨by rfl, ?y4⟩) (by assumption) ?z4
          case y4 => (intro w hSw; (try dsimp only at hSw); go_simp) <;> with_reducible rfl
          try simp only [Act.put, List.setIfInBounds_toArray, List.set_cons_zero, List.set_cons_succ]
          refine wpAnyH_take (i := 4) (oi := { dst := some 101, op := Go.Op.move (Go.Operand.tmp 9), type := 22, pos := "law.go:85", after := #[], guard := none }) (v := ?v5) rfl (by kernel_rfl) (by kernel_rfl) (by kernel_rfl) (fun _ _ _ h => h) (Or.inl ⟨by rfl, ?y5⟩) (by assumption) ?z5
          case y5 => (intro w hSw; (try dsimp only at hSw); go_simp) <;> with_reducible rfl
          try simp only [Act.put, List.setIfInBounds_toArray, List.set_cons_zero, List.set_cons_succ]
          refine wpAnyH_take (i := 5) (oi := { dst := some 102, op := Go.Op.move (Go.Operand.tmp 21), type := 3, pos := "law.go:85", after := #[], guard := none }) (v := ?v6) rfl (by kernel_rfl) (by kernel_rfl) (by kernel_rfl) (fun _ _ _ h => h) (Or.inl ⟨by rfl, ?y6⟩) (by assumption) ?z6
          case y6 => (intro w hSw; (try dsimp only at hSw); go_simp) <;> with_reducible rfl
          try simp only [Act.put, List.setIfInBounds_toArray, List.set_cons_zero, List.set_cons_succ]
          refine wpAnyH_take (i := 6) (oi := { dst := some 103, op := Go.Op.move (Go.Operand.tmp 3), type := 3, pos := "law.go:85", after := #[], guard := none }) (v := ?v7) rfl (by kernel_rfl) (by kernel_rfl) (by kernel_rfl) (fun _ _ _ h => h) (Or.inl ⟨by rfl, ?y7⟩) (by assumption) ?z7
          case y7 => (intro w hSw; (try dsimp only at hSw); go_simp) <;> with_reducible rfl
          try simp only [Act.put, List.setIfInBounds_toArray, List.set_cons_zero, List.set_cons_succ]
          refine wpAnyH_ready (rs := [7]) (by kernel_rfl) (by simp) ?_
          refine (AllReadyH.cons (o := { dst := some 104, op := Go.Op.call { callee := Go.Callee.value (Go.Operand.func 19), args := #[Go.Operand.tmp 100, Go.Operand.tmp 101, Go.Operand.tmp 102, Go.Operand.tmp 103], argTypes := #[26, 22, 3, 3] }, type := 5, pos := "law.go:85", after := #[{ on := 3, ground := Go.Ground.data }, { on := 4, ground := Go.Ground.data }, { on := 5, ground := Go.Ground.data }, { on := 6, ground := Go.Ground.data }], guard := none }) rfl (fun K hK => ?_) AllReadyH.nil)
          · skip
            go_simp
            with_reducible refine (SC.out _ (HM1.out.at HN.out B21.out)).mono ?_
            rintro q_ u22 ⟨rfl, hb⟩
            have B22 := Lib.hid (vian HN.out B21.out hb)
            have Q22 := Lib.hid (Q21.out.below hb)
            have E22 := Lib.hid (E21.out.below hb)
            have R22 := Lib.hid (R21.out.below hb)
            clear hb
            clear B21 Q21 E21 R21
            refine hK.out _ _ ?s8 (fun hNew => ?r8)
            case s8 => exact ⟨Q22.out.2.1, (E22.out.2.1 t).trans e1⟩
            clear hK K hHeld
            have hHeld := hNew
            clear hNew
            refine wpAnyH_take (i := 8) (oi := { dst := some 105, op := Go.Op.binOp Go.BinOp.neq 5 (Go.Operand.tmp 99) (Go.Operand.tmp 104) 5, type := 4, pos := "law.go:85", after := #[{ on := 2, ground := Go.Ground.data }, { on := 7, ground := Go.Ground.data }], guard := none }) (v := ?v9) rfl (by kernel_rfl) (by kernel_rfl) (by kernel_rfl) (fun _ _ _ h => h) (Or.inl ⟨by rfl, ?y9⟩) (by assumption) ?z9
            case y9 => (intro w hSw; (try dsimp only at hSw); go_simp) <;> with_reducible rfl
            try simp only [Act.put, List.setIfInBounds_toArray, List.set_cons_zero, List.set_cons_succ]
            refine wpAnyH_done (by kernel_rfl) ?_ _
            clear hHeld
            go_wp2_with (fail)
            go_roundg (160 - (t + 1))
            case measure => have := TG.out; omega
            case rel => exact ⟨t + 1, by omega, by have := TG.out; omega, by simp, B22.out, Q22.out, E22.out, R22.out⟩
        · skip
          have ez := HA.out t hlt (Or.inr (by omega))
          rw [← ez] at e2
          clear ez
          obtain ⟨z, hz⟩ : ∃ q_, q_ = m t := ⟨_, rfl⟩
          rw [← hz] at e1 e2 zb
          clear hz
          obtain ⟨hc0, hf0⟩ := Q20.out.out
          obtain ⟨hc1, hf1⟩ := E20.out.out
          obtain ⟨hc2, hf2⟩ := R20.out.out
          go_upto_region 20 with (fail)
          go_quiet (fail)
          go_wp2_with (fail)
          clear hc0 hf0 hc1 hf1 hc2 hf2
          have B21 := Lib.hid (below_drewN B20.out nq)
          have Q21 := Lib.hid (Q20.out.drewN nq)
          have E21 := Lib.hid (E20.out.drewN nq)
          have R21 := Lib.hid (R20.out.drewN nq)
          go_roundg (160 - (t + 1))
          case measure => have := TG.out; omega
          case rel => exact ⟨t + 1, by omega, by have := TG.out; omega, by simp, B21.out, Q21.out, E21.out, R21.out⟩
    · skip
      have te : t = 160 := by omega
      subst te
      have l1 : ¬ ((160 : Nat) : Int) < 160 := by omega
      go_wp2_with (fail)
      all_goals exact bodyPost_ret (v := .bool true) (by simp [results, Try.results7, go_sem]) rfl ⟨rfl, ZF.out _ B20.out⟩
theorem split_walk (c sx sy wx wy : Int) (c0 : 0 ≤ c) (c1 : c < 256) (sx0 : 0 ≤ sx) (sx1 : sx < 256) (sy0 : 0 ≤ sy) (sy1 : sy < 256) (wx0 : 0 ≤ wx) (wx1 : wx < 256) (wy0 : 0 ≤ wy) (wy1 : wy < 256) (b : Value) (line ow : Int) (line0 : 0 ≤ line) (line1 : line < 256) (ow0 : -9223372036854775808 ≤ ow) (ow1 : ow ≤ 9223372036854775807) (w : World) (hin : MemIn w b) : Calls Try.prog 7 #[b, .agg #[.int .u8 c, .int .u8 sx, .int .u8 sy, .int .u8 wx, .int .u8 wy], .int .u8 line, .int .i64 ow] w fun q_ w' => q_ = .returned (.bool true) ∧ Below w.heap.size w w' := by
  obtain ⟨a, n, cp, rfl, h1, h2⟩ := hin
  by_cases h : 3000 < n
  · exact split_long c sx sy wx wy c0 c1 sx0 sx1 sy0 sy1 wx0 wx1 wy0 wy1 a n cp line ow line0 line1 ow0 ow1 h w
  · obtain ⟨F, hF⟩ := h2 (by omega)
    exact split_short c sx sy wx wy c0 c1 sx0 sx1 sy0 sy1 wx0 wx1 wy0 wy1 a n cp F line ow line0 line1 ow0 ow1 (by omega) w hF
end Go.Proofs.Ytgoagcombkamkaa
