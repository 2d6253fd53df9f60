/-
  Proved: for every input the law PpuBytes returns true (Rows.PpuBytesSaid), with no condition.
-/
import Derived.Test.YtpfbodmadmneiaaXb
import Derived.Deep.Cut
import Derived.BigQuiet
import Derived.WalkSmall
import Derived.Deep.LoopGhost
import Derived.Deep.DeepCutAuto
import Derived.Deep.CutBlock
import Derived.Laws.StructEq
namespace Go.Proofs.Ytpfbodmadmneiaa
open Go.ChangeShapes Go.WideShapes Go.ChangeAt Go.RowKit
set_option linter.unusedVariables false
set_option linter.unusedSimpArgs false
set_option maxRecDepth 100000
/-- A byte is stored into a slice. -/
theorem st_row {ops : Array Oper} {rest : List Oper} {op : Oper} {a : Act} {w : World} {Q : Exit → Act → World → Prop} {n c g : Nat} {f : M} (h : RowB w (.slice (some ⟨g, 0, none⟩) n c) n f g)
  (hgd : op.guard = none) (x y : Operand) (ho : op.op = .store 5 x y) (k : Nat) (hk : k < n) (hx : a.eval x = .pointer (some ⟨g, k, none⟩)) (z : Int) (hy : a.eval y = .int .u8 z)
  (hK : ∀ w', RowB w' (.slice (some ⟨g, 0, none⟩) n c) n (upd f k z) g → Keeps g w w' → wpList Try.prog ops Q rest (a.put op.dst undef) w') : wpList Try.prog ops Q (op :: rest) a w := by
 obtain ⟨c', e, hle, hg, hc, hf⟩ := h
 injection e with e1 e2 e3
 subst e3
 have hs : (storeVar 5 ⟨g, k, none⟩ (.int .u8 z)).run Try.prog w = .ok () (w.setCell ⟨g, k, none⟩ (.int .u8 z)) := by
  have h1 := hc k hk
  have h2 := hf k
  simp [go_sem, h1, h2]
 refine wpList_plain hgd fun _ hKK => ?_
 unfold Oper.wp execOp
 simp only [ho, hx, hy, Instr.storeAt, Instr.sureAddr, Sem.run_bind, Sem.run_pure, Result.andThen_ok, hs]
 refine hKK _ _ (hK _ ⟨c, rfl, hle, by simpa using hg, fun j hj => ?_, fun j => ?_⟩ ((Keeps.refl g w).setCell k _))
 ·by_cases e : k = j
  ·subst e
   rw [World.cell?_setCell_same w _ _ (u := .int .u8 (f k)) (hc k hk), upd_same]
  ·rw [World.cell?_setCell_other w _ _ _ (by intro h; injection h; contradiction), upd_ne _ _ _ _ (Ne.symm e)]
   exact hc j hj
 ·simpa [go_sem] using hf j
theorem an1w (a : Int) (h0 : 0 ≤ a) (h1 : a < 65536) : bits .and .u16 a 1 = a % 2 := by
 have key : (BitVec.ofInt 16 a &&& BitVec.ofInt 16 1).toNat = (a % ((2 ^ 16 : Nat) : Int)).toNat % 2 ^ 1 := by
  rw [BitVec.toNat_and, BitVec.toNat_ofInt, show (BitVec.ofInt 16 1).toNat = 2 ^ 1 - 1 by decide, Nat.and_two_pow_sub_one_eq_mod]
 show IntKind.u16.wrap ((BitVec.ofInt 16 a &&& BitVec.ofInt 16 1).toNat : Nat) = a % 2
 rw [key, IntKind.wrap_u16]
 omega
theorem own_mt (w : World) (base : Nat) (hb : base ≤ w.heap.size) (f : M) : OwnB (w.alloc (.cells #[] 5)) base (.slice (some ⟨w.heap.size, 0, none⟩) 0 0) 0 f :=
 ⟨by rw [bl_len], Or.inr ⟨w.heap.size, 0, #[], rfl, hb, (by show (w.heap.push _)[w.heap.size]? = _; simp), Nat.le_refl _, by decide, rfl, by rw [bl0]; rfl⟩⟩
set_option maxHeartbeats 16000000 in
theorem byw_many (n_ : Nat) (W0 : World) (hn : n_ ≤ W0.heap.size) (vv : Value) (n : Nat) (O : Nat → OpV) (hV : OpsB n_ W0 vv n O) (a x cut : Int) (a0 : 0 ≤ a) (a1 : a < 65536) (x0 : 0 ≤ x) (x1 : x < 256) (hf : fewV n O = false) (w : World) (hB : Below n_ W0 w) : Calls Try.prog 5 #[vv, .int .u16 a, .int .u8 x, .int .i64 cut] w fun q_ w' => q_ = .returned (.bool true) ∧ Below n_ W0 w' := by
 have HN := Lib.hid hn
 have HV := Lib.hid hV
 obtain ⟨u0, hu0⟩ : ∃ u0, u0 = w := ⟨_, rfl⟩
 rw [← hu0] at hB ⊢
 have B0 := Lib.hid hB
 clear hn hV hB hu0
 have AW := Lib.hid awake_c
 have HF := Lib.hid hf
 clear hf
 have hnot : ∀ (x : Bool) (w : World), (Op.unary .not (.bool x)).run Try.prog w = .ok (.bool (!x)) w := fun _ _ => rfl
 go_enter Try.func5, Try.ntmps5
 go_wp2_with (fail)
 with_reducible refine (AW.out _).mono ?_
 rintro q_ u1 ⟨rfl, hb⟩
 have B1 := Lib.hid (vian HN.out B0.out hb)
 clear hb B0
 go_wp2_with (fail)
 with_reducible refine (few_c n_ W0 vv n O HV.out false HF.out _ B1.out).mono ?_
 rintro q_ w' ⟨rfl, rfl⟩
 go_wp2_with (fail)
 with_reducible refine (AW.out _).mono ?_
 rintro q_ u2 ⟨rfl, hb⟩
 have B2 := Lib.hid (vian HN.out B1.out hb)
 clear hb B1
 go_wp2
 all_goals exact bodyPost_ret (v := .bool true) (by simp [results, Try.results5, go_sem]) rfl ⟨rfl, B2.out⟩
/-- The ways through the switch, as the tests tell them. -/
def waysT (k x : Int) : Prop := ((k == 8353) = true ∧ (bits .andNot .u8 x 120 == 0) = true) ∨ ((k == 8353) = false ∧ (k == 8356) = true ∧ x < 154) ∨ ((k == 8353) = false ∧ (k == 8356) = false ∧ (k == 8363) = true ∧ x < 114) ∨
 ((k == 8353) = false ∧ (k == 8356) = false ∧ (k == 8363) = false ∧ (k == 8367) = true ∧ x < 2) ∨ ((k == 8353) = false ∧ (k == 8356) = false ∧ (k == 8363) = false ∧ (k == 8367) = false ∧ 8367 < k ∧ x < 4) ∨
 ((k == 8353) = false ∧ (k == 8356) = false ∧ (k == 8363) = false ∧ (k == 8367) = false ∧ ¬ 8367 < k)
def waysF (k x : Int) : Prop := ((k == 8353) = true ∧ (bits .andNot .u8 x 120 == 0) = false) ∨ ((k == 8353) = false ∧ (k == 8356) = true ∧ ¬ x < 154) ∨ ((k == 8353) = false ∧ (k == 8356) = false ∧ (k == 8363) = true ∧ ¬ x < 114) ∨
 ((k == 8353) = false ∧ (k == 8356) = false ∧ (k == 8363) = false ∧ (k == 8367) = true ∧ ¬ x < 2) ∨ ((k == 8353) = false ∧ (k == 8356) = false ∧ (k == 8363) = false ∧ (k == 8367) = false ∧ 8367 < k ∧ ¬ x < 4)
theorem ways_t {k : Nat} {x : Int} (h : rgt k x) : waysT k x := by
 have e1 : ∀ n : Nat, ¬ k = n → ((k : Int) == n) = false := fun n h => by simp; omega
 have e2 : ∀ n : Nat, k = n → ((k : Int) == n) = true := fun n h => by simp; omega
 unfold waysT
 rcases h with h | h | h | h | h | h
 ·exact Or.inl ⟨e2 8353 h.1, by simp [h.2]⟩
 ·exact Or.inr (Or.inl ⟨e1 8353 (by omega), e2 8356 h.1, h.2⟩)
 ·exact Or.inr (Or.inr (Or.inl ⟨e1 8353 (by omega), e1 8356 (by omega), e2 8363 h.1, h.2⟩))
 ·exact Or.inr (Or.inr (Or.inr (Or.inl ⟨e1 8353 (by omega), e1 8356 (by omega), e1 8363 (by omega), e2 8367 h.1, h.2⟩)))
 ·exact Or.inr (Or.inr (Or.inr (Or.inr (Or.inl ⟨e1 8353 (by omega), e1 8356 (by omega), e1 8363 (by omega), e1 8367 (by omega), by omega, h.2⟩))))
 ·exact Or.inr (Or.inr (Or.inr (Or.inr (Or.inr ⟨e1 8353 (by omega), e1 8356 (by omega), e1 8363 (by omega), e1 8367 (by omega), by omega⟩))))
theorem ways_f {k : Nat} {x : Int} (h : ¬ rgt k x) : waysF k x := by
 have e1 : ∀ n : Nat, ¬ k = n → ((k : Int) == n) = false := fun n h => by simp; omega
 have e2 : ∀ n : Nat, k = n → ((k : Int) == n) = true := fun n h => by simp; omega
 unfold waysF
 unfold rgt at h
 by_cases h1 : k = 8353
 ·exact Or.inl ⟨e2 8353 h1, by simp; exact fun q => h (Or.inl ⟨h1, q⟩)⟩
 by_cases h2 : k = 8356
 ·exact Or.inr (Or.inl ⟨e1 8353 h1, e2 8356 h2, by omega⟩)
 by_cases h3 : k = 8363
 ·exact Or.inr (Or.inr (Or.inl ⟨e1 8353 h1, e1 8356 h2, e2 8363 h3, by omega⟩))
 by_cases h4 : k = 8367
 ·exact Or.inr (Or.inr (Or.inr (Or.inl ⟨e1 8353 h1, e1 8356 h2, e1 8363 h3, e2 8367 h4, by omega⟩)))
 by_cases h5 : 8367 < k
 ·exact Or.inr (Or.inr (Or.inr (Or.inr ⟨e1 8353 h1, e1 8356 h2, e1 8363 h3, e1 8367 h4, by omega, by omega⟩)))
 ·exact absurd (Or.inr (Or.inr (Or.inr (Or.inr (Or.inr ⟨h1, h2, h3, h4, h5⟩))))) h
set_option maxHeartbeats 16000000 in
theorem byw_t (n_ : Nat) (W0 : World) (hn : n_ ≤ W0.heap.size) (vv : Value) (n : Nat) (O : Nat → OpV) (hV : OpsB n_ W0 vv n O) (a x cut : Int) (a0 : 0 ≤ a) (a1 : a < 65536) (x0 : 0 ≤ x) (x1 : x < 256) (hf : fewV n O = true) (m : M) (hm : runM O n zeroM = m) (ok : Ok m) (k : Nat) (hk : k < 31408) (hodd : (a % 2 = 1 ∧ 8352 + a / 2 % 16 = (k : Int)) ∨ (a % 2 = 0 ∧ a % 31408 = (k : Int))) (hcut : (cut != 0) = false) (hw_ : waysT k x) (hs : ∀ f, f = encF m → Sta (upd f k x) ∧ ∀ j, j < 31408 → 0 ≤ upd f k x j ∧ upd f k x j < 256) (w : World) (hB : Below n_ W0 w) : Calls Try.prog 5 #[vv, .int .u16 a, .int .u8 x, .int .i64 cut] w fun q_ w' => q_ = .returned (.bool true) ∧ Below n_ W0 w' := by
 have HN := Lib.hid hn
 have HV := Lib.hid hV
 obtain ⟨u0, hu0⟩ : ∃ u0, u0 = w := ⟨_, rfl⟩
 rw [← hu0] at hB ⊢
 have B0 := Lib.hid hB
 clear hn hV hB hu0
 have HS := Lib.hid hs
 clear hs
 have hodd_ := Lib.hid hodd
 clear hodd
 have AW := Lib.hid awake_c
 have hf_ := Lib.hid hf
 clear hf
 have hm_ := Lib.hid hm
 clear hm
 have OK := Lib.hid ok
 clear ok
 have hnot : ∀ (x : Bool) (w : World), (Op.unary .not (.bool x)).run Try.prog w = .ok (.bool (!x)) w := fun _ _ => rfl
 go_enter Try.func5, Try.ntmps5
 go_wp2_with (fail)
 with_reducible refine (AW.out _).mono ?_
 rintro q_ u1 ⟨rfl, hb⟩
 have B1 := Lib.hid (vian HN.out B0.out hb)
 clear hb B0
 go_wp2_with (fail)
 with_reducible refine (few_c n_ W0 vv n O HV.out true hf_.out _ B1.out).mono ?_
 rintro q_ w' ⟨rfl, hb⟩
 have hb' := hb.symm
 clear hb
 subst hb'
 go_wp2_with (fail)
 refine (play_c n_ W0 vv n O HV.out hf_.out HN.out _ B1.out).mono ?_
 rintro q_ u2 ⟨pb, rfl, hP, hl, hB⟩
 rw [hm_.out] at hP
 have P2 := Lib.hid hP
 have B2 := Lib.hid hB
 have LP := Lib.hid hl
 clear hP hB hl B1
 go_wp2_with (fail)
 refine (enc_c pb m OK.out _ P2.out).mono ?_
 rintro q_ u3 ⟨v1, g1, rfl, hR0, lg, hb⟩
 have B3 := Lib.hid (vian HN.out B2.out hb)
 have P3 := Lib.hid (P2.out.below hb)
 obtain ⟨c1, ev, hR⟩ : ∃ c, v1 = .slice (some ⟨g1, 0, none⟩) 31408 c ∧ RowB u3 (.slice (some ⟨g1, 0, none⟩) 31408 c) 31408 (encF m) g1 := by
  obtain ⟨c, e, r⟩ := id hR0
  exact ⟨c, e, by rw [← e]; exact hR0⟩
 clear hR0
 subst ev
 have R3 := Lib.hid hR
 have NG := Lib.hid (show g1 ≠ pb from fun e => absurd P2.out.1 (by omega))
 have LG := Lib.hid (Nat.le_trans (Nat.le_trans HN.out B2.out.size) lg)
 clear hb hR lg B2 P2
 obtain ⟨f, hff⟩ : ∃ f, f = encF m := ⟨_, rfl⟩
 rw [← hff] at R3
 have HF := Lib.hid hff
 clear hff
 go_wp2_with (fail)
 obtain ⟨v4, u4, hr, ho, hb⟩ := app_bs (w := u3.alloc (.cells #[] 5)) (base := u3.heap.size) (f := f) g1 0 31408 c1 (own_mt u3 u3.heap.size (Nat.le_refl _) f) (fun j hj => by
  obtain ⟨c', e, _, lg, hc, _⟩ := R3.out
  rw [Nat.zero_add]
  exact ((own1 u3 (.cells #[] 5)).cell (p := ⟨g1, j, none⟩) lg).trans (hc j hj)) (by simp) (by decide)
 have RUN := Lib.hid hr
 clear hr
 refine wp_append_run _ _ _ (.slice (some ⟨u3.heap.size, 0, none⟩) 0 0) (.slice (some ⟨g1, 0, none⟩) 31408 c1) _ rfl rfl rfl RUN.out ?_
 try simp only [Act.put, qqA, qqB, qqC]
 obtain ⟨gb, hR4, lg4⟩ := own_rowB ho (by decide)
 rw [Nat.zero_add] at hR4
 have hb2 : Below u3.heap.size u3 u4 := (own1 u3 (.cells #[] 5)).trans hb
 have B4 := Lib.hid (vian HN.out B3.out hb2)
 obtain ⟨cb, eb, hR5⟩ : ∃ c, v4 = .slice (some ⟨gb, 0, none⟩) 31408 c ∧ RowB u4 (.slice (some ⟨gb, 0, none⟩) 31408 c) 31408 f gb := by
  obtain ⟨c, e, r⟩ := id hR4
  exact ⟨c, e, by rw [← e]; exact hR4⟩
 subst eb
 have R4 := Lib.hid hR5
 have LB := Lib.hid (Nat.le_trans (Nat.le_trans HN.out B3.out.size) lg4)
 clear hR4 hR5 lg4 hb hb2 ho RUN R3 B3 P3 NG LG
 go_upto_if 69 with (fail)
 go_cut [12] (fun s_ wx => s_ = .int .i64 (k : Int) ∧ wx = u4)
 case first =>
  rcases hodd_.out with ⟨q1, q2⟩ | ⟨q1, q2⟩
  ·have q3 : (bits .and .u16 a 1 == 1) = true := by rw [an1w a a0 a1]; simp [q1]
   clear q1
   go_wp2
   go_meet
   exact ⟨by first | rfl | rw [q2], rfl⟩
  ·have q3 : (bits .and .u16 a 1 == 1) = false := by rw [an1w a a0 a1]; simp [q1]
   clear q1
   go_wp2
   go_meet
   exact ⟨by first | rfl | rw [q2], rfl⟩
 case rest =>
  obtain ⟨rfl, hw⟩ := hcut
  subst hw
  have kk : (k : Int) < 31408 := by omega
  go_wp2_with (refine st_row R4.out rfl _ _ rfl k hk rfl x rfl ?_)
  intro u5 hR hk5
  have R5 := Lib.hid hR
  have B5 := Lib.hid (hk5.below HN.out LB.out B4.out)
  clear hR hk5 B4 R4
  try simp only [Act.put, qqA, qqB, qqC]
  obtain ⟨f2, hf2⟩ : ∃ f2, f2 = upd f k x := ⟨_, rfl⟩
  rw [← hf2] at R5
  have HF2 := Lib.hid hf2
  clear hf2
  unfold waysT at hw_
  rcases hw_ with ⟨y0, y1⟩ | ⟨y0, y1, y2⟩ | ⟨y0, y1, y2, y3⟩ | ⟨y0, y1, y2, y3, y4⟩ | ⟨y0, y1, y2, y3, y4, y5⟩ | ⟨y0, y1, y2, y3, y4⟩
  all_goals
   go_wp2_with (fail)
   with_reducible refine (new_c _).mono ?_
   rintro q_ u6 ⟨rfl, hP, hb⟩
   have B6 := Lib.hid (vian HN.out B5.out hb)
   have P6 := Lib.hid hP
   have R6 := Lib.hid (R5.out.below hb)
   have NG := Lib.hid (show gb ≠ u5.heap.size from fun e => by obtain ⟨c, _, _, lg, _⟩ := R5.out; omega)
   have LV := Lib.hid (Nat.le_trans HN.out B5.out.size)
   clear hb hP B5 R5
   generalize u5.heap.size = pv at P6 NG LV ⊢
   have ST := Lib.hid (show Sta f2 ∧ ∀ j, j < 31408 → 0 ≤ f2 j ∧ f2 j < 256 from by rw [HF2.out]; exact HS.out f HF.out)
   go_wp2_with (fail)
   with_reducible refine (dec_ok pv zeroM f2 ST.out.1 ST.out.2 _ gb NG.out _ R6.out P6.out).mono ?_
   rintro q_ u7 ⟨rfl, hP, hk⟩
   have P7 := Lib.hid hP
   have B7 := Lib.hid (hk.below HN.out LV.out B6.out)
   have R7 := Lib.hid (show RowB u7 (.slice (some ⟨gb, 0, none⟩) 31408 cb) 31408 f2 gb from by
    obtain ⟨c, e, h1, h2, h3, h4⟩ := R6.out
    exact ⟨c, e, h1, Nat.lt_of_lt_of_le h2 hk.size, fun j hj => ((cell_block (hk.block gb h2 NG.out) j).1).trans (h3 j hj), fun j => ((cell_block (hk.block gb h2 NG.out) j).2).trans (h4 j)⟩)
   clear hP hk B6 P6 R6
   go_wp2_with (fail)
   refine (enc_w pv _ (dec_okB ST.out.2) _ P7.out).mono ?_
   rintro q_ u8 ⟨v8, g8, rfl, hR, _, hb⟩
   have B8 := Lib.hid (vian HN.out B7.out hb)
   have R8 := Lib.hid (R7.out.below hb)
   have S8 := Lib.hid hR
   clear hb hR B7 P7 R7
   go_wp2_with (fail)
   with_reducible refine (same_c 31408 (by decide) v8 _ g8 gb _ f2 (fun j hj => enc_dec ST.out.2 ST.out.1 j hj) _ S8.out R8.out).mono ?_
   rintro q_ u9 ⟨rfl, hb⟩
   have B9 := Lib.hid (vian HN.out B8.out hb)
   clear hb B8 R8 S8
   go_wp2
   all_goals exact bodyPost_ret (v := .bool true) (by simp [results, Try.results5, go_sem]) rfl ⟨rfl, B9.out⟩
set_option maxHeartbeats 16000000 in
theorem byw_f (n_ : Nat) (W0 : World) (hn : n_ ≤ W0.heap.size) (vv : Value) (n : Nat) (O : Nat → OpV) (hV : OpsB n_ W0 vv n O) (a x cut : Int) (a0 : 0 ≤ a) (a1 : a < 65536) (x0 : 0 ≤ x) (x1 : x < 256) (hf : fewV n O = true) (m : M) (hm : runM O n zeroM = m) (ok : Ok m) (k : Nat) (hk : k < 31408) (hodd : (a % 2 = 1 ∧ 8352 + a / 2 % 16 = (k : Int)) ∨ (a % 2 = 0 ∧ a % 31408 = (k : Int))) (hcut : (cut != 0) = false) (hw_ : waysF k x) (hs : ∀ f, ¬ Sta (upd f k x)) (w : World) (hB : Below n_ W0 w) : Calls Try.prog 5 #[vv, .int .u16 a, .int .u8 x, .int .i64 cut] w fun q_ w' => q_ = .returned (.bool true) ∧ Below n_ W0 w' := by
 have HN := Lib.hid hn
 have HV := Lib.hid hV
 obtain ⟨u0, hu0⟩ : ∃ u0, u0 = w := ⟨_, rfl⟩
 rw [← hu0] at hB ⊢
 have B0 := Lib.hid hB
 clear hn hV hB hu0
 have HS := Lib.hid hs
 clear hs
 have hodd_ := Lib.hid hodd
 clear hodd
 have AW := Lib.hid awake_c
 have hf_ := Lib.hid hf
 clear hf
 have hm_ := Lib.hid hm
 clear hm
 have OK := Lib.hid ok
 clear ok
 have hnot : ∀ (x : Bool) (w : World), (Op.unary .not (.bool x)).run Try.prog w = .ok (.bool (!x)) w := fun _ _ => rfl
 go_enter Try.func5, Try.ntmps5
 go_wp2_with (fail)
 with_reducible refine (AW.out _).mono ?_
 rintro q_ u1 ⟨rfl, hb⟩
 have B1 := Lib.hid (vian HN.out B0.out hb)
 clear hb B0
 go_wp2_with (fail)
 with_reducible refine (few_c n_ W0 vv n O HV.out true hf_.out _ B1.out).mono ?_
 rintro q_ w' ⟨rfl, hb⟩
 have hb' := hb.symm
 clear hb
 subst hb'
 go_wp2_with (fail)
 refine (play_c n_ W0 vv n O HV.out hf_.out HN.out _ B1.out).mono ?_
 rintro q_ u2 ⟨pb, rfl, hP, hl, hB⟩
 rw [hm_.out] at hP
 have P2 := Lib.hid hP
 have B2 := Lib.hid hB
 have LP := Lib.hid hl
 clear hP hB hl B1
 go_wp2_with (fail)
 refine (enc_c pb m OK.out _ P2.out).mono ?_
 rintro q_ u3 ⟨v1, g1, rfl, hR0, lg, hb⟩
 have B3 := Lib.hid (vian HN.out B2.out hb)
 have P3 := Lib.hid (P2.out.below hb)
 obtain ⟨c1, ev, hR⟩ : ∃ c, v1 = .slice (some ⟨g1, 0, none⟩) 31408 c ∧ RowB u3 (.slice (some ⟨g1, 0, none⟩) 31408 c) 31408 (encF m) g1 := by
  obtain ⟨c, e, r⟩ := id hR0
  exact ⟨c, e, by rw [← e]; exact hR0⟩
 clear hR0
 subst ev
 have R3 := Lib.hid hR
 have NG := Lib.hid (show g1 ≠ pb from fun e => absurd P2.out.1 (by omega))
 have LG := Lib.hid (Nat.le_trans (Nat.le_trans HN.out B2.out.size) lg)
 clear hb hR lg B2 P2
 obtain ⟨f, hff⟩ : ∃ f, f = encF m := ⟨_, rfl⟩
 rw [← hff] at R3
 have HF := Lib.hid hff
 clear hff
 go_wp2_with (fail)
 obtain ⟨v4, u4, hr, ho, hb⟩ := app_bs (w := u3.alloc (.cells #[] 5)) (base := u3.heap.size) (f := f) g1 0 31408 c1 (own_mt u3 u3.heap.size (Nat.le_refl _) f) (fun j hj => by
  obtain ⟨c', e, _, lg, hc, _⟩ := R3.out
  rw [Nat.zero_add]
  exact ((own1 u3 (.cells #[] 5)).cell (p := ⟨g1, j, none⟩) lg).trans (hc j hj)) (by simp) (by decide)
 have RUN := Lib.hid hr
 clear hr
 refine wp_append_run _ _ _ (.slice (some ⟨u3.heap.size, 0, none⟩) 0 0) (.slice (some ⟨g1, 0, none⟩) 31408 c1) _ rfl rfl rfl RUN.out ?_
 try simp only [Act.put, qqA, qqB, qqC]
 obtain ⟨gb, hR4, lg4⟩ := own_rowB ho (by decide)
 rw [Nat.zero_add] at hR4
 have hb2 : Below u3.heap.size u3 u4 := (own1 u3 (.cells #[] 5)).trans hb
 have B4 := Lib.hid (vian HN.out B3.out hb2)
 obtain ⟨cb, eb, hR5⟩ : ∃ c, v4 = .slice (some ⟨gb, 0, none⟩) 31408 c ∧ RowB u4 (.slice (some ⟨gb, 0, none⟩) 31408 c) 31408 f gb := by
  obtain ⟨c, e, r⟩ := id hR4
  exact ⟨c, e, by rw [← e]; exact hR4⟩
 subst eb
 have R4 := Lib.hid hR5
 have LB := Lib.hid (Nat.le_trans (Nat.le_trans HN.out B3.out.size) lg4)
 clear hR4 hR5 lg4 hb hb2 ho RUN R3 B3 P3 NG LG
 go_upto_if 69 with (fail)
 go_cut [12] (fun s_ wx => s_ = .int .i64 (k : Int) ∧ wx = u4)
 case first =>
  rcases hodd_.out with ⟨q1, q2⟩ | ⟨q1, q2⟩
  ·have q3 : (bits .and .u16 a 1 == 1) = true := by rw [an1w a a0 a1]; simp [q1]
   clear q1
   go_wp2
   go_meet
   exact ⟨by first | rfl | rw [q2], rfl⟩
  ·have q3 : (bits .and .u16 a 1 == 1) = false := by rw [an1w a a0 a1]; simp [q1]
   clear q1
   go_wp2
   go_meet
   exact ⟨by first | rfl | rw [q2], rfl⟩
 case rest =>
  obtain ⟨rfl, hw⟩ := hcut
  subst hw
  have kk : (k : Int) < 31408 := by omega
  go_wp2_with (refine st_row R4.out rfl _ _ rfl k hk rfl x rfl ?_)
  intro u5 hR hk5
  have R5 := Lib.hid hR
  have B5 := Lib.hid (hk5.below HN.out LB.out B4.out)
  clear hR hk5 B4 R4
  try simp only [Act.put, qqA, qqB, qqC]
  obtain ⟨f2, hf2⟩ : ∃ f2, f2 = upd f k x := ⟨_, rfl⟩
  rw [← hf2] at R5
  have HF2 := Lib.hid hf2
  clear hf2
  unfold waysF at hw_
  rcases hw_ with ⟨y0, y1⟩ | ⟨y0, y1, y2⟩ | ⟨y0, y1, y2, y3⟩ | ⟨y0, y1, y2, y3, y4⟩ | ⟨y0, y1, y2, y3, y4, y5⟩
  all_goals
   go_wp2_with (fail)
   with_reducible refine (new_c _).mono ?_
   rintro q_ u6 ⟨rfl, hP, hb⟩
   have B6 := Lib.hid (vian HN.out B5.out hb)
   have P6 := Lib.hid hP
   have R6 := Lib.hid (R5.out.below hb)
   clear hb hP B5 R5
   generalize u5.heap.size = pv at P6 ⊢
   have ST := Lib.hid (show ¬ Sta f2 from by rw [HF2.out]; exact HS.out f)
   go_wp2_with (fail)
   with_reducible refine (dec_kind pv f2 ST.out _ gb _ R6.out).mono ?_
   rintro q_ w' ⟨rfl, hb⟩
   have hb' := hb.symm
   clear hb
   subst hb'
   go_wp2_with (fail)
   refine (enc_c pv zeroM ok_zero _ P6.out).mono ?_
   rintro q_ u8 ⟨v8, g8, rfl, hR, _, hb⟩
   have B8 := Lib.hid (vian HN.out B6.out hb)
   have S8 := Lib.hid hR
   clear hb hR B6 P6 R6
   go_wp2_with (fail)
   with_reducible refine (new_c _).mono ?_
   rintro q_ u9 ⟨rfl, hP, hb⟩
   have B9 := Lib.hid (vian HN.out B8.out hb)
   have P9 := Lib.hid hP
   have S9 := Lib.hid (S8.out.below hb)
   clear hb hP B8 S8
   generalize u8.heap.size = pn at P9 ⊢
   go_wp2_with (fail)
   refine (enc_c pn zeroM ok_zero _ P9.out).mono ?_
   rintro q_ u10 ⟨v10, g10, rfl, hR, _, hb⟩
   have B10 := Lib.hid (vian HN.out B9.out hb)
   have S10 := Lib.hid (S9.out.below hb)
   have T10 := Lib.hid hR
   clear hb hR B9 S9 P9
   go_wp2_with (fail)
   with_reducible refine (same_c 31408 (by decide) v8 v10 g8 g10 _ _ (fun _ _ => rfl) _ S10.out T10.out).mono ?_
   rintro q_ u11 ⟨rfl, hb⟩
   have B11 := Lib.hid (vian HN.out B10.out hb)
   clear hb B10 S10 T10
   go_wp2
   all_goals exact bodyPost_ret (v := .bool true) (by simp [results, Try.results5, go_sem]) rfl ⟨rfl, B11.out⟩
set_option maxHeartbeats 16000000 in
theorem byw_c (n_ : Nat) (W0 : World) (hn : n_ ≤ W0.heap.size) (vv : Value) (n : Nat) (O : Nat → OpV) (hV : OpsB n_ W0 vv n O) (a x cut : Int) (a0 : 0 ≤ a) (a1 : a < 65536) (x0 : 0 ≤ x) (x1 : x < 256) (hf : fewV n O = true) (m : M) (hm : runM O n zeroM = m) (ok : Ok m) (hcut : (cut != 0) = true) (cn L : Nat) (hc4 : bits .and .i64 cut 4095 = (cn : Int)) (eL : 31407 - (cn : Int) = (L : Int)) (L0 : 0 < L) (L1 : L ≤ 31407) (w : World) (hB : Below n_ W0 w) : Calls Try.prog 5 #[vv, .int .u16 a, .int .u8 x, .int .i64 cut] w fun q_ w' => q_ = .returned (.bool true) ∧ Below n_ W0 w' := by
 have HN := Lib.hid hn
 have HV := Lib.hid hV
 obtain ⟨u0, hu0⟩ : ∃ u0, u0 = w := ⟨_, rfl⟩
 rw [← hu0] at hB ⊢
 have B0 := Lib.hid hB
 clear hn hV hB hu0
 have AW := Lib.hid awake_c
 have hf_ := Lib.hid hf
 clear hf
 have hm_ := Lib.hid hm
 clear hm
 have OK := Lib.hid ok
 clear ok
 have hnot : ∀ (x : Bool) (w : World), (Op.unary .not (.bool x)).run Try.prog w = .ok (.bool (!x)) w := fun _ _ => rfl
 go_enter Try.func5, Try.ntmps5
 go_wp2_with (fail)
 with_reducible refine (AW.out _).mono ?_
 rintro q_ u1 ⟨rfl, hb⟩
 have B1 := Lib.hid (vian HN.out B0.out hb)
 clear hb B0
 go_wp2_with (fail)
 with_reducible refine (few_c n_ W0 vv n O HV.out true hf_.out _ B1.out).mono ?_
 rintro q_ w' ⟨rfl, hb⟩
 have hb' := hb.symm
 clear hb
 subst hb'
 go_wp2_with (fail)
 refine (play_c n_ W0 vv n O HV.out hf_.out HN.out _ B1.out).mono ?_
 rintro q_ u2 ⟨pb, rfl, hP, hl, hB⟩
 rw [hm_.out] at hP
 have P2 := Lib.hid hP
 have B2 := Lib.hid hB
 have LP := Lib.hid hl
 clear hP hB hl B1
 go_wp2_with (fail)
 refine (enc_c pb m OK.out _ P2.out).mono ?_
 rintro q_ u3 ⟨v1, g1, rfl, hR0, lg, hb⟩
 have B3 := Lib.hid (vian HN.out B2.out hb)
 have P3 := Lib.hid (P2.out.below hb)
 obtain ⟨c1, ev, hR⟩ : ∃ c, v1 = .slice (some ⟨g1, 0, none⟩) 31408 c ∧ RowB u3 (.slice (some ⟨g1, 0, none⟩) 31408 c) 31408 (encF m) g1 := by
  obtain ⟨c, e, r⟩ := id hR0
  exact ⟨c, e, by rw [← e]; exact hR0⟩
 clear hR0
 subst ev
 have R3 := Lib.hid hR
 have NG := Lib.hid (show g1 ≠ pb from fun e => absurd P2.out.1 (by omega))
 have LG := Lib.hid (Nat.le_trans (Nat.le_trans HN.out B2.out.size) lg)
 clear hb hR lg B2 P2
 obtain ⟨f, hff⟩ : ∃ f, f = encF m := ⟨_, rfl⟩
 rw [← hff] at R3
 have HF := Lib.hid hff
 clear hff
 have l1 : (0 : Int) < L := by omega
 have l2 : (0 : Int) ≤ L := by omega
 have l3 : (L : Int) ≤ 31407 := by omega
 have wL : IntKind.i64.wrap (31407 - (cn : Int)) = (L : Int) := by rw [eL, IntKind.wrap_i64]; omega
 have hc1 : 31408 ≤ c1 := by obtain ⟨c', e, h, _⟩ := R3.out; injection e with _ _ e3; omega
 have l4 : (L : Int) ≤ c1 := by omega
 have DS := Lib.hid (dec_size pb (some ⟨g1, 0, none⟩) L c1 (by omega))
 go_wp2_with (fail)
 with_reducible refine (DS.out _).mono ?_
 rintro q_ w' ⟨rfl, hb⟩
 have hb' := hb.symm
 clear hb
 subst hb'
 obtain ⟨f3, hf3⟩ : ∃ f3, f3 = upd f 31408 x := ⟨_, rfl⟩
 have F3 := Lib.hid (show ∀ j, j < 31408 → f3 j = f j from fun j hj => by rw [hf3, upd_ne _ _ _ _ (by omega)])
 have X3 := Lib.hid (show x = f3 31408 by rw [hf3, upd_same])
 clear hf3
 go_wp2_with (fail)
 obtain ⟨v4, u4, hr, ho, hb⟩ := app_bs (w := u3.alloc (.cells #[] 5)) (base := u3.heap.size) (f := f3) g1 0 31408 c1 (own_mt u3 u3.heap.size (Nat.le_refl _) f3) (fun j hj => by
  obtain ⟨c', e, _, lg, hc, _⟩ := R3.out
  rw [Nat.zero_add, F3.out j hj]
  exact ((own1 u3 (.cells #[] 5)).cell (p := ⟨g1, j, none⟩) lg).trans (hc j hj)) (by simp) (by decide)
 have RUN := Lib.hid hr
 clear hr
 refine wp_append_run _ _ _ (.slice (some ⟨u3.heap.size, 0, none⟩) 0 0) (.slice (some ⟨g1, 0, none⟩) 31408 c1) _ rfl rfl rfl RUN.out ?_
 try simp only [Act.put, qqA, qqB, qqC]
 rw [Nat.zero_add] at ho
 have hb2 : Below u3.heap.size u3 u4 := (own1 u3 (.cells #[] 5)).trans hb
 have HB2 := Lib.hid hb2
 have HO := Lib.hid ho
 clear hb hb2 ho RUN
 obtain ⟨g4, c4, eV⟩ := OwnB.slice2 HO.out (by decide)
 subst eV
 obtain ⟨v5, u5, hr, ho, hb⟩ := app_new (w := u4) #[.int .u8 x] 1 HO.out (fun j hj => by
  match j, hj with
  | 0, _ => exact congrArg (fun q => some (Value.int .u8 q)) X3.out) HB2.out.size (by decide)
 have RUN := Lib.hid hr
 clear hr
 go_wp2_with (fail)
 refine wp_append_run _ _ _ (.slice (some ⟨g4, 0, none⟩) 31408 c4) (.slice (some ⟨u4.heap.size, 0, none⟩) 1 1) _ rfl rfl rfl RUN.out ?_
 try simp only [Act.put, qqA, qqB, qqC]
 obtain ⟨g5, c5, eV⟩ := OwnB.slice2 ho (by decide)
 subst eV
 have hb3 := HB2.out.trans hb
 have P5 := Lib.hid (P3.out.below hb3)
 have R5 := Lib.hid (R3.out.below hb3)
 have B5 := Lib.hid (vian HN.out B3.out hb3)
 clear hb hb3 ho RUN HB2 HO P3 R3 B3 DS F3 X3
 have DT := Lib.hid (dec_size pb (some ⟨g5, 0, none⟩) 31409 c5 (by decide))
 go_wp2_with (fail)
 with_reducible refine (DT.out _).mono ?_
 rintro q_ w' ⟨rfl, hb⟩
 have hb' := hb.symm
 clear hb
 subst hb'
 go_wp2_with (fail)
 refine (enc_c pb m OK.out _ P5.out).mono ?_
 rintro q_ u6 ⟨v6, g6, rfl, hR, _, hb⟩
 have B6 := Lib.hid (vian HN.out B5.out hb)
 have R6 := Lib.hid (R5.out.below hb)
 have S6 := Lib.hid hR
 clear hb hR B5 P5 R5
 go_wp2_with (fail)
 with_reducible refine (same_c 31408 (by decide) v6 _ g6 g1 (encF m) f (fun j _ => by rw [HF.out]) _ S6.out R6.out).mono ?_
 rintro q_ u7 ⟨rfl, hb⟩
 have B7 := Lib.hid (vian HN.out B6.out hb)
 clear hb B6 R6 S6
 go_wp2
 all_goals exact bodyPost_ret (v := .bool true) (by simp [results, Try.results5, go_sem]) rfl ⟨rfl, B7.out⟩
theorem and4095 (n : Int) : bits .and .i64 n 4095 = n % 4096 := by
 have key : (BitVec.ofInt 64 n &&& BitVec.ofInt 64 4095).toNat = (n % ((2 ^ 64 : Nat) : Int)).toNat % 2 ^ 12 := by
  rw [BitVec.toNat_and, BitVec.toNat_ofInt, show (BitVec.ofInt 64 4095).toNat = 2 ^ 12 - 1 by decide, Nat.and_two_pow_sub_one_eq_mod]
 show IntKind.i64.wrap ((BitVec.ofInt 64 n &&& BitVec.ofInt 64 4095).toNat : Nat) = n % 4096
 rw [key, IntKind.wrap_i64]
 omega
theorem ops_okF {n_ : Nat} {W0 : World} {vv : Value} {n : Nat} {O : Nat → OpV} (hV : OpsB n_ W0 vv n O) : ∀ j, (O j).Fits ∧ okB (O j).f := fun j => by
 obtain ⟨_, _, _, _, hO, _⟩ := hV
 obtain ⟨_, _, _, _, h3, _⟩ := (hO j).2
 exact ⟨(hO j).1, h3⟩
/-- The walk. -/
theorem bytes_walk (vv : Value) (n : Nat) (O : Nat → OpV) (a x cut : Int) (a0 : 0 ≤ a) (a1 : a < 65536) (x0 : 0 ≤ x) (x1 : x < 256) (c0 : -9223372036854775808 ≤ cut) (c1 : cut ≤ 9223372036854775807) (w : World) (hV : OpsB w.heap.size w vv n O) : Calls Try.prog 5 #[vv, .int .u16 a, .int .u8 x, .int .i64 cut] w fun q_ w' => q_ = .returned (.bool true) ∧ Below w.heap.size w w' := by
 cases hf : fewV n O with
 | false => exact byw_many w.heap.size w (Nat.le_refl _) vv n O hV a x cut a0 a1 x0 x1 hf w (Below.refl _ _)
 | true =>
  have ok := run_ok (ops_okF hV) ok_zero n
  by_cases hc : cut = 0
  ·obtain ⟨k, hk, ho⟩ : ∃ k : Nat, k < 31408 ∧ ((a % 2 = 1 ∧ 8352 + a / 2 % 16 = (k : Int)) ∨ (a % 2 = 0 ∧ a % 31408 = (k : Int))) := by
    by_cases q : a % 2 = 1
    ·exact ⟨(8352 + a / 2 % 16).toNat, by omega, Or.inl ⟨q, by omega⟩⟩
    ·exact ⟨(a % 31408).toNat, by omega, Or.inr ⟨by omega, by omega⟩⟩
   have hcut : (cut != 0) = false := by simp [hc]
   by_cases hr : rgt k x
   ·exact byw_t w.heap.size w (Nat.le_refl _) vv n O hV a x cut a0 a1 x0 x1 hf _ rfl ok k hk ho hcut (ways_t hr) (fun f h => by subst h; exact ⟨upd_sta (enc_sta ok) k x hr, fun j hj => upd_bd (enc_bd ok.b) k x x0 x1 j hj⟩) w (Below.refl _ _)
   ·exact byw_f w.heap.size w (Nat.le_refl _) vv n O hV a x cut a0 a1 x0 x1 hf _ rfl ok k hk ho hcut (ways_f hr) (fun f => upd_nsta k x hk hr) w (Below.refl _ _)
  ·have hcut : (cut != 0) = true := by simp [hc]
   have h4 := and4095 cut
   exact byw_c w.heap.size w (Nat.le_refl _) vv n O hV a x cut a0 a1 x0 x1 hf _ rfl ok hcut (cut % 4096).toNat (31407 - (cut % 4096).toNat) (by rw [h4]; omega) (by omega) (by omega) (by omega) w (Below.refl _ _)
end Go.Proofs.Ytpfbodmadmneiaa
namespace Go.Proofs.Ytpfbodmadmneiaa.ppuBytes
open Go.ChangeShapes Go.WideShapes Go.ChangeAt Go.RowKit
set_option linter.unusedVariables false
set_option maxRecDepth 100000 in
theorem lifted (os : Os) (started : os.Started) (H : Type) (enc : TypeId × Value → H) :
    ReturnsInHanded {} Try.checked os 5 .any (Rows.ppuBytesSpec.pre6 enc Try.prog Try.f5 Rows.ppuBytesRow.domain false) (Rows.ppuBytesSpec.post enc Try.prog Try.f5 false true false false) := by
  refine returnsInHanded_of_change (C := Try.checked) own started (by kernel_rfl) Try.func5
    (ChangeSpec.witness6 (enc := enc) (C := Try.checked) false ⟨#[], #[.slice none 0 0, .int .u16 0, .int .u8 0, .int .i64 0], []⟩ 8 (by kernel_rfl) (by kernel_rfl) (by kernel_rfl) (by kernel_rfl)) ?_
  intro W base args ds gs before hval0 hW hcnd _
  have hval : ∀ (j : Nat) t v, Try.f5.params[j]? = some t → args[j]? = some v → Value.okWide Try.prog W .any base t v := hval0
  have hW' := hW
  obtain ⟨p, q, hA0, hV, rfl, hfz, hnd⟩ := hW
  have hA : DataW.TrodAll enc Try.prog W 0 (fun _ => true) true Try.f5.params.toList args.toList ds p := hA0
  rw [Try.params5] at hA hval
  obtain ⟨v0, vs0, d0, ds0, p0, q0, hargs, rfl, rfl, h0, r0⟩ := trodAll_cons hA
  obtain ⟨v1, vs1, d1, ds1, p1, q1, rfl, rfl, rfl, h1, r1⟩ := trodAll_cons r0
  obtain ⟨v2, vs2, d2, ds2, p2, q2, rfl, rfl, rfl, h2, r2⟩ := trodAll_cons r1
  obtain ⟨v3, vs3, d3, ds3, p3, q3, rfl, rfl, rfl, h3, r3⟩ := trodAll_cons r2
  obtain ⟨rfl, rfl, rfl⟩ := trodAll_nil r3
  obtain rfl : args = #[v0, v1, v2, v3] := by cases args; simp_all
  obtain ⟨rfl, rfl⟩ := trodVars_none hV
  have o0 := open_ops (hval 0 22 v0 rfl rfl) h0
  obtain ⟨n0, O0, hO0⟩ := o0
  obtain ⟨a1, rfl, rfl, rfl, w1⟩ := open_int Try.underlying30 (hval 1 30 v1 rfl rfl) h1
  obtain ⟨a2, rfl, rfl, rfl, w2⟩ := open_int Try.underlying5 (hval 2 5 v2 rfl rfl) h2
  obtain ⟨a3, rfl, rfl, rfl, w3⟩ := open_int Try.underlying3 (hval 3 3 v3 rfl rfl) h3
  clear hA0 hval0
  have b1 := u16_bd w1
  have b2 := u8_bd w2
  have b3 := i64_bd w3
  refine (bytes_walk v0 n0 O0 a1 a2 a3 b1.1 b1.2 b2.1 b2.2 b3.1 b3.2 W hO0).mono fun e W' ⟨he, hg⟩ => ?_
  subst he
  exact ⟨_, rfl, law_post laidOut hW' rfl rfl rfl (trodAll_cons_mk (shut_bool Try.underlying4 _) trodAll_mk0)
    (fun t ht => by rw [Try.params5] at ht; simp at ht; rcases ht with rfl | rfl | rfl | rfl <;> exact ⟨by kernel_rfl, of_decide_eq_true (by kernel_rfl)⟩) hg⟩

theorem over : Rows.ppuBytesRow.holds Try.pinned (OpenSpec.ofChange Rows.ppuBytesSpec) :=
  OpenClaim.holds_of_wide 5 Try.f5 rfl rfl rfl rfl rfl rfl rfl ⟨rfl, rfl, rfl, rfl, rfl⟩ rfl rfl rfl rfl rfl (by kernel_rfl) Try.func5 (by kernel_rfl)
    (of_decide_eq_true (by kernel_rfl)) (by unfold Func.isWrapper; first | (rw [if_pos (by decide +kernel)]; kernel_rfl) | (rw [if_neg (by decide +kernel)]; exact ⟨rfl, rfl⟩))
    (fun os started H enc _ => lifted os started H enc)

/-- The statement. -/
theorem proved : Rows.PpuBytesSaid :=
  over
#print axioms proved
end Go.Proofs.Ytpfbodmadmneiaa.ppuBytes
