/-
  Unpacking, as the document does it: for every world in which the slices lie as told; they have at most 16000 bytes.
-/
import Derived.Test.YtklbhbappaibgaaUn
import Derived.Test.YtklbhbappaibgaaRp
namespace Go.Proofs.Ytklbhbappaibgaa
open Go.ChangeShapes Go.WideShapes Go.ChangeAt Go.RowKit
set_option linter.unusedVariables false
set_option linter.unusedSimpArgs false
set_option maxRecDepth 100000
theorem set_take {D : List Nat} {m z : Nat} (h : m < D.length) : (D.set m z).take (m + 1) = D.take m ++ [z] ∧ (D.set m z).drop (m + 1) = D.drop (m + 1) := by
 have e : D.set m z = D.take m ++ z :: D.drop (m + 1) := by
  rw [List.set_eq_take_append_cons_drop, if_pos h]
 have hl : (D.take m).length = m := by simp; omega
 rw [e]
 constructor
 ·rw [show D.take m ++ z :: D.drop (m + 1) = (D.take m ++ [z]) ++ D.drop (m + 1) by simp]
  exact List.take_left' (by simp; omega)
 ·rw [show D.take m ++ z :: D.drop (m + 1) = (D.take m ++ [z]) ++ D.drop (m + 1) by simp]
  exact List.drop_left' (by simp; omega)
/-- The document's own bytes: what is behind, and the base's from there on. -/
structure RI (B P D : List Nat) (at_ i t : Nat) : Prop where
 len : D.length = B.length
 rest : D.drop at_ = B.drop at_
 ha : at_ ≤ B.length
 hi : i ≤ P.length
 ht : t ≤ i
 hu : un B (D.take at_) (P.drop i) (decide (t % 2 = 1)) = un B [] P false
theorem RI.o {B P D : List Nat} {at_ i t : Nat} (h : RI B P D at_ i t) : (D.take at_).length = at_ := by
 have := h.len; have := h.ha
 simp; omega
/-- Of the rows' bytes the first k are q's. -/
structure RW (D D' q : List Nat) (at_ j : Nat) : Prop where
 len : D'.length = D.length
 pre : D'.take (at_ + j) = D.take at_ ++ q.take j
 post : D'.drop (at_ + j) = D.drop (at_ + j)
theorem RW.zero (D q : List Nat) (at_ : Nat) : RW D D q at_ 0 := ⟨rfl, by simp, rfl⟩
theorem RW.step {D D' q : List Nat} {at_ j z : Nat} (h : RW D D' q at_ j) (hz : q[j]? = some z) (hl : at_ + j < D.length) : RW D (D'.set (at_ + j) z) q at_ (j + 1) := by
 obtain ⟨h1, h2⟩ := set_take (D := D') (m := at_ + j) (z := z) (by rw [h.len]; exact hl)
 refine ⟨by rw [List.length_set]; exact h.len, ?_, ?_⟩
 ·rw [← Nat.add_assoc, h1, h.pre, List.take_add_one, hz, List.append_assoc]; rfl
 ·rw [← Nat.add_assoc, h2]
  have := congrArg (List.drop 1) h.post
  simpa [List.drop_drop] using this
theorem RI.err {B P D : List Nat} {at_ i t e : Nat} (h : RI B P D at_ i t) (hr : rd (P.drop i) = (e, 0, 0)) (he : e ≠ 0) : unp B P = (e, []) := by
 refine unp_err (h.hu.symm.trans (un_err (e := e) (n := 0) (k := 0) ?_ he)) he
 unfold tk; rw [hr]; exact if_pos he
theorem rdL_bad : ∀ (f i s n : Nat) (p : List Nat) (e m k : Nat), rdL f i s n p = (e, m, k) → e ≠ 0 → m = 0 ∧ k = 0
 | 0, i, s, n, p, e, m, k, h, _ => by simp [rdL] at h; omega
 | f + 1, i, s, n, [], e, m, k, h, _ => by simp [rdL] at h; omega
 | f + 1, i, s, n, x :: q, e, m, k, h, he => by
  rw [rdL] at h
  split at h
  ·split at h
   ·simp at h; omega
   ·simp at h; omega
  ·exact rdL_bad f _ _ _ q e m k h he
theorem rd_bad {p : List Nat} {e m k : Nat} (h : rd p = (e, m, k)) (he : e ≠ 0) : m = 0 ∧ k = 0 := rdL_bad 4 0 1 0 p e m k h he
theorem RI.big {B P D : List Nat} {at_ i t n k : Nat} (h : RI B P D at_ i t) (hr : rd (P.drop i) = (0, n, k)) (hb : B.length - at_ < n) : unp B P = (6, []) := by
 refine unp_err (h.hu.symm.trans (un_err (e := 6) (n := 0) (k := 0) ?_ (by decide))) (by decide)
 rw [h.o]
 unfold tk; rw [hr, if_neg (by simp)]; exact if_pos hb
theorem RI.tk {B P D : List Nat} {at_ i t n k : Nat} (h : RI B P D at_ i t) (hr : rd (P.drop i) = (0, n, k)) (hb : n ≤ B.length - at_) : tk (P.drop i) (B.length - (D.take at_).length) = (0, n, k) := by
 rw [h.o]
 unfold Go.Proofs.Ytklbhbappaibgaa.tk; rw [hr, if_neg (by simp)]; exact if_neg (by simpa using hb)
theorem RI.last {B P D : List Nat} {at_ i t n k : Nat} (h : RI B P D at_ i t) (h0 : t % 2 = 0) (hr : rd (P.drop i) = (0, n, k)) (hb : n ≤ B.length - at_) (he : at_ + n = B.length) : un B [] P false = (0, D, P.drop (i + k)) := by
 have h1 := h.hu
 rw [show decide (t % 2 = 1) = false by simp; omega, un_last (h.tk hr hb) (by rw [h.o]; exact he), h.o, ← h.rest, List.drop_drop] at h1
 rw [← h1]
 congr 2
 rw [List.take_of_length_le (l := D.drop at_) (by have := h.len; simp; omega), List.take_append_drop]
theorem RI.even {B P D : List Nat} {at_ i t n k : Nat} (h : RI B P D at_ i t) (h0 : t % 2 = 0) (hr : rd (P.drop i) = (0, n, k)) (hb : n ≤ B.length - at_) (he : at_ + n < B.length) : RI B P D (at_ + n) (i + k) (t + 1) := by
 have hk := rd_ok hr
 have hi := h.hi
 simp only [List.length_drop] at hk
 refine ⟨h.len, ?_, by omega, by omega, by have := h.ht; omega, ?_⟩
 ·have := congrArg (List.drop n) h.rest
  simpa [List.drop_drop] using this
 ·have h1 := h.hu
  rw [show decide (t % 2 = 1) = false by simp; omega, un_eq (h.tk hr hb) (by rw [h.o]; exact he), h.o, ← h.rest, List.drop_drop] at h1
  rw [← h1, show decide ((t + 1) % 2 = 1) = true by simp; omega, List.take_add]
theorem RI.short {B P D : List Nat} {at_ i t n k : Nat} (h : RI B P D at_ i t) (h0 : t % 2 = 1) (hr : rd (P.drop i) = (0, n, k)) (hb : n ≤ B.length - at_) (hs : P.length - (i + k) < n) : unp B P = (2, []) := by
 have h1 := h.hu
 rw [show decide (t % 2 = 1) = true by simp; omega, un_short (h.tk hr hb) (by simp; omega)] at h1
 exact unp_err h1.symm (by decide)
theorem RI.odd {B P D D' : List Nat} {at_ i t n k : Nat} (h : RI B P D at_ i t) (h0 : t % 2 = 1) (hr : rd (P.drop i) = (0, n, k)) (hb : n ≤ B.length - at_) (hs : n ≤ P.length - (i + k)) (w : RW D D' (P.drop (i + k)) at_ n) : RI B P D' (at_ + n) (i + k + n) (t + 1) := by
 have hk := rd_ok hr
 have hi := h.hi
 have ha := h.ha
 simp only [List.length_drop] at hk
 refine ⟨w.len.trans h.len, ?_, by omega, by omega, by have := h.ht; omega, ?_⟩
 ·rw [w.post]
  have := congrArg (List.drop n) h.rest
  simpa [List.drop_drop] using this
 ·have h1 := h.hu
  rw [show decide (t % 2 = 1) = true by simp; omega, un_diff (h.tk hr hb) (by simp; omega), List.drop_drop, List.drop_drop] at h1
  rw [← h1, show decide ((t + 1) % 2 = 1) = false by simp; omega, w.pre]
set_option maxHeartbeats 16000000 in
theorem runpack_c (v1 v2 : Value) (B P : List Nat) (hm : B.length ≤ 16000) (hmp : P.length ≤ 16000) (w : World) (h1 : Rd w v1 B) (h2 : Rd w v2 P) : Calls Try.prog 14 #[v1, v2] w (UnpE B P w) := by
 obtain ⟨v', w2, hr, ho, hb⟩ := app_c (own_mt w w.heap.size (Nat.le_refl _)) (h1.below (own1 w _)) (by simp) (by simp; omega)
 rw [List.nil_append] at ho
 have R1 := Lib.hid h1
 have R2 := Lib.hid h2
 obtain ⟨a1, n, c1, rfl, n1, _, _, _, _⟩ := h1.open
 obtain ⟨a2, np, c2, rfl, n2, _, _, _, at2⟩ := h2.open
 obtain ⟨av, cv, rfl⟩ := ho.slice
 have A2 := Lib.hid at2
 rw [n1] at ho hr hm
 rw [n2] at hmp
 have RUN := Lib.hid hr
 have N1 := Lib.hid n1
 have N2 := Lib.hid n2
 have HO := Lib.hid ho
 have HB := Lib.hid (((Below.refl w.heap.size w).alloc (Nat.le_refl _) (.cells #[] 5)).trans hb)
 clear h1 h2 n1 n2 at2 hr ho hb
 go_enter Try.func14, Try.ntmps14
 go_upto_region 2 with (at_builtin; refine wpList_append_run rfl _ _ _ (.slice (some ⟨w.heap.size, 0, none⟩) 0 0) (.slice a1 n c1) _ rfl rfl rfl RUN.out ?_)
 go_wp2
 go_loopg [7, 8, 9] np (fun g' s7 s8 s9 wr => ∃ (at_ i t : Nat) (D : List Nat), s7 = .int .i64 at_ ∧ s8 = .int .i64 i ∧ s9 = .int .i64 t ∧ g' + i = np ∧ Ow wr w.heap.size (.slice av n cv) D ∧ Below w.heap.size w wr ∧ Hid (RI B P D at_ i t))
 case atStart => exact ⟨0, 0, 0, B, rfl, rfl, rfl, by omega, HO.out, HB.out, Lib.hid ⟨rfl, rfl, Nat.zero_le _, Nat.zero_le _, Nat.le_refl _, by simp⟩⟩
 case round =>
  obtain ⟨u, hu⟩ : ∃ q_, q_ = wr := ⟨_, rfl⟩
  subst hu
  obtain ⟨at_, i, t, D, rfl, rfl, rfl, hg, ho, hb, HI⟩ := hrel
  have TG := Lib.hid hg
  have HO1 := Lib.hid ho
  have HB1 := Lib.hid hb
  have an : at_ ≤ n := by have := HI.out.ha; have := N1.out; omega
  have inp : i ≤ np := by have := HI.out.hi; have := N2.out; omega
  have tn : t ≤ 16000 := by have := HI.out.ht; omega
  clear hg ho hb HO HB RUN
  obtain ⟨V, sv, rv⟩ := cut_c R2.out i (by rw [N2.out]; exact inp)
  rcases hrd : rd (P.drop i) with ⟨e, nn, kk⟩
  have RD := Lib.hid hrd
  clear hrd
  go_wp2_with (fail)
  refine (read_c V (P.drop i) (by simp; rw [N2.out]; omega) u (rv _ (R2.out.below HB1.out))).mono ?_
  unfold RdE
  rw [RD.out]
  rintro q_ w' ⟨rfl, hb⟩
  have hb' := hb.symm
  clear hb
  subst hb'
  dsimp only
  clear sv rv
  by_cases he : e = 0
  case neg =>
   obtain ⟨rfl, rfl⟩ := rd_bad RD.out he
   have RES := Lib.hid (HI.out.err RD.out he)
   have hne : ((e : Int) != 0) = true := by simp; omega
   clear he
   go_wp2
   go_ret2
   exact UnpE.bad RES.out HB1.out
  subst he
  have KB := rd_ok RD.out
  simp only [List.length_drop] at KB
  rw [N2.out] at KB
  obtain ⟨i1, hi1⟩ : ∃ q_, i + kk = q_ := ⟨_, rfl⟩
  have i1i : (i : Int) + kk = i1 := by omega
  have i1n : i1 ≤ np := by omega
  have II := Lib.hid (show i < i1 by omega)
  have I1 := Lib.hid hi1
  obtain ⟨mo, hmo⟩ : ∃ q_, n - at_ = q_ := ⟨_, rfl⟩
  have moi : (n : Int) - at_ = mo := by omega
  have MO := Lib.hid hmo
  clear KB hi1 hmo
  by_cases hbig : nn ≤ mo
  case neg =>
   have RES := Lib.hid (HI.out.big RD.out (by rw [N1.out, MO.out]; omega))
   have hgt : (mo : Int) < nn := by omega
   clear hbig
   go_wp2
   go_ret2
   exact UnpE.bad RES.out HB1.out
  have hgt : ¬ (mo : Int) < nn := by omega
  have NM := Lib.hid (show nn ≤ B.length - at_ by rw [N1.out, MO.out]; exact hbig)
  obtain ⟨l1, hl1⟩ : ∃ q_, at_ + nn = q_ := ⟨_, rfl⟩
  have l1i : (at_ : Int) + nn = l1 := by omega
  have l1n : l1 ≤ n := by have := MO.out; omega
  have L1 := Lib.hid hl1
  clear hbig hl1
  by_cases hodd : t % 2 = 1
  case pos =>
   have od1 : (t : Int).tmod 2 = 1 := by rw [Int.tmod_eq_emod_of_nonneg (by omega)]; omega
   have od2 : (t : Int) % 2 = 1 := by omega
   obtain ⟨r, hr⟩ : ∃ q_, np - i1 = q_ := ⟨_, rfl⟩
   have ri : (np : Int) - i1 = r := by omega
   have RR := Lib.hid hr
   have OD := Lib.hid hodd
   clear hr hodd
   by_cases hsh : nn ≤ r
   case neg =>
    have RES := Lib.hid (HI.out.short OD.out RD.out NM.out (by rw [N2.out, I1.out, RR.out]; omega))
    have hgt2 : (r : Int) < nn := by omega
    clear hsh
    go_wp2
    go_ret2
    exact UnpE.bad RES.out HB1.out
   have hgt2 : ¬ (r : Int) < nn := by omega
   have NR := Lib.hid (show nn ≤ P.length - (i + kk) by rw [N2.out, I1.out, RR.out]; exact hsh)
   obtain ⟨i2, hi2⟩ : ∃ q_, i1 + nn = q_ := ⟨_, rfl⟩
   have i2i : (i1 : Int) + nn = i2 := by omega
   have I2 := Lib.hid hi2
   have i2n : i2 ≤ np := by have := RR.out; omega
   clear hsh hi2
   go_upto_region 14 with (fail)
   go_wp2
   go_loopg [13] nn (fun g' s wr => ∃ (j : Nat) (D' : List Nat), s = .int .i64 j ∧ g' + j = nn ∧ j ≤ nn ∧ Ow wr w.heap.size (.slice av n cv) D' ∧ Below w.heap.size w wr ∧ Hid (RW D D' (P.drop (i + kk)) at_ j))
   case atStart => exact ⟨0, D, rfl, by omega, Nat.zero_le _, HO1.out, HB1.out, Lib.hid (RW.zero _ _ _)⟩
   case round =>
    obtain ⟨u2, hu⟩ : ∃ q_, q_ = wr := ⟨_, rfl⟩
    subst hu
    obtain ⟨j, D', rfl, hg, hj, ho, hb, HW⟩ := hrel
    have TG2 := Lib.hid hg
    have HO2 := Lib.hid ho
    have HB2 := Lib.hid hb
    clear hg ho hb
    by_cases hlt : j < nn
    ·have l0 : (j : Int) < nn := by omega
     obtain ⟨x1, hx1⟩ : ∃ q_, at_ + j = q_ := ⟨_, rfl⟩
     obtain ⟨x2, hx2⟩ : ∃ q_, i1 + j = q_ := ⟨_, rfl⟩
     have x1i : (at_ : Int) + j = x1 := by omega
     have x2i : (i1 : Int) + j = x2 := by omega
     have x1n : (x1 : Int) < n := by have := L1.out; omega
     have x2n : (x2 : Int) < np := by have := RR.out; have := I2.out; omega
     have DL := Lib.hid (show D'.length = n by rw [HW.out.len, HI.out.len, N1.out])
     obtain ⟨z, hz⟩ := at_ex (L := P) (k := x2) (by rw [N2.out]; omega)
     have zb := R2.out.by.at hz
     obtain ⟨b2, o2, rfl, l2, m2⟩ := A2.out (by rw [N2.out]; omega)
     have e2 := (HB2.out.cell (p := ⟨b2, o2 + x2, none⟩) l2).trans (m2 x2 z hz)
     obtain ⟨p, hp⟩ := at_ex (L := D') (k := x1) (by rw [DL.out]; omega)
     obtain ⟨gb, cg, eg, hge, _⟩ := HO2.out.full (by rw [DL.out]; omega)
     injection eg with e3 e4 e5
     subst e3; subst e5
     clear e4
     obtain ⟨q1, q2⟩ := HO2.out.cell hp
     have HS := Lib.hid (st_own HO2.out DL.out x1 z zb)
     have HW2 := Lib.hid (show RW D (D'.set x1 z) (P.drop (i + kk)) at_ (j + 1) by
      have := HW.out.step (z := z) (by rw [List.getElem?_drop, I1.out, hx2]; exact hz) (by rw [hx1, HI.out.len, N1.out]; omega)
      rw [hx1] at this; exact this)
     clear hx1 hx2 hz hp m2
     go_wp2
     go_roundg (nn - (j + 1))
     ·exact ⟨j + 1, D'.set x1 z, by simp, by omega, by omega, HS.out.1, HB2.out.trans HS.out.2, HW2⟩
     case measure => have := TG2.out; omega
    ·have l0 : ¬ (j : Int) < nn := by omega
     obtain rfl : nn = j := by omega
     have NI := Lib.hid (show RI B P D' l1 i2 (t + 1) by
      have := HI.out.odd OD.out RD.out NM.out NR.out HW.out
      rw [L1.out, I1.out, I2.out] at this; exact this)
     go_wp2
     go_roundg (np - i2)
     ·exact ⟨l1, i2, t + 1, D', rfl, rfl, by simp, by omega, HO2.out, HB2.out, NI⟩
     case measure => have := TG.out; have := II.out; have := I2.out; omega
  have h0 : t % 2 = 0 := by omega
  have od1 : (t : Int).tmod 2 = 0 := by rw [Int.tmod_eq_emod_of_nonneg (by omega)]; omega
  have od2 : (t : Int) % 2 = 0 := by omega
  have EV := Lib.hid h0
  clear hodd h0
  by_cases hend : l1 = n
  case neg =>
   have hc : ((l1 : Int) == n) = false := by simp; omega
   have NI := Lib.hid (show RI B P D l1 i1 (t + 1) by
    have := HI.out.even EV.out RD.out NM.out (by rw [L1.out, N1.out]; omega)
    rw [L1.out, I1.out] at this; exact this)
   clear hend
   go_wp2
   go_roundg (np - i1)
   ·exact ⟨l1, i1, t + 1, D, rfl, rfl, by simp, by omega, HO1.out, HB1.out, NI⟩
   case measure => have := TG.out; have := II.out; omega
  have hc : ((l1 : Int) == n) = true := by simp; omega
  have LAST := Lib.hid (show un B [] P false = (0, D, P.drop i1) by
   have := HI.out.last EV.out RD.out NM.out (by rw [L1.out, N1.out]; exact hend)
   rw [I1.out] at this; exact this)
  have DL := Lib.hid (show D.length = n by rw [HI.out.len, N1.out])
  clear hend
  by_cases htl : i1 < np
  ·have RES := Lib.hid (unp_tl LAST.out (by intro h; have := congrArg List.length h; simp at this; have := N2.out; omega))
   have l0 : (i1 : Int) < np := by omega
   clear htl
   go_wp2
   go_ret2
   exact UnpE.bad RES.out HB1.out
  have l0 : ¬ (i1 : Int) < np := by omega
  have LAST2 := Lib.hid (show un B [] P false = (0, D, []) by rw [LAST.out, List.drop_of_length_le (by rw [N2.out]; omega)])
  clear htl
  go_wp2_with (fail)
  refine (rpack_c _ _ B D (by rw [DL.out]; exact hm) u (R1.out.below HB1.out) HO1.out.rd).mono ?_
  rintro q_ u3 ⟨s3, rfl, o3, b3⟩
  rw [if_pos (by rw [N1.out, DL.out])] at o3 ⊢
  have KR := o3.rd
  obtain ⟨a3, n3, c3, rfl, n3', _, _, _, at3⟩ := KR.open
  have N3 := Lib.hid n3'
  have A3 := Lib.hid at3
  have HO3 := Lib.hid (HO1.out.below b3)
  have HB3 := Lib.hid (via HB1.out b3)
  have LN := Lib.hid (pk_len _ B D (Nat.le_refl _) (by rw [N1.out, DL.out]) (by rw [DL.out]; omega))
  have n3b : n3 ≤ 90000 := by rw [← n3']; have := LN.out; have := DL.out; omega
  clear o3 b3 KR n3' at3 HO1 HB1
  by_cases hlen : n3 = np
  case neg =>
   have RES := Lib.hid (unp_kind LAST2.out (by intro h; have := congrArg List.length h; have := N3.out; have := N2.out; omega))
   have hl : ((n3 : Int) != np) = true := by simp; omega
   clear hlen
   go_wp2
   go_ret2
   exact UnpE.bad RES.out HB3.out
  subst hlen
  have hl : ((n3 : Int) != n3) = false := by simp
  go_upto_region 26 with (fail)
  go_wp2
  go_loopg [99] n3 (fun g' s wr => ∃ (j : Nat), s = .int .i64 j ∧ g' + j = n3 ∧ j ≤ n3 ∧ Below u3.heap.size u3 wr ∧ Hid ((pk B D).take j = P.take j))
  case atStart => exact ⟨0, rfl, by omega, Nat.zero_le _, Below.refl _ _, Lib.hid (by simp)⟩
  case round =>
   obtain ⟨u4, hu⟩ : ∃ q_, q_ = wr := ⟨_, rfl⟩
   subst hu
   obtain ⟨j, rfl, hg, hj, hb, HE⟩ := hrel
   have TG3 := Lib.hid hg
   have HB4 := Lib.hid hb
   clear hg hb
   by_cases hlt : j < n3
   ·have l0 : (j : Int) < n3 := by omega
    obtain ⟨x, hx⟩ := at_ex (L := pk B D) (k := j) (by rw [N3.out]; exact hlt)
    obtain ⟨y, hy⟩ := at_ex (L := P) (k := j) (by rw [N2.out]; exact hlt)
    obtain ⟨b3, o3, rfl, l3, m3⟩ := A3.out (by rw [N3.out]; omega)
    obtain ⟨b2, o2, rfl, l2, m2⟩ := A2.out (by rw [N2.out]; omega)
    have e3 := (HB4.out.cell (p := ⟨b3, o3 + j, none⟩) l3).trans (m3 j x hx)
    have e2 := ((via HB3.out HB4.out).cell (p := ⟨b2, o2 + j, none⟩) l2).trans (m2 j y hy)
    have HX := Lib.hid hx
    have HY := Lib.hid hy
    clear hx hy m2 m3
    by_cases hxy : x = y
    ·have ne : ((x : Int) != y) = false := by simp; omega
     have HS := Lib.hid (show (pk B D).take (j + 1) = P.take (j + 1) by rw [List.take_add_one, List.take_add_one, HE.out, HX.out, HY.out, hxy])
     clear hxy
     go_wp2
     go_quiet (fail)
     go_wp2
     go_roundg (n3 - (j + 1))
     ·exact ⟨j + 1, by simp, by omega, by omega, below_drewN HB4.out _, HS⟩
     case measure => have := TG3.out; omega
    ·have ne : ((x : Int) != y) = true := by simp; omega
     have RES := Lib.hid (unp_kind LAST2.out (by
      intro h
      have h4 := HX.out
      rw [h, HY.out] at h4
      injection h4 with h4
      exact hxy h4.symm))
     clear hxy
     go_wp2
     go_quiet (fail)
     go_wp2
     go_ret2
     exact UnpE.bad RES.out (below_drewN (via HB3.out HB4.out) _)
   ·have l0 : ¬ (j : Int) < n3 := by omega
    have RES := Lib.hid (unp_fine LAST2.out (by
     have h3 := HE.out
     rwa [List.take_of_length_le (by rw [N3.out]; omega), List.take_of_length_le (by rw [N2.out]; omega)] at h3))
    go_wp2
    go_ret2
    exact UnpE.good RES.out (HO3.out.below HB4.out) (via HB3.out HB4.out)
end Go.Proofs.Ytklbhbappaibgaa
