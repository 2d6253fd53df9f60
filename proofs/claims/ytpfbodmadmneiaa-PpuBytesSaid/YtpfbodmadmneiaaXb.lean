/-
 Plain data: bytes that are a state, and what they are decoded to; no program, no condition.
-/
import Derived.Test.YtpfbodmadmneiaaTz
import Derived.Test.YtpfbodmadmneiaaEo
import Derived.Deep.Cut
import Derived.BigQuiet
import Derived.WalkSmall
import Derived.Deep.LoopGhost
import Derived.Deep.DeepCutAuto
import Derived.Deep.CutBlock
import Derived.Laws.StructEq
import Derived.Test.YtpfbodmadmneiaaFw
import Derived.Test.YtpfbodmadmneiaaAw
import Derived.Laws.IdiomCopy
import Derived.OwnWalk
import Derived.Laws.AppendOwn
import Derived.Laws.OwnMore
import Derived.Laws.MakeOwn
import Derived.Laws.Tables
namespace Go.Proofs.Ytpfbodmadmneiaa
open Go.ChangeShapes Go.WideShapes Go.ChangeAt Go.RowKit
set_option linter.unusedVariables false
set_option linter.unusedSimpArgs false
set_option maxRecDepth 100000
set_option maxHeartbeats 1000000 in
theorem same_c (n : Nat) (hm : n ≤ 1000000) (v1 v2 : Value) (g1 g2 : Nat) (f1 f2 : M) (he : ∀ j, j < n → f1 j = f2 j) (w : World) (h1 : RowB w v1 n f1 g1) (h2 : RowB w v2 n f2 g2) : Calls Try.prog 16 #[v1, v2] w fun q_ w' => q_ = .returned (.bool true) ∧ Below w.heap.size w w' := by
  obtain ⟨c1, rfl, _, lg1, hc1, _⟩ := h1
  obtain ⟨c2, rfl, _, lg2, hc2, _⟩ := h2
  have H1 := Lib.hid hc1
  have H2 := Lib.hid hc2
  have HE := Lib.hid he
  clear hc1 hc2 he
  go_enter Try.func16, Try.ntmps16
  go_wp2
  go_loopg [13] n (fun g' i wr => ∃ (t : Nat), t ≤ n ∧ g' + t = n ∧ i = .int .i64 t ∧ Below w.heap.size w wr)
  case atStart => exact ⟨0, by omega, by omega, rfl, Below.refl _ _⟩
  case round =>
    obtain ⟨u3, hu⟩ : ∃ q_, q_ = wr := ⟨_, rfl⟩
    subst hu
    obtain ⟨t, ht, hg, rfl, hb⟩ := hrel
    have TG := Lib.hid hg
    have HB := Lib.hid hb
    clear hg hb
    by_cases hlt : t < n
    · have l1 : (t : Int) < n := by omega
      have e1 := (HB.out.cell (p := ⟨g1, t, none⟩) lg1).trans (H1.out t hlt)
      have e2 := (HB.out.cell (p := ⟨g2, t, none⟩) lg2).trans (H2.out t hlt)
      rw [HE.out t hlt] at e1
      generalize f2 t = x at e1 e2
      go_wp2
      go_quiet (fail)
      go_wp2
      go_roundg (gk - 1)
      · exact ⟨t + 1, by omega, by have := TG.out; omega, by simp, below_drewN HB.out _⟩
      case measure => have := TG.out; omega
    · go_wp2
      go_ret
      exact ⟨rfl, HB.out⟩
end Go.Proofs.Ytpfbodmadmneiaa
namespace Go.Proofs.Ytpfbodmadmneiaa
open Go.ChangeShapes Go.WideShapes Go.ChangeAt Go.RowKit
set_option linter.unusedVariables false
set_option linter.unusedSimpArgs false
set_option maxRecDepth 100000
/-- A row of the picture. -/
def rwV (m : M) (line : Int) : M := if 0 ≤ line ∧ line < 144 then fun j => m (8367 + line.toNat * 160 + j) else zeroM
theorem row_in_u {m : M} (k : Nat) (h : 8367 ≤ k) (h2 : k + 160 ≤ 31407) (w : World) (b : Nat) (hP : Has w b (encU m)) : w.rangeAt b k (enc (fun j => m (k + j))).toList := fun j v hv => by
 have hj : j < 160 := by
  obtain ⟨q, _⟩ := List.getElem?_eq_some_iff.1 hv
  rwa [Array.length_toList, enc_size] at q
 rw [Array.getElem?_toList, enc_get _ _ hj] at hv
 rw [hP.2.1, encU_u _ _ (by omega) (by omega) (by omega)]; exact hv
/-- A row of the picture is loaded. -/
theorem load_row {ops : Array Oper} {rest : List Oper} {op : Oper} {a : Act} {w : World} {Q : Exit → Act → World → Prop} {b : Nat} {m : M} (hP : Has w b (encU m))
  (hgd : op.guard = none) (x : Operand) (ho : op.op = .load 34 x) (k : Nat) (hx : a.eval x = .pointer (some ⟨b, k, none⟩)) (h : 8367 ≤ k) (h2 : k + 160 ≤ 31407)
  (hK : wpList Try.prog ops Q rest (a.put op.dst (.agg (enc (fun j => m (k + j))))) w) : wpList Try.prog ops Q (op :: rest) a w := by
 obtain ⟨d, hd, hr⟩ := r34.d
 exact wpList_load_mid hgd 34 x ho b k hx (enc (fun j => m (k + j))).toList d (row_in_u k h h2 w b hP) hd hr (by rw [r34.i]; simp [enc_size]) (by simpa using hK)
theorem zc34 : Try.zeroCells34 = enc zeroM := by
 have h1 := zero34
 have h2 := Try.zeroValue34
 have w : World := default
 have e := (h1 w).symm.trans (h2 w)
 injection e with e1 _
 injection e1 with e1
 exact e1.symm
set_option maxHeartbeats 4000000 in
theorem row_0 (b : Nat) (m : M) (n : Nat) (n1 : n < 144) (w : World) (h : Has w b (encU m)) : Calls Try.prog 15 #[.pointer (some ⟨b, 0, none⟩), .int .i64 (n : Int)] w fun q_ w' => q_ = .returned (.agg (enc (fun j => m (8367 + n * 160 + j)))) ∧ Below w.heap.size w w' := by
 suffices hall : ∀ (n_ : Nat) (W0 : World), n_ ≤ W0.heap.size → Below n_ W0 w → Calls Try.prog 15 #[.pointer (some ⟨b, 0, none⟩), .int .i64 (n : Int)] w fun q_ w' => q_ = .returned (.agg (enc (fun j => m (8367 + n * 160 + j)))) ∧ Below n_ W0 w' from hall _ _ (Nat.le_refl _) (Below.refl _ _)
 intro n_ W0 hn hB
 have HN := Lib.hid hn
 have P0 := Lib.hid h
 clear hn h
 have Q_ := own1 w (.cells Try.zeroCells34 34)
 have B1 := Lib.hid (vian HN.out hB Q_)
 have P1 := Lib.hid (P0.out.below Q_)
 have X1 := Lib.hid (Has.new w Try.zeroCells34 34)
 have LX := Lib.hid (Nat.le_trans HN.out hB.size)
 have NX := Lib.hid (Nat.ne_of_lt P0.out.1)
 clear Q_ hB
 have n2 : (n : Int) < 144 := by omega
 go_enter Try.func15, Try.ntmps15
 go_upto_region 1 with (fail)
 generalize w.alloc (.cells Try.zeroCells34 34) = u1 at B1 P1 X1 ⊢
 generalize w.heap.size = xb at X1 LX NX ⊢
 clear P0
 go_upto_region 3 with (fail)
 go_wp2_with (first | refine load_row P1.out rfl _ rfl _ rfl (by omega) (by omega) ?_ | refine store_g r34 X1.out Try.zeroCells34_size (enc (fun j => m (8367 + n * 160 + j))) (enc_size _) (enc_one _) rfl _ _ rfl rfl rfl ?_)
 try go_wp2_with (refine store_g r34 X1.out Try.zeroCells34_size (enc (fun j => m (8367 + n * 160 + j))) (enc_size _) (enc_one _) rfl _ _ rfl rfl rfl ?_)
 intro u2 hP hk
 have B2 := Lib.hid (hk.below HN.out LX.out B1.out)
 have X2 := Lib.hid hP
 clear hP hk
 try simp only [Act.put]
 go_wp2
 exact bodyPost_ret (v := .agg (enc (fun j => m (8367 + n * 160 + j)))) (results_g r34 Try.results15 _ rfl X2.out (enc_size _)) rfl ⟨rfl, B2.out⟩
set_option maxHeartbeats 4000000 in
theorem row_lo (b : Nat) (m : M)  (w : World) (h : Has w b (encU m)) : Calls Try.prog 15 #[.pointer (some ⟨b, 0, none⟩), .int .i64 (-1)] w fun q_ w' => q_ = .returned (.agg (enc (zeroM))) ∧ Below w.heap.size w w' := by
 suffices hall : ∀ (n_ : Nat) (W0 : World), n_ ≤ W0.heap.size → Below n_ W0 w → Calls Try.prog 15 #[.pointer (some ⟨b, 0, none⟩), .int .i64 (-1)] w fun q_ w' => q_ = .returned (.agg (enc (zeroM))) ∧ Below n_ W0 w' from hall _ _ (Nat.le_refl _) (Below.refl _ _)
 intro n_ W0 hn hB
 have HN := Lib.hid hn
 have P0 := Lib.hid h
 clear hn h
 have Q_ := own1 w (.cells Try.zeroCells34 34)
 have B1 := Lib.hid (vian HN.out hB Q_)
 have P1 := Lib.hid (P0.out.below Q_)
 have X1 := Lib.hid (Has.new w Try.zeroCells34 34)
 have LX := Lib.hid (Nat.le_trans HN.out hB.size)
 have NX := Lib.hid (Nat.ne_of_lt P0.out.1)
 clear Q_ hB
 go_enter Try.func15, Try.ntmps15
 go_upto_region 1 with (fail)
 generalize w.alloc (.cells Try.zeroCells34 34) = u1 at B1 P1 X1 ⊢
 generalize w.heap.size = xb at X1 LX NX ⊢
 clear P0
 go_upto_region 2 with (fail)
 rw [zc34] at X1
 go_wp2_with (refine store_g r34 X1.out (enc_size _) (enc zeroM) (enc_size _) (enc_one _) rfl _ _ rfl rfl (by rw [← zc34]; rfl) ?_)
 intro u2 hP hk
 have B2 := Lib.hid (hk.below HN.out LX.out B1.out)
 have X2 := Lib.hid hP
 clear hP hk
 try simp only [Act.put]
 go_wp2
 exact bodyPost_ret (v := .agg (enc (zeroM))) (results_g r34 Try.results15 _ rfl X2.out (enc_size _)) rfl ⟨rfl, B2.out⟩
set_option maxHeartbeats 4000000 in
theorem row_hi (b : Nat) (m : M) (line : Int) (l0 : 144 ≤ line) (l1 : line < 256) (w : World) (h : Has w b (encU m)) : Calls Try.prog 15 #[.pointer (some ⟨b, 0, none⟩), .int .i64 line] w fun q_ w' => q_ = .returned (.agg (enc (zeroM))) ∧ Below w.heap.size w w' := by
 suffices hall : ∀ (n_ : Nat) (W0 : World), n_ ≤ W0.heap.size → Below n_ W0 w → Calls Try.prog 15 #[.pointer (some ⟨b, 0, none⟩), .int .i64 line] w fun q_ w' => q_ = .returned (.agg (enc (zeroM))) ∧ Below n_ W0 w' from hall _ _ (Nat.le_refl _) (Below.refl _ _)
 intro n_ W0 hn hB
 have HN := Lib.hid hn
 have P0 := Lib.hid h
 clear hn h
 have Q_ := own1 w (.cells Try.zeroCells34 34)
 have B1 := Lib.hid (vian HN.out hB Q_)
 have P1 := Lib.hid (P0.out.below Q_)
 have X1 := Lib.hid (Has.new w Try.zeroCells34 34)
 have LX := Lib.hid (Nat.le_trans HN.out hB.size)
 have NX := Lib.hid (Nat.ne_of_lt P0.out.1)
 clear Q_ hB
 have g0 : ¬ line < 0 := by omega
 go_enter Try.func15, Try.ntmps15
 go_upto_region 1 with (fail)
 generalize w.alloc (.cells Try.zeroCells34 34) = u1 at B1 P1 X1 ⊢
 generalize w.heap.size = xb at X1 LX NX ⊢
 clear P0
 go_upto_region 2 with (fail)
 rw [zc34] at X1
 go_wp2_with (refine store_g r34 X1.out (enc_size _) (enc zeroM) (enc_size _) (enc_one _) rfl _ _ rfl rfl (by rw [← zc34]; rfl) ?_)
 intro u2 hP hk
 have B2 := Lib.hid (hk.below HN.out LX.out B1.out)
 have X2 := Lib.hid hP
 clear hP hk
 try simp only [Act.put]
 go_wp2
 exact bodyPost_ret (v := .agg (enc (zeroM))) (results_g r34 Try.results15 _ rfl X2.out (enc_size _)) rfl ⟨rfl, B2.out⟩
theorem row_c (b : Nat) (m : M) (line : Int) (l0 : 0 ≤ line) (l1 : line < 256) (f : M) (hf : rwV m line = f) (w : World) (h : Has w b (encU m)) : Calls Try.prog 15 #[.pointer (some ⟨b, 0, none⟩), .int .i64 line] w fun q_ w' => q_ = .returned (.agg (enc f)) ∧ Below w.heap.size w w' := by
 subst hf
 unfold rwV
 by_cases g : 0 ≤ line ∧ line < 144
 ·rw [if_pos g]
  obtain ⟨n, rfl⟩ := Int.eq_ofNat_of_zero_le l0
  rw [Int.toNat_natCast]
  exact row_0 b m n (by omega) w h
 ·rw [if_neg g]; exact row_hi b m line (by omega) l1 w h
/-- A call is loaded out of a slice of calls. -/
theorem load_op {ops : Array Oper} {rest : List Oper} {op : Oper} {a : Act} {w : World} {Q : Exit → Act → World → Prop} {b k : Nat} {o : OpV} (hr : w.rangeAt b k o.cells.toList)
  (hgd : op.guard = none) (x : Operand) (ho : op.op = .load 33 x) (hx : a.eval x = .pointer (some ⟨b, k, none⟩))
  (hK : wpList Try.prog ops Q rest (a.put op.dst (.agg o.cells)) w) : wpList Try.prog ops Q (op :: rest) a w := by
 obtain ⟨d, hd, hrow⟩ : ∃ d, Try.prog.underlying 33 = some d ∧ d.isRow = true := ⟨_, Try.underlying33, rfl⟩
 have hi : (Try.prog.info? 33).map (·.size) = some 5 := by kernel_rfl
 exact wpList_load_mid hgd 33 x ho b k hx o.cells.toList d hr hd hrow (by rw [hi]; rfl) (by simpa using hK)
end Go.Proofs.Ytpfbodmadmneiaa
namespace Go.Proofs.Ytpfbodmadmneiaa
open Go.ChangeShapes Go.WideShapes Go.ChangeAt Go.RowKit
set_option linter.unusedVariables false
set_option linter.unusedSimpArgs false
set_option maxRecDepth 100000
/-- A unit behind calls. -/
def PlayE (f : M) (k : Nat) (W0 : World) (e : Ending) (w' : World) : Prop := ∃ b, e = .returned (.pointer (some ⟨b, 0, none⟩)) ∧ Has w' b (encU f) ∧ k ≤ b ∧ Below k W0 w'
set_option maxHeartbeats 8000000 in
theorem play_c (n_ : Nat) (W0 : World) (vv : Value) (n : Nat) (O : Nat → OpV) (hV : OpsB n_ W0 vv n O) (hfew : fewV n O = true) (hn : n_ ≤ W0.heap.size) (w : World) (hB : Below n_ W0 w) : Calls Try.prog 20 #[vv] w (PlayE (runM O n zeroM) n_ W0) := by
 obtain ⟨a, c, rfl, hn9, hO, hM⟩ := hV
 have HM := Lib.hid hM
 have HO := Lib.hid hO
 have HN := Lib.hid hn
 have B0 := Lib.hid hB
 have fw : (∀ j, j < n → (O j).len ≤ 600) ∧ n ≤ 30 := by unfold fewV at hfew; simpa using hfew
 have HL := Lib.hid fw.1
 have n30 := fw.2
 clear hM hO hn hB hfew fw
 go_enter Try.func20, Try.ntmps20
 go_wp2_with (fail)
 with_reducible refine (new_c _).mono ?_
 rintro q_ u1 ⟨rfl, hP, hb⟩
 have B1 := Lib.hid (vian HN.out B0.out hb)
 have P1 := Lib.hid hP
 have LP := Lib.hid (Nat.le_trans HN.out B0.out.size)
 clear hb hP B0
 generalize w.heap.size = pb at P1 LP ⊢
 go_wp2_with (fail)
 refine (rnew_c _).mono ?_
 rintro q_ u2 ⟨r, v, s, rfl, hQ, lr, lv, ls, hb⟩
 have B2 := Lib.hid (vian HN.out B1.out hb)
 have P2 := Lib.hid (P1.out.below hb)
 have Q2 := Lib.hid hQ
 have LR := Lib.hid (Nat.le_trans (Nat.le_trans HN.out B1.out.size) lr)
 have LV := Lib.hid (Nat.le_trans (Nat.le_trans HN.out B1.out.size) lv)
 have LS := Lib.hid (Nat.le_trans (Nat.le_trans HN.out B1.out.size) ls)
 have AP := Lib.hid (show Apart pb r v s from ⟨by have := P1.out.1; omega, by have := P1.out.1; omega, by have := P1.out.1; omega⟩)
 clear hb hQ lr lv ls B1 P1
 go_wp2
 go_loopg [10] n (fun g' i wr => ∃ (t : Nat), t ≤ n ∧ g' + t = n ∧ i = .int .i64 t ∧ Below n_ W0 wr ∧ Has wr pb (encU (runM O t zeroM)) ∧ RU wr r v s (runM O t zeroM))
 case atStart => exact ⟨0, by omega, by omega, rfl, B2.out, by rw [run_zero]; exact P2.out, by rw [run_zero]; exact Q2.out⟩
 case round =>
  obtain ⟨t, ht, hg, rfl, hB, hP, hQ⟩ := hrel
  have TG := Lib.hid hg
  have B3 := Lib.hid hB
  have P3 := Lib.hid hP
  have Q3 := Lib.hid hQ
  clear hg hB hP hQ B2 P2 Q2
  obtain ⟨u3, hu⟩ : ∃ q_, q_ = wr := ⟨_, rfl⟩
  subst hu
  by_cases hlt : t < n
  ·have l1 : (t : Int) < n := by omega
   obtain ⟨b, o, e, hb, hc⟩ := HM.out (by omega)
   subst e
   have okt := run_ok (fun j => ⟨(HO.out j).1, by obtain ⟨_, _, _, _, h3, _⟩ := (HO.out j).2; exact h3⟩) ok_zero t
   have DC := Lib.hid (do_c n_ W0 pb r v s AP.out LP.out LR.out LV.out LS.out HN.out (runM O t zeroM) okt (O t) (HO.out t).1 (HO.out t).2 (HL.out t hlt) u3 P3.out Q3.out B3.out)
   rw [← run_succ] at DC
   have rg : u3.rangeAt b (o + t * 5) (O t).cells.toList := fun q vq hq => by
    have hq5 : q < 5 := by
     obtain ⟨h, _⟩ := List.getElem?_eq_some_iff.1 hq
     exact h
    rw [Array.getElem?_toList] at hq
    exact ((B3.out.cell (p := ⟨b, o + t * 5 + q, none⟩) hb).trans (hc t hlt q hq5)).trans hq
   have RG := Lib.hid rg
   clear hc okt rg
   go_wp2_with (refine load_op RG.out rfl _ rfl rfl ?_)
   try simp only [Act.put, qqA, qqB, qqC]
   go_wp2_with (fail)
   with_reducible refine (DC.out).mono ?_
   rintro q_ u4 ⟨rfl, hP, hQ, hB⟩
   have B4 := Lib.hid hB
   have P4 := Lib.hid hP
   have Q4 := Lib.hid hQ
   clear hB hP hQ B3 P3 Q3 DC RG
   go_wp2
   go_roundg (gk - 1)
   ·exact ⟨t + 1, by omega, by have := TG.out; omega, by simp, B4.out, P4.out, Q4.out⟩
   case measure => have := TG.out; omega
  ·obtain rfl : n = t := by omega
   go_wp2
   go_ret
   exact ⟨pb, rfl, P3.out, LP.out, B3.out⟩
end Go.Proofs.Ytpfbodmadmneiaa
namespace Go.Proofs.Ytpfbodmadmneiaa
open Go.ChangeShapes Go.WideShapes Go.ChangeAt Go.RowKit
set_option linter.unusedVariables false
set_option linter.unusedSimpArgs false
set_option maxRecDepth 100000
/-- Bytes that are a state. -/
structure Sta (f : M) : Prop where
 line : f 8356 < 154
 dot : f 8363 < 114
 stat : bits .andNot .u8 (f 8353) 120 = 0
 act : f 8367 ≤ 1
 shade : ∀ j, j < 23040 → f (8368 + j) ≤ 3
set_option maxHeartbeats 2000000 in
theorem is_1 (g cc : Nat) (hcc : 31408 ≤ cc) (f : M) (w : World) (hc : ∀ j, j < 31408 → w.cell? ⟨g, j, none⟩ = some (.int .u8 (f j))) (x1 x2 x3 x4 : Int) (h1 : f 8356 = x1) (h2 : f 8363 = x2) (h3 : f 8353 = x3) (h4 : f 8367 = x4) (g1 : 154 ≤ x1) : Calls Try.prog 36 #[.slice (some ⟨g, 0, none⟩) 31408 cc] w fun q_ w' => q_ = .returned (.bool false) ∧ w' = w := by
 have ncc : ¬ cc = 8368 := by omega
 have e1 := hc 8356 (by decide)
 have e2 := hc 8363 (by decide)
 have e3 := hc 8353 (by decide)
 have e4 := hc 8367 (by decide)
 rw [h1] at e1
 rw [h2] at e2
 rw [h3] at e3
 rw [h4] at e4
 have HC := Lib.hid hc
 clear hc h1 h2 h3 h4
 go_enter Try.func36, Try.ntmps36
 go_wp2
 all_goals exact bodyPost_ret (v := .bool false) (by simp [results, Try.results36, go_sem]) rfl ⟨rfl, rfl⟩
set_option maxHeartbeats 2000000 in
theorem is_2 (g cc : Nat) (hcc : 31408 ≤ cc) (f : M) (w : World) (hc : ∀ j, j < 31408 → w.cell? ⟨g, j, none⟩ = some (.int .u8 (f j))) (x1 x2 x3 x4 : Int) (h1 : f 8356 = x1) (h2 : f 8363 = x2) (h3 : f 8353 = x3) (h4 : f 8367 = x4) (g1 : ¬ 154 ≤ x1) (g2 : 114 ≤ x2) : Calls Try.prog 36 #[.slice (some ⟨g, 0, none⟩) 31408 cc] w fun q_ w' => q_ = .returned (.bool false) ∧ w' = w := by
 have ncc : ¬ cc = 8368 := by omega
 have e1 := hc 8356 (by decide)
 have e2 := hc 8363 (by decide)
 have e3 := hc 8353 (by decide)
 have e4 := hc 8367 (by decide)
 rw [h1] at e1
 rw [h2] at e2
 rw [h3] at e3
 rw [h4] at e4
 have HC := Lib.hid hc
 clear hc h1 h2 h3 h4
 go_enter Try.func36, Try.ntmps36
 go_wp2
 all_goals exact bodyPost_ret (v := .bool false) (by simp [results, Try.results36, go_sem]) rfl ⟨rfl, rfl⟩
set_option maxHeartbeats 2000000 in
theorem is_3 (g cc : Nat) (hcc : 31408 ≤ cc) (f : M) (w : World) (hc : ∀ j, j < 31408 → w.cell? ⟨g, j, none⟩ = some (.int .u8 (f j))) (x1 x2 x3 x4 : Int) (h1 : f 8356 = x1) (h2 : f 8363 = x2) (h3 : f 8353 = x3) (h4 : f 8367 = x4) (g1 : ¬ 154 ≤ x1) (g2 : ¬ 114 ≤ x2) (g3 : (bits .andNot .u8 x3 120 != 0) = true) : Calls Try.prog 36 #[.slice (some ⟨g, 0, none⟩) 31408 cc] w fun q_ w' => q_ = .returned (.bool false) ∧ w' = w := by
 have ncc : ¬ cc = 8368 := by omega
 have e1 := hc 8356 (by decide)
 have e2 := hc 8363 (by decide)
 have e3 := hc 8353 (by decide)
 have e4 := hc 8367 (by decide)
 rw [h1] at e1
 rw [h2] at e2
 rw [h3] at e3
 rw [h4] at e4
 have HC := Lib.hid hc
 clear hc h1 h2 h3 h4
 go_enter Try.func36, Try.ntmps36
 go_wp2
 all_goals exact bodyPost_ret (v := .bool false) (by simp [results, Try.results36, go_sem]) rfl ⟨rfl, rfl⟩
set_option maxHeartbeats 2000000 in
theorem is_4 (g cc : Nat) (hcc : 31408 ≤ cc) (f : M) (w : World) (hc : ∀ j, j < 31408 → w.cell? ⟨g, j, none⟩ = some (.int .u8 (f j))) (x1 x2 x3 x4 : Int) (h1 : f 8356 = x1) (h2 : f 8363 = x2) (h3 : f 8353 = x3) (h4 : f 8367 = x4) (g1 : ¬ 154 ≤ x1) (g2 : ¬ 114 ≤ x2) (g3 : (bits .andNot .u8 x3 120 != 0) = false) (g4 : 1 < x4) : Calls Try.prog 36 #[.slice (some ⟨g, 0, none⟩) 31408 cc] w fun q_ w' => q_ = .returned (.bool false) ∧ w' = w := by
 have ncc : ¬ cc = 8368 := by omega
 have e1 := hc 8356 (by decide)
 have e2 := hc 8363 (by decide)
 have e3 := hc 8353 (by decide)
 have e4 := hc 8367 (by decide)
 rw [h1] at e1
 rw [h2] at e2
 rw [h3] at e3
 rw [h4] at e4
 have HC := Lib.hid hc
 clear hc h1 h2 h3 h4
 go_enter Try.func36, Try.ntmps36
 go_wp2
 all_goals exact bodyPost_ret (v := .bool false) (by simp [results, Try.results36, go_sem]) rfl ⟨rfl, rfl⟩
set_option maxHeartbeats 2000000 in
theorem is_5 (g cc : Nat) (hcc : 31408 ≤ cc) (f : M) (w : World) (hc : ∀ j, j < 31408 → w.cell? ⟨g, j, none⟩ = some (.int .u8 (f j))) (x1 x2 x3 x4 : Int) (h1 : f 8356 = x1) (h2 : f 8363 = x2) (h3 : f 8353 = x3) (h4 : f 8367 = x4) (g1 : ¬ 154 ≤ x1) (g2 : ¬ 114 ≤ x2) (g3 : (bits .andNot .u8 x3 120 != 0) = false) (g4 : ¬ 1 < x4) (z : Bool) (hz : z = true ↔ ∀ j, j < 23040 → f (8368 + j) ≤ 3) : Calls Try.prog 36 #[.slice (some ⟨g, 0, none⟩) 31408 cc] w fun q_ w' => q_ = .returned (.bool z) ∧ w' = w := by
 have ncc : ¬ cc = 8368 := by omega
 have e1 := hc 8356 (by decide)
 have e2 := hc 8363 (by decide)
 have e3 := hc 8353 (by decide)
 have e4 := hc 8367 (by decide)
 rw [h1] at e1
 rw [h2] at e2
 rw [h3] at e3
 rw [h4] at e4
 have HC := Lib.hid hc
 clear hc h1 h2 h3 h4
 have HZ := Lib.hid hz
 clear hz
 go_enter Try.func36, Try.ntmps36
 go_wp2
 go_loopg [29] 23040 (fun g' i wr => ∃ (t : Nat), t ≤ 23040 ∧ g' + t = 23040 ∧ i = .int .i64 t ∧ wr = w ∧ Hid (∀ j, j < t → f (8368 + j) ≤ 3))
 case atStart => exact ⟨0, by omega, by omega, rfl, rfl, Lib.hid (fun j hj => absurd hj (by omega))⟩
 case round =>
  obtain ⟨t, ht, hg, rfl, rfl, HE⟩ := hrel
  have TG := Lib.hid hg
  clear hg
  by_cases hlt : t < 23040
  ·have l1 : (t : Int) < 23040 := by omega
   have e5 := HC.out (8368 + t) (by omega)
   obtain ⟨x, hx⟩ : ∃ x, x = f (8368 + t) := ⟨_, rfl⟩
   rw [← hx] at e5
   have HX := Lib.hid hx
   clear hx
   by_cases q : 3 < x
   ·have ez : z = false := by
     cases z with
     | false => rfl
     | true => have := HZ.out.1 rfl t hlt; have := HX.out; omega
    subst ez
    go_wp2
    all_goals exact bodyPost_ret (v := .bool false) (by simp [results, Try.results36, go_sem]) rfl ⟨rfl, rfl⟩
   ·go_wp2
    go_roundg (gk - 1)
    ·refine ⟨t + 1, by omega, by have := TG.out; omega, by simp, rfl, Lib.hid (fun j hj => ?_)⟩
     by_cases e : j = t
     ·subst e; have := HX.out; omega
     ·exact HE.out j (by omega)
    case measure => have := TG.out; omega
  ·have ez : z = true := HZ.out.2 fun j hj => HE.out j (by omega)
   subst ez
   go_wp2
   all_goals exact bodyPost_ret (v := .bool true) (by simp [results, Try.results36, go_sem]) rfl ⟨rfl, rfl⟩
/-- Are bytes a state? -/
theorem is_c (z : Bool) (f : M) (hz : z = true ↔ Sta f) (v : Value) (g : Nat) (w : World) (hR : RowB w v 31408 f g) : Calls Try.prog 36 #[v] w fun q_ w' => q_ = .returned (.bool z) ∧ w' = w := by
 obtain ⟨cc, rfl, hcc, _, hc, _⟩ := hR
 have no : ∀ {p : Prop}, p → (p → ¬ Sta f) → z = false := fun hp h => by
  cases z with
  | false => rfl
  | true => exact absurd (hz.1 rfl) (h hp)
 by_cases g1 : 154 ≤ f 8356
 ·rw [no g1 (fun h s => by have := s.line; omega)]; exact is_1 g cc hcc f w hc _ _ _ _ rfl rfl rfl rfl g1
 by_cases g2 : 114 ≤ f 8363
 ·rw [no g2 (fun h s => by have := s.dot; omega)]; exact is_2 g cc hcc f w hc _ _ _ _ rfl rfl rfl rfl g1 g2
 by_cases g3 : bits .andNot .u8 (f 8353) 120 = 0
 ·by_cases g4 : 1 < f 8367
  ·rw [no g4 (fun h s => by have := s.act; omega)]; exact is_4 g cc hcc f w hc _ _ _ _ rfl rfl rfl rfl g1 g2 (by simp [g3]) g4
  ·exact is_5 g cc hcc f w hc _ _ _ _ rfl rfl rfl rfl g1 g2 (by simp [g3]) g4 z ⟨fun h => (hz.1 h).shade, fun h => hz.2 ⟨by omega, by omega, g3, by omega, h⟩⟩
 ·rw [no g3 (fun h s => h s.stat)]; exact is_3 g cc hcc f w hc _ _ _ _ rfl rfl rfl rfl g1 g2 (by simp [g3])
end Go.Proofs.Ytpfbodmadmneiaa
namespace Go.Proofs.Ytpfbodmadmneiaa
open Go.ChangeShapes Go.WideShapes Go.ChangeAt Go.RowKit
set_option linter.unusedVariables false
set_option linter.unusedSimpArgs false
set_option maxRecDepth 100000
theorem wp_copy_run {P : Program} {w w' : World} {o : Oper} {a : Act} {K : Act → World → Prop} {Q : Exit → Act → World → Prop} (s x : Operand) (t : TypeId) (v u v' : Value)
  (ho : o.op = .call { callee := .builtin .copy, args := #[s, x], argTypes := #[t, t] }) (hs : a.eval s = v) (hx : a.eval x = u)
  (hr : (Builtin.copy_ #[t, t] o.type #[v, u]).run P w = .ok v' w') (h : K (a.put o.dst v') w') : o.wp P a w K Q := by
 unfold Oper.wp execOp
 simp only [ho, resolve, invoke, builtin, Sem.run_bind, Sem.run_pure, Result.andThen_ok, List.map_toArray, List.map_cons, List.map_nil, hs, hx, hr]
 exact h
theorem wpList_copy_run {P : Program} {w w' : World} {ops : Array Oper} {rest : List Oper} {o : Oper} {a : Act} {Q : Exit → Act → World → Prop} (hgd : o.guard = none) (s x : Operand) (t : TypeId) (v u v' : Value)
  (ho : o.op = .call { callee := .builtin .copy, args := #[s, x], argTypes := #[t, t] }) (hs : a.eval s = v) (hx : a.eval x = u)
  (hr : (Builtin.copy_ #[t, t] o.type #[v, u]).run P w = .ok v' w') (h : wpList P ops Q rest (a.put o.dst v') w') : wpList P ops Q (o :: rest) a w :=
 wpList_plain hgd fun _ hK => wp_copy_run s x t v u v' ho hs hx hr (hK _ _ h)
theorem encU_congr (m m2 : M) (h : ∀ o, o < 31407 → m o = m2 o) : encU m = encU m2 := by
 apply Array.ext_getElem?
 intro o
 by_cases ho : o < 31407
 ·rw [encU_get _ _ ho, encU_get _ _ ho, h o ho]
 ·rw [Array.getElem?_eq_none (by rw [encU_size]; omega), Array.getElem?_eq_none (by rw [encU_size]; omega)]
theorem Has.urown {w : World} {b : Nat} {m : M} (h : Has w b (encU m)) (k n : Nat) (r : M) (h1 : k + n ≤ 8365 ∨ 8367 ≤ k) (h2 : k + n ≤ 31407) : Has (w.setCells b k (bl r n)) b (encU (row m k n r)) := by
 refine h.putRow k _ (by rw [bl_len, encU_size]; exact h2) (fun j hj => ?_) (fun o ho => ?_)
 ·rw [bl_len] at hj
  rw [encU_u _ _ (by omega) (by omega) (by omega), row_in _ _ _ _ _ (by omega) (by omega), Nat.add_sub_cancel_left, bl_at r n j hj]
 ·rw [bl_len] at ho
  by_cases ho2 : o < 31407
  ·rw [encU_get _ _ ho2, encU_get _ _ ho2, row_out _ _ _ _ _ (by omega)]
  ·rw [Array.getElem?_eq_none (by rw [encU_size]; omega), Array.getElem?_eq_none (by rw [encU_size]; omega)]
/-- Bytes are copied into a unit. -/
theorem cp_run {w : World} {b : Nat} {m : M} (h : Has w b (encU m)) (k n : Nat) (r : M) (h1 : k + n ≤ 8365 ∨ 8367 ≤ k) (h2 : k + n ≤ 31407) (ty : TypeId) (dc sg so sl sc : Nat)
  (hs : ∀ j, j < n → w.cell? ⟨sg, so + j, none⟩ = some (.int .u8 (r j))) (hn : n ≤ sl) :
  ∃ v' w', (Builtin.copy_ #[31, 31] ty #[.slice (some ⟨b, k, none⟩) n dc, .slice (some ⟨sg, so, none⟩) sl sc]).run Try.prog w = .ok v' w' ∧ Has w' b (encU (row m k n r)) ∧ Keeps b w w' := by
 have hi : (Try.prog.info? 5).map (·.size) = some 1 := by kernel_rfl
 refine ⟨_, _, run_copy_cells (P := Try.prog) w 31 31 ty 5 b k n dc ⟨sg, so, none⟩ sl sc (bl r n) Try.underlying31 hi (by rw [bl_len]; exact (Nat.min_eq_right hn).symm) (fun j v hj => ?_) (fun j hj => ?_) (fun j hj => h.2.2 _) (bl_one r n), h.urown k n r h1 h2, Keeps.setCells _ k (Keeps.refl b w)⟩
 ·have hj2 : j < n := by
   obtain ⟨q, _⟩ := List.getElem?_eq_some_iff.1 hj
   rwa [bl_len] at q
  rw [bl_at r n j hj2] at hj
  rw [← hj, ← hs j hj2, Go.WideShapes.add_plain]
 ·rw [bl_len] at hj
  rw [h.2.1, encU_get _ _ (by omega)]; rfl
theorem wp_put_g {t : TypeId} {op : Oper} {a : Act} {w : World} {K : Act → World → Prop} {Q : Exit → Act → World → Prop} {b : Nat} {A : Array Value} (h : Has w b A) (A2 : Array Value)
  (x y : Operand) (ho : op.op = .store t x y) (o : Nat) (hx : a.eval x = .pointer (some ⟨b, o, none⟩)) (v : Value) (hy : a.eval y = v)
  (hs : (storeVar t ⟨b, o, none⟩ v).run Try.prog w = .ok () (w.setCell ⟨b, o, none⟩ v)) (h2 : o < A.size) (hA : A.setIfInBounds o v = A2)
  (hK : ∀ w', Has w' b A2 → Keeps b w w' → K (a.put op.dst undef) w') : op.wp Try.prog a w K Q := by
 subst hA
 unfold Oper.wp execOp
 simp only [ho, hx, hy, Instr.storeAt, Instr.sureAddr, Sem.run_bind, Sem.run_pure, Result.andThen_ok, hs]
 exact hK _ (h.set o v h2) ((Keeps.refl b w).setCell o _)
theorem wp_ust_u {op : Oper} {a : Act} {w : World} {K : Act → World → Prop} {Q : Exit → Act → World → Prop} {b : Nat} {m : M} (h : Has w b (encU m))
  (x y : Operand) (ho : op.op = .store 5 x y) (o : Nat) (hx : a.eval x = .pointer (some ⟨b, o, none⟩)) (z : Int) (hy : a.eval y = .int .u8 z) (h1 : o < 31407) (h3 : o ≠ 8365) (h4 : o ≠ 8366)
  (hK : ∀ w', Has w' b (encU (upd m o z)) → Keeps b w w' → K (a.put op.dst undef) w') : op.wp Try.prog a w K Q :=
 wp_put_g h _ x y ho o hx _ hy (sv_u h (encU_u m o h1 h3 h4)) (by rw [encU_size]; exact h1) (by rw [← ucell_u o z h3 h4, encU_set m o z h1]) hK
theorem wp_store_f {op : Oper} {a : Act} {w : World} {K : Act → World → Prop} {Q : Exit → Act → World → Prop} {b : Nat} {m : M} (h : Has w b (encU m))
  (x y : Operand) (ho : op.op = .store 30 x y) (hx : a.eval x = .pointer (some ⟨b, 8365, none⟩)) (z : Int) (hy : a.eval y = .int .u16 z)
  (hK : ∀ w', Has w' b (encU (upd m 8365 z)) → Keeps b w w' → K (a.put op.dst undef) w') : op.wp Try.prog a w K Q :=
 wp_put_g h _ x y ho 8365 hx _ hy (sv_w h (encU_f m)) (by rw [encU_size]; decide) (encU_set m 8365 z (by decide)) hK
theorem or_lo (h l : Int) (h1 : 0 ≤ h) (h2 : h < 256) (h3 : 0 ≤ l) (h4 : l < 256) : bits .or .u16 (IntKind.u16.wrap l) (IntKind.u16.wrap (IntKind.u16.wrap h * 256)) = l + 256 * h := by
 have e1 : IntKind.u16.wrap h = h := by show h % 65536 = h; omega
 have e2 : IntKind.u16.wrap l = l := by show l % 65536 = l; omega
 have e3 : IntKind.u16.wrap (h * 256) = h * 256 := by show h * 256 % 65536 = h * 256; omega
 rw [e1, e2, e3, u16_or _ _ (by omega) (by omega) (by omega) (by omega)]
 obtain ⟨m, rfl⟩ := Int.eq_ofNat_of_zero_le h1
 obtain ⟨k, rfl⟩ := Int.eq_ofNat_of_zero_le h3
 have e4 : ((m : Int) * 256).toNat = 2 ^ 8 * m := by omega
 have e5 : (k : Int).toNat = k := rfl
 rw [e4, e5, Nat.or_comm, ← Nat.two_pow_add_eq_or_of_lt (by omega)]
 omega
/-- What bytes are decoded to. -/
def decM (f : M) : M := fun o => if o < 8365 then f o else if o = 8365 then f 8365 + 256 * f 8366 else if o = 8366 then (if f 8367 = 0 then 0 else 1) else f (o + 1)
def tk3 (m f : M) : M := row (row (row m 0 8192 f) 8192 160 (fun j => f (8192 + j))) 8352 11 (fun j => f (8352 + j))
def tk5 (m f : M) : M := upd (upd (upd (upd (tk3 m f) 8363 (f 8363)) 8364 (f 8364)) 8365 (f 8365 + 256 * f 8366)) 8366 (tf (f 8367 != 0))
def tk6 (m f : M) (t : Nat) : M := row (tk5 m f) 8367 (160 * t) (fun j => f (8368 + j))
theorem upd_comm (m : M) (o k : Nat) (x y : Int) (h : o ≠ k) : upd (upd m o x) k y = upd (upd m k y) o x := by
 funext i
 unfold upd
 by_cases e : i = o
 ·subst e; simp [h]
 ·by_cases e2 : i = k
  ·subst e2; simp [e]
  ·simp [e, e2]
theorem tk6_succ (m f : M) (t : Nat) : row (tk6 m f t) (8367 + t * 160) 160 (fun j => f (8368 + t * 160 + j)) = tk6 m f (t + 1) := by
 funext o
 unfold tk6 row
 by_cases h1 : 8367 ≤ o ∧ o < 8367 + 160 * (t + 1)
 ·rw [if_pos h1]
  by_cases h2 : 8367 + t * 160 ≤ o ∧ o < 8367 + t * 160 + 160
  ·rw [if_pos h2]
   show f (8368 + t * 160 + (o - (8367 + t * 160))) = f (8368 + (o - 8367))
   rw [show 8368 + t * 160 + (o - (8367 + t * 160)) = 8368 + (o - 8367) by omega]
  ·rw [if_neg h2, if_pos (by omega)]
 ·rw [if_neg h1, if_neg (by omega), if_neg (by omega)]
theorem tk6_end (m f : M) : encU (tk6 m f 144) = encU (decM f) := encU_congr _ _ fun o ho => by
 unfold tk6 decM
 by_cases h1 : 8367 ≤ o
 ·rw [row_in _ _ _ _ _ h1 (by omega), if_neg (by omega), if_neg (by omega), if_neg (by omega), show 8368 + (o - 8367) = o + 1 by omega]
 ·rw [row_out _ _ _ _ _ (by omega)]
  unfold tk5
  by_cases h2 : o = 8366
  ·subst h2
   rw [upd_same, if_neg (by omega), if_neg (by omega), if_pos rfl]
   by_cases q : f 8367 = 0 <;> simp [q, tf]
  ·rw [upd_ne _ _ _ _ h2]
   by_cases h3 : o = 8365
   ·subst h3
    rw [upd_same, if_neg (by omega), if_pos rfl]
   ·rw [upd_ne _ _ _ _ h3, if_pos (by omega)]
    by_cases h4 : o = 8364
    ·subst h4; rw [upd_same]
    ·rw [upd_ne _ _ _ _ h4]
     by_cases h5 : o = 8363
     ·subst h5; rw [upd_same]
     ·rw [upd_ne _ _ _ _ h5]
      unfold tk3
      by_cases h6 : 8352 ≤ o
      ·rw [row_in _ _ _ _ _ h6 (by omega), show 8352 + (o - 8352) = o by omega]
      ·rw [row_out _ _ _ _ _ (by omega)]
       by_cases h7 : 8192 ≤ o
       ·rw [row_in _ _ _ _ _ h7 (by omega), show 8192 + (o - 8192) = o by omega]
       ·rw [row_out _ _ _ _ _ (by omega), row_in _ _ _ _ _ (by omega) (by omega)]; rfl
set_option maxHeartbeats 8000000 in
theorem take_c (b : Nat) (m : M) (g cc : Nat) (hcc : 31408 ≤ cc) (f : M) (hf : ∀ j, j < 31408 → 0 ≤ f j ∧ f j < 256) (hgb : g ≠ b) (w : World) (hg : g < w.heap.size) (hc : ∀ j, j < 31408 → w.cell? ⟨g, j, none⟩ = some (.int .u8 (f j))) (h : Has w b (encU m)) :
  Calls Try.prog 37 #[.pointer (some ⟨b, 0, none⟩), .slice (some ⟨g, 0, none⟩) 31408 cc] w fun q_ w' => q_ = .returned (.tuple #[]) ∧ Has w' b (encU (decM f)) ∧ Keeps b w w' := by
 have HC := Lib.hid (show ∀ u, Keeps b w u → ∀ j, j < 31408 → u.cell? ⟨g, j, none⟩ = some (.int .u8 (f j)) from fun u hk j hj => ((cell_block (hk.block g hg hgb) j).1).trans (hc j hj))
 have P0 := Lib.hid h
 have HF := Lib.hid hf
 obtain ⟨u0, hu0⟩ : ∃ u0, u0 = w := ⟨_, rfl⟩
 have K0 := Lib.hid (show Keeps b w u0 by rw [hu0]; exact Keeps.refl b w)
 rw [← hu0] at P0
 have ncc : ¬ cc = 8192 := by omega
 have ncc2 : ¬ cc = 8352 := by omega
 suffices hall : Calls Try.prog 37 #[.pointer (some ⟨b, 0, none⟩), .slice (some ⟨g, 0, none⟩) 31408 cc] u0 fun q_ w' => q_ = .returned (.tuple #[]) ∧ Has w' b (encU (decM f)) ∧ Keeps b w w' by rwa [hu0] at hall
 clear hc h hf hu0
 go_enter Try.func37, Try.ntmps37
 obtain ⟨vc, u1, hr, hP, hk⟩ := cp_run P0.out 0 8192 f (by omega) (by omega) 3 8192 g 0 31408 cc (fun j hj => by rw [Nat.zero_add]; exact HC.out _ K0.out j (by omega)) (by omega)
 go_upto_region 1 with (fail)
 have P1 := Lib.hid hP
 have K1 := Lib.hid (K0.out.trans hk)
 clear hP hk hr K0 P0
 have P2 := Lib.hid P1.out.drew
 have K2 := Lib.hid K1.out.drew
 clear P1 K1
 refine wp_region_held_drew (S := (fun w' => True)) (by kernel_rfl) trivial (fun hHeld => ?_)
 generalize World.drew _ = u2 at hHeld P2 K2 ⊢
 refine tzz 0 ?_
 refine tzz 1 ?_
 refine tzz 2 ?_
 refine tzz 3 ?_
 refine tzz 4 ?_
 refine tzz 5 ?_
 refine wpAnyH_ready (rs := [6]) (by kernel_rfl) (by simp) ?_
 refine (acc rfl (fun K hK => ?_) AllReadyH.nil)
 ·skip
  obtain ⟨vc, u3, hr, hP, hk⟩ := cp_run P2.out 8192 160 (fun j => f (8192 + j)) (by omega) (by omega) 3 160 g 8192  (31408 - 8192) (cc - 8192) (fun j hj => by first | exact HC.out _ K2.out _ (by omega) | (have := HC.out _ K2.out (8192 + j) (by omega); simpa using this)) (by omega)
  have RUN := Lib.hid hr
  clear hr
  refine wp_copy_run _ _ _ (.slice (some ⟨b, 8192, none⟩) 160 160) (.slice (some ⟨g, 8192, none⟩)  (31408 - 8192) (cc - 8192)) _ rfl rfl rfl RUN.out ?_
  try simp only [Act.put, qqA, qqB, qqC]
  have P3 := Lib.hid hP
  have K3 := Lib.hid (K2.out.trans hk)
  clear hP hk RUN K2 P2
  refine hK.out _ _ ?s1 (fun hNew => ?r1)
  case s1 => exact trivial
  clear hK K hHeld
  have hHeld := hNew
  clear hNew
  refine wpAnyH_done (by kernel_rfl) ?_ _
  clear hHeld
  go_upto_region 2 with (fail)
  have P4 := Lib.hid P3.out.drew
  have K4 := Lib.hid K3.out.drew
  clear P3 K3
  refine wp_region_held_drew (S := (fun w' => True)) (by kernel_rfl) trivial (fun hHeld => ?_)
  generalize World.drew _ = u4 at hHeld P4 K4 ⊢
  refine tzz 0 ?_
  refine tzz 1 ?_
  refine tzz 2 ?_
  refine tzz 3 ?_
  refine tzz 4 ?_
  refine tzz 5 ?_
  refine wpAnyH_ready (rs := [6]) (by kernel_rfl) (by simp) ?_
  refine (acc rfl (fun K hK => ?_) AllReadyH.nil)
  ·skip
   obtain ⟨vc, u5, hr, hP, hk⟩ := cp_run P4.out 8352 11 (fun j => f (8352 + j)) (by omega) (by omega) 3 11 g 8352  (31408 - 8352) (cc - 8352) (fun j hj => by first | exact HC.out _ K4.out _ (by omega) | (have := HC.out _ K4.out (8352 + j) (by omega); simpa using this)) (by omega)
   have RUN := Lib.hid hr
   clear hr
   refine wp_copy_run _ _ _ (.slice (some ⟨b, 8352, none⟩) 11 11) (.slice (some ⟨g, 8352, none⟩)  (31408 - 8352) (cc - 8352)) _ rfl rfl rfl RUN.out ?_
   try simp only [Act.put, qqA, qqB, qqC]
   have P5 := Lib.hid hP
   have K5 := Lib.hid (K4.out.trans hk)
   clear hP hk RUN K4 P4
   refine hK.out _ _ ?s2 (fun hNew => ?r2)
   case s2 => exact trivial
   clear hK K hHeld
   have hHeld := hNew
   clear hNew
   refine wpAnyH_done (by kernel_rfl) ?_ _
   clear hHeld
   go_upto_region 3 with (fail)
   have P6 := Lib.hid P5.out.drew
   have K6 := Lib.hid K5.out.drew
   clear P5 K5
   refine wp_region_held_drew (S := (fun w' => w'.cell? ⟨g, 8363, none⟩ = some (.int .u8 (f 8363)) ∧ w'.cell? ⟨g, 8364, none⟩ = some (.int .u8 (f 8364)))) (by kernel_rfl) ⟨HC.out _ K6.out 8363 (by decide), HC.out _ K6.out 8364 (by decide)⟩ (fun hHeld => ?_)
   generalize World.drew _ = u6 at hHeld P6 K6 ⊢
   refine tzz 0 ?_
   refine tzz 1 ?_
   refine tzz 2 ?_
   refine tzz 3 ?_
   refine tzz 4 ?_
   refine tzz 5 ?_
   refine tzz 6 ?_
   refine tzz 7 ?_
   refine tzz 8 ?_
   refine tzz 9 ?_
   refine wpAnyH_ready (rs := [10]) (by kernel_rfl) (by simp) ?_
   refine (acc rfl (fun K hK => ?_) AllReadyH.nil)
   ·skip
    refine wp_ust_u P6.out _ _ rfl 8363 rfl _ rfl (by decide) (by decide) (by decide) ?_
    intro u7 hP hk
    try simp only [Act.put, qqA, qqB, qqC]
    have P7 := Lib.hid hP
    have K7 := Lib.hid (K6.out.trans hk)
    clear hP hk K6 P6
    refine hK.out _ _ ?s3 (fun hNew => ?r3)
    case s3 => exact ⟨HC.out _ K7.out 8363 (by decide), HC.out _ K7.out 8364 (by decide)⟩
    clear hK K hHeld
    have hHeld := hNew
    clear hNew
    refine tzz 11 ?_
    refine tzz 12 ?_
    refine wpAnyH_ready (rs := [13]) (by kernel_rfl) (by simp) ?_
    refine (acc rfl (fun K hK => ?_) AllReadyH.nil)
    ·skip
     refine wp_ust_u P7.out _ _ rfl 8364 rfl _ rfl (by decide) (by decide) (by decide) ?_
     intro u8 hP hk
     try simp only [Act.put, qqA, qqB, qqC]
     have P8 := Lib.hid hP
     have K8 := Lib.hid (K7.out.trans hk)
     clear hP hk K7 P7
     refine hK.out _ _ ?s4 (fun hNew => ?r4)
     case s4 => exact ⟨HC.out _ K8.out 8363 (by decide), HC.out _ K8.out 8364 (by decide)⟩
     clear hK K hHeld
     have hHeld := hNew
     clear hNew
     refine wpAnyH_done (by kernel_rfl) ?_ _
     clear hHeld
     go_upto_region 4 with (fail)
     have P9 := Lib.hid P8.out.drew
     have K9 := Lib.hid K8.out.drew
     clear P8 K8
     refine wp_region_held_drew (S := (fun w' => w'.cell? ⟨g, 8365, none⟩ = some (.int .u8 (f 8365)) ∧ w'.cell? ⟨g, 8366, none⟩ = some (.int .u8 (f 8366)))) (by kernel_rfl) ⟨HC.out _ K9.out 8365 (by decide), HC.out _ K9.out 8366 (by decide)⟩ (fun hHeld => ?_)
     generalize World.drew _ = u9 at hHeld P9 K9 ⊢
     refine tzz 0 ?_
     refine tzz 1 ?_
     refine tzz 2 ?_
     refine tzz 3 ?_
     refine tzz 4 ?_
     refine tzz 5 ?_
     refine tzz 6 ?_
     refine tzz 7 ?_
     refine tzz 8 ?_
     refine tzz 9 ?_
     refine tzz 10 ?_
     refine tzz 11 ?_
     refine tzz 12 ?_
     refine wpAnyH_ready (rs := [13]) (by kernel_rfl) (by simp) ?_
     refine (acc rfl (fun K hK => ?_) AllReadyH.nil)
     ·skip
      refine wp_store_f P9.out _ _ rfl rfl _ rfl ?_
      intro u10 hP hk
      try simp only [Act.put, qqA, qqB, qqC]
      have P10 := Lib.hid hP
      have K10 := Lib.hid (K9.out.trans hk)
      clear hP hk K9 P9
      refine hK.out _ _ ?s5 (fun hNew => ?r5)
      case s5 => exact ⟨HC.out _ K10.out 8365 (by decide), HC.out _ K10.out 8366 (by decide)⟩
      clear hK K hHeld
      have hHeld := hNew
      clear hNew
      refine wpAnyH_done (by kernel_rfl) ?_ _
      clear hHeld
      rw [or_lo _ _ (HF.out 8366 (by decide)).1 (HF.out 8366 (by decide)).2 (HF.out 8365 (by decide)).1 (HF.out 8365 (by decide)).2] at P10
      have e7 := HC.out _ K10.out 8367 (by decide)
      go_wp2_with (refine store_s P10.out rfl _ _ rfl rfl (f 8367 != 0) rfl ?_)
      intro u11 hP hk
      try simp only [Act.put, qqA, qqB, qqC]
      have P11 := Lib.hid (show Has u11 b (encU (tk6 m f 0)) from by rw [show tk6 m f 0 = tk5 m f from by funext o; exact row_out _ _ _ _ _ (by omega)]; exact hP)
      have K11 := Lib.hid (K10.out.trans hk)
      clear hP hk e7 K10 P10
      go_wp2
      go_loopg [57] 144 (fun g' i wr => ∃ (t : Nat), t ≤ 144 ∧ g' + t = 144 ∧ i = .int .i64 t ∧ Has wr b (encU (tk6 m f t)) ∧ Keeps b w wr)
      case atStart => exact ⟨0, by omega, by omega, rfl, P11.out, K11.out⟩
      case round =>
       obtain ⟨t, ht, hg_, rfl, hP, hk⟩ := hrel
       have TG := Lib.hid hg_
       have P12 := Lib.hid hP
       have K12 := Lib.hid hk
       clear hg_ hP hk P11 K11
       obtain ⟨u12, hu⟩ : ∃ q_, q_ = wr := ⟨_, rfl⟩
       subst hu
       by_cases hlt : t < 144
       ·have l1 : (t : Int) < 144 := by omega
        have wa : IntKind.i64.wrap ((t : Int) * 160) = (t : Int) * 160 := by rw [IntKind.wrap_i64]; omega
        have wb : IntKind.i64.wrap (8368 + (t : Int) * 160) = 8368 + (t : Int) * 160 := by rw [IntKind.wrap_i64]; omega
        have nc3 : ¬ cc = 8368 + t * 160 := by omega
        have wc1 : 0 ≤ 8368 + (t : Int) * 160 := by omega
        have wc2 : 8368 + (t : Int) * 160 ≤ 31408 := by omega
        have wd : (8368 + (t : Int) * 160).toNat = 8368 + t * 160 := by omega
        go_upto_region 9 with (fail)
        have P13 := Lib.hid P12.out.drew
        have K13 := Lib.hid K12.out.drew
        clear P12 K12
        refine wp_region_held_drew (S := (fun w' => True)) (by kernel_rfl) trivial (fun hHeld => ?_)
        generalize World.drew _ = u13 at hHeld P13 K13 ⊢
        refine tzz 0 ?_
        refine tzz 1 ?_
        refine tzz 2 ?_
        refine tzz 3 ?_
        refine tzz 4 ?_
        refine tzz 5 ?_
        refine tzz 6 ?_
        refine tzz 7 ?_
        refine tzz 8 ?_
        refine tzz 9 ?_
        refine tzz 10 ?_
        refine wpAnyH_ready (rs := [11]) (by kernel_rfl) (by simp) ?_
        refine (acc rfl (fun K hK => ?_) AllReadyH.nil)
        ·skip
         obtain ⟨vc, u14, hr, hP, hk⟩ := cp_run P13.out (8367 + t * 160) 160 (fun j => f (8368 + t * 160 + j)) (by omega) (by omega) 3 160 g (8368 + t * 160)  (31408 - (8368 + t * 160)) (cc - (8368 + t * 160)) (fun j hj => by first | exact HC.out _ K13.out _ (by omega) | (have := HC.out _ K13.out ((8368 + t * 160) + j) (by omega); simpa using this)) (by omega)
         have RUN := Lib.hid hr
         clear hr
         refine wp_copy_run _ _ _ (.slice (some ⟨b, (8367 + t * 160), none⟩) 160 160) (.slice (some ⟨g, (8368 + t * 160), none⟩)  (31408 - (8368 + t * 160)) (cc - (8368 + t * 160))) _ rfl rfl rfl RUN.out ?_
         try simp only [Act.put, qqA, qqB, qqC]
         have P14 := Lib.hid hP
         have K14 := Lib.hid (K13.out.trans hk)
         clear hP hk RUN K13 P13
         refine hK.out _ _ ?s6 (fun hNew => ?r6)
         case s6 => exact trivial
         clear hK K hHeld
         have hHeld := hNew
         clear hNew
         refine wpAnyH_done (by kernel_rfl) ?_ _
         clear hHeld
         go_wp2
         go_roundg (gk - 1)
         ·exact ⟨t + 1, by omega, by have := TG.out; omega, by simp, by rw [← tk6_succ]; exact P14.out, K14.out⟩
         case measure => have := TG.out; omega
       ·obtain rfl : 144 = t := by omega
        have PE := Lib.hid (show Has u12 b (encU (decM f)) from by rw [← tk6_end m f]; exact P12.out)
        go_wp2
        all_goals first | exact bodyPost_ret (v := .tuple #[]) (by simp [results, Try.results37, go_sem]) rfl ⟨rfl, PE.out, K12.out⟩ | exact bodyPost_end (v := .tuple #[]) (by simp [results, Try.results37, go_sem]) rfl ⟨rfl, PE.out, K12.out⟩
end Go.Proofs.Ytpfbodmadmneiaa
namespace Go.Proofs.Ytpfbodmadmneiaa
open Go.ChangeShapes Go.WideShapes Go.ChangeAt Go.RowKit
set_option linter.unusedVariables false
set_option linter.unusedSimpArgs false
set_option maxRecDepth 100000
/-- A unit whose numbers fit. -/
structure OkB (m : M) : Prop where
 byte : ∀ o, o < 31407 → o ≠ 8365 → 0 ≤ m o ∧ m o < 256
 fr : 0 ≤ m 8365 ∧ m 8365 < 65536
 act : m 8366 = 0 ∨ m 8366 = 1
theorem Ok.b {m : M} (h : Ok m) : OkB m := ⟨h.byte, h.fr, h.act⟩
set_option maxHeartbeats 16000000 in
theorem enc_w (b : Nat) (m : M) (ok : OkB m) (w : World) (h : Has w b (encU m)) : Calls Try.prog 17 #[.pointer (some ⟨b, 0, none⟩)] w (EncE (encF m) w.heap.size w) := by
 suffices hall : ∀ (n_ : Nat) (W0 : World), n_ ≤ W0.heap.size → Below n_ W0 w → Has W0 b (encU m) → b < n_ → Calls Try.prog 17 #[.pointer (some ⟨b, 0, none⟩)] w (EncE (encF m) n_ W0) from hall _ _ (Nat.le_refl _) (Below.refl _ _) h h.1
 clear h
 intro n_ W0 hn hB hP q1
 have HN := Lib.hid hn
 have B0 := Lib.hid hB
 have PW := Lib.hid hP
 have Q1 := Lib.hid q1
 clear hn hB hP q1
 obtain ⟨u0, hu0⟩ : ∃ u0, u0 = w := ⟨_, rfl⟩
 rw [← hu0] at B0 ⊢
 clear hu0
 obtain ⟨f, hf⟩ : ∃ f, f = encF m := ⟨_, rfl⟩
 have FL := Lib.hid (show ∀ i, i < 8365 → f i = m i from fun i hi => by rw [hf]; exact encF_lo m i hi)
 have FH := Lib.hid (show ∀ i, 8366 ≤ i → f (i + 1) = m i from fun i hi => by rw [hf]; exact encF_hi m i hi)
 have FA := Lib.hid (show f 8365 = m 8365 % 256 by rw [hf]; rfl)
 have FB := Lib.hid (show f 8366 = m 8365 / 256 by rw [hf]; rfl)
 rw [← hf]
 clear hf
 obtain ⟨d, hd⟩ : ∃ x, m 8363 = x := ⟨_, rfl⟩
 have bd := ok.byte 8363 (by decide) (by decide)
 rw [hd] at bd
 have Hd := Lib.hid hd
 clear hd
 obtain ⟨ow, how⟩ : ∃ x, m 8364 = x := ⟨_, rfl⟩
 have bow := ok.byte 8364 (by decide) (by decide)
 rw [how] at bow
 have How := Lib.hid how
 clear how
 obtain ⟨fr, hfr⟩ : ∃ x, m 8365 = x := ⟨_, rfl⟩
 have bfr := ok.fr
 rw [hfr] at bfr
 have Hfr := Lib.hid hfr
 clear hfr
 obtain ⟨ac, hac⟩ : ∃ x, decide (m 8366 ≠ 0) = x := ⟨_, rfl⟩
 have Hac := Lib.hid hac
 have Tac := Lib.hid (show tf ac = m 8366 by rw [← hac]; rcases ok.act with q | q <;> rw [q] <;> rfl)
 clear hac
 have OK := Lib.hid ok
 clear ok
 go_enter Try.func17, Try.ntmps17
 obtain ⟨u1, hr, ho, hb⟩ := mk_own (w := u0) f (Nat.le_trans HN.out B0.out.size)
 have mk0 := hr
 go_upto_region 4 with (fail)
 clear mk0 hr
 have R1 := Lib.hid (show OwnB u1 n_ _ 0 f from ho)
 have B1 := Lib.hid (B0.out.trans hb)
 clear ho hb B0
 obtain ⟨g0, hg0⟩ : ∃ g, g = u0.heap.size := ⟨_, rfl⟩
 rw [← hg0] at R1 ⊢
 clear hg0
 obtain ⟨v2, u2, hr, ho, hb⟩ := app_bs b 0 8192 8192 R1.out (fun j hj => by
   rw [(PW.out.at Q1.out HN.out B1.out).2.1, encU_u _ _ (by omega) (by omega) (by omega), FL.out _ (by omega)]
   try rw [Nat.zero_add]) (Nat.le_trans HN.out B1.out.size) (by omega)
 have RUN := Lib.hid hr
 clear hr
 go_wp2_with (fail)
 refine wp_append_run _ _ _ (.slice (some ⟨g0, 0, none⟩) 0 31408) (.slice (some ⟨b, 0, none⟩) 8192 8192) _ rfl rfl rfl RUN.out ?_
 have R2 := Lib.hid (show OwnB u2 n_ v2 (8192) f from ho)
 have B2 := Lib.hid (B1.out.trans hb)
 clear ho hb RUN R1 B1
 try simp only [Act.put, qqA, qqB, qqC]
 obtain ⟨g_2, c_2, eV⟩ := OwnB.slice2 R2.out (by omega)
 subst eV
 obtain ⟨v3, u3, hr, ho, hb⟩ := app_bs b 8192 160 160 R2.out (fun j hj => by
   rw [(PW.out.at Q1.out HN.out B2.out).2.1, encU_u _ _ (by omega) (by omega) (by omega), FL.out _ (by omega)]
   try rw [Nat.zero_add]) (Nat.le_trans HN.out B2.out.size) (by omega)
 have RUN := Lib.hid hr
 clear hr
 go_wp2_with (fail)
 refine wp_append_run _ _ _ (.slice (some ⟨g_2, 0, none⟩) 8192 c_2) (.slice (some ⟨b, 8192, none⟩) 160 160) _ rfl rfl rfl RUN.out ?_
 have R3 := Lib.hid (show OwnB u3 n_ v3 (8352) f from ho)
 have B3 := Lib.hid (B2.out.trans hb)
 clear ho hb RUN R2 B2
 try simp only [Act.put, qqA, qqB, qqC]
 obtain ⟨g_3, c_3, eV⟩ := OwnB.slice2 R3.out (by omega)
 subst eV
 obtain ⟨v4, u4, hr, ho, hb⟩ := app_bs b 8352 11 11 R3.out (fun j hj => by
   rw [(PW.out.at Q1.out HN.out B3.out).2.1, encU_u _ _ (by omega) (by omega) (by omega), FL.out _ (by omega)]
   try rw [Nat.zero_add]) (Nat.le_trans HN.out B3.out.size) (by omega)
 have RUN := Lib.hid hr
 clear hr
 go_wp2_with (fail)
 refine wp_append_run _ _ _ (.slice (some ⟨g_3, 0, none⟩) 8352 c_3) (.slice (some ⟨b, 8352, none⟩) 11 11) _ rfl rfl rfl RUN.out ?_
 have R4 := Lib.hid (show OwnB u4 n_ v4 (8363) f from ho)
 have B4 := Lib.hid (B3.out.trans hb)
 clear ho hb RUN R3 B3
 try simp only [Act.put, qqA, qqB, qqC]
 have A5 := Lib.hid (show ∀ j, j < 5 → (#[.int .u8 d, .int .u8 ow, .int .u8 (fr % 256), .int .u8 (fr / 256), .int .u8 (tf ac)] : Array Value)[j]? = some (.int .u8 (f (8363 + j))) from fun j hj => by
  match j, hj with
  | 0, _ => exact congrArg (fun x => some (Value.int .u8 x)) ((FL.out 8363 (by decide)).trans Hd.out).symm
  | 1, _ => exact congrArg (fun x => some (Value.int .u8 x)) ((FL.out 8364 (by decide)).trans How.out).symm
  | 2, _ => exact congrArg (fun x => some (Value.int .u8 x)) (FA.out.trans (by rw [Hfr.out])).symm
  | 3, _ => exact congrArg (fun x => some (Value.int .u8 x)) (FB.out.trans (by rw [Hfr.out])).symm
  | 4, _ => exact congrArg (fun x => some (Value.int .u8 x)) (Tac.out.trans (FH.out 8366 (by decide)).symm))
 have w1 : IntKind.u8.wrap fr = fr % 256 := by rw [IntKind.wrap_u8]
 have w3 : IntKind.u8.wrap (fr / 256) = fr / 256 := by rw [IntKind.wrap_u8]; omega
 go_upto_region 7 with (fail)
 have B5 := Lib.hid B4.out.drew
 have R5 := Lib.hid (OwnB.below R4.out (Below.refl _ _).drew)
 clear B4 R4
 obtain ⟨g_, c_, eV⟩ := OwnB.slice2 R5.out (by omega)
 subst eV
 have e_d : (encU (m))[8363]? = some (.int .u8 d) := (encU_u _ 8363 (by decide) (by decide) (by decide)).trans (congrArg (fun x => some (Value.int .u8 x)) (Hd.out))
 have e_ow : (encU (m))[8364]? = some (.int .u8 ow) := (encU_u _ 8364 (by decide) (by decide) (by decide)).trans (congrArg (fun x => some (Value.int .u8 x)) (How.out))
 have e_fr : (encU (m))[8365]? = some (.int .u16 fr) := (encU_f _).trans (congrArg (fun x => some (Value.int .u16 x)) (Hfr.out))
 have e_ac : (encU (m))[8366]? = some (.bool ac) := (encU_s _).trans (congrArg (fun x => some (Value.bool x)) (Hac.out))
 refine wp_region_held_drew (S := (fun w' => ∀ o, w'.cell? ⟨b, o, none⟩ = (encU m)[o]?)) (by kernel_rfl) (PW.out.at Q1.out HN.out B5.out).2.1 (fun hHeld => ?_)
 generalize World.drew _ = u5 at hHeld B5 R5 ⊢
 refine tzz 0 ?_
 refine tzz 1 ?_
 refine tzz 2 ?_
 refine tzz 3 ?_
 refine tzz 4 ?_
 refine tzz 5 ?_
 refine tzz 6 ?_
 refine tzz 7 ?_
 refine tzz 8 ?_
 refine tzz 9 ?_
 refine tzz 10 ?_
 refine tzz 11 ?_
 refine tzz 12 ?_
 refine tzz 13 ?_
 refine tzz 14 ?_
 refine tzz 15 ?_
 refine tzz 16 ?_
 refine tzz 17 ?_
 refine tzz 18 ?_
 refine tzz 19 ?_
 refine tzz 20 ?_
 refine tzz 21 ?_
 refine tzz 22 ?_
 refine tzz 23 ?_
 refine wpAnyH_ready (rs := [24]) (by kernel_rfl) (by simp) ?_
 refine (acc rfl (fun K hK => ?_) AllReadyH.nil)
 ·skip
  go_simp
  with_reducible refine (unum_c ac _).mono ?_
  rintro q_ u6 ⟨rfl, hb⟩
  subst hb
  have B6 := B5
  have R6 := R5
  clear B5 R5
  refine hK.out _ _ ?s25 (fun hNew => ?r25)
  case s25 => exact (PW.out.at Q1.out HN.out B6.out).2.1
  clear hK K hHeld
  have hHeld := hNew
  clear hNew
  refine wpAnyH_ready (rs := [25]) (by kernel_rfl) (by simp) ?_
  refine (acc rfl (fun K hK => ?_) AllReadyH.nil)
  ·skip
   obtain ⟨v9, u9, hr, ho, hb⟩ := app_new #[.int .u8 d, .int .u8 ow, .int .u8 (fr % 256), .int .u8 (fr / 256), .int .u8 (tf ac)] 5 R6.out A5.out (Nat.le_trans HN.out B6.out.size) (by omega)
   have RUN := Lib.hid hr
   clear hr
   go_simp
   have B7 := Lib.hid (vian HN.out B6.out (own1 _ (.cells #[.int .u8 d, .int .u8 ow, .int .u8 (fr % 256), .int .u8 (fr / 256), .int .u8 (tf ac)] 5)))
   have B9 := Lib.hid (B6.out.trans hb)
   have R9 := Lib.hid (show OwnB u9 n_ v9 8368 f from ho)
   clear ho hb B6 R6
   refine hK.out _ _ ?s26 (fun hNew => ?r26)
   case s26 => exact (PW.out.at Q1.out HN.out B7.out).2.1
   clear hK K hHeld
   have hHeld := hNew
   clear hNew
   refine wpAnyH_ready (rs := [26]) (by kernel_rfl) (by simp) ?_
   refine (acc rfl (fun K hK => ?_) AllReadyH.nil)
   ·skip
    refine wp_append_run _ _ _ (.slice (some ⟨g_, 0, none⟩) 8363 c_) (.slice (some ⟨u6.heap.size, 0, none⟩) 5 5) _ rfl rfl rfl RUN.out ?_
    try simp only [Act.put, qqA, qqB, qqC]
    refine hK.out _ _ ?s27 (fun hNew => ?r27)
    case s27 => exact (PW.out.at Q1.out HN.out B9.out).2.1
    clear hK K hHeld
    have hHeld := hNew
    clear hNew
    refine tzz 27 ?_
    refine wpAnyH_done (by kernel_rfl) ?_ _
    clear hHeld RUN
    clear e_d e_ow e_fr e_ac w1 w3
    go_wp2
    go_loopg [3, 53] 144 (fun g' vv i wr => ∃ (t : Nat) (V : Value), t ≤ 144 ∧ g' + t = 144 ∧ vv = V ∧ i = .int .i64 t ∧ Below n_ W0 wr ∧ OwnB wr n_ V (8368 + 160 * t) f)
    case atStart => exact ⟨0, _, by omega, by omega, rfl, rfl, B9.out, R9.out⟩
    case round =>
     obtain ⟨u20, hu⟩ : ∃ q_, q_ = wr := ⟨_, rfl⟩
     subst hu
     obtain ⟨t, VV_, ht, hg, rfl, rfl, hB, hR⟩ := hrel
     have TG := Lib.hid hg
     have B20 := Lib.hid hB
     have R20 := Lib.hid hR
     clear hg hB hR B9 R9
     by_cases hlt : t < 144
     ·have l1 : (t : Int) < 144 := by omega
      obtain ⟨g_20, c_20, eV⟩ := OwnB.slice2 R20.out (by omega)
      subst eV
      obtain ⟨v21, u21, hr, ho, hb⟩ := app_bs b (8367 + t * 160) 160 160 R20.out (fun j hj => by
        rw [(PW.out.at Q1.out HN.out B20.out).2.1, encU_u _ _ (by omega) (by omega) (by omega), show 8368 + 160 * t + j = (8367 + t * 160 + j) + 1 by omega, FH.out _ (by omega)]) (Nat.le_trans HN.out B20.out.size) (by omega)
      have RUN := Lib.hid hr
      clear hr
      go_wp2_with (fail)
      refine wp_append_run _ _ _ (.slice (some ⟨g_20, 0, none⟩) (8368 + 160 * t) c_20) (.slice (some ⟨b, 8367 + t * 160, none⟩) 160 160) _ rfl rfl rfl RUN.out ?_
      have R21 := Lib.hid (show OwnB u21 n_ v21 (8368 + 160 * t + 160) f from ho)
      have B21 := Lib.hid (B20.out.trans hb)
      clear ho hb RUN R20 B20
      try simp only [Act.put, qqA, qqB, qqC]
      go_wp2
      go_roundg (gk - 1)
      ·exact ⟨t + 1, _, by omega, by have := TG.out; omega, rfl, by simp, B21.out, by have := R21.out; rwa [show 8368 + 160 * t + 160 = 8368 + 160 * (t + 1) by omega] at this⟩
      case measure => have := TG.out; omega
     ·obtain rfl : 144 = t := by omega
      go_wp2
      go_ret
      exact encE_mk R20.out B20.out
end Go.Proofs.Ytpfbodmadmneiaa
namespace Go.Proofs.Ytpfbodmadmneiaa
open Go.ChangeShapes Go.WideShapes Go.ChangeAt Go.RowKit
set_option linter.unusedVariables false
set_option linter.unusedSimpArgs false
set_option maxRecDepth 100000
theorem dec_size (b : Nat) (a : Option Addr) (n c : Nat) (hn : ¬ n = 31408) (w : World) : Calls Try.prog 19 #[.pointer (some ⟨b, 0, none⟩), .slice a n c] w fun q_ w' => q_ = .returned (.int .i64 6) ∧ w' = w := by
 have ne : ((n : Int) != 31408) = true := by simp; omega
 go_enter Try.func19, Try.ntmps19
 go_wp2
 all_goals exact bodyPost_ret (v := .int .i64 6) (by simp [results, Try.results19, go_sem]) rfl ⟨rfl, rfl⟩
theorem dec_kind (b : Nat) (f : M) (hs : ¬ Sta f) (v : Value) (g : Nat) (w : World) (hR : RowB w v 31408 f g) : Calls Try.prog 19 #[.pointer (some ⟨b, 0, none⟩), v] w fun q_ w' => q_ = .returned (.int .i64 5) ∧ w' = w := by
 have IS := Lib.hid (is_c false f (by simp [hs]) v g w hR)
 obtain ⟨cc, rfl, _, _, _, _⟩ := hR
 go_enter Try.func19, Try.ntmps19
 go_wp2_with (fail)
 with_reducible refine (IS.out).mono ?_
 rintro q_ w' ⟨rfl, rfl⟩
 go_wp2
 all_goals exact bodyPost_ret (v := .int .i64 5) (by simp [results, Try.results19, go_sem]) rfl ⟨rfl, rfl⟩
theorem dec_ok (b : Nat) (m f : M) (hs : Sta f) (hf : ∀ j, j < 31408 → 0 ≤ f j ∧ f j < 256) (v : Value) (g : Nat) (hgb : g ≠ b) (w : World) (hR : RowB w v 31408 f g) (hP : Has w b (encU m)) : Calls Try.prog 19 #[.pointer (some ⟨b, 0, none⟩), v] w fun q_ w' => q_ = .returned (.int .i64 0) ∧ Has w' b (encU (decM f)) ∧ Keeps b w w' := by
 have IS := Lib.hid (is_c true f (by simp [hs]) v g w hR)
 obtain ⟨cc, rfl, hcc, hg, hc, _⟩ := hR
 have TK := Lib.hid (take_c b m g cc hcc f hf hgb w hg hc hP)
 clear hc hP hf hs
 have w_ : World := w
 obtain ⟨u0, hu0⟩ : ∃ u0, u0 = w := ⟨_, rfl⟩
 suffices hall : Calls Try.prog 19 #[.pointer (some ⟨b, 0, none⟩), .slice (some ⟨g, 0, none⟩) 31408 cc] u0 fun q_ w' => q_ = .returned (.int .i64 0) ∧ Has w' b (encU (decM f)) ∧ Keeps b w w' by rwa [hu0] at hall
 rw [← hu0] at IS TK
 have HU := Lib.hid hu0
 clear hu0
 clear hcc
 go_enter Try.func19, Try.ntmps19
 go_wp2_with (fail)
 with_reducible refine (IS.out).mono ?_
 rintro q_ w' ⟨rfl, hw⟩
 have hw' := hw.symm
 clear hw
 subst hw'
 go_wp2_with (fail)
 with_reducible refine (TK.out).mono ?_
 rintro q_ u1 ⟨rfl, hP, hk⟩
 have P1 := Lib.hid hP
 have K1 := Lib.hid (show Keeps b w u1 by rw [← HU.out]; exact hk)
 clear hP hk TK IS
 go_wp2
 all_goals exact bodyPost_ret (v := .int .i64 0) (by simp [results, Try.results19, go_sem]) rfl ⟨rfl, P1.out, K1.out⟩
end Go.Proofs.Ytpfbodmadmneiaa
namespace Go.Proofs.Ytpfbodmadmneiaa
open Go.ChangeShapes Go.WideShapes Go.ChangeAt Go.RowKit
set_option linter.unusedVariables false
set_option linter.unusedSimpArgs false
set_option maxRecDepth 100000
theorem an120 (x : Int) (h0 : 0 ≤ x) (h1 : x < 256) : (bits .andNot .u8 x 120 = 0) = (x % 8 = 0 ∧ x < 128) := byte_all (P := fun x => (bits .andNot .u8 x 120 = 0) = (x % 8 = 0 ∧ x < 128)) (by
 have h : ∀ i : Fin 256, (bits .andNot .u8 (i.val : Int) 120 = 0) ↔ ((i.val : Int) % 8 = 0 ∧ (i.val : Int) < 128) := by decide +kernel
 exact fun i => propext (h i)) x h0 h1
theorem enc_sta {m : M} (ok : Ok m) : Sta (encF m) := by
 refine ⟨?_, ?_, ?_, ?_, fun j hj => ?_⟩
 ·rw [encF_lo _ _ (by decide)]; exact ok.line
 ·rw [encF_lo _ _ (by decide)]; exact ok.dot
 ·rw [encF_lo _ _ (by decide), an120 _ (ok.byte 8353 (by decide) (by decide)).1 (ok.byte 8353 (by decide) (by decide)).2]; exact ok.stat
 ·rw [show encF m 8367 = m 8366 from encF_hi m 8366 (by decide)]
  rcases ok.act with h | h <;> omega
 ·rw [show 8368 + j = (8367 + j) + 1 by omega, encF_hi _ _ (by omega)]
  have := ok.shade (8367 + j) (by omega) (by omega); omega
theorem enc_bd {m : M} (ok : OkB m) (j : Nat) (hj : j < 31408) : 0 ≤ encF m j ∧ encF m j < 256 := by
 have fr := ok.fr
 by_cases h : j < 8365
 ·rw [encF_lo _ _ h]; exact ok.byte j (by omega) (by omega)
 ·by_cases h1 : j = 8365
  ·subst h1; rw [encF_1]; omega
  ·by_cases h2 : j = 8366
   ·subst h2; rw [encF_2]; omega
   ·obtain ⟨i, rfl⟩ : ∃ i, j = i + 1 := ⟨j - 1, by omega⟩
    rw [encF_hi _ _ (by omega)]; exact ok.byte i (by omega) (by omega)
theorem dec_enc {m : M} (ok : Ok m) (o : Nat) (ho : o < 31407) : decM (encF m) o = m o := by
 unfold decM
 by_cases h : o < 8365
 ·rw [if_pos h, encF_lo _ _ h]
 ·rw [if_neg h]
  by_cases h1 : o = 8365
  ·subst h1
   rw [if_pos rfl, encF_1, encF_2]
   have := ok.fr
   omega
  ·rw [if_neg h1]
   by_cases h2 : o = 8366
   ·subst h2
    rw [if_pos rfl, show encF m 8367 = m 8366 from encF_hi m 8366 (by decide)]
    rcases ok.act with h | h <;> rw [h] <;> rfl
   ·rw [if_neg h2, encF_hi _ _ (by omega)]
theorem dec_okB {f : M} (hf : ∀ j, j < 31408 → 0 ≤ f j ∧ f j < 256) : OkB (decM f) := by
 refine ⟨fun o ho h5 => ?_, ?_, ?_⟩
 ·unfold decM
  by_cases h : o < 8365
  ·rw [if_pos h]; exact hf o (by omega)
  ·rw [if_neg h, if_neg h5]
   by_cases h2 : o = 8366
   ·rw [if_pos h2]; split <;> omega
   ·rw [if_neg h2]; exact hf (o + 1) (by omega)
 ·have h1 := hf 8365 (by decide)
  have h2 := hf 8366 (by decide)
  show 0 ≤ f 8365 + 256 * f 8366 ∧ f 8365 + 256 * f 8366 < 65536
  omega
 ·show (if f 8367 = 0 then (0 : Int) else 1) = 0 ∨ (if f 8367 = 0 then (0 : Int) else 1) = 1
  split
  ·exact Or.inl rfl
  ·exact Or.inr rfl
theorem enc_dec {f : M} (hf : ∀ j, j < 31408 → 0 ≤ f j ∧ f j < 256) (hs : Sta f) (j : Nat) (hj : j < 31408) : encF (decM f) j = f j := by
 by_cases h : j < 8365
 ·rw [encF_lo _ _ h]; unfold decM; rw [if_pos h]
 ·have h5 := hf 8365 (by decide)
  have h6 := hf 8366 (by decide)
  by_cases h1 : j = 8365
  ·subst h1; rw [encF_1]; show (f 8365 + 256 * f 8366) % 256 = f 8365; omega
  ·by_cases h2 : j = 8366
   ·subst h2; rw [encF_2]; show (f 8365 + 256 * f 8366) / 256 = f 8366; omega
   ·obtain ⟨i, rfl⟩ : ∃ i, j = i + 1 := ⟨j - 1, by omega⟩
    rw [encF_hi _ _ (by omega)]
    unfold decM
    rw [if_neg (by omega), if_neg (by omega)]
    by_cases h3 : i = 8366
    ·subst h3
     rw [if_pos rfl]
     have := hs.act
     have := hf 8367 (by decide)
     by_cases q : f 8367 = 0
     ·rw [if_pos q]; exact q.symm
     ·rw [if_neg q]; show (1 : Int) = f 8367; omega
    ·rw [if_neg h3]
theorem upd_bd {f : M} (hf : ∀ j, j < 31408 → 0 ≤ f j ∧ f j < 256) (k : Nat) (x : Int) (x0 : 0 ≤ x) (x1 : x < 256) (j : Nat) (hj : j < 31408) : 0 ≤ upd f k x j ∧ upd f k x j < 256 := by
 by_cases e : j = k
 ·subst e; rw [upd_same]; omega
 ·rw [upd_ne _ _ _ _ e]; exact hf j hj
/-- Is a byte right at its place? -/
def rgt (k : Nat) (x : Int) : Prop := (k = 8353 ∧ bits .andNot .u8 x 120 = 0) ∨ (k = 8356 ∧ x < 154) ∨ (k = 8363 ∧ x < 114) ∨ (k = 8367 ∧ x < 2) ∨ (8367 < k ∧ x < 4) ∨ (¬ k = 8353 ∧ ¬ k = 8356 ∧ ¬ k = 8363 ∧ ¬ k = 8367 ∧ ¬ 8367 < k)
theorem upd_sta {f : M} (hs : Sta f) (k : Nat) (x : Int) (h : rgt k x) : Sta (upd f k x) := by
 have at_ : ∀ o, upd f k x o = if o = k then x else f o := fun o => rfl
 refine ⟨?_, ?_, ?_, ?_, fun j hj => ?_⟩
 ·rw [at_]; split
  ·rename_i e; subst e; rcases h with h | h | h | h | h | h <;> omega
  ·exact hs.line
 ·rw [at_]; split
  ·rename_i e; subst e; rcases h with h | h | h | h | h | h <;> omega
  ·exact hs.dot
 ·rw [at_]; split
  ·rename_i e; subst e; rcases h with h | h | h | h | h | h
   ·exact h.2
   all_goals exact absurd h.1 (by omega)
  ·exact hs.stat
 ·rw [at_]; split
  ·rename_i e; subst e; rcases h with h | h | h | h | h | h <;> omega
  ·exact hs.act
 ·rw [at_]; split
  ·rename_i e; subst e; rcases h with h | h | h | h | h | h <;> omega
  ·exact hs.shade j hj
theorem upd_nsta {f : M} (k : Nat) (x : Int) (hk : k < 31408) (h : ¬ rgt k x) : ¬ Sta (upd f k x) := fun hs => by
 refine h ?_
 unfold rgt
 by_cases h1 : k = 8353
 ·subst h1; have := hs.stat; rw [upd_same] at this; exact Or.inl ⟨rfl, this⟩
 by_cases h2 : k = 8356
 ·subst h2; have := hs.line; rw [upd_same] at this; exact Or.inr (Or.inl ⟨rfl, this⟩)
 by_cases h3 : k = 8363
 ·subst h3; have := hs.dot; rw [upd_same] at this; exact Or.inr (Or.inr (Or.inl ⟨rfl, this⟩))
 by_cases h4 : k = 8367
 ·subst h4; have := hs.act; rw [upd_same] at this; exact Or.inr (Or.inr (Or.inr (Or.inl ⟨rfl, by omega⟩)))
 by_cases h5 : 8367 < k
 ·have := hs.shade (k - 8368) (by omega)
  rw [show 8368 + (k - 8368) = k by omega, upd_same] at this
  exact Or.inr (Or.inr (Or.inr (Or.inr (Or.inl ⟨h5, by omega⟩))))
 ·exact Or.inr (Or.inr (Or.inr (Or.inr (Or.inr ⟨h1, h2, h3, h4, h5⟩))))
end Go.Proofs.Ytpfbodmadmneiaa
