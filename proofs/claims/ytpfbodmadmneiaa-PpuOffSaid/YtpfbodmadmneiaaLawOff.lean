/-
 Proved: for every input the law PpuOff returns true (Rows.PpuOffSaid), with no condition.
-/
import Derived.Test.YtpfbodmadmneiaaTz
import Derived.Test.YtpfbodmadmneiaaFw
import Derived.Test.YtpfbodmadmneiaaAw
import Derived.Test.YtpfbodmadmneiaaEo
import Derived.Deep.Cut
import Derived.BigQuiet
import Derived.WalkSmall
import Derived.Deep.LoopGhost
import Derived.Deep.DeepCutAuto
import Derived.Deep.CutBlock
import Derived.Test.YtpfbodmadmneiaaShut
import Derived.Laws.StructEq
namespace Go.Proofs.Ytpfbodmadmneiaa
open Go.ChangeShapes Go.WideShapes Go.ChangeAt Go.RowKit
set_option linter.unusedVariables false
set_option linter.unusedSimpArgs false
def Off0 (m : M) : Prop := m 8352 < 128 → m 8356 = 0 ∧ m 8363 = 0
theorem off_zero : Off0 zeroM := fun _ => ⟨rfl, rfl⟩
theorem off_upd {m : M} (h : Off0 m) (o : Nat) (x : Int) (h1 : o ≠ 8352) (h2 : o ≠ 8356) (h3 : o ≠ 8363) : Off0 (upd m o x) := fun q => by
 rw [upd_ne _ _ _ _ (Ne.symm h1)] at q
 rw [upd_ne _ _ _ _ (Ne.symm h2), upd_ne _ _ _ _ (Ne.symm h3)]
 exact h q
theorem off_sg {m : M} (h : Off0 m) : Off0 (sgM m) := off_upd h 8366 _ (by decide) (by decide) (by decide)
theorem off_tick {m : M} (h : Off0 m) : Off0 (tickM m) := by
 by_cases a : 128 ≤ m 8352
 ·intro q
  rw [lies_tick m 8352 (by omega) (by omega)] at q
  omega
 ·have e : tickM m = m := by unfold tickM; rw [if_neg a]
  rw [e]; exact h
theorem off_it {m : M} (h : Off0 m) : ∀ t, Off0 (itM t m)
 | 0 => by rw [it_zero]; exact h
 | t + 1 => by rw [it_succ]; exact off_tick (off_it h t)
theorem off_ctl {m : M} (h : Off0 m) (x : Int) : Off0 (ctlM m x) := by
 unfold ctlM
 by_cases g : 128 ≤ m 8352 ∧ x < 128
 ·rw [if_pos g]
  intro _
  refine ⟨?_, ?_⟩
  ·rw [upd_ne _ _ _ _ (by omega), upd_ne _ _ _ _ (by omega), upd_same]
  ·rw [upd_ne _ _ _ _ (by omega), upd_same]
 ·rw [if_neg g]
  intro q
  rw [upd_same] at q
  rw [upd_ne _ _ _ _ (by omega), upd_ne _ _ _ _ (by omega)]
  exact h (by omega)
theorem off_set {m : M} (h : Off0 m) (n : Nat) (hn : n < 11) (x : Int) : Off0 (setM m n x) := by
 unfold setM
 by_cases a1 : n = 1
 ·rw [if_pos a1]; exact off_upd h _ _ (by omega) (by omega) (by omega)
 ·rw [if_neg a1]
  by_cases a4 : n = 4
  ·rw [if_pos a4]; exact h
  ·rw [if_neg a4]
   by_cases a0 : n = 0
   ·rw [if_pos a0]; exact off_ctl h x
   ·rw [if_neg a0]; exact off_upd h _ _ (by omega) (by omega) (by omega)
theorem off_write {m : M} (h : Off0 m) (a x : Int) : Off0 (writeM m a x) := by
 unfold writeM
 split
 ·exact h
 ·unfold putM
  by_cases hr : isR a = true
  ·rw [if_pos hr]; exact off_sg (off_set h _ (regno_bd a hr) x)
  ·rw [if_neg hr]
   by_cases hv : isV a = true
   ·rw [if_pos hv]
    unfold isV at hv
    simp at hv
    exact off_upd h _ _ (by omega) (by omega) (by omega)
   ·rw [if_neg hv]
    by_cases ho : isO a = true
    ·rw [if_pos ho]
     unfold isO at ho
     simp at ho
     exact off_upd h _ _ (by omega) (by omega) (by omega)
    ·rw [if_neg ho]; exact h
theorem off_spr {m : M} (h : Off0 m) (n x : Int) : Off0 (sprM m n x) := by
 unfold sprM
 split
 ·exact off_upd h _ _ (by omega) (by omega) (by omega)
 ·exact h
theorem off_wrs {m : M} (h : Off0 m) (a : Int) (F : M) : ∀ t, Off0 (wrsM a F t m)
 | 0 => by rw [wrs_zero]; exact h
 | t + 1 => by rw [wrs_succ]; exact off_write (off_wrs h a F t) _ _
theorem off_do {m : M} (h : Off0 m) (k n a x : Int) (L : Nat) (F : M) : Off0 (doM k n a x L F m) := by
 unfold doM
 split
 ·exact off_it h _
 ·split
  ·exact off_write h _ _
  ·split
   ·exact off_spr h _ _
   ·split
    ·exact off_wrs h _ _ _
    ·exact h
theorem off_run (O : Nat → OpV) : ∀ t, Off0 (runM O t zeroM)
 | 0 => by rw [run_zero]; exact off_zero
 | t + 1 => by rw [run_succ]; exact off_do (off_run O t) _ _ _ _ _ _
/-- Switched off. -/
def offM (m : M) (c : Int) : M := writeM m 65344 c
theorem off_eq (m : M) (c : Int) : offM m c = sgM (ctlM m c) ∧ writeR m 65344 c = askM (ctlM m c) := by
 have hh : hidV (modeM m) 65344 = false := by
  unfold hidV
  split
  ·rfl
  ·split <;> rfl
 have es : setM m 0 c = ctlM m c := by unfold setM; rw [if_neg (by decide), if_neg (by decide), if_pos rfl]
 constructor
 ·unfold offM writeM
  rw [if_neg (by rw [hh]; decide)]
  unfold putM
  rw [if_pos (by decide), show regno 65344 = 0 from by decide, es]
 ·unfold writeR
  rw [if_neg (by rw [hh]; decide)]
  unfold putR
  rw [if_pos (by decide), show regno 65344 = 0 from by decide, es]
theorem ctl_c0 (m : M) (c : Int) : ctlM m c 8352 = c := by
 unfold ctlM
 split
 ·rw [upd_ne _ _ _ _ (by omega), upd_ne _ _ _ _ (by omega), upd_ne _ _ _ _ (by omega), upd_same]
 ·exact upd_same _ _ _
theorem off_facts {m : M} (h : Off0 m) (c : Int) (hc : c < 128) : offM m c 8352 = c ∧ offM m c 8356 = 0 ∧ offM m c 8363 = 0 ∧ writeR m 65344 c = 0 := by
 have hz := off_ctl h c (by rw [ctl_c0]; exact hc)
 rw [(off_eq m c).1]
 refine ⟨by rw [sg_at _ _ (by omega)]; exact ctl_c0 m c, by rw [sg_at _ _ (by omega)]; exact hz.1, by rw [sg_at _ _ (by omega)]; exact hz.2, ?_⟩
 rw [(off_eq m c).2]
 have hs : sigM (ctlM m c) = false := by
  unfold sigM sigV
  rw [ctl_c0]
  simp; omega
 unfold askM
 rw [if_neg (by rw [hs]; simp)]
theorem off_pic (m : M) (c : Int) (o : Nat) (h : 8367 ≤ o) : offM m c o = m o := by
 rw [(off_eq m c).1, sg_at _ _ (by omega)]
 unfold ctlM
 split
 ·rw [upd_ne _ _ _ _ (by omega), upd_ne _ _ _ _ (by omega), upd_ne _ _ _ _ (by omega), upd_ne _ _ _ _ (by omega)]
 ·exact upd_ne _ _ _ _ (by omega)
theorem tick_offM {m : M} (h : m 8352 < 128) : tickM m = m ∧ tickR m = 0 := by
 unfold tickM tickR
 rw [if_neg (by omega), if_neg (by omega)]
 exact ⟨rfl, rfl⟩
/-- A row of the picture. -/
def rwV (m : M) (line : Int) : M := if 0 ≤ line ∧ line < 144 then fun j => m (8367 + line.toNat * 160 + j) else zeroM
/-- Behind the two writes. -/
def endM (m : M) (c : Int) : M := upd (upd (offM m c) 291 7) (8192 + 18) 9
theorem end_w1 {m : M} (h : Off0 m) (c : Int) (hc : c < 128) : writeM (offM m c) 33059 7 = upd (offM m c) 291 7 := by
 unfold writeM
 have : modeM (offM m c) = 0 := by unfold modeM modeV; rw [if_neg (by rw [(off_facts h c hc).1]; omega)]
 rw [this, if_neg (by decide)]
 exact put_v _ 291 7 (by decide)
theorem end_w2 {m : M} (h : Off0 m) (c : Int) (hc : c < 128) : writeM (upd (offM m c) 291 7) 65042 9 = endM m c := by
 unfold writeM
 have : modeM (upd (offM m c) 291 7) = 0 := by unfold modeM modeV; rw [upd_ne _ _ _ _ (by omega), if_neg (by rw [(off_facts h c hc).1]; omega)]
 rw [this, if_neg (by decide)]
 exact put_o _ 18 9 (by decide)
theorem end_facts {m : M} (h : Off0 m) (c : Int) (hc : c < 128) : endM m c 8356 = 0 ∧ endM m c 8363 = 0 ∧ modeM (endM m c) = 0 ∧ readM (endM m c) 33059 = 7 ∧ readM (endM m c) 65042 = 9 ∧ ∀ l, rwV (endM m c) l = rwV m l := by
 obtain ⟨f1, f2, f3, _⟩ := off_facts h c hc
 have e : ∀ o, 8352 ≤ o → endM m c o = offM m c o := fun o ho => by unfold endM; rw [upd_ne _ _ _ _ (by omega), upd_ne _ _ _ _ (by omega)]
 have hm : modeM (endM m c) = 0 := by unfold modeM modeV; rw [e _ (by omega), f1, if_neg (by omega)]
 refine ⟨by rw [e _ (by omega)]; exact f2, by rw [e _ (by omega)]; exact f3, hm, ?_, ?_, fun l => ?_⟩
 ·unfold readM
  rw [hm, if_neg (by decide)]
  refine (peek_v _ 291 (by decide)).trans ?_
  unfold endM
  rw [upd_ne _ _ _ _ (by omega), upd_same]
 ·unfold readM
  rw [hm, if_neg (by decide)]
  refine (peek_o _ 18 (by decide)).trans ?_
  unfold endM
  rw [upd_same]
 ·unfold rwV
  split
  ·funext j
   rw [e _ (by omega)]; exact off_pic m c _ (by omega)
  ·rfl
end Go.Proofs.Ytpfbodmadmneiaa
namespace Go.Proofs.Ytpfbodmadmneiaa
open Go.ChangeShapes Go.WideShapes Go.ChangeAt Go.RowKit
set_option linter.unusedVariables false
set_option linter.unusedSimpArgs false
set_option maxRecDepth 100000
theorem row_in_u {m : M} (k : Nat) (h : 8367 ≤ k) (h2 : k + 160 ≤ 31407) (w : World) (b : Nat) (hP : Has w b (encU m)) : w.rangeAt b k (enc (fun j => m (k + j))).toList := fun j v hv => by
 have hj : j < 160 := by
  obtain ⟨q, _⟩ := List.getElem?_eq_some_iff.1 hv
  rwa [Array.length_toList, enc_size] at q
 rw [Array.getElem?_toList, enc_get _ _ hj] at hv
 rw [hP.2.1, encU_u _ _ (by omega) (by omega) (by omega)]; exact hv
/-- A row of the picture is loaded. -/
theorem load_row {ops : Array Oper} {rest : List Oper} {op : Oper} {a : Act} {w : World} {Q : Exit → Act → World → Prop} {b : Nat} {m : M} (hP : Has w b (encU m))
  (hgd : op.guard = none) (x : Operand) (ho : op.op = .load 34 x) (k : Nat) (hx : a.eval x = .pointer (some ⟨b, k, none⟩)) (h : 8367 ≤ k) (h2 : k + 160 ≤ 31407)
  (hK : wpList Try.prog ops Q rest (a.put op.dst (.agg (enc (fun j => m (k + j))))) w) : wpList Try.prog ops Q (op :: rest) a w := by
 obtain ⟨d, hd, hr⟩ := r34.d
 exact wpList_load_mid hgd 34 x ho b k hx (enc (fun j => m (k + j))).toList d (row_in_u k h h2 w b hP) hd hr (by rw [r34.i]; simp [enc_size]) (by simpa using hK)
theorem zc34 : Try.zeroCells34 = enc zeroM := by
 have h1 := zero34
 have h2 := Try.zeroValue34
 have w : World := default
 have e := (h1 w).symm.trans (h2 w)
 injection e with e1 _
 injection e1 with e1
 exact e1.symm
set_option maxHeartbeats 4000000 in
theorem row_0 (b : Nat) (m : M) (n : Nat) (n1 : n < 144) (w : World) (h : Has w b (encU m)) : Calls Try.prog 15 #[.pointer (some ⟨b, 0, none⟩), .int .i64 (n : Int)] w fun q_ w' => q_ = .returned (.agg (enc (fun j => m (8367 + n * 160 + j)))) ∧ Below w.heap.size w w' := by
 suffices hall : ∀ (n_ : Nat) (W0 : World), n_ ≤ W0.heap.size → Below n_ W0 w → Calls Try.prog 15 #[.pointer (some ⟨b, 0, none⟩), .int .i64 (n : Int)] w fun q_ w' => q_ = .returned (.agg (enc (fun j => m (8367 + n * 160 + j)))) ∧ Below n_ W0 w' from hall _ _ (Nat.le_refl _) (Below.refl _ _)
 intro n_ W0 hn hB
 have HN := Lib.hid hn
 have P0 := Lib.hid h
 clear hn h
 have Q_ := own1 w (.cells Try.zeroCells34 34)
 have B1 := Lib.hid (vian HN.out hB Q_)
 have P1 := Lib.hid (P0.out.below Q_)
 have X1 := Lib.hid (Has.new w Try.zeroCells34 34)
 have LX := Lib.hid (Nat.le_trans HN.out hB.size)
 have NX := Lib.hid (Nat.ne_of_lt P0.out.1)
 clear Q_ hB
 have n2 : (n : Int) < 144 := by omega
 go_enter Try.func15, Try.ntmps15
 go_upto_region 1 with (fail)
 generalize w.alloc (.cells Try.zeroCells34 34) = u1 at B1 P1 X1 ⊢
 generalize w.heap.size = xb at X1 LX NX ⊢
 clear P0
 go_upto_region 3 with (fail)
 go_wp2_with (first | refine load_row P1.out rfl _ rfl _ rfl (by omega) (by omega) ?_ | refine store_g r34 X1.out Try.zeroCells34_size (enc (fun j => m (8367 + n * 160 + j))) (enc_size _) (enc_one _) rfl _ _ rfl rfl rfl ?_)
 try go_wp2_with (refine store_g r34 X1.out Try.zeroCells34_size (enc (fun j => m (8367 + n * 160 + j))) (enc_size _) (enc_one _) rfl _ _ rfl rfl rfl ?_)
 intro u2 hP hk
 have B2 := Lib.hid (hk.below HN.out LX.out B1.out)
 have X2 := Lib.hid hP
 clear hP hk
 try simp only [Act.put]
 go_wp2
 exact bodyPost_ret (v := .agg (enc (fun j => m (8367 + n * 160 + j)))) (results_g r34 Try.results15 _ rfl X2.out (enc_size _)) rfl ⟨rfl, B2.out⟩
set_option maxHeartbeats 4000000 in
theorem row_lo (b : Nat) (m : M)  (w : World) (h : Has w b (encU m)) : Calls Try.prog 15 #[.pointer (some ⟨b, 0, none⟩), .int .i64 (-1)] w fun q_ w' => q_ = .returned (.agg (enc (zeroM))) ∧ Below w.heap.size w w' := by
 suffices hall : ∀ (n_ : Nat) (W0 : World), n_ ≤ W0.heap.size → Below n_ W0 w → Calls Try.prog 15 #[.pointer (some ⟨b, 0, none⟩), .int .i64 (-1)] w fun q_ w' => q_ = .returned (.agg (enc (zeroM))) ∧ Below n_ W0 w' from hall _ _ (Nat.le_refl _) (Below.refl _ _)
 intro n_ W0 hn hB
 have HN := Lib.hid hn
 have P0 := Lib.hid h
 clear hn h
 have Q_ := own1 w (.cells Try.zeroCells34 34)
 have B1 := Lib.hid (vian HN.out hB Q_)
 have P1 := Lib.hid (P0.out.below Q_)
 have X1 := Lib.hid (Has.new w Try.zeroCells34 34)
 have LX := Lib.hid (Nat.le_trans HN.out hB.size)
 have NX := Lib.hid (Nat.ne_of_lt P0.out.1)
 clear Q_ hB
 go_enter Try.func15, Try.ntmps15
 go_upto_region 1 with (fail)
 generalize w.alloc (.cells Try.zeroCells34 34) = u1 at B1 P1 X1 ⊢
 generalize w.heap.size = xb at X1 LX NX ⊢
 clear P0
 go_upto_region 2 with (fail)
 rw [zc34] at X1
 go_wp2_with (refine store_g r34 X1.out (enc_size _) (enc zeroM) (enc_size _) (enc_one _) rfl _ _ rfl rfl (by rw [← zc34]; rfl) ?_)
 intro u2 hP hk
 have B2 := Lib.hid (hk.below HN.out LX.out B1.out)
 have X2 := Lib.hid hP
 clear hP hk
 try simp only [Act.put]
 go_wp2
 exact bodyPost_ret (v := .agg (enc (zeroM))) (results_g r34 Try.results15 _ rfl X2.out (enc_size _)) rfl ⟨rfl, B2.out⟩
set_option maxHeartbeats 4000000 in
theorem row_hi (b : Nat) (m : M) (line : Int) (l0 : 144 ≤ line) (l1 : line < 256) (w : World) (h : Has w b (encU m)) : Calls Try.prog 15 #[.pointer (some ⟨b, 0, none⟩), .int .i64 line] w fun q_ w' => q_ = .returned (.agg (enc (zeroM))) ∧ Below w.heap.size w w' := by
 suffices hall : ∀ (n_ : Nat) (W0 : World), n_ ≤ W0.heap.size → Below n_ W0 w → Calls Try.prog 15 #[.pointer (some ⟨b, 0, none⟩), .int .i64 line] w fun q_ w' => q_ = .returned (.agg (enc (zeroM))) ∧ Below n_ W0 w' from hall _ _ (Nat.le_refl _) (Below.refl _ _)
 intro n_ W0 hn hB
 have HN := Lib.hid hn
 have P0 := Lib.hid h
 clear hn h
 have Q_ := own1 w (.cells Try.zeroCells34 34)
 have B1 := Lib.hid (vian HN.out hB Q_)
 have P1 := Lib.hid (P0.out.below Q_)
 have X1 := Lib.hid (Has.new w Try.zeroCells34 34)
 have LX := Lib.hid (Nat.le_trans HN.out hB.size)
 have NX := Lib.hid (Nat.ne_of_lt P0.out.1)
 clear Q_ hB
 have g0 : ¬ line < 0 := by omega
 go_enter Try.func15, Try.ntmps15
 go_upto_region 1 with (fail)
 generalize w.alloc (.cells Try.zeroCells34 34) = u1 at B1 P1 X1 ⊢
 generalize w.heap.size = xb at X1 LX NX ⊢
 clear P0
 go_upto_region 2 with (fail)
 rw [zc34] at X1
 go_wp2_with (refine store_g r34 X1.out (enc_size _) (enc zeroM) (enc_size _) (enc_one _) rfl _ _ rfl rfl (by rw [← zc34]; rfl) ?_)
 intro u2 hP hk
 have B2 := Lib.hid (hk.below HN.out LX.out B1.out)
 have X2 := Lib.hid hP
 clear hP hk
 try simp only [Act.put]
 go_wp2
 exact bodyPost_ret (v := .agg (enc (zeroM))) (results_g r34 Try.results15 _ rfl X2.out (enc_size _)) rfl ⟨rfl, B2.out⟩
theorem row_c (b : Nat) (m : M) (line : Int) (l0 : 0 ≤ line) (l1 : line < 256) (f : M) (hf : rwV m line = f) (w : World) (h : Has w b (encU m)) : Calls Try.prog 15 #[.pointer (some ⟨b, 0, none⟩), .int .i64 line] w fun q_ w' => q_ = .returned (.agg (enc f)) ∧ Below w.heap.size w w' := by
 subst hf
 unfold rwV
 by_cases g : 0 ≤ line ∧ line < 144
 ·rw [if_pos g]
  obtain ⟨n, rfl⟩ := Int.eq_ofNat_of_zero_le l0
  rw [Int.toNat_natCast]
  exact row_0 b m n (by omega) w h
 ·rw [if_neg g]; exact row_hi b m line (by omega) l1 w h
theorem nil_tick (w : World) : Calls Try.prog 22 #[.pointer none] w fun q_ w' => q_ = .returned (.int .u8 0) ∧ w' = w := by
 go_enter Try.func22, Try.ntmps22
 go_wp2
 all_goals exact bodyPost_ret (v := .int .u8 0) (by simp [results, Try.results22, go_sem]) rfl ⟨rfl, rfl⟩
theorem nil_peek (w : World) : Calls Try.prog 27 #[.pointer none, .int .u16 32768] w fun q_ w' => q_ = .returned (.int .u8 0) ∧ w' = w := by
 go_enter Try.func27, Try.ntmps27
 go_wp2
 all_goals exact bodyPost_ret (v := .int .u8 0) (by simp [results, Try.results27, go_sem]) rfl ⟨rfl, rfl⟩
theorem nil_write (w : World) : Calls Try.prog 21 #[.pointer none, .int .u16 32768, .int .u8 1] w fun q_ w' => q_ = .returned (.int .u8 0) ∧ w' = w := by
 go_enter Try.func21, Try.ntmps21
 go_wp2
 all_goals exact bodyPost_ret (v := .int .u8 0) (by simp [results, Try.results21, go_sem]) rfl ⟨rfl, rfl⟩
theorem nil_read (w : World) : Calls Try.prog 26 #[.pointer none, .int .u16 32768] w fun q_ w' => q_ = .returned (.int .u8 0) ∧ w' = w := by
 go_enter Try.func26, Try.ntmps26
 go_wp2_with (fail)
 with_reducible refine (nil_peek _).mono ?_
 rintro q_ w' ⟨rfl, rfl⟩
 go_wp2
 all_goals exact bodyPost_ret (v := .int .u8 0) (by simp [results, Try.results26, go_sem]) rfl ⟨rfl, rfl⟩
theorem nil_dec (v : Value) (w : World) : Calls Try.prog 19 #[.pointer none, v] w fun q_ w' => q_ = .returned (.int .i64 5) ∧ w' = w := by
 go_enter Try.func19, Try.ntmps19
 go_wp2
 all_goals exact bodyPost_ret (v := .int .i64 5) (by simp [results, Try.results19, go_sem]) rfl ⟨rfl, rfl⟩
/-- A call is loaded out of a slice of calls. -/
theorem load_op {ops : Array Oper} {rest : List Oper} {op : Oper} {a : Act} {w : World} {Q : Exit → Act → World → Prop} {b k : Nat} {o : OpV} (hr : w.rangeAt b k o.cells.toList)
  (hgd : op.guard = none) (x : Operand) (ho : op.op = .load 33 x) (hx : a.eval x = .pointer (some ⟨b, k, none⟩))
  (hK : wpList Try.prog ops Q rest (a.put op.dst (.agg o.cells)) w) : wpList Try.prog ops Q (op :: rest) a w := by
 obtain ⟨d, hd, hrow⟩ : ∃ d, Try.prog.underlying 33 = some d ∧ d.isRow = true := ⟨_, Try.underlying33, rfl⟩
 have hi : (Try.prog.info? 33).map (·.size) = some 5 := by kernel_rfl
 exact wpList_load_mid hgd 33 x ho b k hx o.cells.toList d hr hd hrow (by rw [hi]; rfl) (by simpa using hK)
/-- A unit behind calls. -/
def PlayE (f : M) (k : Nat) (W0 : World) (e : Ending) (w' : World) : Prop := ∃ b, e = .returned (.pointer (some ⟨b, 0, none⟩)) ∧ Has w' b (encU f) ∧ k ≤ b ∧ Below k W0 w'
set_option maxHeartbeats 8000000 in
theorem play_c (n_ : Nat) (W0 : World) (vv : Value) (n : Nat) (O : Nat → OpV) (hV : OpsB n_ W0 vv n O) (hfew : fewV n O = true) (hn : n_ ≤ W0.heap.size) (w : World) (hB : Below n_ W0 w) : Calls Try.prog 20 #[vv] w (PlayE (runM O n zeroM) n_ W0) := by
 obtain ⟨a, c, rfl, hn9, hO, hM⟩ := hV
 have HM := Lib.hid hM
 have HO := Lib.hid hO
 have HN := Lib.hid hn
 have B0 := Lib.hid hB
 have fw : (∀ j, j < n → (O j).len ≤ 600) ∧ n ≤ 30 := by unfold fewV at hfew; simpa using hfew
 have HL := Lib.hid fw.1
 have n30 := fw.2
 clear hM hO hn hB hfew fw
 go_enter Try.func20, Try.ntmps20
 go_wp2_with (fail)
 with_reducible refine (new_c _).mono ?_
 rintro q_ u1 ⟨rfl, hP, hb⟩
 have B1 := Lib.hid (vian HN.out B0.out hb)
 have P1 := Lib.hid hP
 have LP := Lib.hid (Nat.le_trans HN.out B0.out.size)
 clear hb hP B0
 generalize w.heap.size = pb at P1 LP ⊢
 go_wp2_with (fail)
 refine (rnew_c _).mono ?_
 rintro q_ u2 ⟨r, v, s, rfl, hQ, lr, lv, ls, hb⟩
 have B2 := Lib.hid (vian HN.out B1.out hb)
 have P2 := Lib.hid (P1.out.below hb)
 have Q2 := Lib.hid hQ
 have LR := Lib.hid (Nat.le_trans (Nat.le_trans HN.out B1.out.size) lr)
 have LV := Lib.hid (Nat.le_trans (Nat.le_trans HN.out B1.out.size) lv)
 have LS := Lib.hid (Nat.le_trans (Nat.le_trans HN.out B1.out.size) ls)
 have AP := Lib.hid (show Apart pb r v s from ⟨by have := P1.out.1; omega, by have := P1.out.1; omega, by have := P1.out.1; omega⟩)
 clear hb hQ lr lv ls B1 P1
 go_wp2
 go_loopg [10] n (fun g' i wr => ∃ (t : Nat), t ≤ n ∧ g' + t = n ∧ i = .int .i64 t ∧ Below n_ W0 wr ∧ Has wr pb (encU (runM O t zeroM)) ∧ RU wr r v s (runM O t zeroM))
 case atStart => exact ⟨0, by omega, by omega, rfl, B2.out, by rw [run_zero]; exact P2.out, by rw [run_zero]; exact Q2.out⟩
 case round =>
  obtain ⟨t, ht, hg, rfl, hB, hP, hQ⟩ := hrel
  have TG := Lib.hid hg
  have B3 := Lib.hid hB
  have P3 := Lib.hid hP
  have Q3 := Lib.hid hQ
  clear hg hB hP hQ B2 P2 Q2
  obtain ⟨u3, hu⟩ : ∃ q_, q_ = wr := ⟨_, rfl⟩
  subst hu
  by_cases hlt : t < n
  ·have l1 : (t : Int) < n := by omega
   obtain ⟨b, o, e, hb, hc⟩ := HM.out (by omega)
   subst e
   have okt := run_ok (fun j => ⟨(HO.out j).1, by obtain ⟨_, _, _, _, h3, _⟩ := (HO.out j).2; exact h3⟩) ok_zero t
   have DC := Lib.hid (do_c n_ W0 pb r v s AP.out LP.out LR.out LV.out LS.out HN.out (runM O t zeroM) okt (O t) (HO.out t).1 (HO.out t).2 (HL.out t hlt) u3 P3.out Q3.out B3.out)
   rw [← run_succ] at DC
   have rg : u3.rangeAt b (o + t * 5) (O t).cells.toList := fun q vq hq => by
    have hq5 : q < 5 := by
     obtain ⟨h, _⟩ := List.getElem?_eq_some_iff.1 hq
     exact h
    rw [Array.getElem?_toList] at hq
    exact ((B3.out.cell (p := ⟨b, o + t * 5 + q, none⟩) hb).trans (hc t hlt q hq5)).trans hq
   have RG := Lib.hid rg
   clear hc okt rg
   go_wp2_with (refine load_op RG.out rfl _ rfl rfl ?_)
   try simp only [Act.put, qqA, qqB, qqC]
   go_wp2_with (fail)
   with_reducible refine (DC.out).mono ?_
   rintro q_ u4 ⟨rfl, hP, hQ, hB⟩
   have B4 := Lib.hid hB
   have P4 := Lib.hid hP
   have Q4 := Lib.hid hQ
   clear hB hP hQ B3 P3 Q3 DC RG
   go_wp2
   go_roundg (gk - 1)
   ·exact ⟨t + 1, by omega, by have := TG.out; omega, by simp, B4.out, P4.out, Q4.out⟩
   case measure => have := TG.out; omega
  ·obtain rfl : n = t := by omega
   go_wp2
   go_ret
   exact ⟨pb, rfl, P3.out, LP.out, B3.out⟩
end Go.Proofs.Ytpfbodmadmneiaa
namespace Go.Proofs.Ytpfbodmadmneiaa
open Go.ChangeShapes Go.WideShapes Go.ChangeAt Go.RowKit
set_option linter.unusedVariables false
set_option linter.unusedSimpArgs false
set_option maxRecDepth 100000
theorem yields_eqz {ops : Array Oper} {S : World → Prop} {op : Oper} {a : Act} (hw : Region.wanted op (yielded ops a.tmps) = true) (x y : Operand) (ho : op.op = .binOp .eql 34 x y 34)
  (hx : a.eval x = .agg Try.zeroCells34) (hy : a.eval y = .agg Try.zeroCells34) : YieldsIf Try.prog ops S op (.bool true) a :=
 yields_eq zeroM hw x y ho (by rw [hx, zc34]) (by rw [hy, zc34])
set_option maxHeartbeats 16000000 in
theorem offw_many (n_ : Nat) (W0 : World) (hn : n_ ≤ W0.heap.size) (vv : Value) (n : Nat) (O : Nat → OpV) (hV : OpsB n_ W0 vv n O) (c cy ln : Int) (c0 : 0 ≤ c) (c1 : c < 256) (cy0 : 0 ≤ cy) (cy1 : cy < 256) (ln0 : 0 ≤ ln) (ln1 : ln < 256) (hf : fewV n O = false) (w : World) (hB : Below n_ W0 w) : Calls Try.prog 9 #[vv, .int .u8 c, .int .u8 cy, .int .u8 ln] w fun q_ w' => q_ = .returned (.bool true) ∧ Below n_ W0 w' := by
 have HN := Lib.hid hn
 have HV := Lib.hid hV
 obtain ⟨u0, hu0⟩ : ∃ u0, u0 = w := ⟨_, rfl⟩
 rw [← hu0] at hB ⊢
 have B0 := Lib.hid hB
 clear hn hV hB hu0
 have AW := Lib.hid awake_c
 have HF := Lib.hid hf
 clear hf
 have hnot : ∀ (x : Bool) (w : World), (Op.unary .not (.bool x)).run Try.prog w = .ok (.bool (!x)) w := fun _ _ => rfl
 go_enter Try.func9, Try.ntmps9
 go_wp2_with (fail)
 with_reducible refine (AW.out _).mono ?_
 rintro q_ u1 ⟨rfl, hb⟩
 have B1 := Lib.hid (vian HN.out B0.out hb)
 clear hb B0
 go_wp2_with (fail)
 with_reducible refine (few_c n_ W0 vv n O HV.out false HF.out _ B1.out).mono ?_
 rintro q_ w' ⟨rfl, rfl⟩
 go_wp2_with (fail)
 with_reducible refine (AW.out _).mono ?_
 rintro q_ u2 ⟨rfl, hb⟩
 have B2 := Lib.hid (vian HN.out B1.out hb)
 clear hb B1
 go_wp2
 all_goals exact bodyPost_ret (v := .bool true) (by simp [results, Try.results9, go_sem]) rfl ⟨rfl, B2.out⟩
set_option maxHeartbeats 16000000 in
theorem offw_few (n_ : Nat) (W0 : World) (hn : n_ ≤ W0.heap.size) (vv : Value) (n : Nat) (O : Nat → OpV) (hV : OpsB n_ W0 vv n O) (c cy ln : Int) (c0 : 0 ≤ c) (c1 : c < 256) (cy0 : 0 ≤ cy) (cy1 : cy < 256) (ln0 : 0 ≤ ln) (ln1 : ln < 256) (hf : fewV n O = true) (cv : Int) (hc : bits .and .u8 c 127 = cv) (cv0 : 0 ≤ cv) (cv1 : cv < 128) (cN : Nat) (hcN : cy = cN) (m m1 m2 m3 : M) (hm : runM O n zeroM = m) (ok : Ok m) (h1 : offM m cv = m1) (ok1 : Ok m1) (hoff : m1 8352 < 128) (hr1 : writeR m 65344 cv = 0) (h2 : writeM m1 33059 7 = m2) (ok2 : Ok m2) (h3 : writeM m2 65042 9 = m3) (ok3 : Ok m3) (eL : m3 8356 = 0) (eD : m3 8363 = 0) (eM : modeM m3 = 0) (e7 : readM m3 33059 = 7) (e9 : readM m3 65042 = 9) (g : M) (eR : rwV m ln = g) (eR3 : rwV m3 ln = g) (w : World) (hB : Below n_ W0 w) : Calls Try.prog 9 #[vv, .int .u8 c, .int .u8 cy, .int .u8 ln] w fun q_ w' => q_ = .returned (.bool true) ∧ Below n_ W0 w' := by
 have HN := Lib.hid hn
 have HV := Lib.hid hV
 obtain ⟨u0, hu0⟩ : ∃ u0, u0 = w := ⟨_, rfl⟩
 rw [← hu0] at hB ⊢
 have B0 := Lib.hid hB
 clear hn hV hB hu0
 subst hcN
 have AW := Lib.hid awake_c
 have hf_ := Lib.hid hf
 clear hf
 have hm_ := Lib.hid hm
 clear hm
 have ok_ := Lib.hid ok
 clear ok
 have h1_ := Lib.hid h1
 clear h1
 have ok1_ := Lib.hid ok1
 clear ok1
 have hoff_ := Lib.hid hoff
 clear hoff
 have hr1_ := Lib.hid hr1
 clear hr1
 have h2_ := Lib.hid h2
 clear h2
 have ok2_ := Lib.hid ok2
 clear ok2
 have h3_ := Lib.hid h3
 clear h3
 have ok3_ := Lib.hid ok3
 clear ok3
 have eL_ := Lib.hid eL
 clear eL
 have eD_ := Lib.hid eD
 clear eD
 have eM_ := Lib.hid eM
 clear eM
 have e7_ := Lib.hid e7
 clear e7
 have e9_ := Lib.hid e9
 clear e9
 have eR_ := Lib.hid eR
 clear eR
 have eR3_ := Lib.hid eR3
 clear eR3
 have o0 : bits .or .u8 0 0 = 0 := by decide
 have o1 : IntKind.i64.wrap 0 = 0 := by decide
 have o2 : IntKind.u8.wrap 0 = 0 := by decide
 have o3 : IntKind.i64.wrap ln = ln := by rw [IntKind.wrap_i64]; omega
 have hnot : ∀ (x : Bool) (w : World), (Op.unary .not (.bool x)).run Try.prog w = .ok (.bool (!x)) w := fun _ _ => rfl
 go_enter Try.func9, Try.ntmps9
 go_wp2_with (fail)
 with_reducible refine (AW.out _).mono ?_
 rintro q_ u1 ⟨rfl, hb⟩
 have B1 := Lib.hid (vian HN.out B0.out hb)
 clear hb B0
 go_wp2_with (fail)
 with_reducible refine (few_c n_ W0 vv n O HV.out true hf_.out _ B1.out).mono ?_
 rintro q_ w' ⟨rfl, rfl⟩
 go_wp2_with (fail)
 refine (play_c n_ W0 vv n O HV.out hf_.out HN.out _ B1.out).mono ?_
 rintro q_ u2 ⟨pb, rfl, hP, hl, hB⟩
 rw [hm_.out] at hP
 have P2 := Lib.hid hP
 have B2 := Lib.hid hB
 have LP := Lib.hid hl
 clear hP hB hl B1
 go_wp2_with (fail)
 with_reducible refine (row_c pb m ln ln0 ln1 g eR_.out _ P2.out).mono ?_
 rintro q_ u3 ⟨rfl, hb⟩
 have B3 := Lib.hid (vian HN.out B2.out hb)
 have P3 := Lib.hid (P2.out.below hb)
 clear hb B2 P2
 go_wp2_with (refine store_g r34 (Has.new u3 Try.zeroCells34 34) Try.zeroCells34_size (enc g) (enc_size _) (enc_one _) rfl _ _ rfl rfl rfl ?_)
 intro u4 hP hk
 have B4 := Lib.hid (keep_new HN.out B3.out _ hk)
 have NPX := Lib.hid (Nat.ne_of_lt P3.out.1)
 have P4 := Lib.hid (hk.has NPX.out (P3.out.below (own1 _ _)))
 have X4 := Lib.hid hP
 have LX := Lib.hid (Nat.le_trans HN.out B3.out.size)
 generalize u3.heap.size = xb at X4 LX NPX ⊢
 clear hk hP B3 P3
 try simp only [Act.put, qqA, qqB, qqC]
 have C1 := Lib.hid (show ∀ W, Has W pb (encU m) → Calls Try.prog 21 #[.pointer (some ⟨pb, 0, none⟩), .int .u16 65344, .int .u8 cv] W fun q_ w' => q_ = .returned (.int .u8 0) ∧ Has w' pb (encU m1) ∧ Keeps pb W w' from fun W hW => by rw [← hr1_.out, ← h1_.out]; exact write_c pb m ok_.out 65344 (by decide) (by decide) cv cv0 (by omega) W hW)
 have C2 := Lib.hid (show ∀ W, Has W pb (encU m1) → Calls Try.prog 22 #[.pointer (some ⟨pb, 0, none⟩)] W fun q_ w' => q_ = .returned (.int .u8 0) ∧ Has w' pb (encU m1) ∧ Keeps pb W w' from fun W hW => by have q := tick_c pb m1 ok1_.out W hW; rw [(tick_offM hoff_.out).1, (tick_offM hoff_.out).2] at q; exact q)
 go_wp2_with (fail)
 with_reducible refine (C1.out _ P4.out).mono ?_
 rintro q_ u5 ⟨rfl, hP, hk⟩
 have P5 := Lib.hid hP
 have B5 := Lib.hid (hk.below HN.out LP.out B4.out)
 have X5 := Lib.hid (hk.has (Ne.symm NPX.out) X4.out)
 clear hP hk B4 P4 X4
 go_wp2
 go_loopg [12, 33] cN (fun g' av i wr => ∃ (t : Nat), t ≤ cN ∧ g' + t = cN ∧ av = .int .u8 0 ∧ i = .int .u8 t ∧ Below n_ W0 wr ∧ Has wr pb (encU m1) ∧ Has wr xb (enc g))
 case atStart => exact ⟨0, by omega, by omega, rfl, rfl, B5.out, P5.out, X5.out⟩
 case round =>
  obtain ⟨u6, hu⟩ : ∃ q_, q_ = wr := ⟨_, rfl⟩
  subst hu
  obtain ⟨t, ht, hg, rfl, rfl, hB, hP, hX⟩ := hrel
  have TG := Lib.hid hg
  have B6 := Lib.hid hB
  have P6 := Lib.hid hP
  have X6 := Lib.hid hX
  clear hg hB hP hX B5 P5 X5
  by_cases hlt : t < cN
  ·have l1 : (t : Int) < cN := by omega
   have w1 : IntKind.u8.wrap ((t : Int) + 1) = (t : Int) + 1 := by rw [IntKind.wrap_u8]; omega
   go_wp2_with (fail)
   with_reducible refine (C2.out _ P6.out).mono ?_
   rintro q_ u7 ⟨rfl, hP, hk⟩
   have P7 := Lib.hid hP
   have B7 := Lib.hid (hk.below HN.out LP.out B6.out)
   have X7 := Lib.hid (hk.has (Ne.symm NPX.out) X6.out)
   clear hP hk B6 P6 X6
   go_wp2
   go_roundg (gk - 1)
   ·exact ⟨t + 1, by omega, by have := TG.out; omega, rfl, by simp, B7.out, P7.out, X7.out⟩
   case measure => have := TG.out; omega
  ·obtain rfl : cN = t := by omega
   go_wp2_with (fail)
   with_reducible refine (writev_c pb m1 ok1_.out 33059 (by decide) (by decide) 7 (by decide) (by decide) _ h2_.out _ P6.out).mono ?_
   rintro q_ u7 ⟨rfl, hP, hk⟩
   have P7 := Lib.hid hP
   have B7 := Lib.hid (hk.below HN.out LP.out B6.out)
   have X7 := Lib.hid (hk.has (Ne.symm NPX.out) X6.out)
   clear hP hk B6 P6 X6
   go_wp2_with (fail)
   with_reducible refine (writev_c pb m2 ok2_.out 65042 (by decide) (by decide) 9 (by decide) (by decide) _ h3_.out _ P7.out).mono ?_
   rintro q_ u8 ⟨rfl, hP, hk⟩
   have P8 := Lib.hid hP
   have B8 := Lib.hid (hk.below HN.out LP.out B7.out)
   have X8 := Lib.hid (hk.has (Ne.symm NPX.out) X7.out)
   clear hP hk B7 P7 X7
   have R1 := Lib.hid (show ∀ W, Has W pb (encU m3) → Calls Try.prog 15 #[.pointer (some ⟨pb, 0, none⟩), .int .i64 (-1)] W fun q_ w' => q_ = .returned (.agg Try.zeroCells34) ∧ Below W.heap.size W w' from fun W hW => by rw [zc34]; exact row_lo pb m3 W hW)
   have R2 := Lib.hid (show ∀ W, Has W pb (encU m3) → Calls Try.prog 15 #[.pointer (some ⟨pb, 0, none⟩), .int .i64 144] W fun q_ w' => q_ = .returned (.agg Try.zeroCells34) ∧ Below W.heap.size W w' from fun W hW => by rw [zc34]; exact row_hi pb m3 144 (by decide) (by decide) W hW)
   go_upto_region 14 with (fail)
   have B9 := Lib.hid B8.out.drew
   have P9 := Lib.hid P8.out.drew
   have X9 := Lib.hid X8.out.drew
   clear B8 P8 X8
   refine wp_region_held_drew (S := (fun w' => w'.rangeAt xb 0 (enc g).toList)) (by kernel_rfl) (range_of_has X9.out) (fun hHeld => ?_)
   generalize World.drew _ = u9 at hHeld B9 P9 X9 ⊢
   refine tzz 0 ?_
   refine tzz 1 ?_
   refine tzz 2 ?_
   refine tzz 3 ?_
   refine tzz 4 ?_
   refine tzz 5 ?_
   refine tzz 7 ?_
   refine tzz 10 ?_
   refine wpAnyH_ready (rs := [6]) (by kernel_rfl) (by simp) ?_
   refine (acc rfl (fun K hK => ?_) AllReadyH.nil)
   ·skip
    go_simp
    with_reducible refine (line_u pb _ 0 eL_.out (by decide) (by decide) _ P9.out).mono ?_
    rintro q_ u10 ⟨rfl, hb⟩
    subst hb
    have B10 := B9
    have P10 := P9
    have X10 := X9
    clear B9 P9 X9
    refine hK.out _ _ ?s9 (fun hNew => ?r9)
    case s9 => exact (range_of_has X10.out)
    clear hK K hHeld
    have hHeld := hNew
    clear hNew
    refine wpAnyH_ready (rs := [8]) (by kernel_rfl) (by simp) ?_
    refine (acc rfl (fun K hK => ?_) AllReadyH.nil)
    ·skip
     go_simp
     with_reducible refine (dot_u pb _ 0 eD_.out (by decide) (by decide) _ P10.out).mono ?_
     rintro q_ u11 ⟨rfl, hb⟩
     subst hb
     have B11 := B10
     have P11 := P10
     have X11 := X10
     clear B10 P10 X10
     refine hK.out _ _ ?s10 (fun hNew => ?r10)
     case s10 => exact (range_of_has X11.out)
     clear hK K hHeld
     have hHeld := hNew
     clear hNew
     refine tzz 9 ?_
     refine wpAnyH_ready (rs := [11]) (by kernel_rfl) (by simp) ?_
     refine (acc rfl (fun K hK => ?_) AllReadyH.nil)
     ·skip
      go_simp
      with_reducible refine (modem_c pb _ ok3_.out 0 eM_.out _ P11.out).mono ?_
      rintro q_ u12 ⟨rfl, hb⟩
      subst hb
      have B12 := B11
      have P12 := P11
      have X12 := X11
      clear B11 P11 X11
      refine hK.out _ _ ?s12 (fun hNew => ?r12)
      case s12 => exact (range_of_has X12.out)
      clear hK K hHeld
      have hHeld := hNew
      clear hNew
      refine tzz 12 ?_
      refine tzz 13 ?_
      refine tzz 14 ?_
      refine tzz 15 ?_
      refine tzz 16 ?_
      refine wpAnyH_ready (rs := [17]) (by kernel_rfl) (by simp) ?_
      refine (acc rfl (fun K hK => ?_) AllReadyH.nil)
      ·skip
       go_simp
       with_reducible refine (readv_c pb _ ok3_.out 33059 (by decide) (by decide) 7 e7_.out _ P12.out).mono ?_
       rintro q_ u13 ⟨rfl, hb⟩
       have B13 := Lib.hid (vian HN.out B12.out hb)
       have P13 := Lib.hid (P12.out.below hb)
       have X13 := Lib.hid (X12.out.below hb)
       clear hb B12 P12 X12
       refine hK.out _ _ ?s18 (fun hNew => ?r18)
       case s18 => exact (range_of_has X13.out)
       clear hK K hHeld
       have hHeld := hNew
       clear hNew
       refine tzz 18 ?_
       refine tzz 19 ?_
       refine tzz 20 ?_
       refine tzz 21 ?_
       refine wpAnyH_ready (rs := [22]) (by kernel_rfl) (by simp) ?_
       refine (acc rfl (fun K hK => ?_) AllReadyH.nil)
       ·skip
        go_simp
        with_reducible refine (readv_c pb _ ok3_.out 65042 (by decide) (by decide) 9 e9_.out _ P13.out).mono ?_
        rintro q_ u14 ⟨rfl, hb⟩
        have B14 := Lib.hid (vian HN.out B13.out hb)
        have P14 := Lib.hid (P13.out.below hb)
        have X14 := Lib.hid (X13.out.below hb)
        clear hb B13 P13 X13
        refine hK.out _ _ ?s23 (fun hNew => ?r23)
        case s23 => exact (range_of_has X14.out)
        clear hK K hHeld
        have hHeld := hNew
        clear hNew
        refine tzz 23 ?_
        refine tzz 24 ?_
        refine tzz 25 ?_
        refine tzz 26 ?_
        refine tzz 27 ?_
        refine tzz 28 ?_
        refine wpAnyH_take (i := 30) (oi := ⟨_, _, _, _, _, _⟩) (v := .agg (enc g)) rfl (by kernel_rfl) (by kernel_rfl) (by kernel_rfl) (fun _ _ _ h => h) (yields_load r34 (enc g) (enc_size _) xb (fun w hw => hw) (by rfl) _ rfl rfl) (by assumption) ?_
        try simp only [Act.put, qqA, qqB, qqC]
        refine wpAnyH_ready (rs := [29]) (by kernel_rfl) (by simp) ?_
        refine (acc rfl (fun K hK => ?_) AllReadyH.nil)
        ·skip
         go_simp
         with_reducible refine (row_c pb m3 ln ln0 ln1 g eR3_.out _ P14.out).mono ?_
         rintro q_ u15 ⟨rfl, hb⟩
         have B15 := Lib.hid (vian HN.out B14.out hb)
         have P15 := Lib.hid (P14.out.below hb)
         have X15 := Lib.hid (X14.out.below hb)
         clear hb B14 P14 X14
         refine hK.out _ _ ?s31 (fun hNew => ?r31)
         case s31 => exact (range_of_has X15.out)
         clear hK K hHeld
         have hHeld := hNew
         clear hNew
         refine wpAnyH_take (i := 31) (oi := ⟨_, _, _, _, _, _⟩) (v := .bool true) rfl (by kernel_rfl) (by kernel_rfl) (by kernel_rfl) (fun _ _ _ h => h) (yields_eq g (by rfl) _ _ rfl rfl rfl) (by assumption) ?_
         try simp only [Act.put, qqA, qqB, qqC]
         refine tzz 32 ?_
         refine tzz 33 ?_
         refine tzz 34 ?_
         refine tzz 36 ?_
         refine tzz 39 ?_
         refine wpAnyH_ready (rs := [35]) (by kernel_rfl) (by simp) ?_
         refine (acc rfl (fun K hK => ?_) AllReadyH.nil)
         ·skip
          go_simp
          with_reducible refine (nil_tick _).mono ?_
          rintro q_ u16 ⟨rfl, hb⟩
          subst hb
          have B16 := B15
          have P16 := P15
          have X16 := X15
          clear B15 P15 X15
          refine hK.out _ _ ?s38 (fun hNew => ?r38)
          case s38 => exact (range_of_has X16.out)
          clear hK K hHeld
          have hHeld := hNew
          clear hNew
          refine wpAnyH_ready (rs := [37]) (by kernel_rfl) (by simp) ?_
          refine (acc rfl (fun K hK => ?_) AllReadyH.nil)
          ·skip
           go_simp
           with_reducible refine (nil_read _).mono ?_
           rintro q_ u17 ⟨rfl, hb⟩
           subst hb
           have B17 := B16
           have P17 := P16
           have X17 := X16
           clear B16 P16 X16
           refine hK.out _ _ ?s39 (fun hNew => ?r39)
           case s39 => exact (range_of_has X17.out)
           clear hK K hHeld
           have hHeld := hNew
           clear hNew
           refine tzz 38 ?_
           refine wpAnyH_ready (rs := [40]) (by kernel_rfl) (by simp) ?_
           refine (acc rfl (fun K hK => ?_) AllReadyH.nil)
           ·skip
            go_simp
            with_reducible refine (nil_write _).mono ?_
            rintro q_ u18 ⟨rfl, hb⟩
            subst hb
            have B18 := B17
            have P18 := P17
            have X18 := X17
            clear B17 P17 X17
            refine hK.out _ _ ?s41 (fun hNew => ?r41)
            case s41 => exact (range_of_has X18.out)
            clear hK K hHeld
            have hHeld := hNew
            clear hNew
            refine tzz 41 ?_
            refine tzz 42 ?_
            refine tzz 43 ?_
            refine tzz 44 ?_
            refine tzz 45 ?_
            refine tzz 46 ?_
            refine wpAnyH_ready (rs := [47]) (by kernel_rfl) (by simp) ?_
            refine (acc rfl (fun K hK => ?_) AllReadyH.nil)
            ·skip
             go_simp
             refine (enc_c pb m3 ok3_.out _ P18.out).mono ?_
             rintro q_ u19 ⟨bv, bg, rfl, _, _, hb⟩
             have B19 := Lib.hid (vian HN.out B18.out hb)
             have P19 := Lib.hid (P18.out.below hb)
             have X19 := Lib.hid (X18.out.below hb)
             clear hb B18 P18 X18
             refine hK.out _ _ ?s48 (fun hNew => ?r48)
             case s48 => exact (range_of_has X19.out)
             clear hK K hHeld
             have hHeld := hNew
             clear hNew
             refine wpAnyH_ready (rs := [48]) (by kernel_rfl) (by simp) ?_
             refine (acc rfl (fun K hK => ?_) AllReadyH.nil)
             ·skip
              go_simp
              with_reducible refine (nil_dec _ _).mono ?_
              rintro q_ u20 ⟨rfl, hb⟩
              subst hb
              have B20 := B19
              have P20 := P19
              have X20 := X19
              clear B19 P19 X19
              refine hK.out _ _ ?s49 (fun hNew => ?r49)
              case s49 => exact (range_of_has X20.out)
              clear hK K hHeld
              have hHeld := hNew
              clear hNew
              refine tzz 49 ?_
              refine tzz 50 ?_
              refine tzz 51 ?_
              refine tzz 52 ?_
              refine tzz 54 ?_
              refine wpAnyH_ready (rs := [53]) (by kernel_rfl) (by simp) ?_
              refine (acc rfl (fun K hK => ?_) AllReadyH.nil)
              ·skip
               go_simp
               with_reducible refine (R1.out _ P20.out).mono ?_
               rintro q_ u21 ⟨rfl, hb⟩
               have B21 := Lib.hid (vian HN.out B20.out hb)
               have P21 := Lib.hid (P20.out.below hb)
               have X21 := Lib.hid (X20.out.below hb)
               clear hb B20 P20 X20
               refine hK.out _ _ ?s55 (fun hNew => ?r55)
               case s55 => exact (range_of_has X21.out)
               clear hK K hHeld
               have hHeld := hNew
               clear hNew
               refine wpAnyH_take (i := 55) (oi := ⟨_, _, _, _, _, _⟩) (v := .bool true) rfl (by kernel_rfl) (by kernel_rfl) (by kernel_rfl) (fun _ _ _ h => h) (yields_eqz (by rfl) _ _ rfl rfl rfl) (by assumption) ?_
               try simp only [Act.put, qqA, qqB, qqC]
               refine tzz 56 ?_
               refine tzz 57 ?_
               refine tzz 58 ?_
               refine tzz 60 ?_
               refine wpAnyH_ready (rs := [59]) (by kernel_rfl) (by simp) ?_
               refine (acc rfl (fun K hK => ?_) AllReadyH.nil)
               ·skip
                go_simp
                with_reducible refine (R2.out _ P21.out).mono ?_
                rintro q_ u22 ⟨rfl, hb⟩
                have B22 := Lib.hid (vian HN.out B21.out hb)
                have P22 := Lib.hid (P21.out.below hb)
                have X22 := Lib.hid (X21.out.below hb)
                clear hb B21 P21 X21
                refine hK.out _ _ ?s61 (fun hNew => ?r61)
                case s61 => exact (range_of_has X22.out)
                clear hK K hHeld
                have hHeld := hNew
                clear hNew
                refine wpAnyH_take (i := 61) (oi := ⟨_, _, _, _, _, _⟩) (v := .bool true) rfl (by kernel_rfl) (by kernel_rfl) (by kernel_rfl) (fun _ _ _ h => h) (yields_eqz (by rfl) _ _ rfl rfl rfl) (by assumption) ?_
                try simp only [Act.put, qqA, qqB, qqC]
                refine tzz 62 ?_
                refine tzz 63 ?_
                refine wpAnyH_done (by kernel_rfl) ?_ _
                clear hHeld
                go_wp2
                all_goals exact bodyPost_ret (v := .bool true) (by simp [results, Try.results9, go_sem]) rfl ⟨rfl, B22.out⟩
theorem and127 (c : Int) (h0 : 0 ≤ c) (h1 : c < 256) : 0 ≤ bits .and .u8 c 127 ∧ bits .and .u8 c 127 < 128 := byte_all (P := fun c => 0 ≤ bits .and .u8 c 127 ∧ bits .and .u8 c 127 < 128) (by decide +kernel) c h0 h1
theorem ops_okF {n_ : Nat} {W0 : World} {vv : Value} {n : Nat} {O : Nat → OpV} (hV : OpsB n_ W0 vv n O) : ∀ j, (O j).Fits ∧ okB (O j).f := fun j => by
 obtain ⟨_, _, _, _, hO, _⟩ := hV
 obtain ⟨_, _, _, _, h3, _⟩ := (hO j).2
 exact ⟨(hO j).1, h3⟩
/-- The walk. -/
theorem off_walk (vv : Value) (n : Nat) (O : Nat → OpV) (c cy ln : Int) (c0 : 0 ≤ c) (c1 : c < 256) (cy0 : 0 ≤ cy) (cy1 : cy < 256) (ln0 : 0 ≤ ln) (ln1 : ln < 256) (w : World) (hV : OpsB w.heap.size w vv n O) : Calls Try.prog 9 #[vv, .int .u8 c, .int .u8 cy, .int .u8 ln] w fun q_ w' => q_ = .returned (.bool true) ∧ Below w.heap.size w w' := by
 cases hf : fewV n O with
 | false => exact offw_many w.heap.size w (Nat.le_refl _) vv n O hV c cy ln c0 c1 cy0 cy1 ln0 ln1 hf w (Below.refl _ _)
 | true =>
  obtain ⟨cN, hcN⟩ := Int.eq_ofNat_of_zero_le cy0
  have a := and127 c c0 c1
  have ok := run_ok (ops_okF hV) ok_zero n
  have of := off_run O n
  have ff := off_facts of _ a.2
  have ef := end_facts of _ a.2
  have ok1 : Ok (offM (runM O n zeroM) (bits .and .u8 c 127)) := ok_write ok _ _ ⟨a.1, by omega⟩
  have e1 := end_w1 of _ a.2
  have e2 := end_w2 of _ a.2
  have ok2 : Ok (upd (offM (runM O n zeroM) (bits .and .u8 c 127)) 291 7) := by rw [← e1]; exact ok_write ok1 _ _ (by decide)
  have ok3 : Ok (endM (runM O n zeroM) (bits .and .u8 c 127)) := by rw [← e2]; exact ok_write ok2 _ _ (by decide)
  exact offw_few w.heap.size w (Nat.le_refl _) vv n O hV c cy ln c0 c1 cy0 cy1 ln0 ln1 hf _ rfl a.1 a.2 cN hcN _ _ _ _ rfl ok rfl ok1 (by rw [ff.1]; exact a.2) ff.2.2.2 e1 ok2 e2 ok3 ef.1 ef.2.1 ef.2.2.1 ef.2.2.2.1 ef.2.2.2.2.1 _ rfl (ef.2.2.2.2.2 ln) w (Below.refl _ _)
end Go.Proofs.Ytpfbodmadmneiaa
namespace Go.Proofs.Ytpfbodmadmneiaa.ppuOff
open Go.ChangeShapes Go.WideShapes Go.ChangeAt Go.RowKit
set_option linter.unusedVariables false
set_option maxRecDepth 100000 in
theorem lifted (os : Os) (started : os.Started) (H : Type) (enc : TypeId × Value → H) :
  ReturnsInHanded {} Try.checked os 9 .any (Rows.ppuOffSpec.pre6 enc Try.prog Try.f9 Rows.ppuOffRow.domain false) (Rows.ppuOffSpec.post enc Try.prog Try.f9 false true false false) := by
 refine returnsInHanded_of_change (C := Try.checked) own started (by kernel_rfl) Try.func9
  (ChangeSpec.witness6 (enc := enc) (C := Try.checked) false ⟨#[], #[.slice none 0 0, .int .u8 0, .int .u8 0, .int .u8 0], []⟩ 8 (by kernel_rfl) (by kernel_rfl) (by kernel_rfl) (by kernel_rfl)) ?_
 intro W base args ds gs before hval0 hW hcnd _
 have hval : ∀ (j : Nat) t v, Try.f9.params[j]? = some t → args[j]? = some v → Value.okWide Try.prog W .any base t v := hval0
 have hW' := hW
 obtain ⟨p, q, hA0, hV, rfl, hfz, hnd⟩ := hW
 have hA : DataW.TrodAll enc Try.prog W 0 (fun _ => true) true Try.f9.params.toList args.toList ds p := hA0
 rw [Try.params9] at hA hval
 obtain ⟨v0, vs0, d0, ds0, p0, q0, hargs, rfl, rfl, h0, r0⟩ := trodAll_cons hA
 obtain ⟨v1, vs1, d1, ds1, p1, q1, rfl, rfl, rfl, h1, r1⟩ := trodAll_cons r0
 obtain ⟨v2, vs2, d2, ds2, p2, q2, rfl, rfl, rfl, h2, r2⟩ := trodAll_cons r1
 obtain ⟨v3, vs3, d3, ds3, p3, q3, rfl, rfl, rfl, h3, r3⟩ := trodAll_cons r2
 obtain ⟨rfl, rfl, rfl⟩ := trodAll_nil r3
 obtain rfl : args = #[v0, v1, v2, v3] := by cases args; simp_all
 obtain ⟨rfl, rfl⟩ := trodVars_none hV
 have o0 := open_ops (hval 0 22 v0 rfl rfl) h0
 obtain ⟨n0, O0, hO0⟩ := o0
 obtain ⟨a1, rfl, rfl, rfl, w1⟩ := open_int Try.underlying5 (hval 1 5 v1 rfl rfl) h1
 obtain ⟨a2, rfl, rfl, rfl, w2⟩ := open_int Try.underlying5 (hval 2 5 v2 rfl rfl) h2
 obtain ⟨a3, rfl, rfl, rfl, w3⟩ := open_int Try.underlying5 (hval 3 5 v3 rfl rfl) h3
 clear hA0 hval0
 have b1 := u8_bd w1
 have b2 := u8_bd w2
 have b3 := u8_bd w3
 refine (off_walk v0 n0 O0 a1 a2 a3 b1.1 b1.2 b2.1 b2.2 b3.1 b3.2 W hO0).mono fun e W' ⟨he, hg⟩ => ?_
 subst he
 exact ⟨_, rfl, law_post laidOut hW' rfl rfl rfl (trodAll_cons_mk (shut_bool Try.underlying4 _) trodAll_mk0)
  (fun t ht => by rw [Try.params9] at ht; simp at ht; rcases ht with rfl | rfl | rfl | rfl <;> exact ⟨by kernel_rfl, of_decide_eq_true (by kernel_rfl)⟩) hg⟩

theorem over : Rows.ppuOffRow.holds Try.pinned (OpenSpec.ofChange Rows.ppuOffSpec) :=
 OpenClaim.holds_of_wide 9 Try.f9 rfl rfl rfl rfl rfl rfl rfl ⟨rfl, rfl, rfl, rfl, rfl⟩ rfl rfl rfl rfl rfl (by kernel_rfl) Try.func9 (by kernel_rfl)
  (of_decide_eq_true (by kernel_rfl)) (by unfold Func.isWrapper; first | (rw [if_pos (by decide +kernel)]; kernel_rfl) | (rw [if_neg (by decide +kernel)]; exact ⟨rfl, rfl⟩))
  (fun os started H enc _ => lifted os started H enc)

/-- The statement. -/
theorem proved : Rows.PpuOffSaid :=
 over
#print axioms proved
end Go.Proofs.Ytpfbodmadmneiaa.ppuOff
