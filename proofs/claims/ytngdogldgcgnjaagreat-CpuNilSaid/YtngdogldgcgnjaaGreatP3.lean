/-
  What enter, leave, get, set do: for every world; the processor is there.
-/
import Derived.Test.YtngdogldgcgnjaaGreatP2
namespace Go.Proofs.YtngdogldgcgnjaaGreat
open Go.ChangeShapes Go.WideShapes Go.ChangeAt Go.RowKit
open Reg
set_option linter.unusedVariables false
set_option maxRecDepth 100000
section
variable {w : World} {P R M tb n : Nat} {v : Value} {y : Sy}
theorem getS_s (k : Int) (y : Sy) : (getS k y).s = y.s := by unfold getS; split <;> rfl
theorem getS_m (k : Int) (y : Sy) : (getS k y).m = y.m := by unfold getS; split <;> rfl
set_option maxHeartbeats 2000000 in
theorem enter_p (h0 : Sys procD ramC w P R M tb v y n) (hn : n < 970000) (x : Int) (x0 : 0 ≤ x) (x1 : x < 65536) : Calls Tryz.prog 75 #[.pointer (some ⟨P, 0, none⟩), .int .u16 x] w (PE procD ramC P R M tb v w (.tuple #[]) (enterS x y) (n + 3)) := by
 have S0 := Lib.hid h0
 have M0 := Lib.hid (PM.refl P R M tb v w)
 obtain ⟨hc, hf⟩ := h0.cp
 clear h0
 go_enter Tryz.func75, Tryz.ntmps75
 go_wp2_with fail
 with_reducible refine (push_p S0.out (by omega) y.s.r.pc S0.out.pcb.1 S0.out.pcb.2).mono ?_
 rintro e w1 ⟨rfl, v1, s', m'⟩
 have M1 := Lib.hid (M0.out.trans m')
 obtain ⟨y1, hy⟩ : ∃ q_, q_ = pushS y.s.r.pc y := ⟨_, rfl⟩
 rw [← hy] at s'
 have Y1 := Lib.hid hy
 clear hc hf
 obtain ⟨hc, hf⟩ := s'.cp
 have S1 := Lib.hid s'
 clear s' m' hy
 go_wp2
 have Q := Lib.hid (S1.out.stPC x x0 x1)
 go_end0
 refine ⟨rfl, v1, ?_, M1.out.trans Q.out.2⟩
 have q := Q.out.1
 have e := Y1.out.symm
 subst e
 exact Sys.mono (n' := n + 3) q (by omega)
theorem Sys.popb {D : Nat → Array Value} {C : Nat → Int → Value → Array Value} (h : Sys D C w P R M tb v y n) : 0 ≤ popV y ∧ popV y < 65536 := by
 have a := h.okm (up y.s.r.sp)
 have b := h.okm y.s.r.sp
 unfold popV
 omega
set_option maxHeartbeats 2000000 in
theorem leave_p (h0 : Sys procD ramC w P R M tb v y n) (hn : n < 980000) : Calls Tryz.prog 74 #[.pointer (some ⟨P, 0, none⟩)] w (PE procD ramC P R M tb v w (.tuple #[]) (leaveS y) (n + 3)) := by
 have hm := mI ⟨R, 0, none⟩
 have S0 := Lib.hid h0
 have M0 := Lib.hid (PM.refl P R M tb v w)
 obtain ⟨hc, hf⟩ := h0.cp
 clear h0
 go_enter Tryz.func74, Tryz.ntmps74
 go_wp2_with fail
 with_reducible refine (pop_p S0.out (by omega)).mono ?_
 rintro e w1 ⟨rfl, v1, s', m'⟩
 have M1 := Lib.hid (M0.out.trans m')
 obtain ⟨y1, hy⟩ : ∃ q_, q_ = popS y := ⟨_, rfl⟩
 rw [← hy] at s'
 have Y1 := Lib.hid hy
 clear hc hf
 obtain ⟨hc, hf⟩ := s'.cp
 have S1 := Lib.hid s'
 clear s' m' hy
 go_wp2_with fail
 have q := S1.out.stPC (popV y) S0.out.popb.1 S0.out.popb.2
 have s' := q.1
 have m' := q.2
 clear q
 generalize (World.setCell w1 ⟨P, 9, none⟩ (.int .u16 (popV y))) = w2 at s' m' ⊢
 have M2 := Lib.hid (M1.out.trans m')
 obtain ⟨y2, hy⟩ : ∃ q_, q_ = setPC (popV y) y1 := ⟨_, rfl⟩
 rw [← hy] at s'
 have Y2 := Lib.hid hy
 clear hc hf
 obtain ⟨hc, hf⟩ := s'.cp
 have S2 := Lib.hid s'
 clear s' m' hy
 with_reducible refine (idle_p S2.out (by omega)).mono ?_
 rintro e w3 ⟨rfl, v3, s', m'⟩
 have M3 := Lib.hid (M2.out.trans m')
 obtain ⟨y3, hy⟩ : ∃ q_, q_ = idle y2 := ⟨_, rfl⟩
 rw [← hy] at s'
 have Y3 := Lib.hid hy
 clear hc hf
 obtain ⟨hc, hf⟩ := s'.cp
 have S3 := Lib.hid s'
 clear s' m' hy
 go_wp2
 go_end0
 refine ⟨rfl, v3, ?_, M3.out⟩
 have q := S3.out
 have e := Y3.out.symm
 subst e
 have e := Y2.out.symm
 subst e
 have e := Y1.out.symm
 subst e
 exact Sys.mono (n' := n + 3) q (by omega)
set_option maxHeartbeats 2000000 in
theorem get_6 (h0 : Sys procD ramC w P R M tb v y n) (hn : n < 990000) : Calls Tryz.prog 89 #[.pointer (some ⟨P, 0, none⟩), .int .i64 6] w (PE procD ramC P R M tb v w (.int .u8 (y.m (hlV y))) (rd 1 (hlV y) y) (n + 1)) := by
 have hm := mR ⟨R, 0, none⟩
 have S0 := Lib.hid h0
 have M0 := Lib.hid (PM.refl P R M tb v w)
 obtain ⟨hc, hf⟩ := h0.cp
 clear h0
 go_enter Tryz.func89, Tryz.ntmps89
 go_wp2
 have S0' := Lib.hid S0.out.drew
 have M0' := Lib.hid (M0.out.trans (PM.drew P R M tb v w))
 clear hc hf
 refine wp_region_held_drew (S := (fun w' => (w'.cell? ⟨P, 14, none⟩ = some (.iface 31 (.pointer (some ⟨R, 0, none⟩)))) ∧ True)) (by kernel_rfl) ⟨S0'.out.cp.1 14, trivial⟩ (fun hHeld => ?_)
 generalize World.drew w = u0 at hHeld S0' M0' ⊢
 clear S0 M0
 have S0 := S0'
 have M0 := M0'
 clear S0' M0'
 refine tk 0 rfl (v := ?v1) ?y1 ?z1
 case y1 => (intro w hSw; (try dsimp only at hSw); go_simp) <;> with_reducible rfl
 try simp only [Act.put, qqA, qqB, qqC]
 refine tk 1 rfl (v := ?v2) ?y2 ?z2
 case y2 => (intro w hSw; (try dsimp only at hSw); go_simp) <;> with_reducible rfl
 try simp only [Act.put, qqA, qqB, qqC]
 refine tk 2 rfl (v := ?v3) ?y3 ?z3
 case y3 => (intro w hSw; (try dsimp only at hSw); go_simp) <;> with_reducible rfl
 try simp only [Act.put, qqA, qqB, qqC]
 refine tk 3 rfl (v := ?v4) ?y4 ?z4
 case y4 => (intro w hSw; (try dsimp only at hSw); go_simp) <;> with_reducible rfl
 try simp only [Act.put, qqA, qqB, qqC]
 refine tk 4 rfl (v := ?v5) ?y5 ?z5
 case y5 => (intro w hSw; (try dsimp only at hSw); go_simp) <;> with_reducible rfl
 try simp only [Act.put, qqA, qqB, qqC]
 refine tk 6 rfl (v := ?v6) ?y6 ?z6
 case y6 => (intro w hSw; (try dsimp only at hSw); go_simp) <;> with_reducible rfl
 try simp only [Act.put, qqA, qqB, qqC]
 refine tk 7 rfl (v := ?v7) ?y7 ?z7
 case y7 => (intro w hSw; (try dsimp only at hSw); go_simp) <;> with_reducible rfl
 try simp only [Act.put, qqA, qqB, qqC]
 refine wpAnyH_ready (rs := [5]) (by kernel_rfl) (by simp) ?_
 refine (ac rfl (fun K hK => ?_) AllReadyH.nil)
 ·skip
  go_simp
  go_wp2_with (go_at_call 76; (with_reducible refine (pair_p S0.out (by omega) 2).mono ?_); rintro e w1 ⟨rfl, v1, s', m'⟩)
  refine hK.out _ _ ?s8 (fun hNew => ?r8)
  case s8 => exact ⟨s'.cp.1 14, trivial⟩
  clear hK K hHeld
  have hHeld := hNew
  clear hNew
  have M1 := Lib.hid (M0.out.trans m')
  obtain ⟨y1, hy⟩ : ∃ q_, q_ = y := ⟨_, rfl⟩
  rw [← hy] at s'
  have Y1 := Lib.hid hy
  have S1 := Lib.hid s'
  clear s' m' hy
  refine wpAnyH_ready (rs := [8]) (by kernel_rfl) (by simp) ?_
  refine (ac rfl (fun K hK => ?_) AllReadyH.nil)
  ·skip
   go_simp
   go_wp2_with (go_at_call 176; (with_reducible refine (read_p S1.out (by omega) _ (pairV_b S0.out.ok 2).1 (pairV_b S0.out.ok 2).2).mono ?_); rintro e w2 ⟨rfl, v2, s', m'⟩)
   refine hK.out _ _ ?s9 (fun hNew => ?r9)
   case s9 => exact ⟨s'.cp.1 14, trivial⟩
   clear hK K hHeld
   have hHeld := hNew
   clear hNew
   have M2 := Lib.hid (M1.out.trans m')
   obtain ⟨y2, hy⟩ : ∃ q_, q_ = rd 1 (pairV y.s.r 2) y1 := ⟨_, rfl⟩
   rw [← hy] at s'
   have Y2 := Lib.hid hy
   have S2 := Lib.hid s'
   clear s' m' hy
   refine tk 9 rfl (v := ?v10) ?y10 ?z10
   case y10 => (intro w hSw; (try dsimp only at hSw); go_simp) <;> with_reducible rfl
   try simp only [Act.put, qqA, qqB, qqC]
   refine wpAnyH_done (by kernel_rfl) ?_ _
   obtain ⟨hc, hf⟩ := S2.out.cp
   go_wp2
   go_ret
   refine ⟨?_, v2, ?_, M2.out⟩
   ·rw [Y1.out]
    rfl
   ·have q := S2.out
    rw [Y2.out, Y1.out] at q
    exact Sys.mono (n' := n + 1) q (by omega)
set_option maxHeartbeats 2000000 in
theorem get_n (h0 : Sys procD ramC w P R M tb v y n) (hn : n < 990000) (k : Int) (hk : k ≠ 6) : Calls Tryz.prog 89 #[.pointer (some ⟨P, 0, none⟩), .int .i64 k] w (PE procD ramC P R M tb v w (.int .u8 (getV y.s.r k)) (y) (n + 0)) := by
 have hk6 : (k == 6) = false := by simpa using hk
 have S0 := Lib.hid h0
 have M0 := Lib.hid (PM.refl P R M tb v w)
 obtain ⟨hc, hf⟩ := h0.cp
 clear h0
 go_enter Tryz.func89, Tryz.ntmps89
 go_wp2_with fail
 with_reducible refine (get_c y.s.r k _).mono ?_
 rintro e w1 ⟨rfl, hb⟩
 have HB := Lib.hid hb
 clear hb
 go_wp2
 go_ret
 exact ⟨rfl, v, S0.out.below HB.out, M0.out.trans (PM.of HB.out)⟩
theorem get_p (h0 : Sys procD ramC w P R M tb v y n) (hn : n < 990000) (k : Int) : Calls Tryz.prog 89 #[.pointer (some ⟨P, 0, none⟩), .int .i64 k] w (PE procD ramC P R M tb v w (.int .u8 (getY k y)) (getS k y) (n + 1)) := by
 unfold getY getS
 by_cases hk : k = 6
 ·subst hk
  rw [if_pos rfl, if_pos rfl]
  exact get_6 h0 hn
 ·rw [if_neg hk, if_neg hk]
  exact (get_n h0 hn k hk).mono fun e w' ⟨he, v', s, m⟩ => ⟨he, v', s.mono (by omega), m⟩
set_option maxHeartbeats 2000000 in
theorem set_6 (h0 : Sys procD ramC w P R M tb v y n) (hn : n < 990000) (x : Int) (x0 : 0 ≤ x) (x1 : x < 256) : Calls Tryz.prog 88 #[.pointer (some ⟨P, 0, none⟩), .int .i64 6, .int .u8 x] w (PE procD ramC P R M tb v w (.tuple #[]) (wr (hlV y) x y) (n + 1)) := by
 have hm := mW ⟨R, 0, none⟩
 have S0 := Lib.hid h0
 have M0 := Lib.hid (PM.refl P R M tb v w)
 obtain ⟨hc, hf⟩ := h0.cp
 clear h0
 go_enter Tryz.func88, Tryz.ntmps88
 go_wp2
 have S0' := Lib.hid S0.out.drew
 have M0' := Lib.hid (M0.out.trans (PM.drew P R M tb v w))
 clear hc hf
 refine wp_region_held_drew (S := (fun w' => (w'.cell? ⟨P, 14, none⟩ = some (.iface 31 (.pointer (some ⟨R, 0, none⟩)))) ∧ True)) (by kernel_rfl) ⟨S0'.out.cp.1 14, trivial⟩ (fun hHeld => ?_)
 generalize World.drew w = u0 at hHeld S0' M0' ⊢
 clear S0 M0
 have S0 := S0'
 have M0 := M0'
 clear S0' M0'
 refine tk 0 rfl (v := ?v1) ?y1 ?z1
 case y1 => (intro w hSw; (try dsimp only at hSw); go_simp) <;> with_reducible rfl
 try simp only [Act.put, qqA, qqB, qqC]
 refine tk 1 rfl (v := ?v2) ?y2 ?z2
 case y2 => (intro w hSw; (try dsimp only at hSw); go_simp) <;> with_reducible rfl
 try simp only [Act.put, qqA, qqB, qqC]
 refine tk 2 rfl (v := ?v3) ?y3 ?z3
 case y3 => (intro w hSw; (try dsimp only at hSw); go_simp) <;> with_reducible rfl
 try simp only [Act.put, qqA, qqB, qqC]
 refine tk 3 rfl (v := ?v4) ?y4 ?z4
 case y4 => (intro w hSw; (try dsimp only at hSw); go_simp) <;> with_reducible rfl
 try simp only [Act.put, qqA, qqB, qqC]
 refine tk 4 rfl (v := ?v5) ?y5 ?z5
 case y5 => (intro w hSw; (try dsimp only at hSw); go_simp) <;> with_reducible rfl
 try simp only [Act.put, qqA, qqB, qqC]
 refine tk 6 rfl (v := ?v6) ?y6 ?z6
 case y6 => (intro w hSw; (try dsimp only at hSw); go_simp) <;> with_reducible rfl
 try simp only [Act.put, qqA, qqB, qqC]
 refine tk 7 rfl (v := ?v7) ?y7 ?z7
 case y7 => (intro w hSw; (try dsimp only at hSw); go_simp) <;> with_reducible rfl
 try simp only [Act.put, qqA, qqB, qqC]
 refine tk 8 rfl (v := ?v8) ?y8 ?z8
 case y8 => (intro w hSw; (try dsimp only at hSw); go_simp) <;> with_reducible rfl
 try simp only [Act.put, qqA, qqB, qqC]
 refine wpAnyH_ready (rs := [5]) (by kernel_rfl) (by simp) ?_
 refine (ac rfl (fun K hK => ?_) AllReadyH.nil)
 ·skip
  go_simp
  go_wp2_with (go_at_call 76; (with_reducible refine (pair_p S0.out (by omega) 2).mono ?_); rintro e w1 ⟨rfl, v1, s', m'⟩)
  refine hK.out _ _ ?s9 (fun hNew => ?r9)
  case s9 => exact ⟨s'.cp.1 14, trivial⟩
  clear hK K hHeld
  have hHeld := hNew
  clear hNew
  have M1 := Lib.hid (M0.out.trans m')
  obtain ⟨y1, hy⟩ : ∃ q_, q_ = y := ⟨_, rfl⟩
  rw [← hy] at s'
  have Y1 := Lib.hid hy
  have S1 := Lib.hid s'
  clear s' m' hy
  refine wpAnyH_ready (rs := [9]) (by kernel_rfl) (by simp) ?_
  refine (ac rfl (fun K hK => ?_) AllReadyH.nil)
  ·skip
   go_simp
   go_wp2_with (go_at_call 177; (with_reducible refine (write_p S1.out (by omega) _ x (pairV_b S0.out.ok 2).1 (pairV_b S0.out.ok 2).2 x0 x1).mono ?_); rintro e w2 ⟨rfl, v2, s', m'⟩)
   refine hK.out _ _ ?s10 (fun hNew => ?r10)
   case s10 => exact ⟨s'.cp.1 14, trivial⟩
   clear hK K hHeld
   have hHeld := hNew
   clear hNew
   have M2 := Lib.hid (M1.out.trans m')
   obtain ⟨y2, hy⟩ : ∃ q_, q_ = wr (pairV y.s.r 2) x y1 := ⟨_, rfl⟩
   rw [← hy] at s'
   have Y2 := Lib.hid hy
   have S2 := Lib.hid s'
   clear s' m' hy
   refine wpAnyH_done (by kernel_rfl) ?_ _
   obtain ⟨hc, hf⟩ := S2.out.cp
   go_wp2
   first | go_end0 | refine bodyPost_ret (results_none rfl _ _ _) rfl ?_
   refine ⟨rfl, v2, ?_, M2.out⟩
   have q := S2.out
   rw [Y2.out, Y1.out] at q
   exact Sys.mono (n' := n + 1) q (by omega)
set_option maxHeartbeats 2000000 in
theorem set_n (h0 : Sys procD ramC w P R M tb v y n) (hn : n < 990000) (k x : Int) (hk : k ≠ 6) (x0 : 0 ≤ x) (x1 : x < 256) : Calls Tryz.prog 88 #[.pointer (some ⟨P, 0, none⟩), .int .i64 k, .int .u8 x] w (PE procD ramC P R M tb v w (.tuple #[]) (setRR (setR y.s.r k x) y) (n + 0)) := by
 have hk6 : (k == 6) = false := by simpa using hk
 have S0 := Lib.hid h0
 have M0 := Lib.hid (PM.refl P R M tb v w)
 obtain ⟨hc, hf⟩ := h0.cp
 clear h0
 go_enter Tryz.func88, Tryz.ntmps88
 go_wp2_with fail
 with_reducible refine (set_c y.s.r k x _).mono ?_
 rintro e w1 ⟨rfl, hb⟩
 have s1 := S0.out.below hb
 clear hc hf
 obtain ⟨hc, hf⟩ := s1.cp
 have Q := Lib.hid (s1.stR (setR y.s.r k x) (setR_ok S0.out.ok k x x0 x1))
 have HB := Lib.hid hb
 clear hb s1
 go_wp2
 go_end0
 exact ⟨rfl, v, Q.out.1, (M0.out.trans (PM.of HB.out)).trans Q.out.2⟩
theorem set_p (h0 : Sys procD ramC w P R M tb v y n) (hn : n < 990000) (k x : Int) (x0 : 0 ≤ x) (x1 : x < 256) : Calls Tryz.prog 88 #[.pointer (some ⟨P, 0, none⟩), .int .i64 k, .int .u8 x] w (PE procD ramC P R M tb v w (.tuple #[]) (putS k x y) (n + 1)) := by
 unfold putS
 by_cases hk : k = 6
 ·subst hk
  rw [if_pos rfl]
  exact set_6 h0 hn x x0 x1
 ·rw [if_neg hk]
  exact (set_n h0 hn k x hk x0 x1).mono fun e w' ⟨he, v', s, m⟩ => ⟨he, v', s.mono (by omega), m⟩
end
end Go.Proofs.YtngdogldgcgnjaaGreat
