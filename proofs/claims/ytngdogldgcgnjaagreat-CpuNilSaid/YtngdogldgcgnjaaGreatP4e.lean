/-
  What words does: for every world; the processor is there.
-/
import Derived.Test.YtngdogldgcgnjaaGreatP4a
namespace Go.Proofs.YtngdogldgcgnjaaGreat
open Go.ChangeShapes Go.WideShapes Go.ChangeAt Go.RowKit
open Reg
set_option linter.unusedVariables false
set_option maxRecDepth 100000
section
variable {w : World} {P R M tb n : Nat} {v : Value} {y : Sy}
set_option maxHeartbeats 2000000 in
theorem words_14 (h0 : Sys procD ramC w P R M tb v y n) (hn : n < 970000) (x z s nn : Int) : Calls Tryz.prog 96 #[.pointer (some ⟨P, 0, none⟩), .agg #[.int .i64 14, .int .i64 x, .int .i64 z, .int .i64 s, .int .u16 nn]] w (PE procD ramC P R M tb v w (.tuple #[]) (pairS x (up (pairV y.s.r x)) (idle y)) (n + 1)) := by
 have hm := mI ⟨R, 0, none⟩
 have S0 := Lib.hid (h0.below (own1 w (.cells #[.int .i64 14, .int .i64 x, .int .i64 z, .int .i64 s, .int .u16 nn] 44)))
 have M0 := Lib.hid (show PM P R M tb v w v (w.alloc (.cells #[.int .i64 14, .int .i64 x, .int .i64 z, .int .i64 s, .int .u16 nn] 44)) from PM.of (own1 w (.cells #[.int .i64 14, .int .i64 x, .int .i64 z, .int .i64 s, .int .u16 nn] 44)))
 have HO := Lib.hid (Has.new w #[.int .i64 14, .int .i64 x, .int .i64 z, .int .i64 s, .int .u16 nn] 44)
 have NO := Lib.hid (h0.new (Nat.le_refl w.heap.size))
 obtain ⟨hc, hf⟩ := S0.out.cp
 clear h0
 go_enter Tryz.func96, Tryz.ntmps96
 go_wp2_with fail
 generalize w.alloc (.cells #[.int .i64 14, .int .i64 x, .int .i64 z, .int .i64 s, .int .u16 nn] 44) = w0 at S0 M0 HO hc hf ⊢
 generalize w.heap.size = ob at HO NO ⊢
 have ho := HO.out.2.1
 with_reducible refine (idle_p S0.out (by omega)).mono ?_
 rintro e w1 ⟨rfl, v1, s', m'⟩
 have HO' := Lib.hid (m'.has HO.out NO.out)
 have NO' := Lib.hid (m'.far HO.out.1 NO.out)
 clear ho HO NO
 have HO := HO'
 have NO := NO'
 clear HO' NO'
 have ho := HO.out.2.1
 have M1 := Lib.hid (M0.out.trans m')
 obtain ⟨y1, hy⟩ : ∃ q_, q_ = idle y := ⟨_, rfl⟩
 rw [← hy] at s'
 have Y1 := Lib.hid hy
 clear hc hf
 obtain ⟨hc, hf⟩ := s'.cp
 have S1 := Lib.hid s'
 clear s' m' hy
 have hw := up_w (pairV y1.s.r x)
 go_wp2
 have S1' := Lib.hid S1.out.drew
 have M1' := Lib.hid (M1.out.trans (PM.drew P R M tb v1 w1))
 have HO' := Lib.hid HO.out.drew
 clear ho HO
 have HO := HO'
 clear HO'
 clear hc hf
 refine wp_region_held_drew (S := (fun w' => (∀ j, w'.cell? ⟨ob, j, none⟩ = #[Value.int .i64 14, .int .i64 x, .int .i64 z, .int .i64 s, .int .u16 nn][j]?) ∧ True)) (by kernel_rfl) ⟨HO.out.2.1, trivial⟩ (fun hHeld => ?_)
 generalize World.drew w1 = u1 at hHeld S1' M1' HO ⊢
 clear S1 M1
 have S1 := S1'
 have M1 := M1'
 clear S1' M1'
 refine tk 0 rfl (v := ?v1) ?y1 ?z1
 case y1 => (intro w hSw; (try dsimp only at hSw); go_simp) <;> with_reducible rfl
 try simp only [Act.put, qqA, qqB, qqC]
 refine tk 1 rfl (v := ?v2) ?y2 ?z2
 case y2 => (intro w hSw; (try dsimp only at hSw); go_simp) <;> with_reducible rfl
 try simp only [Act.put, qqA, qqB, qqC]
 refine tk 2 rfl (v := ?v3) ?y3 ?z3
 case y3 => (intro w hSw; (try dsimp only at hSw); go_simp) <;> with_reducible rfl
 try simp only [Act.put, qqA, qqB, qqC]
 refine tk 3 rfl (v := ?v4) ?y4 ?z4
 case y4 => (intro w hSw; (try dsimp only at hSw); go_simp) <;> with_reducible rfl
 try simp only [Act.put, qqA, qqB, qqC]
 refine tk 4 rfl (v := ?v5) ?y5 ?z5
 case y5 => (intro w hSw; (try dsimp only at hSw); go_simp) <;> with_reducible rfl
 try simp only [Act.put, qqA, qqB, qqC]
 refine tk 5 rfl (v := ?v6) ?y6 ?z6
 case y6 => (intro w hSw; (try dsimp only at hSw); go_simp) <;> with_reducible rfl
 try simp only [Act.put, qqA, qqB, qqC]
 refine wpAnyH_ready (rs := [6]) (by kernel_rfl) (by simp) ?_
 refine (ac rfl (fun K hK => ?_) AllReadyH.nil)
 ·skip
  go_simp
  go_wp2_with (go_at_call 76; (with_reducible refine (pair_p S1.out (by omega) x).mono ?_); rintro e w2 ⟨rfl, v2, s', m'⟩)
  have HO' := Lib.hid (m'.has HO.out NO.out)
  have NO' := Lib.hid (m'.far HO.out.1 NO.out)
  clear HO NO
  have HO := HO'
  have NO := NO'
  clear HO' NO'
  refine hK.out _ _ ?s7 (fun hNew => ?r7)
  case s7 => exact ⟨HO.out.2.1, trivial⟩
  clear hK K hHeld
  have hHeld := hNew
  clear hNew
  have M2 := Lib.hid (M1.out.trans m')
  obtain ⟨y2, hy⟩ : ∃ q_, q_ = y1 := ⟨_, rfl⟩
  rw [← hy] at s'
  have Y2 := Lib.hid hy
  have S2 := Lib.hid s'
  clear s' m' hy
  refine tk 7 rfl (v := ?v8) ?y8 ?z8
  case y8 => (intro w hSw; (try dsimp only at hSw); go_simp) <;> with_reducible rfl
  try simp only [Act.put, qqA, qqB, qqC]
  refine wpAnyH_ready (rs := [8]) (by kernel_rfl) (by simp) ?_
  refine (ac rfl (fun K hK => ?_) AllReadyH.nil)
  ·skip
   go_simp
   go_wp2_with (go_at_call 78; (with_reducible refine (setPair_p S2.out (by omega) x (up (pairV y1.s.r x)) (up_b _).1 (up_b _).2).mono ?_); rintro e w3 ⟨rfl, v3, s', m'⟩)
   have HO' := Lib.hid (m'.has HO.out NO.out)
   have NO' := Lib.hid (m'.far HO.out.1 NO.out)
   clear HO NO
   have HO := HO'
   have NO := NO'
   clear HO' NO'
   refine hK.out _ _ ?s9 (fun hNew => ?r9)
   case s9 => exact ⟨HO.out.2.1, trivial⟩
   clear hK K hHeld
   have hHeld := hNew
   clear hNew
   have M3 := Lib.hid (M2.out.trans m')
   obtain ⟨y3, hy⟩ : ∃ q_, q_ = pairS x (up (pairV y1.s.r x)) y2 := ⟨_, rfl⟩
   rw [← hy] at s'
   have Y3 := Lib.hid hy
   have S3 := Lib.hid s'
   clear s' m' hy
   refine wpAnyH_done (by kernel_rfl) ?_ _
   obtain ⟨hc, hf⟩ := S3.out.cp
   have ho := HO.out.2.1
   go_wp2
   go_end0
   refine ⟨rfl, v3, ?_, M3.out⟩
   have q := S3.out
   have e := Y3.out.symm
   subst e
   have e := Y2.out.symm
   subst e
   have e := Y1.out.symm
   subst e
   exact Sys.mono (n' := n + 1) q (by omega)
set_option maxHeartbeats 2000000 in
theorem words_15 (h0 : Sys procD ramC w P R M tb v y n) (hn : n < 970000) (x z s nn : Int) : Calls Tryz.prog 96 #[.pointer (some ⟨P, 0, none⟩), .agg #[.int .i64 15, .int .i64 x, .int .i64 z, .int .i64 s, .int .u16 nn]] w (PE procD ramC P R M tb v w (.tuple #[]) (pairS x (dn (pairV y.s.r x)) (idle y)) (n + 1)) := by
 have hm := mI ⟨R, 0, none⟩
 have S0 := Lib.hid (h0.below (own1 w (.cells #[.int .i64 15, .int .i64 x, .int .i64 z, .int .i64 s, .int .u16 nn] 44)))
 have M0 := Lib.hid (show PM P R M tb v w v (w.alloc (.cells #[.int .i64 15, .int .i64 x, .int .i64 z, .int .i64 s, .int .u16 nn] 44)) from PM.of (own1 w (.cells #[.int .i64 15, .int .i64 x, .int .i64 z, .int .i64 s, .int .u16 nn] 44)))
 have HO := Lib.hid (Has.new w #[.int .i64 15, .int .i64 x, .int .i64 z, .int .i64 s, .int .u16 nn] 44)
 have NO := Lib.hid (h0.new (Nat.le_refl w.heap.size))
 obtain ⟨hc, hf⟩ := S0.out.cp
 clear h0
 go_enter Tryz.func96, Tryz.ntmps96
 go_wp2_with fail
 generalize w.alloc (.cells #[.int .i64 15, .int .i64 x, .int .i64 z, .int .i64 s, .int .u16 nn] 44) = w0 at S0 M0 HO hc hf ⊢
 generalize w.heap.size = ob at HO NO ⊢
 have ho := HO.out.2.1
 with_reducible refine (idle_p S0.out (by omega)).mono ?_
 rintro e w1 ⟨rfl, v1, s', m'⟩
 have HO' := Lib.hid (m'.has HO.out NO.out)
 have NO' := Lib.hid (m'.far HO.out.1 NO.out)
 clear ho HO NO
 have HO := HO'
 have NO := NO'
 clear HO' NO'
 have ho := HO.out.2.1
 have M1 := Lib.hid (M0.out.trans m')
 obtain ⟨y1, hy⟩ : ∃ q_, q_ = idle y := ⟨_, rfl⟩
 rw [← hy] at s'
 have Y1 := Lib.hid hy
 clear hc hf
 obtain ⟨hc, hf⟩ := s'.cp
 have S1 := Lib.hid s'
 clear s' m' hy
 have hw := dn_w (pairV y1.s.r x)
 go_wp2
 have S1' := Lib.hid S1.out.drew
 have M1' := Lib.hid (M1.out.trans (PM.drew P R M tb v1 w1))
 have HO' := Lib.hid HO.out.drew
 clear ho HO
 have HO := HO'
 clear HO'
 clear hc hf
 refine wp_region_held_drew (S := (fun w' => (∀ j, w'.cell? ⟨ob, j, none⟩ = #[Value.int .i64 15, .int .i64 x, .int .i64 z, .int .i64 s, .int .u16 nn][j]?) ∧ True)) (by kernel_rfl) ⟨HO.out.2.1, trivial⟩ (fun hHeld => ?_)
 generalize World.drew w1 = u1 at hHeld S1' M1' HO ⊢
 clear S1 M1
 have S1 := S1'
 have M1 := M1'
 clear S1' M1'
 refine tk 0 rfl (v := ?v1) ?y1 ?z1
 case y1 => (intro w hSw; (try dsimp only at hSw); go_simp) <;> with_reducible rfl
 try simp only [Act.put, qqA, qqB, qqC]
 refine tk 1 rfl (v := ?v2) ?y2 ?z2
 case y2 => (intro w hSw; (try dsimp only at hSw); go_simp) <;> with_reducible rfl
 try simp only [Act.put, qqA, qqB, qqC]
 refine tk 2 rfl (v := ?v3) ?y3 ?z3
 case y3 => (intro w hSw; (try dsimp only at hSw); go_simp) <;> with_reducible rfl
 try simp only [Act.put, qqA, qqB, qqC]
 refine tk 3 rfl (v := ?v4) ?y4 ?z4
 case y4 => (intro w hSw; (try dsimp only at hSw); go_simp) <;> with_reducible rfl
 try simp only [Act.put, qqA, qqB, qqC]
 refine tk 4 rfl (v := ?v5) ?y5 ?z5
 case y5 => (intro w hSw; (try dsimp only at hSw); go_simp) <;> with_reducible rfl
 try simp only [Act.put, qqA, qqB, qqC]
 refine tk 5 rfl (v := ?v6) ?y6 ?z6
 case y6 => (intro w hSw; (try dsimp only at hSw); go_simp) <;> with_reducible rfl
 try simp only [Act.put, qqA, qqB, qqC]
 refine wpAnyH_ready (rs := [6]) (by kernel_rfl) (by simp) ?_
 refine (ac rfl (fun K hK => ?_) AllReadyH.nil)
 ·skip
  go_simp
  go_wp2_with (go_at_call 76; (with_reducible refine (pair_p S1.out (by omega) x).mono ?_); rintro e w2 ⟨rfl, v2, s', m'⟩)
  have HO' := Lib.hid (m'.has HO.out NO.out)
  have NO' := Lib.hid (m'.far HO.out.1 NO.out)
  clear HO NO
  have HO := HO'
  have NO := NO'
  clear HO' NO'
  refine hK.out _ _ ?s7 (fun hNew => ?r7)
  case s7 => exact ⟨HO.out.2.1, trivial⟩
  clear hK K hHeld
  have hHeld := hNew
  clear hNew
  have M2 := Lib.hid (M1.out.trans m')
  obtain ⟨y2, hy⟩ : ∃ q_, q_ = y1 := ⟨_, rfl⟩
  rw [← hy] at s'
  have Y2 := Lib.hid hy
  have S2 := Lib.hid s'
  clear s' m' hy
  refine tk 7 rfl (v := ?v8) ?y8 ?z8
  case y8 => (intro w hSw; (try dsimp only at hSw); go_simp) <;> with_reducible rfl
  try simp only [Act.put, qqA, qqB, qqC]
  refine wpAnyH_ready (rs := [8]) (by kernel_rfl) (by simp) ?_
  refine (ac rfl (fun K hK => ?_) AllReadyH.nil)
  ·skip
   go_simp
   go_wp2_with (go_at_call 78; (with_reducible refine (setPair_p S2.out (by omega) x (dn (pairV y1.s.r x)) (dn_b _).1 (dn_b _).2).mono ?_); rintro e w3 ⟨rfl, v3, s', m'⟩)
   have HO' := Lib.hid (m'.has HO.out NO.out)
   have NO' := Lib.hid (m'.far HO.out.1 NO.out)
   clear HO NO
   have HO := HO'
   have NO := NO'
   clear HO' NO'
   refine hK.out _ _ ?s9 (fun hNew => ?r9)
   case s9 => exact ⟨HO.out.2.1, trivial⟩
   clear hK K hHeld
   have hHeld := hNew
   clear hNew
   have M3 := Lib.hid (M2.out.trans m')
   obtain ⟨y3, hy⟩ : ∃ q_, q_ = pairS x (dn (pairV y1.s.r x)) y2 := ⟨_, rfl⟩
   rw [← hy] at s'
   have Y3 := Lib.hid hy
   have S3 := Lib.hid s'
   clear s' m' hy
   refine wpAnyH_done (by kernel_rfl) ?_ _
   obtain ⟨hc, hf⟩ := S3.out.cp
   have ho := HO.out.2.1
   go_wp2
   go_end0
   refine ⟨rfl, v3, ?_, M3.out⟩
   have q := S3.out
   have e := Y3.out.symm
   subst e
   have e := Y2.out.symm
   subst e
   have e := Y1.out.symm
   subst e
   exact Sys.mono (n' := n + 1) q (by omega)
set_option maxHeartbeats 2000000 in
theorem words_16 (h0 : Sys procD ramC w P R M tb v y n) (hn : n < 970000) (x z s nn : Int) : Calls Tryz.prog 96 #[.pointer (some ⟨P, 0, none⟩), .agg #[.int .i64 16, .int .i64 x, .int .i64 z, .int .i64 s, .int .u16 nn]] w (PE procD ramC P R M tb v w (.tuple #[]) (setF (Alu.add16F (hlV y) (pairV y.s.r x) y.s.r.f) (pairS 2 ((hlV y + pairV y.s.r x) % 65536) (idle y))) (n + 1)) := by
 have hm := mI ⟨R, 0, none⟩
 have S0 := Lib.hid (h0.below (own1 w (.cells #[.int .i64 16, .int .i64 x, .int .i64 z, .int .i64 s, .int .u16 nn] 44)))
 have M0 := Lib.hid (show PM P R M tb v w v (w.alloc (.cells #[.int .i64 16, .int .i64 x, .int .i64 z, .int .i64 s, .int .u16 nn] 44)) from PM.of (own1 w (.cells #[.int .i64 16, .int .i64 x, .int .i64 z, .int .i64 s, .int .u16 nn] 44)))
 have HO := Lib.hid (Has.new w #[.int .i64 16, .int .i64 x, .int .i64 z, .int .i64 s, .int .u16 nn] 44)
 have NO := Lib.hid (h0.new (Nat.le_refl w.heap.size))
 obtain ⟨hc, hf⟩ := S0.out.cp
 clear h0
 go_enter Tryz.func96, Tryz.ntmps96
 go_wp2_with fail
 generalize w.alloc (.cells #[.int .i64 16, .int .i64 x, .int .i64 z, .int .i64 s, .int .u16 nn] 44) = w0 at S0 M0 HO hc hf ⊢
 generalize w.heap.size = ob at HO NO ⊢
 have ho := HO.out.2.1
 with_reducible refine (idle_p S0.out (by omega)).mono ?_
 rintro e w1 ⟨rfl, v1, s', m'⟩
 have HO' := Lib.hid (m'.has HO.out NO.out)
 have NO' := Lib.hid (m'.far HO.out.1 NO.out)
 clear ho HO NO
 have HO := HO'
 have NO := NO'
 clear HO' NO'
 have ho := HO.out.2.1
 have M1 := Lib.hid (M0.out.trans m')
 obtain ⟨y1, hy⟩ : ∃ q_, q_ = idle y := ⟨_, rfl⟩
 rw [← hy] at s'
 have Y1 := Lib.hid hy
 clear hc hf
 obtain ⟨hc, hf⟩ := s'.cp
 have S1 := Lib.hid s'
 clear s' m' hy
 have pb := pairV_b S1.out.ok 2
 have qb := pairV_b S1.out.ok x
 have fb := S1.out.fb
 go_wp2
 have S1' := Lib.hid S1.out.drew
 have M1' := Lib.hid (M1.out.trans (PM.drew P R M tb v1 w1))
 have HO' := Lib.hid HO.out.drew
 clear ho HO
 have HO := HO'
 clear HO'
 clear hc hf
 refine wp_region_held_drew (S := (fun w' => (∀ j, w'.cell? ⟨ob, j, none⟩ = #[Value.int .i64 16, .int .i64 x, .int .i64 z, .int .i64 s, .int .u16 nn][j]?) ∧ (w'.cell? ⟨P, 1, none⟩ = some (.int .u8 y1.s.r.f)) ∧ True)) (by kernel_rfl) ⟨HO.out.2.1, S1'.out.cp.1 1, trivial⟩ (fun hHeld => ?_)
 generalize World.drew w1 = u1 at hHeld S1' M1' HO ⊢
 clear S1 M1
 have S1 := S1'
 have M1 := M1'
 clear S1' M1'
 refine tk 0 rfl (v := ?v1) ?y1 ?z1
 case y1 => (intro w hSw; (try dsimp only at hSw); go_simp) <;> with_reducible rfl
 try simp only [Act.put, qqA, qqB, qqC]
 refine tk 2 rfl (v := ?v2) ?y2 ?z2
 case y2 => (intro w hSw; (try dsimp only at hSw); go_simp) <;> with_reducible rfl
 try simp only [Act.put, qqA, qqB, qqC]
 refine tk 3 rfl (v := ?v3) ?y3 ?z3
 case y3 => (intro w hSw; (try dsimp only at hSw); go_simp) <;> with_reducible rfl
 try simp only [Act.put, qqA, qqB, qqC]
 refine tk 4 rfl (v := ?v4) ?y4 ?z4
 case y4 => (intro w hSw; (try dsimp only at hSw); go_simp) <;> with_reducible rfl
 try simp only [Act.put, qqA, qqB, qqC]
 refine tk 6 rfl (v := ?v5) ?y5 ?z5
 case y5 => (intro w hSw; (try dsimp only at hSw); go_simp) <;> with_reducible rfl
 try simp only [Act.put, qqA, qqB, qqC]
 refine tk 7 rfl (v := ?v6) ?y6 ?z6
 case y6 => (intro w hSw; (try dsimp only at hSw); go_simp) <;> with_reducible rfl
 try simp only [Act.put, qqA, qqB, qqC]
 refine tk 8 rfl (v := ?v7) ?y7 ?z7
 case y7 => (intro w hSw; (try dsimp only at hSw); go_simp) <;> with_reducible rfl
 try simp only [Act.put, qqA, qqB, qqC]
 refine tk 9 rfl (v := ?v8) ?y8 ?z8
 case y8 => (intro w hSw; (try dsimp only at hSw); go_simp) <;> with_reducible rfl
 try simp only [Act.put, qqA, qqB, qqC]
 refine tk 10 rfl (v := ?v9) ?y9 ?z9
 case y9 => (intro w hSw; (try dsimp only at hSw); go_simp) <;> with_reducible rfl
 try simp only [Act.put, qqA, qqB, qqC]
 refine tk 11 rfl (v := ?v10) ?y10 ?z10
 case y10 => (intro w hSw; (try dsimp only at hSw); go_simp) <;> with_reducible rfl
 try simp only [Act.put, qqA, qqB, qqC]
 refine wpAnyH_ready (rs := [1]) (by kernel_rfl) (by simp) ?_
 refine (ac rfl (fun K hK => ?_) AllReadyH.nil)
 ·skip
  go_simp
  go_wp2_with (go_at_call 76; (with_reducible refine (pair_p S1.out (by omega) 2).mono ?_); rintro e w2 ⟨rfl, v2, s', m'⟩)
  have HO' := Lib.hid (m'.has HO.out NO.out)
  have NO' := Lib.hid (m'.far HO.out.1 NO.out)
  clear HO NO
  have HO := HO'
  have NO := NO'
  clear HO' NO'
  refine hK.out _ _ ?s11 (fun hNew => ?r11)
  case s11 => exact ⟨HO.out.2.1, s'.cp.1 1, trivial⟩
  clear hK K hHeld
  have hHeld := hNew
  clear hNew
  have M2 := Lib.hid (M1.out.trans m')
  have S2 := Lib.hid s'
  clear s' m'
  refine wpAnyH_ready (rs := [5]) (by kernel_rfl) (by simp) ?_
  refine (ac rfl (fun K hK => ?_) AllReadyH.nil)
  ·skip
   go_simp
   go_wp2_with (go_at_call 76; (with_reducible refine (pair_p S2.out (by omega) x).mono ?_); rintro e w3 ⟨rfl, v3, s', m'⟩)
   have HO' := Lib.hid (m'.has HO.out NO.out)
   have NO' := Lib.hid (m'.far HO.out.1 NO.out)
   clear HO NO
   have HO := HO'
   have NO := NO'
   clear HO' NO'
   refine hK.out _ _ ?s12 (fun hNew => ?r12)
   case s12 => exact ⟨HO.out.2.1, s'.cp.1 1, trivial⟩
   clear hK K hHeld
   have hHeld := hNew
   clear hNew
   have M3 := Lib.hid (M2.out.trans m')
   have S3 := Lib.hid s'
   clear s' m'
   refine wpAnyH_ready (rs := [12]) (by kernel_rfl) (by simp) ?_
   refine (ac rfl (fun K hK => ?_) AllReadyH.nil)
   ·skip
    go_simp
    go_wp2_with (go_at_call 117; (with_reducible refine (Alu.add16_c _ _ _ pb.1 pb.2 qb.1 qb.2 fb.1 fb.2 _).mono ?_); rintro e u' ⟨rfl, rfl⟩)
    refine hK.out _ _ ?s13 (fun hNew => ?r13)
    case s13 => exact hHeld
    clear hK K hHeld
    have hHeld := hNew
    clear hNew
    refine tk 13 rfl (v := ?v14) ?y14 ?z14
    case y14 => (intro w hSw; (try dsimp only at hSw); go_simp) <;> with_reducible rfl
    try simp only [Act.put, qqA, qqB, qqC]
    refine tk 14 rfl (v := ?v15) ?y15 ?z15
    case y15 => (intro w hSw; (try dsimp only at hSw); go_simp) <;> with_reducible rfl
    try simp only [Act.put, qqA, qqB, qqC]
    refine tk 15 rfl (v := ?v16) ?y16 ?z16
    case y16 => (intro w hSw; (try dsimp only at hSw); go_simp) <;> with_reducible rfl
    try simp only [Act.put, qqA, qqB, qqC]
    refine tk 16 rfl (v := ?v17) ?y17 ?z17
    case y17 => (intro w hSw; (try dsimp only at hSw); go_simp) <;> with_reducible rfl
    try simp only [Act.put, qqA, qqB, qqC]
    refine tk 17 rfl (v := ?v18) ?y18 ?z18
    case y18 => (intro w hSw; (try dsimp only at hSw); go_simp) <;> with_reducible rfl
    try simp only [Act.put, qqA, qqB, qqC]
    refine wpAnyH_done (by kernel_rfl) ?_ _
    obtain ⟨hc, hf⟩ := S3.out.cp
    have ho := HO.out.2.1
    go_wp2_with fail
    with_reducible refine (setPair_p S3.out (by omega) 2 ((pairV y1.s.r 2 + pairV y1.s.r x) % 65536) (by omega) (by omega)).mono ?_
    rintro e w4 ⟨rfl, v4, s', m'⟩
    have HO' := Lib.hid (m'.has HO.out NO.out)
    have NO' := Lib.hid (m'.far HO.out.1 NO.out)
    clear ho HO NO
    have HO := HO'
    have NO := NO'
    clear HO' NO'
    have ho := HO.out.2.1
    have M4 := Lib.hid (M3.out.trans m')
    obtain ⟨y4, hy⟩ : ∃ q_, q_ = pairS 2 ((pairV y1.s.r 2 + pairV y1.s.r x) % 65536) y1 := ⟨_, rfl⟩
    rw [← hy] at s'
    have Y4 := Lib.hid hy
    clear hc hf
    obtain ⟨hc, hf⟩ := s'.cp
    have S4 := Lib.hid s'
    clear s' m' hy
    have Q := Lib.hid (S4.out.stF (Alu.add16F (pairV y1.s.r 2) (pairV y1.s.r x) y1.s.r.f) (Alu.FL_b _ _ _ _).1 (Alu.FL_b _ _ _ _).2)
    go_wp2
    go_end0
    refine ⟨rfl, v4, ?_, M4.out.trans Q.out.2⟩
    have q := Q.out.1
    have e1 : setF (Alu.add16F (hlV y) (pairV y.s.r x) y.s.r.f) (pairS 2 ((hlV y + pairV y.s.r x) % 65536) (idle y)) = setF (Alu.add16F (pairV y1.s.r 2) (pairV y1.s.r x) y1.s.r.f) y4 := by rw [Y4.out, Y1.out]; rfl
    rw [e1]
    exact Sys.mono (n' := n + 1) q (by omega)
set_option maxHeartbeats 2000000 in
theorem words_41 (h0 : Sys procD ramC w P R M tb v y n) (hn : n < 970000) (x z s nn : Int) : Calls Tryz.prog 96 #[.pointer (some ⟨P, 0, none⟩), .agg #[.int .i64 41, .int .i64 x, .int .i64 z, .int .i64 s, .int .u16 nn]] w (PE procD ramC P R M tb v w (.tuple #[]) (setF (Alu.shiftF y.s.r.sp (nn % 256)) (setSP (Alu.shiftR y.s.r.sp (nn % 256)) (idle (idle y)))) (n + 2)) := by
 have hm := mI ⟨R, 0, none⟩
 have S0 := Lib.hid (h0.below (own1 w (.cells #[.int .i64 41, .int .i64 x, .int .i64 z, .int .i64 s, .int .u16 nn] 44)))
 have M0 := Lib.hid (show PM P R M tb v w v (w.alloc (.cells #[.int .i64 41, .int .i64 x, .int .i64 z, .int .i64 s, .int .u16 nn] 44)) from PM.of (own1 w (.cells #[.int .i64 41, .int .i64 x, .int .i64 z, .int .i64 s, .int .u16 nn] 44)))
 have HO := Lib.hid (Has.new w #[.int .i64 41, .int .i64 x, .int .i64 z, .int .i64 s, .int .u16 nn] 44)
 have NO := Lib.hid (h0.new (Nat.le_refl w.heap.size))
 obtain ⟨hc, hf⟩ := S0.out.cp
 clear h0
 go_enter Tryz.func96, Tryz.ntmps96
 go_wp2_with fail
 generalize w.alloc (.cells #[.int .i64 41, .int .i64 x, .int .i64 z, .int .i64 s, .int .u16 nn] 44) = w0 at S0 M0 HO hc hf ⊢
 generalize w.heap.size = ob at HO NO ⊢
 have ho := HO.out.2.1
 with_reducible refine (idle_p S0.out (by omega)).mono ?_
 rintro e w1 ⟨rfl, v1, s', m'⟩
 have HO' := Lib.hid (m'.has HO.out NO.out)
 have NO' := Lib.hid (m'.far HO.out.1 NO.out)
 clear ho HO NO
 have HO := HO'
 have NO := NO'
 clear HO' NO'
 have ho := HO.out.2.1
 have M1 := Lib.hid (M0.out.trans m')
 obtain ⟨y1, hy⟩ : ∃ q_, q_ = idle y := ⟨_, rfl⟩
 rw [← hy] at s'
 have Y1 := Lib.hid hy
 clear hc hf
 obtain ⟨hc, hf⟩ := s'.cp
 have S1 := Lib.hid s'
 clear s' m' hy
 go_wp2_with fail
 with_reducible refine (idle_p S1.out (by omega)).mono ?_
 rintro e w2 ⟨rfl, v2, s', m'⟩
 have HO' := Lib.hid (m'.has HO.out NO.out)
 have NO' := Lib.hid (m'.far HO.out.1 NO.out)
 clear ho HO NO
 have HO := HO'
 have NO := NO'
 clear HO' NO'
 have ho := HO.out.2.1
 have M2 := Lib.hid (M1.out.trans m')
 obtain ⟨y2, hy⟩ : ∃ q_, q_ = idle y1 := ⟨_, rfl⟩
 rw [← hy] at s'
 have Y2 := Lib.hid hy
 clear hc hf
 obtain ⟨hc, hf⟩ := s'.cp
 have S2 := Lib.hid s'
 clear s' m' hy
 have spb := S2.out.spb
 go_wp2
 have S2' := Lib.hid S2.out.drew
 have M2' := Lib.hid (M2.out.trans (PM.drew P R M tb v2 w2))
 have HO' := Lib.hid HO.out.drew
 clear ho HO
 have HO := HO'
 clear HO'
 clear hc hf
 refine wp_region_held_drew (S := (fun w' => (∀ j, w'.cell? ⟨ob, j, none⟩ = #[Value.int .i64 41, .int .i64 x, .int .i64 z, .int .i64 s, .int .u16 nn][j]?) ∧ True)) (by kernel_rfl) ⟨HO.out.2.1, trivial⟩ (fun hHeld => ?_)
 generalize World.drew w2 = u2 at hHeld S2' M2' HO ⊢
 clear S2 M2
 have S2 := S2'
 have M2 := M2'
 clear S2' M2'
 refine tk 0 rfl (v := ?v1) ?y1 ?z1
 case y1 => (intro w hSw; (try dsimp only at hSw); go_simp) <;> with_reducible rfl
 try simp only [Act.put, qqA, qqB, qqC]
 refine tk 1 rfl (v := ?v2) ?y2 ?z2
 case y2 => (intro w hSw; (try dsimp only at hSw); go_simp) <;> with_reducible rfl
 try simp only [Act.put, qqA, qqB, qqC]
 refine tk 2 rfl (v := ?v3) ?y3 ?z3
 case y3 => (intro w hSw; (try dsimp only at hSw); go_simp) <;> with_reducible rfl
 try simp only [Act.put, qqA, qqB, qqC]
 refine tk 3 rfl (v := ?v4) ?y4 ?z4
 case y4 => (intro w hSw; (try dsimp only at hSw); go_simp) <;> with_reducible rfl
 try simp only [Act.put, qqA, qqB, qqC]
 refine tk 4 rfl (v := ?v5) ?y5 ?z5
 case y5 => (intro w hSw; (try dsimp only at hSw); go_simp) <;> with_reducible rfl
 try simp only [Act.put, qqA, qqB, qqC]
 refine tk 5 rfl (v := ?v6) ?y6 ?z6
 case y6 => (intro w hSw; (try dsimp only at hSw); go_simp) <;> with_reducible rfl
 try simp only [Act.put, qqA, qqB, qqC]
 refine tk 6 rfl (v := ?v7) ?y7 ?z7
 case y7 => (intro w hSw; (try dsimp only at hSw); go_simp) <;> with_reducible rfl
 try simp only [Act.put, qqA, qqB, qqC]
 refine tk 8 rfl (v := ?v8) ?y8 ?z8
 case y8 => (intro w hSw; (try dsimp only at hSw); go_simp) <;> with_reducible rfl
 try simp only [Act.put, qqA, qqB, qqC]
 refine tk 9 rfl (v := ?v9) ?y9 ?z9
 case y9 => (intro w hSw; (try dsimp only at hSw); go_simp) <;> with_reducible rfl
 try simp only [Act.put, qqA, qqB, qqC]
 refine tk 10 rfl (v := ?v10) ?y10 ?z10
 case y10 => (intro w hSw; (try dsimp only at hSw); go_simp) <;> with_reducible rfl
 try simp only [Act.put, qqA, qqB, qqC]
 refine wpAnyH_ready (rs := [7]) (by kernel_rfl) (by simp) ?_
 refine (ac rfl (fun K hK => ?_) AllReadyH.nil)
 ·skip
  obtain ⟨hc, hf⟩ := S2.out.cp
  go_simp
  clear hc hf
  refine hK.out _ _ ?s11 (fun hNew => ?r11)
  case s11 => exact hHeld
  clear hK K hHeld
  have hHeld := hNew
  clear hNew
  try simp only [Act.put, qqA, qqB, qqC]
  refine wpAnyH_ready (rs := [11]) (by kernel_rfl) (by simp) ?_
  refine (ac rfl (fun K hK => ?_) AllReadyH.nil)
  ·skip
   go_simp
   rw [IntKind.wrap_u8 nn]
   go_wp2_with (go_at_call 118; (with_reducible refine (Alu.shift16_c y2.s.r.sp (nn % 256) spb.1 spb.2 (by omega) (by omega) _).mono ?_); rintro e u' ⟨rfl, rfl⟩)
   refine hK.out _ _ ?s12 (fun hNew => ?r12)
   case s12 => exact hHeld
   clear hK K hHeld
   have hHeld := hNew
   clear hNew
   refine tk 12 rfl (v := ?v13) ?y13 ?z13
   case y13 => (intro w hSw; (try dsimp only at hSw); go_simp) <;> with_reducible rfl
   try simp only [Act.put, qqA, qqB, qqC]
   refine tk 13 rfl (v := ?v14) ?y14 ?z14
   case y14 => (intro w hSw; (try dsimp only at hSw); go_simp) <;> with_reducible rfl
   try simp only [Act.put, qqA, qqB, qqC]
   refine tk 14 rfl (v := ?v15) ?y15 ?z15
   case y15 => (intro w hSw; (try dsimp only at hSw); go_simp) <;> with_reducible rfl
   try simp only [Act.put, qqA, qqB, qqC]
   refine tk 15 rfl (v := ?v16) ?y16 ?z16
   case y16 => (intro w hSw; (try dsimp only at hSw); go_simp) <;> with_reducible rfl
   try simp only [Act.put, qqA, qqB, qqC]
   refine tk 16 rfl (v := ?v17) ?y17 ?z17
   case y17 => (intro w hSw; (try dsimp only at hSw); go_simp) <;> with_reducible rfl
   try simp only [Act.put, qqA, qqB, qqC]
   refine tk 17 rfl (v := ?v18) ?y18 ?z18
   case y18 => (intro w hSw; (try dsimp only at hSw); go_simp) <;> with_reducible rfl
   try simp only [Act.put, qqA, qqB, qqC]
   refine tk 18 rfl (v := ?v19) ?y19 ?z19
   case y19 => (intro w hSw; (try dsimp only at hSw); go_simp) <;> with_reducible rfl
   try simp only [Act.put, qqA, qqB, qqC]
   refine wpAnyH_ready (rs := [19]) (by kernel_rfl) (by simp) ?_
   refine (ac rfl (fun K hK => ?_) AllReadyH.nil)
   ·skip
    obtain ⟨hc, hf⟩ := S2.out.cp
    go_simp
    clear hc hf
    have q := S2.out.stSP (Alu.shiftR y2.s.r.sp (nn % 256)) (shiftR_b _ _).1 (shiftR_b _ _).2
    have s' := q.1
    have m' := q.2
    clear q
    have HO' := Lib.hid (m'.has HO.out NO.out)
    have NO' := Lib.hid (m'.far HO.out.1 NO.out)
    clear HO NO
    have HO := HO'
    have NO := NO'
    clear HO' NO'
    refine hK.out _ _ ?s20 (fun hNew => ?r20)
    case s20 => exact ⟨HO.out.2.1, trivial⟩
    clear hK K hHeld
    have hHeld := hNew
    clear hNew
    generalize World.setCell u2 ⟨P, 8, none⟩ (.int .u16 (Alu.shiftR y2.s.r.sp (nn % 256))) = w3 at hHeld s' m' HO ⊢
    have M3 := Lib.hid (M2.out.trans m')
    obtain ⟨y3, hy⟩ : ∃ q_, q_ = setSP (Alu.shiftR y2.s.r.sp (nn % 256)) y2 := ⟨_, rfl⟩
    rw [← hy] at s'
    have Y3 := Lib.hid hy
    have S3 := Lib.hid s'
    clear s' m' hy
    refine tk 20 rfl (v := ?v21) ?y21 ?z21
    case y21 => (intro w hSw; (try dsimp only at hSw); go_simp) <;> with_reducible rfl
    try simp only [Act.put, qqA, qqB, qqC]
    refine tk 21 rfl (v := ?v22) ?y22 ?z22
    case y22 => (intro w hSw; (try dsimp only at hSw); go_simp) <;> with_reducible rfl
    try simp only [Act.put, qqA, qqB, qqC]
    refine tk 22 rfl (v := ?v23) ?y23 ?z23
    case y23 => (intro w hSw; (try dsimp only at hSw); go_simp) <;> with_reducible rfl
    try simp only [Act.put, qqA, qqB, qqC]
    refine tk 23 rfl (v := ?v24) ?y24 ?z24
    case y24 => (intro w hSw; (try dsimp only at hSw); go_simp) <;> with_reducible rfl
    try simp only [Act.put, qqA, qqB, qqC]
    refine wpAnyH_ready (rs := [24]) (by kernel_rfl) (by simp) ?_
    refine (ac rfl (fun K hK => ?_) AllReadyH.nil)
    ·skip
     obtain ⟨hc, hf⟩ := S3.out.cp
     go_simp
     clear hc hf
     have q := S3.out.stF (Alu.shiftF y2.s.r.sp (nn % 256)) (Alu.FL_b _ _ _ _).1 (Alu.FL_b _ _ _ _).2
     have s' := q.1
     have m' := q.2
     clear q
     have HO' := Lib.hid (m'.has HO.out NO.out)
     have NO' := Lib.hid (m'.far HO.out.1 NO.out)
     clear HO NO
     have HO := HO'
     have NO := NO'
     clear HO' NO'
     refine hK.out _ _ ?s25 (fun hNew => ?r25)
     case s25 => exact ⟨HO.out.2.1, trivial⟩
     clear hK K hHeld
     have hHeld := hNew
     clear hNew
     generalize World.setCell w3 ⟨P, 1, none⟩ (.int .u8 (Alu.shiftF y2.s.r.sp (nn % 256))) = w4 at hHeld s' m' HO ⊢
     have M4 := Lib.hid (M3.out.trans m')
     obtain ⟨y4, hy⟩ : ∃ q_, q_ = setF (Alu.shiftF y2.s.r.sp (nn % 256)) y3 := ⟨_, rfl⟩
     rw [← hy] at s'
     have Y4 := Lib.hid hy
     have S4 := Lib.hid s'
     clear s' m' hy
     refine wpAnyH_done (by kernel_rfl) ?_ _
     obtain ⟨hc, hf⟩ := S4.out.cp
     have ho := HO.out.2.1
     go_wp2
     go_end0
     refine ⟨rfl, v2, ?_, M4.out⟩
     have q := S4.out
     have e := Y4.out.symm
     subst e
     have e := Y3.out.symm
     subst e
     have e := Y2.out.symm
     subst e
     have e := Y1.out.symm
     subst e
     exact Sys.mono (n' := n + 2) q (by omega)
set_option maxHeartbeats 2000000 in
theorem words_42 (h0 : Sys procD ramC w P R M tb v y n) (hn : n < 970000) (x z s nn : Int) : Calls Tryz.prog 96 #[.pointer (some ⟨P, 0, none⟩), .agg #[.int .i64 42, .int .i64 x, .int .i64 z, .int .i64 s, .int .u16 nn]] w (PE procD ramC P R M tb v w (.tuple #[]) (setF (Alu.shiftF y.s.r.sp (nn % 256)) (pairS 2 (Alu.shiftR y.s.r.sp (nn % 256)) (idle y))) (n + 1)) := by
 have hm := mI ⟨R, 0, none⟩
 have S0 := Lib.hid (h0.below (own1 w (.cells #[.int .i64 42, .int .i64 x, .int .i64 z, .int .i64 s, .int .u16 nn] 44)))
 have M0 := Lib.hid (show PM P R M tb v w v (w.alloc (.cells #[.int .i64 42, .int .i64 x, .int .i64 z, .int .i64 s, .int .u16 nn] 44)) from PM.of (own1 w (.cells #[.int .i64 42, .int .i64 x, .int .i64 z, .int .i64 s, .int .u16 nn] 44)))
 have HO := Lib.hid (Has.new w #[.int .i64 42, .int .i64 x, .int .i64 z, .int .i64 s, .int .u16 nn] 44)
 have NO := Lib.hid (h0.new (Nat.le_refl w.heap.size))
 obtain ⟨hc, hf⟩ := S0.out.cp
 clear h0
 go_enter Tryz.func96, Tryz.ntmps96
 go_wp2_with fail
 generalize w.alloc (.cells #[.int .i64 42, .int .i64 x, .int .i64 z, .int .i64 s, .int .u16 nn] 44) = w0 at S0 M0 HO hc hf ⊢
 generalize w.heap.size = ob at HO NO ⊢
 have ho := HO.out.2.1
 with_reducible refine (idle_p S0.out (by omega)).mono ?_
 rintro e w1 ⟨rfl, v1, s', m'⟩
 have HO' := Lib.hid (m'.has HO.out NO.out)
 have NO' := Lib.hid (m'.far HO.out.1 NO.out)
 clear ho HO NO
 have HO := HO'
 have NO := NO'
 clear HO' NO'
 have ho := HO.out.2.1
 have M1 := Lib.hid (M0.out.trans m')
 obtain ⟨y1, hy⟩ : ∃ q_, q_ = idle y := ⟨_, rfl⟩
 rw [← hy] at s'
 have Y1 := Lib.hid hy
 clear hc hf
 obtain ⟨hc, hf⟩ := s'.cp
 have S1 := Lib.hid s'
 clear s' m' hy
 have spb := S1.out.spb
 go_wp2
 have S1' := Lib.hid S1.out.drew
 have M1' := Lib.hid (M1.out.trans (PM.drew P R M tb v1 w1))
 have HO' := Lib.hid HO.out.drew
 clear ho HO
 have HO := HO'
 clear HO'
 clear hc hf
 refine wp_region_held_drew (S := (fun w' => (∀ j, w'.cell? ⟨ob, j, none⟩ = #[Value.int .i64 42, .int .i64 x, .int .i64 z, .int .i64 s, .int .u16 nn][j]?) ∧ (w'.cell? ⟨P, 8, none⟩ = some (.int .u16 y1.s.r.sp)) ∧ True)) (by kernel_rfl) ⟨HO.out.2.1, S1'.out.cp.1 8, trivial⟩ (fun hHeld => ?_)
 generalize World.drew w1 = u1 at hHeld S1' M1' HO ⊢
 clear S1 M1
 have S1 := S1'
 have M1 := M1'
 clear S1' M1'
 refine tk 0 rfl (v := ?v1) ?y1 ?z1
 case y1 => (intro w hSw; (try dsimp only at hSw); go_simp) <;> with_reducible rfl
 try simp only [Act.put, qqA, qqB, qqC]
 refine tk 1 rfl (v := ?v2) ?y2 ?z2
 case y2 => (intro w hSw; (try dsimp only at hSw); go_simp) <;> with_reducible rfl
 try simp only [Act.put, qqA, qqB, qqC]
 refine tk 2 rfl (v := ?v3) ?y3 ?z3
 case y3 => (intro w hSw; (try dsimp only at hSw); go_simp) <;> with_reducible rfl
 try simp only [Act.put, qqA, qqB, qqC]
 refine tk 3 rfl (v := ?v4) ?y4 ?z4
 case y4 => (intro w hSw; (try dsimp only at hSw); go_simp) <;> with_reducible rfl
 try simp only [Act.put, qqA, qqB, qqC]
 refine tk 4 rfl (v := ?v5) ?y5 ?z5
 case y5 => (intro w hSw; (try dsimp only at hSw); go_simp) <;> with_reducible rfl
 try simp only [Act.put, qqA, qqB, qqC]
 refine tk 5 rfl (v := ?v6) ?y6 ?z6
 case y6 => (intro w hSw; (try dsimp only at hSw); go_simp) <;> with_reducible rfl
 try simp only [Act.put, qqA, qqB, qqC]
 refine tk 6 rfl (v := ?v7) ?y7 ?z7
 case y7 => (intro w hSw; (try dsimp only at hSw); go_simp) <;> with_reducible rfl
 try simp only [Act.put, qqA, qqB, qqC]
 refine tk 7 rfl (v := ?v8) ?y8 ?z8
 case y8 => (intro w hSw; (try dsimp only at hSw); go_simp) <;> with_reducible rfl
 try simp only [Act.put, qqA, qqB, qqC]
 refine tk 8 rfl (v := ?v9) ?y9 ?z9
 case y9 => (intro w hSw; (try dsimp only at hSw); go_simp) <;> with_reducible rfl
 try simp only [Act.put, qqA, qqB, qqC]
 refine wpAnyH_ready (rs := [9]) (by kernel_rfl) (by simp) ?_
 refine (ac rfl (fun K hK => ?_) AllReadyH.nil)
 ·skip
  go_simp
  rw [IntKind.wrap_u8 nn]
  go_wp2_with (go_at_call 118; (with_reducible refine (Alu.shift16_c y1.s.r.sp (nn % 256) spb.1 spb.2 (by omega) (by omega) _).mono ?_); rintro e u' ⟨rfl, rfl⟩)
  refine hK.out _ _ ?s10 (fun hNew => ?r10)
  case s10 => exact hHeld
  clear hK K hHeld
  have hHeld := hNew
  clear hNew
  refine tk 10 rfl (v := ?v11) ?y11 ?z11
  case y11 => (intro w hSw; (try dsimp only at hSw); go_simp) <;> with_reducible rfl
  try simp only [Act.put, qqA, qqB, qqC]
  refine tk 11 rfl (v := ?v12) ?y12 ?z12
  case y12 => (intro w hSw; (try dsimp only at hSw); go_simp) <;> with_reducible rfl
  try simp only [Act.put, qqA, qqB, qqC]
  refine tk 12 rfl (v := ?v13) ?y13 ?z13
  case y13 => (intro w hSw; (try dsimp only at hSw); go_simp) <;> with_reducible rfl
  try simp only [Act.put, qqA, qqB, qqC]
  refine tk 13 rfl (v := ?v14) ?y14 ?z14
  case y14 => (intro w hSw; (try dsimp only at hSw); go_simp) <;> with_reducible rfl
  try simp only [Act.put, qqA, qqB, qqC]
  refine tk 14 rfl (v := ?v15) ?y15 ?z15
  case y15 => (intro w hSw; (try dsimp only at hSw); go_simp) <;> with_reducible rfl
  try simp only [Act.put, qqA, qqB, qqC]
  refine wpAnyH_done (by kernel_rfl) ?_ _
  obtain ⟨hc, hf⟩ := S1.out.cp
  have ho := HO.out.2.1
  go_wp2_with fail
  with_reducible refine (setPair_p S1.out (by omega) 2 (Alu.shiftR y1.s.r.sp (nn % 256)) (shiftR_b _ _).1 (shiftR_b _ _).2).mono ?_
  rintro e w2 ⟨rfl, v2, s', m'⟩
  have HO' := Lib.hid (m'.has HO.out NO.out)
  have NO' := Lib.hid (m'.far HO.out.1 NO.out)
  clear ho HO NO
  have HO := HO'
  have NO := NO'
  clear HO' NO'
  have ho := HO.out.2.1
  have M2 := Lib.hid (M1.out.trans m')
  obtain ⟨y2, hy⟩ : ∃ q_, q_ = pairS 2 (Alu.shiftR y1.s.r.sp (nn % 256)) y1 := ⟨_, rfl⟩
  rw [← hy] at s'
  have Y2 := Lib.hid hy
  clear hc hf
  obtain ⟨hc, hf⟩ := s'.cp
  have S2 := Lib.hid s'
  clear s' m' hy
  have Q := Lib.hid (S2.out.stF (Alu.shiftF y1.s.r.sp (nn % 256)) (Alu.FL_b _ _ _ _).1 (Alu.FL_b _ _ _ _).2)
  go_wp2
  go_end0
  refine ⟨rfl, v2, ?_, M2.out.trans Q.out.2⟩
  have q := Q.out.1
  have e1 : setF (Alu.shiftF y.s.r.sp (nn % 256)) (pairS 2 (Alu.shiftR y.s.r.sp (nn % 256)) (idle y)) = setF (Alu.shiftF y1.s.r.sp (nn % 256)) y2 := by rw [Y2.out, Y1.out]; rfl
  rw [e1]
  exact Sys.mono (n' := n + 1) q (by omega)
end
end Go.Proofs.YtngdogldgcgnjaaGreat
