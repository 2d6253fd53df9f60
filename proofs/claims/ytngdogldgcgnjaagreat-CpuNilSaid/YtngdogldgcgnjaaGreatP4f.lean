/-
  What move does: for every world; the processor is there.
-/
import Derived.Test.YtngdogldgcgnjaaGreatP4a
namespace Go.Proofs.YtngdogldgcgnjaaGreat
open Go.ChangeShapes Go.WideShapes Go.ChangeAt Go.RowKit
open Reg
set_option linter.unusedVariables false
set_option maxRecDepth 100000
section
variable {w : World} {P R M tb n : Nat} {v : Value} {y : Sy}
set_option maxHeartbeats 2000000 in
theorem move_7 (h0 : Sys procD ramC w P R M tb v y n) (hn : n < 970000) (x z s nn : Int) : Calls Tryz.prog 80 #[.pointer (some ⟨P, 0, none⟩), .agg #[.int .i64 7, .int .i64 x, .int .i64 z, .int .i64 s, .int .u16 nn]] w (PE procD ramC P R M tb v w (.tuple #[]) (putS x (getY z y) (getS z y)) (n + 2)) := by
 have S0 := Lib.hid (h0.below (own1 w (.cells #[.int .i64 7, .int .i64 x, .int .i64 z, .int .i64 s, .int .u16 nn] 44)))
 have M0 := Lib.hid (show PM P R M tb v w v (w.alloc (.cells #[.int .i64 7, .int .i64 x, .int .i64 z, .int .i64 s, .int .u16 nn] 44)) from PM.of (own1 w (.cells #[.int .i64 7, .int .i64 x, .int .i64 z, .int .i64 s, .int .u16 nn] 44)))
 have HO := Lib.hid (Has.new w #[.int .i64 7, .int .i64 x, .int .i64 z, .int .i64 s, .int .u16 nn] 44)
 have NO := Lib.hid (h0.new (Nat.le_refl w.heap.size))
 obtain ⟨hc, hf⟩ := S0.out.cp
 clear h0
 go_enter Tryz.func80, Tryz.ntmps80
 go_wp2
 generalize w.alloc (.cells #[.int .i64 7, .int .i64 x, .int .i64 z, .int .i64 s, .int .u16 nn] 44) = w0 at S0 M0 HO hc hf ⊢
 generalize w.heap.size = ob at HO NO ⊢
 have ho := HO.out.2.1
 have S0' := Lib.hid S0.out.drew
 have M0' := Lib.hid (M0.out.trans (PM.drew P R M tb v w0))
 have HO' := Lib.hid HO.out.drew
 clear ho HO
 have HO := HO'
 clear HO'
 clear hc hf
 refine wp_region_held_drew (S := (fun w' => (∀ j, w'.cell? ⟨ob, j, none⟩ = #[Value.int .i64 7, .int .i64 x, .int .i64 z, .int .i64 s, .int .u16 nn][j]?) ∧ True)) (by kernel_rfl) ⟨HO.out.2.1, trivial⟩ (fun hHeld => ?_)
 generalize World.drew w0 = u0 at hHeld S0' M0' HO ⊢
 clear S0 M0
 have S0 := S0'
 have M0 := M0'
 clear S0' M0'
 refine tk 0 rfl (v := ?v1) ?y1 ?z1
 case y1 => (intro w hSw; (try dsimp only at hSw); go_simp) <;> with_reducible rfl
 try simp only [Act.put, qqA, qqB, qqC]
 refine tk 1 rfl (v := ?v2) ?y2 ?z2
 case y2 => (intro w hSw; (try dsimp only at hSw); go_simp) <;> with_reducible rfl
 try simp only [Act.put, qqA, qqB, qqC]
 refine tk 2 rfl (v := ?v3) ?y3 ?z3
 case y3 => (intro w hSw; (try dsimp only at hSw); go_simp) <;> with_reducible rfl
 try simp only [Act.put, qqA, qqB, qqC]
 refine tk 3 rfl (v := ?v4) ?y4 ?z4
 case y4 => (intro w hSw; (try dsimp only at hSw); go_simp) <;> with_reducible rfl
 try simp only [Act.put, qqA, qqB, qqC]
 refine tk 4 rfl (v := ?v5) ?y5 ?z5
 case y5 => (intro w hSw; (try dsimp only at hSw); go_simp) <;> with_reducible rfl
 try simp only [Act.put, qqA, qqB, qqC]
 refine tk 5 rfl (v := ?v6) ?y6 ?z6
 case y6 => (intro w hSw; (try dsimp only at hSw); go_simp) <;> with_reducible rfl
 try simp only [Act.put, qqA, qqB, qqC]
 refine wpAnyH_ready (rs := [6]) (by kernel_rfl) (by simp) ?_
 refine (ac rfl (fun K hK => ?_) AllReadyH.nil)
 ·skip
  go_simp
  go_wp2_with (go_at_call 89; (with_reducible refine (get_p S0.out (by omega) z).mono ?_); rintro e w1 ⟨rfl, v1, s', m'⟩)
  have HO' := Lib.hid (m'.has HO.out NO.out)
  have NO' := Lib.hid (m'.far HO.out.1 NO.out)
  clear HO NO
  have HO := HO'
  have NO := NO'
  clear HO' NO'
  refine hK.out _ _ ?s7 (fun hNew => ?r7)
  case s7 => exact ⟨HO.out.2.1, trivial⟩
  clear hK K hHeld
  have hHeld := hNew
  clear hNew
  have M1 := Lib.hid (M0.out.trans m')
  obtain ⟨y1, hy⟩ : ∃ q_, q_ = getS z y := ⟨_, rfl⟩
  rw [← hy] at s'
  have Y1 := Lib.hid hy
  have S1 := Lib.hid s'
  clear s' m' hy
  refine wpAnyH_ready (rs := [7]) (by kernel_rfl) (by simp) ?_
  refine (ac rfl (fun K hK => ?_) AllReadyH.nil)
  ·skip
   go_simp
   go_wp2_with (go_at_call 88; (with_reducible refine (set_p S1.out (by omega) x _ (S0.out.getb z).1 (S0.out.getb z).2).mono ?_); rintro e w2 ⟨rfl, v2, s', m'⟩)
   have HO' := Lib.hid (m'.has HO.out NO.out)
   have NO' := Lib.hid (m'.far HO.out.1 NO.out)
   clear HO NO
   have HO := HO'
   have NO := NO'
   clear HO' NO'
   refine hK.out _ _ ?s8 (fun hNew => ?r8)
   case s8 => exact ⟨HO.out.2.1, trivial⟩
   clear hK K hHeld
   have hHeld := hNew
   clear hNew
   have M2 := Lib.hid (M1.out.trans m')
   obtain ⟨y2, hy⟩ : ∃ q_, q_ = putS x (getY z y) y1 := ⟨_, rfl⟩
   rw [← hy] at s'
   have Y2 := Lib.hid hy
   have S2 := Lib.hid s'
   clear s' m' hy
   refine wpAnyH_done (by kernel_rfl) ?_ _
   obtain ⟨hc, hf⟩ := S2.out.cp
   have ho := HO.out.2.1
   go_wp2
   go_end0
   refine ⟨rfl, v2, ?_, M2.out⟩
   have q := S2.out
   have e := Y2.out.symm
   subst e
   have e := Y1.out.symm
   subst e
   exact Sys.mono (n' := n + 2) q (by omega)
set_option maxHeartbeats 2000000 in
theorem move_8 (h0 : Sys procD ramC w P R M tb v y n) (hn : n < 970000) (x z s nn : Int) : Calls Tryz.prog 80 #[.pointer (some ⟨P, 0, none⟩), .agg #[.int .i64 8, .int .i64 x, .int .i64 z, .int .i64 s, .int .u16 nn]] w (PE procD ramC P R M tb v w (.tuple #[]) (putS x (nn % 256) y) (n + 1)) := by
 have S0 := Lib.hid (h0.below (own1 w (.cells #[.int .i64 8, .int .i64 x, .int .i64 z, .int .i64 s, .int .u16 nn] 44)))
 have M0 := Lib.hid (show PM P R M tb v w v (w.alloc (.cells #[.int .i64 8, .int .i64 x, .int .i64 z, .int .i64 s, .int .u16 nn] 44)) from PM.of (own1 w (.cells #[.int .i64 8, .int .i64 x, .int .i64 z, .int .i64 s, .int .u16 nn] 44)))
 have HO := Lib.hid (Has.new w #[.int .i64 8, .int .i64 x, .int .i64 z, .int .i64 s, .int .u16 nn] 44)
 have NO := Lib.hid (h0.new (Nat.le_refl w.heap.size))
 obtain ⟨hc, hf⟩ := S0.out.cp
 clear h0
 go_enter Tryz.func80, Tryz.ntmps80
 go_wp2_with fail
 generalize w.alloc (.cells #[.int .i64 8, .int .i64 x, .int .i64 z, .int .i64 s, .int .u16 nn] 44) = w0 at S0 M0 HO hc hf ⊢
 generalize w.heap.size = ob at HO NO ⊢
 have ho := HO.out.2.1
 with_reducible refine (set_p S0.out (by omega) x (nn % 256) (by omega) (by omega)).mono ?_
 rintro e w1 ⟨rfl, v1, s', m'⟩
 have HO' := Lib.hid (m'.has HO.out NO.out)
 have NO' := Lib.hid (m'.far HO.out.1 NO.out)
 clear ho HO NO
 have HO := HO'
 have NO := NO'
 clear HO' NO'
 have ho := HO.out.2.1
 have M1 := Lib.hid (M0.out.trans m')
 obtain ⟨y1, hy⟩ : ∃ q_, q_ = putS x (nn % 256) y := ⟨_, rfl⟩
 rw [← hy] at s'
 have Y1 := Lib.hid hy
 clear hc hf
 obtain ⟨hc, hf⟩ := s'.cp
 have S1 := Lib.hid s'
 clear s' m' hy
 go_wp2
 go_end0
 refine ⟨rfl, v1, ?_, M1.out⟩
 have q := S1.out
 have e := Y1.out.symm
 subst e
 exact Sys.mono (n' := n + 1) q (by omega)
set_option maxHeartbeats 2000000 in
theorem move_9 (h0 : Sys procD ramC w P R M tb v y n) (hn : n < 970000) (x z s nn : Int) (n0 : 0 ≤ nn) (n1 : nn < 65536) : Calls Tryz.prog 80 #[.pointer (some ⟨P, 0, none⟩), .agg #[.int .i64 9, .int .i64 x, .int .i64 z, .int .i64 s, .int .u16 nn]] w (PE procD ramC P R M tb v w (.tuple #[]) (pairS x nn y) (n + 0)) := by
 have S0 := Lib.hid (h0.below (own1 w (.cells #[.int .i64 9, .int .i64 x, .int .i64 z, .int .i64 s, .int .u16 nn] 44)))
 have M0 := Lib.hid (show PM P R M tb v w v (w.alloc (.cells #[.int .i64 9, .int .i64 x, .int .i64 z, .int .i64 s, .int .u16 nn] 44)) from PM.of (own1 w (.cells #[.int .i64 9, .int .i64 x, .int .i64 z, .int .i64 s, .int .u16 nn] 44)))
 have HO := Lib.hid (Has.new w #[.int .i64 9, .int .i64 x, .int .i64 z, .int .i64 s, .int .u16 nn] 44)
 have NO := Lib.hid (h0.new (Nat.le_refl w.heap.size))
 obtain ⟨hc, hf⟩ := S0.out.cp
 clear h0
 go_enter Tryz.func80, Tryz.ntmps80
 go_wp2_with fail
 generalize w.alloc (.cells #[.int .i64 9, .int .i64 x, .int .i64 z, .int .i64 s, .int .u16 nn] 44) = w0 at S0 M0 HO hc hf ⊢
 generalize w.heap.size = ob at HO NO ⊢
 have ho := HO.out.2.1
 with_reducible refine (setPair_p S0.out (by omega) x nn n0 n1).mono ?_
 rintro e w1 ⟨rfl, v1, s', m'⟩
 have HO' := Lib.hid (m'.has HO.out NO.out)
 have NO' := Lib.hid (m'.far HO.out.1 NO.out)
 clear ho HO NO
 have HO := HO'
 have NO := NO'
 clear HO' NO'
 have ho := HO.out.2.1
 have M1 := Lib.hid (M0.out.trans m')
 obtain ⟨y1, hy⟩ : ∃ q_, q_ = pairS x nn y := ⟨_, rfl⟩
 rw [← hy] at s'
 have Y1 := Lib.hid hy
 clear hc hf
 obtain ⟨hc, hf⟩ := s'.cp
 have S1 := Lib.hid s'
 clear s' m' hy
 go_wp2
 go_end0
 refine ⟨rfl, v1, ?_, M1.out⟩
 have q := S1.out
 have e := Y1.out.symm
 subst e
 exact Sys.mono (n' := n + 0) q (by omega)
set_option maxHeartbeats 2000000 in
theorem move_43 (h0 : Sys procD ramC w P R M tb v y n) (hn : n < 970000) (x z s nn : Int) : Calls Tryz.prog 80 #[.pointer (some ⟨P, 0, none⟩), .agg #[.int .i64 43, .int .i64 x, .int .i64 z, .int .i64 s, .int .u16 nn]] w (PE procD ramC P R M tb v w (.tuple #[]) (setSP (hlV y) (idle y)) (n + 1)) := by
 have hm := mI ⟨R, 0, none⟩
 have S0 := Lib.hid (h0.below (own1 w (.cells #[.int .i64 43, .int .i64 x, .int .i64 z, .int .i64 s, .int .u16 nn] 44)))
 have M0 := Lib.hid (show PM P R M tb v w v (w.alloc (.cells #[.int .i64 43, .int .i64 x, .int .i64 z, .int .i64 s, .int .u16 nn] 44)) from PM.of (own1 w (.cells #[.int .i64 43, .int .i64 x, .int .i64 z, .int .i64 s, .int .u16 nn] 44)))
 have HO := Lib.hid (Has.new w #[.int .i64 43, .int .i64 x, .int .i64 z, .int .i64 s, .int .u16 nn] 44)
 have NO := Lib.hid (h0.new (Nat.le_refl w.heap.size))
 obtain ⟨hc, hf⟩ := S0.out.cp
 clear h0
 go_enter Tryz.func80, Tryz.ntmps80
 go_wp2_with fail
 generalize w.alloc (.cells #[.int .i64 43, .int .i64 x, .int .i64 z, .int .i64 s, .int .u16 nn] 44) = w0 at S0 M0 HO hc hf ⊢
 generalize w.heap.size = ob at HO NO ⊢
 have ho := HO.out.2.1
 with_reducible refine (idle_p S0.out (by omega)).mono ?_
 rintro e w1 ⟨rfl, v1, s', m'⟩
 have HO' := Lib.hid (m'.has HO.out NO.out)
 have NO' := Lib.hid (m'.far HO.out.1 NO.out)
 clear ho HO NO
 have HO := HO'
 have NO := NO'
 clear HO' NO'
 have ho := HO.out.2.1
 have M1 := Lib.hid (M0.out.trans m')
 obtain ⟨y1, hy⟩ : ∃ q_, q_ = idle y := ⟨_, rfl⟩
 rw [← hy] at s'
 have Y1 := Lib.hid hy
 clear hc hf
 obtain ⟨hc, hf⟩ := s'.cp
 have S1 := Lib.hid s'
 clear s' m' hy
 go_wp2_with fail
 with_reducible refine (pair_p S1.out (by omega) 2).mono ?_
 rintro e w2 ⟨rfl, v2, s', m'⟩
 have HO' := Lib.hid (m'.has HO.out NO.out)
 have NO' := Lib.hid (m'.far HO.out.1 NO.out)
 clear ho HO NO
 have HO := HO'
 have NO := NO'
 clear HO' NO'
 have ho := HO.out.2.1
 have M2 := Lib.hid (M1.out.trans m')
 obtain ⟨y2, hy⟩ : ∃ q_, q_ = y1 := ⟨_, rfl⟩
 rw [← hy] at s'
 have Y2 := Lib.hid hy
 clear hc hf
 obtain ⟨hc, hf⟩ := s'.cp
 have S2 := Lib.hid s'
 clear s' m' hy
 go_wp2
 have Q := Lib.hid (S2.out.stSP (pairV y1.s.r 2) (pairV_b S1.out.ok 2).1 (pairV_b S1.out.ok 2).2)
 go_end0
 refine ⟨rfl, v2, ?_, M2.out.trans Q.out.2⟩
 have q := Q.out.1
 have e := Y2.out.symm
 subst e
 have e := Y1.out.symm
 subst e
 exact Sys.mono (n' := n + 1) q (by omega)
set_option maxHeartbeats 2000000 in
theorem move_40 (h0 : Sys procD ramC w P R M tb v y n) (hn : n < 970000) (x z s nn : Int) (n0 : 0 ≤ nn) (n1 : nn < 65536) : Calls Tryz.prog 80 #[.pointer (some ⟨P, 0, none⟩), .agg #[.int .i64 40, .int .i64 x, .int .i64 z, .int .i64 s, .int .u16 nn]] w (PE procD ramC P R M tb v w (.tuple #[]) (wr (up nn) (y.s.r.sp / 256) (wr nn (y.s.r.sp % 256) y)) (n + 2)) := by
 have hm := mW ⟨R, 0, none⟩
 have spb := h0.spb
 have hw := up_w nn
 have S0 := Lib.hid (h0.below (own1 w (.cells #[.int .i64 40, .int .i64 x, .int .i64 z, .int .i64 s, .int .u16 nn] 44)))
 have M0 := Lib.hid (show PM P R M tb v w v (w.alloc (.cells #[.int .i64 40, .int .i64 x, .int .i64 z, .int .i64 s, .int .u16 nn] 44)) from PM.of (own1 w (.cells #[.int .i64 40, .int .i64 x, .int .i64 z, .int .i64 s, .int .u16 nn] 44)))
 have HO := Lib.hid (Has.new w #[.int .i64 40, .int .i64 x, .int .i64 z, .int .i64 s, .int .u16 nn] 44)
 have NO := Lib.hid (h0.new (Nat.le_refl w.heap.size))
 obtain ⟨hc, hf⟩ := S0.out.cp
 clear h0
 go_enter Tryz.func80, Tryz.ntmps80
 go_wp2
 generalize w.alloc (.cells #[.int .i64 40, .int .i64 x, .int .i64 z, .int .i64 s, .int .u16 nn] 44) = w0 at S0 M0 HO hc hf ⊢
 generalize w.heap.size = ob at HO NO ⊢
 have ho := HO.out.2.1
 have S0' := Lib.hid S0.out.drew
 have M0' := Lib.hid (M0.out.trans (PM.drew P R M tb v w0))
 clear hc hf
 obtain ⟨hc, hf⟩ := S0'.out.cp
 have HO' := Lib.hid HO.out.drew
 clear ho HO
 have HO := HO'
 clear HO'
 have ho := HO.out.2.1
 go_still_tail 15, (by kernel_rfl)
 change wpList _ _ _ _ _ (World.drew w0)
 generalize World.drew w0 = u0 at hc hf S0' M0' HO ho ⊢
 clear S0 M0
 have S0 := S0'
 have M0 := M0'
 clear S0' M0'
 go_wp2_with fail
 with_reducible refine (write_p S0.out (by omega) nn (y.s.r.sp % 256) n0 n1 (by omega) (by omega)).mono ?_
 rintro e w1 ⟨rfl, v1, s', m'⟩
 have HO' := Lib.hid (m'.has HO.out NO.out)
 have NO' := Lib.hid (m'.far HO.out.1 NO.out)
 clear ho HO NO
 have HO := HO'
 have NO := NO'
 clear HO' NO'
 have ho := HO.out.2.1
 have M1 := Lib.hid (M0.out.trans m')
 obtain ⟨y1, hy⟩ : ∃ q_, q_ = wr nn (y.s.r.sp % 256) y := ⟨_, rfl⟩
 rw [← hy] at s'
 have Y1 := Lib.hid hy
 clear hc hf
 obtain ⟨hc, hf⟩ := s'.cp
 have S1 := Lib.hid s'
 clear s' m' hy
 have spb1 := S1.out.spb
 go_wp2
 have S1' := Lib.hid S1.out.drew
 have M1' := Lib.hid (M1.out.trans (PM.drew P R M tb v1 w1))
 clear hc hf
 obtain ⟨hc, hf⟩ := S1'.out.cp
 have HO' := Lib.hid HO.out.drew
 clear ho HO
 have HO := HO'
 clear HO'
 have ho := HO.out.2.1
 go_still_tail 17, (by kernel_rfl)
 change wpList _ _ _ _ _ (World.drew w1)
 generalize World.drew w1 = u1 at hc hf S1' M1' HO ho ⊢
 clear S1 M1
 have S1 := S1'
 have M1 := M1'
 clear S1' M1'
 go_wp2_with fail
 with_reducible refine (write_p S1.out (by omega) (up nn) (y1.s.r.sp / 256) (up_b _).1 (up_b _).2 (by omega) (by omega)).mono ?_
 rintro e w2 ⟨rfl, v2, s', m'⟩
 have HO' := Lib.hid (m'.has HO.out NO.out)
 have NO' := Lib.hid (m'.far HO.out.1 NO.out)
 clear ho HO NO
 have HO := HO'
 have NO := NO'
 clear HO' NO'
 have ho := HO.out.2.1
 have M2 := Lib.hid (M1.out.trans m')
 obtain ⟨y2, hy⟩ : ∃ q_, q_ = wr (up nn) (y1.s.r.sp / 256) y1 := ⟨_, rfl⟩
 rw [← hy] at s'
 have Y2 := Lib.hid hy
 clear hc hf
 obtain ⟨hc, hf⟩ := s'.cp
 have S2 := Lib.hid s'
 clear s' m' hy
 go_wp2
 go_end0
 refine ⟨rfl, v2, ?_, M2.out⟩
 have q := S2.out
 have e := Y2.out.symm
 subst e
 have e := Y1.out.symm
 subst e
 exact Sys.mono (n' := n + 2) q (by omega)
end
end Go.Proofs.YtngdogldgcgnjaaGreat
