/-
  What move does: for every world; the processor is there.
  (Some texts in one.)
-/
import Derived.Test.YtngdogldgcgnjaaGreatZ11
set_option maxRecDepth 100000
set_option maxHeartbeats 8000000
namespace Go.Proofs.YtngdogldgcgnjaaGreat
open Go.ChangeShapes Go.WideShapes Go.ChangeAt Go.RowKit
open Reg
set_option linter.unusedVariables false
section
variable {w : World} {P R M tb n : Nat} {v : Value} {y : Sy}
theorem move_7 (h0 : Sys procD ramC w P R M tb v y n) (hn : n < 970000) (x z s nn : Int) : Calls Tryz.prog 80 #[.pointer (some ⟨P, 0, none⟩), .agg #[.int .i64 7, .int .i64 x, .int .i64 z, .int .i64 s, .int .u16 nn]] w (PE procD ramC P R M tb v w (.tuple #[]) (putS x (getY z y) (getS z y)) (n + 2)) := by
 obtain ⟨S0, M0, HO, NO⟩ := h0.beg #[.int .i64 7, .int .i64 x, .int .i64 z, .int .i64 s, .int .u16 nn] 44; obtain ⟨hc, hf⟩ := S0.out.cp; clear h0; go_enter Tryz.func80, Tryz.ntmps80; go_wp2; generalize w.alloc (.cells #[.int .i64 7, .int .i64 x, .int .i64 z, .int .i64 s, .int .u16 nn] 44) = w0 at S0 M0 HO hc hf ⊢; generalize w.heap.size = ob at HO NO ⊢; have ho := HO.out.2.1; replace S0 := Lib.hid S0.out.drew; replace M0 := Lib.hid (M0.out.trans (PM.drew P R M tb v w0)); replace HO := Lib.hid HO.out.drew; clear ho hc hf
 refine rh HO (fun hHeld => ?_)
 generalize World.drew w0 = u0 at hHeld S0 M0 HO ⊢; refine tz 0 ?_; refine tz 1 ?_; refine tz 2 ?_; refine tz 3 ?_; refine tz 4 ?_; refine tz 5 ?_
 refine re1 6 (fun K hK => ?_)
 go_simp
 go_wp2_with (go_at_call 89; (with_reducible refine (get_p S0.out (by omega) z).mono ?_); rintro e w1 ⟨rfl, v1, s', m'⟩)
 replace HO := m'.two HO NO; clear NO; obtain ⟨HO, NO⟩ := HO
 refine hK.out _ _ ⟨HO.out.2.1, trivial⟩ (fun hNew => ?_); clear hK K hHeld; have hHeld := hNew; clear hNew
 have M1 := M0.tr m'; obtain ⟨y1, hy⟩ : ∃ q_, q_ = getS z y := ⟨_, rfl⟩; rw [← hy] at s'; have Y1 := Lib.hid hy; have S1 := Lib.hid s'; clear s' m' hy
 refine re1 7 (fun K hK => ?_)
 go_simp
 go_wp2_with (go_at_call 88; (with_reducible refine (set_p S1.out (by omega) x _ (S0.out.getb z).1 (S0.out.getb z).2).mono ?_); rintro e w2 ⟨rfl, v2, s', m'⟩)
 replace HO := m'.two HO NO; clear NO; obtain ⟨HO, NO⟩ := HO
 refine hK.out _ _ ⟨HO.out.2.1, trivial⟩ (fun hNew => ?_); clear hK K hHeld; have hHeld := hNew; clear hNew
 have M2 := M1.tr m'; obtain ⟨y2, hy⟩ : ∃ q_, q_ = putS x (getY z y) y1 := ⟨_, rfl⟩; rw [← hy] at s'; have Y2 := Lib.hid hy; have S2 := Lib.hid s'; clear s' m' hy
 refine wpAnyH_done (by kernel_rfl) ?_ _
 obtain ⟨hc, hf⟩ := S2.out.cp; have ho := HO.out.2.1; go_wp2
 go_end0
 refine ⟨rfl, v2, ?_, M2.out⟩
 have q := S2.out; have e := Y2.out.symm; subst e; have e := Y1.out.symm; subst e
 exact q.mo
theorem move_8 (h0 : Sys procD ramC w P R M tb v y n) (hn : n < 970000) (x z s nn : Int) : Calls Tryz.prog 80 #[.pointer (some ⟨P, 0, none⟩), .agg #[.int .i64 8, .int .i64 x, .int .i64 z, .int .i64 s, .int .u16 nn]] w (PE procD ramC P R M tb v w (.tuple #[]) (putS x (nn % 256) y) (n + 1)) := by
 obtain ⟨S0, M0, HO, NO⟩ := h0.beg #[.int .i64 8, .int .i64 x, .int .i64 z, .int .i64 s, .int .u16 nn] 44; obtain ⟨hc, hf⟩ := S0.out.cp; clear h0; go_enter Tryz.func80, Tryz.ntmps80; go_wp2_with fail; generalize w.alloc (.cells #[.int .i64 8, .int .i64 x, .int .i64 z, .int .i64 s, .int .u16 nn] 44) = w0 at S0 M0 HO hc hf ⊢; generalize w.heap.size = ob at HO NO ⊢; have ho := HO.out.2.1
 with_reducible refine (set_p S0.out (by omega) x (nn % 256) (by omega) (by omega)).mono ?_
 rintro e w1 ⟨rfl, v1, s', m'⟩; replace HO := m'.two HO NO; clear ho NO; obtain ⟨HO, NO⟩ := HO; have ho := HO.out.2.1; have M1 := M0.tr m'; obtain ⟨y1, hy⟩ : ∃ q_, q_ = putS x (nn % 256) y := ⟨_, rfl⟩; rw [← hy] at s'; have Y1 := Lib.hid hy; clear hc hf; obtain ⟨hc, hf⟩ := s'.cp; have S1 := Lib.hid s'; clear s' m' hy; go_wp2
 go_end0
 refine ⟨rfl, v1, ?_, M1.out⟩
 have q := S1.out; have e := Y1.out.symm; subst e
 exact q.mo
theorem move_9 (h0 : Sys procD ramC w P R M tb v y n) (hn : n < 970000) (x z s nn : Int) (n0 : 0 ≤ nn) (n1 : nn < 65536) : Calls Tryz.prog 80 #[.pointer (some ⟨P, 0, none⟩), .agg #[.int .i64 9, .int .i64 x, .int .i64 z, .int .i64 s, .int .u16 nn]] w (PE procD ramC P R M tb v w (.tuple #[]) (pairS x nn y) (n + 0)) := by
 obtain ⟨S0, M0, HO, NO⟩ := h0.beg #[.int .i64 9, .int .i64 x, .int .i64 z, .int .i64 s, .int .u16 nn] 44; obtain ⟨hc, hf⟩ := S0.out.cp; clear h0; go_enter Tryz.func80, Tryz.ntmps80; go_wp2_with fail; generalize w.alloc (.cells #[.int .i64 9, .int .i64 x, .int .i64 z, .int .i64 s, .int .u16 nn] 44) = w0 at S0 M0 HO hc hf ⊢; generalize w.heap.size = ob at HO NO ⊢; have ho := HO.out.2.1
 with_reducible refine (setPair_p S0.out (by omega) x nn n0 n1).mono ?_
 rintro e w1 ⟨rfl, v1, s', m'⟩; replace HO := m'.two HO NO; clear ho NO; obtain ⟨HO, NO⟩ := HO; have ho := HO.out.2.1; have M1 := M0.tr m'; obtain ⟨y1, hy⟩ : ∃ q_, q_ = pairS x nn y := ⟨_, rfl⟩; rw [← hy] at s'; have Y1 := Lib.hid hy; clear hc hf; obtain ⟨hc, hf⟩ := s'.cp; have S1 := Lib.hid s'; clear s' m' hy; go_wp2
 go_end0
 refine ⟨rfl, v1, ?_, M1.out⟩
 have q := S1.out; have e := Y1.out.symm; subst e
 exact q.mo
theorem move_43 (h0 : Sys procD ramC w P R M tb v y n) (hn : n < 970000) (x z s nn : Int) : Calls Tryz.prog 80 #[.pointer (some ⟨P, 0, none⟩), .agg #[.int .i64 43, .int .i64 x, .int .i64 z, .int .i64 s, .int .u16 nn]] w (PE procD ramC P R M tb v w (.tuple #[]) (setSP (hlV y) (idle y)) (n + 1)) := by
 have hm := mI ⟨R, 0, none⟩; obtain ⟨S0, M0, HO, NO⟩ := h0.beg #[.int .i64 43, .int .i64 x, .int .i64 z, .int .i64 s, .int .u16 nn] 44; obtain ⟨hc, hf⟩ := S0.out.cp; clear h0; go_enter Tryz.func80, Tryz.ntmps80; go_wp2_with fail; generalize w.alloc (.cells #[.int .i64 43, .int .i64 x, .int .i64 z, .int .i64 s, .int .u16 nn] 44) = w0 at S0 M0 HO hc hf ⊢; generalize w.heap.size = ob at HO NO ⊢; have ho := HO.out.2.1
 with_reducible refine (idle_p S0.out (by omega)).mono ?_
 rintro e w1 ⟨rfl, v1, s', m'⟩; replace HO := m'.two HO NO; clear ho NO; obtain ⟨HO, NO⟩ := HO; have ho := HO.out.2.1; have M1 := M0.tr m'; obtain ⟨y1, hy⟩ : ∃ q_, q_ = idle y := ⟨_, rfl⟩; rw [← hy] at s'; have Y1 := Lib.hid hy; clear hc hf; obtain ⟨hc, hf⟩ := s'.cp; have S1 := Lib.hid s'; clear s' m' hy; go_wp2_with fail
 with_reducible refine (pair_p S1.out (by omega) 2).mono ?_
 rintro e w2 ⟨rfl, v2, s', m'⟩; replace HO := m'.two HO NO; clear ho NO; obtain ⟨HO, NO⟩ := HO; have ho := HO.out.2.1; have M2 := M1.tr m'; obtain ⟨y2, hy⟩ : ∃ q_, q_ = y1 := ⟨_, rfl⟩; rw [← hy] at s'; have Y2 := Lib.hid hy; clear hc hf; obtain ⟨hc, hf⟩ := s'.cp; have S2 := Lib.hid s'; clear s' m' hy; go_wp2; have Q := Lib.hid (S2.out.stSP (pairV y1.s.r 2) (pairV_b S1.out.ok 2).1 (pairV_b S1.out.ok 2).2)
 go_end0
 refine ⟨rfl, v2, ?_, M2.out.trans Q.out.2⟩
 have q := Q.out.1; have e := Y2.out.symm; subst e; have e := Y1.out.symm; subst e
 exact q.mo
theorem move_40 (h0 : Sys procD ramC w P R M tb v y n) (hn : n < 970000) (x z s nn : Int) (n0 : 0 ≤ nn) (n1 : nn < 65536) : Calls Tryz.prog 80 #[.pointer (some ⟨P, 0, none⟩), .agg #[.int .i64 40, .int .i64 x, .int .i64 z, .int .i64 s, .int .u16 nn]] w (PE procD ramC P R M tb v w (.tuple #[]) (wr (up nn) (y.s.r.sp / 256) (wr nn (y.s.r.sp % 256) y)) (n + 2)) := by
 have hm := mW ⟨R, 0, none⟩; have spb := h0.spb; have hw := up_w nn; obtain ⟨S0, M0, HO, NO⟩ := h0.beg #[.int .i64 40, .int .i64 x, .int .i64 z, .int .i64 s, .int .u16 nn] 44; obtain ⟨hc, hf⟩ := S0.out.cp; clear h0; go_enter Tryz.func80, Tryz.ntmps80; go_wp2; generalize w.alloc (.cells #[.int .i64 40, .int .i64 x, .int .i64 z, .int .i64 s, .int .u16 nn] 44) = w0 at S0 M0 HO hc hf ⊢; generalize w.heap.size = ob at HO NO ⊢; have ho := HO.out.2.1; have S0' := Lib.hid S0.out.drew; have M0' := Lib.hid (M0.out.trans (PM.drew P R M tb v w0)); clear hc hf; obtain ⟨hc, hf⟩ := S0'.out.cp; have HO' := Lib.hid HO.out.drew; clear ho HO; have HO := HO'; clear HO'; have ho := HO.out.2.1
 go_still_tail 15, (by kernel_rfl)
 change wpList _ _ _ _ _ (World.drew w0)
 generalize World.drew w0 = u0 at hc hf S0' M0' HO ho ⊢; clear S0 M0; have S0 := S0'; have M0 := M0'; clear S0' M0'; go_wp2_with fail
 with_reducible refine (write_p S0.out (by omega) nn (y.s.r.sp % 256) n0 n1 (by omega) (by omega)).mono ?_
 rintro e w1 ⟨rfl, v1, s', m'⟩; replace HO := m'.two HO NO; clear ho NO; obtain ⟨HO, NO⟩ := HO; have ho := HO.out.2.1; have M1 := M0.tr m'; obtain ⟨y1, hy⟩ : ∃ q_, q_ = wr nn (y.s.r.sp % 256) y := ⟨_, rfl⟩; rw [← hy] at s'; have Y1 := Lib.hid hy; clear hc hf; obtain ⟨hc, hf⟩ := s'.cp; have S1 := Lib.hid s'; clear s' m' hy; have spb1 := S1.out.spb; go_wp2; have S1' := Lib.hid S1.out.drew; have M1' := Lib.hid (M1.out.trans (PM.drew P R M tb v1 w1)); clear hc hf; obtain ⟨hc, hf⟩ := S1'.out.cp; have HO' := Lib.hid HO.out.drew; clear ho HO; have HO := HO'; clear HO'; have ho := HO.out.2.1
 go_still_tail 17, (by kernel_rfl)
 change wpList _ _ _ _ _ (World.drew w1)
 generalize World.drew w1 = u1 at hc hf S1' M1' HO ho ⊢; clear S1 M1; have S1 := S1'; have M1 := M1'; clear S1' M1'; go_wp2_with fail
 with_reducible refine (write_p S1.out (by omega) (up nn) (y1.s.r.sp / 256) (up_b _).1 (up_b _).2 (by omega) (by omega)).mono ?_
 rintro e w2 ⟨rfl, v2, s', m'⟩; replace HO := m'.two HO NO; clear ho NO; obtain ⟨HO, NO⟩ := HO; have ho := HO.out.2.1; have M2 := M1.tr m'; obtain ⟨y2, hy⟩ : ∃ q_, q_ = wr (up nn) (y1.s.r.sp / 256) y1 := ⟨_, rfl⟩; rw [← hy] at s'; have Y2 := Lib.hid hy; clear hc hf; obtain ⟨hc, hf⟩ := s'.cp; have S2 := Lib.hid s'; clear s' m' hy; go_wp2
 go_end0
 refine ⟨rfl, v2, ?_, M2.out⟩
 have q := S2.out; have e := Y2.out.symm; subst e; have e := Y1.out.symm; subst e
 exact q.mo
end
end Go.Proofs.YtngdogldgcgnjaaGreat
namespace Go.Proofs.YtngdogldgcgnjaaGreat
open Go.ChangeShapes Go.WideShapes Go.ChangeAt Go.RowKit
open Reg
set_option linter.unusedVariables false
section
variable {w : World} {P R M tb n : Nat} {v : Value} {y : Sy}
theorem jr_w (pc nn : Int) : IntKind.u16.wrap (pc + IntKind.u16.wrap (IntKind.i8.wrap nn)) = jrV pc nn := by
 rw [IntKind.wrap_u16, IntKind.wrap_u16]
 unfold jrV Alu.signed
 have e : IntKind.i8.wrap nn = if 127 < nn % 256 then nn % 256 - 256 else nn % 256 := by
  simp only [IntKind.wrap, IntKind.bits, IntKind.signed]; simp; split <;> split <;> omega
 rw [e]
 omega
theorem br_23_f (h0 : Sys procD ramC w P R M tb v y n) (hn : n < 960000) (x z s nn : Int) : Calls Tryz.prog 73 #[.pointer (some ⟨P, 0, none⟩), .agg #[.int .i64 23, .int .i64 x, .int .i64 z, .int .i64 s, .int .u16 nn], .bool false] w (PE procD ramC P R M tb v w (.tuple #[]) (y) (n + 0)) := by
 have hm := mI ⟨R, 0, none⟩; obtain ⟨S0, M0, HO, NO⟩ := h0.beg #[.int .i64 23, .int .i64 x, .int .i64 z, .int .i64 s, .int .u16 nn] 44; obtain ⟨hc, hf⟩ := S0.out.cp; clear h0; go_enter Tryz.func73, Tryz.ntmps73; go_wp2
 first | go_end0 | refine bodyPost_ret (results_none rfl _ _ _) rfl ?_
 exact ⟨rfl, v, S0.out, M0.out⟩
theorem br_24_f (h0 : Sys procD ramC w P R M tb v y n) (hn : n < 960000) (x z s nn : Int) : Calls Tryz.prog 73 #[.pointer (some ⟨P, 0, none⟩), .agg #[.int .i64 24, .int .i64 x, .int .i64 z, .int .i64 s, .int .u16 nn], .bool false] w (PE procD ramC P R M tb v w (.tuple #[]) (y) (n + 0)) := by
 have hm := mI ⟨R, 0, none⟩; obtain ⟨S0, M0, HO, NO⟩ := h0.beg #[.int .i64 24, .int .i64 x, .int .i64 z, .int .i64 s, .int .u16 nn] 44; obtain ⟨hc, hf⟩ := S0.out.cp; clear h0; go_enter Tryz.func73, Tryz.ntmps73; go_wp2
 first | go_end0 | refine bodyPost_ret (results_none rfl _ _ _) rfl ?_
 exact ⟨rfl, v, S0.out, M0.out⟩
theorem br_25_f (h0 : Sys procD ramC w P R M tb v y n) (hn : n < 960000) (x z s nn : Int) : Calls Tryz.prog 73 #[.pointer (some ⟨P, 0, none⟩), .agg #[.int .i64 25, .int .i64 x, .int .i64 z, .int .i64 s, .int .u16 nn], .bool false] w (PE procD ramC P R M tb v w (.tuple #[]) (y) (n + 0)) := by
 have hm := mI ⟨R, 0, none⟩; obtain ⟨S0, M0, HO, NO⟩ := h0.beg #[.int .i64 25, .int .i64 x, .int .i64 z, .int .i64 s, .int .u16 nn] 44; obtain ⟨hc, hf⟩ := S0.out.cp; clear h0; go_enter Tryz.func73, Tryz.ntmps73; go_wp2
 first | go_end0 | refine bodyPost_ret (results_none rfl _ _ _) rfl ?_
 exact ⟨rfl, v, S0.out, M0.out⟩
theorem br_26_f4 (h0 : Sys procD ramC w P R M tb v y n) (hn : n < 960000) (z s nn : Int) : Calls Tryz.prog 73 #[.pointer (some ⟨P, 0, none⟩), .agg #[.int .i64 26, .int .i64 4, .int .i64 z, .int .i64 s, .int .u16 nn], .bool false] w (PE procD ramC P R M tb v w (.tuple #[]) (y) (n + 0)) := by
 have hm := mI ⟨R, 0, none⟩; obtain ⟨S0, M0, HO, NO⟩ := h0.beg #[.int .i64 26, .int .i64 4, .int .i64 z, .int .i64 s, .int .u16 nn] 44; obtain ⟨hc, hf⟩ := S0.out.cp; clear h0; go_enter Tryz.func73, Tryz.ntmps73; go_wp2
 first | go_end0 | refine bodyPost_ret (results_none rfl _ _ _) rfl ?_
 exact ⟨rfl, v, S0.out, M0.out⟩
theorem br_23_t (h0 : Sys procD ramC w P R M tb v y n) (hn : n < 960000) (x z s nn : Int) : Calls Tryz.prog 73 #[.pointer (some ⟨P, 0, none⟩), .agg #[.int .i64 23, .int .i64 x, .int .i64 z, .int .i64 s, .int .u16 nn], .bool true] w (PE procD ramC P R M tb v w (.tuple #[]) (setPC (jrV y.s.r.pc nn) (idle y)) (n + 1)) := by
 have hm := mI ⟨R, 0, none⟩; obtain ⟨S0, M0, HO, NO⟩ := h0.beg #[.int .i64 23, .int .i64 x, .int .i64 z, .int .i64 s, .int .u16 nn] 44; obtain ⟨hc, hf⟩ := S0.out.cp; clear h0; go_enter Tryz.func73, Tryz.ntmps73; go_wp2_with fail; generalize w.alloc (.cells #[.int .i64 23, .int .i64 x, .int .i64 z, .int .i64 s, .int .u16 nn] 44) = w0 at S0 M0 HO hc hf ⊢; generalize w.heap.size = ob at HO NO ⊢; have ho := HO.out.2.1
 with_reducible refine (idle_p S0.out (by omega)).mono ?_
 rintro e w1 ⟨rfl, v1, s', m'⟩; replace HO := m'.two HO NO; clear ho NO; obtain ⟨HO, NO⟩ := HO; have ho := HO.out.2.1; have M1 := M0.tr m'; obtain ⟨y1, hy⟩ : ∃ q_, q_ = idle y := ⟨_, rfl⟩; rw [← hy] at s'; have Y1 := Lib.hid hy; clear hc hf; obtain ⟨hc, hf⟩ := s'.cp; have S1 := Lib.hid s'; clear s' m' hy; have hw := jr_w y1.s.r.pc nn; go_wp2; have S1' := Lib.hid S1.out.drew; have M1' := Lib.hid (M1.out.trans (PM.drew P R M tb v1 w1)); clear hc hf; obtain ⟨hc, hf⟩ := S1'.out.cp; have HO' := Lib.hid HO.out.drew; clear ho HO; have HO := HO'; clear HO'; have ho := HO.out.2.1
 go_still_tail 15, (by kernel_rfl)
 change wpList _ _ _ _ _ (World.drew w1)
 generalize World.drew w1 = u1 at hc hf S1' M1' HO ho ⊢; clear S1 M1; have S1 := S1'; have M1 := M1'; clear S1' M1'
 have jb : 0 ≤ jrV y1.s.r.pc nn ∧ jrV y1.s.r.pc nn < 65536 := by unfold jrV; omega
 go_wp2; have Q := Lib.hid (S1.out.stPC (jrV y1.s.r.pc nn) jb.1 jb.2)
 go_end0
 refine ⟨rfl, v1, ?_, M1.out.trans Q.out.2⟩
 have q := Q.out.1; have e := Y1.out.symm; subst e
 exact q.mo
theorem br_24_t (h0 : Sys procD ramC w P R M tb v y n) (hn : n < 960000) (x z s nn : Int) (n0 : 0 ≤ nn) (n1 : nn < 65536) : Calls Tryz.prog 73 #[.pointer (some ⟨P, 0, none⟩), .agg #[.int .i64 24, .int .i64 x, .int .i64 z, .int .i64 s, .int .u16 nn], .bool true] w (PE procD ramC P R M tb v w (.tuple #[]) (setPC nn (idle y)) (n + 1)) := by
 have hm := mI ⟨R, 0, none⟩; obtain ⟨S0, M0, HO, NO⟩ := h0.beg #[.int .i64 24, .int .i64 x, .int .i64 z, .int .i64 s, .int .u16 nn] 44; obtain ⟨hc, hf⟩ := S0.out.cp; clear h0; go_enter Tryz.func73, Tryz.ntmps73; go_wp2_with fail; generalize w.alloc (.cells #[.int .i64 24, .int .i64 x, .int .i64 z, .int .i64 s, .int .u16 nn] 44) = w0 at S0 M0 HO hc hf ⊢; generalize w.heap.size = ob at HO NO ⊢; have ho := HO.out.2.1
 with_reducible refine (idle_p S0.out (by omega)).mono ?_
 rintro e w1 ⟨rfl, v1, s', m'⟩; replace HO := m'.two HO NO; clear ho NO; obtain ⟨HO, NO⟩ := HO; have ho := HO.out.2.1; have M1 := M0.tr m'; obtain ⟨y1, hy⟩ : ∃ q_, q_ = idle y := ⟨_, rfl⟩; rw [← hy] at s'; have Y1 := Lib.hid hy; clear hc hf; obtain ⟨hc, hf⟩ := s'.cp; have S1 := Lib.hid s'; clear s' m' hy; go_wp2; have Q := Lib.hid (S1.out.stPC nn n0 n1)
 go_end0
 refine ⟨rfl, v1, ?_, M1.out.trans Q.out.2⟩
 have q := Q.out.1; have e := Y1.out.symm; subst e
 exact q.mo
theorem br_25_t (h0 : Sys procD ramC w P R M tb v y n) (hn : n < 960000) (x z s nn : Int) (n0 : 0 ≤ nn) (n1 : nn < 65536) : Calls Tryz.prog 73 #[.pointer (some ⟨P, 0, none⟩), .agg #[.int .i64 25, .int .i64 x, .int .i64 z, .int .i64 s, .int .u16 nn], .bool true] w (PE procD ramC P R M tb v w (.tuple #[]) (enterS nn y) (n + 3)) := by
 obtain ⟨S0, M0, HO, NO⟩ := h0.beg #[.int .i64 25, .int .i64 x, .int .i64 z, .int .i64 s, .int .u16 nn] 44; obtain ⟨hc, hf⟩ := S0.out.cp; clear h0; go_enter Tryz.func73, Tryz.ntmps73; go_wp2_with fail; generalize w.alloc (.cells #[.int .i64 25, .int .i64 x, .int .i64 z, .int .i64 s, .int .u16 nn] 44) = w0 at S0 M0 HO hc hf ⊢; generalize w.heap.size = ob at HO NO ⊢; have ho := HO.out.2.1
 with_reducible refine (enter_p S0.out (by omega) nn n0 n1).mono ?_
 rintro e w1 ⟨rfl, v1, s', m'⟩; replace HO := m'.two HO NO; clear ho NO; obtain ⟨HO, NO⟩ := HO; have ho := HO.out.2.1; have M1 := M0.tr m'; obtain ⟨y1, hy⟩ : ∃ q_, q_ = enterS nn y := ⟨_, rfl⟩; rw [← hy] at s'; have Y1 := Lib.hid hy; clear hc hf; obtain ⟨hc, hf⟩ := s'.cp; have S1 := Lib.hid s'; clear s' m' hy; go_wp2
 go_end0
 refine ⟨rfl, v1, ?_, M1.out⟩
 have q := S1.out; have e := Y1.out.symm; subst e
 exact q.mo
theorem br_26_t4 (h0 : Sys procD ramC w P R M tb v y n) (hn : n < 960000) (z s nn : Int) : Calls Tryz.prog 73 #[.pointer (some ⟨P, 0, none⟩), .agg #[.int .i64 26, .int .i64 4, .int .i64 z, .int .i64 s, .int .u16 nn], .bool true] w (PE procD ramC P R M tb v w (.tuple #[]) (leaveS y) (n + 3)) := by
 obtain ⟨S0, M0, HO, NO⟩ := h0.beg #[.int .i64 26, .int .i64 4, .int .i64 z, .int .i64 s, .int .u16 nn] 44; obtain ⟨hc, hf⟩ := S0.out.cp; clear h0; go_enter Tryz.func73, Tryz.ntmps73; go_wp2_with fail; generalize w.alloc (.cells #[.int .i64 26, .int .i64 4, .int .i64 z, .int .i64 s, .int .u16 nn] 44) = w0 at S0 M0 HO hc hf ⊢; generalize w.heap.size = ob at HO NO ⊢; have ho := HO.out.2.1
 with_reducible refine (leave_p S0.out (by omega)).mono ?_
 rintro e w1 ⟨rfl, v1, s', m'⟩; replace HO := m'.two HO NO; clear ho NO; obtain ⟨HO, NO⟩ := HO; have ho := HO.out.2.1; have M1 := M0.tr m'; obtain ⟨y1, hy⟩ : ∃ q_, q_ = leaveS y := ⟨_, rfl⟩; rw [← hy] at s'; have Y1 := Lib.hid hy; clear hc hf; obtain ⟨hc, hf⟩ := s'.cp; have S1 := Lib.hid s'; clear s' m' hy; go_wp2
 go_end0
 refine ⟨rfl, v1, ?_, M1.out⟩
 have q := S1.out; have e := Y1.out.symm; subst e
 exact q.mo
theorem br_26_t (h0 : Sys procD ramC w P R M tb v y n) (hn : n < 960000) (x z s nn : Int) (hx : x ≠ 4) : Calls Tryz.prog 73 #[.pointer (some ⟨P, 0, none⟩), .agg #[.int .i64 26, .int .i64 x, .int .i64 z, .int .i64 s, .int .u16 nn], .bool true] w (PE procD ramC P R M tb v w (.tuple #[]) (leaveS (idle y)) (n + 4)) := by
 have hm := mI ⟨R, 0, none⟩
 have hx' : (x != 4) = true := by simpa using hx
 obtain ⟨S0, M0, HO, NO⟩ := h0.beg #[.int .i64 26, .int .i64 x, .int .i64 z, .int .i64 s, .int .u16 nn] 44; obtain ⟨hc, hf⟩ := S0.out.cp; clear h0; go_enter Tryz.func73, Tryz.ntmps73; go_wp2_with fail; generalize w.alloc (.cells #[.int .i64 26, .int .i64 x, .int .i64 z, .int .i64 s, .int .u16 nn] 44) = w0 at S0 M0 HO hc hf ⊢; generalize w.heap.size = ob at HO NO ⊢; have ho := HO.out.2.1
 with_reducible refine (idle_p S0.out (by omega)).mono ?_
 rintro e w1 ⟨rfl, v1, s', m'⟩; replace HO := m'.two HO NO; clear ho NO; obtain ⟨HO, NO⟩ := HO; have ho := HO.out.2.1; have M1 := M0.tr m'; obtain ⟨y1, hy⟩ : ∃ q_, q_ = idle y := ⟨_, rfl⟩; rw [← hy] at s'; have Y1 := Lib.hid hy; clear hc hf; obtain ⟨hc, hf⟩ := s'.cp; have S1 := Lib.hid s'; clear s' m' hy; go_wp2_with fail
 with_reducible refine (leave_p S1.out (by omega)).mono ?_
 rintro e w2 ⟨rfl, v2, s', m'⟩; replace HO := m'.two HO NO; clear ho NO; obtain ⟨HO, NO⟩ := HO; have ho := HO.out.2.1; have M2 := M1.tr m'; obtain ⟨y2, hy⟩ : ∃ q_, q_ = leaveS y1 := ⟨_, rfl⟩; rw [← hy] at s'; have Y2 := Lib.hid hy; clear hc hf; obtain ⟨hc, hf⟩ := s'.cp; have S2 := Lib.hid s'; clear s' m' hy; go_wp2
 go_end0
 refine ⟨rfl, v2, ?_, M2.out⟩
 have q := S2.out; have e := Y2.out.symm; subst e; have e := Y1.out.symm; subst e
 exact q.mo
theorem br_26_f (h0 : Sys procD ramC w P R M tb v y n) (hn : n < 960000) (x z s nn : Int) (hx : x ≠ 4) : Calls Tryz.prog 73 #[.pointer (some ⟨P, 0, none⟩), .agg #[.int .i64 26, .int .i64 x, .int .i64 z, .int .i64 s, .int .u16 nn], .bool false] w (PE procD ramC P R M tb v w (.tuple #[]) (idle y) (n + 1)) := by
 have hm := mI ⟨R, 0, none⟩
 have hx' : (x != 4) = true := by simpa using hx
 obtain ⟨S0, M0, HO, NO⟩ := h0.beg #[.int .i64 26, .int .i64 x, .int .i64 z, .int .i64 s, .int .u16 nn] 44; obtain ⟨hc, hf⟩ := S0.out.cp; clear h0; go_enter Tryz.func73, Tryz.ntmps73; go_wp2_with fail; generalize w.alloc (.cells #[.int .i64 26, .int .i64 x, .int .i64 z, .int .i64 s, .int .u16 nn] 44) = w0 at S0 M0 HO hc hf ⊢; generalize w.heap.size = ob at HO NO ⊢; have ho := HO.out.2.1
 with_reducible refine (idle_p S0.out (by omega)).mono ?_
 rintro e w1 ⟨rfl, v1, s', m'⟩; replace HO := m'.two HO NO; clear ho NO; obtain ⟨HO, NO⟩ := HO; have ho := HO.out.2.1; have M1 := M0.tr m'; obtain ⟨y1, hy⟩ : ∃ q_, q_ = idle y := ⟨_, rfl⟩; rw [← hy] at s'; have Y1 := Lib.hid hy; clear hc hf; obtain ⟨hc, hf⟩ := s'.cp; have S1 := Lib.hid s'; clear s' m' hy; go_wp2
 first | go_end0 | refine bodyPost_ret (results_none rfl _ _ _) rfl ?_
 refine ⟨rfl, v1, ?_, M1.out⟩
 have q := S1.out; have e := Y1.out.symm; subst e
 exact q.mo
end
end Go.Proofs.YtngdogldgcgnjaaGreat
