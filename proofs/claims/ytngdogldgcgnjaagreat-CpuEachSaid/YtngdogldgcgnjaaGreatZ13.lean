/-
  What prefixed does: for every world; the processor is there.
-/
import Derived.Test.YtngdogldgcgnjaaGreatZ11
set_option maxRecDepth 100000
set_option maxHeartbeats 8000000
namespace Go.Proofs.YtngdogldgcgnjaaGreat
open Go.ChangeShapes Go.WideShapes Go.ChangeAt Go.RowKit
open Reg
set_option linter.unusedVariables false
section
variable {w : World} {P R M tb n : Nat} {v : Value} {y : Sy}
theorem andNot8 (x : Int) (h0 : 0 ≤ x) (h1 : x < 256) (k : Nat) (hk : k < 8) : bits .andNot .u8 x (2 ^ k) = clr x k :=
 byte_all (P := fun x => ∀ k : Fin 8, bits .andNot .u8 x (2 ^ k.val) = clr x k.val) (by decide +kernel) x h0 h1 ⟨k, hk⟩
theorem or8 (x : Int) (h0 : 0 ≤ x) (h1 : x < 256) (k : Nat) (hk : k < 8) : bits .or .u8 x (2 ^ k) = put x k :=
 byte_all (P := fun x => ∀ k : Fin 8, bits .or .u8 x (2 ^ k.val) = put x k.val) (by decide +kernel) x h0 h1 ⟨k, hk⟩
theorem pre_17 (h0 : Sys procD ramC w P R M tb v y n) (hn : n < 970000) (x z s nn : Int) : Calls Tryz.prog 95 #[.pointer (some ⟨P, 0, none⟩), .agg #[.int .i64 17, .int .i64 x, .int .i64 z, .int .i64 s, .int .u16 nn]] w (PE procD ramC P R M tb v w (.tuple #[]) (putS z (Alu.turnR x (getY z y) y.s.r.f) (setF (Alu.turnF x (getY z y) y.s.r.f) (getS z y))) (n + 2)) := by
 have fb := h0.fb; have gb := h0.getb z; obtain ⟨S0, M0, HO, NO⟩ := h0.beg #[.int .i64 17, .int .i64 x, .int .i64 z, .int .i64 s, .int .u16 nn] 44; obtain ⟨hc, hf⟩ := S0.out.cp; clear h0; go_enter Tryz.func95, Tryz.ntmps95; go_wp2_with fail; generalize w.alloc (.cells #[.int .i64 17, .int .i64 x, .int .i64 z, .int .i64 s, .int .u16 nn] 44) = w0 at S0 M0 HO hc hf ⊢; generalize w.heap.size = ob at HO NO ⊢; have ho := HO.out.2.1
 with_reducible refine (get_p S0.out (by omega) z).mono ?_
 rintro e w1 ⟨rfl, v1, s', m'⟩; replace HO := m'.two HO NO; clear ho NO; obtain ⟨HO, NO⟩ := HO; have ho := HO.out.2.1; have M1 := M0.tr m'; obtain ⟨y1, hy⟩ : ∃ q_, q_ = getS z y := ⟨_, rfl⟩; rw [← hy] at s'; have Y1 := Lib.hid hy; clear hc hf; obtain ⟨hc, hf⟩ := s'.cp; have S1 := Lib.hid s'; clear s' m' hy
 have hf1 : y1.s.r.f = y.s.r.f := by rw [Y1.out, getS_s]
 have HF := Lib.hid hf1; clear hf1; have fb1 := S1.out.fb; go_wp2; have S1' := Lib.hid S1.out.drew; have M1' := Lib.hid (M1.out.trans (PM.drew P R M tb v1 w1)); clear hc hf; obtain ⟨hc, hf⟩ := S1'.out.cp; have HO' := Lib.hid HO.out.drew; clear ho HO; have HO := HO'; clear HO'; have ho := HO.out.2.1
 refine wp_region_still_tail 19 (by kernel_rfl) (by kernel_rfl) ?_
 simp only [List.take_succ_cons, List.take_zero, List.drop_succ_cons, List.drop_zero]
 repeat still_step
 still_call (sm (Alu.turn_c x (getY z y) y1.s.r.f gb.1 gb.2 fb1.1 fb1.2 _))
 repeat still_step
 try refine wpStill_nil ?_
 change wpList _ _ _ _ _ (World.drew w1)
 generalize World.drew w1 = u1 at hc hf S1' M1' HO ho ⊢; clear S1 M1; have S1 := S1'; have M1 := M1'; clear S1' M1'; go_wp2_with fail; have q := S1.out.stF (Alu.turnF x (getY z y) y1.s.r.f) (Alu.FL_b _ _ _ _).1 (Alu.FL_b _ _ _ _).2; have s' := q.1; have m' := q.2; clear q; generalize (World.setCell u1 ⟨P, 1, none⟩ (.int .u8 (Alu.turnF x (getY z y) y1.s.r.f))) = w2 at s' m' ⊢; replace HO := m'.two HO NO; clear ho NO; obtain ⟨HO, NO⟩ := HO; have ho := HO.out.2.1; have M2 := M1.tr m'; obtain ⟨y2, hy⟩ : ∃ q_, q_ = setF (Alu.turnF x (getY z y) y1.s.r.f) y1 := ⟨_, rfl⟩; rw [← hy] at s'; have Y2 := Lib.hid hy; clear hc hf; obtain ⟨hc, hf⟩ := s'.cp; have S2 := Lib.hid s'; clear s' m' hy
 with_reducible refine (set_p S2.out (by omega) z (Alu.turnR x (getY z y) y1.s.r.f) (turnR_b _ _ _ gb.1 gb.2).1 (turnR_b _ _ _ gb.1 gb.2).2).mono ?_
 rintro e w3 ⟨rfl, v3, s', m'⟩; replace HO := m'.two HO NO; clear ho NO; obtain ⟨HO, NO⟩ := HO; have ho := HO.out.2.1; have M3 := M2.tr m'; obtain ⟨y3, hy⟩ : ∃ q_, q_ = putS z (Alu.turnR x (getY z y) y1.s.r.f) y2 := ⟨_, rfl⟩; rw [← hy] at s'; have Y3 := Lib.hid hy; clear hc hf; obtain ⟨hc, hf⟩ := s'.cp; have S3 := Lib.hid s'; clear s' m' hy; go_wp2
 go_end0
 refine ⟨rfl, v3, ?_, M3.out⟩
 have q := S3.out; rw [Y3.out, Y2.out, HF.out, Y1.out] at q
 exact q.mo
theorem pre_44 (h0 : Sys procD ramC w P R M tb v y n) (hn : n < 970000) (x z s nn : Int) : Calls Tryz.prog 95 #[.pointer (some ⟨P, 0, none⟩), .agg #[.int .i64 44, .int .i64 x, .int .i64 z, .int .i64 s, .int .u16 nn]] w (PE procD ramC P R M tb v w (.tuple #[]) (setF (Alu.bitF x (getY z y) y.s.r.f) (getS z y)) (n + 1)) := by
 have fb := h0.fb; have gb := h0.getb z; obtain ⟨S0, M0, HO, NO⟩ := h0.beg #[.int .i64 44, .int .i64 x, .int .i64 z, .int .i64 s, .int .u16 nn] 44; obtain ⟨hc, hf⟩ := S0.out.cp; clear h0; go_enter Tryz.func95, Tryz.ntmps95; go_wp2_with fail; generalize w.alloc (.cells #[.int .i64 44, .int .i64 x, .int .i64 z, .int .i64 s, .int .u16 nn] 44) = w0 at S0 M0 HO hc hf ⊢; generalize w.heap.size = ob at HO NO ⊢; have ho := HO.out.2.1
 with_reducible refine (get_p S0.out (by omega) z).mono ?_
 rintro e w1 ⟨rfl, v1, s', m'⟩; replace HO := m'.two HO NO; clear ho NO; obtain ⟨HO, NO⟩ := HO; have ho := HO.out.2.1; have M1 := M0.tr m'; obtain ⟨y1, hy⟩ : ∃ q_, q_ = getS z y := ⟨_, rfl⟩; rw [← hy] at s'; have Y1 := Lib.hid hy; clear hc hf; obtain ⟨hc, hf⟩ := s'.cp; have S1 := Lib.hid s'; clear s' m' hy
 have hf1 : y1.s.r.f = y.s.r.f := by rw [Y1.out, getS_s]
 have HF := Lib.hid hf1; clear hf1; have fb1 := S1.out.fb; go_wp2; have S1' := Lib.hid S1.out.drew; have M1' := Lib.hid (M1.out.trans (PM.drew P R M tb v1 w1)); clear hc hf; obtain ⟨hc, hf⟩ := S1'.out.cp; have HO' := Lib.hid HO.out.drew; clear ho HO; have HO := HO'; clear HO'; have ho := HO.out.2.1
 refine wp_region_still_tail 15 (by kernel_rfl) (by kernel_rfl) ?_
 simp only [List.take_succ_cons, List.take_zero, List.drop_succ_cons, List.drop_zero]
 repeat still_step
 still_call (sm (Alu.bit_c x (getY z y) y1.s.r.f gb.1 gb.2 fb1.1 fb1.2 _))
 repeat still_step
 try refine wpStill_nil ?_
 change wpList _ _ _ _ _ (World.drew w1)
 generalize World.drew w1 = u1 at hc hf S1' M1' HO ho ⊢; clear S1 M1; have S1 := S1'; have M1 := M1'; clear S1' M1'; have Q := Lib.hid (S1.out.stF (Alu.bitF x (getY z y) y1.s.r.f) (Alu.FL_b _ _ _ _).1 (Alu.FL_b _ _ _ _).2); go_wp2
 go_end0
 refine ⟨rfl, v1, ?_, M1.out.trans Q.out.2⟩
 have q := Q.out.1
 have e : setF (Alu.bitF x (getY z y) y.s.r.f) (getS z y) = setF (Alu.bitF x (getY z y) y1.s.r.f) y1 := by rw [HF.out, Y1.out]
 rw [e]
 exact q.mo
theorem pre_45_0 (h0 : Sys procD ramC w P R M tb v y n) (hn : n < 970000) (z s nn : Int) : Calls Tryz.prog 95 #[.pointer (some ⟨P, 0, none⟩), .agg #[.int .i64 45, .int .i64 0, .int .i64 z, .int .i64 s, .int .u16 nn]] w (PE procD ramC P R M tb v w (.tuple #[]) (putS z (clr (getY z y) 0) (getS z y)) (n + 2)) := by
 have gb := h0.getb z; have hx : bits .andNot .u8 (getY z y) 1 = clr (getY z y) 0 := andNot8 (getY z y) gb.1 gb.2 0 (by decide); have hb := bits_b .andNot (getY z y) 1; rw [hx] at hb; obtain ⟨S0, M0, HO, NO⟩ := h0.beg #[.int .i64 45, .int .i64 0, .int .i64 z, .int .i64 s, .int .u16 nn] 44; obtain ⟨hc, hf⟩ := S0.out.cp; clear h0; go_enter Tryz.func95, Tryz.ntmps95; go_wp2_with fail; generalize w.alloc (.cells #[.int .i64 45, .int .i64 0, .int .i64 z, .int .i64 s, .int .u16 nn] 44) = w0 at S0 M0 HO hc hf ⊢; generalize w.heap.size = ob at HO NO ⊢; have ho := HO.out.2.1
 with_reducible refine (get_p S0.out (by omega) z).mono ?_
 rintro e w1 ⟨rfl, v1, s', m'⟩; replace HO := m'.two HO NO; clear ho NO; obtain ⟨HO, NO⟩ := HO; have ho := HO.out.2.1; have M1 := M0.tr m'; obtain ⟨y1, hy⟩ : ∃ q_, q_ = getS z y := ⟨_, rfl⟩; rw [← hy] at s'; have Y1 := Lib.hid hy; clear hc hf; obtain ⟨hc, hf⟩ := s'.cp; have S1 := Lib.hid s'; clear s' m' hy; go_wp2; have S1' := Lib.hid S1.out.drew; have M1' := Lib.hid (M1.out.trans (PM.drew P R M tb v1 w1)); clear hc hf; obtain ⟨hc, hf⟩ := S1'.out.cp; have HO' := Lib.hid HO.out.drew; clear ho HO; have HO := HO'; clear HO'; have ho := HO.out.2.1
 go_still_tail 8, (by kernel_rfl)
 change wpList _ _ _ _ _ (World.drew w1)
 generalize World.drew w1 = u1 at hc hf S1' M1' HO ho ⊢; clear S1 M1; have S1 := S1'; have M1 := M1'; clear S1' M1'; go_wp2_with fail; rw [hx]
 with_reducible refine (set_p S1.out (by omega) z (clr (getY z y) 0) hb.1 hb.2).mono ?_
 rintro e w2 ⟨rfl, v2, s', m'⟩; replace HO := m'.two HO NO; clear ho NO; obtain ⟨HO, NO⟩ := HO; have ho := HO.out.2.1; have M2 := M1.tr m'; obtain ⟨y2, hy⟩ : ∃ q_, q_ = putS z (clr (getY z y) 0) y1 := ⟨_, rfl⟩; rw [← hy] at s'; have Y2 := Lib.hid hy; clear hc hf; obtain ⟨hc, hf⟩ := s'.cp; have S2 := Lib.hid s'; clear s' m' hy; go_wp2
 go_end0
 refine ⟨rfl, v2, ?_, M2.out⟩
 have q := S2.out; have e := Y2.out.symm; subst e; have e := Y1.out.symm; subst e
 exact q.mo
theorem pre_45_1 (h0 : Sys procD ramC w P R M tb v y n) (hn : n < 970000) (z s nn : Int) : Calls Tryz.prog 95 #[.pointer (some ⟨P, 0, none⟩), .agg #[.int .i64 45, .int .i64 1, .int .i64 z, .int .i64 s, .int .u16 nn]] w (PE procD ramC P R M tb v w (.tuple #[]) (putS z (clr (getY z y) 1) (getS z y)) (n + 2)) := by
 have gb := h0.getb z; have hx : bits .andNot .u8 (getY z y) 2 = clr (getY z y) 1 := andNot8 (getY z y) gb.1 gb.2 1 (by decide); have hb := bits_b .andNot (getY z y) 2; rw [hx] at hb; obtain ⟨S0, M0, HO, NO⟩ := h0.beg #[.int .i64 45, .int .i64 1, .int .i64 z, .int .i64 s, .int .u16 nn] 44; obtain ⟨hc, hf⟩ := S0.out.cp; clear h0; go_enter Tryz.func95, Tryz.ntmps95; go_wp2_with fail; generalize w.alloc (.cells #[.int .i64 45, .int .i64 1, .int .i64 z, .int .i64 s, .int .u16 nn] 44) = w0 at S0 M0 HO hc hf ⊢; generalize w.heap.size = ob at HO NO ⊢; have ho := HO.out.2.1
 with_reducible refine (get_p S0.out (by omega) z).mono ?_
 rintro e w1 ⟨rfl, v1, s', m'⟩; replace HO := m'.two HO NO; clear ho NO; obtain ⟨HO, NO⟩ := HO; have ho := HO.out.2.1; have M1 := M0.tr m'; obtain ⟨y1, hy⟩ : ∃ q_, q_ = getS z y := ⟨_, rfl⟩; rw [← hy] at s'; have Y1 := Lib.hid hy; clear hc hf; obtain ⟨hc, hf⟩ := s'.cp; have S1 := Lib.hid s'; clear s' m' hy; go_wp2; have S1' := Lib.hid S1.out.drew; have M1' := Lib.hid (M1.out.trans (PM.drew P R M tb v1 w1)); clear hc hf; obtain ⟨hc, hf⟩ := S1'.out.cp; have HO' := Lib.hid HO.out.drew; clear ho HO; have HO := HO'; clear HO'; have ho := HO.out.2.1
 go_still_tail 8, (by kernel_rfl)
 change wpList _ _ _ _ _ (World.drew w1)
 generalize World.drew w1 = u1 at hc hf S1' M1' HO ho ⊢; clear S1 M1; have S1 := S1'; have M1 := M1'; clear S1' M1'; go_wp2_with fail; rw [hx]
 with_reducible refine (set_p S1.out (by omega) z (clr (getY z y) 1) hb.1 hb.2).mono ?_
 rintro e w2 ⟨rfl, v2, s', m'⟩; replace HO := m'.two HO NO; clear ho NO; obtain ⟨HO, NO⟩ := HO; have ho := HO.out.2.1; have M2 := M1.tr m'; obtain ⟨y2, hy⟩ : ∃ q_, q_ = putS z (clr (getY z y) 1) y1 := ⟨_, rfl⟩; rw [← hy] at s'; have Y2 := Lib.hid hy; clear hc hf; obtain ⟨hc, hf⟩ := s'.cp; have S2 := Lib.hid s'; clear s' m' hy; go_wp2
 go_end0
 refine ⟨rfl, v2, ?_, M2.out⟩
 have q := S2.out; have e := Y2.out.symm; subst e; have e := Y1.out.symm; subst e
 exact q.mo
theorem pre_45_2 (h0 : Sys procD ramC w P R M tb v y n) (hn : n < 970000) (z s nn : Int) : Calls Tryz.prog 95 #[.pointer (some ⟨P, 0, none⟩), .agg #[.int .i64 45, .int .i64 2, .int .i64 z, .int .i64 s, .int .u16 nn]] w (PE procD ramC P R M tb v w (.tuple #[]) (putS z (clr (getY z y) 2) (getS z y)) (n + 2)) := by
 have gb := h0.getb z; have hx : bits .andNot .u8 (getY z y) 4 = clr (getY z y) 2 := andNot8 (getY z y) gb.1 gb.2 2 (by decide); have hb := bits_b .andNot (getY z y) 4; rw [hx] at hb; obtain ⟨S0, M0, HO, NO⟩ := h0.beg #[.int .i64 45, .int .i64 2, .int .i64 z, .int .i64 s, .int .u16 nn] 44; obtain ⟨hc, hf⟩ := S0.out.cp; clear h0; go_enter Tryz.func95, Tryz.ntmps95; go_wp2_with fail; generalize w.alloc (.cells #[.int .i64 45, .int .i64 2, .int .i64 z, .int .i64 s, .int .u16 nn] 44) = w0 at S0 M0 HO hc hf ⊢; generalize w.heap.size = ob at HO NO ⊢; have ho := HO.out.2.1
 with_reducible refine (get_p S0.out (by omega) z).mono ?_
 rintro e w1 ⟨rfl, v1, s', m'⟩; replace HO := m'.two HO NO; clear ho NO; obtain ⟨HO, NO⟩ := HO; have ho := HO.out.2.1; have M1 := M0.tr m'; obtain ⟨y1, hy⟩ : ∃ q_, q_ = getS z y := ⟨_, rfl⟩; rw [← hy] at s'; have Y1 := Lib.hid hy; clear hc hf; obtain ⟨hc, hf⟩ := s'.cp; have S1 := Lib.hid s'; clear s' m' hy; go_wp2; have S1' := Lib.hid S1.out.drew; have M1' := Lib.hid (M1.out.trans (PM.drew P R M tb v1 w1)); clear hc hf; obtain ⟨hc, hf⟩ := S1'.out.cp; have HO' := Lib.hid HO.out.drew; clear ho HO; have HO := HO'; clear HO'; have ho := HO.out.2.1
 go_still_tail 8, (by kernel_rfl)
 change wpList _ _ _ _ _ (World.drew w1)
 generalize World.drew w1 = u1 at hc hf S1' M1' HO ho ⊢; clear S1 M1; have S1 := S1'; have M1 := M1'; clear S1' M1'; go_wp2_with fail; rw [hx]
 with_reducible refine (set_p S1.out (by omega) z (clr (getY z y) 2) hb.1 hb.2).mono ?_
 rintro e w2 ⟨rfl, v2, s', m'⟩; replace HO := m'.two HO NO; clear ho NO; obtain ⟨HO, NO⟩ := HO; have ho := HO.out.2.1; have M2 := M1.tr m'; obtain ⟨y2, hy⟩ : ∃ q_, q_ = putS z (clr (getY z y) 2) y1 := ⟨_, rfl⟩; rw [← hy] at s'; have Y2 := Lib.hid hy; clear hc hf; obtain ⟨hc, hf⟩ := s'.cp; have S2 := Lib.hid s'; clear s' m' hy; go_wp2
 go_end0
 refine ⟨rfl, v2, ?_, M2.out⟩
 have q := S2.out; have e := Y2.out.symm; subst e; have e := Y1.out.symm; subst e
 exact q.mo
theorem pre_45_3 (h0 : Sys procD ramC w P R M tb v y n) (hn : n < 970000) (z s nn : Int) : Calls Tryz.prog 95 #[.pointer (some ⟨P, 0, none⟩), .agg #[.int .i64 45, .int .i64 3, .int .i64 z, .int .i64 s, .int .u16 nn]] w (PE procD ramC P R M tb v w (.tuple #[]) (putS z (clr (getY z y) 3) (getS z y)) (n + 2)) := by
 have gb := h0.getb z; have hx : bits .andNot .u8 (getY z y) 8 = clr (getY z y) 3 := andNot8 (getY z y) gb.1 gb.2 3 (by decide); have hb := bits_b .andNot (getY z y) 8; rw [hx] at hb; obtain ⟨S0, M0, HO, NO⟩ := h0.beg #[.int .i64 45, .int .i64 3, .int .i64 z, .int .i64 s, .int .u16 nn] 44; obtain ⟨hc, hf⟩ := S0.out.cp; clear h0; go_enter Tryz.func95, Tryz.ntmps95; go_wp2_with fail; generalize w.alloc (.cells #[.int .i64 45, .int .i64 3, .int .i64 z, .int .i64 s, .int .u16 nn] 44) = w0 at S0 M0 HO hc hf ⊢; generalize w.heap.size = ob at HO NO ⊢; have ho := HO.out.2.1
 with_reducible refine (get_p S0.out (by omega) z).mono ?_
 rintro e w1 ⟨rfl, v1, s', m'⟩; replace HO := m'.two HO NO; clear ho NO; obtain ⟨HO, NO⟩ := HO; have ho := HO.out.2.1; have M1 := M0.tr m'; obtain ⟨y1, hy⟩ : ∃ q_, q_ = getS z y := ⟨_, rfl⟩; rw [← hy] at s'; have Y1 := Lib.hid hy; clear hc hf; obtain ⟨hc, hf⟩ := s'.cp; have S1 := Lib.hid s'; clear s' m' hy; go_wp2; have S1' := Lib.hid S1.out.drew; have M1' := Lib.hid (M1.out.trans (PM.drew P R M tb v1 w1)); clear hc hf; obtain ⟨hc, hf⟩ := S1'.out.cp; have HO' := Lib.hid HO.out.drew; clear ho HO; have HO := HO'; clear HO'; have ho := HO.out.2.1
 go_still_tail 8, (by kernel_rfl)
 change wpList _ _ _ _ _ (World.drew w1)
 generalize World.drew w1 = u1 at hc hf S1' M1' HO ho ⊢; clear S1 M1; have S1 := S1'; have M1 := M1'; clear S1' M1'; go_wp2_with fail; rw [hx]
 with_reducible refine (set_p S1.out (by omega) z (clr (getY z y) 3) hb.1 hb.2).mono ?_
 rintro e w2 ⟨rfl, v2, s', m'⟩; replace HO := m'.two HO NO; clear ho NO; obtain ⟨HO, NO⟩ := HO; have ho := HO.out.2.1; have M2 := M1.tr m'; obtain ⟨y2, hy⟩ : ∃ q_, q_ = putS z (clr (getY z y) 3) y1 := ⟨_, rfl⟩; rw [← hy] at s'; have Y2 := Lib.hid hy; clear hc hf; obtain ⟨hc, hf⟩ := s'.cp; have S2 := Lib.hid s'; clear s' m' hy; go_wp2
 go_end0
 refine ⟨rfl, v2, ?_, M2.out⟩
 have q := S2.out; have e := Y2.out.symm; subst e; have e := Y1.out.symm; subst e
 exact q.mo
theorem pre_45_4 (h0 : Sys procD ramC w P R M tb v y n) (hn : n < 970000) (z s nn : Int) : Calls Tryz.prog 95 #[.pointer (some ⟨P, 0, none⟩), .agg #[.int .i64 45, .int .i64 4, .int .i64 z, .int .i64 s, .int .u16 nn]] w (PE procD ramC P R M tb v w (.tuple #[]) (putS z (clr (getY z y) 4) (getS z y)) (n + 2)) := by
 have gb := h0.getb z; have hx : bits .andNot .u8 (getY z y) 16 = clr (getY z y) 4 := andNot8 (getY z y) gb.1 gb.2 4 (by decide); have hb := bits_b .andNot (getY z y) 16; rw [hx] at hb; obtain ⟨S0, M0, HO, NO⟩ := h0.beg #[.int .i64 45, .int .i64 4, .int .i64 z, .int .i64 s, .int .u16 nn] 44; obtain ⟨hc, hf⟩ := S0.out.cp; clear h0; go_enter Tryz.func95, Tryz.ntmps95; go_wp2_with fail; generalize w.alloc (.cells #[.int .i64 45, .int .i64 4, .int .i64 z, .int .i64 s, .int .u16 nn] 44) = w0 at S0 M0 HO hc hf ⊢; generalize w.heap.size = ob at HO NO ⊢; have ho := HO.out.2.1
 with_reducible refine (get_p S0.out (by omega) z).mono ?_
 rintro e w1 ⟨rfl, v1, s', m'⟩; replace HO := m'.two HO NO; clear ho NO; obtain ⟨HO, NO⟩ := HO; have ho := HO.out.2.1; have M1 := M0.tr m'; obtain ⟨y1, hy⟩ : ∃ q_, q_ = getS z y := ⟨_, rfl⟩; rw [← hy] at s'; have Y1 := Lib.hid hy; clear hc hf; obtain ⟨hc, hf⟩ := s'.cp; have S1 := Lib.hid s'; clear s' m' hy; go_wp2; have S1' := Lib.hid S1.out.drew; have M1' := Lib.hid (M1.out.trans (PM.drew P R M tb v1 w1)); clear hc hf; obtain ⟨hc, hf⟩ := S1'.out.cp; have HO' := Lib.hid HO.out.drew; clear ho HO; have HO := HO'; clear HO'; have ho := HO.out.2.1
 go_still_tail 8, (by kernel_rfl)
 change wpList _ _ _ _ _ (World.drew w1)
 generalize World.drew w1 = u1 at hc hf S1' M1' HO ho ⊢; clear S1 M1; have S1 := S1'; have M1 := M1'; clear S1' M1'; go_wp2_with fail; rw [hx]
 with_reducible refine (set_p S1.out (by omega) z (clr (getY z y) 4) hb.1 hb.2).mono ?_
 rintro e w2 ⟨rfl, v2, s', m'⟩; replace HO := m'.two HO NO; clear ho NO; obtain ⟨HO, NO⟩ := HO; have ho := HO.out.2.1; have M2 := M1.tr m'; obtain ⟨y2, hy⟩ : ∃ q_, q_ = putS z (clr (getY z y) 4) y1 := ⟨_, rfl⟩; rw [← hy] at s'; have Y2 := Lib.hid hy; clear hc hf; obtain ⟨hc, hf⟩ := s'.cp; have S2 := Lib.hid s'; clear s' m' hy; go_wp2
 go_end0
 refine ⟨rfl, v2, ?_, M2.out⟩
 have q := S2.out; have e := Y2.out.symm; subst e; have e := Y1.out.symm; subst e
 exact q.mo
theorem pre_45_5 (h0 : Sys procD ramC w P R M tb v y n) (hn : n < 970000) (z s nn : Int) : Calls Tryz.prog 95 #[.pointer (some ⟨P, 0, none⟩), .agg #[.int .i64 45, .int .i64 5, .int .i64 z, .int .i64 s, .int .u16 nn]] w (PE procD ramC P R M tb v w (.tuple #[]) (putS z (clr (getY z y) 5) (getS z y)) (n + 2)) := by
 have gb := h0.getb z; have hx : bits .andNot .u8 (getY z y) 32 = clr (getY z y) 5 := andNot8 (getY z y) gb.1 gb.2 5 (by decide); have hb := bits_b .andNot (getY z y) 32; rw [hx] at hb; obtain ⟨S0, M0, HO, NO⟩ := h0.beg #[.int .i64 45, .int .i64 5, .int .i64 z, .int .i64 s, .int .u16 nn] 44; obtain ⟨hc, hf⟩ := S0.out.cp; clear h0; go_enter Tryz.func95, Tryz.ntmps95; go_wp2_with fail; generalize w.alloc (.cells #[.int .i64 45, .int .i64 5, .int .i64 z, .int .i64 s, .int .u16 nn] 44) = w0 at S0 M0 HO hc hf ⊢; generalize w.heap.size = ob at HO NO ⊢; have ho := HO.out.2.1
 with_reducible refine (get_p S0.out (by omega) z).mono ?_
 rintro e w1 ⟨rfl, v1, s', m'⟩; replace HO := m'.two HO NO; clear ho NO; obtain ⟨HO, NO⟩ := HO; have ho := HO.out.2.1; have M1 := M0.tr m'; obtain ⟨y1, hy⟩ : ∃ q_, q_ = getS z y := ⟨_, rfl⟩; rw [← hy] at s'; have Y1 := Lib.hid hy; clear hc hf; obtain ⟨hc, hf⟩ := s'.cp; have S1 := Lib.hid s'; clear s' m' hy; go_wp2; have S1' := Lib.hid S1.out.drew; have M1' := Lib.hid (M1.out.trans (PM.drew P R M tb v1 w1)); clear hc hf; obtain ⟨hc, hf⟩ := S1'.out.cp; have HO' := Lib.hid HO.out.drew; clear ho HO; have HO := HO'; clear HO'; have ho := HO.out.2.1
 go_still_tail 8, (by kernel_rfl)
 change wpList _ _ _ _ _ (World.drew w1)
 generalize World.drew w1 = u1 at hc hf S1' M1' HO ho ⊢; clear S1 M1; have S1 := S1'; have M1 := M1'; clear S1' M1'; go_wp2_with fail; rw [hx]
 with_reducible refine (set_p S1.out (by omega) z (clr (getY z y) 5) hb.1 hb.2).mono ?_
 rintro e w2 ⟨rfl, v2, s', m'⟩; replace HO := m'.two HO NO; clear ho NO; obtain ⟨HO, NO⟩ := HO; have ho := HO.out.2.1; have M2 := M1.tr m'; obtain ⟨y2, hy⟩ : ∃ q_, q_ = putS z (clr (getY z y) 5) y1 := ⟨_, rfl⟩; rw [← hy] at s'; have Y2 := Lib.hid hy; clear hc hf; obtain ⟨hc, hf⟩ := s'.cp; have S2 := Lib.hid s'; clear s' m' hy; go_wp2
 go_end0
 refine ⟨rfl, v2, ?_, M2.out⟩
 have q := S2.out; have e := Y2.out.symm; subst e; have e := Y1.out.symm; subst e
 exact q.mo
theorem pre_45_6 (h0 : Sys procD ramC w P R M tb v y n) (hn : n < 970000) (z s nn : Int) : Calls Tryz.prog 95 #[.pointer (some ⟨P, 0, none⟩), .agg #[.int .i64 45, .int .i64 6, .int .i64 z, .int .i64 s, .int .u16 nn]] w (PE procD ramC P R M tb v w (.tuple #[]) (putS z (clr (getY z y) 6) (getS z y)) (n + 2)) := by
 have gb := h0.getb z; have hx : bits .andNot .u8 (getY z y) 64 = clr (getY z y) 6 := andNot8 (getY z y) gb.1 gb.2 6 (by decide); have hb := bits_b .andNot (getY z y) 64; rw [hx] at hb; obtain ⟨S0, M0, HO, NO⟩ := h0.beg #[.int .i64 45, .int .i64 6, .int .i64 z, .int .i64 s, .int .u16 nn] 44; obtain ⟨hc, hf⟩ := S0.out.cp; clear h0; go_enter Tryz.func95, Tryz.ntmps95; go_wp2_with fail; generalize w.alloc (.cells #[.int .i64 45, .int .i64 6, .int .i64 z, .int .i64 s, .int .u16 nn] 44) = w0 at S0 M0 HO hc hf ⊢; generalize w.heap.size = ob at HO NO ⊢; have ho := HO.out.2.1
 with_reducible refine (get_p S0.out (by omega) z).mono ?_
 rintro e w1 ⟨rfl, v1, s', m'⟩; replace HO := m'.two HO NO; clear ho NO; obtain ⟨HO, NO⟩ := HO; have ho := HO.out.2.1; have M1 := M0.tr m'; obtain ⟨y1, hy⟩ : ∃ q_, q_ = getS z y := ⟨_, rfl⟩; rw [← hy] at s'; have Y1 := Lib.hid hy; clear hc hf; obtain ⟨hc, hf⟩ := s'.cp; have S1 := Lib.hid s'; clear s' m' hy; go_wp2; have S1' := Lib.hid S1.out.drew; have M1' := Lib.hid (M1.out.trans (PM.drew P R M tb v1 w1)); clear hc hf; obtain ⟨hc, hf⟩ := S1'.out.cp; have HO' := Lib.hid HO.out.drew; clear ho HO; have HO := HO'; clear HO'; have ho := HO.out.2.1
 go_still_tail 8, (by kernel_rfl)
 change wpList _ _ _ _ _ (World.drew w1)
 generalize World.drew w1 = u1 at hc hf S1' M1' HO ho ⊢; clear S1 M1; have S1 := S1'; have M1 := M1'; clear S1' M1'; go_wp2_with fail; rw [hx]
 with_reducible refine (set_p S1.out (by omega) z (clr (getY z y) 6) hb.1 hb.2).mono ?_
 rintro e w2 ⟨rfl, v2, s', m'⟩; replace HO := m'.two HO NO; clear ho NO; obtain ⟨HO, NO⟩ := HO; have ho := HO.out.2.1; have M2 := M1.tr m'; obtain ⟨y2, hy⟩ : ∃ q_, q_ = putS z (clr (getY z y) 6) y1 := ⟨_, rfl⟩; rw [← hy] at s'; have Y2 := Lib.hid hy; clear hc hf; obtain ⟨hc, hf⟩ := s'.cp; have S2 := Lib.hid s'; clear s' m' hy; go_wp2
 go_end0
 refine ⟨rfl, v2, ?_, M2.out⟩
 have q := S2.out; have e := Y2.out.symm; subst e; have e := Y1.out.symm; subst e
 exact q.mo
theorem pre_45_7 (h0 : Sys procD ramC w P R M tb v y n) (hn : n < 970000) (z s nn : Int) : Calls Tryz.prog 95 #[.pointer (some ⟨P, 0, none⟩), .agg #[.int .i64 45, .int .i64 7, .int .i64 z, .int .i64 s, .int .u16 nn]] w (PE procD ramC P R M tb v w (.tuple #[]) (putS z (clr (getY z y) 7) (getS z y)) (n + 2)) := by
 have gb := h0.getb z; have hx : bits .andNot .u8 (getY z y) 128 = clr (getY z y) 7 := andNot8 (getY z y) gb.1 gb.2 7 (by decide); have hb := bits_b .andNot (getY z y) 128; rw [hx] at hb; obtain ⟨S0, M0, HO, NO⟩ := h0.beg #[.int .i64 45, .int .i64 7, .int .i64 z, .int .i64 s, .int .u16 nn] 44; obtain ⟨hc, hf⟩ := S0.out.cp; clear h0; go_enter Tryz.func95, Tryz.ntmps95; go_wp2_with fail; generalize w.alloc (.cells #[.int .i64 45, .int .i64 7, .int .i64 z, .int .i64 s, .int .u16 nn] 44) = w0 at S0 M0 HO hc hf ⊢; generalize w.heap.size = ob at HO NO ⊢; have ho := HO.out.2.1
 with_reducible refine (get_p S0.out (by omega) z).mono ?_
 rintro e w1 ⟨rfl, v1, s', m'⟩; replace HO := m'.two HO NO; clear ho NO; obtain ⟨HO, NO⟩ := HO; have ho := HO.out.2.1; have M1 := M0.tr m'; obtain ⟨y1, hy⟩ : ∃ q_, q_ = getS z y := ⟨_, rfl⟩; rw [← hy] at s'; have Y1 := Lib.hid hy; clear hc hf; obtain ⟨hc, hf⟩ := s'.cp; have S1 := Lib.hid s'; clear s' m' hy; go_wp2; have S1' := Lib.hid S1.out.drew; have M1' := Lib.hid (M1.out.trans (PM.drew P R M tb v1 w1)); clear hc hf; obtain ⟨hc, hf⟩ := S1'.out.cp; have HO' := Lib.hid HO.out.drew; clear ho HO; have HO := HO'; clear HO'; have ho := HO.out.2.1
 go_still_tail 8, (by kernel_rfl)
 change wpList _ _ _ _ _ (World.drew w1)
 generalize World.drew w1 = u1 at hc hf S1' M1' HO ho ⊢; clear S1 M1; have S1 := S1'; have M1 := M1'; clear S1' M1'; go_wp2_with fail; rw [hx]
 with_reducible refine (set_p S1.out (by omega) z (clr (getY z y) 7) hb.1 hb.2).mono ?_
 rintro e w2 ⟨rfl, v2, s', m'⟩; replace HO := m'.two HO NO; clear ho NO; obtain ⟨HO, NO⟩ := HO; have ho := HO.out.2.1; have M2 := M1.tr m'; obtain ⟨y2, hy⟩ : ∃ q_, q_ = putS z (clr (getY z y) 7) y1 := ⟨_, rfl⟩; rw [← hy] at s'; have Y2 := Lib.hid hy; clear hc hf; obtain ⟨hc, hf⟩ := s'.cp; have S2 := Lib.hid s'; clear s' m' hy; go_wp2
 go_end0
 refine ⟨rfl, v2, ?_, M2.out⟩
 have q := S2.out; have e := Y2.out.symm; subst e; have e := Y1.out.symm; subst e
 exact q.mo
theorem pre_45 (h0 : Sys procD ramC w P R M tb v y n) (hn : n < 970000) (x z s nn : Int) (x0 : 0 ≤ x) (x1 : x < 8) : Calls Tryz.prog 95 #[.pointer (some ⟨P, 0, none⟩), .agg #[.int .i64 45, .int .i64 x, .int .i64 z, .int .i64 s, .int .u16 nn]] w (PE procD ramC P R M tb v w (.tuple #[]) (putS z (clr (getY z y) x.toNat) (getS z y)) (n + 2)) := by
 rcases (by omega : x = 0 ∨ x = 1 ∨ x = 2 ∨ x = 3 ∨ x = 4 ∨ x = 5 ∨ x = 6 ∨ x = 7) with rfl | rfl | rfl | rfl | rfl | rfl | rfl | rfl
 ·exact pre_45_0 h0 hn z s nn
 ·exact pre_45_1 h0 hn z s nn
 ·exact pre_45_2 h0 hn z s nn
 ·exact pre_45_3 h0 hn z s nn
 ·exact pre_45_4 h0 hn z s nn
 ·exact pre_45_5 h0 hn z s nn
 ·exact pre_45_6 h0 hn z s nn
 ·exact pre_45_7 h0 hn z s nn
theorem pre_46_0 (h0 : Sys procD ramC w P R M tb v y n) (hn : n < 970000) (z s nn : Int) : Calls Tryz.prog 95 #[.pointer (some ⟨P, 0, none⟩), .agg #[.int .i64 46, .int .i64 0, .int .i64 z, .int .i64 s, .int .u16 nn]] w (PE procD ramC P R M tb v w (.tuple #[]) (putS z (put (getY z y) 0) (getS z y)) (n + 2)) := by
 have gb := h0.getb z; have hx : bits .or .u8 (getY z y) 1 = put (getY z y) 0 := or8 (getY z y) gb.1 gb.2 0 (by decide); have hb := bits_b .or (getY z y) 1; rw [hx] at hb; obtain ⟨S0, M0, HO, NO⟩ := h0.beg #[.int .i64 46, .int .i64 0, .int .i64 z, .int .i64 s, .int .u16 nn] 44; obtain ⟨hc, hf⟩ := S0.out.cp; clear h0; go_enter Tryz.func95, Tryz.ntmps95; go_wp2_with fail; generalize w.alloc (.cells #[.int .i64 46, .int .i64 0, .int .i64 z, .int .i64 s, .int .u16 nn] 44) = w0 at S0 M0 HO hc hf ⊢; generalize w.heap.size = ob at HO NO ⊢; have ho := HO.out.2.1
 with_reducible refine (get_p S0.out (by omega) z).mono ?_
 rintro e w1 ⟨rfl, v1, s', m'⟩; replace HO := m'.two HO NO; clear ho NO; obtain ⟨HO, NO⟩ := HO; have ho := HO.out.2.1; have M1 := M0.tr m'; obtain ⟨y1, hy⟩ : ∃ q_, q_ = getS z y := ⟨_, rfl⟩; rw [← hy] at s'; have Y1 := Lib.hid hy; clear hc hf; obtain ⟨hc, hf⟩ := s'.cp; have S1 := Lib.hid s'; clear s' m' hy; go_wp2; have S1' := Lib.hid S1.out.drew; have M1' := Lib.hid (M1.out.trans (PM.drew P R M tb v1 w1)); clear hc hf; obtain ⟨hc, hf⟩ := S1'.out.cp; have HO' := Lib.hid HO.out.drew; clear ho HO; have HO := HO'; clear HO'; have ho := HO.out.2.1
 go_still_tail 8, (by kernel_rfl)
 change wpList _ _ _ _ _ (World.drew w1)
 generalize World.drew w1 = u1 at hc hf S1' M1' HO ho ⊢; clear S1 M1; have S1 := S1'; have M1 := M1'; clear S1' M1'; go_wp2_with fail; rw [hx]
 with_reducible refine (set_p S1.out (by omega) z (put (getY z y) 0) hb.1 hb.2).mono ?_
 rintro e w2 ⟨rfl, v2, s', m'⟩; replace HO := m'.two HO NO; clear ho NO; obtain ⟨HO, NO⟩ := HO; have ho := HO.out.2.1; have M2 := M1.tr m'; obtain ⟨y2, hy⟩ : ∃ q_, q_ = putS z (put (getY z y) 0) y1 := ⟨_, rfl⟩; rw [← hy] at s'; have Y2 := Lib.hid hy; clear hc hf; obtain ⟨hc, hf⟩ := s'.cp; have S2 := Lib.hid s'; clear s' m' hy; go_wp2
 go_end0
 refine ⟨rfl, v2, ?_, M2.out⟩
 have q := S2.out; have e := Y2.out.symm; subst e; have e := Y1.out.symm; subst e
 exact q.mo
theorem pre_46_1 (h0 : Sys procD ramC w P R M tb v y n) (hn : n < 970000) (z s nn : Int) : Calls Tryz.prog 95 #[.pointer (some ⟨P, 0, none⟩), .agg #[.int .i64 46, .int .i64 1, .int .i64 z, .int .i64 s, .int .u16 nn]] w (PE procD ramC P R M tb v w (.tuple #[]) (putS z (put (getY z y) 1) (getS z y)) (n + 2)) := by
 have gb := h0.getb z; have hx : bits .or .u8 (getY z y) 2 = put (getY z y) 1 := or8 (getY z y) gb.1 gb.2 1 (by decide); have hb := bits_b .or (getY z y) 2; rw [hx] at hb; obtain ⟨S0, M0, HO, NO⟩ := h0.beg #[.int .i64 46, .int .i64 1, .int .i64 z, .int .i64 s, .int .u16 nn] 44; obtain ⟨hc, hf⟩ := S0.out.cp; clear h0; go_enter Tryz.func95, Tryz.ntmps95; go_wp2_with fail; generalize w.alloc (.cells #[.int .i64 46, .int .i64 1, .int .i64 z, .int .i64 s, .int .u16 nn] 44) = w0 at S0 M0 HO hc hf ⊢; generalize w.heap.size = ob at HO NO ⊢; have ho := HO.out.2.1
 with_reducible refine (get_p S0.out (by omega) z).mono ?_
 rintro e w1 ⟨rfl, v1, s', m'⟩; replace HO := m'.two HO NO; clear ho NO; obtain ⟨HO, NO⟩ := HO; have ho := HO.out.2.1; have M1 := M0.tr m'; obtain ⟨y1, hy⟩ : ∃ q_, q_ = getS z y := ⟨_, rfl⟩; rw [← hy] at s'; have Y1 := Lib.hid hy; clear hc hf; obtain ⟨hc, hf⟩ := s'.cp; have S1 := Lib.hid s'; clear s' m' hy; go_wp2; have S1' := Lib.hid S1.out.drew; have M1' := Lib.hid (M1.out.trans (PM.drew P R M tb v1 w1)); clear hc hf; obtain ⟨hc, hf⟩ := S1'.out.cp; have HO' := Lib.hid HO.out.drew; clear ho HO; have HO := HO'; clear HO'; have ho := HO.out.2.1
 go_still_tail 8, (by kernel_rfl)
 change wpList _ _ _ _ _ (World.drew w1)
 generalize World.drew w1 = u1 at hc hf S1' M1' HO ho ⊢; clear S1 M1; have S1 := S1'; have M1 := M1'; clear S1' M1'; go_wp2_with fail; rw [hx]
 with_reducible refine (set_p S1.out (by omega) z (put (getY z y) 1) hb.1 hb.2).mono ?_
 rintro e w2 ⟨rfl, v2, s', m'⟩; replace HO := m'.two HO NO; clear ho NO; obtain ⟨HO, NO⟩ := HO; have ho := HO.out.2.1; have M2 := M1.tr m'; obtain ⟨y2, hy⟩ : ∃ q_, q_ = putS z (put (getY z y) 1) y1 := ⟨_, rfl⟩; rw [← hy] at s'; have Y2 := Lib.hid hy; clear hc hf; obtain ⟨hc, hf⟩ := s'.cp; have S2 := Lib.hid s'; clear s' m' hy; go_wp2
 go_end0
 refine ⟨rfl, v2, ?_, M2.out⟩
 have q := S2.out; have e := Y2.out.symm; subst e; have e := Y1.out.symm; subst e
 exact q.mo
theorem pre_46_2 (h0 : Sys procD ramC w P R M tb v y n) (hn : n < 970000) (z s nn : Int) : Calls Tryz.prog 95 #[.pointer (some ⟨P, 0, none⟩), .agg #[.int .i64 46, .int .i64 2, .int .i64 z, .int .i64 s, .int .u16 nn]] w (PE procD ramC P R M tb v w (.tuple #[]) (putS z (put (getY z y) 2) (getS z y)) (n + 2)) := by
 have gb := h0.getb z; have hx : bits .or .u8 (getY z y) 4 = put (getY z y) 2 := or8 (getY z y) gb.1 gb.2 2 (by decide); have hb := bits_b .or (getY z y) 4; rw [hx] at hb; obtain ⟨S0, M0, HO, NO⟩ := h0.beg #[.int .i64 46, .int .i64 2, .int .i64 z, .int .i64 s, .int .u16 nn] 44; obtain ⟨hc, hf⟩ := S0.out.cp; clear h0; go_enter Tryz.func95, Tryz.ntmps95; go_wp2_with fail; generalize w.alloc (.cells #[.int .i64 46, .int .i64 2, .int .i64 z, .int .i64 s, .int .u16 nn] 44) = w0 at S0 M0 HO hc hf ⊢; generalize w.heap.size = ob at HO NO ⊢; have ho := HO.out.2.1
 with_reducible refine (get_p S0.out (by omega) z).mono ?_
 rintro e w1 ⟨rfl, v1, s', m'⟩; replace HO := m'.two HO NO; clear ho NO; obtain ⟨HO, NO⟩ := HO; have ho := HO.out.2.1; have M1 := M0.tr m'; obtain ⟨y1, hy⟩ : ∃ q_, q_ = getS z y := ⟨_, rfl⟩; rw [← hy] at s'; have Y1 := Lib.hid hy; clear hc hf; obtain ⟨hc, hf⟩ := s'.cp; have S1 := Lib.hid s'; clear s' m' hy; go_wp2; have S1' := Lib.hid S1.out.drew; have M1' := Lib.hid (M1.out.trans (PM.drew P R M tb v1 w1)); clear hc hf; obtain ⟨hc, hf⟩ := S1'.out.cp; have HO' := Lib.hid HO.out.drew; clear ho HO; have HO := HO'; clear HO'; have ho := HO.out.2.1
 go_still_tail 8, (by kernel_rfl)
 change wpList _ _ _ _ _ (World.drew w1)
 generalize World.drew w1 = u1 at hc hf S1' M1' HO ho ⊢; clear S1 M1; have S1 := S1'; have M1 := M1'; clear S1' M1'; go_wp2_with fail; rw [hx]
 with_reducible refine (set_p S1.out (by omega) z (put (getY z y) 2) hb.1 hb.2).mono ?_
 rintro e w2 ⟨rfl, v2, s', m'⟩; replace HO := m'.two HO NO; clear ho NO; obtain ⟨HO, NO⟩ := HO; have ho := HO.out.2.1; have M2 := M1.tr m'; obtain ⟨y2, hy⟩ : ∃ q_, q_ = putS z (put (getY z y) 2) y1 := ⟨_, rfl⟩; rw [← hy] at s'; have Y2 := Lib.hid hy; clear hc hf; obtain ⟨hc, hf⟩ := s'.cp; have S2 := Lib.hid s'; clear s' m' hy; go_wp2
 go_end0
 refine ⟨rfl, v2, ?_, M2.out⟩
 have q := S2.out; have e := Y2.out.symm; subst e; have e := Y1.out.symm; subst e
 exact q.mo
theorem pre_46_3 (h0 : Sys procD ramC w P R M tb v y n) (hn : n < 970000) (z s nn : Int) : Calls Tryz.prog 95 #[.pointer (some ⟨P, 0, none⟩), .agg #[.int .i64 46, .int .i64 3, .int .i64 z, .int .i64 s, .int .u16 nn]] w (PE procD ramC P R M tb v w (.tuple #[]) (putS z (put (getY z y) 3) (getS z y)) (n + 2)) := by
 have gb := h0.getb z; have hx : bits .or .u8 (getY z y) 8 = put (getY z y) 3 := or8 (getY z y) gb.1 gb.2 3 (by decide); have hb := bits_b .or (getY z y) 8; rw [hx] at hb; obtain ⟨S0, M0, HO, NO⟩ := h0.beg #[.int .i64 46, .int .i64 3, .int .i64 z, .int .i64 s, .int .u16 nn] 44; obtain ⟨hc, hf⟩ := S0.out.cp; clear h0; go_enter Tryz.func95, Tryz.ntmps95; go_wp2_with fail; generalize w.alloc (.cells #[.int .i64 46, .int .i64 3, .int .i64 z, .int .i64 s, .int .u16 nn] 44) = w0 at S0 M0 HO hc hf ⊢; generalize w.heap.size = ob at HO NO ⊢; have ho := HO.out.2.1
 with_reducible refine (get_p S0.out (by omega) z).mono ?_
 rintro e w1 ⟨rfl, v1, s', m'⟩; replace HO := m'.two HO NO; clear ho NO; obtain ⟨HO, NO⟩ := HO; have ho := HO.out.2.1; have M1 := M0.tr m'; obtain ⟨y1, hy⟩ : ∃ q_, q_ = getS z y := ⟨_, rfl⟩; rw [← hy] at s'; have Y1 := Lib.hid hy; clear hc hf; obtain ⟨hc, hf⟩ := s'.cp; have S1 := Lib.hid s'; clear s' m' hy; go_wp2; have S1' := Lib.hid S1.out.drew; have M1' := Lib.hid (M1.out.trans (PM.drew P R M tb v1 w1)); clear hc hf; obtain ⟨hc, hf⟩ := S1'.out.cp; have HO' := Lib.hid HO.out.drew; clear ho HO; have HO := HO'; clear HO'; have ho := HO.out.2.1
 go_still_tail 8, (by kernel_rfl)
 change wpList _ _ _ _ _ (World.drew w1)
 generalize World.drew w1 = u1 at hc hf S1' M1' HO ho ⊢; clear S1 M1; have S1 := S1'; have M1 := M1'; clear S1' M1'; go_wp2_with fail; rw [hx]
 with_reducible refine (set_p S1.out (by omega) z (put (getY z y) 3) hb.1 hb.2).mono ?_
 rintro e w2 ⟨rfl, v2, s', m'⟩; replace HO := m'.two HO NO; clear ho NO; obtain ⟨HO, NO⟩ := HO; have ho := HO.out.2.1; have M2 := M1.tr m'; obtain ⟨y2, hy⟩ : ∃ q_, q_ = putS z (put (getY z y) 3) y1 := ⟨_, rfl⟩; rw [← hy] at s'; have Y2 := Lib.hid hy; clear hc hf; obtain ⟨hc, hf⟩ := s'.cp; have S2 := Lib.hid s'; clear s' m' hy; go_wp2
 go_end0
 refine ⟨rfl, v2, ?_, M2.out⟩
 have q := S2.out; have e := Y2.out.symm; subst e; have e := Y1.out.symm; subst e
 exact q.mo
theorem pre_46_4 (h0 : Sys procD ramC w P R M tb v y n) (hn : n < 970000) (z s nn : Int) : Calls Tryz.prog 95 #[.pointer (some ⟨P, 0, none⟩), .agg #[.int .i64 46, .int .i64 4, .int .i64 z, .int .i64 s, .int .u16 nn]] w (PE procD ramC P R M tb v w (.tuple #[]) (putS z (put (getY z y) 4) (getS z y)) (n + 2)) := by
 have gb := h0.getb z; have hx : bits .or .u8 (getY z y) 16 = put (getY z y) 4 := or8 (getY z y) gb.1 gb.2 4 (by decide); have hb := bits_b .or (getY z y) 16; rw [hx] at hb; obtain ⟨S0, M0, HO, NO⟩ := h0.beg #[.int .i64 46, .int .i64 4, .int .i64 z, .int .i64 s, .int .u16 nn] 44; obtain ⟨hc, hf⟩ := S0.out.cp; clear h0; go_enter Tryz.func95, Tryz.ntmps95; go_wp2_with fail; generalize w.alloc (.cells #[.int .i64 46, .int .i64 4, .int .i64 z, .int .i64 s, .int .u16 nn] 44) = w0 at S0 M0 HO hc hf ⊢; generalize w.heap.size = ob at HO NO ⊢; have ho := HO.out.2.1
 with_reducible refine (get_p S0.out (by omega) z).mono ?_
 rintro e w1 ⟨rfl, v1, s', m'⟩; replace HO := m'.two HO NO; clear ho NO; obtain ⟨HO, NO⟩ := HO; have ho := HO.out.2.1; have M1 := M0.tr m'; obtain ⟨y1, hy⟩ : ∃ q_, q_ = getS z y := ⟨_, rfl⟩; rw [← hy] at s'; have Y1 := Lib.hid hy; clear hc hf; obtain ⟨hc, hf⟩ := s'.cp; have S1 := Lib.hid s'; clear s' m' hy; go_wp2; have S1' := Lib.hid S1.out.drew; have M1' := Lib.hid (M1.out.trans (PM.drew P R M tb v1 w1)); clear hc hf; obtain ⟨hc, hf⟩ := S1'.out.cp; have HO' := Lib.hid HO.out.drew; clear ho HO; have HO := HO'; clear HO'; have ho := HO.out.2.1
 go_still_tail 8, (by kernel_rfl)
 change wpList _ _ _ _ _ (World.drew w1)
 generalize World.drew w1 = u1 at hc hf S1' M1' HO ho ⊢; clear S1 M1; have S1 := S1'; have M1 := M1'; clear S1' M1'; go_wp2_with fail; rw [hx]
 with_reducible refine (set_p S1.out (by omega) z (put (getY z y) 4) hb.1 hb.2).mono ?_
 rintro e w2 ⟨rfl, v2, s', m'⟩; replace HO := m'.two HO NO; clear ho NO; obtain ⟨HO, NO⟩ := HO; have ho := HO.out.2.1; have M2 := M1.tr m'; obtain ⟨y2, hy⟩ : ∃ q_, q_ = putS z (put (getY z y) 4) y1 := ⟨_, rfl⟩; rw [← hy] at s'; have Y2 := Lib.hid hy; clear hc hf; obtain ⟨hc, hf⟩ := s'.cp; have S2 := Lib.hid s'; clear s' m' hy; go_wp2
 go_end0
 refine ⟨rfl, v2, ?_, M2.out⟩
 have q := S2.out; have e := Y2.out.symm; subst e; have e := Y1.out.symm; subst e
 exact q.mo
theorem pre_46_5 (h0 : Sys procD ramC w P R M tb v y n) (hn : n < 970000) (z s nn : Int) : Calls Tryz.prog 95 #[.pointer (some ⟨P, 0, none⟩), .agg #[.int .i64 46, .int .i64 5, .int .i64 z, .int .i64 s, .int .u16 nn]] w (PE procD ramC P R M tb v w (.tuple #[]) (putS z (put (getY z y) 5) (getS z y)) (n + 2)) := by
 have gb := h0.getb z; have hx : bits .or .u8 (getY z y) 32 = put (getY z y) 5 := or8 (getY z y) gb.1 gb.2 5 (by decide); have hb := bits_b .or (getY z y) 32; rw [hx] at hb; obtain ⟨S0, M0, HO, NO⟩ := h0.beg #[.int .i64 46, .int .i64 5, .int .i64 z, .int .i64 s, .int .u16 nn] 44; obtain ⟨hc, hf⟩ := S0.out.cp; clear h0; go_enter Tryz.func95, Tryz.ntmps95; go_wp2_with fail; generalize w.alloc (.cells #[.int .i64 46, .int .i64 5, .int .i64 z, .int .i64 s, .int .u16 nn] 44) = w0 at S0 M0 HO hc hf ⊢; generalize w.heap.size = ob at HO NO ⊢; have ho := HO.out.2.1
 with_reducible refine (get_p S0.out (by omega) z).mono ?_
 rintro e w1 ⟨rfl, v1, s', m'⟩; replace HO := m'.two HO NO; clear ho NO; obtain ⟨HO, NO⟩ := HO; have ho := HO.out.2.1; have M1 := M0.tr m'; obtain ⟨y1, hy⟩ : ∃ q_, q_ = getS z y := ⟨_, rfl⟩; rw [← hy] at s'; have Y1 := Lib.hid hy; clear hc hf; obtain ⟨hc, hf⟩ := s'.cp; have S1 := Lib.hid s'; clear s' m' hy; go_wp2; have S1' := Lib.hid S1.out.drew; have M1' := Lib.hid (M1.out.trans (PM.drew P R M tb v1 w1)); clear hc hf; obtain ⟨hc, hf⟩ := S1'.out.cp; have HO' := Lib.hid HO.out.drew; clear ho HO; have HO := HO'; clear HO'; have ho := HO.out.2.1
 go_still_tail 8, (by kernel_rfl)
 change wpList _ _ _ _ _ (World.drew w1)
 generalize World.drew w1 = u1 at hc hf S1' M1' HO ho ⊢; clear S1 M1; have S1 := S1'; have M1 := M1'; clear S1' M1'; go_wp2_with fail; rw [hx]
 with_reducible refine (set_p S1.out (by omega) z (put (getY z y) 5) hb.1 hb.2).mono ?_
 rintro e w2 ⟨rfl, v2, s', m'⟩; replace HO := m'.two HO NO; clear ho NO; obtain ⟨HO, NO⟩ := HO; have ho := HO.out.2.1; have M2 := M1.tr m'; obtain ⟨y2, hy⟩ : ∃ q_, q_ = putS z (put (getY z y) 5) y1 := ⟨_, rfl⟩; rw [← hy] at s'; have Y2 := Lib.hid hy; clear hc hf; obtain ⟨hc, hf⟩ := s'.cp; have S2 := Lib.hid s'; clear s' m' hy; go_wp2
 go_end0
 refine ⟨rfl, v2, ?_, M2.out⟩
 have q := S2.out; have e := Y2.out.symm; subst e; have e := Y1.out.symm; subst e
 exact q.mo
theorem pre_46_6 (h0 : Sys procD ramC w P R M tb v y n) (hn : n < 970000) (z s nn : Int) : Calls Tryz.prog 95 #[.pointer (some ⟨P, 0, none⟩), .agg #[.int .i64 46, .int .i64 6, .int .i64 z, .int .i64 s, .int .u16 nn]] w (PE procD ramC P R M tb v w (.tuple #[]) (putS z (put (getY z y) 6) (getS z y)) (n + 2)) := by
 have gb := h0.getb z; have hx : bits .or .u8 (getY z y) 64 = put (getY z y) 6 := or8 (getY z y) gb.1 gb.2 6 (by decide); have hb := bits_b .or (getY z y) 64; rw [hx] at hb; obtain ⟨S0, M0, HO, NO⟩ := h0.beg #[.int .i64 46, .int .i64 6, .int .i64 z, .int .i64 s, .int .u16 nn] 44; obtain ⟨hc, hf⟩ := S0.out.cp; clear h0; go_enter Tryz.func95, Tryz.ntmps95; go_wp2_with fail; generalize w.alloc (.cells #[.int .i64 46, .int .i64 6, .int .i64 z, .int .i64 s, .int .u16 nn] 44) = w0 at S0 M0 HO hc hf ⊢; generalize w.heap.size = ob at HO NO ⊢; have ho := HO.out.2.1
 with_reducible refine (get_p S0.out (by omega) z).mono ?_
 rintro e w1 ⟨rfl, v1, s', m'⟩; replace HO := m'.two HO NO; clear ho NO; obtain ⟨HO, NO⟩ := HO; have ho := HO.out.2.1; have M1 := M0.tr m'; obtain ⟨y1, hy⟩ : ∃ q_, q_ = getS z y := ⟨_, rfl⟩; rw [← hy] at s'; have Y1 := Lib.hid hy; clear hc hf; obtain ⟨hc, hf⟩ := s'.cp; have S1 := Lib.hid s'; clear s' m' hy; go_wp2; have S1' := Lib.hid S1.out.drew; have M1' := Lib.hid (M1.out.trans (PM.drew P R M tb v1 w1)); clear hc hf; obtain ⟨hc, hf⟩ := S1'.out.cp; have HO' := Lib.hid HO.out.drew; clear ho HO; have HO := HO'; clear HO'; have ho := HO.out.2.1
 go_still_tail 8, (by kernel_rfl)
 change wpList _ _ _ _ _ (World.drew w1)
 generalize World.drew w1 = u1 at hc hf S1' M1' HO ho ⊢; clear S1 M1; have S1 := S1'; have M1 := M1'; clear S1' M1'; go_wp2_with fail; rw [hx]
 with_reducible refine (set_p S1.out (by omega) z (put (getY z y) 6) hb.1 hb.2).mono ?_
 rintro e w2 ⟨rfl, v2, s', m'⟩; replace HO := m'.two HO NO; clear ho NO; obtain ⟨HO, NO⟩ := HO; have ho := HO.out.2.1; have M2 := M1.tr m'; obtain ⟨y2, hy⟩ : ∃ q_, q_ = putS z (put (getY z y) 6) y1 := ⟨_, rfl⟩; rw [← hy] at s'; have Y2 := Lib.hid hy; clear hc hf; obtain ⟨hc, hf⟩ := s'.cp; have S2 := Lib.hid s'; clear s' m' hy; go_wp2
 go_end0
 refine ⟨rfl, v2, ?_, M2.out⟩
 have q := S2.out; have e := Y2.out.symm; subst e; have e := Y1.out.symm; subst e
 exact q.mo
theorem pre_46_7 (h0 : Sys procD ramC w P R M tb v y n) (hn : n < 970000) (z s nn : Int) : Calls Tryz.prog 95 #[.pointer (some ⟨P, 0, none⟩), .agg #[.int .i64 46, .int .i64 7, .int .i64 z, .int .i64 s, .int .u16 nn]] w (PE procD ramC P R M tb v w (.tuple #[]) (putS z (put (getY z y) 7) (getS z y)) (n + 2)) := by
 have gb := h0.getb z; have hx : bits .or .u8 (getY z y) 128 = put (getY z y) 7 := or8 (getY z y) gb.1 gb.2 7 (by decide); have hb := bits_b .or (getY z y) 128; rw [hx] at hb; obtain ⟨S0, M0, HO, NO⟩ := h0.beg #[.int .i64 46, .int .i64 7, .int .i64 z, .int .i64 s, .int .u16 nn] 44; obtain ⟨hc, hf⟩ := S0.out.cp; clear h0; go_enter Tryz.func95, Tryz.ntmps95; go_wp2_with fail; generalize w.alloc (.cells #[.int .i64 46, .int .i64 7, .int .i64 z, .int .i64 s, .int .u16 nn] 44) = w0 at S0 M0 HO hc hf ⊢; generalize w.heap.size = ob at HO NO ⊢; have ho := HO.out.2.1
 with_reducible refine (get_p S0.out (by omega) z).mono ?_
 rintro e w1 ⟨rfl, v1, s', m'⟩; replace HO := m'.two HO NO; clear ho NO; obtain ⟨HO, NO⟩ := HO; have ho := HO.out.2.1; have M1 := M0.tr m'; obtain ⟨y1, hy⟩ : ∃ q_, q_ = getS z y := ⟨_, rfl⟩; rw [← hy] at s'; have Y1 := Lib.hid hy; clear hc hf; obtain ⟨hc, hf⟩ := s'.cp; have S1 := Lib.hid s'; clear s' m' hy; go_wp2; have S1' := Lib.hid S1.out.drew; have M1' := Lib.hid (M1.out.trans (PM.drew P R M tb v1 w1)); clear hc hf; obtain ⟨hc, hf⟩ := S1'.out.cp; have HO' := Lib.hid HO.out.drew; clear ho HO; have HO := HO'; clear HO'; have ho := HO.out.2.1
 go_still_tail 8, (by kernel_rfl)
 change wpList _ _ _ _ _ (World.drew w1)
 generalize World.drew w1 = u1 at hc hf S1' M1' HO ho ⊢; clear S1 M1; have S1 := S1'; have M1 := M1'; clear S1' M1'; go_wp2_with fail; rw [hx]
 with_reducible refine (set_p S1.out (by omega) z (put (getY z y) 7) hb.1 hb.2).mono ?_
 rintro e w2 ⟨rfl, v2, s', m'⟩; replace HO := m'.two HO NO; clear ho NO; obtain ⟨HO, NO⟩ := HO; have ho := HO.out.2.1; have M2 := M1.tr m'; obtain ⟨y2, hy⟩ : ∃ q_, q_ = putS z (put (getY z y) 7) y1 := ⟨_, rfl⟩; rw [← hy] at s'; have Y2 := Lib.hid hy; clear hc hf; obtain ⟨hc, hf⟩ := s'.cp; have S2 := Lib.hid s'; clear s' m' hy; go_wp2
 go_end0
 refine ⟨rfl, v2, ?_, M2.out⟩
 have q := S2.out; have e := Y2.out.symm; subst e; have e := Y1.out.symm; subst e
 exact q.mo
theorem pre_46 (h0 : Sys procD ramC w P R M tb v y n) (hn : n < 970000) (x z s nn : Int) (x0 : 0 ≤ x) (x1 : x < 8) : Calls Tryz.prog 95 #[.pointer (some ⟨P, 0, none⟩), .agg #[.int .i64 46, .int .i64 x, .int .i64 z, .int .i64 s, .int .u16 nn]] w (PE procD ramC P R M tb v w (.tuple #[]) (putS z (put (getY z y) x.toNat) (getS z y)) (n + 2)) := by
 rcases (by omega : x = 0 ∨ x = 1 ∨ x = 2 ∨ x = 3 ∨ x = 4 ∨ x = 5 ∨ x = 6 ∨ x = 7) with rfl | rfl | rfl | rfl | rfl | rfl | rfl | rfl
 ·exact pre_46_0 h0 hn z s nn
 ·exact pre_46_1 h0 hn z s nn
 ·exact pre_46_2 h0 hn z s nn
 ·exact pre_46_3 h0 hn z s nn
 ·exact pre_46_4 h0 hn z s nn
 ·exact pre_46_5 h0 hn z s nn
 ·exact pre_46_6 h0 hn z s nn
 ·exact pre_46_7 h0 hn z s nn
end
end Go.Proofs.YtngdogldgcgnjaaGreat
