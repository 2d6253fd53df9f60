/-
  What calculate does: for every world; the processor is there.
-/
import Derived.Test.YtngdogldgcgnjaaGreatZ11
import Derived.Test.YtngdogldgcgnjaaGreatZ12
import Derived.Test.YtngdogldgcgnjaaGreatZ13
import Derived.Test.YtngdogldgcgnjaaGreatZ14
set_option maxRecDepth 100000
set_option maxHeartbeats 8000000
namespace Go.Proofs.YtngdogldgcgnjaaGreat
open Go.ChangeShapes Go.WideShapes Go.ChangeAt Go.RowKit
open Reg
set_option linter.unusedVariables false
section
variable {w : World} {P R M tb n : Nat} {v : Value} {y : Sy}
theorem fl128 (f : Int) (h1 : 0 ≤ f) (h2 : f < 256) : bits .or .u8 (bits .and .u8 f 128) 16 = Alu.FL (Alu.zf f) false false true :=
 byte_all (P := fun f => bits .or .u8 (bits .and .u8 f 128) 16 = Alu.FL (Alu.zf f) false false true) (by decide +kernel) f h1 h2
theorem fl144 (f : Int) (h1 : 0 ≤ f) (h2 : f < 256) : bits .xor .u8 (bits .and .u8 f 144) 16 = Alu.FL (Alu.zf f) false false (!Alu.cf f) :=
 byte_all (P := fun f => bits .xor .u8 (bits .and .u8 f 144) 16 = Alu.FL (Alu.zf f) false false (!Alu.cf f)) (by decide +kernel) f h1 h2
theorem fl96 (f : Int) (h1 : 0 ≤ f) (h2 : f < 256) : bits .or .u8 (bits .or .u8 (bits .and .u8 f 144) 64) 32 = Alu.FL (Alu.zf f) true true (Alu.cf f) :=
 byte_all (P := fun f => bits .or .u8 (bits .or .u8 (bits .and .u8 f 144) 64) 32 = Alu.FL (Alu.zf f) true true (Alu.cf f)) (by decide +kernel) f h1 h2
theorem cpl8 (a : Int) (h1 : 0 ≤ a) (h2 : a < 256) : bits .xor .u8 IntKind.u8.max a = 255 - a :=
 byte_all (P := fun a => bits .xor .u8 IntKind.u8.max a = 255 - a) (by decide +kernel) a h1 h2
theorem tq8 (x a f : Int) : bits .andNot .u8 (Alu.turnF x a f) 128 = Alu.fl 16 (Alu.turnO x a) := by
 unfold Alu.turnF
 generalize (Alu.turnR x a f == 0) = p; generalize Alu.turnO x a = q
 cases p <;> cases q <;> kernel_rfl
theorem calc_10 (h0 : Sys procD ramC w P R M tb v y n) (hn : n < 960000) (x z s nn : Int) (x0 : 0 ≤ x) (x1 : x < 8) : Calls Tryz.prog 82 #[.pointer (some ⟨P, 0, none⟩), .agg #[.int .i64 10, .int .i64 x, .int .i64 z, .int .i64 s, .int .u16 nn]] w (PE procD ramC P R M tb v w (.tuple #[]) (sumS x (getY z y) (getS z y)) (n + 1)) := by
 obtain ⟨S0, M0, HO, NO⟩ := h0.beg #[.int .i64 10, .int .i64 x, .int .i64 z, .int .i64 s, .int .u16 nn] 44; obtain ⟨hc, hf⟩ := S0.out.cp; clear h0; go_enter Tryz.func82, Tryz.ntmps82; go_wp2; generalize w.alloc (.cells #[.int .i64 10, .int .i64 x, .int .i64 z, .int .i64 s, .int .u16 nn] 44) = w0 at S0 M0 HO hc hf ⊢; generalize w.heap.size = ob at HO NO ⊢; have ho := HO.out.2.1; replace S0 := Lib.hid S0.out.drew; replace M0 := Lib.hid (M0.out.trans (PM.drew P R M tb v w0)); replace HO := Lib.hid HO.out.drew; clear ho hc hf
 refine rh HO (fun hHeld => ?_)
 generalize World.drew w0 = u0 at hHeld S0 M0 HO ⊢; refine tz 0 ?_; refine tz 1 ?_; refine tz 2 ?_; refine tz 3 ?_; refine tz 4 ?_; refine tz 5 ?_
 refine re1 6 (fun K hK => ?_)
 go_simp
 go_wp2_with (go_at_call 89; (with_reducible refine (get_p S0.out (by omega) z).mono ?_); rintro e w1 ⟨rfl, v1, s', m'⟩)
 replace HO := m'.two HO NO; clear NO; obtain ⟨HO, NO⟩ := HO
 refine hK.out _ _ ⟨HO.out.2.1, trivial⟩ (fun hNew => ?_); clear hK K hHeld; have hHeld := hNew; clear hNew
 have M1 := M0.tr m'; obtain ⟨y1, hy⟩ : ∃ q_, q_ = getS z y := ⟨_, rfl⟩; rw [← hy] at s'; have Y1 := Lib.hid hy; have S1 := Lib.hid s'; clear s' m' hy
 refine re1 7 (fun K hK => ?_)
 go_simp
 go_wp2_with (go_at_call 91; (with_reducible refine (sum_p S1.out (by omega) x _ x0 x1 (S0.out.getb z).1 (S0.out.getb z).2).mono ?_); rintro e w2 ⟨rfl, v2, s', m'⟩)
 replace HO := m'.two HO NO; clear NO; obtain ⟨HO, NO⟩ := HO
 refine hK.out _ _ ⟨HO.out.2.1, trivial⟩ (fun hNew => ?_); clear hK K hHeld; have hHeld := hNew; clear hNew
 have M2 := M1.tr m'; obtain ⟨y2, hy⟩ : ∃ q_, q_ = sumS x (getY z y) y1 := ⟨_, rfl⟩; rw [← hy] at s'; have Y2 := Lib.hid hy; have S2 := Lib.hid s'; clear s' m' hy
 refine wpAnyH_done (by kernel_rfl) ?_ _
 obtain ⟨hc, hf⟩ := S2.out.cp; have ho := HO.out.2.1; go_wp2
 first | go_end0 | refine bodyPost_ret (results_none rfl _ _ _) rfl ?_
 refine ⟨rfl, v2, ?_, M2.out⟩
 have q := S2.out; have e := Y2.out.symm; subst e; have e := Y1.out.symm; subst e
 exact q.mo
theorem calc_11 (h0 : Sys procD ramC w P R M tb v y n) (hn : n < 960000) (x z s nn : Int) (x0 : 0 ≤ x) (x1 : x < 8) : Calls Tryz.prog 82 #[.pointer (some ⟨P, 0, none⟩), .agg #[.int .i64 11, .int .i64 x, .int .i64 z, .int .i64 s, .int .u16 nn]] w (PE procD ramC P R M tb v w (.tuple #[]) (sumS x (nn % 256) y) (n + 0)) := by
 obtain ⟨S0, M0, HO, NO⟩ := h0.beg #[.int .i64 11, .int .i64 x, .int .i64 z, .int .i64 s, .int .u16 nn] 44; obtain ⟨hc, hf⟩ := S0.out.cp; clear h0; go_enter Tryz.func82, Tryz.ntmps82; go_wp2_with fail; generalize w.alloc (.cells #[.int .i64 11, .int .i64 x, .int .i64 z, .int .i64 s, .int .u16 nn] 44) = w0 at S0 M0 HO hc hf ⊢; generalize w.heap.size = ob at HO NO ⊢; have ho := HO.out.2.1
 with_reducible refine (sum_p S0.out (by omega) x (nn % 256) x0 x1 (by omega) (by omega)).mono ?_
 rintro e w1 ⟨rfl, v1, s', m'⟩; replace HO := m'.two HO NO; clear ho NO; obtain ⟨HO, NO⟩ := HO; have ho := HO.out.2.1; have M1 := M0.tr m'; obtain ⟨y1, hy⟩ : ∃ q_, q_ = sumS x (nn % 256) y := ⟨_, rfl⟩; rw [← hy] at s'; have Y1 := Lib.hid hy; clear hc hf; obtain ⟨hc, hf⟩ := s'.cp; have S1 := Lib.hid s'; clear s' m' hy; go_wp2
 first | go_end0 | refine bodyPost_ret (results_none rfl _ _ _) rfl ?_
 refine ⟨rfl, v1, ?_, M1.out⟩
 have q := S1.out; have e := Y1.out.symm; subst e
 exact q.mo
theorem calc_12 (h0 : Sys procD ramC w P R M tb v y n) (hn : n < 960000) (x z s nn : Int) : Calls Tryz.prog 82 #[.pointer (some ⟨P, 0, none⟩), .agg #[.int .i64 12, .int .i64 x, .int .i64 z, .int .i64 s, .int .u16 nn]] w (PE procD ramC P R M tb v w (.tuple #[]) (setF (Alu.incF (getY x y) y.s.r.f) (putS x ((getY x y + 1) % 256) (getS x y))) (n + 2)) := by
 obtain ⟨S0, M0, HO, NO⟩ := h0.beg #[.int .i64 12, .int .i64 x, .int .i64 z, .int .i64 s, .int .u16 nn] 44; obtain ⟨hc, hf⟩ := S0.out.cp; clear h0; go_enter Tryz.func82, Tryz.ntmps82; go_wp2_with fail; generalize w.alloc (.cells #[.int .i64 12, .int .i64 x, .int .i64 z, .int .i64 s, .int .u16 nn] 44) = w0 at S0 M0 HO hc hf ⊢; generalize w.heap.size = ob at HO NO ⊢; have ho := HO.out.2.1
 with_reducible refine (change_Inc S0.out (by omega) x).mono ?_
 rintro e w1 ⟨rfl, v1, s', m'⟩; replace HO := m'.two HO NO; clear ho NO; obtain ⟨HO, NO⟩ := HO; have ho := HO.out.2.1; have M1 := M0.tr m'; obtain ⟨y1, hy⟩ : ∃ q_, q_ = setF (Alu.incF (getY x y) y.s.r.f) (putS x ((getY x y + 1) % 256) (getS x y)) := ⟨_, rfl⟩; rw [← hy] at s'; have Y1 := Lib.hid hy; clear hc hf; obtain ⟨hc, hf⟩ := s'.cp; have S1 := Lib.hid s'; clear s' m' hy; go_wp2
 first | go_end0 | refine bodyPost_ret (results_none rfl _ _ _) rfl ?_
 refine ⟨rfl, v1, ?_, M1.out⟩
 have q := S1.out; have e := Y1.out.symm; subst e
 exact q.mo
theorem calc_13 (h0 : Sys procD ramC w P R M tb v y n) (hn : n < 960000) (x z s nn : Int) : Calls Tryz.prog 82 #[.pointer (some ⟨P, 0, none⟩), .agg #[.int .i64 13, .int .i64 x, .int .i64 z, .int .i64 s, .int .u16 nn]] w (PE procD ramC P R M tb v w (.tuple #[]) (setF (Alu.decF (getY x y) y.s.r.f) (putS x ((getY x y - 1) % 256) (getS x y))) (n + 2)) := by
 obtain ⟨S0, M0, HO, NO⟩ := h0.beg #[.int .i64 13, .int .i64 x, .int .i64 z, .int .i64 s, .int .u16 nn] 44; obtain ⟨hc, hf⟩ := S0.out.cp; clear h0; go_enter Tryz.func82, Tryz.ntmps82; go_wp2_with fail; generalize w.alloc (.cells #[.int .i64 13, .int .i64 x, .int .i64 z, .int .i64 s, .int .u16 nn] 44) = w0 at S0 M0 HO hc hf ⊢; generalize w.heap.size = ob at HO NO ⊢; have ho := HO.out.2.1
 with_reducible refine (change_Dec S0.out (by omega) x).mono ?_
 rintro e w1 ⟨rfl, v1, s', m'⟩; replace HO := m'.two HO NO; clear ho NO; obtain ⟨HO, NO⟩ := HO; have ho := HO.out.2.1; have M1 := M0.tr m'; obtain ⟨y1, hy⟩ : ∃ q_, q_ = setF (Alu.decF (getY x y) y.s.r.f) (putS x ((getY x y - 1) % 256) (getS x y)) := ⟨_, rfl⟩; rw [← hy] at s'; have Y1 := Lib.hid hy; clear hc hf; obtain ⟨hc, hf⟩ := s'.cp; have S1 := Lib.hid s'; clear s' m' hy; go_wp2
 first | go_end0 | refine bodyPost_ret (results_none rfl _ _ _) rfl ?_
 refine ⟨rfl, v1, ?_, M1.out⟩
 have q := S1.out; have e := Y1.out.symm; subst e
 exact q.mo
theorem calc_17 (h0 : Sys procD ramC w P R M tb v y n) (hn : n < 960000) (x z s nn : Int) : Calls Tryz.prog 82 #[.pointer (some ⟨P, 0, none⟩), .agg #[.int .i64 17, .int .i64 x, .int .i64 z, .int .i64 s, .int .u16 nn]] w (PE procD ramC P R M tb v w (.tuple #[]) (putS z (Alu.turnR x (getY z y) y.s.r.f) (setF (Alu.turnF x (getY z y) y.s.r.f) (getS z y))) (n + 2)) := by
 obtain ⟨S0, M0, HO, NO⟩ := h0.beg #[.int .i64 17, .int .i64 x, .int .i64 z, .int .i64 s, .int .u16 nn] 44; obtain ⟨hc, hf⟩ := S0.out.cp; clear h0; go_enter Tryz.func82, Tryz.ntmps82; go_wp2_with fail; generalize w.alloc (.cells #[.int .i64 17, .int .i64 x, .int .i64 z, .int .i64 s, .int .u16 nn] 44) = w0 at S0 M0 HO hc hf ⊢; generalize w.heap.size = ob at HO NO ⊢; have ho := HO.out.2.1
 with_reducible refine (pre_17 S0.out (by omega) x z s nn).mono ?_
 rintro e w1 ⟨rfl, v1, s', m'⟩; replace HO := m'.two HO NO; clear ho NO; obtain ⟨HO, NO⟩ := HO; have ho := HO.out.2.1; have M1 := M0.tr m'; obtain ⟨y1, hy⟩ : ∃ q_, q_ = putS z (Alu.turnR x (getY z y) y.s.r.f) (setF (Alu.turnF x (getY z y) y.s.r.f) (getS z y)) := ⟨_, rfl⟩; rw [← hy] at s'; have Y1 := Lib.hid hy; clear hc hf; obtain ⟨hc, hf⟩ := s'.cp; have S1 := Lib.hid s'; clear s' m' hy; go_wp2
 first | go_end0 | refine bodyPost_ret (results_none rfl _ _ _) rfl ?_
 refine ⟨rfl, v1, ?_, M1.out⟩
 have q := S1.out; have e := Y1.out.symm; subst e
 exact q.mo
theorem calc_44 (h0 : Sys procD ramC w P R M tb v y n) (hn : n < 960000) (x z s nn : Int) : Calls Tryz.prog 82 #[.pointer (some ⟨P, 0, none⟩), .agg #[.int .i64 44, .int .i64 x, .int .i64 z, .int .i64 s, .int .u16 nn]] w (PE procD ramC P R M tb v w (.tuple #[]) (setF (Alu.bitF x (getY z y) y.s.r.f) (getS z y)) (n + 1)) := by
 obtain ⟨S0, M0, HO, NO⟩ := h0.beg #[.int .i64 44, .int .i64 x, .int .i64 z, .int .i64 s, .int .u16 nn] 44; obtain ⟨hc, hf⟩ := S0.out.cp; clear h0; go_enter Tryz.func82, Tryz.ntmps82; go_wp2_with fail; generalize w.alloc (.cells #[.int .i64 44, .int .i64 x, .int .i64 z, .int .i64 s, .int .u16 nn] 44) = w0 at S0 M0 HO hc hf ⊢; generalize w.heap.size = ob at HO NO ⊢; have ho := HO.out.2.1
 with_reducible refine (pre_44 S0.out (by omega) x z s nn).mono ?_
 rintro e w1 ⟨rfl, v1, s', m'⟩; replace HO := m'.two HO NO; clear ho NO; obtain ⟨HO, NO⟩ := HO; have ho := HO.out.2.1; have M1 := M0.tr m'; obtain ⟨y1, hy⟩ : ∃ q_, q_ = setF (Alu.bitF x (getY z y) y.s.r.f) (getS z y) := ⟨_, rfl⟩; rw [← hy] at s'; have Y1 := Lib.hid hy; clear hc hf; obtain ⟨hc, hf⟩ := s'.cp; have S1 := Lib.hid s'; clear s' m' hy; go_wp2
 first | go_end0 | refine bodyPost_ret (results_none rfl _ _ _) rfl ?_
 refine ⟨rfl, v1, ?_, M1.out⟩
 have q := S1.out; have e := Y1.out.symm; subst e
 exact q.mo
theorem calc_45 (h0 : Sys procD ramC w P R M tb v y n) (hn : n < 960000) (x z s nn : Int) (x0 : 0 ≤ x) (x1 : x < 8) : Calls Tryz.prog 82 #[.pointer (some ⟨P, 0, none⟩), .agg #[.int .i64 45, .int .i64 x, .int .i64 z, .int .i64 s, .int .u16 nn]] w (PE procD ramC P R M tb v w (.tuple #[]) (putS z (clr (getY z y) x.toNat) (getS z y)) (n + 2)) := by
 obtain ⟨S0, M0, HO, NO⟩ := h0.beg #[.int .i64 45, .int .i64 x, .int .i64 z, .int .i64 s, .int .u16 nn] 44; obtain ⟨hc, hf⟩ := S0.out.cp; clear h0; go_enter Tryz.func82, Tryz.ntmps82; go_wp2_with fail; generalize w.alloc (.cells #[.int .i64 45, .int .i64 x, .int .i64 z, .int .i64 s, .int .u16 nn] 44) = w0 at S0 M0 HO hc hf ⊢; generalize w.heap.size = ob at HO NO ⊢; have ho := HO.out.2.1
 with_reducible refine (pre_45 S0.out (by omega) x z s nn x0 x1).mono ?_
 rintro e w1 ⟨rfl, v1, s', m'⟩; replace HO := m'.two HO NO; clear ho NO; obtain ⟨HO, NO⟩ := HO; have ho := HO.out.2.1; have M1 := M0.tr m'; obtain ⟨y1, hy⟩ : ∃ q_, q_ = putS z (clr (getY z y) x.toNat) (getS z y) := ⟨_, rfl⟩; rw [← hy] at s'; have Y1 := Lib.hid hy; clear hc hf; obtain ⟨hc, hf⟩ := s'.cp; have S1 := Lib.hid s'; clear s' m' hy; go_wp2
 first | go_end0 | refine bodyPost_ret (results_none rfl _ _ _) rfl ?_
 refine ⟨rfl, v1, ?_, M1.out⟩
 have q := S1.out; have e := Y1.out.symm; subst e
 exact q.mo
theorem calc_46 (h0 : Sys procD ramC w P R M tb v y n) (hn : n < 960000) (x z s nn : Int) (x0 : 0 ≤ x) (x1 : x < 8) : Calls Tryz.prog 82 #[.pointer (some ⟨P, 0, none⟩), .agg #[.int .i64 46, .int .i64 x, .int .i64 z, .int .i64 s, .int .u16 nn]] w (PE procD ramC P R M tb v w (.tuple #[]) (putS z (put (getY z y) x.toNat) (getS z y)) (n + 2)) := by
 obtain ⟨S0, M0, HO, NO⟩ := h0.beg #[.int .i64 46, .int .i64 x, .int .i64 z, .int .i64 s, .int .u16 nn] 44; obtain ⟨hc, hf⟩ := S0.out.cp; clear h0; go_enter Tryz.func82, Tryz.ntmps82; go_wp2_with fail; generalize w.alloc (.cells #[.int .i64 46, .int .i64 x, .int .i64 z, .int .i64 s, .int .u16 nn] 44) = w0 at S0 M0 HO hc hf ⊢; generalize w.heap.size = ob at HO NO ⊢; have ho := HO.out.2.1
 with_reducible refine (pre_46 S0.out (by omega) x z s nn x0 x1).mono ?_
 rintro e w1 ⟨rfl, v1, s', m'⟩; replace HO := m'.two HO NO; clear ho NO; obtain ⟨HO, NO⟩ := HO; have ho := HO.out.2.1; have M1 := M0.tr m'; obtain ⟨y1, hy⟩ : ∃ q_, q_ = putS z (put (getY z y) x.toNat) (getS z y) := ⟨_, rfl⟩; rw [← hy] at s'; have Y1 := Lib.hid hy; clear hc hf; obtain ⟨hc, hf⟩ := s'.cp; have S1 := Lib.hid s'; clear s' m' hy; go_wp2
 first | go_end0 | refine bodyPost_ret (results_none rfl _ _ _) rfl ?_
 refine ⟨rfl, v1, ?_, M1.out⟩
 have q := S1.out; have e := Y1.out.symm; subst e
 exact q.mo
theorem calc_14 (h0 : Sys procD ramC w P R M tb v y n) (hn : n < 960000) (x z s nn : Int) : Calls Tryz.prog 82 #[.pointer (some ⟨P, 0, none⟩), .agg #[.int .i64 14, .int .i64 x, .int .i64 z, .int .i64 s, .int .u16 nn]] w (PE procD ramC P R M tb v w (.tuple #[]) (pairS x (up (pairV y.s.r x)) (idle y)) (n + 1)) := by
 obtain ⟨S0, M0, HO, NO⟩ := h0.beg #[.int .i64 14, .int .i64 x, .int .i64 z, .int .i64 s, .int .u16 nn] 44; obtain ⟨hc, hf⟩ := S0.out.cp; clear h0; go_enter Tryz.func82, Tryz.ntmps82; go_wp2_with fail; generalize w.alloc (.cells #[.int .i64 14, .int .i64 x, .int .i64 z, .int .i64 s, .int .u16 nn] 44) = w0 at S0 M0 HO hc hf ⊢; generalize w.heap.size = ob at HO NO ⊢; have ho := HO.out.2.1
 with_reducible refine (words_14 S0.out (by omega) x z s nn).mono ?_
 rintro e w1 ⟨rfl, v1, s', m'⟩; replace HO := m'.two HO NO; clear ho NO; obtain ⟨HO, NO⟩ := HO; have ho := HO.out.2.1; have M1 := M0.tr m'; obtain ⟨y1, hy⟩ : ∃ q_, q_ = pairS x (up (pairV y.s.r x)) (idle y) := ⟨_, rfl⟩; rw [← hy] at s'; have Y1 := Lib.hid hy; clear hc hf; obtain ⟨hc, hf⟩ := s'.cp; have S1 := Lib.hid s'; clear s' m' hy; go_wp2
 first | go_end0 | refine bodyPost_ret (results_none rfl _ _ _) rfl ?_
 refine ⟨rfl, v1, ?_, M1.out⟩
 have q := S1.out; have e := Y1.out.symm; subst e
 exact q.mo
theorem calc_15 (h0 : Sys procD ramC w P R M tb v y n) (hn : n < 960000) (x z s nn : Int) : Calls Tryz.prog 82 #[.pointer (some ⟨P, 0, none⟩), .agg #[.int .i64 15, .int .i64 x, .int .i64 z, .int .i64 s, .int .u16 nn]] w (PE procD ramC P R M tb v w (.tuple #[]) (pairS x (dn (pairV y.s.r x)) (idle y)) (n + 1)) := by
 obtain ⟨S0, M0, HO, NO⟩ := h0.beg #[.int .i64 15, .int .i64 x, .int .i64 z, .int .i64 s, .int .u16 nn] 44; obtain ⟨hc, hf⟩ := S0.out.cp; clear h0; go_enter Tryz.func82, Tryz.ntmps82; go_wp2_with fail; generalize w.alloc (.cells #[.int .i64 15, .int .i64 x, .int .i64 z, .int .i64 s, .int .u16 nn] 44) = w0 at S0 M0 HO hc hf ⊢; generalize w.heap.size = ob at HO NO ⊢; have ho := HO.out.2.1
 with_reducible refine (words_15 S0.out (by omega) x z s nn).mono ?_
 rintro e w1 ⟨rfl, v1, s', m'⟩; replace HO := m'.two HO NO; clear ho NO; obtain ⟨HO, NO⟩ := HO; have ho := HO.out.2.1; have M1 := M0.tr m'; obtain ⟨y1, hy⟩ : ∃ q_, q_ = pairS x (dn (pairV y.s.r x)) (idle y) := ⟨_, rfl⟩; rw [← hy] at s'; have Y1 := Lib.hid hy; clear hc hf; obtain ⟨hc, hf⟩ := s'.cp; have S1 := Lib.hid s'; clear s' m' hy; go_wp2
 first | go_end0 | refine bodyPost_ret (results_none rfl _ _ _) rfl ?_
 refine ⟨rfl, v1, ?_, M1.out⟩
 have q := S1.out; have e := Y1.out.symm; subst e
 exact q.mo
theorem calc_16 (h0 : Sys procD ramC w P R M tb v y n) (hn : n < 960000) (x z s nn : Int) : Calls Tryz.prog 82 #[.pointer (some ⟨P, 0, none⟩), .agg #[.int .i64 16, .int .i64 x, .int .i64 z, .int .i64 s, .int .u16 nn]] w (PE procD ramC P R M tb v w (.tuple #[]) (setF (Alu.add16F (hlV y) (pairV y.s.r x) y.s.r.f) (pairS 2 ((hlV y + pairV y.s.r x) % 65536) (idle y))) (n + 1)) := by
 obtain ⟨S0, M0, HO, NO⟩ := h0.beg #[.int .i64 16, .int .i64 x, .int .i64 z, .int .i64 s, .int .u16 nn] 44; obtain ⟨hc, hf⟩ := S0.out.cp; clear h0; go_enter Tryz.func82, Tryz.ntmps82; go_wp2_with fail; generalize w.alloc (.cells #[.int .i64 16, .int .i64 x, .int .i64 z, .int .i64 s, .int .u16 nn] 44) = w0 at S0 M0 HO hc hf ⊢; generalize w.heap.size = ob at HO NO ⊢; have ho := HO.out.2.1
 with_reducible refine (words_16 S0.out (by omega) x z s nn).mono ?_
 rintro e w1 ⟨rfl, v1, s', m'⟩; replace HO := m'.two HO NO; clear ho NO; obtain ⟨HO, NO⟩ := HO; have ho := HO.out.2.1; have M1 := M0.tr m'; obtain ⟨y1, hy⟩ : ∃ q_, q_ = setF (Alu.add16F (hlV y) (pairV y.s.r x) y.s.r.f) (pairS 2 ((hlV y + pairV y.s.r x) % 65536) (idle y)) := ⟨_, rfl⟩; rw [← hy] at s'; have Y1 := Lib.hid hy; clear hc hf; obtain ⟨hc, hf⟩ := s'.cp; have S1 := Lib.hid s'; clear s' m' hy; go_wp2
 first | go_end0 | refine bodyPost_ret (results_none rfl _ _ _) rfl ?_
 refine ⟨rfl, v1, ?_, M1.out⟩
 have q := S1.out; have e := Y1.out.symm; subst e
 exact q.mo
theorem calc_41 (h0 : Sys procD ramC w P R M tb v y n) (hn : n < 960000) (x z s nn : Int) : Calls Tryz.prog 82 #[.pointer (some ⟨P, 0, none⟩), .agg #[.int .i64 41, .int .i64 x, .int .i64 z, .int .i64 s, .int .u16 nn]] w (PE procD ramC P R M tb v w (.tuple #[]) (setF (Alu.shiftF y.s.r.sp (nn % 256)) (setSP (Alu.shiftR y.s.r.sp (nn % 256)) (idle (idle y)))) (n + 2)) := by
 obtain ⟨S0, M0, HO, NO⟩ := h0.beg #[.int .i64 41, .int .i64 x, .int .i64 z, .int .i64 s, .int .u16 nn] 44; obtain ⟨hc, hf⟩ := S0.out.cp; clear h0; go_enter Tryz.func82, Tryz.ntmps82; go_wp2_with fail; generalize w.alloc (.cells #[.int .i64 41, .int .i64 x, .int .i64 z, .int .i64 s, .int .u16 nn] 44) = w0 at S0 M0 HO hc hf ⊢; generalize w.heap.size = ob at HO NO ⊢; have ho := HO.out.2.1
 with_reducible refine (words_41 S0.out (by omega) x z s nn).mono ?_
 rintro e w1 ⟨rfl, v1, s', m'⟩; replace HO := m'.two HO NO; clear ho NO; obtain ⟨HO, NO⟩ := HO; have ho := HO.out.2.1; have M1 := M0.tr m'; obtain ⟨y1, hy⟩ : ∃ q_, q_ = setF (Alu.shiftF y.s.r.sp (nn % 256)) (setSP (Alu.shiftR y.s.r.sp (nn % 256)) (idle (idle y))) := ⟨_, rfl⟩; rw [← hy] at s'; have Y1 := Lib.hid hy; clear hc hf; obtain ⟨hc, hf⟩ := s'.cp; have S1 := Lib.hid s'; clear s' m' hy; go_wp2
 first | go_end0 | refine bodyPost_ret (results_none rfl _ _ _) rfl ?_
 refine ⟨rfl, v1, ?_, M1.out⟩
 have q := S1.out; have e := Y1.out.symm; subst e
 exact q.mo
theorem calc_42 (h0 : Sys procD ramC w P R M tb v y n) (hn : n < 960000) (x z s nn : Int) : Calls Tryz.prog 82 #[.pointer (some ⟨P, 0, none⟩), .agg #[.int .i64 42, .int .i64 x, .int .i64 z, .int .i64 s, .int .u16 nn]] w (PE procD ramC P R M tb v w (.tuple #[]) (setF (Alu.shiftF y.s.r.sp (nn % 256)) (pairS 2 (Alu.shiftR y.s.r.sp (nn % 256)) (idle y))) (n + 1)) := by
 obtain ⟨S0, M0, HO, NO⟩ := h0.beg #[.int .i64 42, .int .i64 x, .int .i64 z, .int .i64 s, .int .u16 nn] 44; obtain ⟨hc, hf⟩ := S0.out.cp; clear h0; go_enter Tryz.func82, Tryz.ntmps82; go_wp2_with fail; generalize w.alloc (.cells #[.int .i64 42, .int .i64 x, .int .i64 z, .int .i64 s, .int .u16 nn] 44) = w0 at S0 M0 HO hc hf ⊢; generalize w.heap.size = ob at HO NO ⊢; have ho := HO.out.2.1
 with_reducible refine (words_42 S0.out (by omega) x z s nn).mono ?_
 rintro e w1 ⟨rfl, v1, s', m'⟩; replace HO := m'.two HO NO; clear ho NO; obtain ⟨HO, NO⟩ := HO; have ho := HO.out.2.1; have M1 := M0.tr m'; obtain ⟨y1, hy⟩ : ∃ q_, q_ = setF (Alu.shiftF y.s.r.sp (nn % 256)) (pairS 2 (Alu.shiftR y.s.r.sp (nn % 256)) (idle y)) := ⟨_, rfl⟩; rw [← hy] at s'; have Y1 := Lib.hid hy; clear hc hf; obtain ⟨hc, hf⟩ := s'.cp; have S1 := Lib.hid s'; clear s' m' hy; go_wp2
 first | go_end0 | refine bodyPost_ret (results_none rfl _ _ _) rfl ?_
 refine ⟨rfl, v1, ?_, M1.out⟩
 have q := S1.out; have e := Y1.out.symm; subst e
 exact q.mo
theorem calc_1 (h0 : Sys procD ramC w P R M tb v y n) (hn : n < 960000) (x z s nn : Int) : Calls Tryz.prog 82 #[.pointer (some ⟨P, 0, none⟩), .agg #[.int .i64 1, .int .i64 x, .int .i64 z, .int .i64 s, .int .u16 nn]] w (PE procD ramC P R M tb v w (.tuple #[]) (y) (n + 0)) := by
 obtain ⟨S0, M0, HO, NO⟩ := h0.beg #[.int .i64 1, .int .i64 x, .int .i64 z, .int .i64 s, .int .u16 nn] 44; obtain ⟨hc, hf⟩ := S0.out.cp; clear h0; go_enter Tryz.func82, Tryz.ntmps82; go_wp2
 first | go_end0 | refine bodyPost_ret (results_none rfl _ _ _) rfl ?_
 exact ⟨rfl, v, S0.out, M0.out⟩
theorem calc_18 (h0 : Sys procD ramC w P R M tb v y n) (hn : n < 960000) (x z s nn : Int) : Calls Tryz.prog 82 #[.pointer (some ⟨P, 0, none⟩), .agg #[.int .i64 18, .int .i64 x, .int .i64 z, .int .i64 s, .int .u16 nn]] w (PE procD ramC P R M tb v w (.tuple #[]) (setF (Alu.fl 16 (Alu.turnO x y.s.r.a)) (setA (Alu.turnR x y.s.r.a y.s.r.f) y)) (n + 0)) := by
 have ab := h0.ab; have fb := h0.fb; obtain ⟨S0, M0, HO, NO⟩ := h0.beg #[.int .i64 18, .int .i64 x, .int .i64 z, .int .i64 s, .int .u16 nn] 44; obtain ⟨hc, hf⟩ := S0.out.cp; clear h0; go_enter Tryz.func82, Tryz.ntmps82; go_wp2; generalize w.alloc (.cells #[.int .i64 18, .int .i64 x, .int .i64 z, .int .i64 s, .int .u16 nn] 44) = w0 at S0 M0 HO hc hf ⊢; generalize w.heap.size = ob at HO NO ⊢; have ho := HO.out.2.1; replace S0 := Lib.hid S0.out.drew; replace M0 := Lib.hid (M0.out.trans (PM.drew P R M tb v w0)); replace HO := Lib.hid HO.out.drew; clear ho hc hf
 refine rh HO (fun hHeld => ?_)
 generalize World.drew w0 = u0 at hHeld S0 M0 HO ⊢; refine tz 0 ?_; refine tz 1 ?_; refine tz 2 ?_; refine tz 3 ?_; refine tz 4 ?_; refine tz 5 ?_; refine tz 6 ?_; refine tz 7 ?_; refine tz 8 ?_; refine tz 10 ?_; refine tz 11 ?_; refine tz 12 ?_; refine tz 13 ?_; refine tz 14 ?_
 refine wpAnyH_ready (rs := [9, 15]) (by kernel_rfl) (by simp) ?_
 refine (ac rfl (fun K hK => ?_) (ac rfl (fun K hK => ?_) AllReadyH.nil))
 ·skip
  obtain ⟨hc, hf⟩ := S0.out.cp; go_simp; clear hc hf
  refine hK.out _ _ hHeld (fun hNew => ?_); clear hK K hHeld; have hHeld := hNew; clear hNew
  try simp only [Act.put, qqA, qqB, qqC]
  refine re1 15 (fun K hK => ?_)
  obtain ⟨hc, hf⟩ := S0.out.cp; go_simp; clear hc hf
  refine hK.out _ _ hHeld (fun hNew => ?_); clear hK K hHeld; have hHeld := hNew; clear hNew
  try simp only [Act.put, qqA, qqB, qqC]
  refine re1 16 (fun K hK => ?_)
  go_simp
  go_wp2_with (go_at_call 97; (with_reducible refine (Alu.turn_c x y.s.r.a y.s.r.f ab.1 ab.2 fb.1 fb.2 _).mono ?_); rintro e u' ⟨rfl, rfl⟩)
  refine hK.out _ _ hHeld (fun hNew => ?_); clear hK K hHeld; have hHeld := hNew; clear hNew
  refine tz 17 ?_; refine tz 18 ?_; refine tz 19 ?_; refine tz 20 ?_; refine tz 21 ?_; refine tz 22 ?_; refine tz 23 ?_
  refine re1 24 (fun K hK => ?_)
  obtain ⟨hc, hf⟩ := S0.out.cp; go_simp; clear hc hf; have q := S0.out.stA (Alu.turnR x y.s.r.a y.s.r.f) (turnR_b _ _ _ ab.1 ab.2).1 (turnR_b _ _ _ ab.1 ab.2).2; have s' := q.1; have m' := q.2; clear q; replace HO := m'.two HO NO; clear NO; obtain ⟨HO, NO⟩ := HO
  refine hK.out _ _ ⟨HO.out.2.1, trivial⟩ (fun hNew => ?_); clear hK K hHeld; have hHeld := hNew; clear hNew
  generalize World.setCell u0 ⟨P, 0, none⟩ (.int .u8 (Alu.turnR x y.s.r.a y.s.r.f)) = w1 at hHeld s' m' HO ⊢; have M1 := M0.tr m'; obtain ⟨y1, hy⟩ : ∃ q_, q_ = setA (Alu.turnR x y.s.r.a y.s.r.f) y := ⟨_, rfl⟩; rw [← hy] at s'; have Y1 := Lib.hid hy; have S1 := Lib.hid s'; clear s' m' hy; refine tz 25 ?_; refine tz 26 ?_; refine tz 27 ?_; refine tz 28 ?_
  refine re1 29 (fun K hK => ?_)
  obtain ⟨hc, hf⟩ := S1.out.cp; go_simp; clear hc hf; have q := S1.out.stF (Alu.turnF x y.s.r.a y.s.r.f) (Alu.FL_b _ _ _ _).1 (Alu.FL_b _ _ _ _).2; have s' := q.1; have m' := q.2; clear q; replace HO := m'.two HO NO; clear NO; obtain ⟨HO, NO⟩ := HO
  refine hK.out _ _ ⟨HO.out.2.1, trivial⟩ (fun hNew => ?_); clear hK K hHeld; have hHeld := hNew; clear hNew
  generalize World.setCell w1 ⟨P, 1, none⟩ (.int .u8 (Alu.turnF x y.s.r.a y.s.r.f)) = w2 at hHeld s' m' HO ⊢; have M2 := M1.tr m'; obtain ⟨y2, hy⟩ : ∃ q_, q_ = setF (Alu.turnF x y.s.r.a y.s.r.f) y1 := ⟨_, rfl⟩; rw [← hy] at s'; have Y2 := Lib.hid hy; have S2 := Lib.hid s'; clear s' m' hy
  refine wpAnyH_done (by kernel_rfl) ?_ _
  obtain ⟨hc, hf⟩ := S2.out.cp; have ho := HO.out.2.1; have tzz := tq8 x y.s.r.a y.s.r.f
  have ef : y2.s.r.f = Alu.turnF x y.s.r.a y.s.r.f := by rw [Y2.out, Y1.out]; rfl
  rw [ef] at hc; have EF := Lib.hid ef; clear ef; have Q := Lib.hid (S2.out.stF (Alu.fl 16 (Alu.turnO x y.s.r.a)) (Alu.fl_bd 16 (by decide) _).1 (Int.lt_of_le_of_lt (Alu.fl_bd 16 (by decide) _).2 (by decide))); go_wp2
  first | go_end0 | refine bodyPost_ret (results_none rfl _ _ _) rfl ?_
  refine ⟨rfl, v, ?_, M2.out.trans Q.out.2⟩
  have q := Q.out.1
  have e1 : setF (Alu.fl 16 (Alu.turnO x y.s.r.a)) (setA (Alu.turnR x y.s.r.a y.s.r.f) y) = setF (Alu.fl 16 (Alu.turnO x y.s.r.a)) y2 := by rw [Y2.out, Y1.out]; rfl
  rw [e1]
  exact q.mo
 ·skip
  obtain ⟨hc, hf⟩ := S0.out.cp; go_simp; clear hc hf
  refine hK.out _ _ hHeld (fun hNew => ?_); clear hK K hHeld; have hHeld := hNew; clear hNew
  try simp only [Act.put, qqA, qqB, qqC]
  refine re1 9 (fun K hK => ?_)
  obtain ⟨hc, hf⟩ := S0.out.cp; go_simp; clear hc hf
  refine hK.out _ _ hHeld (fun hNew => ?_); clear hK K hHeld; have hHeld := hNew; clear hNew
  try simp only [Act.put, qqA, qqB, qqC]
  refine re1 16 (fun K hK => ?_)
  go_simp
  go_wp2_with (go_at_call 97; (with_reducible refine (Alu.turn_c x y.s.r.a y.s.r.f ab.1 ab.2 fb.1 fb.2 _).mono ?_); rintro e u' ⟨rfl, rfl⟩)
  refine hK.out _ _ hHeld (fun hNew => ?_); clear hK K hHeld; have hHeld := hNew; clear hNew
  refine tz 17 ?_; refine tz 18 ?_; refine tz 19 ?_; refine tz 20 ?_; refine tz 21 ?_; refine tz 22 ?_; refine tz 23 ?_
  refine re1 24 (fun K hK => ?_)
  obtain ⟨hc, hf⟩ := S0.out.cp; go_simp; clear hc hf; have q := S0.out.stA (Alu.turnR x y.s.r.a y.s.r.f) (turnR_b _ _ _ ab.1 ab.2).1 (turnR_b _ _ _ ab.1 ab.2).2; have s' := q.1; have m' := q.2; clear q; replace HO := m'.two HO NO; clear NO; obtain ⟨HO, NO⟩ := HO
  refine hK.out _ _ ⟨HO.out.2.1, trivial⟩ (fun hNew => ?_); clear hK K hHeld; have hHeld := hNew; clear hNew
  generalize World.setCell u0 ⟨P, 0, none⟩ (.int .u8 (Alu.turnR x y.s.r.a y.s.r.f)) = w1 at hHeld s' m' HO ⊢; have M1 := M0.tr m'; obtain ⟨y1, hy⟩ : ∃ q_, q_ = setA (Alu.turnR x y.s.r.a y.s.r.f) y := ⟨_, rfl⟩; rw [← hy] at s'; have Y1 := Lib.hid hy; have S1 := Lib.hid s'; clear s' m' hy; refine tz 25 ?_; refine tz 26 ?_; refine tz 27 ?_; refine tz 28 ?_
  refine re1 29 (fun K hK => ?_)
  obtain ⟨hc, hf⟩ := S1.out.cp; go_simp; clear hc hf; have q := S1.out.stF (Alu.turnF x y.s.r.a y.s.r.f) (Alu.FL_b _ _ _ _).1 (Alu.FL_b _ _ _ _).2; have s' := q.1; have m' := q.2; clear q; replace HO := m'.two HO NO; clear NO; obtain ⟨HO, NO⟩ := HO
  refine hK.out _ _ ⟨HO.out.2.1, trivial⟩ (fun hNew => ?_); clear hK K hHeld; have hHeld := hNew; clear hNew
  generalize World.setCell w1 ⟨P, 1, none⟩ (.int .u8 (Alu.turnF x y.s.r.a y.s.r.f)) = w2 at hHeld s' m' HO ⊢; have M2 := M1.tr m'; obtain ⟨y2, hy⟩ : ∃ q_, q_ = setF (Alu.turnF x y.s.r.a y.s.r.f) y1 := ⟨_, rfl⟩; rw [← hy] at s'; have Y2 := Lib.hid hy; have S2 := Lib.hid s'; clear s' m' hy
  refine wpAnyH_done (by kernel_rfl) ?_ _
  obtain ⟨hc, hf⟩ := S2.out.cp; have ho := HO.out.2.1; have tzz := tq8 x y.s.r.a y.s.r.f
  have ef : y2.s.r.f = Alu.turnF x y.s.r.a y.s.r.f := by rw [Y2.out, Y1.out]; rfl
  rw [ef] at hc; have EF := Lib.hid ef; clear ef; have Q := Lib.hid (S2.out.stF (Alu.fl 16 (Alu.turnO x y.s.r.a)) (Alu.fl_bd 16 (by decide) _).1 (Int.lt_of_le_of_lt (Alu.fl_bd 16 (by decide) _).2 (by decide))); go_wp2
  first | go_end0 | refine bodyPost_ret (results_none rfl _ _ _) rfl ?_
  refine ⟨rfl, v, ?_, M2.out.trans Q.out.2⟩
  have q := Q.out.1
  have e1 : setF (Alu.fl 16 (Alu.turnO x y.s.r.a)) (setA (Alu.turnR x y.s.r.a y.s.r.f) y) = setF (Alu.fl 16 (Alu.turnO x y.s.r.a)) y2 := by rw [Y2.out, Y1.out]; rfl
  rw [e1]
  exact q.mo
theorem calc_19 (h0 : Sys procD ramC w P R M tb v y n) (hn : n < 960000) (x z s nn : Int) : Calls Tryz.prog 82 #[.pointer (some ⟨P, 0, none⟩), .agg #[.int .i64 19, .int .i64 x, .int .i64 z, .int .i64 s, .int .u16 nn]] w (PE procD ramC P R M tb v w (.tuple #[]) (setF (Alu.daaF y.s.r.a y.s.r.f) (setA (Alu.daaR y.s.r.a y.s.r.f) y)) (n + 0)) := by
 have ab := h0.ab; have fb := h0.fb; obtain ⟨S0, M0, HO, NO⟩ := h0.beg #[.int .i64 19, .int .i64 x, .int .i64 z, .int .i64 s, .int .u16 nn] 44; obtain ⟨hc, hf⟩ := S0.out.cp; clear h0; go_enter Tryz.func82, Tryz.ntmps82; go_wp2; generalize w.alloc (.cells #[.int .i64 19, .int .i64 x, .int .i64 z, .int .i64 s, .int .u16 nn] 44) = w0 at S0 M0 HO hc hf ⊢; generalize w.heap.size = ob at HO NO ⊢; have ho := HO.out.2.1; replace S0 := Lib.hid S0.out.drew; replace M0 := Lib.hid (M0.out.trans (PM.drew P R M tb v w0)); replace HO := Lib.hid HO.out.drew; clear ho hc hf
 refine rh HO (fun hHeld => ?_)
 generalize World.drew w0 = u0 at hHeld S0 M0 HO ⊢; refine tz 0 ?_; refine tz 1 ?_; refine tz 2 ?_; refine tz 3 ?_; refine tz 4 ?_; refine tz 5 ?_; refine tz 6 ?_; refine tz 8 ?_; refine tz 9 ?_; refine tz 10 ?_; refine tz 11 ?_; refine tz 12 ?_
 refine wpAnyH_ready (rs := [7, 13]) (by kernel_rfl) (by simp) ?_
 refine (ac rfl (fun K hK => ?_) (ac rfl (fun K hK => ?_) AllReadyH.nil))
 ·skip
  obtain ⟨hc, hf⟩ := S0.out.cp; go_simp; clear hc hf
  refine hK.out _ _ hHeld (fun hNew => ?_); clear hK K hHeld; have hHeld := hNew; clear hNew
  try simp only [Act.put, qqA, qqB, qqC]
  refine re1 13 (fun K hK => ?_)
  obtain ⟨hc, hf⟩ := S0.out.cp; go_simp; clear hc hf
  refine hK.out _ _ hHeld (fun hNew => ?_); clear hK K hHeld; have hHeld := hNew; clear hNew
  try simp only [Act.put, qqA, qqB, qqC]
  refine re1 14 (fun K hK => ?_)
  go_simp
  go_wp2_with (go_at_call 98; (with_reducible refine (Alu.daa_c y.s.r.a y.s.r.f ab.1 ab.2 fb.1 fb.2 _).mono ?_); rintro e u' ⟨rfl, rfl⟩)
  refine hK.out _ _ hHeld (fun hNew => ?_); clear hK K hHeld; have hHeld := hNew; clear hNew
  refine tz 15 ?_; refine tz 16 ?_; refine tz 17 ?_; refine tz 18 ?_; refine tz 19 ?_; refine tz 20 ?_; refine tz 21 ?_
  refine re1 22 (fun K hK => ?_)
  obtain ⟨hc, hf⟩ := S0.out.cp; go_simp; clear hc hf; have q := S0.out.stA (Alu.daaR y.s.r.a y.s.r.f) (daaR_b _ _).1 (daaR_b _ _).2; have s' := q.1; have m' := q.2; clear q; replace HO := m'.two HO NO; clear NO; obtain ⟨HO, NO⟩ := HO
  refine hK.out _ _ ⟨HO.out.2.1, trivial⟩ (fun hNew => ?_); clear hK K hHeld; have hHeld := hNew; clear hNew
  generalize World.setCell u0 ⟨P, 0, none⟩ (.int .u8 (Alu.daaR y.s.r.a y.s.r.f)) = w1 at hHeld s' m' HO ⊢; have M1 := M0.tr m'; obtain ⟨y1, hy⟩ : ∃ q_, q_ = setA (Alu.daaR y.s.r.a y.s.r.f) y := ⟨_, rfl⟩; rw [← hy] at s'; have Y1 := Lib.hid hy; have S1 := Lib.hid s'; clear s' m' hy; refine tz 23 ?_; refine tz 24 ?_; refine tz 25 ?_; refine tz 26 ?_
  refine re1 27 (fun K hK => ?_)
  obtain ⟨hc, hf⟩ := S1.out.cp; go_simp; clear hc hf; have q := S1.out.stF (Alu.daaF y.s.r.a y.s.r.f) (Alu.FL_b _ _ _ _).1 (Alu.FL_b _ _ _ _).2; have s' := q.1; have m' := q.2; clear q; replace HO := m'.two HO NO; clear NO; obtain ⟨HO, NO⟩ := HO
  refine hK.out _ _ ⟨HO.out.2.1, trivial⟩ (fun hNew => ?_); clear hK K hHeld; have hHeld := hNew; clear hNew
  generalize World.setCell w1 ⟨P, 1, none⟩ (.int .u8 (Alu.daaF y.s.r.a y.s.r.f)) = w2 at hHeld s' m' HO ⊢; have M2 := M1.tr m'; obtain ⟨y2, hy⟩ : ∃ q_, q_ = setF (Alu.daaF y.s.r.a y.s.r.f) y1 := ⟨_, rfl⟩; rw [← hy] at s'; have Y2 := Lib.hid hy; have S2 := Lib.hid s'; clear s' m' hy
  refine wpAnyH_done (by kernel_rfl) ?_ _
  obtain ⟨hc, hf⟩ := S2.out.cp; have ho := HO.out.2.1; go_wp2
  first | go_end0 | refine bodyPost_ret (results_none rfl _ _ _) rfl ?_
  refine ⟨rfl, v, ?_, M2.out⟩
  have q := S2.out; have e := Y2.out.symm; subst e; have e := Y1.out.symm; subst e
  exact q.mo
 ·skip
  obtain ⟨hc, hf⟩ := S0.out.cp; go_simp; clear hc hf
  refine hK.out _ _ hHeld (fun hNew => ?_); clear hK K hHeld; have hHeld := hNew; clear hNew
  try simp only [Act.put, qqA, qqB, qqC]
  refine re1 7 (fun K hK => ?_)
  obtain ⟨hc, hf⟩ := S0.out.cp; go_simp; clear hc hf
  refine hK.out _ _ hHeld (fun hNew => ?_); clear hK K hHeld; have hHeld := hNew; clear hNew
  try simp only [Act.put, qqA, qqB, qqC]
  refine re1 14 (fun K hK => ?_)
  go_simp
  go_wp2_with (go_at_call 98; (with_reducible refine (Alu.daa_c y.s.r.a y.s.r.f ab.1 ab.2 fb.1 fb.2 _).mono ?_); rintro e u' ⟨rfl, rfl⟩)
  refine hK.out _ _ hHeld (fun hNew => ?_); clear hK K hHeld; have hHeld := hNew; clear hNew
  refine tz 15 ?_; refine tz 16 ?_; refine tz 17 ?_; refine tz 18 ?_; refine tz 19 ?_; refine tz 20 ?_; refine tz 21 ?_
  refine re1 22 (fun K hK => ?_)
  obtain ⟨hc, hf⟩ := S0.out.cp; go_simp; clear hc hf; have q := S0.out.stA (Alu.daaR y.s.r.a y.s.r.f) (daaR_b _ _).1 (daaR_b _ _).2; have s' := q.1; have m' := q.2; clear q; replace HO := m'.two HO NO; clear NO; obtain ⟨HO, NO⟩ := HO
  refine hK.out _ _ ⟨HO.out.2.1, trivial⟩ (fun hNew => ?_); clear hK K hHeld; have hHeld := hNew; clear hNew
  generalize World.setCell u0 ⟨P, 0, none⟩ (.int .u8 (Alu.daaR y.s.r.a y.s.r.f)) = w1 at hHeld s' m' HO ⊢; have M1 := M0.tr m'; obtain ⟨y1, hy⟩ : ∃ q_, q_ = setA (Alu.daaR y.s.r.a y.s.r.f) y := ⟨_, rfl⟩; rw [← hy] at s'; have Y1 := Lib.hid hy; have S1 := Lib.hid s'; clear s' m' hy; refine tz 23 ?_; refine tz 24 ?_; refine tz 25 ?_; refine tz 26 ?_
  refine re1 27 (fun K hK => ?_)
  obtain ⟨hc, hf⟩ := S1.out.cp; go_simp; clear hc hf; have q := S1.out.stF (Alu.daaF y.s.r.a y.s.r.f) (Alu.FL_b _ _ _ _).1 (Alu.FL_b _ _ _ _).2; have s' := q.1; have m' := q.2; clear q; replace HO := m'.two HO NO; clear NO; obtain ⟨HO, NO⟩ := HO
  refine hK.out _ _ ⟨HO.out.2.1, trivial⟩ (fun hNew => ?_); clear hK K hHeld; have hHeld := hNew; clear hNew
  generalize World.setCell w1 ⟨P, 1, none⟩ (.int .u8 (Alu.daaF y.s.r.a y.s.r.f)) = w2 at hHeld s' m' HO ⊢; have M2 := M1.tr m'; obtain ⟨y2, hy⟩ : ∃ q_, q_ = setF (Alu.daaF y.s.r.a y.s.r.f) y1 := ⟨_, rfl⟩; rw [← hy] at s'; have Y2 := Lib.hid hy; have S2 := Lib.hid s'; clear s' m' hy
  refine wpAnyH_done (by kernel_rfl) ?_ _
  obtain ⟨hc, hf⟩ := S2.out.cp; have ho := HO.out.2.1; go_wp2
  first | go_end0 | refine bodyPost_ret (results_none rfl _ _ _) rfl ?_
  refine ⟨rfl, v, ?_, M2.out⟩
  have q := S2.out; have e := Y2.out.symm; subst e; have e := Y1.out.symm; subst e
  exact q.mo
theorem calc_20 (h0 : Sys procD ramC w P R M tb v y n) (hn : n < 960000) (x z s nn : Int) : Calls Tryz.prog 82 #[.pointer (some ⟨P, 0, none⟩), .agg #[.int .i64 20, .int .i64 x, .int .i64 z, .int .i64 s, .int .u16 nn]] w (PE procD ramC P R M tb v w (.tuple #[]) (setF (Alu.FL (Alu.zf y.s.r.f) true true (Alu.cf y.s.r.f)) (setA (255 - y.s.r.a) y)) (n + 0)) := by
 have ab := h0.ab; have fb := h0.fb; have hx := fl96 y.s.r.f fb.1 fb.2; have hxx := cpl8 y.s.r.a ab.1 ab.2; obtain ⟨S0, M0, HO, NO⟩ := h0.beg #[.int .i64 20, .int .i64 x, .int .i64 z, .int .i64 s, .int .u16 nn] 44; obtain ⟨hc, hf⟩ := S0.out.cp; clear h0; go_enter Tryz.func82, Tryz.ntmps82; go_wp2_with fail; generalize w.alloc (.cells #[.int .i64 20, .int .i64 x, .int .i64 z, .int .i64 s, .int .u16 nn] 44) = w0 at S0 M0 HO hc hf ⊢; generalize w.heap.size = ob at HO NO ⊢; have ho := HO.out.2.1
 (try rw [hxx])
 clear hxx; have q := S0.out.stA (255 - y.s.r.a) (by omega) (by omega); have s' := q.1; have m' := q.2; clear q; generalize (World.setCell w0 ⟨P, 0, none⟩ (.int .u8 (255 - y.s.r.a))) = w1 at s' m' ⊢; replace HO := m'.two HO NO; clear ho NO; obtain ⟨HO, NO⟩ := HO; have ho := HO.out.2.1; have M1 := M0.tr m'; obtain ⟨y1, hy⟩ : ∃ q_, q_ = setA (255 - y.s.r.a) y := ⟨_, rfl⟩; rw [← hy] at s'; have Y1 := Lib.hid hy; clear hc hf; obtain ⟨hc, hf⟩ := s'.cp; have S1 := Lib.hid s'; clear s' m' hy
 with_reducible refine (kept_p S1.out (by omega) 144).mono ?_
 rintro e w2 ⟨rfl, v2, s', m'⟩; replace HO := m'.two HO NO; clear ho NO; obtain ⟨HO, NO⟩ := HO; have ho := HO.out.2.1; have M2 := M1.tr m'; obtain ⟨y2, hy⟩ : ∃ q_, q_ = y1 := ⟨_, rfl⟩; rw [← hy] at s'; have Y2 := Lib.hid hy; clear hc hf; obtain ⟨hc, hf⟩ := s'.cp; have S2 := Lib.hid s'; clear s' m' hy
 have e2 : y1.s.r.f = y.s.r.f := by rw [Y1.out]; rfl
 rw [e2]; have E2 := Lib.hid e2; clear e2; go_wp2; have Q := Lib.hid (S2.out.stF (Alu.FL (Alu.zf y.s.r.f) true true (Alu.cf y.s.r.f)) (Alu.FL_b _ _ _ _).1 (Alu.FL_b _ _ _ _).2)
 first | go_end0 | refine bodyPost_ret (results_none rfl _ _ _) rfl ?_
 refine ⟨rfl, v2, ?_, M2.out.trans Q.out.2⟩
 have q := Q.out.1; have e := Y2.out.symm; subst e; have e := Y1.out.symm; subst e
 exact q.mo
theorem calc_21 (h0 : Sys procD ramC w P R M tb v y n) (hn : n < 960000) (x z s nn : Int) : Calls Tryz.prog 82 #[.pointer (some ⟨P, 0, none⟩), .agg #[.int .i64 21, .int .i64 x, .int .i64 z, .int .i64 s, .int .u16 nn]] w (PE procD ramC P R M tb v w (.tuple #[]) (setF (Alu.FL (Alu.zf y.s.r.f) false false true) y) (n + 0)) := by
 have fb := h0.fb; have hx := fl128 y.s.r.f fb.1 fb.2; obtain ⟨S0, M0, HO, NO⟩ := h0.beg #[.int .i64 21, .int .i64 x, .int .i64 z, .int .i64 s, .int .u16 nn] 44; obtain ⟨hc, hf⟩ := S0.out.cp; clear h0; go_enter Tryz.func82, Tryz.ntmps82; go_wp2_with fail; generalize w.alloc (.cells #[.int .i64 21, .int .i64 x, .int .i64 z, .int .i64 s, .int .u16 nn] 44) = w0 at S0 M0 HO hc hf ⊢; generalize w.heap.size = ob at HO NO ⊢; have ho := HO.out.2.1
 with_reducible refine (kept_p S0.out (by omega) 128).mono ?_
 rintro e w1 ⟨rfl, v1, s', m'⟩; replace HO := m'.two HO NO; clear ho NO; obtain ⟨HO, NO⟩ := HO; have ho := HO.out.2.1; have M1 := M0.tr m'; obtain ⟨y1, hy⟩ : ∃ q_, q_ = y := ⟨_, rfl⟩; rw [← hy] at s'; have Y1 := Lib.hid hy; clear hc hf; obtain ⟨hc, hf⟩ := s'.cp; have S1 := Lib.hid s'; clear s' m' hy; go_wp2; have Q := Lib.hid (S1.out.stF (Alu.FL (Alu.zf y.s.r.f) false false true) (Alu.FL_b _ _ _ _).1 (Alu.FL_b _ _ _ _).2)
 first | go_end0 | refine bodyPost_ret (results_none rfl _ _ _) rfl ?_
 refine ⟨rfl, v1, ?_, M1.out.trans Q.out.2⟩
 have q := Q.out.1; have e := Y1.out.symm; subst e
 exact q.mo
theorem calc_22 (h0 : Sys procD ramC w P R M tb v y n) (hn : n < 960000) (x z s nn : Int) : Calls Tryz.prog 82 #[.pointer (some ⟨P, 0, none⟩), .agg #[.int .i64 22, .int .i64 x, .int .i64 z, .int .i64 s, .int .u16 nn]] w (PE procD ramC P R M tb v w (.tuple #[]) (setF (Alu.FL (Alu.zf y.s.r.f) false false (!Alu.cf y.s.r.f)) y) (n + 0)) := by
 have fb := h0.fb; have hx := fl144 y.s.r.f fb.1 fb.2; obtain ⟨S0, M0, HO, NO⟩ := h0.beg #[.int .i64 22, .int .i64 x, .int .i64 z, .int .i64 s, .int .u16 nn] 44; obtain ⟨hc, hf⟩ := S0.out.cp; clear h0; go_enter Tryz.func82, Tryz.ntmps82; go_wp2_with fail; generalize w.alloc (.cells #[.int .i64 22, .int .i64 x, .int .i64 z, .int .i64 s, .int .u16 nn] 44) = w0 at S0 M0 HO hc hf ⊢; generalize w.heap.size = ob at HO NO ⊢; have ho := HO.out.2.1
 with_reducible refine (kept_p S0.out (by omega) 144).mono ?_
 rintro e w1 ⟨rfl, v1, s', m'⟩; replace HO := m'.two HO NO; clear ho NO; obtain ⟨HO, NO⟩ := HO; have ho := HO.out.2.1; have M1 := M0.tr m'; obtain ⟨y1, hy⟩ : ∃ q_, q_ = y := ⟨_, rfl⟩; rw [← hy] at s'; have Y1 := Lib.hid hy; clear hc hf; obtain ⟨hc, hf⟩ := s'.cp; have S1 := Lib.hid s'; clear s' m' hy; go_wp2; have Q := Lib.hid (S1.out.stF (Alu.FL (Alu.zf y.s.r.f) false false (!Alu.cf y.s.r.f)) (Alu.FL_b _ _ _ _).1 (Alu.FL_b _ _ _ _).2)
 first | go_end0 | refine bodyPost_ret (results_none rfl _ _ _) rfl ?_
 refine ⟨rfl, v1, ?_, M1.out.trans Q.out.2⟩
 have q := Q.out.1; have e := Y1.out.symm; subst e
 exact q.mo
end
end Go.Proofs.YtngdogldgcgnjaaGreat
