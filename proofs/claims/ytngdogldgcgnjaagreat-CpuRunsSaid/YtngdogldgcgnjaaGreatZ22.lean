/-
  What step does: for every world; the processor is there.
-/
import Derived.Test.YtngdogldgcgnjaaGreatZ21
set_option maxRecDepth 100000
set_option maxHeartbeats 8000000
namespace Go.Proofs.YtngdogldgcgnjaaGreat
open Go.ChangeShapes Go.WideShapes Go.ChangeAt Go.RowKit
open Reg
set_option linter.unusedVariables false
section
variable {w : World} {P R M tb n : Nat} {v : Value} {y : Sy}
theorem step_a (h0 : Sys procD ramC w P R M tb v y n) (hn : n < 600000) (hs : y.s.stop = true) : Calls Tryz.prog 18 #[.pointer (some ⟨P, 0, none⟩), .pointer (some ⟨tb, 0, none⟩)] w (PE procD ramC P R M tb v w (.agg (didC ⟨0, 0, 0, noOp, false⟩)) (standS y) (n + 12)) := by
 have S0 := Lib.hid (h0.below (own1 w (.cells #[.int .i64 0, .int .i64 0, .int .u16 0, .int .i64 0, .int .i64 0, .int .i64 0, .int .i64 0, .int .u16 0, .bool false] 46)))
 have M0 := Lib.hid (show PM P R M tb v w v (w.alloc (.cells #[.int .i64 0, .int .i64 0, .int .u16 0, .int .i64 0, .int .i64 0, .int .i64 0, .int .i64 0, .int .u16 0, .bool false] 46)) from PM.of (own1 w (.cells #[.int .i64 0, .int .i64 0, .int .u16 0, .int .i64 0, .int .i64 0, .int .i64 0, .int .i64 0, .int .u16 0, .bool false] 46)))
 have HR0 := Lib.hid (Has.new w #[.int .i64 0, .int .i64 0, .int .u16 0, .int .i64 0, .int .i64 0, .int .i64 0, .int .i64 0, .int .u16 0, .bool false] 46); have NR0 := Lib.hid (h0.new (Nat.le_refl w.heap.size)); have LR := Lib.hid (Nat.le_refl w.heap.size); obtain ⟨hc, hf⟩ := S0.out.cp; have hm := mI ⟨R, 0, none⟩; have hmp := mP ⟨R, 0, none⟩; clear h0; go_enter Tryz.func18, Tryz.ntmps18; go_wp2_with fail; generalize w.alloc (.cells #[.int .i64 0, .int .i64 0, .int .u16 0, .int .i64 0, .int .i64 0, .int .i64 0, .int .i64 0, .int .u16 0, .bool false] 46) = w0 at S0 M0 HR0 hc hf ⊢
 with_reducible refine (stand_p S0.out (by omega)).mono ?_
 rintro e w1 ⟨rfl, v1, s', m'⟩; have HR1 := Lib.hid (m'.has HR0.out NR0.out); have NR1 := Lib.hid (m'.far HR0.out.1 NR0.out); have M1 := M0.tr m'; obtain ⟨y1, hy⟩ : ∃ q_, q_ = standS y := ⟨_, rfl⟩; rw [← hy] at s'; have Y1 := Lib.hid hy
 (try clear hc hf)
 obtain ⟨hc, hf⟩ := s'.cp; have S1 := Lib.hid s'; clear s' m' hy; have hr := HR1.out.2.1; have hrf := HR1.out.2.2; go_wp2
 refine bodyPost_ret (v := .agg (didC ⟨0, 0, 0, noOp, false⟩)) (by simp [results, Tryz.results18, go_sem, hr, didC, noOp]) rfl ⟨rfl, v1, ?_, ((((((((M1.out.own LR.out 0 _).own LR.out 1 _).own LR.out 2 _).own LR.out 3 _).own LR.out 4 _).own LR.out 5 _).own LR.out 6 _).own LR.out 7 _).own LR.out 8 _⟩
 have q := fun x0 x1 x2 x3 x4 x5 x6 x7 x8 => ((((((((S1.out.own NR1.out 0 x0).own NR1.out 1 x1).own NR1.out 2 x2).own NR1.out 3 x3).own NR1.out 4 x4).own NR1.out 5 x5).own NR1.out 6 x6).own NR1.out 7 x7).own NR1.out 8 x8
 have e2 : standS y = y1 := by rw [Y1.out]
 rw [e2]
 exact Sys.mono (n' := n + 12) (q _ _ _ _ _ _ _ _ _) (by omega)
theorem step_b (h0 : Sys procD ramC w P R M tb v y n) (hn : n < 600000) (hs : y.s.stop = false) (hh : y.s.halt = true) (hp : pend y.m = 0) : Calls Tryz.prog 18 #[.pointer (some ⟨P, 0, none⟩), .pointer (some ⟨tb, 0, none⟩)] w (PE procD ramC P R M tb v w (.agg (didC ⟨0, 0, 0, noOp, false⟩)) (idle y) (n + 12)) := by
 have S0 := Lib.hid (h0.below (own1 w (.cells #[.int .i64 0, .int .i64 0, .int .u16 0, .int .i64 0, .int .i64 0, .int .i64 0, .int .i64 0, .int .u16 0, .bool false] 46)))
 have M0 := Lib.hid (show PM P R M tb v w v (w.alloc (.cells #[.int .i64 0, .int .i64 0, .int .u16 0, .int .i64 0, .int .i64 0, .int .i64 0, .int .i64 0, .int .u16 0, .bool false] 46)) from PM.of (own1 w (.cells #[.int .i64 0, .int .i64 0, .int .u16 0, .int .i64 0, .int .i64 0, .int .i64 0, .int .i64 0, .int .u16 0, .bool false] 46)))
 have HR0 := Lib.hid (Has.new w #[.int .i64 0, .int .i64 0, .int .u16 0, .int .i64 0, .int .i64 0, .int .i64 0, .int .i64 0, .int .u16 0, .bool false] 46); have NR0 := Lib.hid (h0.new (Nat.le_refl w.heap.size)); have LR := Lib.hid (Nat.le_refl w.heap.size); obtain ⟨hc, hf⟩ := S0.out.cp; have hm := mI ⟨R, 0, none⟩; have hmp := mP ⟨R, 0, none⟩; clear h0; have hp' := Lib.hid hp; go_enter Tryz.func18, Tryz.ntmps18; go_wp2_with fail; generalize w.alloc (.cells #[.int .i64 0, .int .i64 0, .int .u16 0, .int .i64 0, .int .i64 0, .int .i64 0, .int .i64 0, .int .u16 0, .bool false] 46) = w0 at S0 M0 HR0 hc hf ⊢
 with_reducible refine (pend_p S0.out).mono ?_
 rintro e w1 ⟨rfl, v1, s', m'⟩; have HR1 := Lib.hid (m'.has HR0.out NR0.out); have NR1 := Lib.hid (m'.far HR0.out.1 NR0.out); have M1 := M0.tr m'; obtain ⟨y1, hy⟩ : ∃ q_, q_ = y := ⟨_, rfl⟩; rw [← hy] at s'; have Y1 := Lib.hid hy
 (try clear hc hf)
 obtain ⟨hc, hf⟩ := s'.cp; have S1 := Lib.hid s'; clear s' m' hy
 have hp1 : (pend y.m == 0) = true := by rw [hp]; rfl
 have hh1 : y1.s.halt = true := by rw [Y1.out]; exact hh
 go_wp2_with fail
 with_reducible refine (idle_p S1.out (by omega)).mono ?_
 rintro e w2 ⟨rfl, v2, s', m'⟩; have HR2 := Lib.hid (m'.has HR1.out NR1.out); have NR2 := Lib.hid (m'.far HR1.out.1 NR1.out); have M2 := M1.tr m'; obtain ⟨y2, hy⟩ : ∃ q_, q_ = idle y1 := ⟨_, rfl⟩; rw [← hy] at s'; have Y2 := Lib.hid hy
 (try clear hc hf)
 obtain ⟨hc, hf⟩ := s'.cp; have S2 := Lib.hid s'; clear s' m' hy; have hr := HR2.out.2.1; have hrf := HR2.out.2.2; go_wp2
 refine bodyPost_ret (v := .agg (didC ⟨0, 0, 0, noOp, false⟩)) (by simp [results, Tryz.results18, go_sem, hr, didC, noOp]) rfl ⟨rfl, v2, ?_, ((((((((M2.out.own LR.out 0 _).own LR.out 1 _).own LR.out 2 _).own LR.out 3 _).own LR.out 4 _).own LR.out 5 _).own LR.out 6 _).own LR.out 7 _).own LR.out 8 _⟩
 have q := fun x0 x1 x2 x3 x4 x5 x6 x7 x8 => ((((((((S2.out.own NR2.out 0 x0).own NR2.out 1 x1).own NR2.out 2 x2).own NR2.out 3 x3).own NR2.out 4 x4).own NR2.out 5 x5).own NR2.out 6 x6).own NR2.out 7 x7).own NR2.out 8 x8
 have e2 : idle y = y2 := by rw [Y2.out, Y1.out]
 rw [e2]
 exact Sys.mono (n' := n + 12) (q _ _ _ _ _ _ _ _ _) (by omega)
theorem step_ct (h0 : Sys procD ramC w P R M tb v y n) (hn : n < 600000) (hs : y.s.stop = false) (hh : y.s.halt = true) (hi : y.s.ime = true) (hp : pend y.m ≠ 0) : Calls Tryz.prog 18 #[.pointer (some ⟨P, 0, none⟩), .pointer (some ⟨tb, 0, none⟩)] w (PE procD ramC P R M tb v w (.agg (didC ⟨2, lowV (pend y.m), 0, noOp, false⟩)) (interS (lowV (pend y.m)) (setHalt false y)) (n + 12)) := by
 have S0 := Lib.hid (h0.below (own1 w (.cells #[.int .i64 0, .int .i64 0, .int .u16 0, .int .i64 0, .int .i64 0, .int .i64 0, .int .i64 0, .int .u16 0, .bool false] 46)))
 have M0 := Lib.hid (show PM P R M tb v w v (w.alloc (.cells #[.int .i64 0, .int .i64 0, .int .u16 0, .int .i64 0, .int .i64 0, .int .i64 0, .int .i64 0, .int .u16 0, .bool false] 46)) from PM.of (own1 w (.cells #[.int .i64 0, .int .i64 0, .int .u16 0, .int .i64 0, .int .i64 0, .int .i64 0, .int .i64 0, .int .u16 0, .bool false] 46)))
 have HR0 := Lib.hid (Has.new w #[.int .i64 0, .int .i64 0, .int .u16 0, .int .i64 0, .int .i64 0, .int .i64 0, .int .i64 0, .int .u16 0, .bool false] 46); have NR0 := Lib.hid (h0.new (Nat.le_refl w.heap.size)); have LR := Lib.hid (Nat.le_refl w.heap.size); obtain ⟨hc, hf⟩ := S0.out.cp; have hm := mI ⟨R, 0, none⟩; have hmp := mP ⟨R, 0, none⟩; clear h0; have HS := Lib.hid hs; have HH := Lib.hid hh; have HI := Lib.hid hi; have HP := Lib.hid hp; clear hh hi hp; go_enter Tryz.func18, Tryz.ntmps18; go_wp2_with fail; generalize w.alloc (.cells #[.int .i64 0, .int .i64 0, .int .u16 0, .int .i64 0, .int .i64 0, .int .i64 0, .int .i64 0, .int .u16 0, .bool false] 46) = w0 at S0 M0 HR0 hc hf ⊢
 with_reducible refine (pend_p S0.out).mono ?_
 rintro e w1 ⟨rfl, v1, s', m'⟩; have HR1 := Lib.hid (m'.has HR0.out NR0.out); have NR1 := Lib.hid (m'.far HR0.out.1 NR0.out); have M1 := M0.tr m'; obtain ⟨y1, hy⟩ : ∃ q_, q_ = y := ⟨_, rfl⟩; rw [← hy] at s'; have Y1 := Lib.hid hy
 (try clear hc hf)
 obtain ⟨hc, hf⟩ := s'.cp; have S1 := Lib.hid s'; clear s' m' hy
 have PB := pend_bd y.m (fun a => S0.out.okm a)
 have hs1 : y1.s.stop = false := by rw [Y1.out]; exact HS.out
 have hh1 : y1.s.halt = true := by rw [Y1.out]; exact HH.out
 have hi1 : y1.s.ime = true := by rw [Y1.out]; exact HI.out
 have hp1 : (pend y.m == 0) = false := by simpa using HP.out
 have hp2 : (pend y.m != 0) = true := by simpa using HP.out
 rw [hh1, hi1] at hc; go_wp2_with fail; clear hp1 hp2 hh1 hi1 hs1; have q := S1.out.stHalt false; have s' := q.1; have m' := q.2; clear q; generalize World.setCell w1 ⟨P, 12, none⟩ (.bool false) = w2 at s' m' ⊢; obtain ⟨v2, hv⟩ : ∃ q_, q_ = v1 := ⟨_, rfl⟩
 skip
 have HR2 := Lib.hid (m'.has HR1.out NR1.out); have NR2 := Lib.hid (m'.far HR1.out.1 NR1.out); have M2 := M1.tr m'; obtain ⟨y2, hy⟩ : ∃ q_, q_ = setHalt false y1 := ⟨_, rfl⟩; rw [← hy] at s'; have Y2 := Lib.hid hy; clear hc hf; obtain ⟨hc, hf⟩ := s'.cp; have S2 := Lib.hid s'; clear s' m' hy
 with_reducible refine (tz8 (pend y.m) PB.1 PB.2 HP.out _).mono ?_
 rintro e u' ⟨rfl, rfl⟩; have LV := lowV_lt (pend y.m); go_wp2_with fail
 with_reducible refine (inter_p S2.out (by omega) (lowV (pend y.m)) LV).mono ?_
 rintro e w3 ⟨rfl, v3, s', m'⟩; have HR3 := Lib.hid (m'.has HR2.out NR2.out); have NR3 := Lib.hid (m'.far HR2.out.1 NR2.out); have M3 := M2.tr m'; obtain ⟨y3, hy⟩ : ∃ q_, q_ = interS (lowV (pend y.m)) y2 := ⟨_, rfl⟩; rw [← hy] at s'; have Y3 := Lib.hid hy
 (try clear hc hf)
 obtain ⟨hc, hf⟩ := s'.cp; have S3 := Lib.hid s'; clear s' m' hy; have hr := HR3.out.2.1; have hrf := HR3.out.2.2; go_wp2
 refine bodyPost_ret (v := .agg (didC ⟨2, lowV (pend y.m), 0, noOp, false⟩)) (by simp [results, Tryz.results18, go_sem, hr, didC, noOp]) rfl ⟨rfl, v3, ?_, ((((((((M3.out.own LR.out 0 _).own LR.out 1 _).own LR.out 2 _).own LR.out 3 _).own LR.out 4 _).own LR.out 5 _).own LR.out 6 _).own LR.out 7 _).own LR.out 8 _⟩
 have q := fun x0 x1 x2 x3 x4 x5 x6 x7 x8 => ((((((((S3.out.own NR3.out 0 x0).own NR3.out 1 x1).own NR3.out 2 x2).own NR3.out 3 x3).own NR3.out 4 x4).own NR3.out 5 x5).own NR3.out 6 x6).own NR3.out 7 x7).own NR3.out 8 x8
 have e2 : interS (lowV (pend y.m)) (setHalt false y) = y3 := by rw [Y3.out, Y2.out, Y1.out]
 rw [e2]
 exact Sys.mono (n' := n + 12) (q _ _ _ _ _ _ _ _ _) (by omega)
theorem step_cf (h0 : Sys procD ramC w P R M tb v y n) (hn : n < 600000) (hs : y.s.stop = false) (hh : y.s.halt = false) (hi : y.s.ime = true) (hp : pend y.m ≠ 0) : Calls Tryz.prog 18 #[.pointer (some ⟨P, 0, none⟩), .pointer (some ⟨tb, 0, none⟩)] w (PE procD ramC P R M tb v w (.agg (didC ⟨2, lowV (pend y.m), 0, noOp, false⟩)) (interS (lowV (pend y.m)) (setHalt false y)) (n + 12)) := by
 have S0 := Lib.hid (h0.below (own1 w (.cells #[.int .i64 0, .int .i64 0, .int .u16 0, .int .i64 0, .int .i64 0, .int .i64 0, .int .i64 0, .int .u16 0, .bool false] 46)))
 have M0 := Lib.hid (show PM P R M tb v w v (w.alloc (.cells #[.int .i64 0, .int .i64 0, .int .u16 0, .int .i64 0, .int .i64 0, .int .i64 0, .int .i64 0, .int .u16 0, .bool false] 46)) from PM.of (own1 w (.cells #[.int .i64 0, .int .i64 0, .int .u16 0, .int .i64 0, .int .i64 0, .int .i64 0, .int .i64 0, .int .u16 0, .bool false] 46)))
 have HR0 := Lib.hid (Has.new w #[.int .i64 0, .int .i64 0, .int .u16 0, .int .i64 0, .int .i64 0, .int .i64 0, .int .i64 0, .int .u16 0, .bool false] 46); have NR0 := Lib.hid (h0.new (Nat.le_refl w.heap.size)); have LR := Lib.hid (Nat.le_refl w.heap.size); obtain ⟨hc, hf⟩ := S0.out.cp; have hm := mI ⟨R, 0, none⟩; have hmp := mP ⟨R, 0, none⟩; clear h0; have HS := Lib.hid hs; have HH := Lib.hid hh; have HI := Lib.hid hi; have HP := Lib.hid hp; clear hh hi hp; go_enter Tryz.func18, Tryz.ntmps18; go_wp2_with fail; generalize w.alloc (.cells #[.int .i64 0, .int .i64 0, .int .u16 0, .int .i64 0, .int .i64 0, .int .i64 0, .int .i64 0, .int .u16 0, .bool false] 46) = w0 at S0 M0 HR0 hc hf ⊢
 with_reducible refine (pend_p S0.out).mono ?_
 rintro e w1 ⟨rfl, v1, s', m'⟩; have HR1 := Lib.hid (m'.has HR0.out NR0.out); have NR1 := Lib.hid (m'.far HR0.out.1 NR0.out); have M1 := M0.tr m'; obtain ⟨y1, hy⟩ : ∃ q_, q_ = y := ⟨_, rfl⟩; rw [← hy] at s'; have Y1 := Lib.hid hy
 (try clear hc hf)
 obtain ⟨hc, hf⟩ := s'.cp; have S1 := Lib.hid s'; clear s' m' hy
 have PB := pend_bd y.m (fun a => S0.out.okm a)
 have hs1 : y1.s.stop = false := by rw [Y1.out]; exact HS.out
 have hh1 : y1.s.halt = false := by rw [Y1.out]; exact HH.out
 have hi1 : y1.s.ime = true := by rw [Y1.out]; exact HI.out
 have hp1 : (pend y.m == 0) = false := by simpa using HP.out
 have hp2 : (pend y.m != 0) = true := by simpa using HP.out
 rw [hh1, hi1] at hc; go_wp2_with fail; clear hp1 hp2 hh1 hi1 hs1; have q := S1.out.stHalt false; have s' := q.1; have m' := q.2; clear q; generalize World.setCell w1 ⟨P, 12, none⟩ (.bool false) = w2 at s' m' ⊢; obtain ⟨v2, hv⟩ : ∃ q_, q_ = v1 := ⟨_, rfl⟩
 skip
 have HR2 := Lib.hid (m'.has HR1.out NR1.out); have NR2 := Lib.hid (m'.far HR1.out.1 NR1.out); have M2 := M1.tr m'; obtain ⟨y2, hy⟩ : ∃ q_, q_ = setHalt false y1 := ⟨_, rfl⟩; rw [← hy] at s'; have Y2 := Lib.hid hy; clear hc hf; obtain ⟨hc, hf⟩ := s'.cp; have S2 := Lib.hid s'; clear s' m' hy
 with_reducible refine (tz8 (pend y.m) PB.1 PB.2 HP.out _).mono ?_
 rintro e u' ⟨rfl, rfl⟩; have LV := lowV_lt (pend y.m); go_wp2_with fail
 with_reducible refine (inter_p S2.out (by omega) (lowV (pend y.m)) LV).mono ?_
 rintro e w3 ⟨rfl, v3, s', m'⟩; have HR3 := Lib.hid (m'.has HR2.out NR2.out); have NR3 := Lib.hid (m'.far HR2.out.1 NR2.out); have M3 := M2.tr m'; obtain ⟨y3, hy⟩ : ∃ q_, q_ = interS (lowV (pend y.m)) y2 := ⟨_, rfl⟩; rw [← hy] at s'; have Y3 := Lib.hid hy
 (try clear hc hf)
 obtain ⟨hc, hf⟩ := s'.cp; have S3 := Lib.hid s'; clear s' m' hy; have hr := HR3.out.2.1; have hrf := HR3.out.2.2; go_wp2
 refine bodyPost_ret (v := .agg (didC ⟨2, lowV (pend y.m), 0, noOp, false⟩)) (by simp [results, Tryz.results18, go_sem, hr, didC, noOp]) rfl ⟨rfl, v3, ?_, ((((((((M3.out.own LR.out 0 _).own LR.out 1 _).own LR.out 2 _).own LR.out 3 _).own LR.out 4 _).own LR.out 5 _).own LR.out 6 _).own LR.out 7 _).own LR.out 8 _⟩
 have q := fun x0 x1 x2 x3 x4 x5 x6 x7 x8 => ((((((((S3.out.own NR3.out 0 x0).own NR3.out 1 x1).own NR3.out 2 x2).own NR3.out 3 x3).own NR3.out 4 x4).own NR3.out 5 x5).own NR3.out 6 x6).own NR3.out 7 x7).own NR3.out 8 x8
 have e2 : interS (lowV (pend y.m)) (setHalt false y) = y3 := by rw [Y3.out, Y2.out, Y1.out]
 rw [e2]
 exact Sys.mono (n' := n + 12) (q _ _ _ _ _ _ _ _ _) (by omega)
theorem opV_halt (x : Bool) (y : Sy) : opV (setHalt x y) = opV y := rfl
theorem fetchN_halt (x : Bool) (k : Nat) : ∀ y : Sy, fetchN k (setHalt x y) = setHalt x (fetchN k y) := by
 induction k with
 | zero => intro y; rfl
 | succ k ih => intro y; exact ih (fetch1 y)
theorem takenV_halt (o : OpV) (x : Bool) (y : Sy) : takenV o (fetchS (setHalt x y)) = takenV o (fetchS y) := by
 have e : fetchS (setHalt x y) = setHalt x (fetchS y) := fetchN_halt x _ y; rw [e]; rfl
theorem step_d1 (h0 : Sys procD ramC w P R M tb v y n) (hn : n < 600000) (hs : y.s.stop = false) (hh : y.s.halt = true) (hi : y.s.ime = false) (hp : pend y.m ≠ 0) : Calls Tryz.prog 18 #[.pointer (some ⟨P, 0, none⟩), .pointer (some ⟨tb, 0, none⟩)] w (PE procD ramC P R M tb v w (.agg (didC ⟨1, 0, 0, opV y, takenV (opV y) (fetchS y)⟩)) (runS (setHalt false y)) (n + 12)) := by
 have S0 := Lib.hid (h0.below (own1 w (.cells #[.int .i64 0, .int .i64 0, .int .u16 0, .int .i64 0, .int .i64 0, .int .i64 0, .int .i64 0, .int .u16 0, .bool false] 46)))
 have M0 := Lib.hid (show PM P R M tb v w v (w.alloc (.cells #[.int .i64 0, .int .i64 0, .int .u16 0, .int .i64 0, .int .i64 0, .int .i64 0, .int .i64 0, .int .u16 0, .bool false] 46)) from PM.of (own1 w (.cells #[.int .i64 0, .int .i64 0, .int .u16 0, .int .i64 0, .int .i64 0, .int .i64 0, .int .i64 0, .int .u16 0, .bool false] 46)))
 have HR0 := Lib.hid (Has.new w #[.int .i64 0, .int .i64 0, .int .u16 0, .int .i64 0, .int .i64 0, .int .i64 0, .int .i64 0, .int .u16 0, .bool false] 46); have NR0 := Lib.hid (h0.new (Nat.le_refl w.heap.size)); have LR := Lib.hid (Nat.le_refl w.heap.size); obtain ⟨hc, hf⟩ := S0.out.cp; have hm := mI ⟨R, 0, none⟩; have hmp := mP ⟨R, 0, none⟩; clear h0; have HS := Lib.hid hs; have HH := Lib.hid hh; have HI := Lib.hid hi; have HP := Lib.hid hp; clear hh hi hp; go_enter Tryz.func18, Tryz.ntmps18; go_wp2_with fail; generalize w.alloc (.cells #[.int .i64 0, .int .i64 0, .int .u16 0, .int .i64 0, .int .i64 0, .int .i64 0, .int .i64 0, .int .u16 0, .bool false] 46) = w0 at S0 M0 HR0 hc hf ⊢
 with_reducible refine (pend_p S0.out).mono ?_
 rintro e w1 ⟨rfl, v1, s', m'⟩; have HR1 := Lib.hid (m'.has HR0.out NR0.out); have NR1 := Lib.hid (m'.far HR0.out.1 NR0.out); have M1 := M0.tr m'; obtain ⟨y1, hy⟩ : ∃ q_, q_ = y := ⟨_, rfl⟩; rw [← hy] at s'; have Y1 := Lib.hid hy
 (try clear hc hf)
 obtain ⟨hc, hf⟩ := s'.cp; have S1 := Lib.hid s'; clear s' m' hy
 have PB := pend_bd y.m (fun a => S0.out.okm a)
 have hs1 : y1.s.stop = false := by rw [Y1.out]; exact HS.out
 have hh1 : y1.s.halt = true := by rw [Y1.out]; exact HH.out
 have hi1 : y1.s.ime = false := by rw [Y1.out]; exact HI.out
 have hp1 : (pend y.m == 0) = false := by simpa using HP.out
 have hp2 : (pend y.m != 0) = true := by simpa using HP.out
 rw [hh1, hi1] at hc; go_wp2_with fail; clear hp1 hp2 hh1 hi1 hs1; have q := S1.out.stHalt false; have s' := q.1; have m' := q.2; clear q; generalize World.setCell w1 ⟨P, 12, none⟩ (.bool false) = w2 at s' m' ⊢; obtain ⟨v2, hv⟩ : ∃ q_, q_ = v1 := ⟨_, rfl⟩
 skip
 have HR2 := Lib.hid (m'.has HR1.out NR1.out); have NR2 := Lib.hid (m'.far HR1.out.1 NR1.out); have M2 := M1.tr m'; obtain ⟨y2, hy⟩ : ∃ q_, q_ = setHalt false y1 := ⟨_, rfl⟩; rw [← hy] at s'; have Y2 := Lib.hid hy; clear hc hf; obtain ⟨hc, hf⟩ := s'.cp; have S2 := Lib.hid s'; clear s' m' hy
 with_reducible refine (run_p S2.out (by omega)).mono ?_
 rintro e w3 ⟨rfl, v3, s', m'⟩; have HR3 := Lib.hid (m'.has HR2.out NR2.out); have NR3 := Lib.hid (m'.far HR2.out.1 NR2.out); have M3 := M2.tr m'; obtain ⟨y3, hy⟩ : ∃ q_, q_ = runS y2 := ⟨_, rfl⟩; rw [← hy] at s'; have Y3 := Lib.hid hy
 (try clear hc hf)
 obtain ⟨hc, hf⟩ := s'.cp; have S3 := Lib.hid s'; clear s' m' hy
 have ey2 : y2 = setHalt false y := by rw [Y2.out, Y1.out]
 rw [ey2]; obtain ⟨D, hD⟩ : ∃ q_, q_ = (⟨1, 0, 0, opV (setHalt false y), takenV (opV (setHalt false y)) (fetchS (setHalt false y))⟩ : DidV) := ⟨_, rfl⟩; have HD : Hid (opV y = D.o ∧ takenV (opV y) (fetchS y) = D.t) := Lib.hid (by rw [hD, opV_halt, takenV_halt]; exact ⟨rfl, rfl⟩)
 have d1 : D.what = 1 := by rw [hD]
 have d2 : D.n = 0 := by rw [hD]
 have d3 : D.at' = 0 := by rw [hD]
 rw [← hD]; have DD := Lib.hid hD; clear hD
 unfold didC
 rw [d1, d2, d3]; have hr := HR3.out.2.1; have hrf := HR3.out.2.2; go_wp2
 refine bodyPost_ret (v := .agg (didC ⟨1, 0, 0, D.o, D.t⟩)) (by simp [results, Tryz.results18, go_sem, hr, didC]) rfl ⟨?_, v3, ?_, ((((((((M3.out.own LR.out 0 _).own LR.out 1 _).own LR.out 2 _).own LR.out 3 _).own LR.out 4 _).own LR.out 5 _).own LR.out 6 _).own LR.out 7 _).own LR.out 8 _⟩
 ·rw [← HD.out.2, ← HD.out.1]
 have q := fun x0 x1 x2 x3 x4 x5 x6 x7 x8 => ((((((((S3.out.own NR3.out 0 x0).own NR3.out 1 x1).own NR3.out 2 x2).own NR3.out 3 x3).own NR3.out 4 x4).own NR3.out 5 x5).own NR3.out 6 x6).own NR3.out 7 x7).own NR3.out 8 x8
 have e2 : runS (setHalt false y) = y3 := by rw [Y3.out, ey2]
 rw [e2]
 exact Sys.mono (n' := n + 12) (q _ _ _ _ _ _ _ _ _) (by omega)
theorem step_d2 (h0 : Sys procD ramC w P R M tb v y n) (hn : n < 600000) (hs : y.s.stop = false) (hh : y.s.halt = false) (hi : y.s.ime = false) (hp : pend y.m ≠ 0) : Calls Tryz.prog 18 #[.pointer (some ⟨P, 0, none⟩), .pointer (some ⟨tb, 0, none⟩)] w (PE procD ramC P R M tb v w (.agg (didC ⟨1, 0, 0, opV y, takenV (opV y) (fetchS y)⟩)) (runS (setHalt false y)) (n + 12)) := by
 have S0 := Lib.hid (h0.below (own1 w (.cells #[.int .i64 0, .int .i64 0, .int .u16 0, .int .i64 0, .int .i64 0, .int .i64 0, .int .i64 0, .int .u16 0, .bool false] 46)))
 have M0 := Lib.hid (show PM P R M tb v w v (w.alloc (.cells #[.int .i64 0, .int .i64 0, .int .u16 0, .int .i64 0, .int .i64 0, .int .i64 0, .int .i64 0, .int .u16 0, .bool false] 46)) from PM.of (own1 w (.cells #[.int .i64 0, .int .i64 0, .int .u16 0, .int .i64 0, .int .i64 0, .int .i64 0, .int .i64 0, .int .u16 0, .bool false] 46)))
 have HR0 := Lib.hid (Has.new w #[.int .i64 0, .int .i64 0, .int .u16 0, .int .i64 0, .int .i64 0, .int .i64 0, .int .i64 0, .int .u16 0, .bool false] 46); have NR0 := Lib.hid (h0.new (Nat.le_refl w.heap.size)); have LR := Lib.hid (Nat.le_refl w.heap.size); obtain ⟨hc, hf⟩ := S0.out.cp; have hm := mI ⟨R, 0, none⟩; have hmp := mP ⟨R, 0, none⟩; clear h0; have HS := Lib.hid hs; have HH := Lib.hid hh; have HI := Lib.hid hi; have HP := Lib.hid hp; clear hh hi hp; go_enter Tryz.func18, Tryz.ntmps18; go_wp2_with fail; generalize w.alloc (.cells #[.int .i64 0, .int .i64 0, .int .u16 0, .int .i64 0, .int .i64 0, .int .i64 0, .int .i64 0, .int .u16 0, .bool false] 46) = w0 at S0 M0 HR0 hc hf ⊢
 with_reducible refine (pend_p S0.out).mono ?_
 rintro e w1 ⟨rfl, v1, s', m'⟩; have HR1 := Lib.hid (m'.has HR0.out NR0.out); have NR1 := Lib.hid (m'.far HR0.out.1 NR0.out); have M1 := M0.tr m'; obtain ⟨y1, hy⟩ : ∃ q_, q_ = y := ⟨_, rfl⟩; rw [← hy] at s'; have Y1 := Lib.hid hy
 (try clear hc hf)
 obtain ⟨hc, hf⟩ := s'.cp; have S1 := Lib.hid s'; clear s' m' hy
 have PB := pend_bd y.m (fun a => S0.out.okm a)
 have hs1 : y1.s.stop = false := by rw [Y1.out]; exact HS.out
 have hh1 : y1.s.halt = false := by rw [Y1.out]; exact HH.out
 have hi1 : y1.s.ime = false := by rw [Y1.out]; exact HI.out
 have hp1 : (pend y.m == 0) = false := by simpa using HP.out
 have hp2 : (pend y.m != 0) = true := by simpa using HP.out
 rw [hh1, hi1] at hc; go_wp2_with fail; clear hp1 hp2 hh1 hi1 hs1; have q := S1.out.stHalt false; have s' := q.1; have m' := q.2; clear q; generalize World.setCell w1 ⟨P, 12, none⟩ (.bool false) = w2 at s' m' ⊢; obtain ⟨v2, hv⟩ : ∃ q_, q_ = v1 := ⟨_, rfl⟩
 skip
 have HR2 := Lib.hid (m'.has HR1.out NR1.out); have NR2 := Lib.hid (m'.far HR1.out.1 NR1.out); have M2 := M1.tr m'; obtain ⟨y2, hy⟩ : ∃ q_, q_ = setHalt false y1 := ⟨_, rfl⟩; rw [← hy] at s'; have Y2 := Lib.hid hy; clear hc hf; obtain ⟨hc, hf⟩ := s'.cp; have S2 := Lib.hid s'; clear s' m' hy
 with_reducible refine (run_p S2.out (by omega)).mono ?_
 rintro e w3 ⟨rfl, v3, s', m'⟩; have HR3 := Lib.hid (m'.has HR2.out NR2.out); have NR3 := Lib.hid (m'.far HR2.out.1 NR2.out); have M3 := M2.tr m'; obtain ⟨y3, hy⟩ : ∃ q_, q_ = runS y2 := ⟨_, rfl⟩; rw [← hy] at s'; have Y3 := Lib.hid hy
 (try clear hc hf)
 obtain ⟨hc, hf⟩ := s'.cp; have S3 := Lib.hid s'; clear s' m' hy
 have ey2 : y2 = setHalt false y := by rw [Y2.out, Y1.out]
 rw [ey2]; obtain ⟨D, hD⟩ : ∃ q_, q_ = (⟨1, 0, 0, opV (setHalt false y), takenV (opV (setHalt false y)) (fetchS (setHalt false y))⟩ : DidV) := ⟨_, rfl⟩; have HD : Hid (opV y = D.o ∧ takenV (opV y) (fetchS y) = D.t) := Lib.hid (by rw [hD, opV_halt, takenV_halt]; exact ⟨rfl, rfl⟩)
 have d1 : D.what = 1 := by rw [hD]
 have d2 : D.n = 0 := by rw [hD]
 have d3 : D.at' = 0 := by rw [hD]
 rw [← hD]; have DD := Lib.hid hD; clear hD
 unfold didC
 rw [d1, d2, d3]; have hr := HR3.out.2.1; have hrf := HR3.out.2.2; go_wp2
 refine bodyPost_ret (v := .agg (didC ⟨1, 0, 0, D.o, D.t⟩)) (by simp [results, Tryz.results18, go_sem, hr, didC]) rfl ⟨?_, v3, ?_, ((((((((M3.out.own LR.out 0 _).own LR.out 1 _).own LR.out 2 _).own LR.out 3 _).own LR.out 4 _).own LR.out 5 _).own LR.out 6 _).own LR.out 7 _).own LR.out 8 _⟩
 ·rw [← HD.out.2, ← HD.out.1]
 have q := fun x0 x1 x2 x3 x4 x5 x6 x7 x8 => ((((((((S3.out.own NR3.out 0 x0).own NR3.out 1 x1).own NR3.out 2 x2).own NR3.out 3 x3).own NR3.out 4 x4).own NR3.out 5 x5).own NR3.out 6 x6).own NR3.out 7 x7).own NR3.out 8 x8
 have e2 : runS (setHalt false y) = y3 := by rw [Y3.out, ey2]
 rw [e2]
 exact Sys.mono (n' := n + 12) (q _ _ _ _ _ _ _ _ _) (by omega)
theorem step_d4 (h0 : Sys procD ramC w P R M tb v y n) (hn : n < 600000) (hs : y.s.stop = false) (hh : y.s.halt = false) (hi : y.s.ime = false) (hp : pend y.m = 0) : Calls Tryz.prog 18 #[.pointer (some ⟨P, 0, none⟩), .pointer (some ⟨tb, 0, none⟩)] w (PE procD ramC P R M tb v w (.agg (didC ⟨1, 0, 0, opV y, takenV (opV y) (fetchS y)⟩)) (runS (setHalt false y)) (n + 12)) := by
 have S0 := Lib.hid (h0.below (own1 w (.cells #[.int .i64 0, .int .i64 0, .int .u16 0, .int .i64 0, .int .i64 0, .int .i64 0, .int .i64 0, .int .u16 0, .bool false] 46)))
 have M0 := Lib.hid (show PM P R M tb v w v (w.alloc (.cells #[.int .i64 0, .int .i64 0, .int .u16 0, .int .i64 0, .int .i64 0, .int .i64 0, .int .i64 0, .int .u16 0, .bool false] 46)) from PM.of (own1 w (.cells #[.int .i64 0, .int .i64 0, .int .u16 0, .int .i64 0, .int .i64 0, .int .i64 0, .int .i64 0, .int .u16 0, .bool false] 46)))
 have HR0 := Lib.hid (Has.new w #[.int .i64 0, .int .i64 0, .int .u16 0, .int .i64 0, .int .i64 0, .int .i64 0, .int .i64 0, .int .u16 0, .bool false] 46); have NR0 := Lib.hid (h0.new (Nat.le_refl w.heap.size)); have LR := Lib.hid (Nat.le_refl w.heap.size); obtain ⟨hc, hf⟩ := S0.out.cp; have hm := mI ⟨R, 0, none⟩; have hmp := mP ⟨R, 0, none⟩; clear h0; have HS := Lib.hid hs; have HH := Lib.hid hh; have HI := Lib.hid hi; have HP := Lib.hid hp; clear hh hi hp; go_enter Tryz.func18, Tryz.ntmps18; go_wp2_with fail; generalize w.alloc (.cells #[.int .i64 0, .int .i64 0, .int .u16 0, .int .i64 0, .int .i64 0, .int .i64 0, .int .i64 0, .int .u16 0, .bool false] 46) = w0 at S0 M0 HR0 hc hf ⊢
 with_reducible refine (pend_p S0.out).mono ?_
 rintro e w1 ⟨rfl, v1, s', m'⟩; have HR1 := Lib.hid (m'.has HR0.out NR0.out); have NR1 := Lib.hid (m'.far HR0.out.1 NR0.out); have M1 := M0.tr m'; obtain ⟨y1, hy⟩ : ∃ q_, q_ = y := ⟨_, rfl⟩; rw [← hy] at s'; have Y1 := Lib.hid hy
 (try clear hc hf)
 obtain ⟨hc, hf⟩ := s'.cp; have S1 := Lib.hid s'; clear s' m' hy
 have PB := pend_bd y.m (fun a => S0.out.okm a)
 have hs1 : y1.s.stop = false := by rw [Y1.out]; exact HS.out
 have hh1 : y1.s.halt = false := by rw [Y1.out]; exact HH.out
 have hi1 : y1.s.ime = false := by rw [Y1.out]; exact HI.out
 have hp1 : (pend y.m == 0) = true := by simpa using HP.out
 have hp2 : (pend y.m != 0) = false := by simp [HP.out]
 rw [hh1, hi1] at hc; go_wp2_with fail; clear hp1 hp2 hh1 hi1 hs1; have q := S1.out.stHalt false; have s' := q.1; have m' := q.2; clear q; generalize World.setCell w1 ⟨P, 12, none⟩ (.bool false) = w2 at s' m' ⊢; obtain ⟨v2, hv⟩ : ∃ q_, q_ = v1 := ⟨_, rfl⟩
 skip
 have HR2 := Lib.hid (m'.has HR1.out NR1.out); have NR2 := Lib.hid (m'.far HR1.out.1 NR1.out); have M2 := M1.tr m'; obtain ⟨y2, hy⟩ : ∃ q_, q_ = setHalt false y1 := ⟨_, rfl⟩; rw [← hy] at s'; have Y2 := Lib.hid hy; clear hc hf; obtain ⟨hc, hf⟩ := s'.cp; have S2 := Lib.hid s'; clear s' m' hy
 with_reducible refine (run_p S2.out (by omega)).mono ?_
 rintro e w3 ⟨rfl, v3, s', m'⟩; have HR3 := Lib.hid (m'.has HR2.out NR2.out); have NR3 := Lib.hid (m'.far HR2.out.1 NR2.out); have M3 := M2.tr m'; obtain ⟨y3, hy⟩ : ∃ q_, q_ = runS y2 := ⟨_, rfl⟩; rw [← hy] at s'; have Y3 := Lib.hid hy
 (try clear hc hf)
 obtain ⟨hc, hf⟩ := s'.cp; have S3 := Lib.hid s'; clear s' m' hy
 have ey2 : y2 = setHalt false y := by rw [Y2.out, Y1.out]
 rw [ey2]; obtain ⟨D, hD⟩ : ∃ q_, q_ = (⟨1, 0, 0, opV (setHalt false y), takenV (opV (setHalt false y)) (fetchS (setHalt false y))⟩ : DidV) := ⟨_, rfl⟩; have HD : Hid (opV y = D.o ∧ takenV (opV y) (fetchS y) = D.t) := Lib.hid (by rw [hD, opV_halt, takenV_halt]; exact ⟨rfl, rfl⟩)
 have d1 : D.what = 1 := by rw [hD]
 have d2 : D.n = 0 := by rw [hD]
 have d3 : D.at' = 0 := by rw [hD]
 rw [← hD]; have DD := Lib.hid hD; clear hD
 unfold didC
 rw [d1, d2, d3]; have hr := HR3.out.2.1; have hrf := HR3.out.2.2; go_wp2
 refine bodyPost_ret (v := .agg (didC ⟨1, 0, 0, D.o, D.t⟩)) (by simp [results, Tryz.results18, go_sem, hr, didC]) rfl ⟨?_, v3, ?_, ((((((((M3.out.own LR.out 0 _).own LR.out 1 _).own LR.out 2 _).own LR.out 3 _).own LR.out 4 _).own LR.out 5 _).own LR.out 6 _).own LR.out 7 _).own LR.out 8 _⟩
 ·rw [← HD.out.2, ← HD.out.1]
 have q := fun x0 x1 x2 x3 x4 x5 x6 x7 x8 => ((((((((S3.out.own NR3.out 0 x0).own NR3.out 1 x1).own NR3.out 2 x2).own NR3.out 3 x3).own NR3.out 4 x4).own NR3.out 5 x5).own NR3.out 6 x6).own NR3.out 7 x7).own NR3.out 8 x8
 have e2 : runS (setHalt false y) = y3 := by rw [Y3.out, ey2]
 rw [e2]
 exact Sys.mono (n' := n + 12) (q _ _ _ _ _ _ _ _ _) (by omega)
theorem step_d3 (h0 : Sys procD ramC w P R M tb v y n) (hn : n < 600000) (hs : y.s.stop = false) (hh : y.s.halt = false) (hi : y.s.ime = true) (hp : pend y.m = 0) : Calls Tryz.prog 18 #[.pointer (some ⟨P, 0, none⟩), .pointer (some ⟨tb, 0, none⟩)] w (PE procD ramC P R M tb v w (.agg (didC ⟨1, 0, 0, opV y, takenV (opV y) (fetchS y)⟩)) (runS (setHalt false y)) (n + 12)) := by
 have S0 := Lib.hid (h0.below (own1 w (.cells #[.int .i64 0, .int .i64 0, .int .u16 0, .int .i64 0, .int .i64 0, .int .i64 0, .int .i64 0, .int .u16 0, .bool false] 46)))
 have M0 := Lib.hid (show PM P R M tb v w v (w.alloc (.cells #[.int .i64 0, .int .i64 0, .int .u16 0, .int .i64 0, .int .i64 0, .int .i64 0, .int .i64 0, .int .u16 0, .bool false] 46)) from PM.of (own1 w (.cells #[.int .i64 0, .int .i64 0, .int .u16 0, .int .i64 0, .int .i64 0, .int .i64 0, .int .i64 0, .int .u16 0, .bool false] 46)))
 have HR0 := Lib.hid (Has.new w #[.int .i64 0, .int .i64 0, .int .u16 0, .int .i64 0, .int .i64 0, .int .i64 0, .int .i64 0, .int .u16 0, .bool false] 46); have NR0 := Lib.hid (h0.new (Nat.le_refl w.heap.size)); have LR := Lib.hid (Nat.le_refl w.heap.size); obtain ⟨hc, hf⟩ := S0.out.cp; have hm := mI ⟨R, 0, none⟩; have hmp := mP ⟨R, 0, none⟩; clear h0; have HS := Lib.hid hs; have HH := Lib.hid hh; have HI := Lib.hid hi; have HP := Lib.hid hp; clear hh hi hp; go_enter Tryz.func18, Tryz.ntmps18; go_wp2_with fail; generalize w.alloc (.cells #[.int .i64 0, .int .i64 0, .int .u16 0, .int .i64 0, .int .i64 0, .int .i64 0, .int .i64 0, .int .u16 0, .bool false] 46) = w0 at S0 M0 HR0 hc hf ⊢
 with_reducible refine (pend_p S0.out).mono ?_
 rintro e w1 ⟨rfl, v1, s', m'⟩; have HR1 := Lib.hid (m'.has HR0.out NR0.out); have NR1 := Lib.hid (m'.far HR0.out.1 NR0.out); have M1 := M0.tr m'; obtain ⟨y1, hy⟩ : ∃ q_, q_ = y := ⟨_, rfl⟩; rw [← hy] at s'; have Y1 := Lib.hid hy
 (try clear hc hf)
 obtain ⟨hc, hf⟩ := s'.cp; have S1 := Lib.hid s'; clear s' m' hy
 have PB := pend_bd y.m (fun a => S0.out.okm a)
 have hs1 : y1.s.stop = false := by rw [Y1.out]; exact HS.out
 have hh1 : y1.s.halt = false := by rw [Y1.out]; exact HH.out
 have hi1 : y1.s.ime = true := by rw [Y1.out]; exact HI.out
 have hp1 : (pend y.m == 0) = true := by simpa using HP.out
 have hp2 : (pend y.m != 0) = false := by simp [HP.out]
 rw [hh1, hi1] at hc; go_wp2_with fail; clear hp1 hp2 hh1 hi1 hs1; have q := S1.out.stHalt false; have s' := q.1; have m' := q.2; clear q; generalize World.setCell w1 ⟨P, 12, none⟩ (.bool false) = w2 at s' m' ⊢; obtain ⟨v2, hv⟩ : ∃ q_, q_ = v1 := ⟨_, rfl⟩
 skip
 have HR2 := Lib.hid (m'.has HR1.out NR1.out); have NR2 := Lib.hid (m'.far HR1.out.1 NR1.out); have M2 := M1.tr m'; obtain ⟨y2, hy⟩ : ∃ q_, q_ = setHalt false y1 := ⟨_, rfl⟩; rw [← hy] at s'; have Y2 := Lib.hid hy; clear hc hf; obtain ⟨hc, hf⟩ := s'.cp; have S2 := Lib.hid s'; clear s' m' hy
 with_reducible refine (run_p S2.out (by omega)).mono ?_
 rintro e w3 ⟨rfl, v3, s', m'⟩; have HR3 := Lib.hid (m'.has HR2.out NR2.out); have NR3 := Lib.hid (m'.far HR2.out.1 NR2.out); have M3 := M2.tr m'; obtain ⟨y3, hy⟩ : ∃ q_, q_ = runS y2 := ⟨_, rfl⟩; rw [← hy] at s'; have Y3 := Lib.hid hy
 (try clear hc hf)
 obtain ⟨hc, hf⟩ := s'.cp; have S3 := Lib.hid s'; clear s' m' hy
 have ey2 : y2 = setHalt false y := by rw [Y2.out, Y1.out]
 rw [ey2]; obtain ⟨D, hD⟩ : ∃ q_, q_ = (⟨1, 0, 0, opV (setHalt false y), takenV (opV (setHalt false y)) (fetchS (setHalt false y))⟩ : DidV) := ⟨_, rfl⟩; have HD : Hid (opV y = D.o ∧ takenV (opV y) (fetchS y) = D.t) := Lib.hid (by rw [hD, opV_halt, takenV_halt]; exact ⟨rfl, rfl⟩)
 have d1 : D.what = 1 := by rw [hD]
 have d2 : D.n = 0 := by rw [hD]
 have d3 : D.at' = 0 := by rw [hD]
 rw [← hD]; have DD := Lib.hid hD; clear hD
 unfold didC
 rw [d1, d2, d3]; have hr := HR3.out.2.1; have hrf := HR3.out.2.2; go_wp2
 refine bodyPost_ret (v := .agg (didC ⟨1, 0, 0, D.o, D.t⟩)) (by simp [results, Tryz.results18, go_sem, hr, didC]) rfl ⟨?_, v3, ?_, ((((((((M3.out.own LR.out 0 _).own LR.out 1 _).own LR.out 2 _).own LR.out 3 _).own LR.out 4 _).own LR.out 5 _).own LR.out 6 _).own LR.out 7 _).own LR.out 8 _⟩
 ·rw [← HD.out.2, ← HD.out.1]
 have q := fun x0 x1 x2 x3 x4 x5 x6 x7 x8 => ((((((((S3.out.own NR3.out 0 x0).own NR3.out 1 x1).own NR3.out 2 x2).own NR3.out 3 x3).own NR3.out 4 x4).own NR3.out 5 x5).own NR3.out 6 x6).own NR3.out 7 x7).own NR3.out 8 x8
 have e2 : runS (setHalt false y) = y3 := by rw [Y3.out, ey2]
 rw [e2]
 exact Sys.mono (n' := n + 12) (q _ _ _ _ _ _ _ _ _) (by omega)
def stepD0 (y : Sy) : DidV := { stepD y with at' := 0 }
theorem step_p (h0 : Sys procD ramC w P R M tb v y n) (hn : n < 600000) : Calls Tryz.prog 18 #[.pointer (some ⟨P, 0, none⟩), .pointer (some ⟨tb, 0, none⟩)] w (PE procD ramC P R M tb v w (.agg (didC (stepD0 y))) (stepS y) (n + 12)) := by
 unfold stepS stepD0 stepD
 cases hs : y.s.stop
 ·cases hh : y.s.halt
  ·cases hi : y.s.ime
   ·by_cases hp : pend y.m = 0
    ·simpa using step_d4 h0 hn hs hh hi hp
    ·simpa using step_d2 h0 hn hs hh hi hp
   ·by_cases hp : pend y.m = 0
    ·simpa [hp] using step_d3 h0 hn hs hh hi hp
    ·simpa [hp] using step_cf h0 hn hs hh hi hp
  ·by_cases hp : pend y.m = 0
   ·simpa [hp] using step_b h0 hn hs hh hp
   ·cases hi : y.s.ime
    ·simpa [hp] using step_d1 h0 hn hs hh hi hp
    ·simpa [hp] using step_ct h0 hn hs hh hi hp
 ·simpa [standS] using step_a h0 hn hs
end
end Go.Proofs.YtngdogldgcgnjaaGreat
