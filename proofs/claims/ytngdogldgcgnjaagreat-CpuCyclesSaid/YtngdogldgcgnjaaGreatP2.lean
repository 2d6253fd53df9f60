/-
  What the stack's calls do: for every world; the processor is there.
-/
import Derived.Test.YtngdogldgcgnjaaGreatP1
namespace Go.Proofs.YtngdogldgcgnjaaGreat
open Go.ChangeShapes Go.WideShapes Go.ChangeAt Go.RowKit
open Reg
set_option linter.unusedVariables false
set_option maxRecDepth 100000
section
variable {w : World} {P R M tb n : Nat} {v : Value} {y : Sy}
theorem or16n (h l : Int) (h1 : 0 ≤ h) (h2 : h < 256) (h3 : 0 ≤ l) (h4 : l < 256) : bits .or .u16 (h * 256) l = h * 256 + l := Reg.or16 h l h1 h2 h3 h4
set_option maxHeartbeats 2000000 in
theorem store_p (h0 : Sys procD ramC w P R M tb v y n) (hn : n < 990000) (x : Int) (x0 : 0 ≤ x) (x1 : x < 65536) : Calls Tryz.prog 52 #[.pointer (some ⟨P, 0, none⟩), .int .u16 x] w (PE procD ramC P R M tb v w (.tuple #[]) (storeS x y) (n + 2)) := by
  have hw := dn_w y.s.r.sp
  have hm := mW ⟨R, 0, none⟩
  have S0 := Lib.hid h0
  have M0 := Lib.hid (PM.refl P R M tb v w)
  obtain ⟨hc, hf⟩ := h0.cp
  clear h0
  go_enter Tryz.func52, Tryz.ntmps52
  go_wp2
  clear hw
  have q := S0.out.stSP (dn y.s.r.sp) (dn_b _).1 (dn_b _).2
  have s' := q.1
  have m' := q.2
  clear q
  generalize (World.setCell w ⟨P, 8, none⟩ (.int .u16 (dn y.s.r.sp))) = w1 at s' m' ⊢
  have M1 := Lib.hid (M0.out.trans m')
  obtain ⟨y1, hy⟩ : ∃ q_, q_ = setSP (dn y.s.r.sp) y := ⟨_, rfl⟩
  rw [← hy] at s'
  have Y1 := Lib.hid hy
  clear hc hf
  obtain ⟨hc, hf⟩ := s'.cp
  have S1 := Lib.hid s'
  clear s' m' hy
  have hs1 : y1.s.r.sp = dn y.s.r.sp := by rw [Y1.out]; rfl
  have HS1 := Lib.hid hs1
  clear hs1
  have S1' := Lib.hid S1.out.drew
  have M1' := Lib.hid (M1.out.trans (PM.drew P R M tb v w1))
  clear hc hf
  obtain ⟨hc, hf⟩ := S1'.out.cp
  go_still_tail 15, (by kernel_rfl)
  change wpList _ _ _ _ _ (World.drew w1)
  generalize World.drew w1 = u1 at hc hf S1' M1' ⊢
  clear S1 M1
  have S1 := S1'
  have M1 := M1'
  clear S1' M1'
  go_wp2_with fail
  with_reducible refine (write_p S1.out (by omega) y1.s.r.sp (x / 256) S1.out.spb.1 S1.out.spb.2 (by omega) (by omega)).mono ?_
  rintro e w2 ⟨rfl, v2, s', m'⟩
  have M2 := Lib.hid (M1.out.trans m')
  obtain ⟨y2, hy⟩ : ∃ q_, q_ = wr y1.s.r.sp (x / 256) y1 := ⟨_, rfl⟩
  rw [← hy] at s'
  have Y2 := Lib.hid hy
  clear hc hf
  obtain ⟨hc, hf⟩ := s'.cp
  have S2 := Lib.hid s'
  clear s' m' hy
  have hw := dn_w y2.s.r.sp
  go_wp2
  clear hw
  have q := S2.out.stSP (dn y2.s.r.sp) (dn_b _).1 (dn_b _).2
  have s' := q.1
  have m' := q.2
  clear q
  generalize (World.setCell w2 ⟨P, 8, none⟩ (.int .u16 (dn y2.s.r.sp))) = w3 at s' m' ⊢
  have M3 := Lib.hid (M2.out.trans m')
  obtain ⟨y3, hy⟩ : ∃ q_, q_ = setSP (dn y2.s.r.sp) y2 := ⟨_, rfl⟩
  rw [← hy] at s'
  have Y3 := Lib.hid hy
  clear hc hf
  obtain ⟨hc, hf⟩ := s'.cp
  have S3 := Lib.hid s'
  clear s' m' hy
  have S3' := Lib.hid S3.out.drew
  have M3' := Lib.hid (M3.out.trans (PM.drew P R M tb v2 w3))
  clear hc hf
  obtain ⟨hc, hf⟩ := S3'.out.cp
  go_still_tail 14, (by kernel_rfl)
  change wpList _ _ _ _ _ (World.drew w3)
  generalize World.drew w3 = u3 at hc hf S3' M3' ⊢
  clear S3 M3
  have S3 := S3'
  have M3 := M3'
  clear S3' M3'
  go_wp2_with fail
  with_reducible refine (write_p S3.out (by omega) y3.s.r.sp (x % 256) S3.out.spb.1 S3.out.spb.2 (by omega) (by omega)).mono ?_
  rintro e w4 ⟨rfl, v4, s', m'⟩
  have M4 := Lib.hid (M3.out.trans m')
  obtain ⟨y4, hy⟩ : ∃ q_, q_ = wr y3.s.r.sp (x % 256) y3 := ⟨_, rfl⟩
  rw [← hy] at s'
  have Y4 := Lib.hid hy
  clear hc hf
  obtain ⟨hc, hf⟩ := s'.cp
  have S4 := Lib.hid s'
  clear s' m' hy
  go_wp2
  go_end0
  refine ⟨rfl, v4, ?_, M4.out⟩
  have q := S4.out
  have e := Y4.out.symm
  subst e
  have e := Y3.out.symm
  subst e
  have e := Y2.out.symm
  subst e
  have e := Y1.out.symm
  subst e
  exact Sys.mono (n' := n + 2) q (by omega)
set_option maxHeartbeats 2000000 in
theorem push_p (h0 : Sys procD ramC w P R M tb v y n) (hn : n < 980000) (x : Int) (x0 : 0 ≤ x) (x1 : x < 65536) : Calls Tryz.prog 77 #[.pointer (some ⟨P, 0, none⟩), .int .u16 x] w (PE procD ramC P R M tb v w (.tuple #[]) (pushS x y) (n + 3)) := by
  have hm := mI ⟨R, 0, none⟩
  have S0 := Lib.hid h0
  have M0 := Lib.hid (PM.refl P R M tb v w)
  obtain ⟨hc, hf⟩ := h0.cp
  clear h0
  go_enter Tryz.func77, Tryz.ntmps77
  go_wp2_with fail
  with_reducible refine (idle_p S0.out (by omega)).mono ?_
  rintro e w1 ⟨rfl, v1, s', m'⟩
  have M1 := Lib.hid (M0.out.trans m')
  obtain ⟨y1, hy⟩ : ∃ q_, q_ = idle y := ⟨_, rfl⟩
  rw [← hy] at s'
  have Y1 := Lib.hid hy
  clear hc hf
  obtain ⟨hc, hf⟩ := s'.cp
  have S1 := Lib.hid s'
  clear s' m' hy
  go_wp2_with fail
  with_reducible refine (store_p S1.out (by omega) x x0 x1).mono ?_
  rintro e w2 ⟨rfl, v2, s', m'⟩
  have M2 := Lib.hid (M1.out.trans m')
  obtain ⟨y2, hy⟩ : ∃ q_, q_ = storeS x y1 := ⟨_, rfl⟩
  rw [← hy] at s'
  have Y2 := Lib.hid hy
  clear hc hf
  obtain ⟨hc, hf⟩ := s'.cp
  have S2 := Lib.hid s'
  clear s' m' hy
  go_wp2
  go_end0
  refine ⟨rfl, v2, ?_, M2.out⟩
  have q := S2.out
  have e := Y2.out.symm
  subst e
  have e := Y1.out.symm
  subst e
  exact Sys.mono (n' := n + 3) q (by omega)
set_option maxHeartbeats 2000000 in
theorem pop_p (h0 : Sys procD ramC w P R M tb v y n) (hn : n < 990000) : Calls Tryz.prog 79 #[.pointer (some ⟨P, 0, none⟩)] w (PE procD ramC P R M tb v w (.int .u16 (popV y)) (popS y) (n + 2)) := by
  have hm := mR ⟨R, 0, none⟩
  have S0 := Lib.hid h0
  have M0 := Lib.hid (PM.refl P R M tb v w)
  obtain ⟨hc, hf⟩ := h0.cp
  clear h0
  go_enter Tryz.func79, Tryz.ntmps79
  go_wp2
  have S0' := Lib.hid S0.out.drew
  have M0' := Lib.hid (M0.out.trans (PM.drew P R M tb v w))
  clear hc hf
  obtain ⟨hc, hf⟩ := S0'.out.cp
  go_still_tail 12, (by kernel_rfl)
  change wpList _ _ _ _ _ (World.drew w)
  generalize World.drew w = u0 at hc hf S0' M0' ⊢
  clear S0 M0
  have S0 := S0'
  have M0 := M0'
  clear S0' M0'
  go_wp2_with fail
  with_reducible refine (read_p S0.out (by omega) y.s.r.sp S0.out.spb.1 S0.out.spb.2).mono ?_
  rintro e w1 ⟨rfl, v1, s', m'⟩
  have M1 := Lib.hid (M0.out.trans m')
  obtain ⟨y1, hy⟩ : ∃ q_, q_ = rd 1 y.s.r.sp y := ⟨_, rfl⟩
  rw [← hy] at s'
  have Y1 := Lib.hid hy
  clear hc hf
  obtain ⟨hc, hf⟩ := s'.cp
  have S1 := Lib.hid s'
  clear s' m' hy
  have hw := up_w y1.s.r.sp
  go_wp2
  clear hw
  have q := S1.out.stSP (up y1.s.r.sp) (up_b _).1 (up_b _).2
  have s' := q.1
  have m' := q.2
  clear q
  generalize (World.setCell w1 ⟨P, 8, none⟩ (.int .u16 (up y1.s.r.sp))) = w2 at s' m' ⊢
  have M2 := Lib.hid (M1.out.trans m')
  obtain ⟨y2, hy⟩ : ∃ q_, q_ = setSP (up y1.s.r.sp) y1 := ⟨_, rfl⟩
  rw [← hy] at s'
  have Y2 := Lib.hid hy
  clear hc hf
  obtain ⟨hc, hf⟩ := s'.cp
  have S2 := Lib.hid s'
  clear s' m' hy
  have S2' := Lib.hid S2.out.drew
  have M2' := Lib.hid (M2.out.trans (PM.drew P R M tb v1 w2))
  clear hc hf
  obtain ⟨hc, hf⟩ := S2'.out.cp
  go_still_tail 12, (by kernel_rfl)
  change wpList _ _ _ _ _ (World.drew w2)
  generalize World.drew w2 = u2 at hc hf S2' M2' ⊢
  clear S2 M2
  have S2 := S2'
  have M2 := M2'
  clear S2' M2'
  go_wp2_with fail
  with_reducible refine (read_p S2.out (by omega) y2.s.r.sp S2.out.spb.1 S2.out.spb.2).mono ?_
  rintro e w3 ⟨rfl, v3, s', m'⟩
  have M3 := Lib.hid (M2.out.trans m')
  obtain ⟨y3, hy⟩ : ∃ q_, q_ = rd 1 y2.s.r.sp y2 := ⟨_, rfl⟩
  rw [← hy] at s'
  have Y3 := Lib.hid hy
  clear hc hf
  obtain ⟨hc, hf⟩ := s'.cp
  have S3 := Lib.hid s'
  clear s' m' hy
  have hb := S2.out.okm y2.s.r.sp
  have hl := S0.out.okm y.s.r.sp
  have ho := or16n _ _ hb.1 hb.2 hl.1 hl.2
  have OR := Lib.hid ho
  clear ho
  have hw := up_w y3.s.r.sp
  have Q := Lib.hid (S3.out.stSP (up y3.s.r.sp) (up_b _).1 (up_b _).2)
  go_wp2
  go_ret
  refine ⟨?_, v3, ?_, M3.out.trans Q.out.2⟩
  · have q2 : y2.m y2.s.r.sp = y.m (up y.s.r.sp) := by rw [Y2.out, Y1.out]; rfl
    have q3 := OR.out
    rw [q2] at q3
    unfold popV
    rw [← q3]
    rw [q2]
    rfl
  · have q := Q.out.1
    have e := Y3.out
    subst e
    have e := Y2.out
    subst e
    have e := Y1.out
    subst e
    exact Sys.mono (n' := n + 2) q (by omega)
end
end Go.Proofs.YtngdogldgcgnjaaGreat
