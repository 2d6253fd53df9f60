/-
  What fetch does: for every world; the processor is there.
-/
import Derived.Test.YtngdogldgcgnjaaGreatZ10
import Derived.LoopN
set_option maxRecDepth 100000
set_option maxHeartbeats 8000000
namespace Go.Proofs.YtngdogldgcgnjaaGreat
open Go.ChangeShapes Go.WideShapes Go.ChangeAt Go.RowKit
open Reg
set_option linter.unusedVariables false
section
variable {w : World} {P R M tb n : Nat} {v : Value} {y : Sy}
theorem PM.own {w1 : World} {v1 : Value} (h : PM P R M tb v w v1 w1) {b : Nat} (hb : w.heap.size ≤ b) (o : Nat) (x : Value) : PM P R M tb v w v1 (w1.setCell ⟨b, o, none⟩ x) :=
 ⟨h.1.trans (Off.setCell (X := fun k => k = b) w1 b o x rfl) (fun k hk e => by have : k = b := e; omega), h.2⟩
theorem Sys.own {D : Nat → Array Value} {C : Nat → Int → Value → Array Value} (h : Sys D C w P R M tb v y n) {b : Nat} (hb : ¬ PX P R M tb v b) (o : Nat) (x : Value) : Sys D C (w.setCell ⟨b, o, none⟩ x) P R M tb v y n :=
 h.keep (Off.setCell (X := fun k => k = b) w b o x rfl) (fun k hk e => hb (by rw [← show k = b from e]; exact hk))
theorem dec_p (h : Sys procD ramC w P R M tb v y n) (a b c : Int) (a0 : 0 ≤ a) (a1 : a < 256) (b0 : 0 ≤ b) (b1 : b < 256) (c0 : 0 ≤ c) (c1 : c < 256) (r : OpV) (hr : decF a.toNat b.toNat c.toNat = r) :
  Calls Tryz.prog 71 #[.pointer (some ⟨tb, 0, none⟩), .int .u8 a, .int .u8 b, .int .u8 c] w (PE procD ramC P R M tb v w (.agg #[.int .i64 r.k, .int .i64 r.x, .int .i64 r.y, .int .i64 r.s, .int .u16 r.n]) y n) := by
 have q := dec_c tb a.toNat b.toNat c.toNat (by omega) (by omega) (by omega) r hr w h.bus.tab; rw [Int.toNat_of_nonneg a0, Int.toNat_of_nonneg b0, Int.toNat_of_nonneg c0] at q
 refine q.mono fun e w' ⟨he, ho⟩ => ?_
 obtain ⟨b', m'⟩ := h.bus.tabs ho
 exact ⟨he, v, (h.setBus b' m').1, (h.setBus b' m').2⟩
theorem fieldS (k x z s nn : Int) (w : World) : (Instr.field 44 (.agg #[.int .i64 k, .int .i64 x, .int .i64 z, .int .i64 s, .int .u16 nn]) 3).run Tryz.prog w = .ok (.int .i64 s) w := by kernel_rfl
structure Two (P R M tb : Nat) (v : Value) (w : World) (rb cb : Nat) (B : Array Value) : Prop where
 res : Has w rb #[.int .i64 0, .int .i64 0, .int .i64 0, .int .i64 0, .int .u16 0]
 cod : Has w cb B
 ne : rb ≠ cb
 nr : ¬ PX P R M tb v rb
 nc : ¬ PX P R M tb v cb
theorem Two.go {w1 : World} {v1 : Value} {rb cb : Nat} {B : Array Value} (h : Two P R M tb v w rb cb B) (m : PM P R M tb v w v1 w1) : Two P R M tb v1 w1 rb cb B :=
 ⟨m.has h.res h.nr, m.has h.cod h.nc, h.ne, m.far h.res.1 h.nr, m.far h.cod.1 h.nc⟩
theorem Two.set {rb cb : Nat} {B : Array Value} (h : Two P R M tb v w rb cb B) (o : Nat) (x : Value) (ho : o < B.size) : Two P R M tb v (w.setCell ⟨cb, o, none⟩ x) rb cb (B.setIfInBounds o x) :=
 ⟨h.res.far _ _ (fun e => h.ne e.symm), h.cod.set o x ho, h.ne, h.nr, h.nc⟩
theorem fetch_1 (h0 : Sys procD ramC w P R M tb v y n) (hn : n < 800000) (hsz : (decF (y.m y.s.r.pc).toNat 0 0).s = 1) : Calls Tryz.prog 53 #[.pointer (some ⟨P, 0, none⟩), .pointer (some ⟨tb, 0, none⟩)] w (PE procD ramC P R M tb v w (.agg #[.int .i64 (opV y).k, .int .i64 (opV y).x, .int .i64 (opV y).y, .int .i64 (opV y).s, .int .u16 (opV y).n]) (fetchS y) (n + 3)) := by
 have s' := h0.below (own2 w (.cells #[.int .i64 0, .int .i64 0, .int .i64 0, .int .i64 0, .int .u16 0] 44) (.cells #[.int .u8 0, .int .u8 0, .int .u8 0] 132))
 have M0 := Lib.hid (show PM P R M tb v w v ((w.alloc (.cells #[.int .i64 0, .int .i64 0, .int .i64 0, .int .i64 0, .int .u16 0] 44)).alloc (.cells #[.int .u8 0, .int .u8 0, .int .u8 0] 132)) from PM.of (own2 w (.cells #[.int .i64 0, .int .i64 0, .int .i64 0, .int .i64 0, .int .u16 0] 44) (.cells #[.int .u8 0, .int .u8 0, .int .u8 0] 132)))
 have t2 := Has.new (w.alloc (.cells #[.int .i64 0, .int .i64 0, .int .i64 0, .int .i64 0, .int .u16 0] 44)) #[.int .u8 0, .int .u8 0, .int .u8 0] 132
 have hs : (w.alloc (.cells #[.int .i64 0, .int .i64 0, .int .i64 0, .int .i64 0, .int .u16 0] 44)).heap.size = w.heap.size + 1 := by simp
 rw [hs] at t2
 have T0 := Lib.hid (show Two P R M tb v ((w.alloc (.cells #[.int .i64 0, .int .i64 0, .int .i64 0, .int .i64 0, .int .u16 0] 44)).alloc (.cells #[.int .u8 0, .int .u8 0, .int .u8 0] 132)) w.heap.size (w.heap.size + 1) #[.int .u8 0, .int .u8 0, .int .u8 0] from ⟨(Has.new w #[.int .i64 0, .int .i64 0, .int .i64 0, .int .i64 0, .int .u16 0] 44).alloc _, t2, by omega, h0.new (Nat.le_refl _), h0.new (Nat.le_succ _)⟩)
 have LR := Lib.hid (Nat.le_refl w.heap.size)
 have LC := Lib.hid (show w.heap.size ≤ w.heap.size + 1 from Nat.le_succ _)
 have S0 := Lib.hid s'; clear s' t2 hs h0; go_enter Tryz.func53, Tryz.ntmps53; go_wp2_with fail; generalize ((w.alloc (.cells #[.int .i64 0, .int .i64 0, .int .i64 0, .int .i64 0, .int .u16 0] 44)).alloc (.cells #[.int .u8 0, .int .u8 0, .int .u8 0] 132)) = w0 at S0 M0 T0 ⊢; generalize hcb : w.heap.size + 1 = cb at T0 LC ⊢; have HCB := Lib.hid hcb; clear hcb
 with_reducible refine (next_c S0.out (by omega)).mono ?_
 rintro e w1 ⟨rfl, v1, s', m'⟩; have t' := T0.out.go m'; have M1 := M0.tr m'; obtain ⟨x0, hx⟩ : ∃ q_, q_ = y.m y.s.r.pc := ⟨_, rfl⟩
 have xb0 : 0 ≤ x0 ∧ x0 < 256 := by rw [hx]; exact S0.out.okm _
 rw [← hx]; have X0 := Lib.hid hx; clear hx; obtain ⟨y1, hy⟩ : ∃ q_, q_ = fetch1 y := ⟨_, rfl⟩; rw [← hy] at s'; have Y1 := Lib.hid hy
 (try clear hcc hcf)
 have hcc := t'.cod.2.1; have hcf := t'.cod.2.2
 have TT := Lib.hid (show Two P R M tb v1 (w1.setCell ⟨cb, 0, none⟩ (.int .u8 x0)) w.heap.size cb #[.int .u8 x0, .int .u8 0, .int .u8 0] from t'.set 0 (.int .u8 x0) (by simp))
 have SS := Lib.hid (s'.own t'.nc 0 (.int .u8 x0)); have MM := Lib.hid (M1.out.own LC.out 0 (.int .u8 x0)); clear s' m' hy t'
 have zb : (0 : Int) ≤ 0 ∧ (0 : Int) < 256 := by decide
 obtain ⟨r0, hr0⟩ : ∃ r, decF x0.toNat (Int.toNat 0) (Int.toNat 0) = r := ⟨_, rfl⟩
 have hrs : r0.s = 1 := by rw [← hr0, X0.out]; exact hsz
 have R0 := Lib.hid hr0; have HRS := Lib.hid hrs; clear hr0 hrs; go_wp2_with fail; generalize w1.setCell ⟨cb, 0, none⟩ (.int .u8 x0) = u1 at TT SS MM ⊢; clear M1 hcc hcf; have S1 := SS; have M1 := MM; have T1 := TT; clear SS MM TT; have hcc := T1.out.cod.2.1; have hcf := T1.out.cod.2.2
 with_reducible refine (dec_p S1.out x0 0 0 xb0.1 xb0.2 zb.1 zb.2 zb.1 zb.2 r0 R0.out).mono ?_
 rintro e w2 ⟨rfl, v2, s', m'⟩; have T2 := Lib.hid (T1.out.go m'); have M2 := M1.tr m'; have S2 := Lib.hid s'; clear s' m' hcc hcf; have hcc := T2.out.cod.2.1; have hcf := T2.out.cod.2.2; have hrs := HRS.out; have hfd := fieldS; go_wp2; clear hrs hfd
 refine wp_loop_rounds 1 ?_
 rw [rounds_succ]; go_wp2_with fail; obtain ⟨r, hr⟩ : ∃ r, decF x0.toNat (Int.toNat 0) (Int.toNat 0) = r := ⟨_, rfl⟩; have RR_ := Lib.hid hr; clear hr
 with_reducible refine (dec_p S2.out x0 0 0 xb0.1 xb0.2 zb.1 zb.2 zb.1 zb.2 r RR_.out).mono ?_
 rintro e w3 ⟨rfl, v3, s', m'⟩; have T3 := Lib.hid (T2.out.go m'); have M3 := M2.tr m'; have S3 := Lib.hid s'; clear s' m' hcc hcf; have hcc := T3.out.cod.2.1; have hcf := T3.out.cod.2.2; have hrc := T3.out.res.2.1; have hrf := T3.out.res.2.2; go_wp2
 refine bodyPost_ret (v := .agg #[.int .i64 r.k, .int .i64 r.x, .int .i64 r.y, .int .i64 r.s, .int .u16 r.n]) (by simp [results, Tryz.results53, go_sem, hrc]) rfl ⟨?_, v3, ?_, ((((M3.out.own LR.out 0 _).own LR.out 1 _).own LR.out 2 _).own LR.out 3 _).own LR.out 4 _⟩
 ·have e1 : opV y = r := by
   unfold opV
   have h0 : byteV 0 y = x0 := by rw [X0.out]; unfold byteV; rw [show (y.s.r.pc + ((0 : Nat) : Int)) % 65536 = y.s.r.pc by have := S0.out.pcb; omega]
   have hz : szV x0 = 1 := by unfold szV; rw [X0.out]; exact hsz
   rw [h0, hz]; rw [if_neg (by decide), if_neg (by decide)]
   exact RR_.out
  rw [e1]
 ·have e2 : fetchS y = y1 := by
   unfold fetchS
   have h0 : byteV 0 y = x0 := by rw [X0.out]; unfold byteV; rw [show (y.s.r.pc + ((0 : Nat) : Int)) % 65536 = y.s.r.pc by have := S0.out.pcb; omega]
   have hz : szV x0 = 1 := by unfold szV; rw [X0.out]; exact hsz
   rw [h0, hz, Y1.out]
   rfl
  rw [e2]; have q := ((((S3.out.own T3.out.nr 0 (.int .i64 r.k)).own T3.out.nr 1 (.int .i64 r.x)).own T3.out.nr 2 (.int .i64 r.y)).own T3.out.nr 3 (.int .i64 r.s)).own T3.out.nr 4 (.int .u16 r.n)
  exact q.mo
theorem fetch_2 (h0 : Sys procD ramC w P R M tb v y n) (hn : n < 800000) (hsz : (decF (y.m y.s.r.pc).toNat 0 0).s = 2) : Calls Tryz.prog 53 #[.pointer (some ⟨P, 0, none⟩), .pointer (some ⟨tb, 0, none⟩)] w (PE procD ramC P R M tb v w (.agg #[.int .i64 (opV y).k, .int .i64 (opV y).x, .int .i64 (opV y).y, .int .i64 (opV y).s, .int .u16 (opV y).n]) (fetchS y) (n + 3)) := by
 have s' := h0.below (own2 w (.cells #[.int .i64 0, .int .i64 0, .int .i64 0, .int .i64 0, .int .u16 0] 44) (.cells #[.int .u8 0, .int .u8 0, .int .u8 0] 132))
 have M0 := Lib.hid (show PM P R M tb v w v ((w.alloc (.cells #[.int .i64 0, .int .i64 0, .int .i64 0, .int .i64 0, .int .u16 0] 44)).alloc (.cells #[.int .u8 0, .int .u8 0, .int .u8 0] 132)) from PM.of (own2 w (.cells #[.int .i64 0, .int .i64 0, .int .i64 0, .int .i64 0, .int .u16 0] 44) (.cells #[.int .u8 0, .int .u8 0, .int .u8 0] 132)))
 have t2 := Has.new (w.alloc (.cells #[.int .i64 0, .int .i64 0, .int .i64 0, .int .i64 0, .int .u16 0] 44)) #[.int .u8 0, .int .u8 0, .int .u8 0] 132
 have hs : (w.alloc (.cells #[.int .i64 0, .int .i64 0, .int .i64 0, .int .i64 0, .int .u16 0] 44)).heap.size = w.heap.size + 1 := by simp
 rw [hs] at t2
 have T0 := Lib.hid (show Two P R M tb v ((w.alloc (.cells #[.int .i64 0, .int .i64 0, .int .i64 0, .int .i64 0, .int .u16 0] 44)).alloc (.cells #[.int .u8 0, .int .u8 0, .int .u8 0] 132)) w.heap.size (w.heap.size + 1) #[.int .u8 0, .int .u8 0, .int .u8 0] from ⟨(Has.new w #[.int .i64 0, .int .i64 0, .int .i64 0, .int .i64 0, .int .u16 0] 44).alloc _, t2, by omega, h0.new (Nat.le_refl _), h0.new (Nat.le_succ _)⟩)
 have LR := Lib.hid (Nat.le_refl w.heap.size)
 have LC := Lib.hid (show w.heap.size ≤ w.heap.size + 1 from Nat.le_succ _)
 have S0 := Lib.hid s'; clear s' t2 hs h0; go_enter Tryz.func53, Tryz.ntmps53; go_wp2_with fail; generalize ((w.alloc (.cells #[.int .i64 0, .int .i64 0, .int .i64 0, .int .i64 0, .int .u16 0] 44)).alloc (.cells #[.int .u8 0, .int .u8 0, .int .u8 0] 132)) = w0 at S0 M0 T0 ⊢; generalize hcb : w.heap.size + 1 = cb at T0 LC ⊢; have HCB := Lib.hid hcb; clear hcb
 with_reducible refine (next_c S0.out (by omega)).mono ?_
 rintro e w1 ⟨rfl, v1, s', m'⟩; have t' := T0.out.go m'; have M1 := M0.tr m'; obtain ⟨x0, hx⟩ : ∃ q_, q_ = y.m y.s.r.pc := ⟨_, rfl⟩
 have xb0 : 0 ≤ x0 ∧ x0 < 256 := by rw [hx]; exact S0.out.okm _
 rw [← hx]; have X0 := Lib.hid hx; clear hx; obtain ⟨y1, hy⟩ : ∃ q_, q_ = fetch1 y := ⟨_, rfl⟩; rw [← hy] at s'; have Y1 := Lib.hid hy
 (try clear hcc hcf)
 have hcc := t'.cod.2.1; have hcf := t'.cod.2.2
 have TT := Lib.hid (show Two P R M tb v1 (w1.setCell ⟨cb, 0, none⟩ (.int .u8 x0)) w.heap.size cb #[.int .u8 x0, .int .u8 0, .int .u8 0] from t'.set 0 (.int .u8 x0) (by simp))
 have SS := Lib.hid (s'.own t'.nc 0 (.int .u8 x0)); have MM := Lib.hid (M1.out.own LC.out 0 (.int .u8 x0)); clear s' m' hy t'
 have zb : (0 : Int) ≤ 0 ∧ (0 : Int) < 256 := by decide
 obtain ⟨r0, hr0⟩ : ∃ r, decF x0.toNat (Int.toNat 0) (Int.toNat 0) = r := ⟨_, rfl⟩
 have hrs : r0.s = 2 := by rw [← hr0, X0.out]; exact hsz
 have R0 := Lib.hid hr0; have HRS := Lib.hid hrs; clear hr0 hrs; go_wp2_with fail; generalize w1.setCell ⟨cb, 0, none⟩ (.int .u8 x0) = u1 at TT SS MM ⊢; clear M1 hcc hcf; have S1 := SS; have M1 := MM; have T1 := TT; clear SS MM TT; have hcc := T1.out.cod.2.1; have hcf := T1.out.cod.2.2
 with_reducible refine (dec_p S1.out x0 0 0 xb0.1 xb0.2 zb.1 zb.2 zb.1 zb.2 r0 R0.out).mono ?_
 rintro e w2 ⟨rfl, v2, s', m'⟩; have T2 := Lib.hid (T1.out.go m'); have M2 := M1.tr m'; have S2 := Lib.hid s'; clear s' m' hcc hcf; have hcc := T2.out.cod.2.1; have hcf := T2.out.cod.2.2; have hrs := HRS.out; have hfd := fieldS; go_wp2; clear hrs hfd
 refine wp_loop_rounds 2 ?_
 rw [rounds_succ]; go_wp2_with fail
 with_reducible refine (next_c S2.out (by omega)).mono ?_
 rintro e w3 ⟨rfl, v3, s', m'⟩; have t' := T2.out.go m'; have M3 := M2.tr m'; obtain ⟨x1, hx⟩ : ∃ q_, q_ = y1.m y1.s.r.pc := ⟨_, rfl⟩
 have xb1 : 0 ≤ x1 ∧ x1 < 256 := by rw [hx]; exact S2.out.okm _
 rw [← hx]; have X1 := Lib.hid hx; clear hx; obtain ⟨y2, hy⟩ : ∃ q_, q_ = fetch1 y1 := ⟨_, rfl⟩; rw [← hy] at s'; have Y2 := Lib.hid hy
 (try clear hcc hcf)
 have hcc := t'.cod.2.1; have hcf := t'.cod.2.2
 have TT := Lib.hid (show Two P R M tb v3 (w3.setCell ⟨cb, 1, none⟩ (.int .u8 x1)) w.heap.size cb #[.int .u8 x0, .int .u8 x1, .int .u8 0] from t'.set 1 (.int .u8 x1) (by simp))
 have SS := Lib.hid (s'.own t'.nc 1 (.int .u8 x1)); have MM := Lib.hid (M3.out.own LC.out 1 (.int .u8 x1)); clear s' m' hy t'; go_wp2; rw [rounds_succ]; go_wp2_with fail; generalize w3.setCell ⟨cb, 1, none⟩ (.int .u8 x1) = u3 at TT SS MM ⊢; clear M3 hcc hcf; have S3 := SS; have M3 := MM; have T3 := TT; clear SS MM TT; have hcc := T3.out.cod.2.1; have hcf := T3.out.cod.2.2; obtain ⟨r, hr⟩ : ∃ r, decF x0.toNat x1.toNat (Int.toNat 0) = r := ⟨_, rfl⟩; have RR_ := Lib.hid hr; clear hr
 with_reducible refine (dec_p S3.out x0 x1 0 xb0.1 xb0.2 xb1.1 xb1.2 zb.1 zb.2 r RR_.out).mono ?_
 rintro e w4 ⟨rfl, v4, s', m'⟩; have T4 := Lib.hid (T3.out.go m'); have M4 := M3.tr m'; have S4 := Lib.hid s'; clear s' m' hcc hcf; have hcc := T4.out.cod.2.1; have hcf := T4.out.cod.2.2; have hrc := T4.out.res.2.1; have hrf := T4.out.res.2.2; go_wp2
 refine bodyPost_ret (v := .agg #[.int .i64 r.k, .int .i64 r.x, .int .i64 r.y, .int .i64 r.s, .int .u16 r.n]) (by simp [results, Tryz.results53, go_sem, hrc]) rfl ⟨?_, v4, ?_, ((((M4.out.own LR.out 0 _).own LR.out 1 _).own LR.out 2 _).own LR.out 3 _).own LR.out 4 _⟩
 ·have e1 : opV y = r := by
   unfold opV
   have h0 : byteV 0 y = x0 := by rw [X0.out]; unfold byteV; rw [show (y.s.r.pc + ((0 : Nat) : Int)) % 65536 = y.s.r.pc by have := S0.out.pcb; omega]
   have hz : szV x0 = 2 := by unfold szV; rw [X0.out]; exact hsz
   have h1 : byteV 1 y = x1 := by rw [X1.out, Y1.out]; rfl
   rw [h0, hz, h1]; rw [if_pos (by decide), if_neg (by decide)]
   exact RR_.out
  rw [e1]
 ·have e2 : fetchS y = y2 := by
   unfold fetchS
   have h0 : byteV 0 y = x0 := by rw [X0.out]; unfold byteV; rw [show (y.s.r.pc + ((0 : Nat) : Int)) % 65536 = y.s.r.pc by have := S0.out.pcb; omega]
   have hz : szV x0 = 2 := by unfold szV; rw [X0.out]; exact hsz
   rw [h0, hz, Y2.out, Y1.out]
   rfl
  rw [e2]; have q := ((((S4.out.own T4.out.nr 0 (.int .i64 r.k)).own T4.out.nr 1 (.int .i64 r.x)).own T4.out.nr 2 (.int .i64 r.y)).own T4.out.nr 3 (.int .i64 r.s)).own T4.out.nr 4 (.int .u16 r.n)
  exact q.mo
theorem fetch_3 (h0 : Sys procD ramC w P R M tb v y n) (hn : n < 800000) (hsz : (decF (y.m y.s.r.pc).toNat 0 0).s = 3) : Calls Tryz.prog 53 #[.pointer (some ⟨P, 0, none⟩), .pointer (some ⟨tb, 0, none⟩)] w (PE procD ramC P R M tb v w (.agg #[.int .i64 (opV y).k, .int .i64 (opV y).x, .int .i64 (opV y).y, .int .i64 (opV y).s, .int .u16 (opV y).n]) (fetchS y) (n + 3)) := by
 have s' := h0.below (own2 w (.cells #[.int .i64 0, .int .i64 0, .int .i64 0, .int .i64 0, .int .u16 0] 44) (.cells #[.int .u8 0, .int .u8 0, .int .u8 0] 132))
 have M0 := Lib.hid (show PM P R M tb v w v ((w.alloc (.cells #[.int .i64 0, .int .i64 0, .int .i64 0, .int .i64 0, .int .u16 0] 44)).alloc (.cells #[.int .u8 0, .int .u8 0, .int .u8 0] 132)) from PM.of (own2 w (.cells #[.int .i64 0, .int .i64 0, .int .i64 0, .int .i64 0, .int .u16 0] 44) (.cells #[.int .u8 0, .int .u8 0, .int .u8 0] 132)))
 have t2 := Has.new (w.alloc (.cells #[.int .i64 0, .int .i64 0, .int .i64 0, .int .i64 0, .int .u16 0] 44)) #[.int .u8 0, .int .u8 0, .int .u8 0] 132
 have hs : (w.alloc (.cells #[.int .i64 0, .int .i64 0, .int .i64 0, .int .i64 0, .int .u16 0] 44)).heap.size = w.heap.size + 1 := by simp
 rw [hs] at t2
 have T0 := Lib.hid (show Two P R M tb v ((w.alloc (.cells #[.int .i64 0, .int .i64 0, .int .i64 0, .int .i64 0, .int .u16 0] 44)).alloc (.cells #[.int .u8 0, .int .u8 0, .int .u8 0] 132)) w.heap.size (w.heap.size + 1) #[.int .u8 0, .int .u8 0, .int .u8 0] from ⟨(Has.new w #[.int .i64 0, .int .i64 0, .int .i64 0, .int .i64 0, .int .u16 0] 44).alloc _, t2, by omega, h0.new (Nat.le_refl _), h0.new (Nat.le_succ _)⟩)
 have LR := Lib.hid (Nat.le_refl w.heap.size)
 have LC := Lib.hid (show w.heap.size ≤ w.heap.size + 1 from Nat.le_succ _)
 have S0 := Lib.hid s'; clear s' t2 hs h0; go_enter Tryz.func53, Tryz.ntmps53; go_wp2_with fail; generalize ((w.alloc (.cells #[.int .i64 0, .int .i64 0, .int .i64 0, .int .i64 0, .int .u16 0] 44)).alloc (.cells #[.int .u8 0, .int .u8 0, .int .u8 0] 132)) = w0 at S0 M0 T0 ⊢; generalize hcb : w.heap.size + 1 = cb at T0 LC ⊢; have HCB := Lib.hid hcb; clear hcb
 with_reducible refine (next_c S0.out (by omega)).mono ?_
 rintro e w1 ⟨rfl, v1, s', m'⟩; have t' := T0.out.go m'; have M1 := M0.tr m'; obtain ⟨x0, hx⟩ : ∃ q_, q_ = y.m y.s.r.pc := ⟨_, rfl⟩
 have xb0 : 0 ≤ x0 ∧ x0 < 256 := by rw [hx]; exact S0.out.okm _
 rw [← hx]; have X0 := Lib.hid hx; clear hx; obtain ⟨y1, hy⟩ : ∃ q_, q_ = fetch1 y := ⟨_, rfl⟩; rw [← hy] at s'; have Y1 := Lib.hid hy
 (try clear hcc hcf)
 have hcc := t'.cod.2.1; have hcf := t'.cod.2.2
 have TT := Lib.hid (show Two P R M tb v1 (w1.setCell ⟨cb, 0, none⟩ (.int .u8 x0)) w.heap.size cb #[.int .u8 x0, .int .u8 0, .int .u8 0] from t'.set 0 (.int .u8 x0) (by simp))
 have SS := Lib.hid (s'.own t'.nc 0 (.int .u8 x0)); have MM := Lib.hid (M1.out.own LC.out 0 (.int .u8 x0)); clear s' m' hy t'
 have zb : (0 : Int) ≤ 0 ∧ (0 : Int) < 256 := by decide
 obtain ⟨r0, hr0⟩ : ∃ r, decF x0.toNat (Int.toNat 0) (Int.toNat 0) = r := ⟨_, rfl⟩
 have hrs : r0.s = 3 := by rw [← hr0, X0.out]; exact hsz
 have R0 := Lib.hid hr0; have HRS := Lib.hid hrs; clear hr0 hrs; go_wp2_with fail; generalize w1.setCell ⟨cb, 0, none⟩ (.int .u8 x0) = u1 at TT SS MM ⊢; clear M1 hcc hcf; have S1 := SS; have M1 := MM; have T1 := TT; clear SS MM TT; have hcc := T1.out.cod.2.1; have hcf := T1.out.cod.2.2
 with_reducible refine (dec_p S1.out x0 0 0 xb0.1 xb0.2 zb.1 zb.2 zb.1 zb.2 r0 R0.out).mono ?_
 rintro e w2 ⟨rfl, v2, s', m'⟩; have T2 := Lib.hid (T1.out.go m'); have M2 := M1.tr m'; have S2 := Lib.hid s'; clear s' m' hcc hcf; have hcc := T2.out.cod.2.1; have hcf := T2.out.cod.2.2; have hrs := HRS.out; have hfd := fieldS; go_wp2; clear hrs hfd
 refine wp_loop_rounds 3 ?_
 rw [rounds_succ]; go_wp2_with fail
 with_reducible refine (next_c S2.out (by omega)).mono ?_
 rintro e w3 ⟨rfl, v3, s', m'⟩; have t' := T2.out.go m'; have M3 := M2.tr m'; obtain ⟨x1, hx⟩ : ∃ q_, q_ = y1.m y1.s.r.pc := ⟨_, rfl⟩
 have xb1 : 0 ≤ x1 ∧ x1 < 256 := by rw [hx]; exact S2.out.okm _
 rw [← hx]; have X1 := Lib.hid hx; clear hx; obtain ⟨y2, hy⟩ : ∃ q_, q_ = fetch1 y1 := ⟨_, rfl⟩; rw [← hy] at s'; have Y2 := Lib.hid hy
 (try clear hcc hcf)
 have hcc := t'.cod.2.1; have hcf := t'.cod.2.2
 have TT := Lib.hid (show Two P R M tb v3 (w3.setCell ⟨cb, 1, none⟩ (.int .u8 x1)) w.heap.size cb #[.int .u8 x0, .int .u8 x1, .int .u8 0] from t'.set 1 (.int .u8 x1) (by simp))
 have SS := Lib.hid (s'.own t'.nc 1 (.int .u8 x1)); have MM := Lib.hid (M3.out.own LC.out 1 (.int .u8 x1)); clear s' m' hy t'; go_wp2; rw [rounds_succ]; go_wp2_with fail; generalize w3.setCell ⟨cb, 1, none⟩ (.int .u8 x1) = u3 at TT SS MM ⊢; clear M3 hcc hcf; have S3 := SS; have M3 := MM; have T3 := TT; clear SS MM TT; have hcc := T3.out.cod.2.1; have hcf := T3.out.cod.2.2
 with_reducible refine (next_c S3.out (by omega)).mono ?_
 rintro e w4 ⟨rfl, v4, s', m'⟩; have t' := T3.out.go m'; have M4 := M3.tr m'; obtain ⟨x2, hx⟩ : ∃ q_, q_ = y2.m y2.s.r.pc := ⟨_, rfl⟩
 have xb2 : 0 ≤ x2 ∧ x2 < 256 := by rw [hx]; exact S3.out.okm _
 rw [← hx]; have X2 := Lib.hid hx; clear hx; obtain ⟨y3, hy⟩ : ∃ q_, q_ = fetch1 y2 := ⟨_, rfl⟩; rw [← hy] at s'; have Y3 := Lib.hid hy
 (try clear hcc hcf)
 have hcc := t'.cod.2.1; have hcf := t'.cod.2.2
 have TT := Lib.hid (show Two P R M tb v4 (w4.setCell ⟨cb, 2, none⟩ (.int .u8 x2)) w.heap.size cb #[.int .u8 x0, .int .u8 x1, .int .u8 x2] from t'.set 2 (.int .u8 x2) (by simp))
 have SS := Lib.hid (s'.own t'.nc 2 (.int .u8 x2)); have MM := Lib.hid (M4.out.own LC.out 2 (.int .u8 x2)); clear s' m' hy t'; go_wp2; rw [rounds_succ]; go_wp2_with fail; generalize w4.setCell ⟨cb, 2, none⟩ (.int .u8 x2) = u4 at TT SS MM ⊢; clear M4 hcc hcf; have S4 := SS; have M4 := MM; have T4 := TT; clear SS MM TT; have hcc := T4.out.cod.2.1; have hcf := T4.out.cod.2.2; obtain ⟨r, hr⟩ : ∃ r, decF x0.toNat x1.toNat x2.toNat = r := ⟨_, rfl⟩; have RR_ := Lib.hid hr; clear hr
 with_reducible refine (dec_p S4.out x0 x1 x2 xb0.1 xb0.2 xb1.1 xb1.2 xb2.1 xb2.2 r RR_.out).mono ?_
 rintro e w5 ⟨rfl, v5, s', m'⟩; have T5 := Lib.hid (T4.out.go m'); have M5 := M4.tr m'; have S5 := Lib.hid s'; clear s' m' hcc hcf; have hcc := T5.out.cod.2.1; have hcf := T5.out.cod.2.2; have hrc := T5.out.res.2.1; have hrf := T5.out.res.2.2; go_wp2
 refine bodyPost_ret (v := .agg #[.int .i64 r.k, .int .i64 r.x, .int .i64 r.y, .int .i64 r.s, .int .u16 r.n]) (by simp [results, Tryz.results53, go_sem, hrc]) rfl ⟨?_, v5, ?_, ((((M5.out.own LR.out 0 _).own LR.out 1 _).own LR.out 2 _).own LR.out 3 _).own LR.out 4 _⟩
 ·have e1 : opV y = r := by
   unfold opV
   have h0 : byteV 0 y = x0 := by rw [X0.out]; unfold byteV; rw [show (y.s.r.pc + ((0 : Nat) : Int)) % 65536 = y.s.r.pc by have := S0.out.pcb; omega]
   have hz : szV x0 = 3 := by unfold szV; rw [X0.out]; exact hsz
   have h1 : byteV 1 y = x1 := by rw [X1.out, Y1.out]; rfl
   have h2 : byteV 2 y = x2 := by rw [X2.out, Y2.out, Y1.out]; unfold byteV; rw [show (y.s.r.pc + ((2 : Nat) : Int)) % 65536 = up (up y.s.r.pc) by unfold up; omega]; rfl
   rw [h0, hz, h1]; rw [if_pos (by decide), if_pos (by decide)]; rw [h2]
   exact RR_.out
  rw [e1]
 ·have e2 : fetchS y = y3 := by
   unfold fetchS
   have h0 : byteV 0 y = x0 := by rw [X0.out]; unfold byteV; rw [show (y.s.r.pc + ((0 : Nat) : Int)) % 65536 = y.s.r.pc by have := S0.out.pcb; omega]
   have hz : szV x0 = 3 := by unfold szV; rw [X0.out]; exact hsz
   rw [h0, hz, Y3.out, Y2.out, Y1.out]
   rfl
  rw [e2]; have q := ((((S5.out.own T5.out.nr 0 (.int .i64 r.k)).own T5.out.nr 1 (.int .i64 r.x)).own T5.out.nr 2 (.int .i64 r.y)).own T5.out.nr 3 (.int .i64 r.s)).own T5.out.nr 4 (.int .u16 r.n)
  exact q.mo
end
end Go.Proofs.YtngdogldgcgnjaaGreat
