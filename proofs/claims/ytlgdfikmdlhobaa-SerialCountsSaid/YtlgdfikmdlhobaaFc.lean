/-
  The small functions, their ways put together; awake: for every port; no condition but that each number fits.
-/
import Derived.Test.YtlgdfikmdlhobaaFn
import Derived.Deep.Cut
import Derived.BigQuiet
import Derived.WalkSmall
namespace Go.Proofs.Ytlgdfikmdlhobaa
open Go.ChangeShapes Go.WideShapes Go.ChangeAt Go.RowKit
set_option linter.unusedVariables false
set_option linter.unusedSimpArgs false
set_option maxRecDepth 100000
theorem shift_a (p : PV) (h : p.ok) (g : p.b - 1 ≤ 0) (w : World) : Calls Try.prog 15 #[.agg #[.int .u8 p.d, .int .u8 p.c, .int .u8 p.l, .int .i64 p.b, .int .i64 0, .int .i64 p.s]] w fun q_ w' => q_ = .returned (.tuple #[.agg #[.int .u8 (p.d % 128 * 2 + 1), .int .u8 (p.c % 128), .int .u8 p.l, .int .i64 (p.b - 1), .int .i64 0, .int .i64 p.s], .bool true]) ∧ Below w.heap.size w w' := by
  obtain ⟨⟨hd, hd2⟩, ⟨hc, hc2⟩, ⟨hl, hl2⟩, ⟨hb, hb2⟩, ⟨hn, hn2⟩, ⟨hs, hs2⟩⟩ := h
  exact shift_1 p.d p.c p.l p.b 0 p.s hd hd2 hc hc2 hb hb2 _ _ _ rfl rfl (by omega) rfl w
theorem shift_b (p : PV) (h : p.ok) (g : ¬ p.b - 1 ≤ 0) (w : World) : Calls Try.prog 15 #[.agg #[.int .u8 p.d, .int .u8 p.c, .int .u8 p.l, .int .i64 p.b, .int .i64 0, .int .i64 p.s]] w fun q_ w' => q_ = .returned (.tuple #[.agg #[.int .u8 (p.d % 128 * 2 + 1), .int .u8 p.c, .int .u8 p.l, .int .i64 (p.b - 1), .int .i64 0, .int .i64 p.s], .bool false]) ∧ Below w.heap.size w w' := by
  obtain ⟨⟨hd, hd2⟩, ⟨hc, hc2⟩, ⟨hl, hl2⟩, ⟨hb, hb2⟩, ⟨hn, hn2⟩, ⟨hs, hs2⟩⟩ := h
  exact shift_0 p.d p.c p.l p.b 0 p.s hd hd2 hb hb2 _ _ rfl rfl (by omega) w
set_option maxHeartbeats 2000000 in
theorem tick_2 (xd xc xl xb xn xs : Int) (g : ¬ xb ≤ 0) (g2 : xn = 127) (d c b n : Int) (r : Bool) (H : ∀ W, Calls Try.prog 15 #[.agg #[.int .u8 xd, .int .u8 xc, .int .u8 xl, .int .i64 xb, .int .i64 0, .int .i64 xs]] W fun q_ w' => q_ = .returned (.tuple #[.agg #[.int .u8 d, .int .u8 c, .int .u8 xl, .int .i64 b, .int .i64 n, .int .i64 xs], .bool r]) ∧ Below W.heap.size W w') (w : World) : Calls Try.prog 9 #[.agg #[.int .u8 xd, .int .u8 xc, .int .u8 xl, .int .i64 xb, .int .i64 xn, .int .i64 xs]] w fun q_ w' => q_ = .returned (.tuple #[.agg #[.int .u8 d, .int .u8 c, .int .u8 xl, .int .i64 b, .int .i64 n, .int .i64 xs], .bool r]) ∧ Below w.heap.size w w' := by
  suffices hall : ∀ (n_ : Nat) (W0 : World), n_ ≤ W0.heap.size → Below n_ W0 w → Calls Try.prog 9 #[.agg #[.int .u8 xd, .int .u8 xc, .int .u8 xl, .int .i64 xb, .int .i64 xn, .int .i64 xs]] w fun q_ w' => q_ = .returned (.tuple #[.agg #[.int .u8 d, .int .u8 c, .int .u8 xl, .int .i64 b, .int .i64 n, .int .i64 xs], .bool r]) ∧ Below n_ W0 w' from hall _ _ (Nat.le_refl _) (Below.refl _ _)
  intro n_ W0 hn hB
  have HN := Lib.hid hn
  have BB := Lib.hid hB
  clear hn hB
  have SH := Lib.hid H
  clear H
  subst g2
  go_enter Try.func9, Try.ntmps9
  have Q_ := own2 w (.cells #[.int .u8 xd, .int .u8 xc, .int .u8 xl, .int .i64 xb, .int .i64 127, .int .i64 xs] 25) (.cells #[.int .u8 0, .int .u8 0, .int .u8 0, .int .i64 0, .int .i64 0, .int .i64 0] 25)
  have B0 := Lib.hid (vian HN.out BB.out Q_)
  have P0 := Lib.hid ((Has.new w #[.int .u8 xd, .int .u8 xc, .int .u8 xl, .int .i64 xb, .int .i64 127, .int .i64 xs] 25).alloc (.cells #[.int .u8 0, .int .u8 0, .int .u8 0, .int .i64 0, .int .i64 0, .int .i64 0] 25))
  have R0 := Lib.hid (show Has ((w.alloc (.cells #[.int .u8 xd, .int .u8 xc, .int .u8 xl, .int .i64 xb, .int .i64 127, .int .i64 xs] 25)).alloc (.cells #[.int .u8 0, .int .u8 0, .int .u8 0, .int .i64 0, .int .i64 0, .int .i64 0] 25)) (w.heap.size + 1) #[.int .u8 0, .int .u8 0, .int .u8 0, .int .i64 0, .int .i64 0, .int .i64 0] by simpa using Has.new (w.alloc (.cells #[.int .u8 xd, .int .u8 xc, .int .u8 xl, .int .i64 xb, .int .i64 127, .int .i64 xs] 25)) #[.int .u8 0, .int .u8 0, .int .u8 0, .int .i64 0, .int .i64 0, .int .i64 0] 25)
  have LP := Lib.hid (Nat.le_trans HN.out BB.out.size)
  have LR := Lib.hid (show n_ ≤ w.heap.size + 1 from Nat.le_succ_of_le (Nat.le_trans HN.out BB.out.size))
  have NE := Lib.hid (show w.heap.size ≠ w.heap.size + 1 by omega)
  clear Q_
  go_upto_region 1 with (fail)
  generalize (w.alloc (.cells #[.int .u8 xd, .int .u8 xc, .int .u8 xl, .int .i64 xb, .int .i64 127, .int .i64 xs] 25)).alloc (.cells #[.int .u8 0, .int .u8 0, .int .u8 0, .int .i64 0, .int .i64 0, .int .i64 0] 25) = w0 at B0 P0 R0 ⊢
  generalize w.heap.size + 1 = rb at R0 LR NE ⊢
  generalize w.heap.size = pb at P0 LP NE ⊢
  have P1 := Lib.hid (show Has ((w0.setCell ⟨pb, 4, none⟩ (.int .i64 128)).setCell ⟨pb, 4, none⟩ (.int .i64 0)) pb #[.int .u8 xd, .int .u8 xc, .int .u8 xl, .int .i64 xb, .int .i64 0, .int .i64 xs] by simpa using (P0.out.set 4 (.int .i64 128) (by simp)).set 4 (.int .i64 0) (by simp))
  have R1 := Lib.hid ((R0.out.far ⟨pb, 4, none⟩ (.int .i64 128) NE.out).far ⟨pb, 4, none⟩ (.int .i64 0) NE.out)
  have B1 := Lib.hid (store1 (store1 B0.out LP.out 4 (.int .i64 128)) LP.out 4 (.int .i64 0))
  obtain ⟨hc, hf⟩ := P0.out.out
  go_upto_region 7 with (fail)
  clear hc hf P0 R0 B0
  generalize ((w0.setCell ⟨pb, 4, none⟩ (.int .i64 128)).setCell ⟨pb, 4, none⟩ (.int .i64 0)) = w1 at P1 R1 B1 ⊢
  obtain ⟨hc, hf⟩ := P1.out.out
  go_wp2_with fail
  with_reducible refine (SH.out _).mono ?_
  rintro q_ w2 ⟨rfl, hb⟩
  clear hc hf
  have B2 := Lib.hid (vian HN.out B1.out hb)
  have R2 := Lib.hid (R1.out.below hb)
  clear hb
  obtain ⟨hc, hf⟩ := R2.out.out
  go_wp2
  refine bodyPost_ret (v := .tuple #[.agg #[.int .u8 d, .int .u8 c, .int .u8 xl, .int .i64 b, .int .i64 n, .int .i64 xs], .bool r]) ?_ rfl ⟨rfl, set6 B2.out rb LR.out _ _ _ _ _ _⟩
  simp [results, Try.results9, go_sem, hc, hf]
theorem tick_c (p q : PV) (i : Bool) (h : p.ok) (e : tickV p = q) (e2 : tickI p = i) (w : World) : Calls Try.prog 9 #[.agg #[.int .u8 p.d, .int .u8 p.c, .int .u8 p.l, .int .i64 p.b, .int .i64 p.n, .int .i64 p.s]] w fun q_ w' => q_ = .returned (.tuple #[.agg #[.int .u8 q.d, .int .u8 q.c, .int .u8 q.l, .int .i64 q.b, .int .i64 q.n, .int .i64 q.s], .bool i]) ∧ Below w.heap.size w w' := by
  obtain ⟨⟨hd, hd2⟩, ⟨hc, hc2⟩, ⟨hl, hl2⟩, ⟨hb, hb2⟩, ⟨hn, hn2⟩, ⟨hs, hs2⟩⟩ := id h
  subst e e2
  by_cases g : p.b ≤ 0
  · rw [(tick_idle g).1, (tick_idle g).2]
    exact tick_0 p.d p.c p.l p.b p.n p.s g w
  by_cases g2 : p.n + 1 = 128
  · by_cases g3 : p.b - 1 ≤ 0
    · have e1 : tickV p = { p with d := p.d % 128 * 2 + 1, c := p.c % 128, b := p.b - 1, n := 0 } := by unfold tickV; rw [if_neg g, if_pos g2, if_pos g3]
      have e2 : tickI p = true := decide_eq_true ⟨g, g2, g3⟩
      rw [e1, e2]
      exact tick_2 p.d p.c p.l p.b p.n p.s g (by omega) _ _ _ _ _ (fun W => shift_a p h g3 W) w
    · have e1 : tickV p = { p with d := p.d % 128 * 2 + 1, b := p.b - 1, n := 0 } := by unfold tickV; rw [if_neg g, if_pos g2, if_neg g3]
      have e2 : tickI p = false := decide_eq_false (fun q => g3 q.2.2)
      rw [e1, e2]
      exact tick_2 p.d p.c p.l p.b p.n p.s g (by omega) _ _ _ _ _ (fun W => shift_b p h g3 W) w
  · have e1 : tickV p = { p with n := p.n + 1 } := by unfold tickV; rw [if_neg g, if_neg g2]
    have e2 : tickI p = false := decide_eq_false (fun q => g2 q.2.1)
    rw [e1, e2]
    exact tick_1 p.d p.c p.l p.b p.n p.s hn hn2 _ g rfl g2 w
theorem rtick_c (p q : PV) (i : Bool) (h : p.ok) (e : tickV p = q) (e2 : tickI p = i) (w : World) : Calls Try.prog 10 #[.agg #[.int .u8 p.d, .int .u8 p.c, .int .u8 p.l, .int .i64 p.b, .int .i64 p.n, .int .i64 p.s]] w fun q_ w' => q_ = .returned (.tuple #[.agg #[.int .u8 q.d, .int .u8 q.c, .int .u8 q.l, .int .i64 q.b, .int .i64 q.n, .int .i64 q.s], .bool i]) ∧ Below w.heap.size w w' := by
  obtain ⟨⟨hd, hd2⟩, ⟨hc, hc2⟩, ⟨hl, hl2⟩, ⟨hb, hb2⟩, ⟨hn, hn2⟩, ⟨hs, hs2⟩⟩ := id h
  subst e e2
  by_cases g : p.b ≤ 0
  · rw [(tick_idle g).1, (tick_idle g).2]
    exact rtick_0 p.d p.c p.l p.b p.n p.s (by omega) w
  by_cases g2 : p.n + 1 = 128
  · by_cases g3 : p.b - 1 ≤ 0
    · have e1 : tickV p = { p with d := p.d % 128 * 2 + 1, c := p.c % 128, b := p.b - 1, n := 0 } := by unfold tickV; rw [if_neg g, if_pos g2, if_pos g3]
      have e2 : tickI p = true := decide_eq_true ⟨g, g2, g3⟩
      rw [e1, e2]
      exact rtick_3 p.d p.c p.l p.b p.n p.s hd hd2 hc hc2 hn hn2 hb hb2 _ _ _ (by omega) g2 rfl rfl (by omega) rfl w
    · have e1 : tickV p = { p with d := p.d % 128 * 2 + 1, b := p.b - 1, n := 0 } := by unfold tickV; rw [if_neg g, if_pos g2, if_neg g3]
      have e2 : tickI p = false := decide_eq_false (fun q => g3 q.2.2)
      rw [e1, e2]
      exact rtick_2 p.d p.c p.l p.b p.n p.s hd hd2 hn hn2 hb hb2 _ _ (by omega) g2 rfl rfl (by omega) w
  · have e1 : tickV p = { p with n := p.n + 1 } := by unfold tickV; rw [if_neg g, if_neg g2]
    have e2 : tickI p = false := decide_eq_false (fun q => g2 q.2.1)
    rw [e1, e2]
    exact rtick_1 p.d p.c p.l p.b p.n p.s hn hn2 _ (by omega) rfl g2 w
theorem read_c (p : PV) (k x : Int) (h : p.ok) (e : readV p k = x) (w : World) : Calls Try.prog 13 #[.agg #[.int .u8 p.d, .int .u8 p.c, .int .u8 p.l, .int .i64 p.b, .int .i64 p.n, .int .i64 p.s], .int .i64 k] w fun q_ w' => q_ = .returned (.int .u8 x) ∧ Below w.heap.size w w' := by
  obtain ⟨⟨hd, hd2⟩, ⟨hc, hc2⟩, ⟨hl, hl2⟩, ⟨hb, hb2⟩, ⟨hn, hn2⟩, ⟨hs, hs2⟩⟩ := h
  unfold readV at e
  by_cases g0 : k = 0
  · rw [if_pos g0] at e; subst g0 e; exact read_0 p.d p.c p.l p.b p.n p.s w
  rw [if_neg g0] at e
  by_cases g1 : k = 1
  · rw [if_pos g1] at e; subst g1; exact read_1 p.d p.c p.l p.b p.n p.s hc hc2 x e w
  rw [if_neg g1] at e
  subst e
  exact read_2 p.d p.c p.l p.b p.n p.s k g0 g1 w
theorem rread_c (p : PV) (k x : Int) (h : p.ok) (e : readV p k = x) (w : World) : Calls Try.prog 14 #[.agg #[.int .u8 p.d, .int .u8 p.c, .int .u8 p.l, .int .i64 p.b, .int .i64 p.n, .int .i64 p.s], .int .i64 k] w fun q_ w' => q_ = .returned (.int .u8 x) ∧ Below w.heap.size w w' := by
  obtain ⟨⟨hd, hd2⟩, ⟨hc, hc2⟩, ⟨hl, hl2⟩, ⟨hb, hb2⟩, ⟨hn, hn2⟩, ⟨hs, hs2⟩⟩ := h
  unfold readV at e
  by_cases g0 : k = 0
  · rw [if_pos g0] at e; subst g0 e; exact rread_0 p.d p.c p.l p.b p.n p.s w
  rw [if_neg g0] at e
  by_cases g1 : k = 1
  · rw [if_pos g1] at e; subst g1; exact rread_1 p.d p.c p.l p.b p.n p.s hc hc2 x e w
  rw [if_neg g1] at e
  subst e
  exact rread_2 p.d p.c p.l p.b p.n p.s k g0 g1 w
theorem send_c (p : PV) (c : Int) (h : p.ok) (w : World) : Calls Try.prog 16 #[.agg #[.int .u8 p.d, .int .u8 c, .int .u8 p.l, .int .i64 p.b, .int .i64 p.n, .int .i64 p.s]] w fun q_ w' => q_ = .returned (.agg #[.int .u8 p.d, .int .u8 c, .int .u8 p.d, .int .i64 8, .int .i64 0, .int .i64 ((p.s + 1) % 65536)]) ∧ Below w.heap.size w w' := by
  obtain ⟨⟨hd, hd2⟩, ⟨hc, hc2⟩, ⟨hl, hl2⟩, ⟨hb, hb2⟩, ⟨hn, hn2⟩, ⟨hs, hs2⟩⟩ := h
  exact send_0 p.d c p.l p.b p.n p.s hs hs2 _ rfl w
set_option maxHeartbeats 2000000 in
theorem write_2 (xd xc xl xb xn xs : Int) (x : Int) (hx : 0 ≤ x) (hx2 : x < 256) (g : x / 128 * 128 + x % 2 = 129) (d c l b n s : Int) (H : ∀ W, Calls Try.prog 16 #[.agg #[.int .u8 xd, .int .u8 129, .int .u8 xl, .int .i64 xb, .int .i64 xn, .int .i64 xs]] W fun q_ w' => q_ = .returned (.agg #[.int .u8 d, .int .u8 c, .int .u8 l, .int .i64 b, .int .i64 n, .int .i64 s]) ∧ Below W.heap.size W w') (w : World) : Calls Try.prog 11 #[.agg #[.int .u8 xd, .int .u8 xc, .int .u8 xl, .int .i64 xb, .int .i64 xn, .int .i64 xs], .int .i64 1, .int .u8 x] w fun q_ w' => q_ = .returned (.agg #[.int .u8 d, .int .u8 c, .int .u8 l, .int .i64 b, .int .i64 n, .int .i64 s]) ∧ Below w.heap.size w w' := by
  suffices hall : ∀ (n_ : Nat) (W0 : World), n_ ≤ W0.heap.size → Below n_ W0 w → Calls Try.prog 11 #[.agg #[.int .u8 xd, .int .u8 xc, .int .u8 xl, .int .i64 xb, .int .i64 xn, .int .i64 xs], .int .i64 1, .int .u8 x] w fun q_ w' => q_ = .returned (.agg #[.int .u8 d, .int .u8 c, .int .u8 l, .int .i64 b, .int .i64 n, .int .i64 s]) ∧ Below n_ W0 w' from hall _ _ (Nat.le_refl _) (Below.refl _ _)
  intro n_ W0 hn hB
  have HN := Lib.hid hn
  have BB := Lib.hid hB
  clear hn hB
  have SH := Lib.hid H
  clear H
  have e1 := (and129 x hx hx2).trans g
  go_enter Try.func11, Try.ntmps11
  have Q_ := own2 w (.cells #[.int .u8 xd, .int .u8 xc, .int .u8 xl, .int .i64 xb, .int .i64 xn, .int .i64 xs] 25) (.cells #[.int .u8 0, .int .u8 0, .int .u8 0, .int .i64 0, .int .i64 0, .int .i64 0] 25)
  have B0 := Lib.hid (vian HN.out BB.out Q_)
  have P0 := Lib.hid ((Has.new w #[.int .u8 xd, .int .u8 xc, .int .u8 xl, .int .i64 xb, .int .i64 xn, .int .i64 xs] 25).alloc (.cells #[.int .u8 0, .int .u8 0, .int .u8 0, .int .i64 0, .int .i64 0, .int .i64 0] 25))
  have R0 := Lib.hid (show Has ((w.alloc (.cells #[.int .u8 xd, .int .u8 xc, .int .u8 xl, .int .i64 xb, .int .i64 xn, .int .i64 xs] 25)).alloc (.cells #[.int .u8 0, .int .u8 0, .int .u8 0, .int .i64 0, .int .i64 0, .int .i64 0] 25)) (w.heap.size + 1) #[.int .u8 0, .int .u8 0, .int .u8 0, .int .i64 0, .int .i64 0, .int .i64 0] by simpa using Has.new (w.alloc (.cells #[.int .u8 xd, .int .u8 xc, .int .u8 xl, .int .i64 xb, .int .i64 xn, .int .i64 xs] 25)) #[.int .u8 0, .int .u8 0, .int .u8 0, .int .i64 0, .int .i64 0, .int .i64 0] 25)
  have LP := Lib.hid (Nat.le_trans HN.out BB.out.size)
  have LR := Lib.hid (show n_ ≤ w.heap.size + 1 from Nat.le_succ_of_le (Nat.le_trans HN.out BB.out.size))
  have NE := Lib.hid (show w.heap.size ≠ w.heap.size + 1 by omega)
  clear Q_
  go_upto_region 1 with (fail)
  generalize (w.alloc (.cells #[.int .u8 xd, .int .u8 xc, .int .u8 xl, .int .i64 xb, .int .i64 xn, .int .i64 xs] 25)).alloc (.cells #[.int .u8 0, .int .u8 0, .int .u8 0, .int .i64 0, .int .i64 0, .int .i64 0] 25) = w0 at B0 P0 R0 ⊢
  generalize w.heap.size + 1 = rb at R0 LR NE ⊢
  generalize w.heap.size = pb at P0 LP NE ⊢
  have P1 := Lib.hid (show Has (w0.setCell ⟨pb, 1, none⟩ (.int .u8 129)) pb #[.int .u8 xd, .int .u8 129, .int .u8 xl, .int .i64 xb, .int .i64 xn, .int .i64 xs] by simpa using (P0.out.set 1 (.int .u8 129) (by simp)))
  have R1 := Lib.hid (R0.out.far ⟨pb, 1, none⟩ (.int .u8 129) NE.out)
  have B1 := Lib.hid (store1 B0.out LP.out 1 (.int .u8 129))
  obtain ⟨hc, hf⟩ := P0.out.out
  go_upto_region 6 with (fail)
  clear hc hf P0 R0 B0
  generalize (w0.setCell ⟨pb, 1, none⟩ (.int .u8 129)) = w1 at P1 R1 B1 ⊢
  obtain ⟨hc, hf⟩ := P1.out.out
  go_wp2_with fail
  with_reducible refine (SH.out _).mono ?_
  rintro q_ w2 ⟨rfl, hb⟩
  clear hc hf
  have B2 := Lib.hid (vian HN.out B1.out hb)
  have R2 := Lib.hid (R1.out.below hb)
  clear hb
  obtain ⟨hc, hf⟩ := R2.out.out
  go_wp2
  refine bodyPost_ret (v := .agg #[.int .u8 d, .int .u8 c, .int .u8 l, .int .i64 b, .int .i64 n, .int .i64 s]) ?_ rfl ⟨rfl, set6 B2.out rb LR.out _ _ _ _ _ _⟩
  simp [results, Try.results11, go_sem, hc, hf]
theorem write_c (p q : PV) (k x : Int) (h : p.ok) (hx : 0 ≤ x) (hx2 : x < 256) (e : wrV p k x = q) (w : World) : Calls Try.prog 11 #[.agg #[.int .u8 p.d, .int .u8 p.c, .int .u8 p.l, .int .i64 p.b, .int .i64 p.n, .int .i64 p.s], .int .i64 k, .int .u8 x] w fun q_ w' => q_ = .returned (.agg #[.int .u8 q.d, .int .u8 q.c, .int .u8 q.l, .int .i64 q.b, .int .i64 q.n, .int .i64 q.s]) ∧ Below w.heap.size w w' := by
  obtain ⟨⟨hd, hd2⟩, ⟨hc, hc2⟩, ⟨hl, hl2⟩, ⟨hb, hb2⟩, ⟨hn, hn2⟩, ⟨hs, hs2⟩⟩ := id h
  subst e
  by_cases g0 : k = 0
  · subst g0
    exact write_0 p.d p.c p.l p.b p.n p.s x hx hx2 w
  by_cases g1 : k = 1
  · subst g1
    by_cases g2 : begins x
    · rw [wr_begins p x g2]
      have g3 : x / 128 * 128 + x % 2 = 129 := by have := g2.1; have := g2.2; omega
      rw [g3]
      exact write_2 p.d p.c p.l p.b p.n p.s x hx hx2 g3 _ _ _ _ _ _ (fun W => send_c p 129 h W) w
    · rw [wr_not p x g2]
      exact write_1 p.d p.c p.l p.b p.n p.s x hx hx2 _ rfl (fun y => g2 (show x / 128 = 1 ∧ x % 2 = 1 by omega)) w
  · have e1 : wrV p k x = p := by unfold wrV; rw [if_neg g0, if_neg g1]
    rw [e1]
    exact write_3 p.d p.c p.l p.b p.n p.s x hx hx2 k g0 g1 w
theorem rwrite_c (p q : PV) (k x : Int) (h : p.ok) (hx : 0 ≤ x) (hx2 : x < 256) (e : wrV p k x = q) (w : World) : Calls Try.prog 12 #[.agg #[.int .u8 p.d, .int .u8 p.c, .int .u8 p.l, .int .i64 p.b, .int .i64 p.n, .int .i64 p.s], .int .i64 k, .int .u8 x] w fun q_ w' => q_ = .returned (.agg #[.int .u8 q.d, .int .u8 q.c, .int .u8 q.l, .int .i64 q.b, .int .i64 q.n, .int .i64 q.s]) ∧ Below w.heap.size w w' := by
  obtain ⟨⟨hd, hd2⟩, ⟨hc, hc2⟩, ⟨hl, hl2⟩, ⟨hb, hb2⟩, ⟨hn, hn2⟩, ⟨hs, hs2⟩⟩ := id h
  subst e
  by_cases g0 : k = 0
  · subst g0
    exact rwrite_0 p.d p.c p.l p.b p.n p.s x hx hx2 w
  by_cases g1 : k = 1
  · subst g1
    by_cases g2 : begins x
    · rw [wr_begins p x g2]
      have g3 : x / 128 * 128 + x % 2 = 129 := by have := g2.1; have := g2.2; omega
      rw [g3]
      exact rwrite_2 p.d p.c p.l p.b p.n p.s x hx hx2 hs hs2 _ g2.1 g2.2 rfl w
    · rw [wr_not p x g2]
      by_cases g4 : x / 128 = 1
      · exact rwrite_1b p.d p.c p.l p.b p.n p.s x hx hx2 _ g4 (fun y => g2 ⟨g4, y⟩) (by show 128 + x % 2 = x / 128 * 128 + x % 2; omega) w
      · exact rwrite_1a p.d p.c p.l p.b p.n p.s x hx hx2 _ rfl g4 w
  · have e1 : wrV p k x = p := by unfold wrV; rw [if_neg g0, if_neg g1]
    rw [e1]
    exact rwrite_3 p.d p.c p.l p.b p.n p.s x hx hx2 k g0 g1 w
end Go.Proofs.Ytlgdfikmdlhobaa
