/-
  The walk through RegsAgain where the bytes are a set: it returns true.
-/
import Derived.Test.YtiolfmmekcahaaaAgain0
namespace Go.Proofs.Ytiolfmmekcahaaa.regsAgain
open Go.ChangeShapes Go.WideShapes Go.ChangeAt Go.RowKit

set_option maxHeartbeats 2000000 in
set_option maxRecDepth 100000 in
theorem walkO (r o d : RR) (ok : r.ok) (oko : o.ok) (okd : d.ok) (a : Option Addr) (n c : Nat) (y : Int) (q : Bool) (hq : q = true ↔ ∀ k, k < 12 → encF r k = encF o k) (_hm : n ≤ 9223372036854775807) (hn : decide (60 < (n : Int)) = false) (hy : (y == 0) = true) (w : World)
    (DC : Hid (∀ W, Below w.heap.size w W → Calls Try.prog 21 #[.slice a n c] W fun e w' => e = .returned (.tuple #[.agg #[.int .u8 d.a, .int .u8 d.f, .int .u8 d.b, .int .u8 d.c, .int .u8 d.d, .int .u8 d.e, .int .u8 d.h, .int .u8 d.l, .int .u16 d.sp, .int .u16 d.pc], .int .i64 y]) ∧ Below W.heap.size W w')) (DS : Hid (∀ W bd, Below w.heap.size w W → Has W bd (encA d) → Calls Try.prog 23 #[.slice (some ⟨bd, 0, none⟩) 12 12, .slice a n c] W fun e w' => e = .returned (.bool true) ∧ Below W.heap.size W w')) :
    Calls Try.prog 8 #[.agg #[.int .u8 r.a, .int .u8 r.f, .int .u8 r.b, .int .u8 r.c, .int .u8 r.d, .int .u8 r.e, .int .u8 r.h, .int .u8 r.l, .int .u16 r.sp, .int .u16 r.pc], .agg #[.int .u8 o.a, .int .u8 o.f, .int .u8 o.b, .int .u8 o.c, .int .u8 o.d, .int .u8 o.e, .int .u8 o.h, .int .u8 o.l, .int .u16 o.sp, .int .u16 o.pc], .slice a n c] w fun e w' => e = .returned (.bool true) ∧ Below w.heap.size w w' := by
  have OK := Lib.hid ok; have OKO := Lib.hid oko; have OKD := Lib.hid okd; have HQ := Lib.hid hq
  clear hq okd
  obtain ⟨_, ⟨_r1, _r2⟩, _⟩ := ok
  obtain ⟨_, ⟨_o1, _o2⟩, _⟩ := oko
  have N1 := Lib.hid (not15b r.f _r1 _r2)
  have N2 := Lib.hid (not15b o.f _o1 _o2)
  go_enter Try.func8, Try.ntmps8
  go_wp2_with fail
  with_reducible refine (awake_c _).mono ?_
  rintro e w1 ⟨rfl, hb1⟩
  obtain ⟨A1, A2, b1⟩ := two_new hb1
  have BB1 := Lib.hid b1
  have y1_1 := A1.1; have y2_1 := A2.1
  clear hb1 b1
  obtain ⟨c1, f1⟩ := A1.out
  obtain ⟨c2, f2⟩ := A2.out
  have K1 := Lib.hid A1; have K2 := Lib.hid A2; clear A1 A2
  go_wp2_with fail
  with_reducible refine (DC.out _ BB1.out).mono ?_
  rintro e w2 ⟨rfl, hb2⟩
  have A1 := K1.out.below hb2
  have A2 := K2.out.below hb2
  have BB2 := Lib.hid (BB1.out.step (BB1.out.size) hb2)
  clear hb2
  have y1_2 := A1.1
  have y2_2 := A2.1
  clear c1 f1 K1 c2 f2 K2
  obtain ⟨c1, f1⟩ := A1.out
  obtain ⟨c2, f2⟩ := A2.out
  have K1 := Lib.hid A1; clear A1
  have K2 := Lib.hid A2; clear A2
  go_wp2_with fail
  with_reducible refine (enc_cp d OKD.out _).mono ?_
  rintro e w2b ⟨bd, rfl, hled, hEd, hbd⟩
  have A1 := K1.out.stepA hbd
  have A2 := K2.out.stepA hbd
  have BBd := Lib.hid (BB2.out.stepA BB2.out.size hbd)
  have KD := Lib.hid hEd
  clear hled hEd hbd K1 K2
  have K1 := Lib.hid A1; have K2 := Lib.hid A2; clear A1 A2
  go_wp2_with fail
  with_reducible refine (DS.out _ _ BBd.out KD.out).mono ?_
  rintro e w3 ⟨rfl, hbs⟩
  have A1 := K1.out.below hbs
  have A2 := K2.out.below hbs
  have b3 := BBd.out.step BBd.out.size hbs
  clear hbs
  have BB3 := Lib.hid b3
  have y1_3 := A1.1; have y2_3 := A2.1
  have y1_4 : w.heap.size < w3.heap.size + 1 := by omega
  have y2_4 : w.heap.size + 1 < w3.heap.size + 1 := by omega
  go_wp2
  clear b3 c1 f1 c2 f2 K1 K2
  obtain ⟨c1, f1⟩ := A1.out
  obtain ⟨c2, f2⟩ := A2.out
  clear A1 A2
  have A := Two.mk2 (A := #[Value.int .u8 o.a, Value.int .u8 o.f, Value.int .u8 o.b, Value.int .u8 o.c, Value.int .u8 o.d, Value.int .u8 o.e, Value.int .u8 o.h, Value.int .u8 o.l, Value.int .u16 o.sp, Value.int .u16 o.pc]) (B := #[Value.int .u8 r.a, Value.int .u8 r.f, Value.int .u8 r.b, Value.int .u8 r.c, Value.int .u8 r.d, Value.int .u8 r.e, Value.int .u8 r.h, Value.int .u8 r.l, Value.int .u16 r.sp, Value.int .u16 r.pc]) (ta := 26) (tb := 26) BB3.out
  have A' := Two.mk2 (A := #[Value.int .u8 r.a, Value.int .u8 r.f, Value.int .u8 r.b, Value.int .u8 r.c, Value.int .u8 r.d, Value.int .u8 r.e, Value.int .u8 r.h, Value.int .u8 r.l, Value.int .u16 r.sp, Value.int .u16 r.pc]) (B := #[Value.int .u8 o.a, Value.int .u8 o.f, Value.int .u8 o.b, Value.int .u8 o.c, Value.int .u8 o.d, Value.int .u8 o.e, Value.int .u8 o.h, Value.int .u8 o.l, Value.int .u16 o.sp, Value.int .u16 o.pc]) (ta := 26) (tb := 26) BB3.out
  have TA := Lib.hid A.swap; have TB := Lib.hid A'
  clear A A'
  go_region
  · generalize ((w3.alloc (.cells #[Value.int .u8 r.a, Value.int .u8 r.f, Value.int .u8 r.b, Value.int .u8 r.c, Value.int .u8 r.d, Value.int .u8 r.e, Value.int .u8 r.h, Value.int .u8 r.l, Value.int .u16 r.sp, Value.int .u16 r.pc] 26)).alloc (.cells #[Value.int .u8 o.a, Value.int .u8 o.f, Value.int .u8 o.b, Value.int .u8 o.c, Value.int .u8 o.d, Value.int .u8 o.e, Value.int .u8 o.h, Value.int .u8 o.l, Value.int .u16 o.sp, Value.int .u16 o.pc] 26)).drew = w4 at TB ⊢
    have T0 := TB
    have ne : w3.heap.size ≠ w3.heap.size + 1 := by omega
    have lx : w.heap.size ≤ w3.heap.size := by omega
    have ly : w.heap.size ≤ w3.heap.size + 1 := by omega
    clear TA TB y1_3 y2_3 y1_4 y2_4
    generalize w3.heap.size + 1 = by_ at T0 ne lx ly ⊢
    generalize w3.heap.size = bx at T0 ne lx ly ⊢
    go_wp2
    refine wp_region_held_drew (S := (fun w' => (∀ o', w'.cell? ⟨bx, o', none⟩ = #[Value.int .u8 r.a, Value.int .u8 r.f, Value.int .u8 r.b, Value.int .u8 r.c, Value.int .u8 r.d, Value.int .u8 r.e, Value.int .u8 r.h, Value.int .u8 r.l, Value.int .u16 r.sp, Value.int .u16 r.pc][o']?) ∧ (∀ o', w'.cell? ⟨by_, o', none⟩ = #[Value.int .u8 o.a, Value.int .u8 o.f, Value.int .u8 o.b, Value.int .u8 o.c, Value.int .u8 o.d, Value.int .u8 o.e, Value.int .u8 o.h, Value.int .u8 o.l, Value.int .u16 o.sp, Value.int .u16 o.pc][o']?) ∧ Two w bx by_ #[Value.int .u8 r.a, Value.int .u8 r.f, Value.int .u8 r.b, Value.int .u8 r.c, Value.int .u8 r.d, Value.int .u8 r.e, Value.int .u8 r.h, Value.int .u8 r.l, Value.int .u16 r.sp, Value.int .u16 r.pc] #[Value.int .u8 o.a, Value.int .u8 o.f, Value.int .u8 o.b, Value.int .u8 o.c, Value.int .u8 o.d, Value.int .u8 o.e, Value.int .u8 o.h, Value.int .u8 o.l, Value.int .u16 o.sp, Value.int .u16 o.pc] w')) (by kernel_rfl) (Two.begin T0.out) (fun hHeld => ?_)
    refine wpAnyH_take (i := 0) (oi := { dst := some 36, op := Go.Op.load 26 (Go.Operand.tmp 9), type := 26, pos := "law.go:114", after := #[], guard := none }) (v := ?va0) rfl (by kernel_rfl) (by kernel_rfl) (by kernel_rfl) (fun _ _ _ h => h) (Or.inl ⟨by rfl, ?ya0⟩) (by assumption) ?za0
    case ya0 => (intro w hSw; (try dsimp only at hSw); go_simp) <;> with_reducible rfl
    try simp only [Act.put, List.setIfInBounds_toArray, List.set_cons_zero, List.set_cons_succ]
    refine wpAnyH_take (i := 2) (oi := { dst := some 38, op := Go.Op.load 26 (Go.Operand.tmp 10), type := 26, pos := "law.go:114", after := #[], guard := none }) (v := ?va2) rfl (by kernel_rfl) (by kernel_rfl) (by kernel_rfl) (fun _ _ _ h => h) (Or.inl ⟨by rfl, ?ya2⟩) (by assumption) ?za2
    case ya2 => (intro w hSw; (try dsimp only at hSw); go_simp) <;> with_reducible rfl
    try simp only [Act.put, List.setIfInBounds_toArray, List.set_cons_zero, List.set_cons_succ]
    refine wpAnyH_ready (rs := [1]) (by kernel_rfl) (by simp) ?_
    refine AllReadyH.cons (o := { dst := some 37, op := Go.Op.call { callee := Go.Callee.value (Go.Operand.func 20), args := #[Go.Operand.tmp 36], argTypes := #[26] }, type := 44, pos := "law.go:114", after := #[{ on := 0, ground := Go.Ground.data }], guard := none }) rfl (fun K hK => ?_) AllReadyH.nil
    go_simp
    with_reducible refine (enc_cp r OK.out _).mono ?_
    rintro e w5 ⟨b1, rfl, hle1, hE1, hb⟩
    have KE1 := Lib.hid hE1; clear hE1
    refine hK.out _ _ ?sa1 (fun hHeld => ?ra1)
    case sa1 => exact Two.step hHeld.2.2 hb
    clear hK K
    refine wpAnyH_ready (rs := [3]) (by kernel_rfl) (by simp) ?_
    refine AllReadyH.cons (o := { dst := some 39, op := Go.Op.call { callee := Go.Callee.value (Go.Operand.func 20), args := #[Go.Operand.tmp 38], argTypes := #[26] }, type := 44, pos := "law.go:114", after := #[{ on := 2, ground := Go.Ground.data }, { on := 1, ground := Go.Ground.chain }], guard := none }) rfl (fun K hK => ?_) AllReadyH.nil
    go_simp
    with_reducible refine (enc_cp o OKO.out _).mono ?_
    rintro e w6 ⟨b2, rfl, hle2, hE2, hb⟩
    have KE2 := Lib.hid hE2; have KE1' := Lib.hid (KE1.out.below hb); clear hE2
    refine hK.out _ _ ?sa3 (fun hHeld => ?ra3)
    case sa3 => exact Two.step hHeld.2.2 hb
    clear hK K
    refine wpAnyH_ready (rs := [4]) (by kernel_rfl) (by simp) ?_
    refine AllReadyH.cons (o := { dst := some 40, op := Go.Op.call { callee := Go.Callee.value (Go.Operand.func 23), args := #[Go.Operand.tmp 37, Go.Operand.tmp 39], argTypes := #[44, 44] }, type := 4, pos := "law.go:114", after := #[{ on := 1, ground := Go.Ground.data }, { on := 3, ground := Go.Ground.data }, { on := 3, ground := Go.Ground.chain }], guard := none }) rfl (fun K hK => ?_) AllReadyH.nil
    go_simp
    with_reducible refine (same_two r o b1 b2 q HQ.out _ KE1'.out KE2.out).mono ?_
    rintro e w7 ⟨rfl, hb⟩
    refine hK.out _ _ ?sa4 (fun hHeld => ?ra4)
    case sa4 => exact Two.step hHeld.2.2 hb
    clear hK K
    refine wpAnyH_take (i := 5) (oi := { dst := some 11, op := Go.Op.assign (Go.Operand.tmp 40), type := 4, pos := "law.go:114", after := #[{ on := 4, ground := Go.Ground.data }, { on := 4, ground := Go.Ground.chain }, { on := 0, ground := Go.Ground.phase }, { on := 1, ground := Go.Ground.phase }, { on := 2, ground := Go.Ground.phase }, { on := 3, ground := Go.Ground.phase }, { on := 4, ground := Go.Ground.phase }], guard := none }) (v := ?va5) rfl (by kernel_rfl) (by kernel_rfl) (by kernel_rfl) (fun _ _ _ h => h) (Or.inl ⟨by rfl, ?ya5⟩) (by assumption) ?za5
    case ya5 => (intro w hSw; (try dsimp only at hSw); go_simp) <;> with_reducible rfl
    try simp only [Act.put, List.setIfInBounds_toArray, List.set_cons_zero, List.set_cons_succ]
    refine wpAnyH_done (by kernel_rfl) ?_ _
    have T1 := Lib.hid hHeld.2.2
    obtain ⟨cx, fx⟩ := hHeld.2.2.1.out
    obtain ⟨cy, fy⟩ := hHeld.2.2.2.1.out
    clear hHeld hb KE1 KE1' KE2 hle1 hle2 T0
    go_wp2
    go_region
    rw [N1.out, N2.out]
    have T2 : Two w bx by_ #[Value.int .u8 r.a, .int .u8 (r.f / 16 * 16), .int .u8 r.b, .int .u8 r.c, .int .u8 r.d, .int .u8 r.e, .int .u8 r.h, .int .u8 r.l, .int .u16 r.sp, .int .u16 r.pc] #[Value.int .u8 o.a, .int .u8 (o.f / 16 * 16), .int .u8 o.b, .int .u8 o.c, .int .u8 o.d, .int .u8 o.e, .int .u8 o.h, .int .u8 o.l, .int .u16 o.sp, .int .u16 o.pc] ((w7.setCell ⟨bx, 1, none⟩ (.int .u8 (r.f / 16 * 16))).setCell ⟨by_, 1, none⟩ (.int .u8 (o.f / 16 * 16))).drew := T1.out.sets ne lx ly _ _ (by simp) (by simp)
    generalize ((w7.setCell ⟨bx, 1, none⟩ (.int .u8 (r.f / 16 * 16))).setCell ⟨by_, 1, none⟩ (.int .u8 (o.f / 16 * 16))).drew = w8 at T2 ⊢
    clear cx fx cy fy T1
    obtain ⟨cx, fx⟩ := T2.1.out
    obtain ⟨cy, fy⟩ := T2.2.1.out
    have BB8 := Lib.hid T2.2.2
    clear T2
    cases q with
    | true =>
      obtain ⟨g0, g1, g2, g3, g4, g5, g6, g7, g8, g9⟩ := (alike_iff r o OK.out OKO.out).1 (HQ.out.1 rfl)
      go_wp2_with (go_at_call 20; (with_reducible refine (enc_any _ _ _ _ _ _ _ _ _ _ ?_ _).mono ?_); (have u1 := OK.out; have u2 := OKO.out; simp only [RR.ok] at u1 u2 ⊢; omega); rintro e w9 ⟨b9, rfl, hb9⟩; have B9 := Lib.hid hb9; clear hb9)
      go_ret
      exact ⟨rfl, BB8.out.step BB8.out.size B9.out⟩
    | false =>
      have NE := Lib.hid (show ¬ Alike r o from fun h => absurd (HQ.out.2 ((alike_iff r o OK.out OKO.out).2 h)) (by decide))
      go_wp2_with (go_at_call 20; (with_reducible refine (enc_any _ _ _ _ _ _ _ _ _ _ ?_ _).mono ?_); (have u1 := OK.out; have u2 := OKO.out; simp only [RR.ok] at u1 u2 ⊢; omega); rintro e w9 ⟨b9, rfl, hb9⟩; have B9 := Lib.hid hb9; clear hb9)
      all_goals first | (go_ret; exact ⟨rfl, BB8.out.step BB8.out.size B9.out⟩) | (exfalso; exact NE.out ⟨‹r.a = o.a›, ‹r.f / 16 * 16 = o.f / 16 * 16›, ‹r.b = o.b›, ‹r.c = o.c›, ‹r.d = o.d›, ‹r.e = o.e›, ‹r.h = o.h›, ‹r.l = o.l›, ‹r.sp = o.sp›, ‹r.pc = o.pc›⟩)

  · generalize ((w3.alloc (.cells #[Value.int .u8 o.a, Value.int .u8 o.f, Value.int .u8 o.b, Value.int .u8 o.c, Value.int .u8 o.d, Value.int .u8 o.e, Value.int .u8 o.h, Value.int .u8 o.l, Value.int .u16 o.sp, Value.int .u16 o.pc] 26)).alloc (.cells #[Value.int .u8 r.a, Value.int .u8 r.f, Value.int .u8 r.b, Value.int .u8 r.c, Value.int .u8 r.d, Value.int .u8 r.e, Value.int .u8 r.h, Value.int .u8 r.l, Value.int .u16 r.sp, Value.int .u16 r.pc] 26)).drew = w4 at TA ⊢
    have T0 := TA
    have ne : w3.heap.size + 1 ≠ w3.heap.size := by omega
    have lx : w.heap.size ≤ w3.heap.size + 1 := by omega
    have ly : w.heap.size ≤ w3.heap.size := by omega
    clear TA TB y1_3 y2_3 y1_4 y2_4
    generalize w3.heap.size + 1 = bx at T0 ne lx ly ⊢
    generalize w3.heap.size = by_ at T0 ne lx ly ⊢
    go_wp2
    refine wp_region_held_drew (S := (fun w' => (∀ o', w'.cell? ⟨bx, o', none⟩ = #[Value.int .u8 r.a, Value.int .u8 r.f, Value.int .u8 r.b, Value.int .u8 r.c, Value.int .u8 r.d, Value.int .u8 r.e, Value.int .u8 r.h, Value.int .u8 r.l, Value.int .u16 r.sp, Value.int .u16 r.pc][o']?) ∧ (∀ o', w'.cell? ⟨by_, o', none⟩ = #[Value.int .u8 o.a, Value.int .u8 o.f, Value.int .u8 o.b, Value.int .u8 o.c, Value.int .u8 o.d, Value.int .u8 o.e, Value.int .u8 o.h, Value.int .u8 o.l, Value.int .u16 o.sp, Value.int .u16 o.pc][o']?) ∧ Two w bx by_ #[Value.int .u8 r.a, Value.int .u8 r.f, Value.int .u8 r.b, Value.int .u8 r.c, Value.int .u8 r.d, Value.int .u8 r.e, Value.int .u8 r.h, Value.int .u8 r.l, Value.int .u16 r.sp, Value.int .u16 r.pc] #[Value.int .u8 o.a, Value.int .u8 o.f, Value.int .u8 o.b, Value.int .u8 o.c, Value.int .u8 o.d, Value.int .u8 o.e, Value.int .u8 o.h, Value.int .u8 o.l, Value.int .u16 o.sp, Value.int .u16 o.pc] w')) (by kernel_rfl) (Two.begin T0.out) (fun hHeld => ?_)
    refine wpAnyH_take (i := 0) (oi := { dst := some 36, op := Go.Op.load 26 (Go.Operand.tmp 9), type := 26, pos := "law.go:114", after := #[], guard := none }) (v := ?vb0) rfl (by kernel_rfl) (by kernel_rfl) (by kernel_rfl) (fun _ _ _ h => h) (Or.inl ⟨by rfl, ?yb0⟩) (by assumption) ?zb0
    case yb0 => (intro w hSw; (try dsimp only at hSw); go_simp) <;> with_reducible rfl
    try simp only [Act.put, List.setIfInBounds_toArray, List.set_cons_zero, List.set_cons_succ]
    refine wpAnyH_take (i := 2) (oi := { dst := some 38, op := Go.Op.load 26 (Go.Operand.tmp 10), type := 26, pos := "law.go:114", after := #[], guard := none }) (v := ?vb2) rfl (by kernel_rfl) (by kernel_rfl) (by kernel_rfl) (fun _ _ _ h => h) (Or.inl ⟨by rfl, ?yb2⟩) (by assumption) ?zb2
    case yb2 => (intro w hSw; (try dsimp only at hSw); go_simp) <;> with_reducible rfl
    try simp only [Act.put, List.setIfInBounds_toArray, List.set_cons_zero, List.set_cons_succ]
    refine wpAnyH_ready (rs := [1]) (by kernel_rfl) (by simp) ?_
    refine AllReadyH.cons (o := { dst := some 37, op := Go.Op.call { callee := Go.Callee.value (Go.Operand.func 20), args := #[Go.Operand.tmp 36], argTypes := #[26] }, type := 44, pos := "law.go:114", after := #[{ on := 0, ground := Go.Ground.data }], guard := none }) rfl (fun K hK => ?_) AllReadyH.nil
    go_simp
    with_reducible refine (enc_cp r OK.out _).mono ?_
    rintro e w5 ⟨b1, rfl, hle1, hE1, hb⟩
    have KE1 := Lib.hid hE1; clear hE1
    refine hK.out _ _ ?sb1 (fun hHeld => ?rb1)
    case sb1 => exact Two.step hHeld.2.2 hb
    clear hK K
    refine wpAnyH_ready (rs := [3]) (by kernel_rfl) (by simp) ?_
    refine AllReadyH.cons (o := { dst := some 39, op := Go.Op.call { callee := Go.Callee.value (Go.Operand.func 20), args := #[Go.Operand.tmp 38], argTypes := #[26] }, type := 44, pos := "law.go:114", after := #[{ on := 2, ground := Go.Ground.data }, { on := 1, ground := Go.Ground.chain }], guard := none }) rfl (fun K hK => ?_) AllReadyH.nil
    go_simp
    with_reducible refine (enc_cp o OKO.out _).mono ?_
    rintro e w6 ⟨b2, rfl, hle2, hE2, hb⟩
    have KE2 := Lib.hid hE2; have KE1' := Lib.hid (KE1.out.below hb); clear hE2
    refine hK.out _ _ ?sb3 (fun hHeld => ?rb3)
    case sb3 => exact Two.step hHeld.2.2 hb
    clear hK K
    refine wpAnyH_ready (rs := [4]) (by kernel_rfl) (by simp) ?_
    refine AllReadyH.cons (o := { dst := some 40, op := Go.Op.call { callee := Go.Callee.value (Go.Operand.func 23), args := #[Go.Operand.tmp 37, Go.Operand.tmp 39], argTypes := #[44, 44] }, type := 4, pos := "law.go:114", after := #[{ on := 1, ground := Go.Ground.data }, { on := 3, ground := Go.Ground.data }, { on := 3, ground := Go.Ground.chain }], guard := none }) rfl (fun K hK => ?_) AllReadyH.nil
    go_simp
    with_reducible refine (same_two r o b1 b2 q HQ.out _ KE1'.out KE2.out).mono ?_
    rintro e w7 ⟨rfl, hb⟩
    refine hK.out _ _ ?sb4 (fun hHeld => ?rb4)
    case sb4 => exact Two.step hHeld.2.2 hb
    clear hK K
    refine wpAnyH_take (i := 5) (oi := { dst := some 11, op := Go.Op.assign (Go.Operand.tmp 40), type := 4, pos := "law.go:114", after := #[{ on := 4, ground := Go.Ground.data }, { on := 4, ground := Go.Ground.chain }, { on := 0, ground := Go.Ground.phase }, { on := 1, ground := Go.Ground.phase }, { on := 2, ground := Go.Ground.phase }, { on := 3, ground := Go.Ground.phase }, { on := 4, ground := Go.Ground.phase }], guard := none }) (v := ?vb5) rfl (by kernel_rfl) (by kernel_rfl) (by kernel_rfl) (fun _ _ _ h => h) (Or.inl ⟨by rfl, ?yb5⟩) (by assumption) ?zb5
    case yb5 => (intro w hSw; (try dsimp only at hSw); go_simp) <;> with_reducible rfl
    try simp only [Act.put, List.setIfInBounds_toArray, List.set_cons_zero, List.set_cons_succ]
    refine wpAnyH_done (by kernel_rfl) ?_ _
    have T1 := Lib.hid hHeld.2.2
    obtain ⟨cx, fx⟩ := hHeld.2.2.1.out
    obtain ⟨cy, fy⟩ := hHeld.2.2.2.1.out
    clear hHeld hb KE1 KE1' KE2 hle1 hle2 T0
    go_wp2
    go_region
    rw [N1.out, N2.out]
    have T2 : Two w bx by_ #[Value.int .u8 r.a, .int .u8 (r.f / 16 * 16), .int .u8 r.b, .int .u8 r.c, .int .u8 r.d, .int .u8 r.e, .int .u8 r.h, .int .u8 r.l, .int .u16 r.sp, .int .u16 r.pc] #[Value.int .u8 o.a, .int .u8 (o.f / 16 * 16), .int .u8 o.b, .int .u8 o.c, .int .u8 o.d, .int .u8 o.e, .int .u8 o.h, .int .u8 o.l, .int .u16 o.sp, .int .u16 o.pc] ((w7.setCell ⟨bx, 1, none⟩ (.int .u8 (r.f / 16 * 16))).setCell ⟨by_, 1, none⟩ (.int .u8 (o.f / 16 * 16))).drew := T1.out.sets ne lx ly _ _ (by simp) (by simp)
    generalize ((w7.setCell ⟨bx, 1, none⟩ (.int .u8 (r.f / 16 * 16))).setCell ⟨by_, 1, none⟩ (.int .u8 (o.f / 16 * 16))).drew = w8 at T2 ⊢
    clear cx fx cy fy T1
    obtain ⟨cx, fx⟩ := T2.1.out
    obtain ⟨cy, fy⟩ := T2.2.1.out
    have BB8 := Lib.hid T2.2.2
    clear T2
    cases q with
    | true =>
      obtain ⟨g0, g1, g2, g3, g4, g5, g6, g7, g8, g9⟩ := (alike_iff r o OK.out OKO.out).1 (HQ.out.1 rfl)
      go_wp2_with (go_at_call 20; (with_reducible refine (enc_any _ _ _ _ _ _ _ _ _ _ ?_ _).mono ?_); (have u1 := OK.out; have u2 := OKO.out; simp only [RR.ok] at u1 u2 ⊢; omega); rintro e w9 ⟨b9, rfl, hb9⟩; have B9 := Lib.hid hb9; clear hb9)
      go_ret
      exact ⟨rfl, BB8.out.step BB8.out.size B9.out⟩
    | false =>
      have NE := Lib.hid (show ¬ Alike r o from fun h => absurd (HQ.out.2 ((alike_iff r o OK.out OKO.out).2 h)) (by decide))
      go_wp2_with (go_at_call 20; (with_reducible refine (enc_any _ _ _ _ _ _ _ _ _ _ ?_ _).mono ?_); (have u1 := OK.out; have u2 := OKO.out; simp only [RR.ok] at u1 u2 ⊢; omega); rintro e w9 ⟨b9, rfl, hb9⟩; have B9 := Lib.hid hb9; clear hb9)
      all_goals first | (go_ret; exact ⟨rfl, BB8.out.step BB8.out.size B9.out⟩) | (exfalso; exact NE.out ⟨‹r.a = o.a›, ‹r.f / 16 * 16 = o.f / 16 * 16›, ‹r.b = o.b›, ‹r.c = o.c›, ‹r.d = o.d›, ‹r.e = o.e›, ‹r.h = o.h›, ‹r.l = o.l›, ‹r.sp = o.sp›, ‹r.pc = o.pc›⟩)
end Go.Proofs.Ytiolfmmekcahaaa.regsAgain
