/-
  The walk through RegsBytes: for every set of registers and every slice of bytes it returns true; no condition but that each argument fits its kind.
-/
import Derived.Test.YtiolfmmekcahaaaBytes0
namespace Go.Proofs.Ytiolfmmekcahaaa.regsBytes
open Go.ChangeShapes Go.WideShapes Go.ChangeAt Go.RowKit

theorem _root_.Go.Proofs.Ytiolfmmekcahaaa.Has.far {w : World} {b b' k : Nat} {A : Array Value} (h : Has w b A) (hne : b' ≠ b) (v : Value) : Has (w.setCell ⟨b', k, none⟩ v) b A :=
  ⟨by simpa using h.1, fun o => (World.cell?_setCell_far w ⟨b', k, none⟩ ⟨b, o, none⟩ v hne).trans (h.2.1 o), fun o => by simpa [go_sem] using h.2.2 o⟩

theorem enc_cut (r : RR) (ok : r.ok) (w : World) : Calls Try.prog 24 #[.agg #[.int .u8 r.a, .int .u8 (r.f / 16 * 16), .int .u8 r.b, .int .u8 r.c, .int .u8 r.d, .int .u8 r.e, .int .u8 r.h, .int .u8 r.l, .int .u16 r.sp, .int .u16 r.pc]] w (EncPost (cutF r) w) := enc_rp (cutF r) (cutF_ok ok) w
theorem dec_back (r : RR) (ok : r.ok) (b : Nat) (w : World) (h : Has w b (encA r)) :
    Calls Try.prog 21 #[.slice (some ⟨b, 0, none⟩) 12 12] w fun e w' => e = .returned (.tuple #[.agg #[.int .u8 r.a, .int .u8 (r.f / 16 * 16), .int .u8 r.b, .int .u8 r.c, .int .u8 r.d, .int .u8 r.e, .int .u8 r.h, .int .u8 r.l, .int .u16 r.sp, .int .u16 r.pc], .int .i64 0]) ∧ Below w.heap.size w w' := by
  have H := dec_c_ok b 0 12 (encL r) w (encL_ok ok) (Has.encL h) h.1 (Nat.le_refl _) (enc_q r)
  rw [dec_enc r ok] at H
  exact H
theorem same_enc (r : RR) (b b' : Nat) (w : World) (h : Has w b (encA r)) (h' : Has w b' (encA (cutF r))) :
    Calls Try.prog 23 #[.slice (some ⟨b, 0, none⟩) 12 12, .slice (some ⟨b', 0, none⟩) 12 12] w fun e w' => e = .returned (.bool true) ∧ Below w.heap.size w w' :=
  same_c b 0 12 b' 0 12 12 (encF r) (encF (cutF r)) true ⟨fun _ k hk => by
    rcases lt12 hk with rfl | rfl | rfl | rfl | rfl | rfl | rfl | rfl | rfl | rfl | rfl | rfl <;> simp [encF, cutF], fun _ => rfl⟩ (by omega) w h.1 h'.1 (Has.encF h) (Has.encF h')

set_option maxHeartbeats 1000000 in
theorem walkA (r : RR) (a : Option Addr) (n c : Nat) (_hm : n ≤ 9223372036854775807) (hn : decide (60 < (n : Int)) = true) (w : World) :
    Calls Try.prog 4 #[.agg #[.int .u8 r.a, .int .u8 r.f, .int .u8 r.b, .int .u8 r.c, .int .u8 r.d, .int .u8 r.e, .int .u8 r.h, .int .u8 r.l, .int .u16 r.sp, .int .u16 r.pc], .slice a n c] w fun e w' => e = .returned (.bool true) ∧ Below w.heap.size w w' := by
  go_enter Try.func4, Try.ntmps4
  go_wp2_with fail
  with_reducible refine (awake_c _).mono ?_
  rintro e w1 ⟨rfl, hb1⟩
  have B1 := Lib.hid hb1; clear hb1
  go_wp2_with fail
  with_reducible refine (awake_c _).mono ?_
  rintro e w2 ⟨rfl, hb2⟩
  have B2 := Lib.hid hb2; clear hb2
  go_wp2
  go_ret
  have b1 := (Below.refl w.heap.size w).stepA (Nat.le_refl _) B1.out
  exact ⟨rfl, b1.step b1.size B2.out⟩

set_option maxHeartbeats 2000000 in
set_option maxRecDepth 100000 in
theorem walkB (r d : RR) (ok : r.ok) (a : Option Addr) (n c : Nat) (y : Int) (_hm : n ≤ 9223372036854775807) (hn : decide (60 < (n : Int)) = false) (w : World)
    (DC : Hid (∀ W, Below w.heap.size w W → Calls Try.prog 21 #[.slice a n c] W fun e w' => e = .returned (.tuple #[.agg #[.int .u8 d.a, .int .u8 d.f, .int .u8 d.b, .int .u8 d.c, .int .u8 d.d, .int .u8 d.e, .int .u8 d.h, .int .u8 d.l, .int .u16 d.sp, .int .u16 d.pc], .int .i64 y]) ∧ Below W.heap.size W w'))
    (DR : Hid (∀ W, Below w.heap.size w W → Calls Try.prog 22 #[.slice a n c] W fun e w' => e = .returned (.tuple #[.agg #[.int .u8 d.a, .int .u8 d.f, .int .u8 d.b, .int .u8 d.c, .int .u8 d.d, .int .u8 d.e, .int .u8 d.h, .int .u8 d.l, .int .u16 d.sp, .int .u16 d.pc], .int .i64 y]) ∧ Below W.heap.size W w')) :
    Calls Try.prog 4 #[.agg #[.int .u8 r.a, .int .u8 r.f, .int .u8 r.b, .int .u8 r.c, .int .u8 r.d, .int .u8 r.e, .int .u8 r.h, .int .u8 r.l, .int .u16 r.sp, .int .u16 r.pc], .slice a n c] w fun e w' => e = .returned (.bool true) ∧ Below w.heap.size w w' := by
  have OK := Lib.hid ok
  obtain ⟨_, ⟨_r1, _r2⟩, _⟩ := ok
  go_enter Try.func4, Try.ntmps4
  go_wp2_with fail
  with_reducible refine (awake_c _).mono ?_
  rintro e w1 ⟨rfl, hb1⟩
  have A1 := Has.stepN hb1
  have BB1 := Lib.hid ((Below.refl w.heap.size w).stepA (Nat.le_refl _) hb1)
  clear hb1
  have y1_1 := A1.1
  obtain ⟨c1, f1⟩ := A1.out
  have K1 := Lib.hid A1; clear A1
  go_wp2_with fail
  with_reducible refine (enc_cp r OK.out _).mono ?_
  rintro e w2 ⟨bx, rfl, hle, hH, hb2⟩
  have A1 := K1.out.stepA hb2
  have A2 := Has.stepN hb2
  have BB2 := Lib.hid (BB1.out.stepA (BB1.out.size) hb2)
  have xne : w.heap.size ≠ bx := by have := y1_1; simp at hle; omega
  have KX := Lib.hid hH; clear hH hle hb2
  have y1_2 := A1.1
  have y2_2 := A2.1
  clear c1 f1 K1
  obtain ⟨c1, f1⟩ := A1.out
  obtain ⟨c2, f2⟩ := A2.out
  have K1 := Lib.hid A1; clear A1
  have K2 := Lib.hid A2; clear A2
  go_wp2_with fail
  with_reducible refine (DC.out _ BB2.out).mono ?_
  rintro e w3 ⟨rfl, hb3⟩
  have A1 := K1.out.below hb3
  have A2 := K2.out.below hb3
  have AX := KX.out.below hb3
  have BB3 := Lib.hid (BB2.out.step (BB2.out.size) hb3)
  clear hb3
  have y1_3 := A1.1
  have y2_3 := A2.1
  have yX_3 := AX.1
  clear c1 f1 K1 c2 f2 K2 KX
  obtain ⟨c1, f1⟩ := A1.out
  obtain ⟨c2, f2⟩ := A2.out
  have K1 := Lib.hid A1; clear A1
  have K2 := Lib.hid A2; clear A2
  have KX := Lib.hid AX; clear AX
  go_wp2_with fail
  with_reducible refine (DR.out _ (BB3.out.alloc BB3.out.size _)).mono ?_
  rintro e w4 ⟨rfl, hb4⟩
  have A1 := K1.out.stepA hb4
  have A2 := K2.out.stepA hb4
  have AX := KX.out.stepA hb4
  have A4 := Has.stepN hb4
  have BB4 := Lib.hid (BB3.out.stepA (BB3.out.size) hb4)
  clear hb4
  have y1_4 := A1.1
  have y2_4 := A2.1
  have yX_4 := AX.1
  have y4_4 := A4.1
  clear c1 f1 K1 c2 f2 K2 KX
  obtain ⟨c1, f1⟩ := A1.out
  obtain ⟨c2, f2⟩ := A2.out
  obtain ⟨c4, f4⟩ := A4.out
  have K1 := Lib.hid A1; clear A1
  have K2 := Lib.hid A2; clear A2
  have KX := Lib.hid AX; clear AX
  have K4 := Lib.hid A4; clear A4
  go_wp2_with fail
  with_reducible refine (dec_back r OK.out bx _ (KX.out.alloc _)).mono ?_
  rintro e w5 ⟨rfl, hb5⟩
  have A1 := K1.out.stepA hb5
  have A2 := K2.out.stepA hb5
  have AX := KX.out.stepA hb5
  have A4 := K4.out.stepA hb5
  have A5 := Has.stepN hb5
  have BB5 := Lib.hid (BB4.out.stepA (BB4.out.size) hb5)
  clear hb5
  have y1_5 := A1.1
  have y2_5 := A2.1
  have yX_5 := AX.1
  have y4_5 := A4.1
  have y5_5 := A5.1
  clear c1 f1 K1 c2 f2 K2 KX c4 f4 K4
  obtain ⟨c1, f1⟩ := A1.out
  obtain ⟨c2, f2⟩ := A2.out
  obtain ⟨c4, f4⟩ := A4.out
  obtain ⟨c5, f5⟩ := A5.out
  have K1 := Lib.hid A1; clear A1
  have K2 := Lib.hid A2; clear A2
  have KX := Lib.hid AX; clear AX
  have K4 := Lib.hid A4; clear A4
  have K5 := Lib.hid A5; clear A5
  go_wp2_with fail
  with_reducible refine (enc_cut r OK.out _).mono ?_
  rintro e w6 ⟨bz, rfl, hle, hH, hb6⟩
  have A1 : Has (w5.setCell ⟨w.heap.size, 1, none⟩ (.int .u8 (r.f / 16 * 16))) w.heap.size #[Value.int .u8 r.a, .int .u8 (r.f / 16 * 16), .int .u8 r.b, .int .u8 r.c, .int .u8 r.d, .int .u8 r.e, .int .u8 r.h, .int .u8 r.l, .int .u16 r.sp, .int .u16 r.pc] := K1.out.set 1 _ (by simp)
  have A1 := A1.stepA hb6
  have A2 := (K2.out.far (k := 1) (by omega) (.int .u8 (r.f / 16 * 16))).stepA hb6
  have AX := (KX.out.far (k := 1) xne (.int .u8 (r.f / 16 * 16))).stepA hb6
  have A4 := (K4.out.far (k := 1) (by omega) (.int .u8 (r.f / 16 * 16))).stepA hb6
  have A5 := (K5.out.far (k := 1) (by omega) (.int .u8 (r.f / 16 * 16))).stepA hb6
  have A6 : Has w6 w5.heap.size #[Value.int .u8 r.a, .int .u8 (r.f / 16 * 16), .int .u8 r.b, .int .u8 r.c, .int .u8 r.d, .int .u8 r.e, .int .u8 r.h, .int .u8 r.l, .int .u16 r.sp, .int .u16 r.pc] := by simpa using Has.stepN hb6
  have BB6 := Lib.hid ((BB5.out.setCell (p := ⟨w.heap.size, 1, none⟩) (Nat.le_refl _) (.int .u8 (r.f / 16 * 16))).stepA (by have := BB5.out.size; simpa using this) hb6)
  have KZ := Lib.hid hH
  clear hb6 hH hle c1 f1 K1 c2 f2 K2 KX c4 f4 K4 c5 f5 K5
  obtain ⟨c1, f1⟩ := A1.out
  obtain ⟨c4, f4⟩ := A4.out
  obtain ⟨c5, f5⟩ := A5.out
  obtain ⟨c6, f6⟩ := A6.out
  have K1 := Lib.hid A1; have K4 := Lib.hid A4; have K5 := Lib.hid A5; have K6 := Lib.hid A6; have KX := Lib.hid AX
  clear A1 A2 A4 A5 A6 AX
  go_wp2_with fail
  with_reducible refine (same_enc r bx bz _ KX.out KZ.out).mono ?_
  rintro e w7 ⟨rfl, hb7⟩
  have A1 := K1.out.below hb7
  have A4 := K4.out.below hb7
  have A5 := K5.out.below hb7
  have A6 := K6.out.below hb7
  have BB7 := Lib.hid (BB6.out.step BB6.out.size hb7)
  clear hb7 c1 f1 K1 c4 f4 K4 c5 f5 K5 c6 f6 K6 KX KZ
  obtain ⟨c1, f1⟩ := A1.out
  obtain ⟨c4, f4⟩ := A4.out
  obtain ⟨c5, f5⟩ := A5.out
  obtain ⟨c6, f6⟩ := A6.out
  clear A1 A4 A5 A6
  go_wp2
  go_ret
  exact ⟨rfl, BB7.out⟩

theorem walk (r : RR) (ok : r.ok) (v : Value) (w : World) (hv : SB w v) :
    Calls Try.prog 4 #[.agg #[.int .u8 r.a, .int .u8 r.f, .int .u8 r.b, .int .u8 r.c, .int .u8 r.d, .int .u8 r.e, .int .u8 r.h, .int .u8 r.l, .int .u16 r.sp, .int .u16 r.pc], v] w fun e w' => e = .returned (.bool true) ∧ Below w.heap.size w w' := by
  obtain ⟨a, n, c, rfl, hm, hl⟩ := hv
  by_cases h : 60 < n
  · exact walkA r a n c hm (by simp; omega) w
  have hn : decide (60 < (n : Int)) = false := by simp; omega
  by_cases h12 : n = 12
  · obtain ⟨b, off, l, rfl, hc, hlo, hat, hb⟩ := hl h12
    subst h12
    by_cases hq : (l.l1 % 16 != 0) = true
    · exact walkB r noR ok _ 12 c 5 hm hn w
        (fun W hW => dec_c_bad b off c l W hlo (L12.at_below hat hb hW) (Nat.lt_of_lt_of_le hb hW.size) hc hq)
        (fun W hW => dec_r_bad b off c l W hlo (L12.at_below hat hb hW) (Nat.lt_of_lt_of_le hb hW.size) hc hq)
    · exact walkB r (decR l) ok _ 12 c 0 hm hn w
        (fun W hW => dec_c_ok b off c l W hlo (L12.at_below hat hb hW) (Nat.lt_of_lt_of_le hb hW.size) hc (by simpa using hq))
        (fun W hW => dec_r_ok b off c l W hlo (L12.at_below hat hb hW) (Nat.lt_of_lt_of_le hb hW.size) hc (by simpa using hq))
  · exact walkB r noR ok a n c 6 hm hn w (fun W _ => dec_c_short a n c h12 (by omega) W) (fun W _ => dec_r_short a n c h12 (by omega) W)
end Go.Proofs.Ytiolfmmekcahaaa.regsBytes
