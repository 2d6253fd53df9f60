/-
  The walk through RegsAgain: for every two sets of registers and every slice of bytes it returns true; no condition but that each argument fits its kind.
-/
import Derived.Test.YtiolfmmekcahaaaBytes
import Derived.BigRegion
namespace Go.Proofs.Ytiolfmmekcahaaa.regsAgain
open Go.ChangeShapes Go.WideShapes Go.ChangeAt Go.RowKit

theorem not15b (a : Int) (h1 : 0 ≤ a) (h2 : a < 256) : bits .andNot .u8 a 15 = a / 16 * 16 :=
  byte_all (P := fun a => bits .andNot .u8 a 15 = a / 16 * 16) (by decide +kernel) a h1 h2
theorem same_two (r o : RR) (b b' : Nat) (q : Bool) (hq : q = true ↔ ∀ k, k < 12 → encF r k = encF o k) (w : World) (h : Has w b (encA r)) (h' : Has w b' (encA o)) :
    Calls Try.prog 23 #[.slice (some ⟨b, 0, none⟩) 12 12, .slice (some ⟨b', 0, none⟩) 12 12] w fun e w' => e = .returned (.bool q) ∧ Below w.heap.size w w' :=
  same_c b 0 12 b' 0 12 12 (encF r) (encF o) q hq (by omega) w h.1 h'.1 (Has.encF h) (Has.encF h')
def Two (w0 : World) (b1 b2 : Nat) (A1 A2 : Array Value) (w' : World) : Prop := Has w' b1 A1 ∧ Has w' b2 A2 ∧ Below w0.heap.size w0 w'
theorem Two.step {w0 W w2 : World} {b1 b2 : Nat} {A1 A2 : Array Value} (h : Two w0 b1 b2 A1 A2 W) (hb : Below W.heap.size W w2) :
    (∀ o, w2.cell? ⟨b1, o, none⟩ = A1[o]?) ∧ (∀ o, w2.cell? ⟨b2, o, none⟩ = A2[o]?) ∧ Two w0 b1 b2 A1 A2 w2 :=
  have a1 := h.1.below hb
  have a2 := h.2.1.below hb
  ⟨a1.2.1, a2.2.1, a1, a2, h.2.2.step h.2.2.size hb⟩
theorem Two.begin {w0 W : World} {b1 b2 : Nat} {A1 A2 : Array Value} (h : Two w0 b1 b2 A1 A2 W) :
    (∀ o, W.drew.cell? ⟨b1, o, none⟩ = A1[o]?) ∧ (∀ o, W.drew.cell? ⟨b2, o, none⟩ = A2[o]?) ∧ Two w0 b1 b2 A1 A2 W.drew :=
  ⟨h.1.drew.2.1, h.2.1.drew.2.1, h.1.drew, h.2.1.drew, h.2.2.drew⟩
theorem Two.mk2 {w0 W : World} {A B : Array Value} {ta tb : TypeId} (hb : Below w0.heap.size w0 W) :
    Two w0 W.heap.size (W.heap.size + 1) A B ((W.alloc (.cells A ta)).alloc (.cells B tb)).drew := by
  refine ⟨((Has.new W A ta).alloc _).drew, ?_, ((hb.alloc hb.size _).alloc (by have := hb.size; simp; omega) _).drew⟩
  have h := (Has.new (W.alloc (.cells A ta)) B tb).drew
  simpa using h
theorem Two.swap {w0 W : World} {b1 b2 : Nat} {A1 A2 : Array Value} (h : Two w0 b1 b2 A1 A2 W) : Two w0 b2 b1 A2 A1 W := ⟨h.2.1, h.1, h.2.2⟩
theorem Two.sets {w0 W : World} {b1 b2 : Nat} {A1 A2 : Array Value} (h : Two w0 b1 b2 A1 A2 W) (hne : b1 ≠ b2) (l1 : w0.heap.size ≤ b1) (l2 : w0.heap.size ≤ b2) (v1 v2 : Value) (k1 : 1 < A1.size) (k2 : 1 < A2.size) :
    Two w0 b1 b2 (A1.setIfInBounds 1 v1) (A2.setIfInBounds 1 v2) ((W.setCell ⟨b1, 1, none⟩ v1).setCell ⟨b2, 1, none⟩ v2).drew :=
  ⟨((h.1.set 1 v1 k1).far (Ne.symm hne) v2).drew, ((h.2.1.far hne v1).set 1 v2 k2).drew, ((h.2.2.setCell l1 _).setCell l2 _).drew⟩
theorem enc_cutc (r : RR) (ok : r.ok) (w : World) : Calls Try.prog 20 #[.agg #[.int .u8 r.a, .int .u8 (r.f / 16 * 16), .int .u8 r.b, .int .u8 r.c, .int .u8 r.d, .int .u8 r.e, .int .u8 r.h, .int .u8 r.l, .int .u16 r.sp, .int .u16 r.pc]] w (EncPost (cutF r) w) := enc_cp (cutF r) (cutF_ok ok) w
theorem enc_any (a f b c d e h l sp pc : Int) (ok : RR.ok ⟨a, f, b, c, d, e, h, l, sp, pc⟩) (w : World) :
    Calls Try.prog 20 #[.agg #[.int .u8 a, .int .u8 f, .int .u8 b, .int .u8 c, .int .u8 d, .int .u8 e, .int .u8 h, .int .u8 l, .int .u16 sp, .int .u16 pc]] w fun e w' => ∃ b, e = .returned (.slice (some ⟨b, 0, none⟩) 12 12) ∧ Below w.heap.size w w' :=
  (enc_cp ⟨a, f, b, c, d, e, h, l, sp, pc⟩ ok w).mono fun _ _ ⟨b, he, _, _, hb⟩ => ⟨b, he, hb⟩
def Alike (r o : RR) : Prop := r.a = o.a ∧ r.f / 16 * 16 = o.f / 16 * 16 ∧ r.b = o.b ∧ r.c = o.c ∧ r.d = o.d ∧ r.e = o.e ∧ r.h = o.h ∧ r.l = o.l ∧ r.sp = o.sp ∧ r.pc = o.pc
theorem alike_iff (r o : RR) (ok : r.ok) (oko : o.ok) : (∀ k, k < 12 → encF r k = encF o k) ↔ Alike r o := by
  obtain ⟨⟨a1, a2⟩, ⟨f1, f2⟩, ⟨b1, b2⟩, ⟨c1, c2⟩, ⟨d1, d2⟩, ⟨e1, e2⟩, ⟨h1, h2⟩, ⟨l1, l2⟩, ⟨s1, s2⟩, ⟨p1, p2⟩⟩ := ok
  obtain ⟨⟨a3, a4⟩, ⟨f3, f4⟩, ⟨b3, b4⟩, ⟨c3, c4⟩, ⟨d3, d4⟩, ⟨e3, e4⟩, ⟨h3, h4⟩, ⟨l3, l4⟩, ⟨s3, s4⟩, ⟨p3, p4⟩⟩ := oko
  constructor
  · intro h
    have k0 := h 0 (by omega); have k1 := h 1 (by omega); have k2 := h 2 (by omega); have k3 := h 3 (by omega); have k4 := h 4 (by omega); have k5 := h 5 (by omega)
    have k6 := h 6 (by omega); have k7 := h 7 (by omega); have k8 := h 8 (by omega); have k9 := h 9 (by omega); have k10 := h 10 (by omega); have k11 := h 11 (by omega)
    simp [encF] at k0 k1 k2 k3 k4 k5 k6 k7 k8 k9 k10 k11
    refine ⟨k0, ?_, k2, k3, k4, k5, k6, k7, by omega, by omega⟩
    first | assumption | omega
  · rintro ⟨g0, g1, g2, g3, g4, g5, g6, g7, g8, g9⟩ k hk
    rcases lt12 hk with rfl | rfl | rfl | rfl | rfl | rfl | rfl | rfl | rfl | rfl | rfl | rfl <;> simp [encF] <;> omega
theorem two_new {w w1 : World} {A B : Array Value} {ta tb : TypeId} (hb : Below ((w.alloc (.cells A ta)).alloc (.cells B tb)).heap.size ((w.alloc (.cells A ta)).alloc (.cells B tb)) w1) :
    Has w1 w.heap.size A ∧ Has w1 (w.heap.size + 1) B ∧ Below w.heap.size w w1 := by
  refine ⟨((Has.new w A ta).alloc _).below hb, ?_, below2 hb⟩
  have h := (Has.new (w.alloc (.cells A ta)) B tb).below hb
  simpa using h

set_option maxHeartbeats 1000000 in
theorem walkA (r o : RR) (a : Option Addr) (n c : Nat) (_hm : n ≤ 9223372036854775807) (hn : decide (60 < (n : Int)) = true) (w : World) :
    Calls Try.prog 8 #[.agg #[.int .u8 r.a, .int .u8 r.f, .int .u8 r.b, .int .u8 r.c, .int .u8 r.d, .int .u8 r.e, .int .u8 r.h, .int .u8 r.l, .int .u16 r.sp, .int .u16 r.pc], .agg #[.int .u8 o.a, .int .u8 o.f, .int .u8 o.b, .int .u8 o.c, .int .u8 o.d, .int .u8 o.e, .int .u8 o.h, .int .u8 o.l, .int .u16 o.sp, .int .u16 o.pc], .slice a n c] w fun e w' => e = .returned (.bool true) ∧ Below w.heap.size w w' := by
  go_enter Try.func8, Try.ntmps8
  go_wp2_with fail
  with_reducible refine (awake_c _).mono ?_
  rintro e w1 ⟨rfl, hb1⟩
  have B1 := Lib.hid (two_new hb1).2.2; clear hb1
  go_wp2_with fail
  with_reducible refine (awake_c _).mono ?_
  rintro e w2 ⟨rfl, hb2⟩
  have B2 := Lib.hid hb2; clear hb2
  go_wp2
  go_ret
  exact ⟨rfl, B1.out.step B1.out.size B2.out⟩
end Go.Proofs.Ytiolfmmekcahaaa.regsAgain
