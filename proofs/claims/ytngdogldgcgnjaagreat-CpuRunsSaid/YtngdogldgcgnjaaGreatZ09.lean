/-
  What Get, Set, Pair, SetPair of package regs return, for every set of registers and every number: contracts of the calls, with no condition but that each argument fits its kind.
  (Some texts in one.)
-/
import Derived.Test.YtngdogldgcgnjaaGreatZ01
import Derived.Test.YtngdogldgcgnjaaGreatZ08
set_option maxRecDepth 100000
set_option maxHeartbeats 8000000
namespace Go.Proofs.YtngdogldgcgnjaaGreat.Reg
open Go.ChangeShapes Go.WideShapes Go.ChangeAt Go.RowKit
theorem get_c (r : RR) (n : Int) (w : World) :
  Calls Tryz.prog 107 #[.agg #[.int .u8 r.a, .int .u8 r.f, .int .u8 r.b, .int .u8 r.c, .int .u8 r.d, .int .u8 r.e, .int .u8 r.h, .int .u8 r.l, .int .u16 r.sp, .int .u16 r.pc], .int .i64 n] w fun e w' => e = .returned (.tuple #[.int .u8 (getV r n), .int .i64 (getE n)]) ∧ Below w.heap.size w w' := by
 by_cases hn : n = 0 ∨ n = 1 ∨ n = 2 ∨ n = 3 ∨ n = 4 ∨ n = 5 ∨ n = 7
 ·rcases hn with rfl | rfl | rfl | rfl | rfl | rfl | rfl
  all_goals
   go_enter Tryz.func107, Tryz.ntmps107; go_wp2_with fail
   refine (place_c w.heap.size _ _).mono ?_
   rintro e w1 ⟨rfl, hb⟩; obtain ⟨hc, hf⟩ := bcell hb; have HB := Lib.hid hb; clear hb
   simp only [placeP]
   go_wp2
   go_ret2
   exact ⟨rfl, ((Below.refl _ _).alloc (Nat.le_refl _) _).trans (HB.out.mono (by simp))⟩
 ·have e : getV r n = 0 := by unfold getV; rw [if_neg (by omega), if_neg (by omega), if_neg (by omega), if_neg (by omega), if_neg (by omega), if_neg (by omega), if_neg (by omega)]
  have e' : getE n = 1 := by unfold getE; rw [if_neg hn]
  have e'' : ∀ bl, placeP bl n = none := by intro bl; unfold placeP; rw [if_neg (by omega), if_neg (by omega), if_neg (by omega), if_neg (by omega), if_neg (by omega), if_neg (by omega), if_neg (by omega)]
  have EP := Lib.hid e''; rw [e, e']; clear e e' e'' hn; go_enter Tryz.func107, Tryz.ntmps107; go_wp2_with fail
  refine (place_c w.heap.size _ _).mono ?_
  rintro e w1 ⟨rfl, hb⟩; have HB := Lib.hid hb; clear hb; rw [EP.out]; go_wp2
  go_ret2
  exact ⟨rfl, ((Below.refl _ _).alloc (Nat.le_refl _) _).trans (HB.out.mono (by simp))⟩
theorem two_cells {w w1 : World} {A B : Array Value} {ta tb : TypeId} (hb : Below ((w.alloc (.cells A ta)).alloc (.cells B tb)).heap.size ((w.alloc (.cells A ta)).alloc (.cells B tb)) w1) :
  (∀ o, w1.cell? ⟨w.heap.size, o, none⟩ = A[o]?) ∧ (∀ o, w1.cell? ⟨w.heap.size + 1, o, none⟩ = B[o]?) ∧ (∀ o, w1.frozen? ⟨w.heap.size, o, none⟩ = false) ∧ (∀ o, w1.frozen? ⟨w.heap.size + 1, o, none⟩ = false) := by
 obtain ⟨hc, hf⟩ := bcell hb
 refine ⟨fun o => ?_, fun o => ?_, fun o => ?_, fun o => ?_⟩
 ·rw [hc _ _ (by simp; omega)]; simp [go_sem]
 ·rw [hc _ _ (by simp)]; simp [go_sem]
 ·rw [hf _ _ (by simp; omega)]; simp [go_sem]
 ·rw [hf _ _ (by simp)]; simp [go_sem]
theorem below10 {n : Nat} {w w1 : World} {b : Nat} (h : Below n w w1) (hn : n ≤ b) (v0 v1 v2 v3 v4 v5 v6 v7 v8 v9 : Value) :
  Below n w ((((((((((w1.setCell ⟨b, 0, none⟩ v0).setCell ⟨b, 1, none⟩ v1).setCell ⟨b, 2, none⟩ v2).setCell ⟨b, 3, none⟩ v3).setCell ⟨b, 4, none⟩ v4).setCell ⟨b, 5, none⟩ v5).setCell ⟨b, 6, none⟩ v6).setCell ⟨b, 7, none⟩ v7).setCell ⟨b, 8, none⟩ v8).setCell ⟨b, 9, none⟩ v9) :=
 (((((((((h.setCell hn _).setCell hn _).setCell hn _).setCell hn _).setCell hn _).setCell hn _).setCell hn _).setCell hn _).setCell hn _).setCell hn _
theorem below2 {w w1 : World} {A B : Array Value} {ta tb : TypeId} (hb : Below ((w.alloc (.cells A ta)).alloc (.cells B tb)).heap.size ((w.alloc (.cells A ta)).alloc (.cells B tb)) w1) : Below w.heap.size w w1 :=
 (((Below.refl _ _).alloc (Nat.le_refl _) _).alloc (by simp) _).trans (hb.mono (by simp; omega))
theorem set_c (r : RR) (n x : Int) (w : World) :
  Calls Tryz.prog 106 #[.agg #[.int .u8 r.a, .int .u8 r.f, .int .u8 r.b, .int .u8 r.c, .int .u8 r.d, .int .u8 r.e, .int .u8 r.h, .int .u8 r.l, .int .u16 r.sp, .int .u16 r.pc], .int .i64 n, .int .u8 x] w fun e w' => e = .returned (.tuple #[.agg #[.int .u8 (setR r n x).a, .int .u8 (setR r n x).f, .int .u8 (setR r n x).b, .int .u8 (setR r n x).c, .int .u8 (setR r n x).d, .int .u8 (setR r n x).e, .int .u8 (setR r n x).h, .int .u8 (setR r n x).l, .int .u16 (setR r n x).sp, .int .u16 (setR r n x).pc], .int .i64 (getE n)]) ∧ Below w.heap.size w w' := by
 by_cases hn : n = 0 ∨ n = 1 ∨ n = 2 ∨ n = 3 ∨ n = 4 ∨ n = 5 ∨ n = 7
 ·rcases hn with rfl | rfl | rfl | rfl | rfl | rfl | rfl
  all_goals
   go_enter Tryz.func106, Tryz.ntmps106; go_wp2_with fail
   refine (place_c w.heap.size _ _).mono ?_
   rintro e w1 ⟨rfl, hb⟩; obtain ⟨hc0, hc1, hf0, hf1⟩ := two_cells hb; have HB := Lib.hid hb; clear hb
   simp only [placeP]
   go_wp2
   refine bodyPost_ret (v := _) ?_ rfl ⟨rfl, ?_⟩
   ·simp [results, Tryz.results106, go_sem, hc1, setR, getE]
   ·exact below10 ((below2 HB.out).setCell (Nat.le_refl _) _) (by omega) _ _ _ _ _ _ _ _ _ _
 ·have e : setR r n x = noR := by unfold setR; rw [if_neg (by omega), if_neg (by omega), if_neg (by omega), if_neg (by omega), if_neg (by omega), if_neg (by omega), if_neg (by omega)]
  have e' : getE n = 1 := by unfold getE; rw [if_neg hn]
  have e'' : ∀ bl, placeP bl n = none := by intro bl; unfold placeP; rw [if_neg (by omega), if_neg (by omega), if_neg (by omega), if_neg (by omega), if_neg (by omega), if_neg (by omega), if_neg (by omega)]
  have EP := Lib.hid e''; rw [e, e']; clear e e' e'' hn; go_enter Tryz.func106, Tryz.ntmps106; go_wp2_with fail
  refine (place_c w.heap.size _ _).mono ?_
  rintro e w1 ⟨rfl, hb⟩; obtain ⟨hc0, hc1, hf0, hf1⟩ := two_cells hb; have HB := Lib.hid hb; clear hb; rw [EP.out]; go_wp2
  refine bodyPost_ret (v := _) ?_ rfl ⟨rfl, ?_⟩
  ·simp [results, Tryz.results106, go_sem, hc1, noR]
  ·exact below10 (below2 HB.out) (by omega) _ _ _ _ _ _ _ _ _ _
theorem pair_c (r : RR) (n : Int) (ok : r.ok) (w : World) :
  Calls Tryz.prog 86 #[.agg #[.int .u8 r.a, .int .u8 r.f, .int .u8 r.b, .int .u8 r.c, .int .u8 r.d, .int .u8 r.e, .int .u8 r.h, .int .u8 r.l, .int .u16 r.sp, .int .u16 r.pc], .int .i64 n] w fun e w' => e = .returned (.tuple #[.int .u16 (pairV r n), .int .i64 (pairE n)]) ∧ Below w.heap.size w w' := by
 have hB : ∀ (o : Obj), Below w.heap.size w (w.alloc o) := fun o => (Below.refl _ _).alloc (Nat.le_refl _) _
 have HB := Lib.hid hB; clear hB; obtain ⟨⟨a1, a2⟩, ⟨f1, f2⟩, ⟨b1, b2⟩, ⟨c1, c2⟩, ⟨d1, d2⟩, ⟨e1, e2⟩, ⟨h1, h2⟩, ⟨l1, l2⟩, _⟩ := ok; have E4 := Lib.hid (low4 r.f f1 f2)
 by_cases hn : n = 0 ∨ n = 1 ∨ n = 2 ∨ n = 3
 ·rcases hn with rfl | rfl | rfl | rfl
  all_goals
   go_enter Tryz.func86, Tryz.ntmps86
   go_wp2_with (go_at_call 105; (with_reducible refine (word_c _ _ _ (by omega) (by omega) (by omega) (by omega)).mono ?_); rintro e w' ⟨rfl, rfl⟩)
   go_ret2
   exact ⟨rfl, HB.out _⟩
 by_cases n4 : n = 4
 ·subst n4
  clear hn; go_enter Tryz.func86, Tryz.ntmps86; go_wp2_with fail; rw [E4.out]
  refine (word_c _ _ _ (by omega) (by omega) (by omega) (by omega)).mono ?_
  rintro e w' ⟨rfl, rfl⟩; go_wp2
  go_ret2
  exact ⟨rfl, HB.out _⟩
 have e : pairV r n = 0 := by unfold pairV; rw [if_neg (by omega), if_neg (by omega), if_neg (by omega), if_neg (by omega), if_neg (by omega)]
 have e' : pairE n = 1 := by unfold pairE; rw [if_neg (by omega)]
 obtain ⟨m0, m1, m2, m3⟩ : n ≠ 0 ∧ n ≠ 1 ∧ n ≠ 2 ∧ n ≠ 3 := by omega
 rw [e, e']; clear e e' hn; go_enter Tryz.func86, Tryz.ntmps86; go_wp2
 go_ret2
 exact ⟨rfl, HB.out _⟩
theorem setPair_c (r : RR) (n x : Int) (h1 : 0 ≤ x) (h2 : x < 65536) (w : World) :
  Calls Tryz.prog 87 #[.agg #[.int .u8 r.a, .int .u8 r.f, .int .u8 r.b, .int .u8 r.c, .int .u8 r.d, .int .u8 r.e, .int .u8 r.h, .int .u8 r.l, .int .u16 r.sp, .int .u16 r.pc], .int .i64 n, .int .u16 x] w fun e w' => e = .returned (.tuple #[.agg #[.int .u8 (setP r n x).a, .int .u8 (setP r n x).f, .int .u8 (setP r n x).b, .int .u8 (setP r n x).c, .int .u8 (setP r n x).d, .int .u8 (setP r n x).e, .int .u8 (setP r n x).h, .int .u8 (setP r n x).l, .int .u16 (setP r n x).sp, .int .u16 (setP r n x).pc], .int .i64 (pairE n)]) ∧ Below w.heap.size w w' := by
 have E4 := Lib.hid (low4 (x % 256) (by omega) (by omega))
 by_cases hn : n = 0 ∨ n = 1 ∨ n = 2 ∨ n = 3 ∨ n = 4
 ·rcases hn with rfl | rfl | rfl | rfl | rfl
  all_goals
   go_enter Tryz.func87, Tryz.ntmps87; go_wp2
   refine bodyPost_ret (v := _) ?_ rfl ⟨rfl, ?_⟩
   ·simp [results, Tryz.results87, go_sem, setP, pairE, E4.out]
   ·exact ((Below.refl _ _).alloc (Nat.le_refl _) _).alloc (by simp) _
 have e : setP r n x = noR := by unfold setP; rw [if_neg (by omega), if_neg (by omega), if_neg (by omega), if_neg (by omega), if_neg (by omega)]
 have e' : pairE n = 1 := by unfold pairE; rw [if_neg (by omega)]
 obtain ⟨m0, m1, m2, m3, m4⟩ : n ≠ 0 ∧ n ≠ 1 ∧ n ≠ 2 ∧ n ≠ 3 ∧ n ≠ 4 := by omega
 rw [e, e']; clear e e' hn; go_enter Tryz.func87, Tryz.ntmps87; go_wp2
 refine bodyPost_ret (v := _) ?_ rfl ⟨rfl, ?_⟩
 ·simp [results, Tryz.results87, go_sem, noR]
 ·exact ((Below.refl _ _).alloc (Nat.le_refl _) _).alloc (by simp) _
end Go.Proofs.YtngdogldgcgnjaaGreat.Reg
namespace Go.Proofs.YtngdogldgcgnjaaGreat
open Go.ChangeShapes Go.WideShapes Go.ChangeAt Go.RowKit
open Reg
set_option linter.unusedVariables false
def busV (R : Nat) : Value := .iface 31 (.pointer (some ⟨R, 0, none⟩))
def PX (P R M tb : Nat) (v : Value) (k : Nat) : Prop := k = P ∨ BX R M tb v k
structure Sys (D : Nat → Array Value) (C : Nat → Int → Value → Array Value) (w : World) (P R M tb : Nat) (v : Value) (y : Sy) (n : Nat) : Prop where
 reg : Has w P (y.s.cells ++ D R)
 bus : Bus C w R M tb v y.m y.acc n
 apart : ¬ BX R M tb v P
 ok : y.s.r.ok
def PM (P R M tb : Nat) (v : Value) (w : World) (v' : Value) (w' : World) : Prop := Off (PX P R M tb v) w w' ∧ ∀ k, v'.ownBlock = some k → v.ownBlock = some k ∨ w.heap.size ≤ k
def PE (D : Nat → Array Value) (C : Nat → Int → Value → Array Value) (P R M tb : Nat) (v : Value) (w : World) (ret : Value) (y : Sy) (n : Nat) (e : Ending) (w' : World) : Prop :=
 e = .returned ret ∧ ∃ v', Sys D C w' P R M tb v' y n ∧ PM P R M tb v w v' w'
section
variable {D : Nat → Array Value} {C : Nat → Int → Value → Array Value} {w w' w1 w2 : World} {P R M tb n : Nat} {v v1 v2 : Value} {y : Sy}
theorem PM.refl (P R M tb : Nat) (v : Value) (w : World) : PM P R M tb v w v w := ⟨Off.refl _ _, fun _ h => .inl h⟩
theorem PM.trans (h : PM P R M tb v w v1 w1) (k : PM P R M tb v1 w1 v2 w2) : PM P R M tb v w v2 w2 := by
 refine ⟨h.1.trans k.1 (fun b hb hx => ?_), fun b hb => ?_⟩
 ·rcases hx with hx | hx | hx | hx | hx
  ·exact .inl hx
  ·exact .inr (.inl hx)
  ·exact .inr (.inr (.inl hx))
  ·exact .inr (.inr (.inr (.inl hx)))
  ·rcases h.2 b hx with h' | h'
   ·exact .inr (.inr (.inr (.inr h')))
   ·omega
 ·rcases k.2 b hb with h' | h'
  ·exact h.2 b h'
  ·exact .inr (Nat.le_trans h.1.size h')
theorem PM.of (hb : Below w.heap.size w w') : PM P R M tb v w v w' := ⟨Off.of _ hb, fun _ h => .inl h⟩
theorem PM.bus (h : BM R M tb v w v1 w1) : PM P R M tb v w v1 w1 := ⟨h.1.mono (fun _ _ h => .inr h), h.2⟩
theorem PM.has {b : Nat} {A : Array Value} (h : PM P R M tb v w v1 w1) (hb : Has w b A) (hn : ¬ PX P R M tb v b) : Has w1 b A := hb.off h.1 hn
theorem PM.far {b : Nat} (h : PM P R M tb v w v1 w1) (hb : b < w.heap.size) (hn : ¬ PX P R M tb v b) : ¬ PX P R M tb v1 b := by
 rintro (hx | hx | hx | hx | hx)
 ·exact hn (.inl hx)
 ·exact hn (.inr (.inl hx))
 ·exact hn (.inr (.inr (.inl hx)))
 ·exact hn (.inr (.inr (.inr (.inl hx))))
 ·rcases h.2 b hx with h' | h'
  ·exact hn (.inr (.inr (.inr (.inr h'))))
  ·omega
theorem Sys.plt (h : Sys D C w P R M tb v y n) {k : Nat} (hk : PX P R M tb v k) : k < w.heap.size := by
 rcases hk with rfl | hk
 ·exact h.reg.1
 ·exact h.bus.lt hk
theorem Sys.keep {X : Nat → Prop} (h : Sys D C w P R M tb v y n) (ho : Off X w w') (hx : ∀ k, PX P R M tb v k → ¬ X k) : Sys D C w' P R M tb v y n :=
 ⟨h.reg.off ho (hx P (.inl rfl)), h.bus.keep ho (fun k hk => hx k (.inr hk)), h.apart, h.ok⟩
theorem Sys.below (h : Sys D C w P R M tb v y n) (hb : Below w.heap.size w w') : Sys D C w' P R M tb v y n := h.keep (Off.of (fun _ => False) hb) (fun _ _ h => h)
theorem Sys.mono (h : Sys D C w P R M tb v y n) {n' : Nat} (hn : n ≤ n') : Sys D C w P R M tb v y n' := ⟨h.reg, h.bus.mono hn, h.apart, h.ok⟩
theorem Sys.new (h : Sys D C w P R M tb v y n) {b : Nat} (hb : w.heap.size ≤ b) : ¬ PX P R M tb v b := fun hx => by have := h.plt hx; omega
theorem Sys.setBus {m : Int → Int} {acc : List Ac} {n' : Nat} (h : Sys D C w P R M tb v y n) (hb : Bus C w1 R M tb v1 m acc n') (hm : BM R M tb v w v1 w1) : Sys D C w1 P R M tb v1 { y with m := m, acc := acc } n' ∧ PM P R M tb v w v1 w1 := by
 refine ⟨⟨h.reg.off hm.1 h.apart, hb, fun hx => ?_, h.ok⟩, PM.bus hm⟩
 exact h.apart (hm.back P h.reg.1 hx)
theorem app_set (A B : Array Value) (o : Nat) (x : Value) (h : o < A.size) : (A ++ B).setIfInBounds o x = A.setIfInBounds o x ++ B := by
 apply Array.ext'
 rw [Array.toList_setIfInBounds, Array.toList_append, Array.toList_append, Array.toList_setIfInBounds, List.set_append_left _ _ (by simpa using h)]
theorem Sys.store (h : Sys D C w P R M tb v y n) (o : Nat) (x : Value) (s : St) (hs : y.s.cells.setIfInBounds o x = s.cells) (ho : o < 14) (hok : s.r.ok) :
  Sys D C (w.setCell ⟨P, o, none⟩ x) P R M tb v { y with s := s } n ∧ PM P R M tb v w v (w.setCell ⟨P, o, none⟩ x) := by
 have hO : Off (fun k => k = P) w (w.setCell ⟨P, o, none⟩ x) := Off.setCell w P o x rfl
 refine ⟨⟨?_, h.bus.keep hO (fun k hk e => h.apart (e ▸ hk)), h.apart, hok⟩, hO.mono (fun _ _ h => .inl h), fun _ h => .inl h⟩
 have := h.reg.set o x (by simp [St.cells]; omega)
 rw [app_set _ _ _ _ (show o < 14 from ho), hs] at this
 exact this
theorem ok_a {r : RR} (h : r.ok) (x : Int) (h0 : 0 ≤ x) (h1 : x < 256) : RR.ok { r with a := x } := ⟨⟨h0, h1⟩, h.2⟩
theorem ok_f {r : RR} (h : r.ok) (x : Int) (h0 : 0 ≤ x) (h1 : x < 256) : RR.ok { r with f := x } := ⟨h.1, ⟨h0, h1⟩, h.2.2⟩
theorem ok_sp {r : RR} (h : r.ok) (x : Int) (h0 : 0 ≤ x) (h1 : x < 65536) : RR.ok { r with sp := x } := ⟨h.1, h.2.1, h.2.2.1, h.2.2.2.1, h.2.2.2.2.1, h.2.2.2.2.2.1, h.2.2.2.2.2.2.1, h.2.2.2.2.2.2.2.1, ⟨h0, h1⟩, h.2.2.2.2.2.2.2.2.2⟩
theorem ok_pc {r : RR} (h : r.ok) (x : Int) (h0 : 0 ≤ x) (h1 : x < 65536) : RR.ok { r with pc := x } := ⟨h.1, h.2.1, h.2.2.1, h.2.2.2.1, h.2.2.2.2.1, h.2.2.2.2.2.1, h.2.2.2.2.2.2.1, h.2.2.2.2.2.2.2.1, h.2.2.2.2.2.2.2.2.1, ⟨h0, h1⟩⟩
theorem Sys.stA (h : Sys D C w P R M tb v y n) (x : Int) (h0 : 0 ≤ x) (h1 : x < 256) : Sys D C (w.setCell ⟨P, 0, none⟩ (.int .u8 x)) P R M tb v (setA x y) n ∧ PM P R M tb v w v (w.setCell ⟨P, 0, none⟩ (.int .u8 x)) := h.store 0 _ _ rfl (by decide) (ok_a h.ok x h0 h1)
theorem Sys.stF (h : Sys D C w P R M tb v y n) (x : Int) (h0 : 0 ≤ x) (h1 : x < 256) : Sys D C (w.setCell ⟨P, 1, none⟩ (.int .u8 x)) P R M tb v (setF x y) n ∧ PM P R M tb v w v (w.setCell ⟨P, 1, none⟩ (.int .u8 x)) := h.store 1 _ _ rfl (by decide) (ok_f h.ok x h0 h1)
theorem Sys.stSP (h : Sys D C w P R M tb v y n) (x : Int) (h0 : 0 ≤ x) (h1 : x < 65536) : Sys D C (w.setCell ⟨P, 8, none⟩ (.int .u16 x)) P R M tb v (setSP x y) n ∧ PM P R M tb v w v (w.setCell ⟨P, 8, none⟩ (.int .u16 x)) := h.store 8 _ _ rfl (by decide) (ok_sp h.ok x h0 h1)
theorem Sys.stPC (h : Sys D C w P R M tb v y n) (x : Int) (h0 : 0 ≤ x) (h1 : x < 65536) : Sys D C (w.setCell ⟨P, 9, none⟩ (.int .u16 x)) P R M tb v (setPC x y) n ∧ PM P R M tb v w v (w.setCell ⟨P, 9, none⟩ (.int .u16 x)) := h.store 9 _ _ rfl (by decide) (ok_pc h.ok x h0 h1)
theorem Sys.stIme (h : Sys D C w P R M tb v y n) (x : Bool) : Sys D C (w.setCell ⟨P, 10, none⟩ (.bool x)) P R M tb v (setIme x y) n ∧ PM P R M tb v w v (w.setCell ⟨P, 10, none⟩ (.bool x)) := h.store 10 _ _ rfl (by decide) h.ok
theorem Sys.stSoon (h : Sys D C w P R M tb v y n) (x : Bool) : Sys D C (w.setCell ⟨P, 11, none⟩ (.bool x)) P R M tb v (setSoon x y) n ∧ PM P R M tb v w v (w.setCell ⟨P, 11, none⟩ (.bool x)) := h.store 11 _ _ rfl (by decide) h.ok
theorem Sys.stHalt (h : Sys D C w P R M tb v y n) (x : Bool) : Sys D C (w.setCell ⟨P, 12, none⟩ (.bool x)) P R M tb v (setHalt x y) n ∧ PM P R M tb v w v (w.setCell ⟨P, 12, none⟩ (.bool x)) := h.store 12 _ _ rfl (by decide) h.ok
theorem Sys.stStop (h : Sys D C w P R M tb v y n) (x : Bool) : Sys D C (w.setCell ⟨P, 13, none⟩ (.bool x)) P R M tb v (setStop x y) n ∧ PM P R M tb v w v (w.setCell ⟨P, 13, none⟩ (.bool x)) := h.store 13 _ _ rfl (by decide) h.ok
theorem Sys.stR (h : Sys D C w P R M tb v y n) (r : RR) (ok : r.ok) :
  Sys D C ((((((((((w.setCell ⟨P, 0, none⟩ (.int .u8 r.a)).setCell ⟨P, 1, none⟩ (.int .u8 r.f)).setCell ⟨P, 2, none⟩ (.int .u8 r.b)).setCell ⟨P, 3, none⟩ (.int .u8 r.c)).setCell ⟨P, 4, none⟩ (.int .u8 r.d)).setCell ⟨P, 5, none⟩ (.int .u8 r.e)).setCell ⟨P, 6, none⟩ (.int .u8 r.h)).setCell ⟨P, 7, none⟩ (.int .u8 r.l)).setCell ⟨P, 8, none⟩ (.int .u16 r.sp)).setCell ⟨P, 9, none⟩ (.int .u16 r.pc)) P R M tb v (setRR r y) n ∧
  PM P R M tb v w v ((((((((((w.setCell ⟨P, 0, none⟩ (.int .u8 r.a)).setCell ⟨P, 1, none⟩ (.int .u8 r.f)).setCell ⟨P, 2, none⟩ (.int .u8 r.b)).setCell ⟨P, 3, none⟩ (.int .u8 r.c)).setCell ⟨P, 4, none⟩ (.int .u8 r.d)).setCell ⟨P, 5, none⟩ (.int .u8 r.e)).setCell ⟨P, 6, none⟩ (.int .u8 r.h)).setCell ⟨P, 7, none⟩ (.int .u8 r.l)).setCell ⟨P, 8, none⟩ (.int .u16 r.sp)).setCell ⟨P, 9, none⟩ (.int .u16 r.pc)) := by
 obtain ⟨a1, f1, b1, c1, d1, e1, h1, l1, s1, p1⟩ := ok; obtain ⟨a2, f2, b2, c2, d2, e2, h2, l2, s2, p2⟩ := h.ok; have g0 := h.store 0 (.int .u8 r.a) { y.s with r := { y.s.r with a := r.a } } rfl (by decide) ⟨a1, f2, b2, c2, d2, e2, h2, l2, s2, p2⟩; have g1 := g0.1.store 1 (.int .u8 r.f) { y.s with r := { y.s.r with a := r.a, f := r.f } } rfl (by decide) ⟨a1, f1, b2, c2, d2, e2, h2, l2, s2, p2⟩; have g2 := g1.1.store 2 (.int .u8 r.b) { y.s with r := { y.s.r with a := r.a, f := r.f, b := r.b } } rfl (by decide) ⟨a1, f1, b1, c2, d2, e2, h2, l2, s2, p2⟩; have g3 := g2.1.store 3 (.int .u8 r.c) { y.s with r := { y.s.r with a := r.a, f := r.f, b := r.b, c := r.c } } rfl (by decide) ⟨a1, f1, b1, c1, d2, e2, h2, l2, s2, p2⟩; have g4 := g3.1.store 4 (.int .u8 r.d) { y.s with r := { y.s.r with a := r.a, f := r.f, b := r.b, c := r.c, d := r.d } } rfl (by decide) ⟨a1, f1, b1, c1, d1, e2, h2, l2, s2, p2⟩; have g5 := g4.1.store 5 (.int .u8 r.e) { y.s with r := { y.s.r with a := r.a, f := r.f, b := r.b, c := r.c, d := r.d, e := r.e } } rfl (by decide) ⟨a1, f1, b1, c1, d1, e1, h2, l2, s2, p2⟩; have g6 := g5.1.store 6 (.int .u8 r.h) { y.s with r := { y.s.r with a := r.a, f := r.f, b := r.b, c := r.c, d := r.d, e := r.e, h := r.h } } rfl (by decide) ⟨a1, f1, b1, c1, d1, e1, h1, l2, s2, p2⟩; have g7 := g6.1.store 7 (.int .u8 r.l) { y.s with r := { y.s.r with a := r.a, f := r.f, b := r.b, c := r.c, d := r.d, e := r.e, h := r.h, l := r.l } } rfl (by decide) ⟨a1, f1, b1, c1, d1, e1, h1, l1, s2, p2⟩
 have g8 := g7.1.store 8 (.int .u16 r.sp) { y.s with r := { y.s.r with a := r.a, f := r.f, b := r.b, c := r.c, d := r.d, e := r.e, h := r.h, l := r.l, sp := r.sp } } rfl (by decide) ⟨a1, f1, b1, c1, d1, e1, h1, l1, s1, p2⟩; have g9 := g8.1.store 9 (.int .u16 r.pc) { y.s with r := r } rfl (by decide) ⟨a1, f1, b1, c1, d1, e1, h1, l1, s1, p1⟩
 exact ⟨g9.1, ((((((((g0.2.trans g1.2).trans g2.2).trans g3.2).trans g4.2).trans g5.2).trans g6.2).trans g7.2).trans g8.2).trans g9.2⟩
theorem Sys.cs (h : Sys D C w P R M tb v y n) : (∀ o, w.cell? ⟨P, o, none⟩ = (#[.int .u8 y.s.r.a, .int .u8 y.s.r.f, .int .u8 y.s.r.b, .int .u8 y.s.r.c, .int .u8 y.s.r.d, .int .u8 y.s.r.e, .int .u8 y.s.r.h, .int .u8 y.s.r.l, .int .u16 y.s.r.sp, .int .u16 y.s.r.pc, .bool y.s.ime, .bool y.s.soon, .bool y.s.halt, .bool y.s.stop] ++ D R)[o]?) ∧ (∀ o, w.frozen? ⟨P, o, none⟩ = false) := ⟨h.reg.2.1, h.reg.2.2⟩
end
end Go.Proofs.YtngdogldgcgnjaaGreat
namespace Go.Proofs.YtngdogldgcgnjaaGreat
open Go.ChangeShapes Go.WideShapes Go.ChangeAt Go.RowKit
open Reg
section
variable {D : Nat → Array Value} {C : Nat → Int → Value → Array Value} {w w' w1 : World} {P R M tb n : Nat} {v v1 : Value} {y : Sy}
theorem PM.two {b : Nat} {A : Array Value} (h : PM P R M tb v w v1 w1) (hb : Hid (Has w b A)) (hn : Hid (¬ PX P R M tb v b)) : Hid (Has w1 b A) ∧ Hid (¬ PX P R M tb v1 b) := ⟨Lib.hid (h.has hb.out hn.out), Lib.hid (h.far hb.out.1 hn.out)⟩
theorem Sys.beg (h : Sys D C w P R M tb v y n) (A : Array Value) (t : TypeId) : Hid (Sys D C (w.alloc (.cells A t)) P R M tb v y n) ∧ Hid (PM P R M tb v w v (w.alloc (.cells A t))) ∧ Hid (Has (w.alloc (.cells A t)) w.heap.size A) ∧ Hid (¬ PX P R M tb v w.heap.size) :=
 ⟨Lib.hid (h.below (own1 w _)), Lib.hid (PM.of (own1 w _)), Lib.hid (Has.new w A t), Lib.hid (h.new (Nat.le_refl _))⟩
theorem Sys.mo (h : Sys D C w P R M tb v y n) {n' : Nat} (hn : n ≤ n' := by omega) : Sys D C w P R M tb v y n' := h.mono hn
theorem _root_.Go.RowKit.Hid.tr {w2 : World} {v2 : Value} (h : Hid (PM P R M tb v w v1 w1)) (k : PM P R M tb v1 w1 v2 w2) : Hid (PM P R M tb v w v2 w2) := Lib.hid (h.out.trans k)
end
end Go.Proofs.YtngdogldgcgnjaaGreat
