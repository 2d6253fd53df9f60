/-
  What each function of package regs returns, for every set of registers and every number: contracts of the calls, with no condition but that each argument fits its kind.
  (Some texts in one.)
-/
import Derived.Test.YtngdogldgcgnjaaGreatRows
import Derived.WalkKit
import Derived.ProofKit
import Derived.OpenShut
import Derived.WalkLawsBesides
import Derived.Outline
import Derived.Lib.Hide
import Derived.Laws.BitsAllLaws
import Derived.Laws.ShiftsVarLaws
import Derived.BigRegion
import Derived.Below
import Derived.Deep.RegionHeld3
import Derived.Carry
import Derived.Deep.Fields
import Derived.Laws.IdiomCopy
set_option maxRecDepth 100000
set_option maxHeartbeats 8000000
namespace Go.Proofs.YtngdogldgcgnjaaGreat.Reg
open Go.ChangeShapes Go.WideShapes Go.ChangeAt Go.RowKit
/-! ### Plain data -/
structure RR where
 a : Int
 f : Int
 b : Int
 c : Int
 d : Int
 e : Int
 h : Int
 l : Int
 sp : Int
 pc : Int
def RR.ok (r : RR) : Prop := (0 ≤ r.a ∧ r.a < 256) ∧ (0 ≤ r.f ∧ r.f < 256) ∧ (0 ≤ r.b ∧ r.b < 256) ∧ (0 ≤ r.c ∧ r.c < 256) ∧ (0 ≤ r.d ∧ r.d < 256) ∧ (0 ≤ r.e ∧ r.e < 256) ∧ (0 ≤ r.h ∧ r.h < 256) ∧ (0 ≤ r.l ∧ r.l < 256) ∧ (0 ≤ r.sp ∧ r.sp < 65536) ∧ (0 ≤ r.pc ∧ r.pc < 65536)
def noR : RR := ⟨0, 0, 0, 0, 0, 0, 0, 0, 0, 0⟩
def getV (r : RR) (n : Int) : Int := if n = 0 then r.b else if n = 1 then r.c else if n = 2 then r.d else if n = 3 then r.e else if n = 4 then r.h else if n = 5 then r.l else if n = 7 then r.a else 0
def getE (n : Int) : Int := if n = 0 ∨ n = 1 ∨ n = 2 ∨ n = 3 ∨ n = 4 ∨ n = 5 ∨ n = 7 then 0 else 1
def setR (r : RR) (n x : Int) : RR := if n = 0 then { r with b := x } else if n = 1 then { r with c := x } else if n = 2 then { r with d := x } else if n = 3 then { r with e := x } else if n = 4 then { r with h := x } else if n = 5 then { r with l := x } else if n = 7 then { r with a := x } else noR
def pairV (r : RR) (n : Int) : Int := if n = 0 then r.b * 256 + r.c else if n = 1 then r.d * 256 + r.e else if n = 2 then r.h * 256 + r.l else if n = 3 then r.sp else if n = 4 then r.a * 256 + r.f / 16 * 16 else 0
def pairE (n : Int) : Int := if n = 0 ∨ n = 1 ∨ n = 2 ∨ n = 3 ∨ n = 4 then 0 else 1
def setP (r : RR) (n x : Int) : RR := if n = 0 then { r with b := x / 256, c := x % 256 } else if n = 1 then { r with d := x / 256, e := x % 256 } else if n = 2 then { r with h := x / 256, l := x % 256 } else if n = 3 then { r with sp := x } else if n = 4 then { r with a := x / 256, f := x % 256 / 16 * 16 } else noR
def isV (r : RR) (n : Int) : Bool := if n = 0 then !(r.f / 128 == 1) else if n = 1 then r.f / 128 == 1 else if n = 2 then !(r.f / 16 % 2 == 1) else if n = 3 then r.f / 16 % 2 == 1 else n == 4
theorem byte_all {P : Int → Prop} (h : ∀ n : Fin 256, P (n.val : Int)) (a : Int) (h1 : 0 ≤ a) (h2 : a < 256) : P a := by
 have := h ⟨a.toNat, by omega⟩
 rwa [show ((a.toNat : Nat) : Int) = a by omega] at this
theorem low4 (a : Int) (h1 : 0 ≤ a) (h2 : a < 256) : bits .and .u8 a 240 = a / 16 * 16 :=
 byte_all (P := fun a => bits .and .u8 a 240 = a / 16 * 16) (by decide +kernel) a h1 h2
theorem z0 (a : Int) (h1 : 0 ≤ a) (h2 : a < 256) : (bits .and .u8 a 128 == 0) = !(a / 128 == 1) :=
 byte_all (P := fun a => (bits .and .u8 a 128 == 0) = !(a / 128 == 1)) (by decide +kernel) a h1 h2
theorem z1 (a : Int) (h1 : 0 ≤ a) (h2 : a < 256) : (bits .and .u8 a 128 != 0) = (a / 128 == 1) :=
 byte_all (P := fun a => (bits .and .u8 a 128 != 0) = (a / 128 == 1)) (by decide +kernel) a h1 h2
theorem c0 (a : Int) (h1 : 0 ≤ a) (h2 : a < 256) : (bits .and .u8 a 16 == 0) = !(a / 16 % 2 == 1) :=
 byte_all (P := fun a => (bits .and .u8 a 16 == 0) = !(a / 16 % 2 == 1)) (by decide +kernel) a h1 h2
theorem c1 (a : Int) (h1 : 0 ≤ a) (h2 : a < 256) : (bits .and .u8 a 16 != 0) = (a / 16 % 2 == 1) :=
 byte_all (P := fun a => (bits .and .u8 a 16 != 0) = (a / 16 % 2 == 1)) (by decide +kernel) a h1 h2
theorem or16 (h l : Int) (h1 : 0 ≤ h) (h2 : h < 256) (h3 : 0 ≤ l) (h4 : l < 256) : bits .or .u16 (h * 256) l = h * 256 + l := by
 rw [u16_or _ _ (by omega) (by omega) (by omega) (by omega)]; obtain ⟨m, rfl⟩ := Int.eq_ofNat_of_zero_le h1; obtain ⟨k, rfl⟩ := Int.eq_ofNat_of_zero_le h3
 have e1 : ((m : Int) * 256).toNat = 2 ^ 8 * m := by omega
 have e2 : (k : Int).toNat = k := rfl; rw [e1, e2, ← Nat.two_pow_add_eq_or_of_lt (by omega)]
 omega
theorem bcell {W w1 : World} (hb : Below W.heap.size W w1) : (∀ b o, b < W.heap.size → w1.cell? ⟨b, o, none⟩ = W.cell? ⟨b, o, none⟩) ∧ (∀ b o, b < W.heap.size → w1.frozen? ⟨b, o, none⟩ = W.frozen? ⟨b, o, none⟩) :=
 ⟨fun b o h => hb.cell (p := ⟨b, o, none⟩) h, fun b o h => hb.frozen (p := ⟨b, o, none⟩) h⟩
/-! ### The calls -/
theorem word_c (h l : Int) (w : World) (h1 : 0 ≤ h) (h2 : h < 256) (h3 : 0 ≤ l) (h4 : l < 256) :
  Calls Tryz.prog 105 #[.int .u8 h, .int .u8 l] w fun e w' => e = .returned (.int .u16 (h * 256 + l)) ∧ w = w' := by
 have H := Lib.hid (or16 h l h1 h2 h3 h4); go_enter Tryz.func105, Tryz.ntmps105; go_wp2; go_ret; rw [← H.out]
 exact ⟨rfl, rfl⟩
theorem word_r (h l : Int) (w : World) (h1 : 0 ≤ h) (h2 : h < 256) (h3 : 0 ≤ l) (h4 : l < 256) :
  Calls Tryz.prog 69 #[.int .u8 h, .int .u8 l] w fun e w' => e = .returned (.int .u16 (h * 256 + l)) ∧ w = w' := by
 go_enter Tryz.func69, Tryz.ntmps69; go_wp2; go_ret
 exact ⟨rfl, rfl⟩
def placeP (bl : Nat) (n : Int) : Option Addr := if n = 0 then some ⟨bl, 2, none⟩ else if n = 1 then some ⟨bl, 3, none⟩ else if n = 2 then some ⟨bl, 4, none⟩ else if n = 3 then some ⟨bl, 5, none⟩ else if n = 4 then some ⟨bl, 6, none⟩ else if n = 5 then some ⟨bl, 7, none⟩ else if n = 7 then some ⟨bl, 0, none⟩ else none
theorem place_c (bl : Nat) (n : Int) (w : World) :
  Calls Tryz.prog 127 #[.pointer (some ⟨bl, 0, none⟩), .int .i64 n] w fun e w' => e = .returned (.pointer (placeP bl n)) ∧ Below w.heap.size w w' := by
 have hB : ∀ (o : Obj), Below w.heap.size w (w.alloc o).drew := fun o => ((Below.refl _ _).alloc (Nat.le_refl _) _).drew
 have HB := Lib.hid hB; clear hB
 by_cases h0 : n < 0
 ·have e : placeP bl n = none := by unfold placeP; rw [if_neg (by omega), if_neg (by omega), if_neg (by omega), if_neg (by omega), if_neg (by omega), if_neg (by omega), if_neg (by omega)]
  rw [e]; clear e; go_enter Tryz.func127, Tryz.ntmps127; go_wp2
  go_region
  go_wp2; go_ret
  exact ⟨rfl, HB.out _⟩
 by_cases h8 : 8 ≤ n
 ·have e : placeP bl n = none := by unfold placeP; rw [if_neg (by omega), if_neg (by omega), if_neg (by omega), if_neg (by omega), if_neg (by omega), if_neg (by omega), if_neg (by omega)]
  rw [e]; clear e; go_enter Tryz.func127, Tryz.ntmps127; go_wp2
  go_region
  go_wp2; go_ret
  exact ⟨rfl, HB.out _⟩
 rcases (by omega : n = 0 ∨ n = 1 ∨ n = 2 ∨ n = 3 ∨ n = 4 ∨ n = 5 ∨ n = 6 ∨ n = 7) with rfl | rfl | rfl | rfl | rfl | rfl | rfl | rfl
 all_goals
  simp only [placeP]
  clear h0 h8; go_enter Tryz.func127, Tryz.ntmps127; go_wp2
  go_region
  go_wp2; go_ret
  exact ⟨rfl, HB.out _⟩
theorem is_c (r : RR) (n : Int) (h1 : 0 ≤ r.f) (h2 : r.f < 256) (w : World) :
  Calls Tryz.prog 72 #[.agg #[.int .u8 r.a, .int .u8 r.f, .int .u8 r.b, .int .u8 r.c, .int .u8 r.d, .int .u8 r.e, .int .u8 r.h, .int .u8 r.l, .int .u16 r.sp, .int .u16 r.pc], .int .i64 n] w fun e w' => e = .returned (.bool (isV r n)) ∧ Below w.heap.size w w' := by
 have hB : ∀ (o : Obj), Below w.heap.size w (w.alloc o) := fun o => (Below.refl _ _).alloc (Nat.le_refl _) _
 have HB := Lib.hid hB; clear hB; have e0 := Lib.hid (z0 r.f h1 h2); have e1 := Lib.hid (z1 r.f h1 h2); have e2 := Lib.hid (c0 r.f h1 h2); have e3 := Lib.hid (c1 r.f h1 h2)
 by_cases n0 : n = 0
 ·subst n0
  go_enter Tryz.func72, Tryz.ntmps72; go_wp2; go_ret
  refine ⟨?_, HB.out _⟩
  rw [show isV r 0 = !(r.f / 128 == 1) from rfl, ← e0.out]; rfl
 by_cases n1 : n = 1
 ·subst n1
  clear n0; go_enter Tryz.func72, Tryz.ntmps72; go_wp2; go_ret
  refine ⟨?_, HB.out _⟩
  rw [show isV r 1 = (r.f / 128 == 1) from rfl, ← e1.out]; rfl
 by_cases n2 : n = 2
 ·subst n2
  clear n0 n1; go_enter Tryz.func72, Tryz.ntmps72; go_wp2; go_ret
  refine ⟨?_, HB.out _⟩
  rw [show isV r 2 = !(r.f / 16 % 2 == 1) from rfl, ← e2.out]; rfl
 by_cases n3 : n = 3
 ·subst n3
  clear n0 n1 n2; go_enter Tryz.func72, Tryz.ntmps72; go_wp2; go_ret
  refine ⟨?_, HB.out _⟩
  rw [show isV r 3 = (r.f / 16 % 2 == 1) from rfl, ← e3.out]; rfl
 have e4 : isV r n = (n == 4) := by unfold isV; rw [if_neg n0, if_neg n1, if_neg n2, if_neg n3]
 rw [e4]; clear e4; go_enter Tryz.func72, Tryz.ntmps72; go_wp2; go_ret
 exact ⟨rfl, HB.out _⟩
end Go.Proofs.YtngdogldgcgnjaaGreat.Reg
namespace Go.Proofs.YtngdogldgcgnjaaGreat
open Go.ChangeShapes Go.WideShapes Go.ChangeAt Go.RowKit
theorem tk {P : Program} {ops : Array Oper} {Q : Exit → Act → World → Prop} {md : Region.Mode} {S : World → Prop} {d} {op} {ty} {ps} {af} {gd} {v : Value} {fuel : Nat} {listed : Array Bool} {a : Act} {w : World} (i : Nat) (hi : ops[i]? = some (⟨d, op, ty, ps, af, gd⟩ : Oper))
   (hy : ∀ w, S w → (execOp a.eval (⟨d, op, ty, ps, af, gd⟩ : Oper)).run P w = .ok (.value v) w) (h : wpAnyH P md ops Q S fuel (listed.setIfInBounds i true) (a.put d v) w)
   (hg : Region.wanted (⟨d, op, ty, ps, af, gd⟩ : Oper) (yielded ops a.tmps) = true := by rfl) (hs : Region.noSelect ops = true := by kernel_rfl) (hf : Region.free md ops listed i = true := by kernel_rfl)
   (hr : (Region.ready md ops listed).contains i = true := by kernel_rfl) (hQ : ∀ c a w, Q (.panic c) (a.put d v) w → Q (.panic c) a w := by exact fun _ _ _ h => h) (hS : S w := by assumption) : wpAnyH P md ops Q S (fuel + 1) listed a w :=
 wpAnyH_take hi hs hf hr hQ (Or.inl ⟨hg, hy⟩) hS h
theorem tu {P : Program} {ops : Array Oper} {Q : Exit → Act → World → Prop} {md : Region.Mode} {S : World → Prop} {d} {op} {ty} {ps} {af} {gd} {fuel : Nat} {listed : Array Bool} {a : Act} {w : World} (i : Nat) (hi : ops[i]? = some (⟨d, op, ty, ps, af, gd⟩ : Oper))
   (h : wpAnyH P md ops Q S fuel (listed.setIfInBounds i true) (a.put d undef) w)
   (hg : Region.wanted (⟨d, op, ty, ps, af, gd⟩ : Oper) (yielded ops a.tmps) = false := by rfl) (hs : Region.noSelect ops = true := by kernel_rfl) (hf : Region.free md ops listed i = true := by kernel_rfl)
   (hr : (Region.ready md ops listed).contains i = true := by kernel_rfl) (hQ : ∀ c a w, Q (.panic c) (a.put d undef) w → Q (.panic c) a w := by exact fun _ _ _ h => h) (hS : S w := by assumption) : wpAnyH P md ops Q S (fuel + 1) listed a w :=
 wpAnyH_take hi hs hf hr hQ (Or.inr ⟨hg, rfl⟩) hS h
theorem ac {P : Program} {ops : Array Oper} {Q : Exit → Act → World → Prop} {md : Region.Mode} {S : World → Prop} {d} {op} {ty} {ps} {af} {gd} {fuel : Nat} {listed : Array Bool} {a : Act} {w : World} {i : Nat} {rs : List Nat} (ho : ops[i]? = some (⟨d, op, ty, ps, af, gd⟩ : Oper))
   (h : ∀ K' : Act → World → Prop, Shut (∀ a w, S w → (S w → wpAnyH P md ops Q S fuel (listed.setIfInBounds i true) a w) → K' a w) → if Region.wanted (⟨d, op, ty, ps, af, gd⟩ : Oper) (yielded ops a.tmps) = true then Oper.wp P (⟨d, op, ty, ps, af, gd⟩ : Oper) a w K' Q else K' (a.put d undef) w)
   (hs : AllReadyH P md ops Q S fuel listed a w rs) : AllReadyH P md ops Q S fuel listed a w (i :: rs) := AllReadyH.cons (o := ⟨d, op, ty, ps, af, gd⟩) ho h hs
theorem qqA {α : Type} (l : List α) (i : Nat) (x : α) : l.toArray.setIfInBounds i x = (l.set i x).toArray := List.setIfInBounds_toArray ..
theorem qqB {α : Type} (x y : α) (l : List α) : (x :: l).set 0 y = y :: l := rfl
theorem qqC {α : Type} (x y : α) (l : List α) (i : Nat) : (x :: l).set (i + 1) y = x :: l.set i y := rfl
theorem bcell {W w1 : World} (hb : Below W.heap.size W w1) : (∀ b o, b < W.heap.size → w1.cell? ⟨b, o, none⟩ = W.cell? ⟨b, o, none⟩) ∧ (∀ b o, b < W.heap.size → w1.frozen? ⟨b, o, none⟩ = W.frozen? ⟨b, o, none⟩) :=
 ⟨fun b o h => hb.cell (p := ⟨b, o, none⟩) h, fun b o h => hb.frozen (p := ⟨b, o, none⟩) h⟩
def Has (w : World) (b : Nat) (A : Array Value) : Prop := b < w.heap.size ∧ (∀ o, w.cell? ⟨b, o, none⟩ = A[o]?) ∧ (∀ o, w.frozen? ⟨b, o, none⟩ = false)
theorem Has.new (w : World) (A : Array Value) (t : TypeId) : Has (w.alloc (.cells A t)) w.heap.size A :=
 ⟨by simp, fun o => by simp [go_sem], fun o => by simp [go_sem]⟩
theorem Has.below {w w' : World} {b : Nat} {A : Array Value} (h : Has w b A) (hb : Below w.heap.size w w') : Has w' b A := by
 obtain ⟨hc, hf⟩ := bcell hb
 exact ⟨Nat.lt_of_lt_of_le h.1 hb.size, fun o => (hc b o h.1).trans (h.2.1 o), fun o => (hf b o h.1).trans (h.2.2 o)⟩
theorem Has.alloc {w : World} {b : Nat} {A : Array Value} (h : Has w b A) (o : Obj) : Has (w.alloc o) b A :=
 h.below ((Below.refl _ _).alloc (Nat.le_refl _) _)
theorem Has.drew {w : World} {b : Nat} {A : Array Value} (h : Has w b A) : Has w.drew b A :=
 h.below (Below.refl _ _).drew
theorem Has.set {w : World} {b : Nat} {A : Array Value} (h : Has w b A) (k : Nat) (v : Value) (hk : k < A.size) : Has (w.setCell ⟨b, k, none⟩ v) b (A.setIfInBounds k v) := by
 refine ⟨by simpa using h.1, fun o => ?_, fun o => ?_⟩
 ·by_cases e : k = o
  ·subst e
   rw [World.cell?_setCell_same w _ _ (u := A[k]) (by rw [h.2.1, Array.getElem?_eq_getElem hk])]
   simp [hk]
  ·rw [World.cell?_setCell_other w _ _ _ (by intro h; injection h; contradiction), h.2.1, Array.getElem?_setIfInBounds_ne e]
 ·simpa [go_sem] using h.2.2 o
theorem Has.far {w : World} {b : Nat} {A : Array Value} (h : Has w b A) (a : Addr) (v : Value) (hk : ¬ a.block = b) : Has (w.setCell a v) b A := by
 refine ⟨by simpa using h.1, fun o => ?_, fun o => ?_⟩
 ·rw [World.cell?_setCell_other w _ _ _ (fun h => hk (by rw [h])), h.2.1]
 ·simpa [go_sem] using h.2.2 o
theorem Has.out {w : World} {b : Nat} {A : Array Value} (h : Has w b A) : (∀ o, w.cell? ⟨b, o, none⟩ = A[o]?) ∧ (∀ o, w.frozen? ⟨b, o, none⟩ = false) := h.2
theorem u8_bd {a : Int} (h : (Lit.int .u8 a).wf = true) : 0 ≤ a ∧ a < 256 := by
 simp [Lit.wf, IntKind.min, IntKind.max, IntKind.bits, IntKind.signed] at h; omega
theorem u16_bd {a : Int} (h : (Lit.int .u16 a).wf = true) : 0 ≤ a ∧ a < 65536 := by
 simp [Lit.wf, IntKind.min, IntKind.max, IntKind.bits, IntKind.signed] at h; omega
theorem i64_bd {a : Int} (h : (Lit.int .i64 a).wf = true) : -9223372036854775808 ≤ a ∧ a ≤ 9223372036854775807 := by
 simp [Lit.wf, IntKind.min, IntKind.max, IntKind.bits, IntKind.signed] at h; omega
theorem own : ownKnob Tryz.prog.godebug = none := by kernel_rfl
theorem laidOut : laidOutB Tryz.prog = true := by kernel_rfl
theorem byte_all {P : Int → Prop} (h : ∀ n : Fin 256, P (n.val : Int)) (a : Int) (h1 : 0 ≤ a) (h2 : a < 256) : P a := by
 have := h ⟨a.toNat, by omega⟩
 rwa [show ((a.toNat : Nat) : Int) = a by omega] at this
theorem trodAll_below {H : Type} {enc : TypeId × Value → H} {P : Program} (hl : laidOutB P = true) {W W' : World} (hb : Below W.heap.size W W') :
  ∀ (ts : List TypeId) (vs : List Value) (ds : List (DataW H)) (p : List MemPlace), (∀ t, t ∈ ts → P.readableRec t = true ∧ t < P.types.size) →
   DataW.TrodAll enc P W 0 (fun _ => true) true ts vs ds p → (∀ x, x ∈ p → x.block < W.heap.size) →
   DataW.TrodAll enc P W' 0 (fun b => decide (b < W.heap.size)) true ts vs ds p
 | [], vs, ds, p, _, h, _ => by
  obtain ⟨rfl, rfl, rfl⟩ := trodAll_nil h
  exact trodAll_mk0
 | t :: ts, vs, ds, p, ht, h, hp => by
  obtain ⟨v0, vs0, d0, ds0, p0, q0, rfl, rfl, rfl, h0, r0⟩ := trodAll_cons h; have k := ht t (by simp)
  exact trodAll_cons_mk (Below.trod hl k.1 k.2 h0 hb fun x hx => hp x (by simp [hx])) (trodAll_below hl hb ts vs0 ds0 q0 (fun t' h' => ht t' (by simp [h'])) r0 fun x hx => hp x (by simp [hx]))
theorem law_post {H : Type} {enc : TypeId × Value → H} {P : Program} {f : Func} {s : ChangeSpec} {W W' : World} {args : Array Value} {ds : List (DataW H)} {before : List MemPlace}
  (hl : laidOutB P = true) (hW : DataW.Whole enc P f.params.toList s.vars false W args.toList ds [] before)
  (hv : s.vars = []) (hfv : (s.fn H (ds ++ [])).vars = []) (hfa : (s.fn H (ds ++ [])).args = ds)
  (hres : DataW.TrodAll enc P W' W.heap.size (fun _ => false) false f.resultTypes.toList ((Value.bool true).resultList f.resultTypes.size) (s.fn H (ds ++ [])).results [])
  (hr : ∀ t, t ∈ f.params.toList → P.readableRec t = true ∧ t < P.types.size) (hb : Below W.heap.size W W') :
  s.post enc P f false true false false W args (.bool true) W' := by
 have hW' := hW; obtain ⟨p, q, hA, hV, rfl, _, _⟩ := hW; have hV2 := hV; rw [hv] at hV2; obtain ⟨_, rfl⟩ := trodVars_none hV2
 refine ⟨ds, [], p ++ [], [], p, [], hW', hres, ?_, ?_, hb.frame _, fun h => by cases h⟩
 ·rw [hfa]
  exact trodAll_below hl hb _ _ _ _ hr hA fun x hx => hW'.lt x (by simpa using hx)
 ·rw [hfv, hv]
  rfl
theorem Has.stepA {w w2 : World} {b : Nat} {A : Array Value} {o : Obj} (h : Has w b A) (hb : Below (w.alloc o).heap.size (w.alloc o) w2) : Has w2 b A := (h.alloc o).below hb
theorem Has.stepN {w w2 : World} {A : Array Value} {t : TypeId} (hb : Below (w.alloc (.cells A t)).heap.size (w.alloc (.cells A t)) w2) : Has w2 w.heap.size A := (Has.new w A t).below hb
theorem _root_.Go.RowKit.Below.stepA {B : Nat} {w0 w w2 : World} {o : Obj} (h : Below B w0 w) (hB : B ≤ w.heap.size) (hb : Below (w.alloc o).heap.size (w.alloc o) w2) : Below B w0 w2 :=
 (h.alloc hB o).trans (hb.mono (by simp; omega))
theorem _root_.Go.RowKit.Below.step {B : Nat} {w0 w w2 : World} (h : Below B w0 w) (hB : B ≤ w.heap.size) (hb : Below w.heap.size w w2) : Below B w0 w2 := h.trans (hb.mono hB)
theorem via {w W w1 : World} (h1 : Below w.heap.size w W) (h2 : Below W.heap.size W w1) : Below w.heap.size w w1 := h1.trans (h2.mono h1.size)
theorem own1 (w : World) (o1 : Obj) : Below w.heap.size w (w.alloc o1) := (Below.refl _ _).alloc (Nat.le_refl _) _
theorem own2 (w : World) (o1 o2 : Obj) : Below w.heap.size w ((w.alloc o1).alloc o2) := (own1 w o1).alloc (by simp) _
theorem own3 (w : World) (o1 o2 o3 : Obj) : Below w.heap.size w (((w.alloc o1).alloc o2).alloc o3) := (own2 w o1 o2).alloc (by simp; omega) _
theorem own4 (w : World) (o1 o2 o3 o4 : Obj) : Below w.heap.size w ((((w.alloc o1).alloc o2).alloc o3).alloc o4) := (own3 w o1 o2 o3).alloc (by simp; omega) _
theorem set5 {B : Nat} {w0 w : World} (h : Below B w0 w) (b : Nat) (hb : B ≤ b) (v0 v1 v2 v3 v4 : Value) :
  Below B w0 (((((w.setCell ⟨b, 0, none⟩ v0).setCell ⟨b, 1, none⟩ v1).setCell ⟨b, 2, none⟩ v2).setCell ⟨b, 3, none⟩ v3).setCell ⟨b, 4, none⟩ v4) :=
 ((((h.setCell hb _).setCell hb _).setCell hb _).setCell hb _).setCell hb _
end Go.Proofs.YtngdogldgcgnjaaGreat
namespace Go.Proofs.YtngdogldgcgnjaaGreat
open Go.ChangeShapes Go.WideShapes Go.ChangeAt Go.RowKit
theorem info3 : (Tryz.prog.info? 3).map (·.size) = some 1 := by kernel_rfl
theorem op_0 (k s : Int) (w : World) : Calls Tryz.prog 83 #[.int .i64 k, .int .i64 s, .slice none 0 0] w fun e w' =>
  e = .returned (.agg #[.int .i64 k, .int .i64 0, .int .i64 0, .int .i64 s, .int .u16 0]) ∧ Below w.heap.size w w' := by
 have hcp : ∀ (W : World) (d : Addr), (Builtin.copy_ #[64, 64] 3 #[.slice (some d) 2 2, .slice none 0 0]).run Tryz.prog W = .ok (goInt 0) W := fun W d =>
  run_copy_none W 64 64 3 3 (some d) none 2 2 0 0 Tryz.underlying64 info3 rfl
 go_enter Tryz.func83, Tryz.ntmps83; go_wp2
 exact bodyPost_ret (v := .agg #[.int .i64 k, .int .i64 0, .int .i64 0, .int .i64 s, .int .u16 0]) (by simp [results, Tryz.results83, go_sem]) rfl ⟨rfl, by
  repeat (first | exact Below.refl _ _ | refine Below.setCell ?_ (by simp) _ | refine Below.alloc ?_ (by simp) _)⟩
theorem op_1 (k s x : Int) (b : Nat) (w : World) (hb : b < w.heap.size) (h : w.cell? ⟨b, 0, none⟩ = some (.int .i64 x)) : Calls Tryz.prog 83 #[.int .i64 k, .int .i64 s, .slice (some ⟨b, 0, none⟩) 1 1] w fun e w' =>
  e = .returned (.agg #[.int .i64 k, .int .i64 x, .int .i64 0, .int .i64 s, .int .u16 0]) ∧ Below w.heap.size w w' := by
 have hcp := run_copy_cells (P := Tryz.prog) ((w.alloc (.cells #[.int .i64 0, .int .i64 0, .int .i64 0, .int .i64 0, .int .u16 0] 44)).alloc (.cells #[.int .i64 0, .int .i64 0] 150))
  64 64 3 3 (w.heap.size + 1) 0 2 2 ⟨b, 0, none⟩ 1 1 [.int .i64 x] Tryz.underlying64 info3 rfl
  (fun j v hj => by
   cases j with
   | zero => 
    obtain rfl : v = .int .i64 x := by simpa using hj.symm
    show World.cell? _ ⟨b, 0, none⟩ = _
    rw [World.cell?_alloc_past _ _ _ (by simp; omega), World.cell?_alloc_past _ _ _ hb, h]
   | succ j => simp at hj)
  (fun j hj => by
   have : j = 0 := by simpa using hj
   subst this
   simp [go_sem])
  (fun j hj => by simp [go_sem])
  (by simp [Value.oneCell'])
 simp only [World.setCells] at hcp
 go_enter Tryz.func83, Tryz.ntmps83; go_wp2
 exact bodyPost_ret (v := .agg #[.int .i64 k, .int .i64 x, .int .i64 0, .int .i64 s, .int .u16 0]) (by simp [results, Tryz.results83, go_sem]) rfl ⟨rfl, by
  repeat (first | exact Below.refl _ _ | refine Below.setCell ?_ (by simp) _ | refine Below.alloc ?_ (by simp) _)⟩
theorem op_2 (k s x y : Int) (b : Nat) (w : World) (hb : b < w.heap.size) (h : w.cell? ⟨b, 0, none⟩ = some (.int .i64 x)) (h' : w.cell? ⟨b, 1, none⟩ = some (.int .i64 y)) : Calls Tryz.prog 83 #[.int .i64 k, .int .i64 s, .slice (some ⟨b, 0, none⟩) 2 2] w fun e w' =>
  e = .returned (.agg #[.int .i64 k, .int .i64 x, .int .i64 y, .int .i64 s, .int .u16 0]) ∧ Below w.heap.size w w' := by
 have hcp := run_copy_cells (P := Tryz.prog) ((w.alloc (.cells #[.int .i64 0, .int .i64 0, .int .i64 0, .int .i64 0, .int .u16 0] 44)).alloc (.cells #[.int .i64 0, .int .i64 0] 150))
  64 64 3 3 (w.heap.size + 1) 0 2 2 ⟨b, 0, none⟩ 2 2 [.int .i64 x, .int .i64 y] Tryz.underlying64 info3 rfl
  (fun j v hj => by
   match j, hj with
   | 0, hj =>
    obtain rfl : v = .int .i64 x := by simpa using hj.symm
    show World.cell? _ ⟨b, 0, none⟩ = _
    rw [World.cell?_alloc_past _ _ _ (by simp; omega), World.cell?_alloc_past _ _ _ hb, h]
   | 1, hj =>
    obtain rfl : v = .int .i64 y := by simpa using hj.symm
    show World.cell? _ ⟨b, 1, none⟩ = _
    rw [World.cell?_alloc_past _ _ _ (by simp; omega), World.cell?_alloc_past _ _ _ hb, h']
   | j + 2, hj => simp at hj)
  (fun j hj => by
   have : j = 0 ∨ j = 1 := by have : j < 2 := hj; omega
   rcases this with rfl | rfl <;> simp [go_sem])
  (fun j hj => by simp [go_sem])
  (by simp [Value.oneCell'])
 simp only [World.setCells] at hcp
 go_enter Tryz.func83, Tryz.ntmps83; go_wp2
 exact bodyPost_ret (v := .agg #[.int .i64 k, .int .i64 x, .int .i64 y, .int .i64 s, .int .u16 0]) (by simp [results, Tryz.results83, go_sem]) rfl ⟨rfl, by
  repeat (first | exact Below.refl _ _ | refine Below.setCell ?_ (by simp) _ | refine Below.alloc ?_ (by simp) _)⟩
theorem op_1n (k s x : Int) (t : TypeId) (w : World) (b : Nat) (hb : b = w.heap.size) : Calls Tryz.prog 83 #[.int .i64 k, .int .i64 s, .slice (some ⟨b, 0, none⟩) 1 1] (w.alloc (.cells #[.int .i64 x] t)) fun e w' =>
  e = .returned (.agg #[.int .i64 k, .int .i64 x, .int .i64 0, .int .i64 s, .int .u16 0]) ∧ Below (w.alloc (.cells #[.int .i64 x] t)).heap.size (w.alloc (.cells #[.int .i64 x] t)) w' :=
 op_1 k s x _ _ (by simp [hb]) (by simp [go_sem, hb])
theorem op_2n (k s x y : Int) (t : TypeId) (w : World) (b : Nat) (hb : b = w.heap.size) : Calls Tryz.prog 83 #[.int .i64 k, .int .i64 s, .slice (some ⟨b, 0, none⟩) 2 2] (w.alloc (.cells #[.int .i64 x, .int .i64 y] t)) fun e w' =>
  e = .returned (.agg #[.int .i64 k, .int .i64 x, .int .i64 y, .int .i64 s, .int .u16 0]) ∧ Below (w.alloc (.cells #[.int .i64 x, .int .i64 y] t)).heap.size (w.alloc (.cells #[.int .i64 x, .int .i64 y] t)) w' :=
 op_2 k s x y _ _ (by simp [hb]) (by simp [go_sem, hb]) (by simp [go_sem, hb])
end Go.Proofs.YtngdogldgcgnjaaGreat
namespace Go.Proofs.YtngdogldgcgnjaaGreat
open Go.ChangeShapes Go.WideShapes Go.ChangeAt Go.RowKit
structure OpV where
 k : Int
 x : Int
 y : Int
 s : Int
 n : Int
deriving DecidableEq
def relF (y : Int) : OpV := if y = 0 then ⟨1, 0, 0, 1, 0⟩ else if y = 1 then ⟨40, 0, 0, 3, 0⟩ else if y = 2 then ⟨2, 0, 0, 2, 0⟩ else if y = 3 then ⟨23, 4, 0, 2, 0⟩ else ⟨23, y - 4, 0, 2, 0⟩
def ofAF (y : Int) : OpV := if y = 4 then ⟨19, 0, 0, 1, 0⟩ else if y = 5 then ⟨20, 0, 0, 1, 0⟩ else if y = 6 then ⟨21, 0, 0, 1, 0⟩ else if y = 7 then ⟨22, 0, 0, 1, 0⟩ else ⟨18, y, 0, 1, 0⟩
def rohF (y : Int) : OpV := if y = 4 then ⟨35, 0, 0, 2, 0⟩ else if y = 5 then ⟨41, 0, 0, 2, 0⟩ else if y = 6 then ⟨34, 0, 0, 2, 0⟩ else if y = 7 then ⟨42, 0, 0, 2, 0⟩ else ⟨26, y, 0, 1, 0⟩
def stkF (p : Int) : Int := if p = 3 then 4 else p
def woF (p : Int) : OpV := if p = 0 then ⟨26, 4, 0, 1, 0⟩ else if p = 1 then ⟨27, 0, 0, 1, 0⟩ else if p = 2 then ⟨29, 0, 0, 1, 0⟩ else ⟨43, 0, 0, 1, 0⟩
def jofF (y : Int) : OpV := if y = 4 then ⟨37, 0, 0, 1, 0⟩ else if y = 5 then ⟨39, 0, 0, 3, 0⟩ else if y = 6 then ⟨36, 0, 0, 1, 0⟩ else if y = 7 then ⟨38, 0, 0, 3, 0⟩ else ⟨24, y, 0, 3, 0⟩
def josF (y : Int) : OpV := if y = 0 then ⟨24, 4, 0, 3, 0⟩ else if y = 6 then ⟨5, 0, 0, 1, 0⟩ else if y = 7 then ⟨6, 0, 0, 1, 0⟩ else ⟨4, 0, 0, 1, 0⟩
def ccF (y : Int) : OpV := if y < 4 then ⟨25, y, 0, 3, 0⟩ else ⟨4, 0, 0, 1, 0⟩
def callF (p : Int) : OpV := if p = 0 then ⟨25, 4, 0, 3, 0⟩ else ⟨4, 0, 0, 1, 0⟩
def prefF (x y z : Int) : OpV := if x = 1 then ⟨44, y, z, 2, 0⟩ else if x = 2 then ⟨45, y, z, 2, 0⟩ else if x = 3 then ⟨46, y, z, 2, 0⟩ else ⟨17, y, z, 2, 0⟩
def eitherF (q : Int) (a b : OpV) : OpV := if q = 0 then a else b
end Go.Proofs.YtngdogldgcgnjaaGreat
namespace Go.Proofs.YtngdogldgcgnjaaGreat
open Go.ChangeShapes Go.WideShapes Go.ChangeAt Go.RowKit
set_option linter.unusedVariables false
theorem nt : ∀ (x : Bool) (w : World), (Op.unary .not (.bool x)).run Tryz.prog w = .ok (.bool (!x)) w := fun _ _ => rfl
theorem tz {P : Program} {ops : Array Oper} {Q : Exit → Act → World → Prop} {md : Region.Mode} {S : World → Prop} {d} {op} {ty} {ps} {af} {gd} {v : Value} {fuel : Nat} {listed : Array Bool} {a a' : Act} {w : World} (i : Nat) (h : wpAnyH P md ops Q S fuel (listed.setIfInBounds i true) a' w)
   (hi : ops[i]? = some (⟨d, op, ty, ps, af, gd⟩ : Oper) := by rfl)
   (hy : ∀ w, S w → (execOp a.eval (⟨d, op, ty, ps, af, gd⟩ : Oper)).run P w = .ok (.value v) w := by ((intro w hSw; (try dsimp only at hSw); go_simp) <;> with_reducible rfl))
   (ha : a.put d v = a' := by ((try simp only [Act.put, qqA, qqB, qqC]) <;> exact rfl))
   (hg : Region.wanted (⟨d, op, ty, ps, af, gd⟩ : Oper) (yielded ops a.tmps) = true := by rfl) (hs : Region.noSelect ops = true := by kernel_rfl) (hf : Region.free md ops listed i = true := by kernel_rfl)
   (hr : (Region.ready md ops listed).contains i = true := by kernel_rfl) (hQ : ∀ c a w, Q (.panic c) (a.put d v) w → Q (.panic c) a w := by exact fun _ _ _ h => h) (hS : S w := by assumption) : wpAnyH P md ops Q S (fuel + 1) listed a w := by
 subst ha
 exact wpAnyH_take hi hs hf hr hQ (Or.inl ⟨hg, hy⟩) hS h
theorem re1 {P : Program} {ops : Array Oper} {Q : Exit → Act → World → Prop} {md : Region.Mode} {S : World → Prop} {d} {op} {ty} {ps} {af} {gd} {fuel : Nat} {listed : Array Bool} {a : Act} {w : World} (i : Nat)
   (h : ∀ K' : Act → World → Prop, Shut (∀ a w, S w → (S w → wpAnyH P md ops Q S fuel (listed.setIfInBounds i true) a w) → K' a w) → if Region.wanted (⟨d, op, ty, ps, af, gd⟩ : Oper) (yielded ops a.tmps) = true then Oper.wp P (⟨d, op, ty, ps, af, gd⟩ : Oper) a w K' Q else K' (a.put d undef) w)
   (ho : ops[i]? = some (⟨d, op, ty, ps, af, gd⟩ : Oper) := by rfl) (hr : Region.ready md ops listed = [i] := by kernel_rfl) : wpAnyH P md ops Q S (fuel + 1) listed a w :=
 wpAnyH_ready hr (by simp) (ac ho h AllReadyH.nil)
theorem rh {P : Program} {ops : Array Oper} {Q : Exit → Act → World → Prop} {id b : Nat} {A : Array Value} {a : Act} {w : World} (hb : Hid (Has w.drew b A))
   (h : ((∀ o, w.drew.cell? ⟨b, o, none⟩ = A[o]?) ∧ True) → wpAnyH P .any ops Q (fun w' => (∀ o, w'.cell? ⟨b, o, none⟩ = A[o]?) ∧ True) ops.size (Array.replicate ops.size false) a w.drew) (hm : P.follows .mixedOrders = true := by kernel_rfl) : (Code.region id ops true).wp P Q a w :=
 wp_region_held_drew (S := fun w' => (∀ o, w'.cell? ⟨b, o, none⟩ = A[o]?) ∧ True) hm ⟨hb.out.2.1, trivial⟩ h
end Go.Proofs.YtngdogldgcgnjaaGreat
