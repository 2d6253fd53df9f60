/-
  What (*Table).Decode returns, and that it touches nothing but its table: for every world and all bytes; the table is there, or is nil.
-/
import Derived.Test.YtngdogldgcgnjaaGreatNew
namespace Go.Proofs.YtngdogldgcgnjaaGreat
open Go.ChangeShapes Go.WideShapes Go.ChangeAt Go.RowKit
set_option linter.unusedVariables false

theorem or16 (h l : Nat) (h2 : h < 256) (h4 : l < 256) : bits .or .u16 ((h : Int) * 256) l = (h : Int) * 256 + l := by
 rw [u16_or _ _ (by omega) (by omega) (by omega) (by omega)]
 have e1 : ((h : Int) * 256).toNat = 2 ^ 8 * h := by omega
 have e2 : (l : Int).toNat = l := rfl
 rw [e1, e2, ← Nat.two_pow_add_eq_or_of_lt (by omega)]
 omega
theorem Tab.rowF {w : World} {b : Nat} {d m : Int} (h : Tab w b d m 256 256) (k : Nat) (hk : k < 256) {r : OpV} (hr : pfT k = r) :
  w.cell? ⟨b, 1283 + k * 5, none⟩ = .some (.int .i64 r.k) ∧ w.cell? ⟨b, 1283 + k * 5 + 1, none⟩ = .some (.int .i64 r.x) ∧ w.cell? ⟨b, 1283 + k * 5 + 2, none⟩ = .some (.int .i64 r.y) ∧ w.cell? ⟨b, 1283 + k * 5 + 3, none⟩ = .some (.int .i64 r.s) ∧ w.cell? ⟨b, 1283 + k * 5 + 4, none⟩ = .some (.int .u16 r.n) := by
 subst hr
 exact ⟨h.pref k 0 hk (by decide), h.pref k 1 hk (by decide), h.pref k 2 hk (by decide), h.pref k 3 hk (by decide), h.pref k 4 hk (by decide)⟩
theorem Tab.rowP {w : World} {b : Nat} {d m : Int} (h : Tab w b d m 256 256) (k : Nat) (hk : k < 256) {r : OpV} (hr : plT k = r) :
  w.cell? ⟨b, 3 + k * 5, none⟩ = .some (.int .i64 r.k) ∧ w.cell? ⟨b, 3 + k * 5 + 1, none⟩ = .some (.int .i64 r.x) ∧ w.cell? ⟨b, 3 + k * 5 + 2, none⟩ = .some (.int .i64 r.y) ∧ w.cell? ⟨b, 3 + k * 5 + 3, none⟩ = .some (.int .i64 r.s) ∧ w.cell? ⟨b, 3 + k * 5 + 4, none⟩ = .some (.int .u16 r.n) := by
 subst hr
 exact ⟨h.plain k 0 hk (by decide), h.plain k 1 hk (by decide), h.plain k 2 hk (by decide), h.plain k 3 hk (by decide), h.plain k 4 hk (by decide)⟩
/-- A table, and all but it as it was, behind stores into the answer's block. -/
def Out (tb : Nat) (w w' : World) : Prop := But tb w w' ∧ Tab w' tb 1 0 256 256
theorem Out.set {tb c : Nat} {w V : World} (h : Out tb w V) (h1 : w.heap.size ≤ c) (h2 : c ≠ tb) (o : Nat) (v : Value) : Out tb w (V.setCell ⟨c, o, none⟩ v) :=
 ⟨⟨h.1.os, h.1.tape, h.1.output, by simpa using h.1.size, fun k hk hn => (Below.heap_setCell _ _ _ _ (by show k ≠ c; omega)).trans (h.1.block k hk hn)⟩, h.2.but (But.setCell c V o v) (fun e => h2 e.symm)⟩
theorem Out.alloc {tb : Nat} {w V : World} (h : Out tb w V) (o : Obj) : Out tb w (V.alloc o) := ⟨h.1.trans (But.of (own1 V o)), h.2.below (own1 V o)⟩
theorem nil_c (a b c : Int) (w : World) : Calls Tryz.prog 71 #[.pointer none, .int .u8 a, .int .u8 b, .int .u8 c] w fun e w' =>
  e = .returned (.agg #[.int .i64 4, .int .i64 0, .int .i64 0, .int .i64 1, .int .u16 0]) ∧ Below w.heap.size w w' := by
 go_enter Tryz.func71, Tryz.ntmps71
 go_wp2_with (go_at_call 83; ((first | (with_reducible refine (op_0 _ _ _).mono ?_) | ((with_reducible refine (op_1n _ _ _ _ _ _ ?_).mono ?_); (· simp)) | ((with_reducible refine (op_2n _ _ _ _ _ _ _ ?_).mono ?_); (· simp))); rintro e w1 ⟨rfl, hb⟩; obtain ⟨hc, hf⟩ := bcell hb; have HB := Lib.hid hb; clear hb))
 refine bodyPost_ret (v := _) ?_ rfl ⟨rfl, ?_⟩
 ·simp [results, Tryz.results71, go_sem, hc]
 ·clear hc hf
  have hbb := HB.out
  clear HB
  with_reducible exact set5 (via (own1 _ _) hbb) _ (Nat.le_refl _) _ _ _ _ _
set_option maxRecDepth 100000 in
set_option maxHeartbeats 2000000 in
theorem decP (tb : Nat) (b c : Nat) (hb256 : b < 256) (r : OpV) (hr0 : pfT b = r) (w : World) (T0 : TabAny w tb) : Calls Tryz.prog 71 #[.pointer (some ⟨tb, 0, none⟩), .int .u8 203, .int .u8 b, .int .u8 c] w fun e w' =>
  e = .returned (.agg #[.int .i64 (r).k, .int .i64 (r).x, .int .i64 (r).y, .int .i64 (r).s, .int .u16 (r).n]) ∧ Out tb w w' := by
 have hr := Lib.hid hr0
 clear hr0
 have hmf : ∀ (fn : Fn) (first cap : Array Value) (w : World), (Instr.makeFunc fn first cap).run Tryz.prog w = .ok (.func fn first cap) w := fun _ _ _ _ => rfl
 have T1 := Lib.hid (show TabAny (w.alloc (.cells #[.int .i64 0, .int .i64 0, .int .i64 0, .int .i64 0, .int .u16 0] 44)) tb from T0.imp (fun h => h.below (own1 _ _)) (fun h => h.below (own1 _ _)))
 have hne : w.heap.size ≠ tb := by rcases T0 with h | h <;> have := h.lt <;> omega
 have HN := Lib.hid hne
 clear T0 hne
 go_enter Tryz.func71, Tryz.ntmps71
 go_wp2_with fail
 refine (do_c tb _ T1.out).mono ?_
 rintro e V ⟨rfl, hB, hT⟩
 have HR := (Has.new w #[.int .i64 0, .int .i64 0, .int .i64 0, .int .i64 0, .int .u16 0] 44).but hB HN.out
 have O2 := Lib.hid (show Out tb w V from ⟨(But.of (own1 w (.cells #[.int .i64 0, .int .i64 0, .int .i64 0, .int .i64 0, .int .u16 0] 44))).trans hB, hT⟩)
 obtain ⟨hc, hf⟩ := HR.out
 have hlt := HR.1
 clear HR hB T1
 obtain ⟨g0, g1, g2, g3, g4⟩ := hT.rowF b hb256 hr.out
 clear hT
 go_wp2
 refine bodyPost_ret (v := _) ?_ rfl ⟨rfl, ?_⟩
 ·simp [results, Tryz.results71, go_sem, hc]
 ·exact ((((O2.out.set (Nat.le_refl _) HN.out 0 _).set (Nat.le_refl _) HN.out 1 _).set (Nat.le_refl _) HN.out 2 _).set (Nat.le_refl _) HN.out 3 _).set (Nat.le_refl _) HN.out 4 _
set_option maxRecDepth 100000 in
set_option maxHeartbeats 2000000 in
theorem dec1 (tb : Nat) (a b c : Nat) (ha : a < 256) (hb256 : b < 256) (hc256 : c < 256) (h203 : ((a : Int) == 203) = false) (r : OpV) (hr0 : plT a = r) (hs2 : (r.s == 2) = false) (hs3 : (r.s == 3) = false) (w : World) (T0 : TabAny w tb) : Calls Tryz.prog 71 #[.pointer (some ⟨tb, 0, none⟩), .int .u8 a, .int .u8 b, .int .u8 c] w fun e w' =>
  e = .returned (.agg #[.int .i64 r.k, .int .i64 r.x, .int .i64 r.y, .int .i64 r.s, .int .u16 r.n]) ∧ Out tb w w' := by
 have hr := Lib.hid hr0
 clear hr0
 have hmf : ∀ (fn : Fn) (first cap : Array Value) (w : World), (Instr.makeFunc fn first cap).run Tryz.prog w = .ok (.func fn first cap) w := fun _ _ _ _ => rfl
 have T1 := Lib.hid (show TabAny (w.alloc (.cells #[.int .i64 0, .int .i64 0, .int .i64 0, .int .i64 0, .int .u16 0] 44)) tb from T0.imp (fun h => h.below (own1 _ _)) (fun h => h.below (own1 _ _)))
 have hne : w.heap.size ≠ tb := by rcases T0 with h | h <;> have := h.lt <;> omega
 have HN := Lib.hid hne
 clear T0 hne
 go_enter Tryz.func71, Tryz.ntmps71
 go_wp2_with fail
 refine (do_c tb _ T1.out).mono ?_
 rintro e V ⟨rfl, hB, hT⟩
 have HR := (Has.new w #[.int .i64 0, .int .i64 0, .int .i64 0, .int .i64 0, .int .u16 0] 44).but hB HN.out
 have O2 := Lib.hid (show Out tb w V from ⟨(But.of (own1 w (.cells #[.int .i64 0, .int .i64 0, .int .i64 0, .int .i64 0, .int .u16 0] 44))).trans hB, hT⟩)
 obtain ⟨hc, hf⟩ := HR.out
 have hlt := HR.1
 clear HR hB T1
 obtain ⟨g0, g1, g2, g3, g4⟩ := hT.rowP a ha hr.out
 clear hT
 go_wp2
 refine bodyPost_ret (v := _) ?_ rfl ⟨rfl, ?_⟩
 ·simp [results, Tryz.results71, go_sem, hc, hlt]
 ·exact (((((O2.out.set (Nat.le_refl _) HN.out 0 _).set (Nat.le_refl _) HN.out 1 _).set (Nat.le_refl _) HN.out 2 _).set (Nat.le_refl _) HN.out 3 _).set (Nat.le_refl _) HN.out 4 _).alloc _
set_option maxRecDepth 100000 in
set_option maxHeartbeats 2000000 in
theorem dec2 (tb : Nat) (a b c : Nat) (ha : a < 256) (hb256 : b < 256) (hc256 : c < 256) (h203 : ((a : Int) == 203) = false) (r : OpV) (hr0 : plT a = r) (hs2 : (r.s == 2) = true) (w : World) (T0 : TabAny w tb) : Calls Tryz.prog 71 #[.pointer (some ⟨tb, 0, none⟩), .int .u8 a, .int .u8 b, .int .u8 c] w fun e w' =>
  e = .returned (.agg #[.int .i64 r.k, .int .i64 r.x, .int .i64 r.y, .int .i64 r.s, .int .u16 (b : Int)]) ∧ Out tb w w' := by
 have hr := Lib.hid hr0
 clear hr0
 have hmf : ∀ (fn : Fn) (first cap : Array Value) (w : World), (Instr.makeFunc fn first cap).run Tryz.prog w = .ok (.func fn first cap) w := fun _ _ _ _ => rfl
 have T1 := Lib.hid (show TabAny (w.alloc (.cells #[.int .i64 0, .int .i64 0, .int .i64 0, .int .i64 0, .int .u16 0] 44)) tb from T0.imp (fun h => h.below (own1 _ _)) (fun h => h.below (own1 _ _)))
 have hne : w.heap.size ≠ tb := by rcases T0 with h | h <;> have := h.lt <;> omega
 have HN := Lib.hid hne
 clear T0 hne
 go_enter Tryz.func71, Tryz.ntmps71
 go_wp2_with fail
 refine (do_c tb _ T1.out).mono ?_
 rintro e V ⟨rfl, hB, hT⟩
 have HR := (Has.new w #[.int .i64 0, .int .i64 0, .int .i64 0, .int .i64 0, .int .u16 0] 44).but hB HN.out
 have O2 := Lib.hid (show Out tb w V from ⟨(But.of (own1 w (.cells #[.int .i64 0, .int .i64 0, .int .i64 0, .int .i64 0, .int .u16 0] 44))).trans hB, hT⟩)
 obtain ⟨hc, hf⟩ := HR.out
 have hlt := HR.1
 clear HR hB T1
 obtain ⟨g0, g1, g2, g3, g4⟩ := hT.rowP a ha hr.out
 clear hT
 go_wp2
 refine bodyPost_ret (v := _) ?_ rfl ⟨rfl, ?_⟩
 ·simp [results, Tryz.results71, go_sem, hc, hlt]
 ·exact (((((O2.out.set (Nat.le_refl _) HN.out 0 _).set (Nat.le_refl _) HN.out 1 _).set (Nat.le_refl _) HN.out 2 _).set (Nat.le_refl _) HN.out 3 _).set (Nat.le_refl _) HN.out 4 _).alloc _
set_option maxRecDepth 100000 in
set_option maxHeartbeats 2000000 in
theorem dec3 (tb : Nat) (a b c : Nat) (ha : a < 256) (hb256 : b < 256) (hc256 : c < 256) (h203 : ((a : Int) == 203) = false) (r : OpV) (hr0 : plT a = r) (hs2 : (r.s == 2) = false) (hs3 : (r.s == 3) = true) (w : World) (T0 : TabAny w tb) : Calls Tryz.prog 71 #[.pointer (some ⟨tb, 0, none⟩), .int .u8 a, .int .u8 b, .int .u8 c] w fun e w' =>
  e = .returned (.agg #[.int .i64 r.k, .int .i64 r.x, .int .i64 r.y, .int .i64 r.s, .int .u16 ((c : Int) * 256 + b)]) ∧ Out tb w w' := by
 have hr := Lib.hid hr0
 clear hr0
 have ho := or16 c b hc256 hb256
 have hmf : ∀ (fn : Fn) (first cap : Array Value) (w : World), (Instr.makeFunc fn first cap).run Tryz.prog w = .ok (.func fn first cap) w := fun _ _ _ _ => rfl
 have T1 := Lib.hid (show TabAny (w.alloc (.cells #[.int .i64 0, .int .i64 0, .int .i64 0, .int .i64 0, .int .u16 0] 44)) tb from T0.imp (fun h => h.below (own1 _ _)) (fun h => h.below (own1 _ _)))
 have hne : w.heap.size ≠ tb := by rcases T0 with h | h <;> have := h.lt <;> omega
 have HN := Lib.hid hne
 clear T0 hne
 go_enter Tryz.func71, Tryz.ntmps71
 go_wp2_with fail
 refine (do_c tb _ T1.out).mono ?_
 rintro e V ⟨rfl, hB, hT⟩
 have HR := (Has.new w #[.int .i64 0, .int .i64 0, .int .i64 0, .int .i64 0, .int .u16 0] 44).but hB HN.out
 have O2 := Lib.hid (show Out tb w V from ⟨(But.of (own1 w (.cells #[.int .i64 0, .int .i64 0, .int .i64 0, .int .i64 0, .int .u16 0] 44))).trans hB, hT⟩)
 obtain ⟨hc, hf⟩ := HR.out
 have hlt := HR.1
 clear HR hB T1
 obtain ⟨g0, g1, g2, g3, g4⟩ := hT.rowP a ha hr.out
 clear hT
 go_wp2
 refine bodyPost_ret (v := _) ?_ rfl ⟨rfl, ?_⟩
 ·simp [results, Tryz.results71, go_sem, hc, hlt]
 ·exact (((((O2.out.set (Nat.le_refl _) HN.out 0 _).set (Nat.le_refl _) HN.out 1 _).set (Nat.le_refl _) HN.out 2 _).set (Nat.le_refl _) HN.out 3 _).set (Nat.le_refl _) HN.out 4 _).alloc _

/-- The order that three bytes begin. -/
def decN (r : OpV) (b c : Nat) : OpV := if r.s = 2 then ⟨r.k, r.x, r.y, r.s, b⟩ else if r.s = 3 then ⟨r.k, r.x, r.y, r.s, (c : Int) * 256 + b⟩ else r
def decF (a b c : Nat) : OpV := if a = 203 then pfT b else decN (plT a) b c
theorem dec_c (tb : Nat) (a b c : Nat) (ha : a < 256) (hb : b < 256) (hc : c < 256) (r : OpV) (hr : decF a b c = r) (w : World) (T0 : TabAny w tb) : Calls Tryz.prog 71 #[.pointer (some ⟨tb, 0, none⟩), .int .u8 a, .int .u8 b, .int .u8 c] w fun e w' =>
  e = .returned (.agg #[.int .i64 (r).k, .int .i64 (r).x, .int .i64 (r).y, .int .i64 (r).s, .int .u16 (r).n]) ∧ Out tb w w' := by
 subst hr
 by_cases h : a = 203
 ·subst h
  exact decP tb b c hb _ rfl w T0
 ·have h203 : ((a : Int) == 203) = false := by
   rw [beq_eq_false_iff_ne]
   omega
  have e1 : decF a b c = decN (plT a) b c := if_neg h
  rw [e1]
  generalize hr : plT a = r
  by_cases h2 : r.s = 2
  ·have e2 : decN r b c = ⟨r.k, r.x, r.y, r.s, b⟩ := if_pos h2
   rw [e2]
   exact dec2 tb a b c ha hb hc h203 r hr (by simpa using h2) w T0
  ·by_cases h3 : r.s = 3
   ·have e2 : decN r b c = ⟨r.k, r.x, r.y, r.s, (c : Int) * 256 + b⟩ := (if_neg h2).trans (if_pos h3)
    rw [e2]
    exact dec3 tb a b c ha hb hc h203 r hr (by simpa using h2) (by simpa using h3) w T0
   ·have e2 : decN r b c = r := (if_neg h2).trans (if_neg h3)
    rw [e2]
    exact dec1 tb a b c ha hb hc h203 r hr (by simpa using h2) (by simpa using h3) w T0
end Go.Proofs.YtngdogldgcgnjaaGreat
