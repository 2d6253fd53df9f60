/-
  What ops.plain returns: for every world; digits as those of a byte. (Some texts in one.)
-/
import Derived.Test.YtngdogldgcgnjaaGreatZ03
import Derived.Test.YtngdogldgcgnjaaGreatZ04
import Derived.Laws.NewBlocks
set_option maxRecDepth 100000
set_option maxHeartbeats 8000000
namespace Go.Proofs.YtngdogldgcgnjaaGreat
open Go.ChangeShapes Go.WideShapes Go.ChangeAt Go.RowKit
theorem lq_7 (x y p q : Int) (h1 : 0 ≤ y) (h2 : y < 8) (w : World) : Calls Tryz.prog 126 #[.agg #[.int .i64 x, .int .i64 y, .int .i64 7, .int .i64 p, .int .i64 q]] w fun e w' =>
  e = .returned (.agg #[.int .i64 28, .int .i64 0, .int .i64 0, .int .i64 1, .int .u16 (8 * y)]) ∧ Below w.heap.size w w' := by
  have hw : IntKind.u16.wrap (8 * y) = 8 * y := by unfold IntKind.wrap; simp [IntKind.bits, IntKind.signed]; omega
  go_enter Tryz.func126, Tryz.ntmps126
  go_wp2_with (go_at_call 83; ((first | (with_reducible refine (op_0 _ _ _).mono ?_) | ((with_reducible refine (op_1n _ _ _ _ _ _ ?_).mono ?_); (· simp)) | ((with_reducible refine (op_2n _ _ _ _ _ _ _ ?_).mono ?_); (· simp))); rintro e w1 ⟨rfl, hb⟩; obtain ⟨hc, hf⟩ := bcell hb; have hz : w.heap.size + 1 < w1.heap.size := (by have := hb.size; simp at this; omega); have hy : w.heap.size < w1.heap.size := (by omega); have HB := Lib.hid hb; clear hb))
  refine bodyPost_ret (v := _) ?_ rfl ⟨rfl, ?_⟩
  ·simp [results, Tryz.results126, go_sem, hc, hz]
  ·clear hc hf
   have hbb := HB.out; clear HB; have h3 := set5 (via (own2 _ _ _) hbb) (w.heap.size + 1) (Nat.le_add_right _ _) (.int .i64 28) (.int .i64 0) (.int .i64 0) (.int .i64 1) (.int .u16 (8 * y))
   exact h3.alloc (by simp; omega) _
theorem fq_c (x y z p q : Int) (r : OpV) (hr : fqF y z p q = r) (hy1 : 0 ≤ y) (hy2 : y < 8) (hz1 : 0 ≤ z) (hz2 : z < 8) (_hp1 : 0 ≤ p) (_hp2 : p < 4) (w : World) : Calls Tryz.prog 125 #[.agg #[.int .i64 x, .int .i64 y, .int .i64 z, .int .i64 p, .int .i64 q]] w fun e w' =>
  e = .returned (.agg #[.int .i64 (r).k, .int .i64 (r).x, .int .i64 (r).y, .int .i64 (r).s, .int .u16 (r).n]) ∧ Below w.heap.size w w' := by
 have hv : z = 0 ∨ z = 1 ∨ z = 2 ∨ z = 3 ∨ z = 4 ∨ z = 5 ∨ z = 6 ∨ z = 7 := by omega
 rcases hv with rfl | rfl | rfl | rfl | rfl | rfl | rfl | rfl
 ·subst hr; exact fq_0 x y p q _ rfl hy1 hy2 w
 ·subst hr; exact fq_1 x y p q _ rfl w
 ·subst hr; exact fq_2 x y p q _ rfl w
 ·subst hr; exact fq_3 x y p q _ rfl w
 ·subst hr; exact fq_4 x y p q w
 ·subst hr; exact fq_5 x y p q w
 ·subst hr; exact fq_6 x y p q w
 ·subst hr; exact fq_7 x y p q _ rfl hy1 hy2 w
theorem lq_c (x y z p q : Int) (r : OpV) (hr : lqF y z p q = r) (hy1 : 0 ≤ y) (hy2 : y < 8) (hz1 : 0 ≤ z) (hz2 : z < 8) (hp1 : 0 ≤ p) (hp2 : p < 4) (w : World) : Calls Tryz.prog 126 #[.agg #[.int .i64 x, .int .i64 y, .int .i64 z, .int .i64 p, .int .i64 q]] w fun e w' =>
  e = .returned (.agg #[.int .i64 (r).k, .int .i64 (r).x, .int .i64 (r).y, .int .i64 (r).s, .int .u16 (r).n]) ∧ Below w.heap.size w w' := by
 have hv : z = 0 ∨ z = 1 ∨ z = 2 ∨ z = 3 ∨ z = 4 ∨ z = 5 ∨ z = 6 ∨ z = 7 := by omega
 rcases hv with rfl | rfl | rfl | rfl | rfl | rfl | rfl | rfl
 ·subst hr; exact lq_0 x y p q _ rfl hy1 hy2 w
 ·subst hr; exact lq_1 x y p q _ _ _ rfl rfl rfl hp1 hp2 w
 ·subst hr; exact lq_2 x y p q _ rfl hy1 hy2 w
 ·subst hr; exact lq_3 x y p q _ rfl hy1 hy2 w
 ·subst hr; exact lq_4 x y p q _ rfl hy1 hy2 w
 ·subst hr; exact lq_5 x y p q _ _ _ rfl rfl rfl hp1 hp2 w
 ·subst hr; exact lq_6 x y p q w
 ·subst hr; exact lq_7 x y p q hy1 hy2 w
def plF (x y z p q : Int) : OpV := if x = 0 then fqF y z p q else if x = 1 then (if y = 6 then (if z = 6 then ⟨3, 0, 0, 1, 0⟩ else ⟨7, y, z, 1, 0⟩) else ⟨7, y, z, 1, 0⟩) else if x = 2 then ⟨10, y, z, 1, 0⟩ else lqF y z p q
theorem pl_0 (y z p q : Int) (r : OpV) (hr0 : fqF y z p q = r) (hy1 : 0 ≤ y) (hy2 : y < 8) (hz1 : 0 ≤ z) (hz2 : z < 8) (hp1 : 0 ≤ p) (hp2 : p < 4) (w : World) : Calls Tryz.prog 103 #[.agg #[.int .i64 0, .int .i64 y, .int .i64 z, .int .i64 p, .int .i64 q]] w fun e w' =>
  e = .returned (.agg #[.int .i64 (r).k, .int .i64 (r).x, .int .i64 (r).y, .int .i64 (r).s, .int .u16 (r).n]) ∧ Below w.heap.size w w' := by
  have hr := Lib.hid hr0; clear hr0; go_enter Tryz.func103, Tryz.ntmps103
  go_wp2_with (go_at_call 125; ((with_reducible refine (fq_c _ _ _ _ _ r hr.out hy1 hy2 hz1 hz2 hp1 hp2 _).mono ?_); rintro e w1 ⟨rfl, hb⟩; obtain ⟨hc, hf⟩ := bcell hb; have HB := Lib.hid hb; clear hb))
  refine bodyPost_ret (v := _) ?_ rfl ⟨rfl, ?_⟩
  ·simp [results, Tryz.results103, go_sem, hc]
  ·clear hc hf
   have hbb := HB.out; clear HB
   with_reducible first | exact set5 (via (own2 _ _ _) hbb) _ (Nat.le_add_right _ _) _ _ _ _ _ | exact set5 (via (own3 _ _ _ _) hbb) _ (Nat.le_add_right _ _) _ _ _ _ _
theorem pl_3 (y z p q : Int) (r : OpV) (hr0 : lqF y z p q = r) (hy1 : 0 ≤ y) (hy2 : y < 8) (hz1 : 0 ≤ z) (hz2 : z < 8) (hp1 : 0 ≤ p) (hp2 : p < 4) (w : World) : Calls Tryz.prog 103 #[.agg #[.int .i64 3, .int .i64 y, .int .i64 z, .int .i64 p, .int .i64 q]] w fun e w' =>
  e = .returned (.agg #[.int .i64 (r).k, .int .i64 (r).x, .int .i64 (r).y, .int .i64 (r).s, .int .u16 (r).n]) ∧ Below w.heap.size w w' := by
  have hr := Lib.hid hr0; clear hr0; go_enter Tryz.func103, Tryz.ntmps103
  go_wp2_with (go_at_call 126; ((with_reducible refine (lq_c _ _ _ _ _ r hr.out hy1 hy2 hz1 hz2 hp1 hp2 _).mono ?_); rintro e w1 ⟨rfl, hb⟩; obtain ⟨hc, hf⟩ := bcell hb; have HB := Lib.hid hb; clear hb))
  refine bodyPost_ret (v := _) ?_ rfl ⟨rfl, ?_⟩
  ·simp [results, Tryz.results103, go_sem, hc]
  ·clear hc hf
   have hbb := HB.out; clear HB
   with_reducible first | exact set5 (via (own2 _ _ _) hbb) _ (Nat.le_add_right _ _) _ _ _ _ _ | exact set5 (via (own3 _ _ _ _) hbb) _ (Nat.le_add_right _ _) _ _ _ _ _
theorem pl_2 (y z p q : Int) (w : World) : Calls Tryz.prog 103 #[.agg #[.int .i64 2, .int .i64 y, .int .i64 z, .int .i64 p, .int .i64 q]] w fun e w' =>
  e = .returned (.agg #[.int .i64 10, .int .i64 y, .int .i64 z, .int .i64 1, .int .u16 0]) ∧ Below w.heap.size w w' := by
  go_enter Tryz.func103, Tryz.ntmps103
  go_wp2_with (go_at_call 83; ((first | (with_reducible refine (op_0 _ _ _).mono ?_) | ((with_reducible refine (op_1n _ _ _ _ _ _ ?_).mono ?_); (· simp)) | ((with_reducible refine (op_2n _ _ _ _ _ _ _ ?_).mono ?_); (· simp))); rintro e w1 ⟨rfl, hb⟩; obtain ⟨hc, hf⟩ := bcell hb; have HB := Lib.hid hb; clear hb))
  refine bodyPost_ret (v := _) ?_ rfl ⟨rfl, ?_⟩
  ·simp [results, Tryz.results103, go_sem, hc]
  ·clear hc hf
   have hbb := HB.out; clear HB
   with_reducible first | exact set5 (via (own2 _ _ _) hbb) _ (Nat.le_add_right _ _) _ _ _ _ _ | exact set5 (via (own3 _ _ _ _) hbb) _ (Nat.le_add_right _ _) _ _ _ _ _
theorem pl_1h (p q : Int) (w : World) : Calls Tryz.prog 103 #[.agg #[.int .i64 1, .int .i64 6, .int .i64 6, .int .i64 p, .int .i64 q]] w fun e w' =>
  e = .returned (.agg #[.int .i64 3, .int .i64 0, .int .i64 0, .int .i64 1, .int .u16 0]) ∧ Below w.heap.size w w' := by
  go_enter Tryz.func103, Tryz.ntmps103
  go_wp2_with (go_at_call 83; ((first | (with_reducible refine (op_0 _ _ _).mono ?_) | ((with_reducible refine (op_1n _ _ _ _ _ _ ?_).mono ?_); (· simp)) | ((with_reducible refine (op_2n _ _ _ _ _ _ _ ?_).mono ?_); (· simp))); rintro e w1 ⟨rfl, hb⟩; obtain ⟨hc, hf⟩ := bcell hb; have HB := Lib.hid hb; clear hb))
  refine bodyPost_ret (v := _) ?_ rfl ⟨rfl, ?_⟩
  ·simp [results, Tryz.results103, go_sem, hc]
  ·clear hc hf
   have hbb := HB.out; clear HB
   with_reducible first | exact set5 (via (own2 _ _ _) hbb) _ (Nat.le_add_right _ _) _ _ _ _ _ | exact set5 (via (own3 _ _ _ _) hbb) _ (Nat.le_add_right _ _) _ _ _ _ _
theorem pl_1y (y z p q : Int) (hy : (y == 6) = false) (w : World) : Calls Tryz.prog 103 #[.agg #[.int .i64 1, .int .i64 y, .int .i64 z, .int .i64 p, .int .i64 q]] w fun e w' =>
  e = .returned (.agg #[.int .i64 7, .int .i64 y, .int .i64 z, .int .i64 1, .int .u16 0]) ∧ Below w.heap.size w w' := by
  go_enter Tryz.func103, Tryz.ntmps103
  go_wp2_with (go_at_call 83; ((first | (with_reducible refine (op_0 _ _ _).mono ?_) | ((with_reducible refine (op_1n _ _ _ _ _ _ ?_).mono ?_); (· simp)) | ((with_reducible refine (op_2n _ _ _ _ _ _ _ ?_).mono ?_); (· simp))); rintro e w1 ⟨rfl, hb⟩; obtain ⟨hc, hf⟩ := bcell hb; have HB := Lib.hid hb; clear hb))
  refine bodyPost_ret (v := _) ?_ rfl ⟨rfl, ?_⟩
  ·simp [results, Tryz.results103, go_sem, hc]
  ·clear hc hf
   have hbb := HB.out; clear HB
   with_reducible first | exact set5 (via (own2 _ _ _) hbb) _ (Nat.le_add_right _ _) _ _ _ _ _ | exact set5 (via (own3 _ _ _ _) hbb) _ (Nat.le_add_right _ _) _ _ _ _ _
theorem pl_1z (z p q : Int) (hz : (z == 6) = false) (w : World) : Calls Tryz.prog 103 #[.agg #[.int .i64 1, .int .i64 6, .int .i64 z, .int .i64 p, .int .i64 q]] w fun e w' =>
  e = .returned (.agg #[.int .i64 7, .int .i64 6, .int .i64 z, .int .i64 1, .int .u16 0]) ∧ Below w.heap.size w w' := by
  go_enter Tryz.func103, Tryz.ntmps103
  go_wp2_with (go_at_call 83; ((first | (with_reducible refine (op_0 _ _ _).mono ?_) | ((with_reducible refine (op_1n _ _ _ _ _ _ ?_).mono ?_); (· simp)) | ((with_reducible refine (op_2n _ _ _ _ _ _ _ ?_).mono ?_); (· simp))); rintro e w1 ⟨rfl, hb⟩; obtain ⟨hc, hf⟩ := bcell hb; have HB := Lib.hid hb; clear hb))
  refine bodyPost_ret (v := _) ?_ rfl ⟨rfl, ?_⟩
  ·simp [results, Tryz.results103, go_sem, hc]
  ·clear hc hf
   have hbb := HB.out; clear HB
   with_reducible first | exact set5 (via (own2 _ _ _) hbb) _ (Nat.le_add_right _ _) _ _ _ _ _ | exact set5 (via (own3 _ _ _ _) hbb) _ (Nat.le_add_right _ _) _ _ _ _ _
theorem pl_c (x y z p q : Int) (r : OpV) (hr : plF x y z p q = r) (hx1 : 0 ≤ x) (hx2 : x < 4) (hy1 : 0 ≤ y) (hy2 : y < 8) (hz1 : 0 ≤ z) (hz2 : z < 8) (hp1 : 0 ≤ p) (hp2 : p < 4) (w : World) : Calls Tryz.prog 103 #[.agg #[.int .i64 x, .int .i64 y, .int .i64 z, .int .i64 p, .int .i64 q]] w fun e w' =>
  e = .returned (.agg #[.int .i64 (r).k, .int .i64 (r).x, .int .i64 (r).y, .int .i64 (r).s, .int .u16 (r).n]) ∧ Below w.heap.size w w' := by
 have hv : x = 0 ∨ x = 1 ∨ x = 2 ∨ x = 3 := by omega
 subst hr
 rcases hv with rfl | rfl | rfl | rfl
 ·exact pl_0 y z p q _ rfl hy1 hy2 hz1 hz2 hp1 hp2 w
 ·by_cases e : y = 6
  ·subst e
   by_cases e2 : z = 6
   ·subst e2; exact pl_1h p q w
   ·have e3 : plF 1 6 z p q = ⟨7, 6, z, 1, 0⟩ := by simp [plF, e2]
    rw [e3]; exact pl_1z z p q (by simpa using e2) w
  ·have e3 : plF 1 y z p q = ⟨7, y, z, 1, 0⟩ := by simp [plF, e]
   rw [e3]; exact pl_1y y z p q (by simpa using e) w
 ·exact pl_2 y z p q w
 ·exact pl_3 y z p q _ rfl hy1 hy2 hz1 hz2 hp1 hp2 w
end Go.Proofs.YtngdogldgcgnjaaGreat
namespace Go.Proofs.YtngdogldgcgnjaaGreat
open Go.ChangeShapes Go.WideShapes Go.ChangeAt Go.RowKit
structure But (b : Nat) (w w' : World) : Prop where
 os : w'.os = w.os
 tape : w'.tape = w.tape
 output : w'.output = w.output
 size : w.heap.size ≤ w'.heap.size
 block : ∀ k, k < w.heap.size → k ≠ b → w'.heap[k]? = w.heap[k]?
theorem But.refl (b : Nat) (w : World) : But b w w := ⟨rfl, rfl, rfl, Nat.le_refl _, fun _ _ _ => rfl⟩
theorem But.trans {b : Nat} {x y z : World} (h : But b x y) (k : But b y z) : But b x z :=
 ⟨k.os.trans h.os, k.tape.trans h.tape, k.output.trans h.output, Nat.le_trans h.size k.size, fun i hi hn => (k.block i (Nat.lt_of_lt_of_le hi h.size) hn).trans (h.block i hi hn)⟩
theorem But.of {b : Nat} {w w' : World} (h : Below w.heap.size w w') : But b w w' := ⟨h.os, h.tape, h.output, h.size, fun k hk _ => h.block k hk⟩
theorem But.setCell (b : Nat) (w : World) (o : Nat) (v : Value) : But b w (w.setCell ⟨b, o, none⟩ v) :=
 ⟨rfl, rfl, rfl, by simp [World.setCell], fun k _ hn => Below.heap_setCell _ _ _ _ hn⟩
theorem But.setCells (b : Nat) : ∀ (vs : List Value) (o : Nat) (w : World), But b w (w.setCells b o vs)
 | [], _, w => But.refl b w
 | v :: r, o, w => (But.setCell b w o v).trans (But.setCells b r (o + 1) _)
theorem But.below {b B : Nat} {w w' : World} (h : But b w w') (h1 : B ≤ b) (h2 : B ≤ w.heap.size) : Below B w w' :=
 ⟨h.os, h.tape, h.output, h.size, fun k hk => h.block k (by omega) (by omega)⟩
theorem But.drew {b : Nat} {w w' : World} (h : But b w w') : But b w w'.drew := ⟨h.os, h.tape, h.output, h.size, h.block⟩
theorem But.cell {b : Nat} {w w' : World} (h : But b w w') {p : Addr} (hp : p.block < w.heap.size) (hn : p.block ≠ b) : w'.cell? p = w.cell? p := World.cell?_of_block (w := w) (h.block p.block hp hn)
theorem But.frozen {b : Nat} {w w' : World} (h : But b w w') {p : Addr} (hp : p.block < w.heap.size) (hn : p.block ≠ b) : w'.frozen? p = w.frozen? p := World.frozen?_of_block (w := w) (h.block p.block hp hn)
theorem Has.but {w w' : World} {b c : Nat} {A : Array Value} (h : Has w c A) (hb : But b w w') (hn : c ≠ b) : Has w' c A :=
 ⟨Nat.lt_of_lt_of_le h.1 hb.size, fun o => (hb.cell (p := ⟨c, o, none⟩) h.1 hn).trans (h.2.1 o), fun o => (hb.frozen (p := ⟨c, o, none⟩) h.1 hn).trans (h.2.2 o)⟩
def opL (r : OpV) : List Value := [.int .i64 r.k, .int .i64 r.x, .int .i64 r.y, .int .i64 r.s, .int .u16 r.n]
def plT (n : Nat) : OpV := plF ((n : Int) / 64) ((n : Int) / 8 % 8) ((n : Int) % 8) ((n : Int) / 8 % 8 / 2) ((n : Int) / 8 % 8 % 2)
def pfT (n : Nat) : OpV := prefF ((n : Int) / 64) ((n : Int) / 8 % 8) ((n : Int) % 8)
structure Tab (w : World) (b : Nat) (d m : Int) (kp kf : Nat) : Prop where
 lt : b < w.heap.size
 some : ∀ o, o < 2563 → (w.cell? ⟨b, o, none⟩).isSome = true
 free : ∀ o, w.frozen? ⟨b, o, none⟩ = false
 word : w.cell? ⟨b, 0, none⟩ = .some (.int .u32 d)
 lock : w.cell? ⟨b, 1, none⟩ = .some (.int .i32 m)
 plain : ∀ i j, i < kp → (hj : j < 5) → w.cell? ⟨b, 3 + i * 5 + j, none⟩ = .some ((opL (plT i))[j]'hj)
 pref : ∀ i j, i < kf → (hj : j < 5) → w.cell? ⟨b, 1283 + i * 5 + j, none⟩ = .some ((opL (pfT i))[j]'hj)
theorem Tab.below {w w' : World} {b : Nat} {d m : Int} {kp kf : Nat} (h : Tab w b d m kp kf) (hb : Below w.heap.size w w') : Tab w' b d m kp kf := by
 obtain ⟨hc, hf⟩ := bcell hb
 exact ⟨Nat.lt_of_lt_of_le h.lt hb.size, fun o ho => by rw [hc b o h.lt]; exact h.some o ho, fun o => (hf b o h.lt).trans (h.free o), (hc b _ h.lt).trans h.word, (hc b _ h.lt).trans h.lock,
  fun i j hi hj => (hc b _ h.lt).trans (h.plain i j hi hj), fun i j hi hj => (hc b _ h.lt).trans (h.pref i j hi hj)⟩
theorem Tab.but {w w' : World} {b c : Nat} {d m : Int} {kp kf : Nat} (h : Tab w b d m kp kf) (hb : But c w w') (hn : b ≠ c) : Tab w' b d m kp kf := by
 have hc : ∀ o, w'.cell? ⟨b, o, none⟩ = w.cell? ⟨b, o, none⟩ := fun o => hb.cell (p := ⟨b, o, none⟩) h.lt hn
 have hf : ∀ o, w'.frozen? ⟨b, o, none⟩ = w.frozen? ⟨b, o, none⟩ := fun o => hb.frozen (p := ⟨b, o, none⟩) h.lt hn
 exact ⟨Nat.lt_of_lt_of_le h.lt hb.size, fun o ho => by rw [hc o]; exact h.some o ho, fun o => (hf o).trans (h.free o), (hc _).trans h.word, (hc _).trans h.lock,
  fun i j hi hj => (hc _).trans (h.plain i j hi hj), fun i j hi hj => (hc _).trans (h.pref i j hi hj)⟩
theorem setCells_some {w : World} {b o : Nat} {vs : List Value} {x : Nat} (hv : ∀ j, j < vs.length → (w.cell? ⟨b, o + j, none⟩).isSome = true) (h : (w.cell? ⟨b, x, none⟩).isSome = true) : ((w.setCells b o vs).cell? ⟨b, x, none⟩).isSome = true := by
 by_cases e : x < o ∨ o + vs.length ≤ x
 ·rw [World.cell?_setCells_out b vs o w ⟨b, x, none⟩ (fun _ _ => e)]; exact h
 ·obtain ⟨j, rfl⟩ : ∃ j, x = o + j := ⟨x - o, by omega⟩
  rw [World.cell?_setCells_in b vs o w hv j (by omega)]; rfl
theorem setCells_size (b : Nat) (vs : List Value) (o : Nat) (w : World) : w.heap.size ≤ (w.setCells b o vs).heap.size := (But.setCells b vs o w).size
theorem Tab.setP {w : World} {b : Nat} {d m : Int} {k kf : Nat} (h : Tab w b d m k kf) (hk : k < 256) : Tab (w.setCells b (3 + k * 5) (opL (plT k))) b d m (k + 1) kf := by
 have hl : (opL (plT k)).length = 5 := rfl
 have hv : ∀ j, j < (opL (plT k)).length → (w.cell? ⟨b, 3 + k * 5 + j, none⟩).isSome = true := fun j hj => h.some _ (by omega)
 refine ⟨Nat.lt_of_lt_of_le h.lt (setCells_size _ _ _ _), fun o ho => setCells_some hv (h.some o ho), fun o => by rw [World.frozen?_setCells]; exact h.free o, ?_, ?_, fun i j hi hj => ?_, fun i j hi hj => ?_⟩
 ·rw [World.cell?_setCells_out b _ _ w ⟨b, 0, none⟩ (fun _ _ => Or.inl (by show 0 < _; omega))]; exact h.word
 ·rw [World.cell?_setCells_out b _ _ w ⟨b, 1, none⟩ (fun _ _ => Or.inl (by show 1 < _; omega))]; exact h.lock
 ·by_cases e : i = k
  ·subst e
   exact World.cell?_setCells_in b _ _ w hv j (by omega)
  ·rw [World.cell?_setCells_out b _ _ w ⟨b, 3 + i * 5 + j, none⟩ (fun _ _ => Or.inl (by show 3 + i * 5 + j < _; omega))]
   exact h.plain i j (by omega) hj
 ·rw [World.cell?_setCells_out b _ _ w ⟨b, 1283 + i * 5 + j, none⟩ (fun _ _ => Or.inr (by show _ ≤ 1283 + i * 5 + j; omega))]
  exact h.pref i j hi hj
theorem Tab.setF {w : World} {b : Nat} {d m : Int} {kp k : Nat} (h : Tab w b d m kp k) (hk : k < 256) (hkp : kp ≤ 256) : Tab (w.setCells b (1283 + k * 5) (opL (pfT k))) b d m kp (k + 1) := by
 have hl : (opL (pfT k)).length = 5 := rfl
 have hv : ∀ j, j < (opL (pfT k)).length → (w.cell? ⟨b, 1283 + k * 5 + j, none⟩).isSome = true := fun j hj => h.some _ (by omega)
 refine ⟨Nat.lt_of_lt_of_le h.lt (setCells_size _ _ _ _), fun o ho => setCells_some hv (h.some o ho), fun o => by rw [World.frozen?_setCells]; exact h.free o, ?_, ?_, fun i j hi hj => ?_, fun i j hi hj => ?_⟩
 ·rw [World.cell?_setCells_out b _ _ w ⟨b, 0, none⟩ (fun _ _ => Or.inl (by show 0 < _; omega))]; exact h.word
 ·rw [World.cell?_setCells_out b _ _ w ⟨b, 1, none⟩ (fun _ _ => Or.inl (by show 1 < _; omega))]; exact h.lock
 ·rw [World.cell?_setCells_out b _ _ w ⟨b, 3 + i * 5 + j, none⟩ (fun _ _ => Or.inl (by show 3 + i * 5 + j < _; omega))]
  exact h.plain i j hi hj
 ·by_cases e : i = k
  ·subst e
   exact World.cell?_setCells_in b _ _ w hv j (by omega)
  ·rw [World.cell?_setCells_out b _ _ w ⟨b, 1283 + i * 5 + j, none⟩ (fun _ _ => Or.inl (by show 1283 + i * 5 + j < _; omega))]
   exact h.pref i j (by omega) hj
theorem Tab.setLock {w : World} {b : Nat} {d m : Int} {kp kf : Nat} (h : Tab w b d m kp kf) (m' : Int) : Tab (w.setCell ⟨b, 1, none⟩ (.int .i32 m')) b d m' kp kf := by
 have ho : ∀ o, o ≠ 1 → (w.setCell ⟨b, 1, none⟩ (.int .i32 m')).cell? ⟨b, o, none⟩ = w.cell? ⟨b, o, none⟩ := fun o hn => World.cell?_setCell_other _ _ _ _ (fun e => hn (by injection e with _ e; exact e.symm))
 refine ⟨by simpa using h.lt, fun o h2 => ?_, fun o => by simpa [go_sem] using h.free o, by rw [ho 0 (by decide)]; exact h.word, World.cell?_setCell_same w _ _ h.lock, fun i j hi hj => by rw [ho _ (by omega)]; exact h.plain i j hi hj, fun i j hi hj => by rw [ho _ (by omega)]; exact h.pref i j hi hj⟩
 by_cases e : o = 1
 ·subst e; rw [World.cell?_setCell_same w _ _ h.lock]; rfl
 ·rw [ho o e]; exact h.some o h2
theorem Tab.setWord {w : World} {b : Nat} {d m : Int} {kp kf : Nat} (h : Tab w b d m kp kf) (d' : Int) : Tab (w.setCell ⟨b, 0, none⟩ (.int .u32 d')) b d' m kp kf := by
 have ho : ∀ o, o ≠ 0 → (w.setCell ⟨b, 0, none⟩ (.int .u32 d')).cell? ⟨b, o, none⟩ = w.cell? ⟨b, o, none⟩ := fun o hn => World.cell?_setCell_other _ _ _ _ (fun e => hn (by injection e with _ e; exact e.symm))
 refine ⟨by simpa using h.lt, fun o h2 => ?_, fun o => by simpa [go_sem] using h.free o, World.cell?_setCell_same w _ _ h.word, by rw [ho 1 (by decide)]; exact h.lock, fun i j hi hj => by rw [ho _ (by omega)]; exact h.plain i j hi hj, fun i j hi hj => by rw [ho _ (by omega)]; exact h.pref i j hi hj⟩
 by_cases e : o = 0
 ·subst e; rw [World.cell?_setCell_same w _ _ h.word]; rfl
 ·rw [ho o e]; exact h.some o h2
end Go.Proofs.YtngdogldgcgnjaaGreat
