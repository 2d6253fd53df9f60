/-
  The map of mappers: what it holds, and what is found in it, for every world; no condition.
-/
import Derived.Test.YtifhajdcfjiaiaaDoorBase
import Derived.Test.YtifhajdcfjiaiaaDoorPure
import Derived.Maps.Own
namespace Go.Proofs.YtifhajdcfjiaiaaDoor
open Go.ChangeShapes Go.WideShapes Go.ChangeAt Go.RowKit Go.ChangeMaps
set_option linter.unusedVariables false
set_option linter.unusedSimpArgs false
set_option maxRecDepth 100000
def HV.cells (h : HV) : Array Value := #[.string h.t, .int .i64 h.k, .bool h.c, .bool h.b, .int .i64 h.n, .int .i64 h.r, .bool h.w]
def hdr (k : Int) (c b : Bool) : HV := ⟨ByteArray.empty, k, c, b, 0, 0, false⟩
def ent (i : Nat) (x : Int) (h : HV) : MapEntry := ⟨.int .u8 x, .agg h.cells, i⟩
def MapAt (w : World) (b : Nat) (es : List MapEntry) : Prop := w.heap[b]? = some (.map es.toArray es.length)
theorem u8_wf {a : Int} (h0 : 0 ≤ a) (h1 : a < 256) : (Lit.int .u8 a).wf = true := by
  simp [Lit.wf, IntKind.min, IntKind.max, IntKind.bits, IntKind.signed]; omega
theorem chk_key (w : World) (m : Bool) (k : Int) (h0 : 0 ≤ k) (h1 : k < 256) : (Instr.checkKey m 10000 5 (.int .u8 k)).run Tryd.prog w = .ok () w :=
  (Maps.int_keyed Tryd.underlying5).check w m (Maps.keyOf_int_mk Tryd.underlying5 (u8_wf h0 h1))
theorem find_key (w : World) (k : Int) (es : List MapEntry) (r : Option (Nat × Value)) (hf : Instr.findNow (.int .u8) (.int .u8 k) es 0 = some r) : (Instr.findKey 5 (.int .u8 k) es).run Tryd.prog w = .ok r w := by
  simp [Instr.findKey, run_underlying Tryd.underlying5, hf]
def put1 (w : World) (b : Nat) (es : List MapEntry) : World := setBlock w b (.map es.toArray es.length)
theorem ins_run (w : World) (b : Nat) (es : List MapEntry) (i : Nat) (k : Int) (h : HV) (h0 : 0 ≤ k) (h1 : k < 256) (hb : MapAt w b es) (hi : es.length = i) (hf : Instr.findNow (.int .u8) (.int .u8 k) es 0 = some none) :
    (Instr.mapUpdate 49 (.map (some b)) (.int .u8 k) (.agg h.cells)).run Tryd.prog w = .ok () (put1 w b (es ++ [ent i k h])) := by
  subst hi
  unfold MapAt at hb
  simp [Instr.mapUpdate, run_underlying Tryd.underlying49, MapKept.run_getObj_map hb, chk_key w false k h0 h1, find_key w k es _ hf, MapKept.run_setObj_map _ hb, Result.andThen, setBlock, put1, ent]
theorem put1_at {w : World} {b : Nat} {es : List MapEntry} (hb : MapAt w b es) (es' : List MapEntry) : MapAt (put1 w b es') b es' := heap_setBlock_same hb _
theorem put1_grown {w : World} {b : Nat} {es : List MapEntry} (hb : MapAt w b es) (es' : List MapEntry) : w.grownBy (put1 w b es') (some b) :=
  ⟨rfl, rfl, rfl, by simp [put1, setBlock], fun i _ hi => heap_setBlock_other hb _ (fun e => hi (by rw [e]))⟩
theorem put1_below {w0 w : World} {b : Nat} {es : List MapEntry} (h : Below w0.heap.size w0 w) (hl : w0.heap.size ≤ b) (hb : MapAt w b es) (es' : List MapEntry) : Below w0.heap.size w0 (put1 w b es') :=
  h.grown (put1_grown hb es') h.size (fun j hj => by cases hj; exact hl)
def mapL : List MapEntry := [ent 0 0 (hdr 0 false false), ent 1 8 (hdr 0 false false), ent 2 9 (hdr 0 false true), ent 3 1 (hdr 1 false false), ent 4 2 (hdr 1 false false), ent 5 3 (hdr 1 false true), ent 6 5 (hdr 2 false false), ent 7 6 (hdr 2 false true), ent 8 15 (hdr 3 true true), ent 9 16 (hdr 3 true true), ent 10 17 (hdr 3 false false), ent 11 18 (hdr 3 false false), ent 12 19 (hdr 3 false true), ent 13 25 (hdr 5 false false), ent 14 26 (hdr 5 false false), ent 15 27 (hdr 5 false true), ent 16 28 (hdr 5 false false), ent 17 29 (hdr 5 false false), ent 18 30 (hdr 5 false true)]
set_option maxHeartbeats 2000000 in
theorem mappers_c (w : World) : Calls Tryd.prog 19 #[] w fun e w' => e = .returned (.map (some w.heap.size)) ∧ MapAt w' w.heap.size mapL ∧ Below w.heap.size w w' := by
  have hmm := @run_makeMap Tryd.prog
  have m0 : MapAt (w.alloc (.map #[] 0)) w.heap.size [] := (MapKept.heap_alloc w _).1
  have M0 := Lib.hid m0
  clear m0
  have B0 := Lib.hid (own1 w (.map #[] 0))
  go_enter Tryd.func19, Tryd.ntmps19
  go_wp2
  clear hmm
  generalize w.alloc (.map #[] 0) = w0 at M0 B0 ⊢
  generalize hb : w.heap.size = b at M0 ⊢
  have LB := Lib.hid (show w.heap.size ≤ b by omega)
  have HB := Lib.hid hb
  clear hb
  rw [show (Instr.mapUpdate 49 (.map (some b)) (.int .u8 0) (.agg #[.string { data := #[] }, .int .i64 0, .bool false, .bool false, .int .i64 0, .int .i64 0, .bool false])).run Tryd.prog w0 = _ from ins_run w0 b [] 0 0 (hdr 0 false false) (by decide) (by decide) M0.out rfl (by rfl)]
  have M1 := Lib.hid (put1_at M0.out ([] ++ [ent 0 0 (hdr 0 false false)]))
  have B1 := Lib.hid (put1_below B0.out LB.out M0.out ([] ++ [ent 0 0 (hdr 0 false false)]))
  generalize put1 w0 b ([] ++ [ent 0 0 (hdr 0 false false)]) = w1 at M1 B1 ⊢
  simp only [List.cons_append, List.nil_append] at M1
  clear M0 B0
  simp only [Result.andThen]
  go_wp2
  rw [show (Instr.mapUpdate 49 (.map (some b)) (.int .u8 8) (.agg #[.string { data := #[] }, .int .i64 0, .bool false, .bool false, .int .i64 0, .int .i64 0, .bool false])).run Tryd.prog w1 = _ from ins_run w1 b [ent 0 0 (hdr 0 false false)] 1 8 (hdr 0 false false) (by decide) (by decide) M1.out rfl (by rfl)]
  have M2 := Lib.hid (put1_at M1.out ([ent 0 0 (hdr 0 false false)] ++ [ent 1 8 (hdr 0 false false)]))
  have B2 := Lib.hid (put1_below B1.out LB.out M1.out ([ent 0 0 (hdr 0 false false)] ++ [ent 1 8 (hdr 0 false false)]))
  generalize put1 w1 b ([ent 0 0 (hdr 0 false false)] ++ [ent 1 8 (hdr 0 false false)]) = w2 at M2 B2 ⊢
  simp only [List.cons_append, List.nil_append] at M2
  clear M1 B1
  simp only [Result.andThen]
  go_wp2
  rw [show (Instr.mapUpdate 49 (.map (some b)) (.int .u8 9) (.agg #[.string { data := #[] }, .int .i64 0, .bool false, .bool true, .int .i64 0, .int .i64 0, .bool false])).run Tryd.prog w2 = _ from ins_run w2 b [ent 0 0 (hdr 0 false false), ent 1 8 (hdr 0 false false)] 2 9 (hdr 0 false true) (by decide) (by decide) M2.out rfl (by rfl)]
  have M3 := Lib.hid (put1_at M2.out ([ent 0 0 (hdr 0 false false), ent 1 8 (hdr 0 false false)] ++ [ent 2 9 (hdr 0 false true)]))
  have B3 := Lib.hid (put1_below B2.out LB.out M2.out ([ent 0 0 (hdr 0 false false), ent 1 8 (hdr 0 false false)] ++ [ent 2 9 (hdr 0 false true)]))
  generalize put1 w2 b ([ent 0 0 (hdr 0 false false), ent 1 8 (hdr 0 false false)] ++ [ent 2 9 (hdr 0 false true)]) = w3 at M3 B3 ⊢
  simp only [List.cons_append, List.nil_append] at M3
  clear M2 B2
  simp only [Result.andThen]
  go_wp2
  rw [show (Instr.mapUpdate 49 (.map (some b)) (.int .u8 1) (.agg #[.string { data := #[] }, .int .i64 1, .bool false, .bool false, .int .i64 0, .int .i64 0, .bool false])).run Tryd.prog w3 = _ from ins_run w3 b [ent 0 0 (hdr 0 false false), ent 1 8 (hdr 0 false false), ent 2 9 (hdr 0 false true)] 3 1 (hdr 1 false false) (by decide) (by decide) M3.out rfl (by rfl)]
  have M4 := Lib.hid (put1_at M3.out ([ent 0 0 (hdr 0 false false), ent 1 8 (hdr 0 false false), ent 2 9 (hdr 0 false true)] ++ [ent 3 1 (hdr 1 false false)]))
  have B4 := Lib.hid (put1_below B3.out LB.out M3.out ([ent 0 0 (hdr 0 false false), ent 1 8 (hdr 0 false false), ent 2 9 (hdr 0 false true)] ++ [ent 3 1 (hdr 1 false false)]))
  generalize put1 w3 b ([ent 0 0 (hdr 0 false false), ent 1 8 (hdr 0 false false), ent 2 9 (hdr 0 false true)] ++ [ent 3 1 (hdr 1 false false)]) = w4 at M4 B4 ⊢
  simp only [List.cons_append, List.nil_append] at M4
  clear M3 B3
  simp only [Result.andThen]
  go_wp2
  rw [show (Instr.mapUpdate 49 (.map (some b)) (.int .u8 2) (.agg #[.string { data := #[] }, .int .i64 1, .bool false, .bool false, .int .i64 0, .int .i64 0, .bool false])).run Tryd.prog w4 = _ from ins_run w4 b [ent 0 0 (hdr 0 false false), ent 1 8 (hdr 0 false false), ent 2 9 (hdr 0 false true), ent 3 1 (hdr 1 false false)] 4 2 (hdr 1 false false) (by decide) (by decide) M4.out rfl (by rfl)]
  have M5 := Lib.hid (put1_at M4.out ([ent 0 0 (hdr 0 false false), ent 1 8 (hdr 0 false false), ent 2 9 (hdr 0 false true), ent 3 1 (hdr 1 false false)] ++ [ent 4 2 (hdr 1 false false)]))
  have B5 := Lib.hid (put1_below B4.out LB.out M4.out ([ent 0 0 (hdr 0 false false), ent 1 8 (hdr 0 false false), ent 2 9 (hdr 0 false true), ent 3 1 (hdr 1 false false)] ++ [ent 4 2 (hdr 1 false false)]))
  generalize put1 w4 b ([ent 0 0 (hdr 0 false false), ent 1 8 (hdr 0 false false), ent 2 9 (hdr 0 false true), ent 3 1 (hdr 1 false false)] ++ [ent 4 2 (hdr 1 false false)]) = w5 at M5 B5 ⊢
  simp only [List.cons_append, List.nil_append] at M5
  clear M4 B4
  simp only [Result.andThen]
  go_wp2
  rw [show (Instr.mapUpdate 49 (.map (some b)) (.int .u8 3) (.agg #[.string { data := #[] }, .int .i64 1, .bool false, .bool true, .int .i64 0, .int .i64 0, .bool false])).run Tryd.prog w5 = _ from ins_run w5 b [ent 0 0 (hdr 0 false false), ent 1 8 (hdr 0 false false), ent 2 9 (hdr 0 false true), ent 3 1 (hdr 1 false false), ent 4 2 (hdr 1 false false)] 5 3 (hdr 1 false true) (by decide) (by decide) M5.out rfl (by rfl)]
  have M6 := Lib.hid (put1_at M5.out ([ent 0 0 (hdr 0 false false), ent 1 8 (hdr 0 false false), ent 2 9 (hdr 0 false true), ent 3 1 (hdr 1 false false), ent 4 2 (hdr 1 false false)] ++ [ent 5 3 (hdr 1 false true)]))
  have B6 := Lib.hid (put1_below B5.out LB.out M5.out ([ent 0 0 (hdr 0 false false), ent 1 8 (hdr 0 false false), ent 2 9 (hdr 0 false true), ent 3 1 (hdr 1 false false), ent 4 2 (hdr 1 false false)] ++ [ent 5 3 (hdr 1 false true)]))
  generalize put1 w5 b ([ent 0 0 (hdr 0 false false), ent 1 8 (hdr 0 false false), ent 2 9 (hdr 0 false true), ent 3 1 (hdr 1 false false), ent 4 2 (hdr 1 false false)] ++ [ent 5 3 (hdr 1 false true)]) = w6 at M6 B6 ⊢
  simp only [List.cons_append, List.nil_append] at M6
  clear M5 B5
  simp only [Result.andThen]
  go_wp2
  rw [show (Instr.mapUpdate 49 (.map (some b)) (.int .u8 5) (.agg #[.string { data := #[] }, .int .i64 2, .bool false, .bool false, .int .i64 0, .int .i64 0, .bool false])).run Tryd.prog w6 = _ from ins_run w6 b [ent 0 0 (hdr 0 false false), ent 1 8 (hdr 0 false false), ent 2 9 (hdr 0 false true), ent 3 1 (hdr 1 false false), ent 4 2 (hdr 1 false false), ent 5 3 (hdr 1 false true)] 6 5 (hdr 2 false false) (by decide) (by decide) M6.out rfl (by rfl)]
  have M7 := Lib.hid (put1_at M6.out ([ent 0 0 (hdr 0 false false), ent 1 8 (hdr 0 false false), ent 2 9 (hdr 0 false true), ent 3 1 (hdr 1 false false), ent 4 2 (hdr 1 false false), ent 5 3 (hdr 1 false true)] ++ [ent 6 5 (hdr 2 false false)]))
  have B7 := Lib.hid (put1_below B6.out LB.out M6.out ([ent 0 0 (hdr 0 false false), ent 1 8 (hdr 0 false false), ent 2 9 (hdr 0 false true), ent 3 1 (hdr 1 false false), ent 4 2 (hdr 1 false false), ent 5 3 (hdr 1 false true)] ++ [ent 6 5 (hdr 2 false false)]))
  generalize put1 w6 b ([ent 0 0 (hdr 0 false false), ent 1 8 (hdr 0 false false), ent 2 9 (hdr 0 false true), ent 3 1 (hdr 1 false false), ent 4 2 (hdr 1 false false), ent 5 3 (hdr 1 false true)] ++ [ent 6 5 (hdr 2 false false)]) = w7 at M7 B7 ⊢
  simp only [List.cons_append, List.nil_append] at M7
  clear M6 B6
  simp only [Result.andThen]
  go_wp2
  rw [show (Instr.mapUpdate 49 (.map (some b)) (.int .u8 6) (.agg #[.string { data := #[] }, .int .i64 2, .bool false, .bool true, .int .i64 0, .int .i64 0, .bool false])).run Tryd.prog w7 = _ from ins_run w7 b [ent 0 0 (hdr 0 false false), ent 1 8 (hdr 0 false false), ent 2 9 (hdr 0 false true), ent 3 1 (hdr 1 false false), ent 4 2 (hdr 1 false false), ent 5 3 (hdr 1 false true), ent 6 5 (hdr 2 false false)] 7 6 (hdr 2 false true) (by decide) (by decide) M7.out rfl (by rfl)]
  have M8 := Lib.hid (put1_at M7.out ([ent 0 0 (hdr 0 false false), ent 1 8 (hdr 0 false false), ent 2 9 (hdr 0 false true), ent 3 1 (hdr 1 false false), ent 4 2 (hdr 1 false false), ent 5 3 (hdr 1 false true), ent 6 5 (hdr 2 false false)] ++ [ent 7 6 (hdr 2 false true)]))
  have B8 := Lib.hid (put1_below B7.out LB.out M7.out ([ent 0 0 (hdr 0 false false), ent 1 8 (hdr 0 false false), ent 2 9 (hdr 0 false true), ent 3 1 (hdr 1 false false), ent 4 2 (hdr 1 false false), ent 5 3 (hdr 1 false true), ent 6 5 (hdr 2 false false)] ++ [ent 7 6 (hdr 2 false true)]))
  generalize put1 w7 b ([ent 0 0 (hdr 0 false false), ent 1 8 (hdr 0 false false), ent 2 9 (hdr 0 false true), ent 3 1 (hdr 1 false false), ent 4 2 (hdr 1 false false), ent 5 3 (hdr 1 false true), ent 6 5 (hdr 2 false false)] ++ [ent 7 6 (hdr 2 false true)]) = w8 at M8 B8 ⊢
  simp only [List.cons_append, List.nil_append] at M8
  clear M7 B7
  simp only [Result.andThen]
  go_wp2
  rw [show (Instr.mapUpdate 49 (.map (some b)) (.int .u8 15) (.agg #[.string { data := #[] }, .int .i64 3, .bool true, .bool true, .int .i64 0, .int .i64 0, .bool false])).run Tryd.prog w8 = _ from ins_run w8 b [ent 0 0 (hdr 0 false false), ent 1 8 (hdr 0 false false), ent 2 9 (hdr 0 false true), ent 3 1 (hdr 1 false false), ent 4 2 (hdr 1 false false), ent 5 3 (hdr 1 false true), ent 6 5 (hdr 2 false false), ent 7 6 (hdr 2 false true)] 8 15 (hdr 3 true true) (by decide) (by decide) M8.out rfl (by rfl)]
  have M9 := Lib.hid (put1_at M8.out ([ent 0 0 (hdr 0 false false), ent 1 8 (hdr 0 false false), ent 2 9 (hdr 0 false true), ent 3 1 (hdr 1 false false), ent 4 2 (hdr 1 false false), ent 5 3 (hdr 1 false true), ent 6 5 (hdr 2 false false), ent 7 6 (hdr 2 false true)] ++ [ent 8 15 (hdr 3 true true)]))
  have B9 := Lib.hid (put1_below B8.out LB.out M8.out ([ent 0 0 (hdr 0 false false), ent 1 8 (hdr 0 false false), ent 2 9 (hdr 0 false true), ent 3 1 (hdr 1 false false), ent 4 2 (hdr 1 false false), ent 5 3 (hdr 1 false true), ent 6 5 (hdr 2 false false), ent 7 6 (hdr 2 false true)] ++ [ent 8 15 (hdr 3 true true)]))
  generalize put1 w8 b ([ent 0 0 (hdr 0 false false), ent 1 8 (hdr 0 false false), ent 2 9 (hdr 0 false true), ent 3 1 (hdr 1 false false), ent 4 2 (hdr 1 false false), ent 5 3 (hdr 1 false true), ent 6 5 (hdr 2 false false), ent 7 6 (hdr 2 false true)] ++ [ent 8 15 (hdr 3 true true)]) = w9 at M9 B9 ⊢
  simp only [List.cons_append, List.nil_append] at M9
  clear M8 B8
  simp only [Result.andThen]
  go_wp2
  rw [show (Instr.mapUpdate 49 (.map (some b)) (.int .u8 16) (.agg #[.string { data := #[] }, .int .i64 3, .bool true, .bool true, .int .i64 0, .int .i64 0, .bool false])).run Tryd.prog w9 = _ from ins_run w9 b [ent 0 0 (hdr 0 false false), ent 1 8 (hdr 0 false false), ent 2 9 (hdr 0 false true), ent 3 1 (hdr 1 false false), ent 4 2 (hdr 1 false false), ent 5 3 (hdr 1 false true), ent 6 5 (hdr 2 false false), ent 7 6 (hdr 2 false true), ent 8 15 (hdr 3 true true)] 9 16 (hdr 3 true true) (by decide) (by decide) M9.out rfl (by rfl)]
  have M10 := Lib.hid (put1_at M9.out ([ent 0 0 (hdr 0 false false), ent 1 8 (hdr 0 false false), ent 2 9 (hdr 0 false true), ent 3 1 (hdr 1 false false), ent 4 2 (hdr 1 false false), ent 5 3 (hdr 1 false true), ent 6 5 (hdr 2 false false), ent 7 6 (hdr 2 false true), ent 8 15 (hdr 3 true true)] ++ [ent 9 16 (hdr 3 true true)]))
  have B10 := Lib.hid (put1_below B9.out LB.out M9.out ([ent 0 0 (hdr 0 false false), ent 1 8 (hdr 0 false false), ent 2 9 (hdr 0 false true), ent 3 1 (hdr 1 false false), ent 4 2 (hdr 1 false false), ent 5 3 (hdr 1 false true), ent 6 5 (hdr 2 false false), ent 7 6 (hdr 2 false true), ent 8 15 (hdr 3 true true)] ++ [ent 9 16 (hdr 3 true true)]))
  generalize put1 w9 b ([ent 0 0 (hdr 0 false false), ent 1 8 (hdr 0 false false), ent 2 9 (hdr 0 false true), ent 3 1 (hdr 1 false false), ent 4 2 (hdr 1 false false), ent 5 3 (hdr 1 false true), ent 6 5 (hdr 2 false false), ent 7 6 (hdr 2 false true), ent 8 15 (hdr 3 true true)] ++ [ent 9 16 (hdr 3 true true)]) = w10 at M10 B10 ⊢
  simp only [List.cons_append, List.nil_append] at M10
  clear M9 B9
  simp only [Result.andThen]
  go_wp2
  rw [show (Instr.mapUpdate 49 (.map (some b)) (.int .u8 17) (.agg #[.string { data := #[] }, .int .i64 3, .bool false, .bool false, .int .i64 0, .int .i64 0, .bool false])).run Tryd.prog w10 = _ from ins_run w10 b [ent 0 0 (hdr 0 false false), ent 1 8 (hdr 0 false false), ent 2 9 (hdr 0 false true), ent 3 1 (hdr 1 false false), ent 4 2 (hdr 1 false false), ent 5 3 (hdr 1 false true), ent 6 5 (hdr 2 false false), ent 7 6 (hdr 2 false true), ent 8 15 (hdr 3 true true), ent 9 16 (hdr 3 true true)] 10 17 (hdr 3 false false) (by decide) (by decide) M10.out rfl (by rfl)]
  have M11 := Lib.hid (put1_at M10.out ([ent 0 0 (hdr 0 false false), ent 1 8 (hdr 0 false false), ent 2 9 (hdr 0 false true), ent 3 1 (hdr 1 false false), ent 4 2 (hdr 1 false false), ent 5 3 (hdr 1 false true), ent 6 5 (hdr 2 false false), ent 7 6 (hdr 2 false true), ent 8 15 (hdr 3 true true), ent 9 16 (hdr 3 true true)] ++ [ent 10 17 (hdr 3 false false)]))
  have B11 := Lib.hid (put1_below B10.out LB.out M10.out ([ent 0 0 (hdr 0 false false), ent 1 8 (hdr 0 false false), ent 2 9 (hdr 0 false true), ent 3 1 (hdr 1 false false), ent 4 2 (hdr 1 false false), ent 5 3 (hdr 1 false true), ent 6 5 (hdr 2 false false), ent 7 6 (hdr 2 false true), ent 8 15 (hdr 3 true true), ent 9 16 (hdr 3 true true)] ++ [ent 10 17 (hdr 3 false false)]))
  generalize put1 w10 b ([ent 0 0 (hdr 0 false false), ent 1 8 (hdr 0 false false), ent 2 9 (hdr 0 false true), ent 3 1 (hdr 1 false false), ent 4 2 (hdr 1 false false), ent 5 3 (hdr 1 false true), ent 6 5 (hdr 2 false false), ent 7 6 (hdr 2 false true), ent 8 15 (hdr 3 true true), ent 9 16 (hdr 3 true true)] ++ [ent 10 17 (hdr 3 false false)]) = w11 at M11 B11 ⊢
  simp only [List.cons_append, List.nil_append] at M11
  clear M10 B10
  simp only [Result.andThen]
  go_wp2
  rw [show (Instr.mapUpdate 49 (.map (some b)) (.int .u8 18) (.agg #[.string { data := #[] }, .int .i64 3, .bool false, .bool false, .int .i64 0, .int .i64 0, .bool false])).run Tryd.prog w11 = _ from ins_run w11 b [ent 0 0 (hdr 0 false false), ent 1 8 (hdr 0 false false), ent 2 9 (hdr 0 false true), ent 3 1 (hdr 1 false false), ent 4 2 (hdr 1 false false), ent 5 3 (hdr 1 false true), ent 6 5 (hdr 2 false false), ent 7 6 (hdr 2 false true), ent 8 15 (hdr 3 true true), ent 9 16 (hdr 3 true true), ent 10 17 (hdr 3 false false)] 11 18 (hdr 3 false false) (by decide) (by decide) M11.out rfl (by rfl)]
  have M12 := Lib.hid (put1_at M11.out ([ent 0 0 (hdr 0 false false), ent 1 8 (hdr 0 false false), ent 2 9 (hdr 0 false true), ent 3 1 (hdr 1 false false), ent 4 2 (hdr 1 false false), ent 5 3 (hdr 1 false true), ent 6 5 (hdr 2 false false), ent 7 6 (hdr 2 false true), ent 8 15 (hdr 3 true true), ent 9 16 (hdr 3 true true), ent 10 17 (hdr 3 false false)] ++ [ent 11 18 (hdr 3 false false)]))
  have B12 := Lib.hid (put1_below B11.out LB.out M11.out ([ent 0 0 (hdr 0 false false), ent 1 8 (hdr 0 false false), ent 2 9 (hdr 0 false true), ent 3 1 (hdr 1 false false), ent 4 2 (hdr 1 false false), ent 5 3 (hdr 1 false true), ent 6 5 (hdr 2 false false), ent 7 6 (hdr 2 false true), ent 8 15 (hdr 3 true true), ent 9 16 (hdr 3 true true), ent 10 17 (hdr 3 false false)] ++ [ent 11 18 (hdr 3 false false)]))
  generalize put1 w11 b ([ent 0 0 (hdr 0 false false), ent 1 8 (hdr 0 false false), ent 2 9 (hdr 0 false true), ent 3 1 (hdr 1 false false), ent 4 2 (hdr 1 false false), ent 5 3 (hdr 1 false true), ent 6 5 (hdr 2 false false), ent 7 6 (hdr 2 false true), ent 8 15 (hdr 3 true true), ent 9 16 (hdr 3 true true), ent 10 17 (hdr 3 false false)] ++ [ent 11 18 (hdr 3 false false)]) = w12 at M12 B12 ⊢
  simp only [List.cons_append, List.nil_append] at M12
  clear M11 B11
  simp only [Result.andThen]
  go_wp2
  rw [show (Instr.mapUpdate 49 (.map (some b)) (.int .u8 19) (.agg #[.string { data := #[] }, .int .i64 3, .bool false, .bool true, .int .i64 0, .int .i64 0, .bool false])).run Tryd.prog w12 = _ from ins_run w12 b [ent 0 0 (hdr 0 false false), ent 1 8 (hdr 0 false false), ent 2 9 (hdr 0 false true), ent 3 1 (hdr 1 false false), ent 4 2 (hdr 1 false false), ent 5 3 (hdr 1 false true), ent 6 5 (hdr 2 false false), ent 7 6 (hdr 2 false true), ent 8 15 (hdr 3 true true), ent 9 16 (hdr 3 true true), ent 10 17 (hdr 3 false false), ent 11 18 (hdr 3 false false)] 12 19 (hdr 3 false true) (by decide) (by decide) M12.out rfl (by rfl)]
  have M13 := Lib.hid (put1_at M12.out ([ent 0 0 (hdr 0 false false), ent 1 8 (hdr 0 false false), ent 2 9 (hdr 0 false true), ent 3 1 (hdr 1 false false), ent 4 2 (hdr 1 false false), ent 5 3 (hdr 1 false true), ent 6 5 (hdr 2 false false), ent 7 6 (hdr 2 false true), ent 8 15 (hdr 3 true true), ent 9 16 (hdr 3 true true), ent 10 17 (hdr 3 false false), ent 11 18 (hdr 3 false false)] ++ [ent 12 19 (hdr 3 false true)]))
  have B13 := Lib.hid (put1_below B12.out LB.out M12.out ([ent 0 0 (hdr 0 false false), ent 1 8 (hdr 0 false false), ent 2 9 (hdr 0 false true), ent 3 1 (hdr 1 false false), ent 4 2 (hdr 1 false false), ent 5 3 (hdr 1 false true), ent 6 5 (hdr 2 false false), ent 7 6 (hdr 2 false true), ent 8 15 (hdr 3 true true), ent 9 16 (hdr 3 true true), ent 10 17 (hdr 3 false false), ent 11 18 (hdr 3 false false)] ++ [ent 12 19 (hdr 3 false true)]))
  generalize put1 w12 b ([ent 0 0 (hdr 0 false false), ent 1 8 (hdr 0 false false), ent 2 9 (hdr 0 false true), ent 3 1 (hdr 1 false false), ent 4 2 (hdr 1 false false), ent 5 3 (hdr 1 false true), ent 6 5 (hdr 2 false false), ent 7 6 (hdr 2 false true), ent 8 15 (hdr 3 true true), ent 9 16 (hdr 3 true true), ent 10 17 (hdr 3 false false), ent 11 18 (hdr 3 false false)] ++ [ent 12 19 (hdr 3 false true)]) = w13 at M13 B13 ⊢
  simp only [List.cons_append, List.nil_append] at M13
  clear M12 B12
  simp only [Result.andThen]
  go_wp2
  rw [show (Instr.mapUpdate 49 (.map (some b)) (.int .u8 25) (.agg #[.string { data := #[] }, .int .i64 5, .bool false, .bool false, .int .i64 0, .int .i64 0, .bool false])).run Tryd.prog w13 = _ from ins_run w13 b [ent 0 0 (hdr 0 false false), ent 1 8 (hdr 0 false false), ent 2 9 (hdr 0 false true), ent 3 1 (hdr 1 false false), ent 4 2 (hdr 1 false false), ent 5 3 (hdr 1 false true), ent 6 5 (hdr 2 false false), ent 7 6 (hdr 2 false true), ent 8 15 (hdr 3 true true), ent 9 16 (hdr 3 true true), ent 10 17 (hdr 3 false false), ent 11 18 (hdr 3 false false), ent 12 19 (hdr 3 false true)] 13 25 (hdr 5 false false) (by decide) (by decide) M13.out rfl (by rfl)]
  have M14 := Lib.hid (put1_at M13.out ([ent 0 0 (hdr 0 false false), ent 1 8 (hdr 0 false false), ent 2 9 (hdr 0 false true), ent 3 1 (hdr 1 false false), ent 4 2 (hdr 1 false false), ent 5 3 (hdr 1 false true), ent 6 5 (hdr 2 false false), ent 7 6 (hdr 2 false true), ent 8 15 (hdr 3 true true), ent 9 16 (hdr 3 true true), ent 10 17 (hdr 3 false false), ent 11 18 (hdr 3 false false), ent 12 19 (hdr 3 false true)] ++ [ent 13 25 (hdr 5 false false)]))
  have B14 := Lib.hid (put1_below B13.out LB.out M13.out ([ent 0 0 (hdr 0 false false), ent 1 8 (hdr 0 false false), ent 2 9 (hdr 0 false true), ent 3 1 (hdr 1 false false), ent 4 2 (hdr 1 false false), ent 5 3 (hdr 1 false true), ent 6 5 (hdr 2 false false), ent 7 6 (hdr 2 false true), ent 8 15 (hdr 3 true true), ent 9 16 (hdr 3 true true), ent 10 17 (hdr 3 false false), ent 11 18 (hdr 3 false false), ent 12 19 (hdr 3 false true)] ++ [ent 13 25 (hdr 5 false false)]))
  generalize put1 w13 b ([ent 0 0 (hdr 0 false false), ent 1 8 (hdr 0 false false), ent 2 9 (hdr 0 false true), ent 3 1 (hdr 1 false false), ent 4 2 (hdr 1 false false), ent 5 3 (hdr 1 false true), ent 6 5 (hdr 2 false false), ent 7 6 (hdr 2 false true), ent 8 15 (hdr 3 true true), ent 9 16 (hdr 3 true true), ent 10 17 (hdr 3 false false), ent 11 18 (hdr 3 false false), ent 12 19 (hdr 3 false true)] ++ [ent 13 25 (hdr 5 false false)]) = w14 at M14 B14 ⊢
  simp only [List.cons_append, List.nil_append] at M14
  clear M13 B13
  simp only [Result.andThen]
  go_wp2
  rw [show (Instr.mapUpdate 49 (.map (some b)) (.int .u8 26) (.agg #[.string { data := #[] }, .int .i64 5, .bool false, .bool false, .int .i64 0, .int .i64 0, .bool false])).run Tryd.prog w14 = _ from ins_run w14 b [ent 0 0 (hdr 0 false false), ent 1 8 (hdr 0 false false), ent 2 9 (hdr 0 false true), ent 3 1 (hdr 1 false false), ent 4 2 (hdr 1 false false), ent 5 3 (hdr 1 false true), ent 6 5 (hdr 2 false false), ent 7 6 (hdr 2 false true), ent 8 15 (hdr 3 true true), ent 9 16 (hdr 3 true true), ent 10 17 (hdr 3 false false), ent 11 18 (hdr 3 false false), ent 12 19 (hdr 3 false true), ent 13 25 (hdr 5 false false)] 14 26 (hdr 5 false false) (by decide) (by decide) M14.out rfl (by rfl)]
  have M15 := Lib.hid (put1_at M14.out ([ent 0 0 (hdr 0 false false), ent 1 8 (hdr 0 false false), ent 2 9 (hdr 0 false true), ent 3 1 (hdr 1 false false), ent 4 2 (hdr 1 false false), ent 5 3 (hdr 1 false true), ent 6 5 (hdr 2 false false), ent 7 6 (hdr 2 false true), ent 8 15 (hdr 3 true true), ent 9 16 (hdr 3 true true), ent 10 17 (hdr 3 false false), ent 11 18 (hdr 3 false false), ent 12 19 (hdr 3 false true), ent 13 25 (hdr 5 false false)] ++ [ent 14 26 (hdr 5 false false)]))
  have B15 := Lib.hid (put1_below B14.out LB.out M14.out ([ent 0 0 (hdr 0 false false), ent 1 8 (hdr 0 false false), ent 2 9 (hdr 0 false true), ent 3 1 (hdr 1 false false), ent 4 2 (hdr 1 false false), ent 5 3 (hdr 1 false true), ent 6 5 (hdr 2 false false), ent 7 6 (hdr 2 false true), ent 8 15 (hdr 3 true true), ent 9 16 (hdr 3 true true), ent 10 17 (hdr 3 false false), ent 11 18 (hdr 3 false false), ent 12 19 (hdr 3 false true), ent 13 25 (hdr 5 false false)] ++ [ent 14 26 (hdr 5 false false)]))
  generalize put1 w14 b ([ent 0 0 (hdr 0 false false), ent 1 8 (hdr 0 false false), ent 2 9 (hdr 0 false true), ent 3 1 (hdr 1 false false), ent 4 2 (hdr 1 false false), ent 5 3 (hdr 1 false true), ent 6 5 (hdr 2 false false), ent 7 6 (hdr 2 false true), ent 8 15 (hdr 3 true true), ent 9 16 (hdr 3 true true), ent 10 17 (hdr 3 false false), ent 11 18 (hdr 3 false false), ent 12 19 (hdr 3 false true), ent 13 25 (hdr 5 false false)] ++ [ent 14 26 (hdr 5 false false)]) = w15 at M15 B15 ⊢
  simp only [List.cons_append, List.nil_append] at M15
  clear M14 B14
  simp only [Result.andThen]
  go_wp2
  rw [show (Instr.mapUpdate 49 (.map (some b)) (.int .u8 27) (.agg #[.string { data := #[] }, .int .i64 5, .bool false, .bool true, .int .i64 0, .int .i64 0, .bool false])).run Tryd.prog w15 = _ from ins_run w15 b [ent 0 0 (hdr 0 false false), ent 1 8 (hdr 0 false false), ent 2 9 (hdr 0 false true), ent 3 1 (hdr 1 false false), ent 4 2 (hdr 1 false false), ent 5 3 (hdr 1 false true), ent 6 5 (hdr 2 false false), ent 7 6 (hdr 2 false true), ent 8 15 (hdr 3 true true), ent 9 16 (hdr 3 true true), ent 10 17 (hdr 3 false false), ent 11 18 (hdr 3 false false), ent 12 19 (hdr 3 false true), ent 13 25 (hdr 5 false false), ent 14 26 (hdr 5 false false)] 15 27 (hdr 5 false true) (by decide) (by decide) M15.out rfl (by rfl)]
  have M16 := Lib.hid (put1_at M15.out ([ent 0 0 (hdr 0 false false), ent 1 8 (hdr 0 false false), ent 2 9 (hdr 0 false true), ent 3 1 (hdr 1 false false), ent 4 2 (hdr 1 false false), ent 5 3 (hdr 1 false true), ent 6 5 (hdr 2 false false), ent 7 6 (hdr 2 false true), ent 8 15 (hdr 3 true true), ent 9 16 (hdr 3 true true), ent 10 17 (hdr 3 false false), ent 11 18 (hdr 3 false false), ent 12 19 (hdr 3 false true), ent 13 25 (hdr 5 false false), ent 14 26 (hdr 5 false false)] ++ [ent 15 27 (hdr 5 false true)]))
  have B16 := Lib.hid (put1_below B15.out LB.out M15.out ([ent 0 0 (hdr 0 false false), ent 1 8 (hdr 0 false false), ent 2 9 (hdr 0 false true), ent 3 1 (hdr 1 false false), ent 4 2 (hdr 1 false false), ent 5 3 (hdr 1 false true), ent 6 5 (hdr 2 false false), ent 7 6 (hdr 2 false true), ent 8 15 (hdr 3 true true), ent 9 16 (hdr 3 true true), ent 10 17 (hdr 3 false false), ent 11 18 (hdr 3 false false), ent 12 19 (hdr 3 false true), ent 13 25 (hdr 5 false false), ent 14 26 (hdr 5 false false)] ++ [ent 15 27 (hdr 5 false true)]))
  generalize put1 w15 b ([ent 0 0 (hdr 0 false false), ent 1 8 (hdr 0 false false), ent 2 9 (hdr 0 false true), ent 3 1 (hdr 1 false false), ent 4 2 (hdr 1 false false), ent 5 3 (hdr 1 false true), ent 6 5 (hdr 2 false false), ent 7 6 (hdr 2 false true), ent 8 15 (hdr 3 true true), ent 9 16 (hdr 3 true true), ent 10 17 (hdr 3 false false), ent 11 18 (hdr 3 false false), ent 12 19 (hdr 3 false true), ent 13 25 (hdr 5 false false), ent 14 26 (hdr 5 false false)] ++ [ent 15 27 (hdr 5 false true)]) = w16 at M16 B16 ⊢
  simp only [List.cons_append, List.nil_append] at M16
  clear M15 B15
  simp only [Result.andThen]
  go_wp2
  rw [show (Instr.mapUpdate 49 (.map (some b)) (.int .u8 28) (.agg #[.string { data := #[] }, .int .i64 5, .bool false, .bool false, .int .i64 0, .int .i64 0, .bool false])).run Tryd.prog w16 = _ from ins_run w16 b [ent 0 0 (hdr 0 false false), ent 1 8 (hdr 0 false false), ent 2 9 (hdr 0 false true), ent 3 1 (hdr 1 false false), ent 4 2 (hdr 1 false false), ent 5 3 (hdr 1 false true), ent 6 5 (hdr 2 false false), ent 7 6 (hdr 2 false true), ent 8 15 (hdr 3 true true), ent 9 16 (hdr 3 true true), ent 10 17 (hdr 3 false false), ent 11 18 (hdr 3 false false), ent 12 19 (hdr 3 false true), ent 13 25 (hdr 5 false false), ent 14 26 (hdr 5 false false), ent 15 27 (hdr 5 false true)] 16 28 (hdr 5 false false) (by decide) (by decide) M16.out rfl (by rfl)]
  have M17 := Lib.hid (put1_at M16.out ([ent 0 0 (hdr 0 false false), ent 1 8 (hdr 0 false false), ent 2 9 (hdr 0 false true), ent 3 1 (hdr 1 false false), ent 4 2 (hdr 1 false false), ent 5 3 (hdr 1 false true), ent 6 5 (hdr 2 false false), ent 7 6 (hdr 2 false true), ent 8 15 (hdr 3 true true), ent 9 16 (hdr 3 true true), ent 10 17 (hdr 3 false false), ent 11 18 (hdr 3 false false), ent 12 19 (hdr 3 false true), ent 13 25 (hdr 5 false false), ent 14 26 (hdr 5 false false), ent 15 27 (hdr 5 false true)] ++ [ent 16 28 (hdr 5 false false)]))
  have B17 := Lib.hid (put1_below B16.out LB.out M16.out ([ent 0 0 (hdr 0 false false), ent 1 8 (hdr 0 false false), ent 2 9 (hdr 0 false true), ent 3 1 (hdr 1 false false), ent 4 2 (hdr 1 false false), ent 5 3 (hdr 1 false true), ent 6 5 (hdr 2 false false), ent 7 6 (hdr 2 false true), ent 8 15 (hdr 3 true true), ent 9 16 (hdr 3 true true), ent 10 17 (hdr 3 false false), ent 11 18 (hdr 3 false false), ent 12 19 (hdr 3 false true), ent 13 25 (hdr 5 false false), ent 14 26 (hdr 5 false false), ent 15 27 (hdr 5 false true)] ++ [ent 16 28 (hdr 5 false false)]))
  generalize put1 w16 b ([ent 0 0 (hdr 0 false false), ent 1 8 (hdr 0 false false), ent 2 9 (hdr 0 false true), ent 3 1 (hdr 1 false false), ent 4 2 (hdr 1 false false), ent 5 3 (hdr 1 false true), ent 6 5 (hdr 2 false false), ent 7 6 (hdr 2 false true), ent 8 15 (hdr 3 true true), ent 9 16 (hdr 3 true true), ent 10 17 (hdr 3 false false), ent 11 18 (hdr 3 false false), ent 12 19 (hdr 3 false true), ent 13 25 (hdr 5 false false), ent 14 26 (hdr 5 false false), ent 15 27 (hdr 5 false true)] ++ [ent 16 28 (hdr 5 false false)]) = w17 at M17 B17 ⊢
  simp only [List.cons_append, List.nil_append] at M17
  clear M16 B16
  simp only [Result.andThen]
  go_wp2
  rw [show (Instr.mapUpdate 49 (.map (some b)) (.int .u8 29) (.agg #[.string { data := #[] }, .int .i64 5, .bool false, .bool false, .int .i64 0, .int .i64 0, .bool false])).run Tryd.prog w17 = _ from ins_run w17 b [ent 0 0 (hdr 0 false false), ent 1 8 (hdr 0 false false), ent 2 9 (hdr 0 false true), ent 3 1 (hdr 1 false false), ent 4 2 (hdr 1 false false), ent 5 3 (hdr 1 false true), ent 6 5 (hdr 2 false false), ent 7 6 (hdr 2 false true), ent 8 15 (hdr 3 true true), ent 9 16 (hdr 3 true true), ent 10 17 (hdr 3 false false), ent 11 18 (hdr 3 false false), ent 12 19 (hdr 3 false true), ent 13 25 (hdr 5 false false), ent 14 26 (hdr 5 false false), ent 15 27 (hdr 5 false true), ent 16 28 (hdr 5 false false)] 17 29 (hdr 5 false false) (by decide) (by decide) M17.out rfl (by rfl)]
  have M18 := Lib.hid (put1_at M17.out ([ent 0 0 (hdr 0 false false), ent 1 8 (hdr 0 false false), ent 2 9 (hdr 0 false true), ent 3 1 (hdr 1 false false), ent 4 2 (hdr 1 false false), ent 5 3 (hdr 1 false true), ent 6 5 (hdr 2 false false), ent 7 6 (hdr 2 false true), ent 8 15 (hdr 3 true true), ent 9 16 (hdr 3 true true), ent 10 17 (hdr 3 false false), ent 11 18 (hdr 3 false false), ent 12 19 (hdr 3 false true), ent 13 25 (hdr 5 false false), ent 14 26 (hdr 5 false false), ent 15 27 (hdr 5 false true), ent 16 28 (hdr 5 false false)] ++ [ent 17 29 (hdr 5 false false)]))
  have B18 := Lib.hid (put1_below B17.out LB.out M17.out ([ent 0 0 (hdr 0 false false), ent 1 8 (hdr 0 false false), ent 2 9 (hdr 0 false true), ent 3 1 (hdr 1 false false), ent 4 2 (hdr 1 false false), ent 5 3 (hdr 1 false true), ent 6 5 (hdr 2 false false), ent 7 6 (hdr 2 false true), ent 8 15 (hdr 3 true true), ent 9 16 (hdr 3 true true), ent 10 17 (hdr 3 false false), ent 11 18 (hdr 3 false false), ent 12 19 (hdr 3 false true), ent 13 25 (hdr 5 false false), ent 14 26 (hdr 5 false false), ent 15 27 (hdr 5 false true), ent 16 28 (hdr 5 false false)] ++ [ent 17 29 (hdr 5 false false)]))
  generalize put1 w17 b ([ent 0 0 (hdr 0 false false), ent 1 8 (hdr 0 false false), ent 2 9 (hdr 0 false true), ent 3 1 (hdr 1 false false), ent 4 2 (hdr 1 false false), ent 5 3 (hdr 1 false true), ent 6 5 (hdr 2 false false), ent 7 6 (hdr 2 false true), ent 8 15 (hdr 3 true true), ent 9 16 (hdr 3 true true), ent 10 17 (hdr 3 false false), ent 11 18 (hdr 3 false false), ent 12 19 (hdr 3 false true), ent 13 25 (hdr 5 false false), ent 14 26 (hdr 5 false false), ent 15 27 (hdr 5 false true), ent 16 28 (hdr 5 false false)] ++ [ent 17 29 (hdr 5 false false)]) = w18 at M18 B18 ⊢
  simp only [List.cons_append, List.nil_append] at M18
  clear M17 B17
  simp only [Result.andThen]
  go_wp2
  rw [show (Instr.mapUpdate 49 (.map (some b)) (.int .u8 30) (.agg #[.string { data := #[] }, .int .i64 5, .bool false, .bool true, .int .i64 0, .int .i64 0, .bool false])).run Tryd.prog w18 = _ from ins_run w18 b [ent 0 0 (hdr 0 false false), ent 1 8 (hdr 0 false false), ent 2 9 (hdr 0 false true), ent 3 1 (hdr 1 false false), ent 4 2 (hdr 1 false false), ent 5 3 (hdr 1 false true), ent 6 5 (hdr 2 false false), ent 7 6 (hdr 2 false true), ent 8 15 (hdr 3 true true), ent 9 16 (hdr 3 true true), ent 10 17 (hdr 3 false false), ent 11 18 (hdr 3 false false), ent 12 19 (hdr 3 false true), ent 13 25 (hdr 5 false false), ent 14 26 (hdr 5 false false), ent 15 27 (hdr 5 false true), ent 16 28 (hdr 5 false false), ent 17 29 (hdr 5 false false)] 18 30 (hdr 5 false true) (by decide) (by decide) M18.out rfl (by rfl)]
  have M19 := Lib.hid (put1_at M18.out ([ent 0 0 (hdr 0 false false), ent 1 8 (hdr 0 false false), ent 2 9 (hdr 0 false true), ent 3 1 (hdr 1 false false), ent 4 2 (hdr 1 false false), ent 5 3 (hdr 1 false true), ent 6 5 (hdr 2 false false), ent 7 6 (hdr 2 false true), ent 8 15 (hdr 3 true true), ent 9 16 (hdr 3 true true), ent 10 17 (hdr 3 false false), ent 11 18 (hdr 3 false false), ent 12 19 (hdr 3 false true), ent 13 25 (hdr 5 false false), ent 14 26 (hdr 5 false false), ent 15 27 (hdr 5 false true), ent 16 28 (hdr 5 false false), ent 17 29 (hdr 5 false false)] ++ [ent 18 30 (hdr 5 false true)]))
  have B19 := Lib.hid (put1_below B18.out LB.out M18.out ([ent 0 0 (hdr 0 false false), ent 1 8 (hdr 0 false false), ent 2 9 (hdr 0 false true), ent 3 1 (hdr 1 false false), ent 4 2 (hdr 1 false false), ent 5 3 (hdr 1 false true), ent 6 5 (hdr 2 false false), ent 7 6 (hdr 2 false true), ent 8 15 (hdr 3 true true), ent 9 16 (hdr 3 true true), ent 10 17 (hdr 3 false false), ent 11 18 (hdr 3 false false), ent 12 19 (hdr 3 false true), ent 13 25 (hdr 5 false false), ent 14 26 (hdr 5 false false), ent 15 27 (hdr 5 false true), ent 16 28 (hdr 5 false false), ent 17 29 (hdr 5 false false)] ++ [ent 18 30 (hdr 5 false true)]))
  generalize put1 w18 b ([ent 0 0 (hdr 0 false false), ent 1 8 (hdr 0 false false), ent 2 9 (hdr 0 false true), ent 3 1 (hdr 1 false false), ent 4 2 (hdr 1 false false), ent 5 3 (hdr 1 false true), ent 6 5 (hdr 2 false false), ent 7 6 (hdr 2 false true), ent 8 15 (hdr 3 true true), ent 9 16 (hdr 3 true true), ent 10 17 (hdr 3 false false), ent 11 18 (hdr 3 false false), ent 12 19 (hdr 3 false true), ent 13 25 (hdr 5 false false), ent 14 26 (hdr 5 false false), ent 15 27 (hdr 5 false true), ent 16 28 (hdr 5 false false), ent 17 29 (hdr 5 false false)] ++ [ent 18 30 (hdr 5 false true)]) = w19 at M19 B19 ⊢
  simp only [List.cons_append, List.nil_append] at M19
  clear M18 B18
  simp only [Result.andThen]
  go_wp2
  go_ret
  have e := HB.out
  subst e
  exact ⟨rfl, M19.out, B19.out⟩
def mapP : List (Int × Int × Bool × Bool) := [(0, 0, false, false), (8, 0, false, false), (9, 0, false, true), (1, 1, false, false), (2, 1, false, false), (3, 1, false, true), (5, 2, false, false), (6, 2, false, true), (15, 3, true, true), (16, 3, true, true), (17, 3, false, false), (18, 3, false, false), (19, 3, false, true), (25, 5, false, false), (26, 5, false, false), (27, 5, false, true), (28, 5, false, false), (29, 5, false, false), (30, 5, false, true)]
def entsOf : List (Int × Int × Bool × Bool) → Nat → List MapEntry
  | [], _ => []
  | (x, k, c, b) :: r, i => ent i x (hdr k c b) :: entsOf r (i + 1)
def lookP (x : Int) : List (Int × Int × Bool × Bool) → Option (Int × Bool × Bool)
  | [] => none
  | (y, v) :: r => if x = y then some v else lookP x r
theorem find_ents (x : Int) : ∀ (l : List (Int × Int × Bool × Bool)) (n i : Nat), ∃ r, Instr.findNow (.int .u8) (.int .u8 x) (entsOf l n) i = some r ∧ r.map (·.2) = (lookP x l).map (fun v => Value.agg (hdr v.1 v.2.1 v.2.2).cells)
  | [], n, i => ⟨none, rfl, rfl⟩
  | (y, k, c, b) :: l, n, i => by
    by_cases e : x = y
    · subst e
      exact ⟨some (i, .agg (hdr k c b).cells), by simp [entsOf, Instr.findNow, ent, Instr.sameNow], by simp [lookP]⟩
    · obtain ⟨r, h1, h2⟩ := find_ents x l (n + 1) (i + 1)
      refine ⟨r, ?_, by rw [h2]; simp [lookP, e]⟩
      rw [← h1]
      have e' : (x == y) = false := by simpa using e
      simp only [entsOf, Instr.findNow, ent, Instr.sameNow, if_true, e']
theorem look_all : ∀ n : Fin 256, lookP (n.val : Int) mapP = if 0 ≤ kindV (n.val : Int) then some (kindV (n.val : Int), clockV (n.val : Int), battV (n.val : Int)) else none := by decide +kernel
def mapH (x : Int) : HV := if 0 ≤ kindV x then hdr (kindV x) (clockV x) (battV x) else noH
def mapB (x : Int) : Bool := decide (0 ≤ kindV x)
theorem zeroH (w : World) : (zeroValue 27).run Tryd.prog w = .ok (.agg noH.cells) w := by kernel_rfl
theorem look_run (w : World) (b : Nat) (x : Int) (h : MapAt w b mapL) (h0 : 0 ≤ x) (h1 : x < 256) : (Instr.lookup 49 (.map (some b)) (.int .u8 x) true).run Tryd.prog w = .ok (.tuple #[.agg (mapH x).cells, .bool (mapB x)]) w := by
  obtain ⟨r, hr, hv⟩ := find_ents x mapP 0 0
  have e : entsOf mapP 0 = mapL := rfl
  rw [e] at hr
  have hl := byte_all (P := fun x => lookP x mapP = if 0 ≤ kindV x then some (kindV x, clockV x, battV x) else none) look_all x h0 h1
  rw [hl] at hv
  have hk : ∀ m, (Instr.checkKey m 10000 5 (.int .u8 x)).run Tryd.prog w = .ok () w := fun m => chk_key w m x h0 h1
  have hf := find_key w x mapL r hr
  unfold MapAt at h
  unfold mapH mapB
  by_cases hx : 0 ≤ kindV x
  · rw [if_pos hx] at hv ⊢
    cases r with
    | none => simp at hv
    | some p =>
      obtain ⟨i, v⟩ := p
      have ev : v = .agg (hdr (kindV x) (clockV x) (battV x)).cells := by simpa using hv
      subst ev
      simp [Instr.lookup, run_underlying Tryd.underlying49, MapKept.run_getObj_map h, hk, hf, Result.andThen, hx]
  · rw [if_neg hx] at hv ⊢
    cases r with
    | some p => simp at hv
    | none => simp [Instr.lookup, run_underlying Tryd.underlying49, MapKept.run_getObj_map h, hk, hf, Result.andThen, hx, zeroH]; try rfl
theorem MapAt.below {w w' : World} {b : Nat} {es : List MapEntry} (h : MapAt w b es) (hb : Below w.heap.size w w') : MapAt w' b es := by
  unfold MapAt at h ⊢
  have hl : b < w.heap.size := by
    rcases Nat.lt_or_ge b w.heap.size with h2 | h2
    · exact h2
    · rw [Array.getElem?_eq_none h2] at h; cases h
  exact (hb.block b hl).trans h
end Go.Proofs.YtifhajdcfjiaiaaDoor
