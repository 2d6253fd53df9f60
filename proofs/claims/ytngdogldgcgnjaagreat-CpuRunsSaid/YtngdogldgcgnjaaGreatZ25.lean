/-
  The law's own filled: 65536 bytes out of a few, for every world; its condition: the bytes lie there as told, and are fewer than 2^62. (Some texts in one.)
-/
import Derived.Test.YtngdogldgcgnjaaGreatZ23
import Derived.Test.YtngdogldgcgnjaaGreatZ07
import Derived.Test.YtngdogldgcgnjaaGreatZ24
import Derived.Deep.LoopGhost
import Derived.Deep.Cut
import Derived.StillTailTactics
import Derived.Deep.Fields
set_option maxRecDepth 100000
set_option maxHeartbeats 8000000
namespace Go.Proofs.YtngdogldgcgnjaaGreat
open Go.ChangeShapes Go.WideShapes Go.ChangeAt Go.RowKit
set_option linter.unusedVariables false
def fillV (n : Nat) (f : Nat → Int) (a : Nat) : Int := if n = 0 then 0 else f ((a + a / 256) % n)
structure Fi (w : World) (M n : Nat) (f : Nat → Int) (k : Nat) : Prop where
 lt : M < w.heap.size
 mem : ∀ a : Nat, a < 65536 → w.cell? ⟨M, a, none⟩ = some (.int .u8 (if a < k then fillV n f a else 0))
 free : ∀ a, w.frozen? ⟨M, a, none⟩ = false
theorem Fi.zero (w : World) (n : Nat) (f : Nat → Int) : Fi (w.alloc (.cells zeroM 5)) w.heap.size n f 0 := by
 have h := Has.new w zeroM 5
 exact ⟨h.1, fun a ha => by rw [h.2.1 a, zeroM_get a ha]; simp, h.2.2⟩
theorem Fi.next {w : World} {M n k : Nat} {f : Nat → Int} (h : Fi w M n f k) (hk : k < 65536) : Fi (w.setCell ⟨M, k, none⟩ (.int .u8 (fillV n f k))) M n f (k + 1) := by
 refine ⟨by simpa using h.lt, fun a ha => ?_, fun a => by simpa [go_sem] using h.free a⟩
 by_cases e : k = a
 ·subst e
  rw [World.cell?_setCell_same w _ _ (h.mem k hk), if_pos (by omega)]
 ·rw [World.cell?_setCell_other w _ _ _ (by intro h; injection h; contradiction), h.mem a ha]
  by_cases h2 : a < k
  ·rw [if_pos h2, if_pos (by omega)]
  ·rw [if_neg h2, if_neg (by omega)]
theorem Fi.skip {w : World} {M k : Nat} {f : Nat → Int} (h : Fi w M 0 f k) : Fi w M 0 f (k + 1) :=
 ⟨h.lt, fun a ha => by rw [h.mem a ha]; simp [fillV], h.free⟩
theorem filled_some (b o n c : Nat) (f : Nat → Int) (w : World) (n0 : 0 < n) (n1 : n < 4611686018427387904) (hb : b < w.heap.size) (hm : ∀ j, j < n → w.cell? ⟨b, o + j, none⟩ = some (.int .u8 (f j))) :
  Calls Tryz.prog 12 #[.slice (some ⟨b, o, none⟩) n c] w fun e w' => e = .returned (.slice (some ⟨w.heap.size, 0, none⟩) 65536 65536) ∧ Below w.heap.size w w' ∧ Fi w' w.heap.size n f 65536 := by
 have hmk := mk_run; have HM := Lib.hid hm; have HB := Lib.hid hb; clear hm hb; go_enter Tryz.func12, Tryz.ntmps12; go_upto_region 2 with (fail); clear hmk; have F0 := Lib.hid (Fi.zero w n f); have B0 := Lib.hid (own1 w (.cells zeroM 5)); generalize w.alloc (.cells zeroM 5) = w0 at F0 B0 ⊢; generalize hM : w.heap.size = M at F0 ⊢; go_wp2
 go_loopg [8] 65536 (fun g i wr => ∃ k : Nat, k ≤ 65536 ∧ g + k = 65536 ∧ i = .int .i64 k ∧ Below w.heap.size w wr ∧ Fi wr M n f k)
 case atStart => exact ⟨0, by omega, rfl, rfl, B0.out, F0.out⟩
 case round =>
  obtain ⟨k, hk, hg, rfl, hB, hT⟩ := hrel; have GG := Lib.hid hg; clear hg; have BB := Lib.hid hB; have FF := Lib.hid hT; clear hB hT F0 B0
  by_cases hlt : k < 65536
  ·have h0 : (0 : Int) ≤ k := by omega
   have h1 : (k : Int) < 65536 := by omega
   have hn : (0 : Int) < n := by omega
   have HK := Lib.hid hk; have HL := Lib.hid hlt; have N1 := Lib.hid n1
   have hn1 : (n : Int) < 4611686018427387904 := by omega
   clear hk hlt n1; go_upto_region 6 with (fail)
   have hne : ¬ (n : Int) = 0 := by omega
   obtain ⟨q, hq0⟩ : ∃ q : Nat, (k + k / 256) % n = q := ⟨_, rfl⟩
   have hq : ((k : Int) + (k : Int) / 256) % (n : Int) = (q : Int) := by rw [← hq0, Int.natCast_emod, Int.natCast_add, Int.natCast_ediv]; rfl
   have hq2 : ((k : Int) + (k : Int) / 256).tmod (n : Int) = (q : Int) := by rw [Int.tmod_eq_emod_of_nonneg (by omega)]; exact hq
   have hq3 : (k : Int).tdiv 256 = (k : Int) / 256 := Int.tdiv_eq_ediv_of_nonneg h0
   have hqn : (q : Int) < n := by have := Nat.mod_lt (k + k / 256) n0; omega
   have Q0 := Lib.hid hq0
   have hr : wr.cell? ⟨b, o + q, none⟩ = some (.int .u8 (f q)) := by
    rw [BB.out.cell (p := ⟨b, o + q, none⟩) HB.out]; exact HM.out q (by omega)
   have hmm := FF.out.mem k HL.out; have hff := FF.out.free k; have KI := Lib.hid h1; clear hq0; go_upto_region 7 with (fail)
   have e : f q = fillV n f k := by unfold fillV; rw [if_neg (by omega), Q0.out]
   rw [e]; have FN := Lib.hid (FF.out.next HL.out); have BN := Lib.hid (BB.out.setCell (p := ⟨M, k, none⟩) (by show w.heap.size ≤ M; omega) (.int .u8 (fillV n f k))); generalize World.setCell wr ⟨M, k, none⟩ (.int .u8 (fillV n f k)) = ws at FN BN ⊢; clear hmm hff hr e hq hq2 hq3 FF BB; go_wp2
   go_roundg (gk - 1)
   exact ⟨k + 1, by have := HL.out; omega, by have := GG.out; have := HL.out; omega, by simp, BN.out, FN.out⟩
   case measure => have := GG.out; have := HL.out; omega
  ·have e : k = 65536 := by omega
   subst e; go_wp2; go_ret; subst hM
   exact ⟨rfl, BB.out, FF.out⟩
theorem filled_none (a : Option Addr) (c : Nat) (f : Nat → Int) (w : World) :
  Calls Tryz.prog 12 #[.slice a 0 c] w fun e w' => e = .returned (.slice (some ⟨w.heap.size, 0, none⟩) 65536 65536) ∧ Below w.heap.size w w' ∧ Fi w' w.heap.size 0 f 65536 := by
 have hmk := mk_run; go_enter Tryz.func12, Tryz.ntmps12; go_upto_region 2 with (fail); clear hmk; have F0 := Lib.hid (Fi.zero w 0 f); have B0 := Lib.hid (own1 w (.cells zeroM 5)); generalize w.alloc (.cells zeroM 5) = w0 at F0 B0 ⊢; generalize hM : w.heap.size = M at F0 ⊢; go_wp2
 go_loopg [8] 65536 (fun g i wr => ∃ k : Nat, k ≤ 65536 ∧ g + k = 65536 ∧ i = .int .i64 k ∧ Below w.heap.size w wr ∧ Fi wr M 0 f k)
 case atStart => exact ⟨0, by omega, rfl, rfl, B0.out, F0.out⟩
 case round =>
  obtain ⟨k, hk, hg, rfl, hB, hT⟩ := hrel; have GG := Lib.hid hg; have BB := Lib.hid hB; have FF := Lib.hid hT; clear hB hT F0 B0 hg
  by_cases hlt : k < 65536
  ·have h0 : (0 : Int) ≤ k := by omega
   have h1 : (k : Int) < 65536 := by omega
   have HL := Lib.hid hlt; clear hk hlt; go_wp2
   go_roundg (gk - 1)
   exact ⟨k + 1, by have := HL.out; omega, by have := GG.out; have := HL.out; omega, by simp, BB.out, FF.out.skip⟩
   case measure => have := GG.out; have := HL.out; omega
  ·have e : k = 65536 := by omega
   subst e; go_wp2; go_ret; subst hM
   exact ⟨rfl, BB.out, FF.out⟩
end Go.Proofs.YtngdogldgcgnjaaGreat
namespace Go.Proofs.YtngdogldgcgnjaaGreat
open Go.ChangeShapes Go.WideShapes Go.ChangeAt Go.RowKit
set_option linter.unusedVariables false
def AR (w : World) (a : Option Addr) (l : List Ac) : Prop := ∀ i (x : Ac), l[i]? = some x → ∃ b o, a = some ⟨b, o, none⟩ ∧ b < w.heap.size ∧
 w.cell? ⟨b, o + i * 3, none⟩ = some (.int .i64 x.k) ∧ w.cell? ⟨b, o + i * 3 + 1, none⟩ = some (.int .u16 x.a) ∧ w.cell? ⟨b, o + i * 3 + 2, none⟩ = some (.int .u8 x.v)
theorem AR.below {w w' : World} {a : Option Addr} {l : List Ac} (h : AR w a l) (hb : Below w.heap.size w w') : AR w' a l := fun i x hx => by
 obtain ⟨b, o, e, hl, h0, h1, h2⟩ := h i x hx
 exact ⟨b, o, e, Nat.lt_of_lt_of_le hl hb.size, (hb.cell (p := ⟨b, o + i * 3, none⟩) hl).trans h0, (hb.cell (p := ⟨b, o + i * 3 + 1, none⟩) hl).trans h1, (hb.cell (p := ⟨b, o + i * 3 + 2, none⟩) hl).trans h2⟩
theorem acc_c (a1 a2 : Option Addr) (c1 c2 : Nat) (l : List Ac) (w : World) (hl : l.length < 1000000) (h1 : AR w a1 l) (h2 : AR w a2 l) :
  Calls Tryz.prog 17 #[.slice a1 l.length c1, .slice a2 l.length c2] w fun e w' => e = .returned (.bool true) ∧ Below w.heap.size w w' := by
 have H1 := Lib.hid h1; have H2 := Lib.hid h2; have HL := Lib.hid hl
 have hlI : (l.length : Int) < 1000000 := by omega
 clear h1 h2 hl; obtain ⟨n, hn⟩ : ∃ n, l.length = n := ⟨_, rfl⟩; have HN := Lib.hid hn; rw [hn] at hlI ⊢; clear hn; go_enter Tryz.func17, Tryz.ntmps17; go_wp2
 go_loopg [13] n (fun g i wr => ∃ k : Nat, k ≤ n ∧ g + k = n ∧ i = .int .i64 k ∧ Below w.heap.size w wr)
 case atStart => exact ⟨0, by omega, by omega, rfl, Below.refl _ _⟩
 case round =>
  obtain ⟨k, hk, hg, rfl, hB⟩ := hrel; have GG := Lib.hid hg; have BB := Lib.hid hB; clear hB hg
  by_cases hlt : k < n
  ·have h0 : (0 : Int) ≤ k := by omega
   have h1 : (k : Int) < n := by omega
   have hx : l[k]? = some (l[k]'(by rw [HN.out]; exact hlt)) := List.getElem?_eq_getElem _; generalize (l[k]'(by rw [HN.out]; exact hlt)) = x at hx; obtain ⟨b1, o1, rfl, -, p0, p1, p2⟩ := (H1.out.below BB.out) k x hx; obtain ⟨b2, o2, rfl, -, q0, q1, q2⟩ := (H2.out.below BB.out) k x hx; go_upto_region 6 with (fail)
   go_region
   go_wp2
   go_roundg (gk - 1)
   exact ⟨k + 1, by omega, by have := GG.out; omega, by simp, BB.out.drew⟩
   case measure => have := GG.out; omega
  ·have e : k = n := by omega
   subst e; go_wp2; go_ret
   exact ⟨rfl, BB.out⟩
end Go.Proofs.YtngdogldgcgnjaaGreat
namespace Go.Proofs.YtngdogldgcgnjaaGreat
open Go.ChangeShapes Go.WideShapes Go.ChangeAt Go.RowKit Go.Deep
set_option linter.unusedSimpArgs false
theorem cells26 : Tryz.prog.cellsOf 26 = 14 := by kernel_rfl
theorem cells24 : Tryz.prog.cellsOf 24 = 10 := by kernel_rfl
theorem cells5 : Tryz.prog.cellsOf 5 = 1 := by kernel_rfl
theorem cells4 : Tryz.prog.cellsOf 4 = 1 := by kernel_rfl
theorem cells22 : Tryz.prog.cellsOf 22 = 1 := by kernel_rfl
theorem open_st {H : Type} {enc : TypeId × Value → H} {W : World} {base : Nat} {v : Value} {d : DataW H} {p : List MemPlace}
  (hv : Value.okWide Tryz.prog W .any base 26 v) (h : DataW.Trod enc Tryz.prog W 0 (fun _ => true) true 26 v d p) :
  ∃ s : St, s.r.ok ∧ v = .agg #[.int .u8 s.r.a, .int .u8 s.r.f, .int .u8 s.r.b, .int .u8 s.r.c, .int .u8 s.r.d, .int .u8 s.r.e, .int .u8 s.r.h, .int .u8 s.r.l, .int .u16 s.r.sp, .int .u16 s.r.pc, .bool s.ime, .bool s.soon, .bool s.halt, .bool s.stop] := by
 obtain ⟨cs, rfl, hsz⟩ := okWide_struct Tryz.underlying26 hv; obtain ⟨fuel, hf⟩ := h; obtain ⟨xs, n, _, _, _, hlen, hg⟩ := DataW.trod_struct Tryz.underlying26 hf; rw [cells26] at hsz
 have hx : ∀ i, i < 5 → ∃ y, xs[i]? = some y := fun i hi => ⟨xs[i]'(by rw [hlen]; exact hi), List.getElem?_eq_getElem _⟩
 obtain ⟨l⟩ := cs
 match l, hsz with
 | [c0, c1, c2, c3, c4, c5, c6, c7, c8, c9, c10, c11, c12, c13], _ =>
  obtain ⟨yr, hyr⟩ := hx 0 (by decide); have gr := (hg 0 _ rfl).trans hyr
  simp [Value.cells, cells24] at gr
  obtain ⟨zs, n', _, _, _, hlen2, hg2⟩ := DataW.trod_struct Tryz.underlying24 gr
  have hz : ∀ i, i < 10 → ∃ y, zs[i]? = some y := fun i hi => ⟨zs[i]'(by rw [hlen2]; exact hi), List.getElem?_eq_getElem _⟩
  obtain ⟨y0, hy0⟩ := hz 0 (by decide); have g0 := (hg2 0 _ rfl).trans hy0
  simp [Value.cells, cells5] at g0
  obtain ⟨n0, e0, _, w0⟩ := DataW.trod_int Tryz.underlying5 g0
  obtain rfl : c0 = .int .u8 n0 := by simpa using e0
  obtain ⟨y1, hy1⟩ := hz 1 (by decide); have g1 := (hg2 1 _ rfl).trans hy1
  simp [Value.cells, cells5] at g1
  obtain ⟨n1, e1, _, w1⟩ := DataW.trod_int Tryz.underlying5 g1
  obtain rfl : c1 = .int .u8 n1 := by simpa using e1
  obtain ⟨y2, hy2⟩ := hz 2 (by decide); have g2 := (hg2 2 _ rfl).trans hy2
  simp [Value.cells, cells5] at g2
  obtain ⟨n2, e2, _, w2⟩ := DataW.trod_int Tryz.underlying5 g2
  obtain rfl : c2 = .int .u8 n2 := by simpa using e2
  obtain ⟨y3, hy3⟩ := hz 3 (by decide); have g3 := (hg2 3 _ rfl).trans hy3
  simp [Value.cells, cells5] at g3
  obtain ⟨n3, e3, _, w3⟩ := DataW.trod_int Tryz.underlying5 g3
  obtain rfl : c3 = .int .u8 n3 := by simpa using e3
  obtain ⟨y4, hy4⟩ := hz 4 (by decide); have g4 := (hg2 4 _ rfl).trans hy4
  simp [Value.cells, cells5] at g4
  obtain ⟨n4, e4, _, w4⟩ := DataW.trod_int Tryz.underlying5 g4
  obtain rfl : c4 = .int .u8 n4 := by simpa using e4
  obtain ⟨y5, hy5⟩ := hz 5 (by decide); have g5 := (hg2 5 _ rfl).trans hy5
  simp [Value.cells, cells5] at g5
  obtain ⟨n5, e5, _, w5⟩ := DataW.trod_int Tryz.underlying5 g5
  obtain rfl : c5 = .int .u8 n5 := by simpa using e5
  obtain ⟨y6, hy6⟩ := hz 6 (by decide); have g6 := (hg2 6 _ rfl).trans hy6
  simp [Value.cells, cells5] at g6
  obtain ⟨n6, e6, _, w6⟩ := DataW.trod_int Tryz.underlying5 g6
  obtain rfl : c6 = .int .u8 n6 := by simpa using e6
  obtain ⟨y7, hy7⟩ := hz 7 (by decide); have g7 := (hg2 7 _ rfl).trans hy7
  simp [Value.cells, cells5] at g7
  obtain ⟨n7, e7, _, w7⟩ := DataW.trod_int Tryz.underlying5 g7
  obtain rfl : c7 = .int .u8 n7 := by simpa using e7
  obtain ⟨y8, hy8⟩ := hz 8 (by decide); have g8 := (hg2 8 _ rfl).trans hy8
  simp [Value.cells, cells22] at g8
  obtain ⟨n8, e8, _, w8⟩ := DataW.trod_int Tryz.underlying22 g8
  obtain rfl : c8 = .int .u16 n8 := by simpa using e8
  obtain ⟨y9, hy9⟩ := hz 9 (by decide); have g9 := (hg2 9 _ rfl).trans hy9
  simp [Value.cells, cells22] at g9
  obtain ⟨n9, e9, _, w9⟩ := DataW.trod_int Tryz.underlying22 g9
  obtain rfl : c9 = .int .u16 n9 := by simpa using e9
  obtain ⟨y10, hy10⟩ := hx 1 (by decide); have g10 := (hg 1 _ rfl).trans hy10
  simp [Value.cells, cells4] at g10
  obtain ⟨n10, e10, _⟩ := DataW.trod_bool Tryz.underlying4 g10
  obtain rfl : c10 = .bool n10 := by simpa using e10
  obtain ⟨y11, hy11⟩ := hx 2 (by decide); have g11 := (hg 2 _ rfl).trans hy11
  simp [Value.cells, cells4] at g11
  obtain ⟨n11, e11, _⟩ := DataW.trod_bool Tryz.underlying4 g11
  obtain rfl : c11 = .bool n11 := by simpa using e11
  obtain ⟨y12, hy12⟩ := hx 3 (by decide); have g12 := (hg 3 _ rfl).trans hy12
  simp [Value.cells, cells4] at g12
  obtain ⟨n12, e12, _⟩ := DataW.trod_bool Tryz.underlying4 g12
  obtain rfl : c12 = .bool n12 := by simpa using e12
  obtain ⟨y13, hy13⟩ := hx 4 (by decide); have g13 := (hg 4 _ rfl).trans hy13
  simp [Value.cells, cells4] at g13
  obtain ⟨n13, e13, _⟩ := DataW.trod_bool Tryz.underlying4 g13
  obtain rfl : c13 = .bool n13 := by simpa using e13
  exact ⟨⟨⟨n0, n1, n2, n3, n4, n5, n6, n7, n8, n9⟩, n10, n11, n12, n13⟩, ⟨u8_bd w0, u8_bd w1, u8_bd w2, u8_bd w3, u8_bd w4, u8_bd w5, u8_bd w6, u8_bd w7, u16_bd w8, u16_bd w9⟩, rfl⟩
end Go.Proofs.YtngdogldgcgnjaaGreat
namespace Go.Proofs.YtngdogldgcgnjaaGreat
open Go.ChangeShapes Go.WideShapes Go.ChangeAt Go.RowKit Go.Deep
set_option linter.unusedVariables false
def By (W : World) (v : Value) (n : Nat) (f : Nat → Int) : Prop := n < 4611686018427387904 ∧ (∀ j, 0 ≤ f j ∧ f j < 256) ∧
 ((n = 0 ∧ ∃ a c, v = .slice a 0 c) ∨ (0 < n ∧ ∃ b o c, v = .slice (some ⟨b, o, none⟩) n c ∧ b < W.heap.size ∧ ∀ j, j < n → W.cell? ⟨b, o + j, none⟩ = some (.int .u8 (f j))))
theorem By.below {W W' : World} {v : Value} {n : Nat} {f : Nat → Int} (h : By W v n f) (hb : Below W.heap.size W W') : By W' v n f := by
 obtain ⟨h0, hf, h1 | ⟨hn, b, o, c, e, hl, hc⟩⟩ := h
 ·exact ⟨h0, hf, Or.inl h1⟩
 ·exact ⟨h0, hf, Or.inr ⟨hn, b, o, c, e, Nat.lt_of_lt_of_le hl hb.size, fun j hj => (hb.cell (p := ⟨b, o + j, none⟩) hl).trans (hc j hj)⟩⟩
theorem filled_c {W : World} {v : Value} {n : Nat} {f : Nat → Int} (h : By W v n f) :
  Calls Tryz.prog 12 #[v] W fun e w' => e = .returned (.slice (some ⟨W.heap.size, 0, none⟩) 65536 65536) ∧ Below W.heap.size W w' ∧ Fi w' W.heap.size n f 65536 := by
 obtain ⟨h0, hf, ⟨rfl, a, c, rfl⟩ | ⟨hn, b, o, c, rfl, hl, hc⟩⟩ := h
 ·exact filled_none a c f W
 ·exact filled_some b o n c f W hn h0 hl hc
def fillM (n : Nat) (f : Nat → Int) : Int → Int := fun a => fillV n f a.toNat
theorem fillM_ok {n : Nat} {f : Nat → Int} (h : ∀ j, 0 ≤ f j ∧ f j < 256) (a : Int) : 0 ≤ fillM n f a ∧ fillM n f a < 256 := by
 unfold fillM fillV
 split
 ·decide
 ·exact h _
theorem Fi.ram {w : World} {M n : Nat} {f : Nat → Int} (h : Fi w M n f 65536) (hf : ∀ j, 0 ≤ f j ∧ f j < 256) : Ram (w.alloc (.cells #[.slice (some ⟨M, 0, none⟩) 65536 65536, .slice none 0 0] 35)) w.heap.size M (fillM n f) := by
 have h2 := Has.new w #[.slice (some ⟨M, 0, none⟩) 65536 65536, .slice none 0 0] 35; have hb := bcell (own1 w (.cells #[.slice (some ⟨M, 0, none⟩) 65536 65536, .slice none 0 0] 35))
 refine ⟨h2, fun a ha => ?_, fun a => (hb.2 M a h.lt).trans (h.free a), by simpa using Nat.lt_succ_of_lt h.lt, by have := h.lt; omega, fillM_ok hf⟩
 rw [hb.1 M a h.lt, h.mem a ha, if_pos ha]
 rfl
theorem open_by {H : Type} {enc : TypeId × Value → H} {W : World} {base : Nat} {v : Value} {d : DataW H} {p : List MemPlace}
  (hv : Value.okWide Tryz.prog W .any base 27 v) (h : DataW.Trod enc Tryz.prog W 0 (fun _ => true) true 27 v d p) : ∃ (a : Option Addr) (n c : Nat), v = .slice a n c ∧ n ≤ 9223372036854775807 ∧ (n < 4611686018427387904 → ∃ f, By W v n f) := by
 obtain ⟨a0, len, cap, rfl⟩ := okWide_slice Tryz.underlying27 hv; obtain ⟨fuel, hf⟩ := h
 rcases open_ints Tryz.underlying27 Tryz.underlying5 cells5 hf with ⟨hcs, _⟩ | ⟨a, len', cap', zs, hcs, _, hl, hm, hz, _, hcell, hwz⟩
 ·simp [Value.cells] at hcs
  obtain ⟨rfl, rfl, rfl⟩ := hcs
  exact ⟨none, 0, 0, rfl, by omega, fun h => ⟨fun _ => 0, h, fun _ => ⟨Int.le_refl _, (by decide : (0 : Int) < 256)⟩, Or.inl ⟨rfl, none, 0, rfl⟩⟩⟩
 ·simp [Value.cells] at hcs
  obtain ⟨rfl, rfl, rfl⟩ := hcs
  simp at hz
  unfold maxLen at hm
  refine ⟨some a, len, cap, rfl, by omega, fun h => ?_⟩
  have hw : ∀ i, 0 ≤ zs.getD i 0 ∧ zs.getD i 0 < 256 := fun i => by
   by_cases hi : i < zs.length
   ·have e : zs.getD i 0 = zs[i] := by simp [hi]
    rw [e]
    exact u8_bd (hwz _ (List.getElem_mem hi))
   ·have e : zs.getD i 0 = 0 := by simp [Nat.le_of_not_lt hi]
    rw [e]; decide
  by_cases h0 : len = 0
  ·subst h0
   exact ⟨fun _ => 0, h, fun _ => ⟨Int.le_refl _, (by decide : (0 : Int) < 256)⟩, Or.inl ⟨rfl, some a, cap, rfl⟩⟩
  ·obtain ⟨b, off, rfl, hc⟩ := ints_at hcell (by omega)
   exact ⟨fun j => zs.getD j 0, h, hw, Or.inr ⟨by omega, b, off, cap, rfl, World.block_lt_of_cell? W _ (hc 0 (by omega)), fun j hj => hc j (by omega)⟩⟩
theorem accL_at : ∀ (l : List Ac) (i : Nat) (x : Ac), l[i]? = some x → (accL l)[i * 3]? = some (.int .i64 x.k) ∧ (accL l)[i * 3 + 1]? = some (.int .u16 x.a) ∧ (accL l)[i * 3 + 2]? = some (.int .u8 x.v)
 | [], _, _, h => by simp at h
 | y :: r, 0, x, h => by
  have e : y = x := by simpa using h
  subst e
  exact ⟨rfl, rfl, rfl⟩
 | y :: r, i + 1, x, h => by
  have q := accL_at r i x (by simpa using h); have e : accL (y :: r) = .int .i64 y.k :: .int .u16 y.a :: .int .u8 y.v :: accL r := rfl
  rw [e, show (i + 1) * 3 = i * 3 + 1 + 1 + 1 by omega]
  exact q
theorem Bus.ar {C : Nat → Int → Value → Array Value} {w : World} {R M tb n : Nat} {v : Value} {m : Int → Int} {acc : List Ac} (h : Bus C w R M tb v m acc n) : ∃ a c, v = .slice a acc.length c ∧ AR w a acc := by
 rcases h.own.2 with ⟨e, e'⟩ | ⟨g, cap, cur, e, _⟩
 ·have ea : acc = [] := by simpa using e'
  subst ea
  exact ⟨none, 0, e, fun i x hx => by simp at hx⟩
 ·refine ⟨some ⟨g, 0, none⟩, cap, e, fun i x hx => ?_⟩
  have hg : v.ownBlock = some g := by rw [e]; rfl
  have ha : ∀ j u, (accL acc)[j]? = some u → w.cell? ⟨g, 0 + j, none⟩ = some u := fun j u hu => by
   have := h.own.cells hg j u hu
   have e : (⟨g, 0, none⟩ : Addr).add j = ⟨g, 0 + j, none⟩ := by unfold Addr.add; split <;> simp_all
   rwa [e] at this
  obtain ⟨q0, q1, q2⟩ := accL_at acc i x hx; have r0 := ha _ _ q0
  exact ⟨g, 0, rfl, World.block_lt_of_cell? w _ r0, r0, ha _ _ q1, ha _ _ q2⟩
end Go.Proofs.YtngdogldgcgnjaaGreat
