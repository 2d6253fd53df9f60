/-
  A call on both units side by side, whatever its kind; whether calls are few: for every unit as it can be; no other condition but that each number fits.
-/
import Derived.Test.YtpfbodmadmneiaaDo
import Derived.Deep.Fields
import Derived.Deep.Slices
import Derived.Test.YtpfbodmadmneiaaDdK
import Derived.Test.YtpfbodmadmneiaaDeK
import Derived.Test.YtpfbodmadmneiaaDfK
import Derived.Deep.Cut
import Derived.BigQuiet
import Derived.WalkSmall
import Derived.Deep.LoopGhost
import Derived.Deep.DeepCutAuto
import Derived.Deep.CutBlock
namespace Go.Proofs.Ytpfbodmadmneiaa
open Go.ChangeShapes Go.WideShapes Go.ChangeAt Go.RowKit
set_option linter.unusedVariables false
set_option linter.unusedSimpArgs false
set_option maxRecDepth 100000
theorem ocells3 : Try.prog.cellsOf 3 = 1 := by kernel_rfl
theorem ocells5 : Try.prog.cellsOf 5 = 1 := by kernel_rfl
theorem ocells30 : Try.prog.cellsOf 30 = 1 := by kernel_rfl
theorem ocells31 : Try.prog.cellsOf 31 = 1 := by kernel_rfl
theorem ocells33 : Try.prog.cellsOf 33 = 5 := by kernel_rfl
structure OpV where
  k : Int
  n : Int
  a : Int
  x : Int
  s : Value
  len : Nat
  f : M
structure OpV.Fits (o : OpV) : Prop where
  n : -9223372036854775808 ≤ o.n ∧ o.n ≤ 9223372036854775807
  a : 0 ≤ o.a ∧ o.a < 65536
  x : 0 ≤ o.x ∧ o.x < 256
def OpV.cells (o : OpV) : Array Value := #[.int .i64 o.k, .int .i64 o.n, .int .u16 o.a, .int .u8 o.x, o.s]
def opZ : OpV := ⟨0, 0, 0, 0, .slice none 0 0, 0, zeroM⟩
/-- v is a slice of n calls O that lies below the block n_. -/
def OpsB (n_ : Nat) (W : World) (v : Value) (n : Nat) (O : Nat → OpV) : Prop := ∃ (a : Option Addr) (c : Nat), v = .slice a n c ∧ n ≤ 9223372036854775807 ∧ (∀ j, (O j).Fits ∧ BsB n_ W (O j).s (O j).len (O j).f) ∧ (0 < n → ∃ b o, a = some ⟨b, o, none⟩ ∧ b < n_ ∧ ∀ j, j < n → ∀ q, q < 5 → W.cell? ⟨b, o + j * 5 + q, none⟩ = (O j).cells[q]?)
theorem bsz (n_ : Nat) (W : World) (a : Option Addr) (c : Nat) : BsB n_ W (.slice a 0 c) 0 zeroM := ⟨a, c, rfl, by omega, fun _ => by rw [zero_at]; omega, fun h => absurd h (by omega)⟩
theorem opZ_ok (n_ : Nat) (W : World) : opZ.Fits ∧ BsB n_ W opZ.s opZ.len opZ.f := ⟨⟨by decide, by decide, by decide⟩, bsz _ _ _ _⟩
open Go.Deep in
theorem open_bs {H : Type} {enc : TypeId × Value → H} {W : World} {fuel : Nat} {c : Value} {x : DataW H × List MemPlace}
    (hf : DataW.trod enc Try.prog W 0 (fun _ => true) true fuel 31 [c] = some x) : ∃ (len : Nat) (F : M), BsB W.heap.size W c len F := by
  rcases open_ints Try.underlying31 Try.underlying5 ocells5 hf with ⟨hcs, _⟩ | ⟨a, len, cap, zs, hcs, _, hl, hm, hz, _, hcell, hwz⟩
  · simp at hcs
    subst hcs
    exact ⟨0, zeroM, bsz _ _ _ _⟩
  · simp at hcs
    subst hcs
    simp at hz
    unfold maxLen at hm
    have hw : ∀ i, 0 ≤ zs.getD i 0 ∧ zs.getD i 0 < 256 := fun i => by
      by_cases hi : i < zs.length
      · have e : zs.getD i 0 = zs[i] := by simp [hi]
        rw [e]
        exact u8_bd (hwz _ (List.getElem_mem hi))
      · have e : zs.getD i 0 = 0 := by simp [Nat.le_of_not_lt hi]
        rw [e]; decide
    refine ⟨len, fun j => zs.getD j 0, some a, cap, rfl, by omega, hw, fun h0 => ?_⟩
    obtain ⟨b, off, rfl, hc⟩ := ints_at hcell (by omega)
    refine ⟨b, off, rfl, World.block_lt_of_cell? W _ (hc 0 (by omega)), fun j hj => ?_⟩
    have := hc j (by omega)
    rw [this]
open Go.Deep in
theorem open_ops {H : Type} {enc : TypeId × Value → H} {W : World} {base : Nat} {v : Value} {d : DataW H} {p : List MemPlace}
    (hv : Value.okWide Try.prog W .any base 22 v) (h : DataW.Trod enc Try.prog W 0 (fun _ => true) true 22 v d p) : ∃ (n : Nat) (O : Nat → OpV), OpsB W.heap.size W v n O := by
  obtain ⟨a0, len, cap, rfl⟩ := okWide_slice Try.underlying22 hv
  obtain ⟨fuel, hf⟩ := h
  rcases open_slice Try.underlying22 hf with ⟨hcs, _⟩ | ⟨a, len', cap', m, n, D, Pl, hcs, _, hl, hm, hmm, _, hi⟩
  · simp [Value.cells] at hcs
    obtain ⟨rfl, rfl, rfl⟩ := hcs
    exact ⟨0, fun _ => opZ, none, 0, rfl, by omega, fun _ => opZ_ok _ _, fun h => absurd h (by omega)⟩
  · simp [Value.cells] at hcs
    obtain ⟨rfl, rfl, rfl⟩ := hcs
    simp at hmm
    unfold maxLen at hm
    rw [ocells33] at hi
    have key : ∀ i, i < len → ∃ o : OpV, (o.Fits ∧ BsB W.heap.size W o.s o.len o.f) ∧ ∀ q, q < 5 → W.cell? ((a.add (i * 5)).add q) = o.cells[q]? := by
      intro i hlt
      obtain ⟨cs, hc, ht⟩ := hi i (by omega)
      obtain ⟨_, hcl, hat⟩ := World.cells?_some hc
      obtain ⟨xs, m1, _, _, _, hlen, hg⟩ := DataW.trod_struct Try.underlying33 ht
      have hx : ∀ i, i < 5 → ∃ y, xs[i]? = some y := fun i hi => ⟨xs[i]'(by rw [hlen]; exact hi), List.getElem?_eq_getElem _⟩
      match cs, hcl with
      | [c0, c1, c2, c3, c4], _ =>
        obtain ⟨y0, hy0⟩ := hx 0 (by decide)
        obtain ⟨y1, hy1⟩ := hx 1 (by decide)
        obtain ⟨y2, hy2⟩ := hx 2 (by decide)
        obtain ⟨y3, hy3⟩ := hx 3 (by decide)
        obtain ⟨y4, hy4⟩ := hx 4 (by decide)
        have h0 := (hg 0 _ rfl).trans hy0
        have h1 := (hg 1 _ rfl).trans hy1
        have h2 := (hg 2 _ rfl).trans hy2
        have h3 := (hg 3 _ rfl).trans hy3
        have h4 := (hg 4 _ rfl).trans hy4
        simp [ocells5, ocells3, ocells30, ocells31] at h0 h1 h2 h3 h4
        obtain ⟨x0, q0, _, w0⟩ := DataW.trod_int Try.underlying3 h0
        obtain ⟨x1, q1, _, w1⟩ := DataW.trod_int Try.underlying3 h1
        obtain ⟨x2, q2, _, w2⟩ := DataW.trod_int Try.underlying30 h2
        obtain ⟨x3, q3, _, w3⟩ := DataW.trod_int Try.underlying5 h3
        obtain ⟨LN, F, hB⟩ := open_bs h4
        have r0 : c0 = .int .i64 x0 := by simpa using q0
        have r1 : c1 = .int .i64 x1 := by simpa using q1
        have r2 : c2 = .int .u16 x2 := by simpa using q2
        have r3 : c3 = .int .u8 x3 := by simpa using q3
        refine ⟨⟨x0, x1, x2, x3, c4, LN, F⟩, ⟨⟨i64_bd w1, u16_bd w2, u8_bd w3⟩, hB⟩, fun q hq => ?_⟩
        rw [hat q hq]
        match q, hq with
        | 0, _ => simp [r0, OpV.cells]
        | 1, _ => simp [r1, OpV.cells]
        | 2, _ => simp [r2, OpV.cells]
        | 3, _ => simp [r3, OpV.cells]
        | 4, _ => simp [OpV.cells]
    by_cases h0 : 0 < len
    · obtain ⟨b, off, spot⟩ := a
      obtain ⟨o0, _, hx⟩ := key 0 h0
      have hx0 := hx 0 (by decide)
      have hx1 : W.cell? ((Addr.add ⟨b, off, spot⟩ (0 * 5)).add 0) = some (.int .i64 o0.k) := hx0
      have hspot : spot = none := by simpa [Addr.add] using World.cell?_spot hx1
      subst hspot
      have ad : ∀ i k, ((⟨b, off, none⟩ : Addr).add i).add k = ⟨b, off + i + k, none⟩ := fun i k => by rw [Go.WideShapes.add_plain, Go.WideShapes.add_plain]
      have key2 : ∀ i : Nat, ∃ o : OpV, (o.Fits ∧ BsB W.heap.size W o.s o.len o.f) ∧ (i < len → ∀ q, q < 5 → W.cell? ⟨b, off + i * 5 + q, none⟩ = o.cells[q]?) := by
        intro i
        by_cases hlt : i < len
        · obtain ⟨o, ho, hq⟩ := key i hlt
          exact ⟨o, ho, fun _ q hq5 => by have := hq q hq5; rwa [ad] at this⟩
        · exact ⟨opZ, opZ_ok _ _, fun h => absurd h hlt⟩
      obtain ⟨O, hO⟩ := Classical.axiomOfChoice key2
      rw [ad] at hx1
      exact ⟨len, O, some ⟨b, off, none⟩, cap, rfl, by omega, fun j => (hO j).1, fun _ => ⟨b, off, rfl, World.block_lt_of_cell? W _ hx1, fun j hj => (hO j).2 hj⟩⟩
    · have e : len = 0 := by omega
      subst e
      exact ⟨0, fun _ => opZ, some a, cap, rfl, by omega, fun _ => opZ_ok _ _, fun h => absurd h (by omega)⟩
end Go.Proofs.Ytpfbodmadmneiaa
namespace Go.Proofs.Ytpfbodmadmneiaa
open Go.ChangeShapes Go.WideShapes Go.ChangeAt Go.RowKit
set_option linter.unusedVariables false
set_option linter.unusedSimpArgs false
set_option maxRecDepth 100000
/-- A call of a law. -/
theorem do_c (c_ : Nat) (A_ : Array Value) (n_ : Nat) (W0 : World) (b r v s : Nat) (NC_ : c_ ≠ b ∧ c_ ≠ r ∧ c_ ≠ v ∧ c_ ≠ s) (AP : Apart b r v s) (lb : n_ ≤ b) (lr : n_ ≤ r) (lv : n_ ≤ v) (ls : n_ ≤ s) (hn : n_ ≤ W0.heap.size) (m : M) (ok : Ok m) (o : OpV) (ft : o.Fits) (hS : BsB n_ W0 o.s o.len o.f) (hLN : o.len ≤ 600) (w : World) (hP : Has w b (encU m)) (hQ : RU w r v s m) (hB : BelC c_ A_ n_ W0 w) :
    Calls Try.prog 14 #[.pointer (some ⟨b, 0, none⟩), .pointer (some ⟨r, 0, none⟩), .agg o.cells] w fun q_ w' => q_ = .returned (.bool true) ∧ Has w' b (encU (doM o.k o.n o.a o.x o.len o.f m)) ∧ RU w' r v s (doM o.k o.n o.a o.x o.len o.f m) ∧ BelC c_ A_ n_ W0 w' := by
  obtain ⟨k, n, a, x, S, L, F⟩ := o
  obtain ⟨bn, ba, bx⟩ := ft
  dsimp only at bn ba bx hS hLN ⊢
  unfold OpV.cells doM
  dsimp only
  by_cases k1 : k = 1
  · subst k1
    rw [if_pos rfl]
    unfold tickN
    by_cases g1 : n ≤ 0
    · rw [if_pos g1]; exact do_1a c_ A_ n_ W0 b r v s NC_ AP lb lr lv ls hn m ok n a x bn ba bx S L F hS hLN 0 (by omega) g1 rfl w hP hQ hB
    · rw [if_neg g1]
      by_cases g2 : n ≤ 3000
      · rw [if_pos g2]; exact do_1b c_ A_ n_ W0 b r v s NC_ AP lb lr lv ls hn m ok n a x bn ba bx S L F hS hLN n.toNat (by omega) (by omega) (by omega) w hP hQ hB
      · rw [if_neg g2]; exact do_1c c_ A_ n_ W0 b r v s NC_ AP lb lr lv ls hn m ok n a x bn ba bx S L F hS hLN 3000 (by omega) (by omega) rfl w hP hQ hB
  · rw [if_neg k1]
    by_cases k2 : k = 2
    · subst k2
      rw [if_pos rfl]; exact do_2 c_ A_ n_ W0 b r v s NC_ AP lb lr lv ls hn m ok n a x bn ba bx S L F hS hLN w hP hQ hB
    · rw [if_neg k2]
      by_cases k3 : k = 3
      · subst k3
        rw [if_pos rfl]
        unfold sprM
        by_cases g : 0 ≤ n ∧ n < 160
        · rw [if_pos g]; exact do_3i c_ A_ n_ W0 b r v s NC_ AP lb lr lv ls hn m ok n a x bn ba bx S L F hS hLN n.toNat (by omega) (by omega) w hP hQ hB
        · rw [if_neg g]
          by_cases g2 : n < 0
          · exact do_3l c_ A_ n_ W0 b r v s NC_ AP lb lr lv ls hn m ok n a x bn ba bx S L F hS hLN g2 w hP hQ hB
          · exact do_3h c_ A_ n_ W0 b r v s NC_ AP lb lr lv ls hn m ok n a x bn ba bx S L F hS hLN (by omega) w hP hQ hB
      · rw [if_neg k3]
        by_cases k4 : k = 4
        · subst k4
          rw [if_pos rfl]
          obtain ⟨sa, c, e, h1, h2, h3⟩ := id hS
          by_cases h0 : L = 0
          · exact do_4z c_ A_ n_ W0 b r v s NC_ AP lb lr lv ls hn m ok n a x bn ba bx S L F hS hLN sa c e h0 w hP hQ hB
          · obtain ⟨sb, so, e2, e3, e4⟩ := h3 (by omega)
            subst e2
            exact do_4 c_ A_ n_ W0 b r v s NC_ AP lb lr lv ls hn m ok n a x bn ba bx S L F hS hLN sb so c e (by omega) h2 e3 e4 w hP hQ hB
        · rw [if_neg k4]
          exact do_x c_ A_ n_ W0 b r v s NC_ AP lb lr lv ls hn m ok n a x bn ba bx S L F hS hLN k (by simpa using k1) (by simpa using k2) (by simpa using k3) (by simpa using k4) w hP hQ hB
def fewV (n : Nat) (O : Nat → OpV) : Bool := decide (∀ j, j < n → (O j).len ≤ 600) && decide (n ≤ 30)
/-- Are they few? -/
theorem few_c (n_ : Nat) (W0 : World) (vv : Value) (n : Nat) (O : Nat → OpV) (hV : OpsB n_ W0 vv n O) (z : Bool) (hz : fewV n O = z) (w : World) (hB : Below n_ W0 w) : Calls Try.prog 11 #[vv] w fun q_ w' => q_ = .returned (.bool z) ∧ w' = w := by
  obtain ⟨a, c, rfl, hn, hO, hM⟩ := hV
  have HM := Lib.hid hM
  have HO := Lib.hid hO
  have HB := Lib.hid hB
  have HZ := Lib.hid hz
  clear hM hO hB hz
  go_enter Try.func11, Try.ntmps11
  go_wp2
  go_loopg [6] n (fun g' i wr => ∃ (t : Nat), t ≤ n ∧ g' + t = n ∧ i = .int .i64 t ∧ wr = w ∧ ∀ j, j < t → (O j).len ≤ 600)
  case atStart => exact ⟨0, by omega, by omega, rfl, rfl, fun j hj => absurd hj (by omega)⟩
  case round =>
    obtain ⟨t, ht, hg, rfl, rfl, hl⟩ := hrel
    have TG := Lib.hid hg
    have HL := Lib.hid hl
    clear hg hl
    by_cases hlt : t < n
    · have l1 : (t : Int) < n := by omega
      obtain ⟨b, o, e, hb, hc⟩ := HM.out (by omega)
      subst e
      obtain ⟨_, sa, sc, e1, e2, e3, e4⟩ := HO.out t
      have hx := hc t hlt 4 (by decide)
      have hy := (HB.out.cell (p := ⟨b, o + t * 5 + 4, none⟩) hb).trans hx
      have hq : (O t).cells[4]? = some (.slice sa (O t).len sc) := by unfold OpV.cells; rw [e1]; rfl
      rw [hq] at hy
      clear hx hq hc e1 e3 e4
      obtain ⟨ln, hln⟩ : ∃ l, l = (O t).len := ⟨_, rfl⟩
      rw [← hln] at hy e2
      have HLN := Lib.hid hln
      clear hln
      by_cases g : 600 < ln
      · have g1 : (600 : Int) < ln := by omega
        have ez : z = false := by
          rw [← HZ.out]
          unfold fewV
          have : ¬ ∀ j, j < n → (O j).len ≤ 600 := fun h => by have := h t hlt; have := HLN.out; omega
          simp [this]
        subst ez
        go_wp2
        all_goals exact bodyPost_ret (v := .bool false) (by simp [results, Try.results11, go_sem]) rfl ⟨rfl, rfl⟩
      · have g1 : ¬ (600 : Int) < ln := by omega
        go_wp2
        go_roundg (gk - 1)
        · refine ⟨t + 1, by omega, by have := TG.out; omega, by simp, rfl, fun j hj => ?_⟩
          by_cases q : j = t
          · subst q; have := HLN.out; omega
          · exact HL.out j (by omega)
        case measure => have := TG.out; omega
    · obtain rfl : t = n := by omega
      by_cases g : t ≤ 30
      · have ez : z = true := by
          rw [← HZ.out]
          unfold fewV
          have e1 : decide (∀ j, j < t → (O j).len ≤ 600) = true := decide_eq_true HL.out
          rw [e1, decide_eq_true g]; rfl
        subst ez
        have g1 : (t : Int) ≤ 30 := by omega
        go_wp2
        all_goals exact bodyPost_ret (v := .bool true) (by simp [results, Try.results11, go_sem]) rfl ⟨rfl, rfl⟩
      · have ez : z = false := by
          rw [← HZ.out]
          unfold fewV
          simp [g]
        subst ez
        have g1 : ¬ (t : Int) ≤ 30 := by omega
        go_wp2
        all_goals exact bodyPost_ret (v := .bool false) (by simp [results, Try.results11, go_sem]) rfl ⟨rfl, rfl⟩
def runM (O : Nat → OpV) : Nat → M → M
  | 0, m => m
  | t + 1, m => doM (O t).k (O t).n (O t).a (O t).x (O t).len (O t).f (runM O t m)
theorem run_zero (O : Nat → OpV) (m : M) : runM O 0 m = m := rfl
theorem run_succ (O : Nat → OpV) (t : Nat) (m : M) : runM O (t + 1) m = doM (O t).k (O t).n (O t).a (O t).x (O t).len (O t).f (runM O t m) := rfl
theorem run_ok {O : Nat → OpV} (h : ∀ j, (O j).Fits ∧ okB (O j).f) {m : M} (ok : Ok m) : ∀ t, Ok (runM O t m)
  | 0 => ok
  | t + 1 => ok_do (run_ok h ok t) _ _ _ _ _ _ (h t).1.x (h t).2
attribute [irreducible] runM
end Go.Proofs.Ytpfbodmadmneiaa
