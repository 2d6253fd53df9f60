/-
 The sprites of a line in the order in which they hide each other: the program's comparison, and Go's own stable sort of at most ten; for every sprite memory of at most 8192 bytes.
-/
import Derived.Test.YtpfbodmadmneiaaTz
import Derived.Test.YtpfbodmadmneiaaSm
import Derived.Deep.Cut
import Derived.BigQuiet
import Derived.WalkSmall
import Derived.Deep.LoopGhost
namespace Go.Proofs.Ytpfbodmadmneiaa
open Go.ChangeShapes Go.WideShapes Go.ChangeAt Go.RowKit
set_option linter.unusedVariables false
set_option linter.unusedSimpArgs false
set_option maxRecDepth 100000
theorem fld1 (p q r s : Int) (w : World) : (Instr.field 105 (.agg #[.int .u8 p, .int .u8 q, .int .u8 r, .int .u8 s]) 1).run Try.prog w = .ok (.int .u8 q) w := by kernel_rfl
theorem cmp_b (x y : Int) (w : World) : Calls Try.prog 92 #[.int .u8 x, .int .u8 y] w fun q_ w' => q_ = .returned (.int .i64 (cmpV x y)) ∧ Below w.heap.size w w' :=
 (cmp_c x y w).mono fun e w' ⟨h1, h2⟩ => ⟨h1, by subst h2; exact Below.refl _ _⟩
set_option maxHeartbeats 2000000 in
theorem less_c (ov : Value) (O : M) (cb p q : Nat) (hp : p < 40) (hq : q < 40) (w : World) (hC : Has w cb #[ov]) (hM0 : Mem w ov O) : Calls Try.prog 91 #[.int .i64 (p : Int), .int .i64 (q : Int), .pointer (some ⟨cb, 0, none⟩)] w fun q_ w' => q_ = .returned (.int .i64 (cmpV (O (4 * p + 1)) (O (4 * q + 1)))) ∧ Below w.heap.size w w' := by
 suffices hall : ∀ (n_ : Nat) (W0 : World), n_ ≤ W0.heap.size → Below n_ W0 w → MemB n_ W0 ov O → Calls Try.prog 91 #[.int .i64 (p : Int), .int .i64 (q : Int), .pointer (some ⟨cb, 0, none⟩)] w fun q_ w' => q_ = .returned (.int .i64 (cmpV (O (4 * p + 1)) (O (4 * q + 1)))) ∧ Below n_ W0 w' from hall _ _ (Nat.le_refl _) (Below.refl _ _) hM0
 clear hM0
 intro n_ W0 hn hB hM0
 have HN := Lib.hid hn
 have BB := Lib.hid hB
 clear hn hB
 have HM0 := Lib.hid hM0
 clear hM0
 have C0 := Lib.hid hC
 clear hC
 have S1 := Lib.hid (fun W h => spr_c ov O p hp W h)
 have S2 := Lib.hid (fun W h => spr_c ov O q hq W h)
 have CM := Lib.hid (fun W => cmp_b (O (4 * p + 1)) (O (4 * q + 1)) W)
 generalize O (4 * p) = p0 at *
 generalize O (4 * p + 1) = p1 at *
 generalize O (4 * p + 2) = p2 at *
 generalize O (4 * p + 3) = p3 at *
 generalize O (4 * q) = q0 at *
 generalize O (4 * q + 1) = q1 at *
 generalize O (4 * q + 2) = q2 at *
 generalize O (4 * q + 3) = q3 at *
 generalize cmpV p1 q1 = z at *
 have ef1 := fld1 p0 p1 p2 p3
 have ef2 := fld1 q0 q1 q2 q3
 go_enter Try.func91, Try.ntmps91
 obtain ⟨hc0, hf0⟩ := C0.out.out
 go_upto_region 1 with (fail)
 clear hc0 hf0
 have B1 := Lib.hid BB.out.drew
 have C1 := Lib.hid C0.out.drew
 clear C0
 refine wp_region_held_drew (S := (fun w' => (∀ o, w'.cell? ⟨cb, o, none⟩ = (#[ov] : Array Value)[o]?))) (by kernel_rfl) C1.out.2.1 (fun hHeld => ?_)
 generalize World.drew _ = u1 at hHeld B1 C1 ⊢
 refine tzz 0 ?_
 refine tzz 1 ?_
 refine tzz 4 ?_
 refine tzz 5 ?_
 refine wpAnyH_ready (rs := [2]) (by kernel_rfl) (by simp) ?_
 refine (acc rfl (fun K hK => ?_) AllReadyH.nil)
 ·skip
  go_simp
  with_reducible refine (S1.out _ (HM0.out.at HN.out B1.out)).mono ?_
  rintro q_ u2 ⟨rfl, hb⟩
  have B2 := Lib.hid (vian HN.out B1.out hb)
  have C2 := Lib.hid (C1.out.below hb)
  clear hb
  clear B1 C1
  refine hK.out _ _ ?s5 (fun hNew => ?r5)
  case s5 => exact C2.out.2.1
  clear hK K hHeld
  have hHeld := hNew
  clear hNew
  refine tzz 3 ?_
  refine wpAnyH_ready (rs := [6]) (by kernel_rfl) (by simp) ?_
  refine (acc rfl (fun K hK => ?_) AllReadyH.nil)
  ·skip
   go_simp
   with_reducible refine (S2.out _ (HM0.out.at HN.out B2.out)).mono ?_
   rintro q_ u3 ⟨rfl, hb⟩
   have B3 := Lib.hid (vian HN.out B2.out hb)
   have C3 := Lib.hid (C2.out.below hb)
   clear hb
   clear B2 C2
   refine hK.out _ _ ?s7 (fun hNew => ?r7)
   case s7 => exact C3.out.2.1
   clear hK K hHeld
   have hHeld := hNew
   clear hNew
   refine tzz 7 ?_
   refine wpAnyH_ready (rs := [8]) (by kernel_rfl) (by simp) ?_
   refine (acc rfl (fun K hK => ?_) AllReadyH.nil)
   ·skip
    go_simp
    with_reducible refine (CM.out _).mono ?_
    rintro q_ u4 ⟨rfl, hb⟩
    have B4 := Lib.hid (vian HN.out B3.out hb)
    have C4 := Lib.hid (C3.out.below hb)
    clear hb
    clear B3 C3
    refine hK.out _ _ ?s9 (fun hNew => ?r9)
    case s9 => exact C4.out.2.1
    clear hK K hHeld
    have hHeld := hNew
    clear hNew
    refine tzz 9 ?_
    refine wpAnyH_done (by kernel_rfl) ?_ _
    clear hHeld
    go_wp2_with (fail)
    all_goals (go_ret; exact ⟨rfl, B4.out⟩)
theorem RowG.set {w : World} {a : Option Addr} {n c g : Nat} {f : M} (h : RowG w (.slice a n c) n f g) (j : Nat) (hj : j < n) (x : Int) : RowG (w.setCell ⟨g, j, none⟩ (.int .i64 x)) (.slice a n c) n (upd f j x) g := by
 obtain ⟨a1, c1, e, hc, h⟩ := h
 refine ⟨a1, c1, e, hc, fun h0 => ?_⟩
 obtain ⟨ea, hg, hcs, hf⟩ := h h0
 refine ⟨ea, by simpa using hg, fun k hk => ?_, fun k => ?_⟩
 ·by_cases e1 : k = j
  ·subst e1
   unfold upd
   rw [if_pos rfl]
   exact World.cell?_setCell_same _ _ _ (hcs k hk)
  ·unfold upd
   rw [if_neg e1]
   exact (World.cell?_setCell_other _ _ _ _ (by intro e'; simp only [Addr.mk.injEq] at e'; omega)).trans (hcs k hk)
 ·rw [World.frozen?_setCell]; exact hf k
theorem RowG.off {w w' : World} {v : Value} {n g : Nat} {f : M} (h : RowG w v n f g) (hb : Below w.heap.size w w') : RowG w' v n f g := h.below hb
theorem Keeps.mem {g m : Nat} {w w' : World} {s : Value} {F : M} (hk : Keeps g w w') (h : MemB m w s F) (hm : m ≤ g) (hg : m ≤ w.heap.size) : MemB m w' s F := by
 obtain ⟨a, n, c, h1, h2, h3, h4, h5, h6⟩ := h
 refine ⟨a, n, c, h1, h2, h3, h4, h5, fun h0 => ?_⟩
 obtain ⟨b, o, e1, e2, e3⟩ := h6 h0
 exact ⟨b, o, e1, e2, fun j hj => ((cell_block (hk.block b (by omega) (by omega)) (o + j)).1).trans (e3 j hj)⟩
theorem MemB.here {n : Nat} {W0 u : World} {s : Value} {F : M} (h : MemB n W0 s F) (hb : Below n W0 u) : MemB n u s F := by
 obtain ⟨a, l, c, h1, h2, h3, h4, h5, h6⟩ := h
 refine ⟨a, l, c, h1, h2, h3, h4, h5, fun h0 => ?_⟩
 obtain ⟨b, o, e1, e2, e3⟩ := h6 h0
 exact ⟨b, o, e1, e2, fun j hj => (hb.cell (p := ⟨b, o + j, none⟩) e2).trans (e3 j hj)⟩
theorem MemB.le {n m : Nat} {w : World} {s : Value} {F : M} (h : MemB n w s F) (hm : n ≤ m) : MemB m w s F := by
 obtain ⟨a, l, c, h1, h2, h3, h4, h5, h6⟩ := h
 refine ⟨a, l, c, h1, h2, h3, h4, h5, fun h0 => ?_⟩
 obtain ⟨b, o, e1, e2, e3⟩ := h6 h0
 exact ⟨b, o, e1, by omega, e3⟩
/-- What the sort hands back. -/
def SortE (key : Int → Int) (S : M) (n : Nat) (a : Option Addr) (c g : Nat) (w : World) (v : Value) (e : Ending) (w' : World) : Prop :=
 e = .returned v ∧ ∃ A, RowG w' (.slice a n c) n A g ∧ Same key S A n ∧ Upto key A n ∧ Keeps g w w'
theorem sortE_mk {key : Int → Int} {S A : M} {n c g : Nat} {a : Option Addr} {w w' : World} {v : Value} (h1 : RowG w' (.slice a n c) n A g) (h2 : Same key S A n) (h3 : Upto key A n) (h4 : Keeps g w w') : SortE key S n a c g w v (.returned v) w' := ⟨rfl, A, h1, h2, h3, h4⟩
end Go.Proofs.Ytpfbodmadmneiaa
