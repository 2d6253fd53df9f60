/-
  The walk through CpuCycles: it returns true, for every input and every world in which the bytes lie as told; no other condition.
-/
import Derived.Test.YtngdogldgcgnjaaGreatPre
import Derived.Test.YtngdogldgcgnjaaGreatL6q
import Derived.Deep.Cut
import Derived.Deep.LoopGhost
namespace Go.Proofs.YtngdogldgcgnjaaGreat
open Go.ChangeShapes Go.WideShapes Go.ChangeAt Go.RowKit
open Reg
set_option linter.unusedVariables false
set_option maxRecDepth 100000
theorem and15 (a : Int) (h1 : 0 ≤ a) (h2 : a < 256) : bits .and .u8 a 15 = a % 16 := byte_all (P := fun a => bits .and .u8 a 15 = a % 16) (by decide +kernel) a h1 h2
theorem Bus.clear {w : World} {R M tb n : Nat} {v : Value} {m : Int → Int} {acc : List Ac} (h : Bus ramC w R M tb v m acc n) : Bus ramC (w.setCell ⟨R, 1, none⟩ (.slice none 0 0)) R M tb (.slice none 0 0) m [] 0 := by
  obtain ⟨q, hq⟩ := h.ram
  have o1 := Off.setCell (X := fun k => k = R) w R 1 (.slice none 0 0) rfl
  have hr : Ram (w.setCell ⟨R, 1, none⟩ (.slice none 0 0)) R M m := by
    refine ⟨?_, fun a ha => (o1.cell (p := ⟨M, a, none⟩) h.mlt (fun e => h.rm e.symm)).trans (h.mem a ha), fun a => (o1.frozen (p := ⟨M, a, none⟩) h.mlt (fun e => h.rm e.symm)).trans (h.free a), by simpa using h.mlt, h.rm, h.okm⟩
    have := hq.set 1 (.slice none 0 0) (by show 1 < 2; decide)
    exact this
  exact hr.bus (h.tab.off o1 (fun e => h.rt e.symm)) h.rt h.mt
set_option maxHeartbeats 2000000 in
theorem cycles_long (s : St) (a : Option Addr) (n c : Nat) (h0 : 2000 < n) (k : Int) (w : World) : Calls Tryz.prog 8 #[.agg #[.int .u8 s.r.a, .int .u8 s.r.f, .int .u8 s.r.b, .int .u8 s.r.c, .int .u8 s.r.d, .int .u8 s.r.e, .int .u8 s.r.h, .int .u8 s.r.l, .int .u16 s.r.sp, .int .u16 s.r.pc, .bool s.ime, .bool s.soon, .bool s.halt, .bool s.stop], .slice a n c, .int .u8 k] w fun e w' => e = .returned (.bool true) ∧ Below w.heap.size w w' := by
  have AW := Lib.hid awake_c
  have h0I : (2000 : Int) < n := by omega
  have hnot : ∀ (x : Bool) (w : World), (Op.unary .not (.bool x)).run Tryz.prog w = .ok (.bool (!x)) w := fun _ _ => rfl
  go_enter Tryz.func8, Tryz.ntmps8
  go_wp2_with fail
  with_reducible refine (AW.out _).mono ?_
  rintro e w1 ⟨rfl, b1⟩
  have B1 := Lib.hid (via (own1 w _) b1)
  clear b1
  go_wp2_with fail
  with_reducible refine (AW.out _).mono ?_
  rintro e w2 ⟨rfl, b2⟩
  have B2 := Lib.hid (via B1.out b2)
  clear b2
  go_wp2
  go_ret
  exact ⟨rfl, B2.out⟩
/-- What holds behind so many steps. -/
def CycI (w wr : World) (R M tb pb : Nat) (y : Sy) : Prop := Below w.heap.size w wr ∧ Has wr pb #[.int .u8 y.s.r.a, .int .u8 y.s.r.f, .int .u8 y.s.r.b, .int .u8 y.s.r.c, .int .u8 y.s.r.d, .int .u8 y.s.r.e, .int .u8 y.s.r.h, .int .u8 y.s.r.l, .int .u16 y.s.r.sp, .int .u16 y.s.r.pc, .bool y.s.ime, .bool y.s.soon, .bool y.s.halt, .bool y.s.stop] ∧ y.s.r.ok ∧ y.s.r.f % 16 = 0 ∧ ∃ v n, Bus ramC wr R M tb v y.m y.acc n
theorem cyc_way (y y1 : Sy) (D : DidV) (h : Cyc y y1 D) (i : Nat) (x : Ac) (hx : y1.acc[i]? = some x) :
    ((D.what == 1) = false ∧ (x.k == 3) = false) ∨ ((D.what == 1) = true ∧ ¬ (i : Int) < D.o.s ∧ (x.k == 3) = false) ∨ ((D.what == 1) = true ∧ (i : Int) < D.o.s ∧ (x.k == 3) = true ∧ x.a = (y.s.r.pc + i) % 65536) := by
  obtain ⟨h1, h2⟩ := h.2.2 i x hx
  by_cases hw : D.what = 1
  · by_cases hs : (i : Int) < D.o.s
    · have e := h1.2 ⟨hw, hs⟩
      exact Or.inr (Or.inr ⟨by simpa using hw, hs, by simpa using e, h2 e⟩)
    · exact Or.inr (Or.inl ⟨by simpa using hw, hs, by simp; exact fun e => hs (h1.1 e).2⟩)
  · exact Or.inl ⟨by simpa using hw, by simp; exact fun e => hw (h1.1 e).1⟩
set_option maxHeartbeats 8000000 in
theorem cycles_some (s : St) (ok : s.r.ok) (a0 : Option Addr) (n c : Nat) (h0 : ¬ 2000 < n) (f : Nat → Int) (k : Nat) (hk : k < 256) (w : World) (hby : By w (.slice a0 n c) n f) : Calls Tryz.prog 8 #[.agg #[.int .u8 s.r.a, .int .u8 s.r.f, .int .u8 s.r.b, .int .u8 s.r.c, .int .u8 s.r.d, .int .u8 s.r.e, .int .u8 s.r.h, .int .u8 s.r.l, .int .u16 s.r.sp, .int .u16 s.r.pc, .bool s.ime, .bool s.soon, .bool s.halt, .bool s.stop], .slice a0 n c, .int .u8 k] w fun e w' => e = .returned (.bool true) ∧ Below w.heap.size w w' := by
  have hnot : ∀ (x : Bool) (w : World), (Op.unary .not (.bool x)).run Tryz.prog w = .ok (.bool (!x)) w := fun _ _ => rfl
  have AW := Lib.hid awake_c
  have h0I : ¬ (2000 : Int) < n := by omega
  have HBY := Lib.hid hby
  have OKS := Lib.hid ok
  have HB := Lib.hid (own1 w (.cells #[.int .u8 s.r.a, .int .u8 s.r.f, .int .u8 s.r.b, .int .u8 s.r.c, .int .u8 s.r.d, .int .u8 s.r.e, .int .u8 s.r.h, .int .u8 s.r.l, .int .u16 s.r.sp, .int .u16 s.r.pc, .bool s.ime, .bool s.soon, .bool s.halt, .bool s.stop] 26))
  have HR := Lib.hid (Has.new w #[.int .u8 s.r.a, .int .u8 s.r.f, .int .u8 s.r.b, .int .u8 s.r.c, .int .u8 s.r.d, .int .u8 s.r.e, .int .u8 s.r.h, .int .u8 s.r.l, .int .u16 s.r.sp, .int .u16 s.r.pc, .bool s.ime, .bool s.soon, .bool s.halt, .bool s.stop] 26)
  obtain ⟨q, hq⟩ : ∃ q : Nat, k % 80 = q := ⟨_, rfl⟩
  have hq1 : (k : Int) % 80 = q := by omega
  have hq80 : q < 80 := by omega
  have hkI : (k : Int) < 256 := by omega
  have HQ := Lib.hid hq1
  clear hby ok hq hq1
  go_enter Tryz.func8, Tryz.ntmps8
  go_wp2_with fail
  with_reducible refine (AW.out _).mono ?_
  rintro e w1 ⟨rfl, b1⟩
  have B1 := Lib.hid (via HB.out b1)
  have R1 := Lib.hid (HR.out.below b1)
  have FC := Lib.hid (filled_c (HBY.out.below B1.out))
  have LM := Lib.hid B1.out.size
  clear HB HR b1
  go_wp2_with fail
  with_reducible refine FC.out.mono ?_
  rintro e w2 ⟨rfl, b2, f2⟩
  have Q2 := own1 w2 (.cells #[.slice (some ⟨w1.heap.size, 0, none⟩) 65536 65536, .slice none 0 0] 35)
  have B2 := Lib.hid (via (via B1.out b2) Q2)
  have R2 := Lib.hid ((R1.out.below b2).below Q2)
  have A2 := Lib.hid (f2.ram HBY.out.2.1)
  have LR := Lib.hid (show w.heap.size ≤ w2.heap.size from (via B1.out b2).size)
  clear b2 f2 Q2 FC B1 R1
  go_upto_region 4 with (fail)
  generalize w2.alloc (.cells #[.slice (some ⟨w1.heap.size, 0, none⟩) 65536 65536, .slice none 0 0] 35) = w3 at B2 R2 A2 ⊢
  generalize w1.heap.size = M at A2 LM ⊢
  generalize w2.heap.size = R at A2 LR ⊢
  have hrr := R2.out.2.1
  go_wp2_with fail
  with_reducible refine (state_c s _).mono ?_
  rintro e w4 ⟨rfl, b4⟩
  have B4 := Lib.hid (via B2.out b4)
  have A4 := Lib.hid (A2.out.below b4)
  clear b4 hrr B2 R2 A2
  go_upto_region 6 with (fail)
  obtain ⟨fv, hfv⟩ : ∃ q_, bits BinOp.and IntKind.u8 s.r.f 240 = q_ := ⟨_, rfl⟩
  rw [hfv]
  have fv16 := Lib.hid (show fv % 16 = 0 ∧ 0 ≤ fv ∧ fv < 256 by rw [← hfv, low4 _ OKS.out.2.1.1 OKS.out.2.1.2]; have := OKS.out.2.1; omega)
  have NS := Lib.hid (show ¬ w4.heap.size = M by have := A4.out.mlt; omega)
  have NSR := Lib.hid (show ¬ w4.heap.size = R by have := A4.out.ram.1; omega)
  have LP := Lib.hid B4.out.size
  have Q5 := own1 w4 (.cells #[.int .u8 s.r.a, .int .u8 fv, .int .u8 s.r.b, .int .u8 s.r.c, .int .u8 s.r.d, .int .u8 s.r.e, .int .u8 s.r.h, .int .u8 s.r.l, .int .u16 s.r.sp, .int .u16 s.r.pc, .bool s.ime, .bool s.soon, .bool s.halt, .bool s.stop] 41)
  have B5 := Lib.hid (via B4.out Q5)
  have A5 := Lib.hid (A4.out.below Q5)
  have H5 := Lib.hid (Has.new w4 #[.int .u8 s.r.a, .int .u8 fv, .int .u8 s.r.b, .int .u8 s.r.c, .int .u8 s.r.d, .int .u8 s.r.e, .int .u8 s.r.h, .int .u8 s.r.l, .int .u16 s.r.sp, .int .u16 s.r.pc, .bool s.ime, .bool s.soon, .bool s.halt, .bool s.stop] 41)
  clear Q5 B4 A4 hfv
  generalize w4.alloc (.cells #[.int .u8 s.r.a, .int .u8 fv, .int .u8 s.r.b, .int .u8 s.r.c, .int .u8 s.r.d, .int .u8 s.r.e, .int .u8 s.r.h, .int .u8 s.r.l, .int .u16 s.r.sp, .int .u16 s.r.pc, .bool s.ime, .bool s.soon, .bool s.halt, .bool s.stop] 41) = w5 at B5 A5 H5 ⊢
  generalize w4.heap.size = pb at H5 NS NSR LP ⊢
  go_wp2_with fail
  with_reducible refine (new_c _).mono ?_
  rintro e w' ⟨rfl, rfl⟩
  have T6 := Tab.new w5 81
  have Q6 := own1 w5 (.cells Tryz.zeroCells81 81)
  have B6 := Lib.hid (via B5.out Q6)
  have LT := Lib.hid B5.out.size
  have BB6 := Lib.hid ((A5.out.below Q6).bus (Or.inl T6) (by have := A5.out.ram.1; omega) (by have := A5.out.mlt; omega))
  have H6 := Lib.hid (H5.out.below Q6)
  have NT := Lib.hid (show ¬ pb = w5.heap.size by have := H5.out.1; omega)
  clear T6 Q6 B5 A5 H5
  generalize w5.alloc (.cells Tryz.zeroCells81 81) = w6 at B6 BB6 H6 ⊢
  generalize w5.heap.size = tb at LT NT BB6 ⊢
  obtain ⟨y0, hy0⟩ : ∃ q_, q_ = (⟨⟨{ s.r with f := fv }, s.ime, s.soon, s.halt, s.stop⟩, fillM n f, []⟩ : Sy) := ⟨_, rfl⟩
  have I0 := Lib.hid (show CycI w w6 R M tb pb y0 from ⟨B6.out, by rw [hy0]; exact H6.out, by rw [hy0]; exact ok_f OKS.out fv fv16.out.2.1 fv16.out.2.2, by rw [hy0]; exact fv16.out.1, .slice none 0 0, 0, by rw [hy0]; exact BB6.out⟩)
  clear hy0 B6 BB6 H6
  go_wp2
  go_loopg [38] q (fun g' i wr => ∃ (t : Nat) (y : Sy), t ≤ q ∧ g' + t = q ∧ i = .int .i64 t ∧ CycI w wr R M tb pb y)
  case atStart => exact ⟨0, y0, by omega, by omega, rfl, I0.out⟩
  case round =>
    obtain ⟨t, y, ht, hg, rfl, hI⟩ := hrel
    have TG := Lib.hid hg
    have II := Lib.hid hI
    clear hg hI I0
    by_cases hlt : t < q
    · have l1 : (t : Int) < (k : Int) % 80 := by rw [HQ.out]; omega
      obtain ⟨gko, hgko⟩ : ∃ z, z = gk := ⟨_, rfl⟩
      have GKO := Lib.hid hgko
      clear hgko
      obtain ⟨hB, hH, hok, hf16, v, nn, hBB⟩ := II.out
      have OK := Lib.hid hok
      have F16 := Lib.hid hf16
      have Q1 := own1 wr (.cells #[.int .i64 0, .int .i64 0, .int .u16 0, .int .i64 0, .int .i64 0, .int .i64 0, .int .i64 0, .int .u16 0, .bool false] 46)
      have B1 := Lib.hid (via hB Q1)
      have BB1 := Lib.hid (hBB.below Q1)
      have HP1 := Lib.hid (hH.below Q1)
      have HD1 := Lib.hid (Has.new wr #[.int .i64 0, .int .i64 0, .int .u16 0, .int .i64 0, .int .i64 0, .int .i64 0, .int .i64 0, .int .u16 0, .bool false] 46)
      have LD := Lib.hid hB.size
      have NPD := Lib.hid (show ¬ pb = wr.heap.size by have := hH.1; omega)
      have NDR := Lib.hid (show ¬ wr.heap.size = R by have := hBB.lt (.inl rfl : BX R M tb v R); omega)
      have NDM := Lib.hid (show ¬ wr.heap.size = M by have := hBB.mlt; omega)
      have NDT := Lib.hid (show ¬ wr.heap.size = tb by have := hBB.tab.lt; omega)
      clear hB hH hok hf16 hBB Q1 II
      go_upto_region 10 with (fail)
      generalize wr.alloc (.cells #[.int .i64 0, .int .i64 0, .int .u16 0, .int .i64 0, .int .i64 0, .int .i64 0, .int .i64 0, .int .u16 0, .bool false] 46) = W1 at B1 BB1 HP1 HD1 ⊢
      generalize wr.heap.size = db at HD1 LD NPD NDR NDM NDT ⊢
      have hcs := HP1.out.2.1
      obtain ⟨rq, hrq⟩ := BB1.out.ram
      have hr1 : W1.cell? ⟨R, 1, none⟩ = some v := hrq.2.1 1
      have hr2 := hrq.2.2
      clear hrq
      go_upto_region 12 with (fail)
      clear hcs hr1 hr2
      have BB2 := Lib.hid BB1.out.clear
      have B2 := Lib.hid (B1.out.setCell (p := ⟨R, 1, none⟩) LR.out (.slice none 0 0))
      have HP2 := Lib.hid (HP1.out.far ⟨R, 1, none⟩ (.slice none 0 0) (fun e => NSR.out e.symm))
      have HD2 := Lib.hid (HD1.out.far ⟨R, 1, none⟩ (.slice none 0 0) (fun e => NDR.out e.symm))
      clear BB1 B1 HP1 HD1
      generalize W1.setCell ⟨R, 1, none⟩ (.slice none 0 0) = W2 at BB2 B2 HP2 HD2 ⊢
      have NB2 := Lib.hid (show ¬ BX R M tb (.slice none 0 0) pb from fun hx => by
        rcases hx with hx | hx | hx | hx
        · exact NSR.out hx
        · exact NS.out hx
        · exact NT.out hx
        · simp [Value.ownBlock] at hx)
      have NBD2 := Lib.hid (show ¬ BX R M tb (.slice none 0 0) db from fun hx => by
        rcases hx with hx | hx | hx | hx
        · exact NDR.out hx
        · exact NDM.out hx
        · exact NDT.out hx
        · simp [Value.ownBlock] at hx)
      have hcs := HP2.out.2.1
      go_wp2_with fail
      with_reducible refine (Step_t BB2.out (by omega) y.s OK.out).mono ?_
      rintro e ws ⟨rfl, ok', v1, b', m'⟩
      clear hcs
      have cy := cyc y.s y.m OK.out.2.2.2.2.2.2.2.2.2.1 OK.out.2.2.2.2.2.2.2.2.2.2 BB2.out.okm
      have fz' := Fz.step (y := ⟨y.s, y.m, []⟩) F16.out
      obtain ⟨y1, hy⟩ : ∃ q_, q_ = stepS ⟨y.s, y.m, []⟩ := ⟨_, rfl⟩
      obtain ⟨D, hD⟩ : ∃ q_, q_ = stepD ⟨y.s, y.m, []⟩ := ⟨_, rfl⟩
      rw [← hy] at b' ok' cy fz' ⊢
      rw [← hD] at cy ⊢
      unfold St.cells didC
      have CYC := Lib.hid cy.1
      have AT := Lib.hid cy.2
      have OK1 := Lib.hid ok'
      have FZ1 := Lib.hid fz'
      clear hy ok' hD cy fz'
      have hs' := HP2.out.off m'.1 NB2.out
      have hd' := HD2.out.off m'.1 NBD2.out
      have bl' := B2.out.trans (m'.1.below (fun k hk hx => hx.elim (fun e => absurd LR.out (by omega)) (fun hx => hx.elim (fun e => absurd LM.out (by omega)) (fun hx => hx.elim (fun e => absurd LT.out (by omega)) (fun e => by simp [Value.ownBlock] at e)))) B2.out.size)
      have NB1 := Lib.hid (m'.far HP2.out.1 NB2.out)
      have NBD1 := Lib.hid (m'.far HD2.out.1 NBD2.out)
      clear m'
      have g1 := hs'.2.1
      have g2 := hs'.2.2
      have g3 := hd'.2.1
      have g4 := hd'.2.2
      have nsd := NPD.out
      have nsd2 : ¬ db = pb := fun e => nsd e.symm
      go_upto_region 13 with (fail)
      clear g1 g2 g3 g4 nsd nsd2
      have o1 := Off.put14 ws pb y1.s
      have o2 := Off.put9 (World.setCell (World.setCell (World.setCell (World.setCell (World.setCell (World.setCell (World.setCell (World.setCell (World.setCell (World.setCell (World.setCell (World.setCell (World.setCell (World.setCell ws ⟨pb, 0, none⟩ (.int .u8 y1.s.r.a)) ⟨pb, 1, none⟩ (.int .u8 y1.s.r.f)) ⟨pb, 2, none⟩ (.int .u8 y1.s.r.b)) ⟨pb, 3, none⟩ (.int .u8 y1.s.r.c)) ⟨pb, 4, none⟩ (.int .u8 y1.s.r.d)) ⟨pb, 5, none⟩ (.int .u8 y1.s.r.e)) ⟨pb, 6, none⟩ (.int .u8 y1.s.r.h)) ⟨pb, 7, none⟩ (.int .u8 y1.s.r.l)) ⟨pb, 8, none⟩ (.int .u16 y1.s.r.sp)) ⟨pb, 9, none⟩ (.int .u16 y1.s.r.pc)) ⟨pb, 10, none⟩ (.bool y1.s.ime)) ⟨pb, 11, none⟩ (.bool y1.s.soon)) ⟨pb, 12, none⟩ (.bool y1.s.halt)) ⟨pb, 13, none⟩ (.bool y1.s.stop)) db D
      have HP3 := Lib.hid ((hs'.put14 y1.s).off o2 NPD.out)
      have HD3 := hd'.off o1 (fun e => NPD.out (show db = pb from e).symm)
      have HD4 := Lib.hid (show Has (World.setCell (World.setCell (World.setCell (World.setCell (World.setCell (World.setCell (World.setCell (World.setCell (World.setCell (World.setCell (World.setCell (World.setCell (World.setCell (World.setCell (World.setCell (World.setCell (World.setCell (World.setCell (World.setCell (World.setCell (World.setCell (World.setCell (World.setCell ws ⟨pb, 0, none⟩ (.int .u8 y1.s.r.a)) ⟨pb, 1, none⟩ (.int .u8 y1.s.r.f)) ⟨pb, 2, none⟩ (.int .u8 y1.s.r.b)) ⟨pb, 3, none⟩ (.int .u8 y1.s.r.c)) ⟨pb, 4, none⟩ (.int .u8 y1.s.r.d)) ⟨pb, 5, none⟩ (.int .u8 y1.s.r.e)) ⟨pb, 6, none⟩ (.int .u8 y1.s.r.h)) ⟨pb, 7, none⟩ (.int .u8 y1.s.r.l)) ⟨pb, 8, none⟩ (.int .u16 y1.s.r.sp)) ⟨pb, 9, none⟩ (.int .u16 y1.s.r.pc)) ⟨pb, 10, none⟩ (.bool y1.s.ime)) ⟨pb, 11, none⟩ (.bool y1.s.soon)) ⟨pb, 12, none⟩ (.bool y1.s.halt)) ⟨pb, 13, none⟩ (.bool y1.s.stop)) ⟨db, 0, none⟩ (.int .i64 D.what)) ⟨db, 1, none⟩ (.int .i64 D.n)) ⟨db, 2, none⟩ (.int .u16 D.at')) ⟨db, 3, none⟩ (.int .i64 D.o.k)) ⟨db, 4, none⟩ (.int .i64 D.o.x)) ⟨db, 5, none⟩ (.int .i64 D.o.y)) ⟨db, 6, none⟩ (.int .i64 D.o.s)) ⟨db, 7, none⟩ (.int .u16 D.o.n)) ⟨db, 8, none⟩ (.bool D.t)) db #[.int .i64 D.what, .int .i64 D.n, .int .u16 y.s.r.pc, .int .i64 D.o.k, .int .i64 D.o.x, .int .i64 D.o.y, .int .i64 D.o.s, .int .u16 D.o.n, .bool D.t] by have := HD3.put9 D; rw [AT.out] at this; rw [AT.out]; exact this)
      have BB3 := Lib.hid ((b'.keep o1 (fun k hk e => NB1.out (by rw [← show k = pb from e]; exact hk))).keep o2 (fun k hk e => NBD1.out (by rw [← show k = db from e]; exact hk)))
      have B3 := Lib.hid ((bl'.trans (o1.below (fun k hk e => by have := LP.out; have e' : k = pb := e; omega) bl'.size)).trans (o2.below (fun k hk e => by have := LD.out; have e' : k = db := e; omega) (by have := bl'.size; have := o1.size; omega)))
      clear o1 o2 hs' hd' bl' b' HD3 HP2 HD2 B2 BB2 NB2 NBD2 NB1 NBD1
      generalize (World.setCell (World.setCell (World.setCell (World.setCell (World.setCell (World.setCell (World.setCell (World.setCell (World.setCell (World.setCell (World.setCell (World.setCell (World.setCell (World.setCell (World.setCell (World.setCell (World.setCell (World.setCell (World.setCell (World.setCell (World.setCell (World.setCell (World.setCell ws ⟨pb, 0, none⟩ (.int .u8 y1.s.r.a)) ⟨pb, 1, none⟩ (.int .u8 y1.s.r.f)) ⟨pb, 2, none⟩ (.int .u8 y1.s.r.b)) ⟨pb, 3, none⟩ (.int .u8 y1.s.r.c)) ⟨pb, 4, none⟩ (.int .u8 y1.s.r.d)) ⟨pb, 5, none⟩ (.int .u8 y1.s.r.e)) ⟨pb, 6, none⟩ (.int .u8 y1.s.r.h)) ⟨pb, 7, none⟩ (.int .u8 y1.s.r.l)) ⟨pb, 8, none⟩ (.int .u16 y1.s.r.sp)) ⟨pb, 9, none⟩ (.int .u16 y1.s.r.pc)) ⟨pb, 10, none⟩ (.bool y1.s.ime)) ⟨pb, 11, none⟩ (.bool y1.s.soon)) ⟨pb, 12, none⟩ (.bool y1.s.halt)) ⟨pb, 13, none⟩ (.bool y1.s.stop)) ⟨db, 0, none⟩ (.int .i64 D.what)) ⟨db, 1, none⟩ (.int .i64 D.n)) ⟨db, 2, none⟩ (.int .u16 D.at')) ⟨db, 3, none⟩ (.int .i64 D.o.k)) ⟨db, 4, none⟩ (.int .i64 D.o.x)) ⟨db, 5, none⟩ (.int .i64 D.o.y)) ⟨db, 6, none⟩ (.int .i64 D.o.s)) ⟨db, 7, none⟩ (.int .u16 D.o.n)) ⟨db, 8, none⟩ (.bool D.t)) = W3 at HP3 HD4 BB3 B3 ⊢
      obtain ⟨a1, c1, hv1, har⟩ := BB3.out.ar
      obtain ⟨L, hL⟩ : ∃ L, y1.acc.length = L := ⟨_, rfl⟩
      rw [hL] at hv1
      have HL := Lib.hid hL
      have AR1 := Lib.hid har
      have L1 : 1 ≤ L := by rw [← hL]; exact CYC.out.1
      have L6 : L ≤ 6 := by rw [← hL]; exact CYC.out.2.1
      have NXT := Lib.hid (show CycI w W3 R M tb pb y1 from ⟨B3.out, HP3.out, OK1.out, FZ1.out, v1, _, BB3.out⟩)
      obtain ⟨rq, hrq⟩ := BB3.out.ram
      have hr1 : W3.cell? ⟨R, 1, none⟩ = some v1 := hrq.2.1 1
      rw [hv1] at hr1
      clear hrq har hL hv1 B3 BB3
      have L1I : (1 : Int) ≤ L := by omega
      have L6I : (L : Int) ≤ 6 := by omega
      have e15 : bits BinOp.and IntKind.u8 y1.s.r.f 15 = 0 := by rw [and15 _ OK1.out.2.1.1 OK1.out.2.1.2]; exact FZ1.out
      have hcs := HP3.out.2.1
      have hds := HD4.out.2.1
      go_wp2
      clear hcs e15 HP3 HD4
      go_loopg [86] L (fun g'' i wx => ∃ j : Nat, j ≤ L ∧ g'' + j = L ∧ i = .int .i64 j ∧ wx = W3)
      case atStart => exact ⟨0, by omega, by omega, rfl, rfl⟩
      case round =>
        obtain ⟨j, hj, hg2, rfl, hwx⟩ := hrel
        subst hwx
        have JG := Lib.hid hg2
        clear hg2
        by_cases hjl : j < L
        · have j1 : (j : Int) < L := by omega
          have j0 : (0 : Int) ≤ j := by omega
          have j6 : (j : Int) ≤ 6 := by omega
          have hx : y1.acc[j]? = some (y1.acc[j]'(by rw [HL.out]; exact hjl)) := List.getElem?_eq_getElem _
          generalize (y1.acc[j]'(by rw [HL.out]; exact hjl)) = x at hx
          obtain ⟨xb, xo, hae, hxl, p0, p1, p2⟩ := AR1.out j x hx
          have hw := cyc_way ⟨y.s, y.m, []⟩ y1 D CYC.out j x hx
          dsimp only at hw
          clear hx p2 hxl AR1
          subst hae
          generalize x.k = xk at p0 hw
          generalize x.a = xa at p1 hw
          rcases hw with ⟨h1, h2⟩ | ⟨h1, h2, h3⟩ | ⟨h1, h2, h3, h4⟩
          · go_wp2
            go_roundg (gk - 1)
            exact ⟨j + 1, by omega, by have := JG.out; omega, by simp, rfl⟩
            case measure => have := JG.out; omega
          · go_wp2
            go_roundg (gk - 1)
            exact ⟨j + 1, by omega, by have := JG.out; omega, by simp, rfl⟩
            case measure => have := JG.out; omega
          · rw [show (y.s.r.pc + (j : Int)) % 65536 = IntKind.u16.wrap (y.s.r.pc + (j : Int)) from by rw [IntKind.wrap_u16]] at h4
            subst h4
            go_wp2
            go_roundg (gk - 1)
            exact ⟨j + 1, by omega, by have := JG.out; omega, by simp, rfl⟩
            case measure => have := JG.out; omega
        · have ej : j = L := by omega
          subst ej
          go_wp2
          go_roundg (gko - 1)
          exact ⟨t + 1, y1, by omega, by have := TG.out; have := GKO.out; omega, by simp, NXT.out⟩
          case measure => have := TG.out; have := GKO.out; omega
    · have e : ¬ (t : Int) < (k : Int) % 80 := by rw [HQ.out]; omega
      go_wp2
      go_ret
      exact ⟨rfl, II.out.1⟩
theorem cycles_walk (s : St) (ok : s.r.ok) (v : Value) (k : Nat) (hk : k < 256) (w : World) (h : ∃ (a : Option Addr) (n c : Nat), v = .slice a n c ∧ n ≤ 9223372036854775807 ∧ (n < 4611686018427387904 → ∃ f, By w v n f)) : Calls Tryz.prog 8 #[.agg #[.int .u8 s.r.a, .int .u8 s.r.f, .int .u8 s.r.b, .int .u8 s.r.c, .int .u8 s.r.d, .int .u8 s.r.e, .int .u8 s.r.h, .int .u8 s.r.l, .int .u16 s.r.sp, .int .u16 s.r.pc, .bool s.ime, .bool s.soon, .bool s.halt, .bool s.stop], v, .int .u8 k] w fun e w' => e = .returned (.bool true) ∧ Below w.heap.size w w' := by
  obtain ⟨a, n, c, rfl, hn, hf⟩ := h
  by_cases h0 : 2000 < n
  · exact cycles_long s a n c h0 k w
  · obtain ⟨f, hby⟩ := hf (by omega)
    exact cycles_some s ok a n c h0 f k hk w hby
end Go.Proofs.YtngdogldgcgnjaaGreat
