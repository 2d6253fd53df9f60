/-
  The walk through CpuEach: it returns true, for every input and every world in which the bytes lie as told; no other condition.
-/
import Derived.Test.YtngdogldgcgnjaaGreatZEv
import Derived.Deep.Cut
import Derived.Deep.DeepCutAuto
import Derived.Deep.LoopGhost
import Derived.Deep.CutBlock
import Derived.LoopN
namespace Go.Proofs.YtngdogldgcgnjaaGreat
open Go.ChangeShapes Go.WideShapes Go.ChangeAt Go.RowKit
open Reg
set_option linter.unusedVariables false
set_option maxHeartbeats 8000000
set_option maxRecDepth 100000
def Code3 (N : Nat) (w0 wx : World) (R M R2 M2 sb : Nat) (m : Int → Int) (A : Array Value) (x : Value) : Prop := ∃ (cb : Nat) (g : Nat → Int), x = .slice (some ⟨cb, 0, none⟩) 3 3 ∧ (∀ i, 0 ≤ g i ∧ g i < 256) ∧ Ev N w0 wx R M R2 M2 sb m A ∧ Fresh N wx R M R2 M2 cb #[.int .u8 (g 0), .int .u8 (g 1), .int .u8 (g 2)]
def g3 (a b c : Int) : Nat → Int := fun i => if i = 0 then a else if i = 1 then b else if i = 2 then c else 0
theorem g3_ok {a b c : Int} (ha : 0 ≤ a ∧ a < 256) (hb : 0 ≤ b ∧ b < 256) (hc : 0 ≤ c ∧ c < 256) (i : Nat) : 0 ≤ g3 a b c i ∧ g3 a b c i < 256 := by
 unfold g3; repeat' split
 all_goals omega
theorem w256 (c : Int) (h1 : 0 ≤ c) (h2 : c < 65536) : bits .and .u16 c 256 = c / 256 % 2 * 256 := by
 obtain ⟨n, rfl⟩ := Int.eq_ofNat_of_zero_le h1; have := u16_and_nat n 256 (by omega) (by decide)
 rw [show ((256 : Int)) = ((256 : Nat) : Int) from rfl, this, show (256 : Nat) = 2 ^ 8 from rfl, nat_bit]
 push_cast
 rfl
theorem each_some (s : St) (ok : s.r.ok) (a0 : Option Addr) (n c : Nat) (h0 : ¬ 2000 < n) (f : Nat → Int) (j k l : Nat) (hj : j < 65536) (hk : k < 256) (hl : l < 256) (w : World) (hby : By w (.slice a0 n c) n f) : Calls Tryz.prog 4 #[.agg #[.int .u8 s.r.a, .int .u8 s.r.f, .int .u8 s.r.b, .int .u8 s.r.c, .int .u8 s.r.d, .int .u8 s.r.e, .int .u8 s.r.h, .int .u8 s.r.l, .int .u16 s.r.sp, .int .u16 s.r.pc, .bool s.ime, .bool s.soon, .bool s.halt, .bool s.stop], .int .u16 j, .int .u8 k, .int .u8 l, .slice a0 n c] w fun e w' => e = .returned (.bool true) ∧ Below w.heap.size w w' := by
 have hnot := nt
 have AW := Hd awake_c
 have h0I : ¬ (2000 : Int) < n := by omega
 have HBY := Hd hby; have OKS := Hd ok; have HB := Hd (own1 w (.cells #[.int .u8 s.r.a, .int .u8 s.r.f, .int .u8 s.r.b, .int .u8 s.r.c, .int .u8 s.r.d, .int .u8 s.r.e, .int .u8 s.r.h, .int .u8 s.r.l, .int .u16 s.r.sp, .int .u16 s.r.pc, .bool s.ime, .bool s.soon, .bool s.halt, .bool s.stop] 26)); have HR := Hd (Has.new w #[.int .u8 s.r.a, .int .u8 s.r.f, .int .u8 s.r.b, .int .u8 s.r.c, .int .u8 s.r.d, .int .u8 s.r.e, .int .u8 s.r.h, .int .u8 s.r.l, .int .u16 s.r.sp, .int .u16 s.r.pc, .bool s.ime, .bool s.soon, .bool s.halt, .bool s.stop] 26); obtain ⟨jj, hjj⟩ : ∃ q : Int, (j : Int) % 256 = q := ⟨_, rfl⟩
 have jw : IntKind.u8.wrap (j : Int) = jj := by rw [IntKind.wrap_u8']; exact hjj
 have JB := Hd (show 0 ≤ jj ∧ jj < 256 by omega)
 have KB := Hd (show 0 ≤ (k : Int) ∧ (k : Int) < 256 by omega)
 have LB := Hd (show 0 ≤ (l : Int) ∧ (l : Int) < 256 by omega)
 have e256 := w256 j (by omega) (by omega); clear hby ok; go_enter Tryz.func4, Tryz.ntmps4; go_wp2_with fail
 with_reducible refine (AW.out _).mono ?_
 rintro e w1 ⟨rfl, b1⟩; have B2 := Hd (via HB.out b1); have H2 := Hd (HR.out.below b1); clear HB HR b1; have FC := Hd (filled_c (HBY.out.below B2.out)); have LM := Hd B2.out.size
 have SZ := Hd (show w.heap.size ≠ w1.heap.size from fun e => absurd H2.out.1 (Nat.not_lt.2 (Nat.le_of_eq e.symm)))
 go_wp2_with fail
 with_reducible refine FC.out.mono ?_
 rintro e w3 ⟨rfl, b3, f3⟩; have Q4 := own1 w3 (.cells #[.slice (some ⟨w1.heap.size, 0, none⟩) 65536 65536, .slice none 0 0] 35); have B4 := Hd (via (via B2.out b3) Q4); have H4 := Hd ((H2.out.below b3).below Q4); have A4 := Hd (f3.ram HBY.out.2.1)
 have LR := Hd (show w.heap.size ≤ w3.heap.size from (via B2.out b3).size)
 have SR := Hd (show w.heap.size ≠ w3.heap.size by have := (H2.out.below b3).1; omega)
 clear b3 f3 Q4 FC B2 H2; have FC := Hd (filled_c (HBY.out.below B4.out)); go_wp2_with fail; generalize w3.alloc (.cells #[.slice (some ⟨w1.heap.size, 0, none⟩) 65536 65536, .slice none 0 0] 35) = w4 at B4 H4 A4 FC ⊢; generalize w1.heap.size = M at A4 LM SZ ⊢; generalize w3.heap.size = R at A4 LR SR ⊢
 with_reducible refine FC.out.mono ?_
 rintro e w5 ⟨rfl, b5, f5⟩; have Q6 := own1 w5 (.cells #[.slice (some ⟨w4.heap.size, 0, none⟩) 65536 65536, .slice none 0 0, .int .u8 0, .int .i64 0, .bool false, .slice none 0 0] 38); have B6 := Hd (via (via B4.out b5) Q6); have H6 := Hd ((H4.out.below b5).below Q6); have A6 := Hd ((A4.out.below b5).below Q6); have G6 := Hd (f5.dram HBY.out.2.1); have a4r := A4.out.ram.1; have a4m := A4.out.mlt; have h4l := H4.out.1; have s5 := b5.size
 have NN := Hd (show R ≠ w5.heap.size ∧ R ≠ w4.heap.size ∧ M ≠ w5.heap.size ∧ M ≠ w4.heap.size by omega)
 have SS := Hd (show w.heap.size ≠ w5.heap.size ∧ w.heap.size ≠ w4.heap.size by omega)
 have LM2 := Hd B4.out.size
 have LR2 := Hd (show w.heap.size ≤ w5.heap.size from (via B4.out b5).size)
 clear b5 f5 Q6 FC B4 H4 A4 a4r a4m s5 h4l
 unfold memC at G6
 go_upto_region 4 with (fail); generalize w5.alloc (.cells #[.slice (some ⟨w4.heap.size, 0, none⟩) 65536 65536, .slice none 0 0, .int .u8 0, .int .i64 0, .bool false, .slice none 0 0] 38) = w6 at B6 H6 A6 G6 ⊢; generalize w4.heap.size = M2 at G6 LM2 NN SS ⊢; generalize w5.heap.size = R2 at G6 LR2 NN SS ⊢
 have EV := Hd (show Ev w.heap.size w w6 R M R2 M2 w.heap.size (fillM n f) #[.int .u8 s.r.a, .int .u8 s.r.f, .int .u8 s.r.b, .int .u8 s.r.c, .int .u8 s.r.d, .int .u8 s.r.e, .int .u8 s.r.h, .int .u8 s.r.l, .int .u16 s.r.sp, .int .u16 s.r.pc, .bool s.ime, .bool s.soon, .bool s.halt, .bool s.stop] from ⟨B6.out, A6.out, G6.out, ⟨H6.out, Nat.le_refl _, SR.out, SZ.out, SS.out.1, SS.out.2⟩, NN.out, ⟨LM.out, LR.out, LM2.out, LR2.out⟩⟩)
 clear B6 H6 A6 G6 SR SZ SS NN LM LR LM2 LR2; generalize hN : w.heap.size = N at EV ⊢; replace hN := Hd hN; have F7 := Hd (EV.out.new #[.int .u8 jj, .int .u8 k, .int .u8 l] 5); have E7 := Hd (EV.out.next (own1 w6 (.cells #[.int .u8 jj, .int .u8 k, .int .u8 l] 5))); go_upto_region 5 with (fail); generalize w6.alloc (.cells #[.int .u8 jj, .int .u8 k, .int .u8 l] 5) = w7 at F7 E7 ⊢; generalize w6.heap.size = cb at F7 ⊢; clear EV; go_upto_if 42 with (fail)
 go_cut [13] (fun x13 wx => Code3 N w wx R M R2 M2 N (fillM n f) #[.int .u8 s.r.a, .int .u8 s.r.f, .int .u8 s.r.b, .int .u8 s.r.c, .int .u8 s.r.d, .int .u8 s.r.e, .int .u8 s.r.h, .int .u8 s.r.l, .int .u16 s.r.sp, .int .u16 s.r.pc, .bool s.ime, .bool s.soon, .bool s.halt, .bool s.stop] x13)
 case first =>
  rcases (by omega : (j : Int) / 256 % 2 = 0 ∨ (j : Int) / 256 % 2 = 1) with g | g
  ·rw [g] at e256
   go_wp2
   go_meet
   exact ⟨cb, g3 jj k l, rfl, g3_ok JB.out KB.out LB.out, E7.out, F7.out⟩
  ·rw [g] at e256
   go_wp2
   go_meet
   exact ⟨_, g3 203 jj l, rfl, g3_ok (by decide) JB.out LB.out, E7.out.next (own1 _ _), E7.out.new _ _⟩
 case rest =>
  obtain ⟨cb, g, rfl, hg, hE, hF⟩ := hcut; have GG := Hd hg; have E0 := Hd hE; have F0 := Hd hF; clear hg hE hF E7 F7 jw e256 JB KB LB hjj; go_wp2
  go_loopg [49] 3 (fun g' i wr => ∃ (t : Nat) (m : Int → Int), t ≤ 3 ∧ g' + t = 3 ∧ i = .int .i64 t ∧ Ev N w wr R M R2 M2 N m #[.int .u8 s.r.a, .int .u8 s.r.f, .int .u8 s.r.b, .int .u8 s.r.c, .int .u8 s.r.d, .int .u8 s.r.e, .int .u8 s.r.h, .int .u8 s.r.l, .int .u16 s.r.sp, .int .u16 s.r.pc, .bool s.ime, .bool s.soon, .bool s.halt, .bool s.stop] ∧ Fresh N wr R M R2 M2 cb #[.int .u8 (g 0), .int .u8 (g 1), .int .u8 (g 2)])
  case atStart => exact ⟨0, fillM n f, by omega, by omega, rfl, E0.out, F0.out⟩
  case round =>
   obtain ⟨t, m, ht, hg2, rfl, hE, hF⟩ := hrel; have TG := Hd hg2; have E1 := Hd hE; have F1 := Hd hF; clear hg2 hE hF E0 F0
   by_cases hlt : t < 3
   ·have l1 : (t : Int) < 3 := by omega
    have l0 : (0 : Int) ≤ t := by omega
    obtain ⟨x, hx⟩ : ∃ x, x = g t := ⟨_, rfl⟩
    have XB := Hd (show 0 ≤ x ∧ x < 256 from hx ▸ GG.out t)
    have hct : wr.cell? ⟨cb, t, none⟩ = some (.int .u8 x) := by
     rw [F1.out.1.2.1 t, hx]
     rcases (by omega : t = 0 ∨ t = 1 ∨ t = 2) with rfl | rfl | rfl <;> rfl
    have HX := Hd hct
    obtain ⟨pa, hpa⟩ : ∃ pa : Nat, (pa : Int) = (s.r.pc + t) % 65536 := ⟨((s.r.pc + t) % 65536).toNat, by omega⟩
    have PA := Hd (show pa < 65536 by omega)
    have pl : (pa : Int) < 65536 := by omega
    have p0 : (0 : Int) ≤ pa := by omega
    have hpw : IntKind.u16.wrap (s.r.pc + IntKind.u16.wrap (t : Int)) = (pa : Int) := by rw [IntKind.wrap_u16, IntKind.wrap_u16, hpa]; omega
    clear hct hx hpa; go_upto_region 10 with (fail); have E2 := Hd E1.out.drew; have F2 := Hd (F1.out.below (Below.refl _ _).drew); have X2 := Hd (four E2.out F2.out.1.1 (HX.out)); clear E1 F1 HX; have hcm := E2.out.a.mem pa PA.out; have hfm := E2.out.a.free; have hcn := E2.out.g.mem pa PA.out; have hfn := E2.out.g.free; have n1 : ¬ M = M2 := E2.out.d.2.2.2
    have n2 : ¬ M2 = M := fun e => E2.out.d.2.2.2 e.symm
    refine wp_region_held_drew (S := (fun w' => w'.cell? ⟨R, 0, none⟩ = some (.slice (some ⟨M, 0, none⟩) 65536 65536) ∧ w'.cell? ⟨R2, 0, none⟩ = some (.slice (some ⟨M2, 0, none⟩) 65536 65536) ∧ w'.cell? ⟨N, 9, none⟩ = some (.int .u16 s.r.pc) ∧ w'.cell? ⟨cb, t, none⟩ = some (.int .u8 x))) (by kernel_rfl) X2.out (fun hHeld => ?_)
    generalize World.drew wr = u0 at hHeld E2 F2 X2 hcm hfm hcn hfn ⊢; refine tz 0 ?_; refine tz 1 ?_; refine tz 2 ?_; refine tz 3 ?_; refine tz 4 ?_; refine tz 5 ?_; refine tz 6 ?_; refine tz 7 ?_; refine tz 8 ?_; refine tz 9 ?_; refine tz 10 ?_; refine tz 11 ?_; refine tz 12 ?_; refine tz 13 ?_; refine tz 14 ?_; refine tz 15 ?_; refine tz 16 ?_; refine tz 17 ?_; refine tz 18 ?_; refine tz 19 ?_; refine tz 20 ?_; refine tz 21 ?_; refine tz 22 ?_; refine tz 23 ?_; refine tz 24 ?_; refine tz 25 ?_; refine tz 26 ?_; refine tz 27 ?_; refine tz 28 ?_
    refine re1 29 (fun K hK => ?_)
    go_simp
    refine hK.out _ _ (four' (Off.setCell _ M pa _ rfl) X2.out ⟨E2.out.a.ram.1, E2.out.g.ram.1, E2.out.h.1.1, F2.out.1.1⟩ ⟨E2.out.a.rm, fun e => E2.out.d.2.2.1 e.symm, E2.out.h.2.2.2.1, F2.out.2.2.2.1⟩) (fun hNew => ?_); clear hK K hHeld; have hHeld := hNew; clear hNew
    refine tz 30 ?_
    refine re1 31 (fun K hK => ?_)
    go_simp
    refine hK.out _ _ (four' (Off.setCell _ M2 pa _ rfl) (four' (Off.setCell _ M pa _ rfl) X2.out ⟨E2.out.a.ram.1, E2.out.g.ram.1, E2.out.h.1.1, F2.out.1.1⟩ ⟨E2.out.a.rm, fun e => E2.out.d.2.2.1 e.symm, E2.out.h.2.2.2.1, F2.out.2.2.2.1⟩) (by simpa using ⟨E2.out.a.ram.1, E2.out.g.ram.1, E2.out.h.1.1, F2.out.1.1⟩) ⟨E2.out.d.2.1, E2.out.g.rm, E2.out.h.2.2.2.2.2, F2.out.2.2.2.2.2⟩) (fun hNew => ?_); clear hK K hHeld; have hHeld := hNew; clear hNew
    refine wpAnyH_done (by kernel_rfl) ?_ _
    clear hHeld hcm hfm hcn hfn n1 n2; go_wp2
    go_roundg (gk - 1)
    exact ⟨t + 1, upd m pa x, by omega, by have := TG.out; omega, by simp, E2.out.poke pa PA.out x XB.out.1 XB.out.2, F2.out.poke pa _⟩
    case measure => have := TG.out; omega
   ·have et : t = 3 := by omega
    subst et; have hcs := E1.out.h.1.2.1; have hfs := E1.out.h.1.2.2; go_upto_region 13 with (fail); clear hcs hfs; have E2 := Hd E1.out.flags; generalize ((wr.setCell ⟨N, 12, none⟩ (.bool false)).setCell ⟨N, 13, none⟩ (.bool false)).setCell ⟨N, 10, none⟩ (.bool false) = wf at E2 ⊢; clear E1 F1; obtain ⟨s1, hs1⟩ : ∃ s1 : St, s1 = ⟨s.r, false, s.soon, false, false⟩ := ⟨_, rfl⟩
    have OK1 := Hd (show s1.r.ok from hs1 ▸ OKS.out)
    obtain ⟨y1, hy⟩ : ∃ q_, q_ = stepS ⟨s1, m, []⟩ := ⟨_, rfl⟩; obtain ⟨D, hD⟩ : ∃ q_, q_ = stepD ⟨s1, m, []⟩ := ⟨_, rfl⟩; have HY := Hd hy; have HD := Hd hD; have HS1 := Hd hs1
    have MST := Hd (show ∀ (tb : Nat) (W : World) (V : Value), Bus memC W R2 M2 tb V m [] 0 → Calls Tryz.prog 15 #[.agg #[.int .u8 s.r.a, .int .u8 s.r.f, .int .u8 s.r.b, .int .u8 s.r.c, .int .u8 s.r.d, .int .u8 s.r.e, .int .u8 s.r.h, .int .u8 s.r.l, .int .u16 s.r.sp, .int .u16 s.r.pc, .bool false, .bool s.soon, .bool false, .bool false], .pointer (some ⟨R2, 0, none⟩)] W fun e w' => e = .returned (.tuple #[.agg #[.int .u8 y1.s.r.a, .int .u8 y1.s.r.f, .int .u8 y1.s.r.b, .int .u8 y1.s.r.c, .int .u8 y1.s.r.d, .int .u8 y1.s.r.e, .int .u8 y1.s.r.h, .int .u8 y1.s.r.l, .int .u16 y1.s.r.sp, .int .u16 y1.s.r.pc, .bool y1.s.ime, .bool y1.s.soon, .bool y1.s.halt, .bool y1.s.stop], .agg #[.int .i64 D.what, .int .i64 D.n, .int .u16 D.at', .int .i64 D.o.k, .int .i64 D.o.x, .int .i64 D.o.y, .int .i64 D.o.s, .int .u16 D.o.n, .bool D.t]]) ∧ ∃ v', Bus memC w' R2 M2 tb v' y1.m y1.acc 12 ∧ BM R2 M2 tb V W v' w' from fun tb W V hb => by
     have q := mstep_t (y := ⟨s1, m, []⟩) hb (by decide) OK1.out; rw [hs1] at q
     refine q.mono ?_
     rintro e w' ⟨rfl, _, v', b', m'⟩; rw [← hs1, ← hy] at b'; rw [← hs1, ← hy, ← hD]
     exact ⟨rfl, v', b', m'⟩)
    refine reg13 _ _ _ _ _ _ _ _ _ _ _ _ _ _ _ _ _ _ _ _ _ _ _ _ _ _ _ _ _ _ _ _ _ _ _ _ _ _ _ _ _ _ _ _ _ _ _ _ _ _ _ _ _ _ _ _ _ _ _ _ _ _ _ _ _ _ _ _ _ _ _ _ _ _ _ _ _ _ _ _ _ _ _ _ _ _ _ _ _ _ _ _ _ _ _ _ _ _ _ _ _ _ _ _ _ _ _ _ _ _ _ _ _ _ _ _ _ E2 hs1 OK1.out hy hD ?_
    clear hy hD hs1
    intro tb pb db v d86 d87 d88 d89 d90 d91 d92 d93 d94 wx hx
    obtain ⟨hX, hP, hE⟩ := hx; have X1 := Hd hX; have P1 := Hd hP; have E1 := Hd hE; clear hX hP hE E2; have hcs := X1.out.h.1.2.1; have hDb : Bus memC wx R2 M2 tb (.slice none 0 0) m [] 0 := X1.out.d.b; go_wp2_with fail
    with_reducible refine (MST.out _ _ _ hDb).mono ?_
    rintro e W4 ⟨rfl, v3, b', m'⟩; clear hcs hDb MST; have X4 := Hd (X1.out.right b' m'); have P4 := Hd (P1.out.right m'); have E4 := Hd (E1.out.right m'); clear b' m' X1 P1 E1; go_upto_region 15 with (fail); have hz := own2 W4 (.cells #[.int .u8 y1.s.r.a, .int .u8 y1.s.r.f, .int .u8 y1.s.r.b, .int .u8 y1.s.r.c, .int .u8 y1.s.r.d, .int .u8 y1.s.r.e, .int .u8 y1.s.r.h, .int .u8 y1.s.r.l, .int .u16 y1.s.r.sp, .int .u16 y1.s.r.pc, .bool y1.s.ime, .bool y1.s.soon, .bool y1.s.halt, .bool y1.s.stop] 26) (.cells #[.int .i64 D.what, .int .i64 D.n, .int .u16 D.at', .int .i64 D.o.k, .int .i64 D.o.x, .int .i64 D.o.y, .int .i64 D.o.s, .int .u16 D.o.n, .bool D.t] 49); have X5 := Hd (X4.out.next hz); have P5 := Hd (P4.out.below hz); have E5 := Hd (E4.out.below hz); have Q5 := Hd ((X4.out.d.new #[.int .u8 y1.s.r.a, .int .u8 y1.s.r.f, .int .u8 y1.s.r.b, .int .u8 y1.s.r.c, .int .u8 y1.s.r.d, .int .u8 y1.s.r.e, .int .u8 y1.s.r.h, .int .u8 y1.s.r.l, .int .u16 y1.s.r.sp, .int .u16 y1.s.r.pc, .bool y1.s.ime, .bool y1.s.soon, .bool y1.s.halt, .bool y1.s.stop] 26).below (own1 _ (.cells #[.int .i64 D.what, .int .i64 D.n, .int .u16 D.at', .int .i64 D.o.k, .int .i64 D.o.x, .int .i64 D.o.y, .int .i64 D.o.s, .int .u16 D.o.n, .bool D.t] 49)))
    have F5 := Hd (show Mine N ((W4.alloc (.cells #[.int .u8 y1.s.r.a, .int .u8 y1.s.r.f, .int .u8 y1.s.r.b, .int .u8 y1.s.r.c, .int .u8 y1.s.r.d, .int .u8 y1.s.r.e, .int .u8 y1.s.r.h, .int .u8 y1.s.r.l, .int .u16 y1.s.r.sp, .int .u16 y1.s.r.pc, .bool y1.s.ime, .bool y1.s.soon, .bool y1.s.halt, .bool y1.s.stop] 26)).alloc (.cells #[.int .i64 D.what, .int .i64 D.n, .int .u16 D.at', .int .i64 D.o.k, .int .i64 D.o.x, .int .i64 D.o.y, .int .i64 D.o.s, .int .u16 D.o.n, .bool D.t] 49)) R M R2 M2 tb v v3 (W4.heap.size + 1) #[.int .i64 D.what, .int .i64 D.n, .int .u16 D.at', .int .i64 D.o.k, .int .i64 D.o.x, .int .i64 D.o.y, .int .i64 D.o.s, .int .u16 D.o.n, .bool D.t] by simpa using (X4.out.d.below (own1 W4 (.cells #[.int .u8 y1.s.r.a, .int .u8 y1.s.r.f, .int .u8 y1.s.r.b, .int .u8 y1.s.r.c, .int .u8 y1.s.r.d, .int .u8 y1.s.r.e, .int .u8 y1.s.r.h, .int .u8 y1.s.r.l, .int .u16 y1.s.r.sp, .int .u16 y1.s.r.pc, .bool y1.s.ime, .bool y1.s.soon, .bool y1.s.halt, .bool y1.s.stop] 26))).new #[.int .i64 D.what, .int .i64 D.n, .int .u16 D.at', .int .i64 D.o.k, .int .i64 D.o.x, .int .i64 D.o.y, .int .i64 D.o.s, .int .u16 D.o.n, .bool D.t] 49)
    clear hz X4 P4 E4; generalize (W4.alloc (.cells #[.int .u8 y1.s.r.a, .int .u8 y1.s.r.f, .int .u8 y1.s.r.b, .int .u8 y1.s.r.c, .int .u8 y1.s.r.d, .int .u8 y1.s.r.e, .int .u8 y1.s.r.h, .int .u8 y1.s.r.l, .int .u16 y1.s.r.sp, .int .u16 y1.s.r.pc, .bool y1.s.ime, .bool y1.s.soon, .bool y1.s.halt, .bool y1.s.stop] 26)).alloc (.cells #[.int .i64 D.what, .int .i64 D.n, .int .u16 D.at', .int .i64 D.o.k, .int .i64 D.o.x, .int .i64 D.o.y, .int .i64 D.o.s, .int .u16 D.o.n, .bool D.t] 49) = W5 at X5 P5 E5 Q5 F5 ⊢; generalize W4.heap.size + 1 = eb at F5 ⊢; generalize W4.heap.size = qb at Q5 ⊢; obtain ⟨ac1, cc1, hv1, ar1⟩ := X5.out.d.a.ar; obtain ⟨ac2, cc2, hv2, ar2⟩ := X5.out.d.b.ar
    try dsimp only at hv1 hv2 ar1 ar2
    subst hv1; subst hv2; have A1 := Hd (ar1.below (Below.refl _ _).drew); have A2 := Hd (ar2.below (Below.refl _ _).drew)
    have LN := Hd (show y1.acc.length < 1000000 from Nat.lt_of_le_of_lt X5.out.d.a.len (by omega))
    have SM := Hd (fun W => same_c y1.s D W)
    have X6 := Hd (X5.out.next (Below.refl _ _).drew); have P6 := Hd (P5.out.below (Below.refl _ _).drew); have E6 := Hd (E5.out.below (Below.refl _ _).drew); have Q6 := Hd (Q5.out.below (Below.refl _ _).drew); have F6 := Hd (F5.out.below (Below.refl _ _).drew); clear ar1 ar2 X5 P5 E5 Q5 F5
    refine wp_region_held_drew (S := (fun w' => (∀ o_, w'.cell? ⟨pb, o_, none⟩ = #[.int .u8 y1.s.r.a, .int .u8 y1.s.r.f, .int .u8 y1.s.r.b, .int .u8 y1.s.r.c, .int .u8 y1.s.r.d, .int .u8 y1.s.r.e, .int .u8 y1.s.r.h, .int .u8 y1.s.r.l, .int .u16 y1.s.r.sp, .int .u16 y1.s.r.pc, .bool y1.s.ime, .bool y1.s.soon, .bool y1.s.halt, .bool y1.s.stop][o_]?) ∧ (∀ o_, w'.cell? ⟨db, o_, none⟩ = #[.int .i64 D.what, .int .i64 D.n, .int .u16 D.at', .int .i64 D.o.k, .int .i64 D.o.x, .int .i64 D.o.y, .int .i64 D.o.s, .int .u16 D.o.n, .bool D.t][o_]?) ∧ (∀ o_, w'.cell? ⟨qb, o_, none⟩ = #[.int .u8 y1.s.r.a, .int .u8 y1.s.r.f, .int .u8 y1.s.r.b, .int .u8 y1.s.r.c, .int .u8 y1.s.r.d, .int .u8 y1.s.r.e, .int .u8 y1.s.r.h, .int .u8 y1.s.r.l, .int .u16 y1.s.r.sp, .int .u16 y1.s.r.pc, .bool y1.s.ime, .bool y1.s.soon, .bool y1.s.halt, .bool y1.s.stop][o_]?) ∧ (∀ o_, w'.cell? ⟨eb, o_, none⟩ = #[.int .i64 D.what, .int .i64 D.n, .int .u16 D.at', .int .i64 D.o.k, .int .i64 D.o.x, .int .i64 D.o.y, .int .i64 D.o.s, .int .u16 D.o.n, .bool D.t][o_]?) ∧ w'.cell? ⟨R, 1, none⟩ = some (.slice ac1 y1.acc.length cc1) ∧ w'.cell? ⟨R2, 5, none⟩ = some (.slice ac2 y1.acc.length cc2))) (by kernel_rfl) ⟨P6.out.1.2.1, E6.out.1.2.1, Q6.out.1.2.1, F6.out.1.2.1, X6.out.d.acs⟩ (fun hHeld => ?_)
    generalize World.drew W5 = u0 at hHeld X6 P6 E6 Q6 F6 A1 A2 ⊢; refine tz 0 ?_; refine tz 1 ?_; refine tz 2 ?_; refine tz 3 ?_
    refine re1 4 (fun K hK => ?_)
    go_simp
    with_reducible refine (SM.out _).mono ?_
    rintro e u1 ⟨rfl, hb⟩; have X7 := Hd (X6.out.next hb); have P7 := Hd (P6.out.below hb); have E7 := Hd (E6.out.below hb); have Q7 := Hd (Q6.out.below hb); have F7 := Hd (F6.out.below hb); have A3 := Hd (A1.out.below hb); have A4 := Hd (A2.out.below hb); clear hb A1 A2
    refine hK.out _ _ ⟨P7.out.1.2.1, E7.out.1.2.1, Q7.out.1.2.1, F7.out.1.2.1, X7.out.d.acs⟩ (fun hNew => ?_); clear hK K hHeld; have hHeld := hNew; clear hNew
    refine tz 5 ?_; refine tz 6 ?_; refine tz 7 ?_; refine tz 8 ?_; refine tz 9 ?_; refine tz 10 ?_; refine tz 11 ?_; refine tz 12 ?_; refine tz 13 ?_
    refine re1 14 (fun K hK => ?_)
    go_simp
    with_reducible refine (acc_c ac1 ac2 cc1 cc2 y1.acc _ LN.out A3.out A4.out).mono ?_
    rintro e u2 ⟨rfl, hb⟩; have X8 := Hd (X7.out.next hb); have P8 := Hd (P7.out.below hb); have E8 := Hd (E7.out.below hb); have Q8 := Hd (Q7.out.below hb); have F8 := Hd (F7.out.below hb); clear hb
    refine hK.out _ _ ⟨P8.out.1.2.1, E8.out.1.2.1, Q8.out.1.2.1, F8.out.1.2.1, X8.out.d.acs⟩ (fun hNew => ?_); clear hK K hHeld; have hHeld := hNew; clear hNew
    refine tz 15 ?_; refine tz 16 ?_
    refine wpAnyH_done (by kernel_rfl) ?_ _
    clear hHeld; go_wp2; go_ret
    exact ⟨rfl, hN.out ▸ X8.out.b⟩
theorem each_walk (s : St) (ok : s.r.ok) (j k l : Nat) (hj : j < 65536) (hk : k < 256) (hl : l < 256) (v : Value) (w : World) (h : ∃ (a : Option Addr) (n c : Nat), v = .slice a n c ∧ n ≤ 9223372036854775807 ∧ (n < 4611686018427387904 → ∃ f, By w v n f)) : Calls Tryz.prog 4 #[.agg #[.int .u8 s.r.a, .int .u8 s.r.f, .int .u8 s.r.b, .int .u8 s.r.c, .int .u8 s.r.d, .int .u8 s.r.e, .int .u8 s.r.h, .int .u8 s.r.l, .int .u16 s.r.sp, .int .u16 s.r.pc, .bool s.ime, .bool s.soon, .bool s.halt, .bool s.stop], .int .u16 j, .int .u8 k, .int .u8 l, v] w fun e w' => e = .returned (.bool true) ∧ Below w.heap.size w w' := by
 obtain ⟨a, n, c, rfl, hn, hf⟩ := h
 by_cases h0 : 2000 < n
 ·exact each_long s a n c h0 j k l w
 ·obtain ⟨f, hby⟩ := hf (by omega)
  exact each_some s ok a n c h0 f j k l hj hk hl w hby
end Go.Proofs.YtngdogldgcgnjaaGreat
