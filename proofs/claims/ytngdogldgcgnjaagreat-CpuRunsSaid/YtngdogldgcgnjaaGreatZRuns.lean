/-
  The walk through CpuRuns: it returns true, for every input and every world in which the bytes lie as told; no other condition.
-/
import Derived.Test.YtngdogldgcgnjaaGreatZ48
import Derived.Deep.Cut
import Derived.Deep.DeepCutAuto
import Derived.Deep.LoopGhost
namespace Go.Proofs.YtngdogldgcgnjaaGreat
open Go.ChangeShapes Go.WideShapes Go.ChangeAt Go.RowKit
open Reg
set_option linter.unusedVariables false
set_option maxHeartbeats 8000000
set_option maxRecDepth 100000
theorem runs_long (s : St) (a : Option Addr) (n c : Nat) (h0 : 2000 < n) (k : Int) (w : World) : Calls Tryz.prog 3 #[.agg #[.int .u8 s.r.a, .int .u8 s.r.f, .int .u8 s.r.b, .int .u8 s.r.c, .int .u8 s.r.d, .int .u8 s.r.e, .int .u8 s.r.h, .int .u8 s.r.l, .int .u16 s.r.sp, .int .u16 s.r.pc, .bool s.ime, .bool s.soon, .bool s.halt, .bool s.stop], .slice a n c, .int .u8 k] w fun e w' => e = .returned (.bool true) ∧ Below w.heap.size w w' := by
 have AW := Hd awake_c
 have h0I : (2000 : Int) < n := by omega
 have hnot := nt
 go_enter Tryz.func3, Tryz.ntmps3; go_wp2_with fail
 with_reducible refine (AW.out _).mono ?_
 rintro e w1 ⟨rfl, b1⟩; have B1 := Hd (via (own1 w _) b1); clear b1; go_wp2_with fail
 with_reducible refine (AW.out _).mono ?_
 rintro e w2 ⟨rfl, b2⟩; have B2 := Hd (via B1.out b2); clear b2; go_wp2; go_ret
 exact ⟨rfl, B2.out⟩
theorem Duo.drew {w : World} {N R M R2 M2 tb n n2 : Nat} {v v2 : Value} {y y2 : Sy} (h : Duo N w R M R2 M2 tb v v2 y y2 n n2) : Duo N w.drew R M R2 M2 tb v v2 y y2 n n2 := h.below (Below.refl _ _).drew
theorem duo_start {w : World} {N R M R2 M2 tb : Nat} {s : St} {m : Int → Int} (h : Ram w R M m) (g : Bus memC w R2 M2 tb (.slice none 0 0) m [] 0) (T : TabAny w tb) (nr : R ≠ tb) (nm : M ≠ tb) (nn : R ≠ R2 ∧ R ≠ M2 ∧ M ≠ R2 ∧ M ≠ M2) (lt : N ≤ tb) (lm : N ≤ M) (lr : N ≤ R) (lm2 : N ≤ M2) (lr2 : N ≤ R2) : Duo N w R M R2 M2 tb (.slice none 0 0) (.slice none 0 0) ⟨s, m, []⟩ ⟨s, m, []⟩ 0 0 := by
 refine ⟨h.bus T nr nm, g, nn, fun k hk => by simp [Value.ownBlock] at hk, fun k hk => by simp [Value.ownBlock] at hk, fun k hk => by simp [Value.ownBlock] at hk, fun k hk => ?_⟩
 rcases hk with (e | e | e | e) | (e | e | e | e)
 ·rw [e]; exact lr
 ·rw [e]; exact lm
 ·rw [e]; exact lt
 ·simp [Value.ownBlock] at e
 ·rw [e]; exact lr2
 ·rw [e]; exact lm2
 ·rw [e]; exact lt
 ·simp [Value.ownBlock] at e
theorem Duo.bel {w w' w0 : World} {N R M R2 M2 tb n n2 : Nat} {v v2 : Value} {y y2 : Sy} (h : Duo N w R M R2 M2 tb v v2 y y2 n n2) (hb : Below N w0 w) (hz : Below w.heap.size w w') : Below N w0 w' := hb.trans (hz.mono h.nle)
theorem Duo.six {w : World} {N R M R2 M2 tb n n2 l1 l2 c1 c2 : Nat} {a1 a2 : Option Addr} {y y2 : Sy} (h : Duo N w R M R2 M2 tb (.slice a1 l1 c1) (.slice a2 l2 c2) y y2 n n2) : w.cell? ⟨R, 0, none⟩ = some (.slice (some ⟨M, 0, none⟩) 65536 65536) ∧ w.cell? ⟨R, 1, none⟩ = some (.slice a1 l1 c1) ∧ w.cell? ⟨R2, 0, none⟩ = some (.slice (some ⟨M2, 0, none⟩) 65536 65536) ∧ w.cell? ⟨R2, 5, none⟩ = some (.slice a2 l2 c2) ∧ w.cell? ⟨M, 65295, none⟩ = some (.int .u8 (y.m 65295)) ∧ w.cell? ⟨M2, 65295, none⟩ = some (.int .u8 (y2.m 65295)) := by
 obtain ⟨q, hq⟩ := h.a.ram; obtain ⟨q2, hq2⟩ := h.b.ram
 exact ⟨hq.2.1 0, hq.2.1 1, hq2.2.1 0, hq2.2.1 5, h.a.mem 65295 (by decide), h.b.mem 65295 (by decide)⟩
def RunI (N : Nat) (w wr : World) (R M R2 M2 tb pb qb : Nat) (y : Sy) (t : Nat) : Prop := Below N w wr ∧ y.s.r.ok ∧ ∃ v v2, Duo N wr R M R2 M2 tb v v2 y y (12 * t) (12 * t) ∧ Mine N wr R M R2 M2 tb v v2 pb #[.int .u8 y.s.r.a, .int .u8 y.s.r.f, .int .u8 y.s.r.b, .int .u8 y.s.r.c, .int .u8 y.s.r.d, .int .u8 y.s.r.e, .int .u8 y.s.r.h, .int .u8 y.s.r.l, .int .u16 y.s.r.sp, .int .u16 y.s.r.pc, .bool y.s.ime, .bool y.s.soon, .bool y.s.halt, .bool y.s.stop] ∧ Mine N wr R M R2 M2 tb v v2 qb #[.int .u8 y.s.r.a, .int .u8 y.s.r.f, .int .u8 y.s.r.b, .int .u8 y.s.r.c, .int .u8 y.s.r.d, .int .u8 y.s.r.e, .int .u8 y.s.r.h, .int .u8 y.s.r.l, .int .u16 y.s.r.sp, .int .u16 y.s.r.pc, .bool y.s.ime, .bool y.s.soon, .bool y.s.halt, .bool y.s.stop]
def RunP (N : Nat) (w wr : World) (R M R2 M2 tb : Nat) (y : Sy) (x x2 : Value) : Prop := ∃ pb qb : Nat, x = .pointer (some ⟨pb, 0, none⟩) ∧ x2 = .pointer (some ⟨qb, 0, none⟩) ∧ pb ≠ qb ∧ RunI N w wr R M R2 M2 tb pb qb y 0
theorem runs_some (s : St) (ok : s.r.ok) (a0 : Option Addr) (n c : Nat) (h0 : ¬ 2000 < n) (f : Nat → Int) (k : Nat) (hk : k < 256) (w : World) (hby : By w (.slice a0 n c) n f) : Calls Tryz.prog 3 #[.agg #[.int .u8 s.r.a, .int .u8 s.r.f, .int .u8 s.r.b, .int .u8 s.r.c, .int .u8 s.r.d, .int .u8 s.r.e, .int .u8 s.r.h, .int .u8 s.r.l, .int .u16 s.r.sp, .int .u16 s.r.pc, .bool s.ime, .bool s.soon, .bool s.halt, .bool s.stop], .slice a0 n c, .int .u8 k] w fun e w' => e = .returned (.bool true) ∧ Below w.heap.size w w' := by
 have hnot := nt
 have AW := Hd awake_c
 have h0I : ¬ (2000 : Int) < n := by omega
 have HBY := Hd hby; have OKS := Hd ok; have HB := Hd (own1 w (.cells #[.int .u8 s.r.a, .int .u8 s.r.f, .int .u8 s.r.b, .int .u8 s.r.c, .int .u8 s.r.d, .int .u8 s.r.e, .int .u8 s.r.h, .int .u8 s.r.l, .int .u16 s.r.sp, .int .u16 s.r.pc, .bool s.ime, .bool s.soon, .bool s.halt, .bool s.stop] 26)); have HR := Hd (Has.new w #[.int .u8 s.r.a, .int .u8 s.r.f, .int .u8 s.r.b, .int .u8 s.r.c, .int .u8 s.r.d, .int .u8 s.r.e, .int .u8 s.r.h, .int .u8 s.r.l, .int .u16 s.r.sp, .int .u16 s.r.pc, .bool s.ime, .bool s.soon, .bool s.halt, .bool s.stop] 26); obtain ⟨q, hq⟩ : ∃ q : Nat, k % 80 = q := ⟨_, rfl⟩
 have hq1 : (k : Int) % 80 = q := by omega
 have hq80 : q < 80 := by omega
 have hkI : (k : Int) < 256 := by omega
 have HQ := Hd hq1; clear hby ok hq hq1; go_enter Tryz.func3, Tryz.ntmps3; go_wp2_with fail
 with_reducible refine (AW.out _).mono ?_
 rintro e w1 ⟨rfl, b1⟩; have B1 := Hd (via HB.out b1); have H1 := Hd (HR.out.below b1); clear HB HR b1; go_wp2_with fail
 with_reducible refine (new_c _).mono ?_
 rintro e w' ⟨rfl, rfl⟩; have Q2 := own1 w1 (.cells Tryz.zeroCells81 81)
 have T2 := Hd (show TabAny (w1.alloc (.cells Tryz.zeroCells81 81)) w1.heap.size from Or.inl (Tab.new w1 81))
 have B2 := Hd (via B1.out Q2); have H2 := Hd (H1.out.below Q2); have LT := Hd B1.out.size; clear Q2 B1 H1; go_upto_region 4 with (fail); generalize w1.alloc (.cells Tryz.zeroCells81 81) = w2 at B2 H2 T2 ⊢; generalize w1.heap.size = tb at T2 LT ⊢; have FC := Hd (filled_c (HBY.out.below B2.out)); have LM := Hd B2.out.size
 have NM := Hd (show w2.heap.size ≠ tb by have := T2.out.lt; omega)
 go_wp2_with fail
 with_reducible refine FC.out.mono ?_
 rintro e w3 ⟨rfl, b3, f3⟩; have Q4 := own1 w3 (.cells #[.slice (some ⟨w2.heap.size, 0, none⟩) 65536 65536, .slice none 0 0] 35); have B4 := Hd (via (via B2.out b3) Q4); have H4 := Hd ((H2.out.below b3).below Q4)
 have T4 := Hd ((T2.out.off (Off.of (fun _ => False) b3) id).off (Off.of (fun _ => False) Q4) id)
 have A4 := Hd (f3.ram HBY.out.2.1)
 have LR := Hd (show w.heap.size ≤ w3.heap.size from (via B2.out b3).size)
 have NR := Hd (show w3.heap.size ≠ tb by have := (T2.out.off (Off.of (fun _ => False) b3) id).lt; omega)
 clear b3 f3 Q4 FC B2 H2 T2; have FC := Hd (filled_c (HBY.out.below B4.out)); go_wp2_with fail; generalize w3.alloc (.cells #[.slice (some ⟨w2.heap.size, 0, none⟩) 65536 65536, .slice none 0 0] 35) = w4 at B4 H4 T4 A4 FC ⊢; generalize w2.heap.size = M at A4 LM NM ⊢; generalize w3.heap.size = R at A4 LR NR ⊢
 with_reducible refine FC.out.mono ?_
 rintro e w5 ⟨rfl, b5, f5⟩; have Q6 := own1 w5 (.cells #[.slice (some ⟨w4.heap.size, 0, none⟩) 65536 65536, .slice none 0 0, .int .u8 0, .int .i64 0, .bool false, .slice none 0 0] 38); have B6 := Hd (via (via B4.out b5) Q6); have H6 := Hd ((H4.out.below b5).below Q6)
 have T5 := T4.out.off (Off.of (fun _ => False) b5) id
 have A6 := Hd ((A4.out.below b5).below Q6); have a4r := A4.out.ram.1; have a4m := A4.out.mlt; have s5 := b5.size; have t4l := T4.out.lt
 have NN := Hd (show w4.heap.size ≠ tb ∧ R ≠ w5.heap.size ∧ R ≠ w4.heap.size ∧ M ≠ w5.heap.size ∧ M ≠ w4.heap.size by omega)
 have G6 := Hd (f5.bus2 HBY.out.2.1 T5 NN.out.1); have LM2 := Hd B4.out.size
 have LR2 := Hd (show w.heap.size ≤ w5.heap.size from (via B4.out b5).size)
 have T6 := Hd (T5.off (Off.of (fun _ => False) Q6) id)
 clear b5 f5 Q6 FC B4 H4 T4 A4 T5 a4r a4m s5 t4l
 unfold memC at G6
 go_upto_region 5 with (fail); generalize w5.alloc (.cells #[.slice (some ⟨w4.heap.size, 0, none⟩) 65536 65536, .slice none 0 0, .int .u8 0, .int .i64 0, .bool false, .slice none 0 0] 38) = w6 at B6 H6 A6 G6 T6 ⊢; generalize w4.heap.size = M2 at G6 LM2 NN ⊢; generalize w5.heap.size = R2 at G6 LR2 NN ⊢; have B0 := Hd B6.out.drew; have H0 := Hd H6.out.drew; have D0 := Hd (duo_start (s := s) (m := fillM n f) A6.out G6.out T6.out NR.out NM.out NN.out.2 LT.out LM.out LR.out LM2.out LR2.out).drew; clear B6 H6 A6 G6 T6 NR NM NN LT LM LR LM2 LR2; generalize hN : w.heap.size = N at B0 H0 D0 ⊢; replace hN := Hd hN
 go_cut [10, 11] (fun x10 x11 wx => RunP N w wx R M R2 M2 tb ⟨s, fillM n f, []⟩ x10 x11)
 case first =>
  refine wp_region_held_drew (S := (fun w' => ∀ o_, w'.cell? ⟨N, o_, none⟩ = #[.int .u8 s.r.a, .int .u8 s.r.f, .int .u8 s.r.b, .int .u8 s.r.c, .int .u8 s.r.d, .int .u8 s.r.e, .int .u8 s.r.h, .int .u8 s.r.l, .int .u16 s.r.sp, .int .u16 s.r.pc, .bool s.ime, .bool s.soon, .bool s.halt, .bool s.stop][o_]?)) (by kernel_rfl) H0.out.2.1 (fun hHeld => ?_)
  have STC := Hd (fun W => state_c s W)
  generalize World.drew w6 = u0 at hHeld B0 H0 D0 ⊢; refine tz 0 ?_; refine tz 2 ?_
  refine wpAnyH_ready (rs := [1, 3, 4]) (by kernel_rfl) (by simp) ?_
  refine (ac rfl (fun K hK => ?_) (ac rfl (fun K hK => ?_) (ac rfl (fun K hK => ?_) AllReadyH.nil)))
  ·skip
   go_simp
   with_reducible refine (STC.out _).mono ?_
   rintro e u1 ⟨rfl, hz⟩; have B1 := Hd (D0.out.bel B0.out hz); have D1 := Hd (D0.out.below hz); have H1 := Hd (H0.out.below hz); clear hz
   refine hK.out _ _ H1.out.2.1 (fun hNew => ?_); clear hK K hHeld; have hHeld := hNew; clear hNew
   refine wpAnyH_ready (rs := [3, 4]) (by kernel_rfl) (by simp) ?_
   refine (ac rfl (fun K hK => ?_) (ac rfl (fun K hK => ?_) AllReadyH.nil))
   ·skip
    go_simp; have hz := own1 u1 (.cells #[.int .u8 0, .int .u8 0, .int .u8 0, .int .u8 0, .int .u8 0, .int .u8 0, .int .u8 0, .int .u8 0, .int .u16 0, .int .u16 0, .bool false, .bool false, .bool false, .bool false] 41); have B2 := Hd (D1.out.bel B1.out hz); have D2 := Hd (D1.out.below hz); have H2 := Hd (H1.out.below hz); have P2 := Hd (D1.out.new #[.int .u8 0, .int .u8 0, .int .u8 0, .int .u8 0, .int .u8 0, .int .u8 0, .int .u8 0, .int .u8 0, .int .u16 0, .int .u16 0, .bool false, .bool false, .bool false, .bool false] 41)
    have NSP := Hd (show N ≠ u1.heap.size by have := H1.out.1; omega)
    clear hz
    refine hK.out _ _ H2.out.2.1 (fun hNew => ?_); clear hK K hHeld; have hHeld := hNew; clear hNew
    generalize World.alloc u1 (.cells #[.int .u8 0, .int .u8 0, .int .u8 0, .int .u8 0, .int .u8 0, .int .u8 0, .int .u8 0, .int .u8 0, .int .u16 0, .int .u16 0, .bool false, .bool false, .bool false, .bool false] 41) = u2 at hHeld B2 D2 H2 P2 ⊢; generalize u1.heap.size = pb at P2 NSP ⊢
    refine re1 4 (fun K hK => ?_)
    go_simp; have hz := own1 u2 (.cells #[.int .u8 0, .int .u8 0, .int .u8 0, .int .u8 0, .int .u8 0, .int .u8 0, .int .u8 0, .int .u8 0, .int .u16 0, .int .u16 0, .bool false, .bool false, .bool false, .bool false] 26); have B3 := Hd (D2.out.bel B2.out hz); have D3 := Hd (D2.out.below hz); have H3 := Hd (H2.out.below hz); have P3 := Hd (P2.out.below hz); have Q3 := Hd (D2.out.new #[.int .u8 0, .int .u8 0, .int .u8 0, .int .u8 0, .int .u8 0, .int .u8 0, .int .u8 0, .int .u8 0, .int .u16 0, .int .u16 0, .bool false, .bool false, .bool false, .bool false] 26)
    have NSQ := Hd (show N ≠ u2.heap.size by have := H2.out.1; omega)
    have NPQ := Hd (show pb ≠ u2.heap.size by have := P2.out.1.1; omega)
    clear hz
    refine hK.out _ _ H3.out.2.1 (fun hNew => ?_); clear hK K hHeld; have hHeld := hNew; clear hNew
    generalize World.alloc u2 (.cells #[.int .u8 0, .int .u8 0, .int .u8 0, .int .u8 0, .int .u8 0, .int .u8 0, .int .u8 0, .int .u8 0, .int .u16 0, .int .u16 0, .bool false, .bool false, .bool false, .bool false] 26) = u3 at hHeld B3 D3 H3 Q3 P3 ⊢; generalize u2.heap.size = qb at Q3 NSQ NPQ ⊢
    refine re1 5 (fun K hK => ?_)
    have hcl := P3.out.1.2.1; have hfz := P3.out.1.2.2; go_simp; clear hcl hfz; have oz := Off.put14 u3 pb s; have P4 := Hd (Mine.put14 (s := ⟨⟨0, 0, 0, 0, 0, 0, 0, 0, 0, 0⟩, false, false, false, false⟩) P3.out s); have D4 := Hd (D3.out.off1 oz P3.out); have B4 := Hd (P3.out.bl B3.out oz D3.out.nle); have H4 := Hd (H3.out.off oz NSP.out); have Q4 := Hd (Q3.out.off1 oz (NPQ.out.symm)); clear oz
    refine hK.out _ _ H4.out.2.1 (fun hNew => ?_); clear hK K hHeld; have hHeld := hNew; clear hNew
    generalize (World.setCell (World.setCell (World.setCell (World.setCell (World.setCell (World.setCell (World.setCell (World.setCell (World.setCell (World.setCell (World.setCell (World.setCell (World.setCell (World.setCell u3 ⟨pb, 0, none⟩ (.int .u8 s.r.a)) ⟨pb, 1, none⟩ (.int .u8 s.r.f)) ⟨pb, 2, none⟩ (.int .u8 s.r.b)) ⟨pb, 3, none⟩ (.int .u8 s.r.c)) ⟨pb, 4, none⟩ (.int .u8 s.r.d)) ⟨pb, 5, none⟩ (.int .u8 s.r.e)) ⟨pb, 6, none⟩ (.int .u8 s.r.h)) ⟨pb, 7, none⟩ (.int .u8 s.r.l)) ⟨pb, 8, none⟩ (.int .u16 s.r.sp)) ⟨pb, 9, none⟩ (.int .u16 s.r.pc)) ⟨pb, 10, none⟩ (.bool s.ime)) ⟨pb, 11, none⟩ (.bool s.soon)) ⟨pb, 12, none⟩ (.bool s.halt)) ⟨pb, 13, none⟩ (.bool s.stop)) = u4 at hHeld B4 D4 H4 P4 Q4 ⊢
    refine re1 6 (fun K hK => ?_)
    have hcl := Q4.out.1.2.1; have hfz := Q4.out.1.2.2; go_simp; clear hcl hfz; have oz := Off.put14 u4 qb s; have Q5 := Hd (Mine.put14 (s := ⟨⟨0, 0, 0, 0, 0, 0, 0, 0, 0, 0⟩, false, false, false, false⟩) Q4.out s); have D5 := Hd (D4.out.off1 oz Q4.out); have B5 := Hd (Q4.out.bl B4.out oz D4.out.nle); have H5 := Hd (H4.out.off oz NSQ.out); have P5 := Hd (P4.out.off1 oz (NPQ.out)); clear oz
    refine hK.out _ _ H5.out.2.1 (fun hNew => ?_); clear hK K hHeld; have hHeld := hNew; clear hNew
    generalize (World.setCell (World.setCell (World.setCell (World.setCell (World.setCell (World.setCell (World.setCell (World.setCell (World.setCell (World.setCell (World.setCell (World.setCell (World.setCell (World.setCell u4 ⟨qb, 0, none⟩ (.int .u8 s.r.a)) ⟨qb, 1, none⟩ (.int .u8 s.r.f)) ⟨qb, 2, none⟩ (.int .u8 s.r.b)) ⟨qb, 3, none⟩ (.int .u8 s.r.c)) ⟨qb, 4, none⟩ (.int .u8 s.r.d)) ⟨qb, 5, none⟩ (.int .u8 s.r.e)) ⟨qb, 6, none⟩ (.int .u8 s.r.h)) ⟨qb, 7, none⟩ (.int .u8 s.r.l)) ⟨qb, 8, none⟩ (.int .u16 s.r.sp)) ⟨qb, 9, none⟩ (.int .u16 s.r.pc)) ⟨qb, 10, none⟩ (.bool s.ime)) ⟨qb, 11, none⟩ (.bool s.soon)) ⟨qb, 12, none⟩ (.bool s.halt)) ⟨qb, 13, none⟩ (.bool s.stop)) = u5 at hHeld B5 D5 H5 P5 Q5 ⊢
    refine wpAnyH_done (by kernel_rfl) ?_ _
    clear hHeld; go_wp2
    go_meet
    exact ⟨pb, qb, rfl, rfl, NPQ.out, B5.out, OKS.out, .slice none 0 0, .slice none 0 0, D5.out, P5.out, Q5.out⟩
   ·skip
    go_simp; have hz := own1 u1 (.cells #[.int .u8 0, .int .u8 0, .int .u8 0, .int .u8 0, .int .u8 0, .int .u8 0, .int .u8 0, .int .u8 0, .int .u16 0, .int .u16 0, .bool false, .bool false, .bool false, .bool false] 26); have B2 := Hd (D1.out.bel B1.out hz); have D2 := Hd (D1.out.below hz); have H2 := Hd (H1.out.below hz); have Q2 := Hd (D1.out.new #[.int .u8 0, .int .u8 0, .int .u8 0, .int .u8 0, .int .u8 0, .int .u8 0, .int .u8 0, .int .u8 0, .int .u16 0, .int .u16 0, .bool false, .bool false, .bool false, .bool false] 26)
    have NSQ := Hd (show N ≠ u1.heap.size by have := H1.out.1; omega)
    clear hz
    refine hK.out _ _ H2.out.2.1 (fun hNew => ?_); clear hK K hHeld; have hHeld := hNew; clear hNew
    generalize World.alloc u1 (.cells #[.int .u8 0, .int .u8 0, .int .u8 0, .int .u8 0, .int .u8 0, .int .u8 0, .int .u8 0, .int .u8 0, .int .u16 0, .int .u16 0, .bool false, .bool false, .bool false, .bool false] 26) = u2 at hHeld B2 D2 H2 Q2 ⊢; generalize u1.heap.size = qb at Q2 NSQ ⊢
    refine re1 3 (fun K hK => ?_)
    go_simp; have hz := own1 u2 (.cells #[.int .u8 0, .int .u8 0, .int .u8 0, .int .u8 0, .int .u8 0, .int .u8 0, .int .u8 0, .int .u8 0, .int .u16 0, .int .u16 0, .bool false, .bool false, .bool false, .bool false] 41); have B3 := Hd (D2.out.bel B2.out hz); have D3 := Hd (D2.out.below hz); have H3 := Hd (H2.out.below hz); have Q3 := Hd (Q2.out.below hz); have P3 := Hd (D2.out.new #[.int .u8 0, .int .u8 0, .int .u8 0, .int .u8 0, .int .u8 0, .int .u8 0, .int .u8 0, .int .u8 0, .int .u16 0, .int .u16 0, .bool false, .bool false, .bool false, .bool false] 41)
    have NSP := Hd (show N ≠ u2.heap.size by have := H2.out.1; omega)
    have NPQ := Hd (show qb ≠ u2.heap.size by have := Q2.out.1.1; omega)
    clear hz
    refine hK.out _ _ H3.out.2.1 (fun hNew => ?_); clear hK K hHeld; have hHeld := hNew; clear hNew
    generalize World.alloc u2 (.cells #[.int .u8 0, .int .u8 0, .int .u8 0, .int .u8 0, .int .u8 0, .int .u8 0, .int .u8 0, .int .u8 0, .int .u16 0, .int .u16 0, .bool false, .bool false, .bool false, .bool false] 41) = u3 at hHeld B3 D3 H3 P3 Q3 ⊢; generalize u2.heap.size = pb at P3 NSP NPQ ⊢
    refine re1 5 (fun K hK => ?_)
    have hcl := P3.out.1.2.1; have hfz := P3.out.1.2.2; go_simp; clear hcl hfz; have oz := Off.put14 u3 pb s; have P4 := Hd (Mine.put14 (s := ⟨⟨0, 0, 0, 0, 0, 0, 0, 0, 0, 0⟩, false, false, false, false⟩) P3.out s); have D4 := Hd (D3.out.off1 oz P3.out); have B4 := Hd (P3.out.bl B3.out oz D3.out.nle); have H4 := Hd (H3.out.off oz NSP.out); have Q4 := Hd (Q3.out.off1 oz (NPQ.out)); clear oz
    refine hK.out _ _ H4.out.2.1 (fun hNew => ?_); clear hK K hHeld; have hHeld := hNew; clear hNew
    generalize (World.setCell (World.setCell (World.setCell (World.setCell (World.setCell (World.setCell (World.setCell (World.setCell (World.setCell (World.setCell (World.setCell (World.setCell (World.setCell (World.setCell u3 ⟨pb, 0, none⟩ (.int .u8 s.r.a)) ⟨pb, 1, none⟩ (.int .u8 s.r.f)) ⟨pb, 2, none⟩ (.int .u8 s.r.b)) ⟨pb, 3, none⟩ (.int .u8 s.r.c)) ⟨pb, 4, none⟩ (.int .u8 s.r.d)) ⟨pb, 5, none⟩ (.int .u8 s.r.e)) ⟨pb, 6, none⟩ (.int .u8 s.r.h)) ⟨pb, 7, none⟩ (.int .u8 s.r.l)) ⟨pb, 8, none⟩ (.int .u16 s.r.sp)) ⟨pb, 9, none⟩ (.int .u16 s.r.pc)) ⟨pb, 10, none⟩ (.bool s.ime)) ⟨pb, 11, none⟩ (.bool s.soon)) ⟨pb, 12, none⟩ (.bool s.halt)) ⟨pb, 13, none⟩ (.bool s.stop)) = u4 at hHeld B4 D4 H4 P4 Q4 ⊢
    refine re1 6 (fun K hK => ?_)
    have hcl := Q4.out.1.2.1; have hfz := Q4.out.1.2.2; go_simp; clear hcl hfz; have oz := Off.put14 u4 qb s; have Q5 := Hd (Mine.put14 (s := ⟨⟨0, 0, 0, 0, 0, 0, 0, 0, 0, 0⟩, false, false, false, false⟩) Q4.out s); have D5 := Hd (D4.out.off1 oz Q4.out); have B5 := Hd (Q4.out.bl B4.out oz D4.out.nle); have H5 := Hd (H4.out.off oz NSQ.out); have P5 := Hd (P4.out.off1 oz (NPQ.out.symm)); clear oz
    refine hK.out _ _ H5.out.2.1 (fun hNew => ?_); clear hK K hHeld; have hHeld := hNew; clear hNew
    generalize (World.setCell (World.setCell (World.setCell (World.setCell (World.setCell (World.setCell (World.setCell (World.setCell (World.setCell (World.setCell (World.setCell (World.setCell (World.setCell (World.setCell u4 ⟨qb, 0, none⟩ (.int .u8 s.r.a)) ⟨qb, 1, none⟩ (.int .u8 s.r.f)) ⟨qb, 2, none⟩ (.int .u8 s.r.b)) ⟨qb, 3, none⟩ (.int .u8 s.r.c)) ⟨qb, 4, none⟩ (.int .u8 s.r.d)) ⟨qb, 5, none⟩ (.int .u8 s.r.e)) ⟨qb, 6, none⟩ (.int .u8 s.r.h)) ⟨qb, 7, none⟩ (.int .u8 s.r.l)) ⟨qb, 8, none⟩ (.int .u16 s.r.sp)) ⟨qb, 9, none⟩ (.int .u16 s.r.pc)) ⟨qb, 10, none⟩ (.bool s.ime)) ⟨qb, 11, none⟩ (.bool s.soon)) ⟨qb, 12, none⟩ (.bool s.halt)) ⟨qb, 13, none⟩ (.bool s.stop)) = u5 at hHeld B5 D5 H5 P5 Q5 ⊢
    refine wpAnyH_done (by kernel_rfl) ?_ _
    clear hHeld; go_wp2
    go_meet
    exact ⟨pb, qb, rfl, rfl, NPQ.out.symm, B5.out, OKS.out, .slice none 0 0, .slice none 0 0, D5.out, P5.out, Q5.out⟩
  ·skip
   go_simp; have hz := own1 u0 (.cells #[.int .u8 0, .int .u8 0, .int .u8 0, .int .u8 0, .int .u8 0, .int .u8 0, .int .u8 0, .int .u8 0, .int .u16 0, .int .u16 0, .bool false, .bool false, .bool false, .bool false] 41); have B1 := Hd (D0.out.bel B0.out hz); have D1 := Hd (D0.out.below hz); have H1 := Hd (H0.out.below hz); have P1 := Hd (D0.out.new #[.int .u8 0, .int .u8 0, .int .u8 0, .int .u8 0, .int .u8 0, .int .u8 0, .int .u8 0, .int .u8 0, .int .u16 0, .int .u16 0, .bool false, .bool false, .bool false, .bool false] 41)
   have NSP := Hd (show N ≠ u0.heap.size by have := H0.out.1; omega)
   clear hz
   refine hK.out _ _ H1.out.2.1 (fun hNew => ?_); clear hK K hHeld; have hHeld := hNew; clear hNew
   generalize World.alloc u0 (.cells #[.int .u8 0, .int .u8 0, .int .u8 0, .int .u8 0, .int .u8 0, .int .u8 0, .int .u8 0, .int .u8 0, .int .u16 0, .int .u16 0, .bool false, .bool false, .bool false, .bool false] 41) = u1 at hHeld B1 D1 H1 P1 ⊢; generalize u0.heap.size = pb at P1 NSP ⊢
   refine wpAnyH_ready (rs := [1, 4]) (by kernel_rfl) (by simp) ?_
   refine (ac rfl (fun K hK => ?_) (ac rfl (fun K hK => ?_) AllReadyH.nil))
   ·skip
    go_simp
    with_reducible refine (STC.out _).mono ?_
    rintro e u2 ⟨rfl, hz⟩; have B2 := Hd (D1.out.bel B1.out hz); have D2 := Hd (D1.out.below hz); have H2 := Hd (H1.out.below hz); have P2 := Hd (P1.out.below hz); clear hz
    refine hK.out _ _ H2.out.2.1 (fun hNew => ?_); clear hK K hHeld; have hHeld := hNew; clear hNew
    refine re1 4 (fun K hK => ?_)
    go_simp; have hz := own1 u2 (.cells #[.int .u8 0, .int .u8 0, .int .u8 0, .int .u8 0, .int .u8 0, .int .u8 0, .int .u8 0, .int .u8 0, .int .u16 0, .int .u16 0, .bool false, .bool false, .bool false, .bool false] 26); have B3 := Hd (D2.out.bel B2.out hz); have D3 := Hd (D2.out.below hz); have H3 := Hd (H2.out.below hz); have P3 := Hd (P2.out.below hz); have Q3 := Hd (D2.out.new #[.int .u8 0, .int .u8 0, .int .u8 0, .int .u8 0, .int .u8 0, .int .u8 0, .int .u8 0, .int .u8 0, .int .u16 0, .int .u16 0, .bool false, .bool false, .bool false, .bool false] 26)
    have NSQ := Hd (show N ≠ u2.heap.size by have := H2.out.1; omega)
    have NPQ := Hd (show pb ≠ u2.heap.size by have := P2.out.1.1; omega)
    clear hz
    refine hK.out _ _ H3.out.2.1 (fun hNew => ?_); clear hK K hHeld; have hHeld := hNew; clear hNew
    generalize World.alloc u2 (.cells #[.int .u8 0, .int .u8 0, .int .u8 0, .int .u8 0, .int .u8 0, .int .u8 0, .int .u8 0, .int .u8 0, .int .u16 0, .int .u16 0, .bool false, .bool false, .bool false, .bool false] 26) = u3 at hHeld B3 D3 H3 Q3 P3 ⊢; generalize u2.heap.size = qb at Q3 NSQ NPQ ⊢
    refine re1 5 (fun K hK => ?_)
    have hcl := P3.out.1.2.1; have hfz := P3.out.1.2.2; go_simp; clear hcl hfz; have oz := Off.put14 u3 pb s; have P4 := Hd (Mine.put14 (s := ⟨⟨0, 0, 0, 0, 0, 0, 0, 0, 0, 0⟩, false, false, false, false⟩) P3.out s); have D4 := Hd (D3.out.off1 oz P3.out); have B4 := Hd (P3.out.bl B3.out oz D3.out.nle); have H4 := Hd (H3.out.off oz NSP.out); have Q4 := Hd (Q3.out.off1 oz (NPQ.out.symm)); clear oz
    refine hK.out _ _ H4.out.2.1 (fun hNew => ?_); clear hK K hHeld; have hHeld := hNew; clear hNew
    generalize (World.setCell (World.setCell (World.setCell (World.setCell (World.setCell (World.setCell (World.setCell (World.setCell (World.setCell (World.setCell (World.setCell (World.setCell (World.setCell (World.setCell u3 ⟨pb, 0, none⟩ (.int .u8 s.r.a)) ⟨pb, 1, none⟩ (.int .u8 s.r.f)) ⟨pb, 2, none⟩ (.int .u8 s.r.b)) ⟨pb, 3, none⟩ (.int .u8 s.r.c)) ⟨pb, 4, none⟩ (.int .u8 s.r.d)) ⟨pb, 5, none⟩ (.int .u8 s.r.e)) ⟨pb, 6, none⟩ (.int .u8 s.r.h)) ⟨pb, 7, none⟩ (.int .u8 s.r.l)) ⟨pb, 8, none⟩ (.int .u16 s.r.sp)) ⟨pb, 9, none⟩ (.int .u16 s.r.pc)) ⟨pb, 10, none⟩ (.bool s.ime)) ⟨pb, 11, none⟩ (.bool s.soon)) ⟨pb, 12, none⟩ (.bool s.halt)) ⟨pb, 13, none⟩ (.bool s.stop)) = u4 at hHeld B4 D4 H4 P4 Q4 ⊢
    refine re1 6 (fun K hK => ?_)
    have hcl := Q4.out.1.2.1; have hfz := Q4.out.1.2.2; go_simp; clear hcl hfz; have oz := Off.put14 u4 qb s; have Q5 := Hd (Mine.put14 (s := ⟨⟨0, 0, 0, 0, 0, 0, 0, 0, 0, 0⟩, false, false, false, false⟩) Q4.out s); have D5 := Hd (D4.out.off1 oz Q4.out); have B5 := Hd (Q4.out.bl B4.out oz D4.out.nle); have H5 := Hd (H4.out.off oz NSQ.out); have P5 := Hd (P4.out.off1 oz (NPQ.out)); clear oz
    refine hK.out _ _ H5.out.2.1 (fun hNew => ?_); clear hK K hHeld; have hHeld := hNew; clear hNew
    generalize (World.setCell (World.setCell (World.setCell (World.setCell (World.setCell (World.setCell (World.setCell (World.setCell (World.setCell (World.setCell (World.setCell (World.setCell (World.setCell (World.setCell u4 ⟨qb, 0, none⟩ (.int .u8 s.r.a)) ⟨qb, 1, none⟩ (.int .u8 s.r.f)) ⟨qb, 2, none⟩ (.int .u8 s.r.b)) ⟨qb, 3, none⟩ (.int .u8 s.r.c)) ⟨qb, 4, none⟩ (.int .u8 s.r.d)) ⟨qb, 5, none⟩ (.int .u8 s.r.e)) ⟨qb, 6, none⟩ (.int .u8 s.r.h)) ⟨qb, 7, none⟩ (.int .u8 s.r.l)) ⟨qb, 8, none⟩ (.int .u16 s.r.sp)) ⟨qb, 9, none⟩ (.int .u16 s.r.pc)) ⟨qb, 10, none⟩ (.bool s.ime)) ⟨qb, 11, none⟩ (.bool s.soon)) ⟨qb, 12, none⟩ (.bool s.halt)) ⟨qb, 13, none⟩ (.bool s.stop)) = u5 at hHeld B5 D5 H5 P5 Q5 ⊢
    refine wpAnyH_done (by kernel_rfl) ?_ _
    clear hHeld; go_wp2
    go_meet
    exact ⟨pb, qb, rfl, rfl, NPQ.out, B5.out, OKS.out, .slice none 0 0, .slice none 0 0, D5.out, P5.out, Q5.out⟩
   ·skip
    go_simp; have hz := own1 u1 (.cells #[.int .u8 0, .int .u8 0, .int .u8 0, .int .u8 0, .int .u8 0, .int .u8 0, .int .u8 0, .int .u8 0, .int .u16 0, .int .u16 0, .bool false, .bool false, .bool false, .bool false] 26); have B2 := Hd (D1.out.bel B1.out hz); have D2 := Hd (D1.out.below hz); have H2 := Hd (H1.out.below hz); have P2 := Hd (P1.out.below hz); have Q2 := Hd (D1.out.new #[.int .u8 0, .int .u8 0, .int .u8 0, .int .u8 0, .int .u8 0, .int .u8 0, .int .u8 0, .int .u8 0, .int .u16 0, .int .u16 0, .bool false, .bool false, .bool false, .bool false] 26)
    have NSQ := Hd (show N ≠ u1.heap.size by have := H1.out.1; omega)
    have NPQ := Hd (show pb ≠ u1.heap.size by have := P1.out.1.1; omega)
    clear hz
    refine hK.out _ _ H2.out.2.1 (fun hNew => ?_); clear hK K hHeld; have hHeld := hNew; clear hNew
    generalize World.alloc u1 (.cells #[.int .u8 0, .int .u8 0, .int .u8 0, .int .u8 0, .int .u8 0, .int .u8 0, .int .u8 0, .int .u8 0, .int .u16 0, .int .u16 0, .bool false, .bool false, .bool false, .bool false] 26) = u2 at hHeld B2 D2 H2 Q2 P2 ⊢; generalize u1.heap.size = qb at Q2 NSQ NPQ ⊢
    refine re1 1 (fun K hK => ?_)
    go_simp
    with_reducible refine (STC.out _).mono ?_
    rintro e u3 ⟨rfl, hz⟩; have B3 := Hd (D2.out.bel B2.out hz); have D3 := Hd (D2.out.below hz); have H3 := Hd (H2.out.below hz); have P3 := Hd (P2.out.below hz); have Q3 := Hd (Q2.out.below hz); clear hz
    refine hK.out _ _ H3.out.2.1 (fun hNew => ?_); clear hK K hHeld; have hHeld := hNew; clear hNew
    refine re1 5 (fun K hK => ?_)
    have hcl := P3.out.1.2.1; have hfz := P3.out.1.2.2; go_simp; clear hcl hfz; have oz := Off.put14 u3 pb s; have P4 := Hd (Mine.put14 (s := ⟨⟨0, 0, 0, 0, 0, 0, 0, 0, 0, 0⟩, false, false, false, false⟩) P3.out s); have D4 := Hd (D3.out.off1 oz P3.out); have B4 := Hd (P3.out.bl B3.out oz D3.out.nle); have H4 := Hd (H3.out.off oz NSP.out); have Q4 := Hd (Q3.out.off1 oz (NPQ.out.symm)); clear oz
    refine hK.out _ _ H4.out.2.1 (fun hNew => ?_); clear hK K hHeld; have hHeld := hNew; clear hNew
    generalize (World.setCell (World.setCell (World.setCell (World.setCell (World.setCell (World.setCell (World.setCell (World.setCell (World.setCell (World.setCell (World.setCell (World.setCell (World.setCell (World.setCell u3 ⟨pb, 0, none⟩ (.int .u8 s.r.a)) ⟨pb, 1, none⟩ (.int .u8 s.r.f)) ⟨pb, 2, none⟩ (.int .u8 s.r.b)) ⟨pb, 3, none⟩ (.int .u8 s.r.c)) ⟨pb, 4, none⟩ (.int .u8 s.r.d)) ⟨pb, 5, none⟩ (.int .u8 s.r.e)) ⟨pb, 6, none⟩ (.int .u8 s.r.h)) ⟨pb, 7, none⟩ (.int .u8 s.r.l)) ⟨pb, 8, none⟩ (.int .u16 s.r.sp)) ⟨pb, 9, none⟩ (.int .u16 s.r.pc)) ⟨pb, 10, none⟩ (.bool s.ime)) ⟨pb, 11, none⟩ (.bool s.soon)) ⟨pb, 12, none⟩ (.bool s.halt)) ⟨pb, 13, none⟩ (.bool s.stop)) = u4 at hHeld B4 D4 H4 P4 Q4 ⊢
    refine re1 6 (fun K hK => ?_)
    have hcl := Q4.out.1.2.1; have hfz := Q4.out.1.2.2; go_simp; clear hcl hfz; have oz := Off.put14 u4 qb s; have Q5 := Hd (Mine.put14 (s := ⟨⟨0, 0, 0, 0, 0, 0, 0, 0, 0, 0⟩, false, false, false, false⟩) Q4.out s); have D5 := Hd (D4.out.off1 oz Q4.out); have B5 := Hd (Q4.out.bl B4.out oz D4.out.nle); have H5 := Hd (H4.out.off oz NSQ.out); have P5 := Hd (P4.out.off1 oz (NPQ.out)); clear oz
    refine hK.out _ _ H5.out.2.1 (fun hNew => ?_); clear hK K hHeld; have hHeld := hNew; clear hNew
    generalize (World.setCell (World.setCell (World.setCell (World.setCell (World.setCell (World.setCell (World.setCell (World.setCell (World.setCell (World.setCell (World.setCell (World.setCell (World.setCell (World.setCell u4 ⟨qb, 0, none⟩ (.int .u8 s.r.a)) ⟨qb, 1, none⟩ (.int .u8 s.r.f)) ⟨qb, 2, none⟩ (.int .u8 s.r.b)) ⟨qb, 3, none⟩ (.int .u8 s.r.c)) ⟨qb, 4, none⟩ (.int .u8 s.r.d)) ⟨qb, 5, none⟩ (.int .u8 s.r.e)) ⟨qb, 6, none⟩ (.int .u8 s.r.h)) ⟨qb, 7, none⟩ (.int .u8 s.r.l)) ⟨qb, 8, none⟩ (.int .u16 s.r.sp)) ⟨qb, 9, none⟩ (.int .u16 s.r.pc)) ⟨qb, 10, none⟩ (.bool s.ime)) ⟨qb, 11, none⟩ (.bool s.soon)) ⟨qb, 12, none⟩ (.bool s.halt)) ⟨qb, 13, none⟩ (.bool s.stop)) = u5 at hHeld B5 D5 H5 P5 Q5 ⊢
    refine wpAnyH_done (by kernel_rfl) ?_ _
    clear hHeld; go_wp2
    go_meet
    exact ⟨pb, qb, rfl, rfl, NPQ.out, B5.out, OKS.out, .slice none 0 0, .slice none 0 0, D5.out, P5.out, Q5.out⟩
  ·skip
   go_simp; have hz := own1 u0 (.cells #[.int .u8 0, .int .u8 0, .int .u8 0, .int .u8 0, .int .u8 0, .int .u8 0, .int .u8 0, .int .u8 0, .int .u16 0, .int .u16 0, .bool false, .bool false, .bool false, .bool false] 26); have B1 := Hd (D0.out.bel B0.out hz); have D1 := Hd (D0.out.below hz); have H1 := Hd (H0.out.below hz); have Q1 := Hd (D0.out.new #[.int .u8 0, .int .u8 0, .int .u8 0, .int .u8 0, .int .u8 0, .int .u8 0, .int .u8 0, .int .u8 0, .int .u16 0, .int .u16 0, .bool false, .bool false, .bool false, .bool false] 26)
   have NSQ := Hd (show N ≠ u0.heap.size by have := H0.out.1; omega)
   clear hz
   refine hK.out _ _ H1.out.2.1 (fun hNew => ?_); clear hK K hHeld; have hHeld := hNew; clear hNew
   generalize World.alloc u0 (.cells #[.int .u8 0, .int .u8 0, .int .u8 0, .int .u8 0, .int .u8 0, .int .u8 0, .int .u8 0, .int .u8 0, .int .u16 0, .int .u16 0, .bool false, .bool false, .bool false, .bool false] 26) = u1 at hHeld B1 D1 H1 Q1 ⊢; generalize u0.heap.size = qb at Q1 NSQ ⊢
   refine wpAnyH_ready (rs := [1, 3]) (by kernel_rfl) (by simp) ?_
   refine (ac rfl (fun K hK => ?_) (ac rfl (fun K hK => ?_) AllReadyH.nil))
   ·skip
    go_simp
    with_reducible refine (STC.out _).mono ?_
    rintro e u2 ⟨rfl, hz⟩; have B2 := Hd (D1.out.bel B1.out hz); have D2 := Hd (D1.out.below hz); have H2 := Hd (H1.out.below hz); have Q2 := Hd (Q1.out.below hz); clear hz
    refine hK.out _ _ H2.out.2.1 (fun hNew => ?_); clear hK K hHeld; have hHeld := hNew; clear hNew
    refine re1 3 (fun K hK => ?_)
    go_simp; have hz := own1 u2 (.cells #[.int .u8 0, .int .u8 0, .int .u8 0, .int .u8 0, .int .u8 0, .int .u8 0, .int .u8 0, .int .u8 0, .int .u16 0, .int .u16 0, .bool false, .bool false, .bool false, .bool false] 41); have B3 := Hd (D2.out.bel B2.out hz); have D3 := Hd (D2.out.below hz); have H3 := Hd (H2.out.below hz); have Q3 := Hd (Q2.out.below hz); have P3 := Hd (D2.out.new #[.int .u8 0, .int .u8 0, .int .u8 0, .int .u8 0, .int .u8 0, .int .u8 0, .int .u8 0, .int .u8 0, .int .u16 0, .int .u16 0, .bool false, .bool false, .bool false, .bool false] 41)
    have NSP := Hd (show N ≠ u2.heap.size by have := H2.out.1; omega)
    have NPQ := Hd (show qb ≠ u2.heap.size by have := Q2.out.1.1; omega)
    clear hz
    refine hK.out _ _ H3.out.2.1 (fun hNew => ?_); clear hK K hHeld; have hHeld := hNew; clear hNew
    generalize World.alloc u2 (.cells #[.int .u8 0, .int .u8 0, .int .u8 0, .int .u8 0, .int .u8 0, .int .u8 0, .int .u8 0, .int .u8 0, .int .u16 0, .int .u16 0, .bool false, .bool false, .bool false, .bool false] 41) = u3 at hHeld B3 D3 H3 P3 Q3 ⊢; generalize u2.heap.size = pb at P3 NSP NPQ ⊢
    refine re1 5 (fun K hK => ?_)
    have hcl := P3.out.1.2.1; have hfz := P3.out.1.2.2; go_simp; clear hcl hfz; have oz := Off.put14 u3 pb s; have P4 := Hd (Mine.put14 (s := ⟨⟨0, 0, 0, 0, 0, 0, 0, 0, 0, 0⟩, false, false, false, false⟩) P3.out s); have D4 := Hd (D3.out.off1 oz P3.out); have B4 := Hd (P3.out.bl B3.out oz D3.out.nle); have H4 := Hd (H3.out.off oz NSP.out); have Q4 := Hd (Q3.out.off1 oz (NPQ.out)); clear oz
    refine hK.out _ _ H4.out.2.1 (fun hNew => ?_); clear hK K hHeld; have hHeld := hNew; clear hNew
    generalize (World.setCell (World.setCell (World.setCell (World.setCell (World.setCell (World.setCell (World.setCell (World.setCell (World.setCell (World.setCell (World.setCell (World.setCell (World.setCell (World.setCell u3 ⟨pb, 0, none⟩ (.int .u8 s.r.a)) ⟨pb, 1, none⟩ (.int .u8 s.r.f)) ⟨pb, 2, none⟩ (.int .u8 s.r.b)) ⟨pb, 3, none⟩ (.int .u8 s.r.c)) ⟨pb, 4, none⟩ (.int .u8 s.r.d)) ⟨pb, 5, none⟩ (.int .u8 s.r.e)) ⟨pb, 6, none⟩ (.int .u8 s.r.h)) ⟨pb, 7, none⟩ (.int .u8 s.r.l)) ⟨pb, 8, none⟩ (.int .u16 s.r.sp)) ⟨pb, 9, none⟩ (.int .u16 s.r.pc)) ⟨pb, 10, none⟩ (.bool s.ime)) ⟨pb, 11, none⟩ (.bool s.soon)) ⟨pb, 12, none⟩ (.bool s.halt)) ⟨pb, 13, none⟩ (.bool s.stop)) = u4 at hHeld B4 D4 H4 P4 Q4 ⊢
    refine re1 6 (fun K hK => ?_)
    have hcl := Q4.out.1.2.1; have hfz := Q4.out.1.2.2; go_simp; clear hcl hfz; have oz := Off.put14 u4 qb s; have Q5 := Hd (Mine.put14 (s := ⟨⟨0, 0, 0, 0, 0, 0, 0, 0, 0, 0⟩, false, false, false, false⟩) Q4.out s); have D5 := Hd (D4.out.off1 oz Q4.out); have B5 := Hd (Q4.out.bl B4.out oz D4.out.nle); have H5 := Hd (H4.out.off oz NSQ.out); have P5 := Hd (P4.out.off1 oz (NPQ.out.symm)); clear oz
    refine hK.out _ _ H5.out.2.1 (fun hNew => ?_); clear hK K hHeld; have hHeld := hNew; clear hNew
    generalize (World.setCell (World.setCell (World.setCell (World.setCell (World.setCell (World.setCell (World.setCell (World.setCell (World.setCell (World.setCell (World.setCell (World.setCell (World.setCell (World.setCell u4 ⟨qb, 0, none⟩ (.int .u8 s.r.a)) ⟨qb, 1, none⟩ (.int .u8 s.r.f)) ⟨qb, 2, none⟩ (.int .u8 s.r.b)) ⟨qb, 3, none⟩ (.int .u8 s.r.c)) ⟨qb, 4, none⟩ (.int .u8 s.r.d)) ⟨qb, 5, none⟩ (.int .u8 s.r.e)) ⟨qb, 6, none⟩ (.int .u8 s.r.h)) ⟨qb, 7, none⟩ (.int .u8 s.r.l)) ⟨qb, 8, none⟩ (.int .u16 s.r.sp)) ⟨qb, 9, none⟩ (.int .u16 s.r.pc)) ⟨qb, 10, none⟩ (.bool s.ime)) ⟨qb, 11, none⟩ (.bool s.soon)) ⟨qb, 12, none⟩ (.bool s.halt)) ⟨qb, 13, none⟩ (.bool s.stop)) = u5 at hHeld B5 D5 H5 P5 Q5 ⊢
    refine wpAnyH_done (by kernel_rfl) ?_ _
    clear hHeld; go_wp2
    go_meet
    exact ⟨pb, qb, rfl, rfl, NPQ.out.symm, B5.out, OKS.out, .slice none 0 0, .slice none 0 0, D5.out, P5.out, Q5.out⟩
   ·skip
    go_simp; have hz := own1 u1 (.cells #[.int .u8 0, .int .u8 0, .int .u8 0, .int .u8 0, .int .u8 0, .int .u8 0, .int .u8 0, .int .u8 0, .int .u16 0, .int .u16 0, .bool false, .bool false, .bool false, .bool false] 41); have B2 := Hd (D1.out.bel B1.out hz); have D2 := Hd (D1.out.below hz); have H2 := Hd (H1.out.below hz); have Q2 := Hd (Q1.out.below hz); have P2 := Hd (D1.out.new #[.int .u8 0, .int .u8 0, .int .u8 0, .int .u8 0, .int .u8 0, .int .u8 0, .int .u8 0, .int .u8 0, .int .u16 0, .int .u16 0, .bool false, .bool false, .bool false, .bool false] 41)
    have NSP := Hd (show N ≠ u1.heap.size by have := H1.out.1; omega)
    have NPQ := Hd (show qb ≠ u1.heap.size by have := Q1.out.1.1; omega)
    clear hz
    refine hK.out _ _ H2.out.2.1 (fun hNew => ?_); clear hK K hHeld; have hHeld := hNew; clear hNew
    generalize World.alloc u1 (.cells #[.int .u8 0, .int .u8 0, .int .u8 0, .int .u8 0, .int .u8 0, .int .u8 0, .int .u8 0, .int .u8 0, .int .u16 0, .int .u16 0, .bool false, .bool false, .bool false, .bool false] 41) = u2 at hHeld B2 D2 H2 P2 Q2 ⊢; generalize u1.heap.size = pb at P2 NSP NPQ ⊢
    refine re1 1 (fun K hK => ?_)
    go_simp
    with_reducible refine (STC.out _).mono ?_
    rintro e u3 ⟨rfl, hz⟩; have B3 := Hd (D2.out.bel B2.out hz); have D3 := Hd (D2.out.below hz); have H3 := Hd (H2.out.below hz); have P3 := Hd (P2.out.below hz); have Q3 := Hd (Q2.out.below hz); clear hz
    refine hK.out _ _ H3.out.2.1 (fun hNew => ?_); clear hK K hHeld; have hHeld := hNew; clear hNew
    refine re1 5 (fun K hK => ?_)
    have hcl := P3.out.1.2.1; have hfz := P3.out.1.2.2; go_simp; clear hcl hfz; have oz := Off.put14 u3 pb s; have P4 := Hd (Mine.put14 (s := ⟨⟨0, 0, 0, 0, 0, 0, 0, 0, 0, 0⟩, false, false, false, false⟩) P3.out s); have D4 := Hd (D3.out.off1 oz P3.out); have B4 := Hd (P3.out.bl B3.out oz D3.out.nle); have H4 := Hd (H3.out.off oz NSP.out); have Q4 := Hd (Q3.out.off1 oz (NPQ.out)); clear oz
    refine hK.out _ _ H4.out.2.1 (fun hNew => ?_); clear hK K hHeld; have hHeld := hNew; clear hNew
    generalize (World.setCell (World.setCell (World.setCell (World.setCell (World.setCell (World.setCell (World.setCell (World.setCell (World.setCell (World.setCell (World.setCell (World.setCell (World.setCell (World.setCell u3 ⟨pb, 0, none⟩ (.int .u8 s.r.a)) ⟨pb, 1, none⟩ (.int .u8 s.r.f)) ⟨pb, 2, none⟩ (.int .u8 s.r.b)) ⟨pb, 3, none⟩ (.int .u8 s.r.c)) ⟨pb, 4, none⟩ (.int .u8 s.r.d)) ⟨pb, 5, none⟩ (.int .u8 s.r.e)) ⟨pb, 6, none⟩ (.int .u8 s.r.h)) ⟨pb, 7, none⟩ (.int .u8 s.r.l)) ⟨pb, 8, none⟩ (.int .u16 s.r.sp)) ⟨pb, 9, none⟩ (.int .u16 s.r.pc)) ⟨pb, 10, none⟩ (.bool s.ime)) ⟨pb, 11, none⟩ (.bool s.soon)) ⟨pb, 12, none⟩ (.bool s.halt)) ⟨pb, 13, none⟩ (.bool s.stop)) = u4 at hHeld B4 D4 H4 P4 Q4 ⊢
    refine re1 6 (fun K hK => ?_)
    have hcl := Q4.out.1.2.1; have hfz := Q4.out.1.2.2; go_simp; clear hcl hfz; have oz := Off.put14 u4 qb s; have Q5 := Hd (Mine.put14 (s := ⟨⟨0, 0, 0, 0, 0, 0, 0, 0, 0, 0⟩, false, false, false, false⟩) Q4.out s); have D5 := Hd (D4.out.off1 oz Q4.out); have B5 := Hd (Q4.out.bl B4.out oz D4.out.nle); have H5 := Hd (H4.out.off oz NSQ.out); have P5 := Hd (P4.out.off1 oz (NPQ.out.symm)); clear oz
    refine hK.out _ _ H5.out.2.1 (fun hNew => ?_); clear hK K hHeld; have hHeld := hNew; clear hNew
    generalize (World.setCell (World.setCell (World.setCell (World.setCell (World.setCell (World.setCell (World.setCell (World.setCell (World.setCell (World.setCell (World.setCell (World.setCell (World.setCell (World.setCell u4 ⟨qb, 0, none⟩ (.int .u8 s.r.a)) ⟨qb, 1, none⟩ (.int .u8 s.r.f)) ⟨qb, 2, none⟩ (.int .u8 s.r.b)) ⟨qb, 3, none⟩ (.int .u8 s.r.c)) ⟨qb, 4, none⟩ (.int .u8 s.r.d)) ⟨qb, 5, none⟩ (.int .u8 s.r.e)) ⟨qb, 6, none⟩ (.int .u8 s.r.h)) ⟨qb, 7, none⟩ (.int .u8 s.r.l)) ⟨qb, 8, none⟩ (.int .u16 s.r.sp)) ⟨qb, 9, none⟩ (.int .u16 s.r.pc)) ⟨qb, 10, none⟩ (.bool s.ime)) ⟨qb, 11, none⟩ (.bool s.soon)) ⟨qb, 12, none⟩ (.bool s.halt)) ⟨qb, 13, none⟩ (.bool s.stop)) = u5 at hHeld B5 D5 H5 P5 Q5 ⊢
    refine wpAnyH_done (by kernel_rfl) ?_ _
    clear hHeld; go_wp2
    go_meet
    exact ⟨pb, qb, rfl, rfl, NPQ.out.symm, B5.out, OKS.out, .slice none 0 0, .slice none 0 0, D5.out, P5.out, Q5.out⟩
 case rest =>
  obtain ⟨pb, qb, rfl, rfl, hpq, hI⟩ := hcut; have NPQ := Hd hpq; have I0 := Hd hI; obtain ⟨y0, hy0⟩ : ∃ q_, q_ = (⟨s, fillM n f, []⟩ : Sy) := ⟨_, rfl⟩; rw [← hy0] at I0; clear hpq hI hy0 B0 H0 D0; go_wp2
  go_loopg [37] q (fun g' i wr => ∃ (t : Nat) (y : Sy), t ≤ q ∧ g' + t = q ∧ i = .int .i64 t ∧ RunI N w wr R M R2 M2 tb pb qb y t)
  case atStart => exact ⟨0, y0, by omega, by omega, rfl, I0.out⟩
  case round =>
   obtain ⟨t, y, ht, hg, rfl, hI⟩ := hrel; have TG := Hd hg; have II := Hd hI; clear hg hI I0
   by_cases hlt : t < q
   ·have l1 : (t : Int) < (k : Int) % 80 := by rw [HQ.out]; omega
    obtain ⟨ys, ym, ya⟩ := y; obtain ⟨hB, hok, v, v2, hD, hP, hQ⟩ := II.out; have OK := Hd hok
    have T12 := Hd (show 12 * t < 500000 by omega)
    have hz := own2 wr (.cells #[.int .i64 0, .int .i64 0, .int .u16 0, .int .i64 0, .int .i64 0, .int .i64 0, .int .i64 0, .int .u16 0, .bool false] 46) (.cells #[.int .i64 0, .int .i64 0, .int .u16 0, .int .i64 0, .int .i64 0, .int .i64 0, .int .i64 0, .int .u16 0, .bool false] 49); have B1 := Hd (hD.bel hB hz); have D1 := Hd (hD.below hz); have P1 := Hd (hP.below hz); have Q1 := Hd (hQ.below hz); have hE := (hD.new #[.int .i64 0, .int .i64 0, .int .u16 0, .int .i64 0, .int .i64 0, .int .i64 0, .int .i64 0, .int .u16 0, .bool false] 46); have E1 := Hd (hE.below (own1 _ (.cells #[.int .i64 0, .int .i64 0, .int .u16 0, .int .i64 0, .int .i64 0, .int .i64 0, .int .i64 0, .int .u16 0, .bool false] 49)))
    have F1 := Hd (show Mine N ((wr.alloc (.cells #[.int .i64 0, .int .i64 0, .int .u16 0, .int .i64 0, .int .i64 0, .int .i64 0, .int .i64 0, .int .u16 0, .bool false] 46)).alloc (.cells #[.int .i64 0, .int .i64 0, .int .u16 0, .int .i64 0, .int .i64 0, .int .i64 0, .int .i64 0, .int .u16 0, .bool false] 49)) R M R2 M2 tb v v2 (wr.heap.size + 1) #[.int .i64 0, .int .i64 0, .int .u16 0, .int .i64 0, .int .i64 0, .int .i64 0, .int .i64 0, .int .u16 0, .bool false] by simpa using (hD.below (own1 wr (.cells #[.int .i64 0, .int .i64 0, .int .u16 0, .int .i64 0, .int .i64 0, .int .i64 0, .int .i64 0, .int .u16 0, .bool false] 46))).new #[.int .i64 0, .int .i64 0, .int .u16 0, .int .i64 0, .int .i64 0, .int .i64 0, .int .i64 0, .int .u16 0, .bool false] 49)
    have pl := hP.1.1; have ql := hQ.1.1
    have ND := Hd (show pb ≠ wr.heap.size ∧ pb ≠ wr.heap.size + 1 ∧ qb ≠ wr.heap.size ∧ qb ≠ wr.heap.size + 1 ∧ wr.heap.size ≠ wr.heap.size + 1 by omega)
    clear hz hB hok hD hP hQ hE pl ql II; go_upto_region 10 with (fail); generalize (wr.alloc (.cells #[.int .i64 0, .int .i64 0, .int .u16 0, .int .i64 0, .int .i64 0, .int .i64 0, .int .i64 0, .int .u16 0, .bool false] 46)).alloc (.cells #[.int .i64 0, .int .i64 0, .int .u16 0, .int .i64 0, .int .i64 0, .int .i64 0, .int .i64 0, .int .u16 0, .bool false] 49) = W1 at B1 D1 P1 Q1 E1 F1 ⊢; generalize wr.heap.size + 1 = eb at F1 ND ⊢; generalize wr.heap.size = db at E1 ND ⊢; have hcs := P1.out.1.2.1; have hDa : Bus ramC W1 R M tb v ym ya (12 * t) := D1.out.a; go_wp2_with fail
    with_reducible refine (Step_t hDa T12.out ys OK.out).mono ?_
    rintro e W2 ⟨rfl, ok', v1, b', m'⟩; clear hcs hDa; obtain ⟨y1, hy⟩ : ∃ q_, q_ = stepS ⟨ys, ym, ya⟩ := ⟨_, rfl⟩; obtain ⟨D, hD⟩ : ∃ q_, q_ = stepD ⟨ys, ym, ya⟩ := ⟨_, rfl⟩
    have MST := Hd (fun (W : World) (V : Value) (hb : Bus memC W R2 M2 tb V ym ya (12 * t)) => mstep_t (y := ⟨ys, ym, ya⟩) hb T12.out OK.out)
    rw [← hy] at b' ok' MST ⊢; rw [← hD] at MST ⊢
    unfold St.cells didC
    have OK1 := Hd ok'; have B2 := Hd (D1.out.bl B1.out m'); have D2 := Hd (D1.out.left b' m'); have P2 := Hd (P1.out.left m'); have Q2 := Hd (Q1.out.left m'); have E2 := Hd (E1.out.left m'); have F2 := Hd (F1.out.left m'); clear hy hD ok' b' m' B1 D1 P1 Q1 E1 F1; have g1 := P2.out.1.2.1; have g2 := P2.out.1.2.2; have g3 := E2.out.1.2.1; have g4 := E2.out.1.2.2; have n1 : ¬ pb = db := ND.out.1
    have n2 : ¬ db = pb := fun e => ND.out.1 e.symm
    go_upto_region 11 with (fail); clear g1 g2 g3 g4 n1 n2; have o1 := Off.put14 W2 pb y1.s; have o2 := Off.put9 (World.setCell (World.setCell (World.setCell (World.setCell (World.setCell (World.setCell (World.setCell (World.setCell (World.setCell (World.setCell (World.setCell (World.setCell (World.setCell (World.setCell W2 ⟨pb, 0, none⟩ (.int .u8 y1.s.r.a)) ⟨pb, 1, none⟩ (.int .u8 y1.s.r.f)) ⟨pb, 2, none⟩ (.int .u8 y1.s.r.b)) ⟨pb, 3, none⟩ (.int .u8 y1.s.r.c)) ⟨pb, 4, none⟩ (.int .u8 y1.s.r.d)) ⟨pb, 5, none⟩ (.int .u8 y1.s.r.e)) ⟨pb, 6, none⟩ (.int .u8 y1.s.r.h)) ⟨pb, 7, none⟩ (.int .u8 y1.s.r.l)) ⟨pb, 8, none⟩ (.int .u16 y1.s.r.sp)) ⟨pb, 9, none⟩ (.int .u16 y1.s.r.pc)) ⟨pb, 10, none⟩ (.bool y1.s.ime)) ⟨pb, 11, none⟩ (.bool y1.s.soon)) ⟨pb, 12, none⟩ (.bool y1.s.halt)) ⟨pb, 13, none⟩ (.bool y1.s.stop)) db D; have E3 := E2.out.off1 o1 ND.out.1.symm; have D3 := D2.out.off1 o1 P2.out; have B4 := Hd (E3.bl (P2.out.bl B2.out o1 D2.out.nle) o2 D3.nle); have D4 := Hd (D3.off1 o2 E3); have E4 := Hd (E3.put9 D); have P4 := Hd ((P2.out.put14 y1.s).off1 o2 ND.out.1); have Q4 := Hd ((Q2.out.off1 o1 NPQ.out.symm).off1 o2 ND.out.2.2.1); have F4 := Hd ((F2.out.off1 o1 ND.out.2.1.symm).off1 o2 ND.out.2.2.2.2.symm); clear o1 o2 E3 D3 B2 D2 P2 Q2 E2 F2; generalize (World.setCell (World.setCell (World.setCell (World.setCell (World.setCell (World.setCell (World.setCell (World.setCell (World.setCell (World.setCell (World.setCell (World.setCell (World.setCell (World.setCell (World.setCell (World.setCell (World.setCell (World.setCell (World.setCell (World.setCell (World.setCell (World.setCell (World.setCell W2 ⟨pb, 0, none⟩ (.int .u8 y1.s.r.a)) ⟨pb, 1, none⟩ (.int .u8 y1.s.r.f)) ⟨pb, 2, none⟩ (.int .u8 y1.s.r.b)) ⟨pb, 3, none⟩ (.int .u8 y1.s.r.c)) ⟨pb, 4, none⟩ (.int .u8 y1.s.r.d)) ⟨pb, 5, none⟩ (.int .u8 y1.s.r.e)) ⟨pb, 6, none⟩ (.int .u8 y1.s.r.h)) ⟨pb, 7, none⟩ (.int .u8 y1.s.r.l)) ⟨pb, 8, none⟩ (.int .u16 y1.s.r.sp)) ⟨pb, 9, none⟩ (.int .u16 y1.s.r.pc)) ⟨pb, 10, none⟩ (.bool y1.s.ime)) ⟨pb, 11, none⟩ (.bool y1.s.soon)) ⟨pb, 12, none⟩ (.bool y1.s.halt)) ⟨pb, 13, none⟩ (.bool y1.s.stop)) ⟨db, 0, none⟩ (.int .i64 D.what)) ⟨db, 1, none⟩ (.int .i64 D.n)) ⟨db, 2, none⟩ (.int .u16 D.at')) ⟨db, 3, none⟩ (.int .i64 D.o.k)) ⟨db, 4, none⟩ (.int .i64 D.o.x)) ⟨db, 5, none⟩ (.int .i64 D.o.y)) ⟨db, 6, none⟩ (.int .i64 D.o.s)) ⟨db, 7, none⟩ (.int .u16 D.o.n)) ⟨db, 8, none⟩ (.bool D.t)) = W3 at B4 D4 P4 Q4 E4 F4 ⊢
    have hcs := Q4.out.1.2.1; have hDb : Bus memC W3 R2 M2 tb v2 ym ya (12 * t) := D4.out.b; go_wp2_with fail
    with_reducible refine (MST.out _ _ hDb).mono ?_
    rintro e W4 ⟨rfl, _, v3, b', m'⟩; clear hcs hDb MST
    unfold St.cells didC
    have B5 := Hd (D4.out.br B4.out m'); have D5 := Hd (D4.out.right b' m'); have P5 := Hd (P4.out.right m'); have Q5 := Hd (Q4.out.right m'); have E5 := Hd (E4.out.right m'); have F5 := Hd (F4.out.right m'); clear b' m' B4 D4 P4 Q4 E4 F4; have g1 := Q5.out.1.2.1; have g2 := Q5.out.1.2.2; have g3 := F5.out.1.2.1; have g4 := F5.out.1.2.2; have n1 : ¬ qb = eb := ND.out.2.2.2.1
    have n2 : ¬ eb = qb := fun e => ND.out.2.2.2.1 e.symm
    go_upto_region 12 with (fail); clear g1 g2 g3 g4 n1 n2; have o1 := Off.put14 W4 qb y1.s; have o2 := Off.put9 (World.setCell (World.setCell (World.setCell (World.setCell (World.setCell (World.setCell (World.setCell (World.setCell (World.setCell (World.setCell (World.setCell (World.setCell (World.setCell (World.setCell W4 ⟨qb, 0, none⟩ (.int .u8 y1.s.r.a)) ⟨qb, 1, none⟩ (.int .u8 y1.s.r.f)) ⟨qb, 2, none⟩ (.int .u8 y1.s.r.b)) ⟨qb, 3, none⟩ (.int .u8 y1.s.r.c)) ⟨qb, 4, none⟩ (.int .u8 y1.s.r.d)) ⟨qb, 5, none⟩ (.int .u8 y1.s.r.e)) ⟨qb, 6, none⟩ (.int .u8 y1.s.r.h)) ⟨qb, 7, none⟩ (.int .u8 y1.s.r.l)) ⟨qb, 8, none⟩ (.int .u16 y1.s.r.sp)) ⟨qb, 9, none⟩ (.int .u16 y1.s.r.pc)) ⟨qb, 10, none⟩ (.bool y1.s.ime)) ⟨qb, 11, none⟩ (.bool y1.s.soon)) ⟨qb, 12, none⟩ (.bool y1.s.halt)) ⟨qb, 13, none⟩ (.bool y1.s.stop)) eb D; have F6 := F5.out.off1 o1 ND.out.2.2.2.1.symm; have D6 := D5.out.off1 o1 Q5.out; have B7 := Hd (F6.bl (Q5.out.bl B5.out o1 D5.out.nle) o2 D6.nle); have D7 := Hd (D6.off1 o2 F6); have F7 := Hd (F6.put9 D); have Q7 := Hd ((Q5.out.put14 y1.s).off1 o2 ND.out.2.2.2.1); have P7 := Hd ((P5.out.off1 o1 NPQ.out).off1 o2 ND.out.2.1); have E7 := Hd ((E5.out.off1 o1 ND.out.2.2.1.symm).off1 o2 ND.out.2.2.2.2); clear o1 o2 F6 D6 B5 D5 P5 Q5 E5 F5; generalize (World.setCell (World.setCell (World.setCell (World.setCell (World.setCell (World.setCell (World.setCell (World.setCell (World.setCell (World.setCell (World.setCell (World.setCell (World.setCell (World.setCell (World.setCell (World.setCell (World.setCell (World.setCell (World.setCell (World.setCell (World.setCell (World.setCell (World.setCell W4 ⟨qb, 0, none⟩ (.int .u8 y1.s.r.a)) ⟨qb, 1, none⟩ (.int .u8 y1.s.r.f)) ⟨qb, 2, none⟩ (.int .u8 y1.s.r.b)) ⟨qb, 3, none⟩ (.int .u8 y1.s.r.c)) ⟨qb, 4, none⟩ (.int .u8 y1.s.r.d)) ⟨qb, 5, none⟩ (.int .u8 y1.s.r.e)) ⟨qb, 6, none⟩ (.int .u8 y1.s.r.h)) ⟨qb, 7, none⟩ (.int .u8 y1.s.r.l)) ⟨qb, 8, none⟩ (.int .u16 y1.s.r.sp)) ⟨qb, 9, none⟩ (.int .u16 y1.s.r.pc)) ⟨qb, 10, none⟩ (.bool y1.s.ime)) ⟨qb, 11, none⟩ (.bool y1.s.soon)) ⟨qb, 12, none⟩ (.bool y1.s.halt)) ⟨qb, 13, none⟩ (.bool y1.s.stop)) ⟨eb, 0, none⟩ (.int .i64 D.what)) ⟨eb, 1, none⟩ (.int .i64 D.n)) ⟨eb, 2, none⟩ (.int .u16 D.at')) ⟨eb, 3, none⟩ (.int .i64 D.o.k)) ⟨eb, 4, none⟩ (.int .i64 D.o.x)) ⟨eb, 5, none⟩ (.int .i64 D.o.y)) ⟨eb, 6, none⟩ (.int .i64 D.o.s)) ⟨eb, 7, none⟩ (.int .u16 D.o.n)) ⟨eb, 8, none⟩ (.bool D.t)) = W5 at B7 D7 P7 Q7 E7 F7 ⊢
    have g1 := P7.out.1.2.1; have g2 := E7.out.1.2.1; have g3 := Q7.out.1.2.1; have g4 := F7.out.1.2.1
    have SM := Hd (fun W => same_c y1.s D W)
    go_wp2_with fail
    with_reducible refine (SM.out _).mono ?_
    rintro e W6 ⟨rfl, hz⟩; have B9 := Hd (D7.out.bel B7.out hz); have D9 := Hd (D7.out.below hz); have P9 := Hd (P7.out.below hz); have Q9 := Hd (Q7.out.below hz); clear hz g1 g2 g3 g4 SM B7 D7 P7 Q7 E7 F7; go_wp2
    go_roundg (gk - 1)
    exact ⟨t + 1, y1, by omega, by have := TG.out; omega, by simp, B9.out, OK1.out, v1, v3, D9.out, P9.out, Q9.out⟩
    case measure => have := TG.out; omega
   ·have e : ¬ (t : Int) < (k : Int) % 80 := by rw [HQ.out]; omega
    obtain ⟨ys, ym, ya⟩ := y; obtain ⟨hB, hok, v, v2, hD, hP, hQ⟩ := II.out; have B0 := Hd hB; have D0 := Hd hD; clear hB hok hD hP hQ II; go_upto_region 15 with (fail); obtain ⟨ac1, cc1, hv1, ar1⟩ := D0.out.a.ar; obtain ⟨ac2, cc2, hv2, ar2⟩ := D0.out.b.ar
    dsimp only at hv1 hv2 ar1 ar2
    subst hv1; subst hv2; have A1 := Hd (ar1.below (Below.refl _ _).drew); have A2 := Hd (ar2.below (Below.refl _ _).drew)
    have LN := Hd (show ya.length < 1000000 from Nat.lt_of_le_of_lt D0.out.a.len (by omega))
    have X0 := Hd D0.out.drew.six; have B1 := Hd B0.out.drew; have D1 := Hd D0.out.drew; obtain ⟨z, hz⟩ : ∃ z, z = ym 65295 := ⟨_, rfl⟩
    dsimp only at X0
    rw [← hz] at X0; clear ar1 ar2 B0 D0
    refine wp_region_held_drew (S := (fun w' => w'.cell? ⟨R, 0, none⟩ = some (.slice (some ⟨M, 0, none⟩) 65536 65536) ∧ w'.cell? ⟨R, 1, none⟩ = some (.slice ac1 ya.length cc1) ∧ w'.cell? ⟨R2, 0, none⟩ = some (.slice (some ⟨M2, 0, none⟩) 65536 65536) ∧ w'.cell? ⟨R2, 5, none⟩ = some (.slice ac2 ya.length cc2) ∧ w'.cell? ⟨M, 65295, none⟩ = some (.int .u8 z) ∧ w'.cell? ⟨M2, 65295, none⟩ = some (.int .u8 z))) (by kernel_rfl) X0.out (fun hHeld => ?_)
    generalize World.drew wr = u0 at hHeld A1 A2 X0 B1 D1 ⊢; refine tz 0 ?_; refine tz 1 ?_; refine tz 2 ?_; refine tz 3 ?_; refine tz 4 ?_; refine tz 5 ?_; refine tz 6 ?_; refine tz 7 ?_
    refine re1 8 (fun K hK => ?_)
    go_simp
    with_reducible refine (acc_c ac1 ac2 cc1 cc2 ya _ LN.out A1.out A2.out).mono ?_
    rintro e u1 ⟨rfl, hb⟩; have B2 := Hd (D1.out.bel B1.out hb)
    have X2 := Hd (show _ from (D1.out.below hb).six)
    dsimp only at X2
    rw [← hz] at X2; clear hb
    refine hK.out _ _ X2.out (fun hNew => ?_); clear hK K hHeld; have hHeld := hNew; clear hNew
    refine tz 9 ?_; refine tz 10 ?_; refine tz 11 ?_; refine tz 12 ?_; refine tz 13 ?_; refine tz 14 ?_; refine tz 15 ?_; refine tz 16 ?_; refine tz 17 ?_; refine tz 18 ?_; refine tz 19 ?_; refine tz 20 ?_; refine tz 21 ?_; refine tz 22 ?_; refine tz 23 ?_; refine tz 24 ?_
    refine wpAnyH_done (by kernel_rfl) ?_ _
    clear hHeld; go_wp2; go_ret
    exact ⟨rfl, hN.out ▸ B2.out⟩
theorem runs_walk (s : St) (ok : s.r.ok) (v : Value) (k : Nat) (hk : k < 256) (w : World) (h : ∃ (a : Option Addr) (n c : Nat), v = .slice a n c ∧ n ≤ 9223372036854775807 ∧ (n < 4611686018427387904 → ∃ f, By w v n f)) : Calls Tryz.prog 3 #[.agg #[.int .u8 s.r.a, .int .u8 s.r.f, .int .u8 s.r.b, .int .u8 s.r.c, .int .u8 s.r.d, .int .u8 s.r.e, .int .u8 s.r.h, .int .u8 s.r.l, .int .u16 s.r.sp, .int .u16 s.r.pc, .bool s.ime, .bool s.soon, .bool s.halt, .bool s.stop], v, .int .u8 k] w fun e w' => e = .returned (.bool true) ∧ Below w.heap.size w w' := by
 obtain ⟨a, n, c, rfl, hn, hf⟩ := h
 by_cases h0 : 2000 < n
 ·exact runs_long s a n c h0 k w
 ·obtain ⟨f, hby⟩ := hf (by omega)
  exact runs_some s ok a n c h0 f k hk w hby
end Go.Proofs.YtngdogldgcgnjaaGreat
