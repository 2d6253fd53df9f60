/-
  Region 13 of CpuEach, in every order: for every world; both memories are there.
-/
import Derived.Test.YtngdogldgcgnjaaGreatZ48
import Derived.Deep.Cut
import Derived.Deep.DeepCutAuto
import Derived.Deep.LoopGhost
import Derived.Deep.CutBlock
import Derived.LoopN
namespace Go.Proofs.YtngdogldgcgnjaaGreat
open Go.ChangeShapes Go.WideShapes Go.ChangeAt Go.RowKit
open Reg
set_option linter.unusedVariables false
set_option maxHeartbeats 8000000
set_option maxRecDepth 100000
theorem Duo.drew {w : World} {N R M R2 M2 tb n n2 : Nat} {v v2 : Value} {y y2 : Sy} (h : Duo N w R M R2 M2 tb v v2 y y2 n n2) : Duo N w.drew R M R2 M2 tb v v2 y y2 n n2 := h.below (Below.refl _ _).drew
theorem duo_start {w : World} {N R M R2 M2 tb : Nat} {s : St} {m : Int → Int} (h : Ram w R M m) (g : Bus memC w R2 M2 tb (.slice none 0 0) m [] 0) (T : TabAny w tb) (nr : R ≠ tb) (nm : M ≠ tb) (nn : R ≠ R2 ∧ R ≠ M2 ∧ M ≠ R2 ∧ M ≠ M2) (lt : N ≤ tb) (lm : N ≤ M) (lr : N ≤ R) (lm2 : N ≤ M2) (lr2 : N ≤ R2) : Duo N w R M R2 M2 tb (.slice none 0 0) (.slice none 0 0) ⟨s, m, []⟩ ⟨s, m, []⟩ 0 0 := by
 refine ⟨h.bus T nr nm, g, nn, fun k hk => by simp [Value.ownBlock] at hk, fun k hk => by simp [Value.ownBlock] at hk, fun k hk => by simp [Value.ownBlock] at hk, fun k hk => ?_⟩
 rcases hk with (e | e | e | e) | (e | e | e | e)
 ·rw [e]; exact lr
 ·rw [e]; exact lm
 ·rw [e]; exact lt
 ·simp [Value.ownBlock] at e
 ·rw [e]; exact lr2
 ·rw [e]; exact lm2
 ·rw [e]; exact lt
 ·simp [Value.ownBlock] at e
theorem Duo.bel {w w' w0 : World} {N R M R2 M2 tb n n2 : Nat} {v v2 : Value} {y y2 : Sy} (h : Duo N w R M R2 M2 tb v v2 y y2 n n2) (hb : Below N w0 w) (hz : Below w.heap.size w w') : Below N w0 w' := hb.trans (hz.mono h.nle)
theorem Duo.six {w : World} {N R M R2 M2 tb n n2 l1 l2 c1 c2 : Nat} {a1 a2 : Option Addr} {y y2 : Sy} (h : Duo N w R M R2 M2 tb (.slice a1 l1 c1) (.slice a2 l2 c2) y y2 n n2) : w.cell? ⟨R, 0, none⟩ = some (.slice (some ⟨M, 0, none⟩) 65536 65536) ∧ w.cell? ⟨R, 1, none⟩ = some (.slice a1 l1 c1) ∧ w.cell? ⟨R2, 0, none⟩ = some (.slice (some ⟨M2, 0, none⟩) 65536 65536) ∧ w.cell? ⟨R2, 5, none⟩ = some (.slice a2 l2 c2) ∧ w.cell? ⟨M, 65295, none⟩ = some (.int .u8 (y.m 65295)) ∧ w.cell? ⟨M2, 65295, none⟩ = some (.int .u8 (y2.m 65295)) := by
 obtain ⟨q, hq⟩ := h.a.ram; obtain ⟨q2, hq2⟩ := h.b.ram
 exact ⟨hq.2.1 0, hq.2.1 1, hq2.2.1 0, hq2.2.1 5, h.a.mem 65295 (by decide), h.b.mem 65295 (by decide)⟩
theorem each_long (s : St) (a : Option Addr) (n c : Nat) (h0 : 2000 < n) (j k l : Int) (w : World) : Calls Tryz.prog 4 #[.agg #[.int .u8 s.r.a, .int .u8 s.r.f, .int .u8 s.r.b, .int .u8 s.r.c, .int .u8 s.r.d, .int .u8 s.r.e, .int .u8 s.r.h, .int .u8 s.r.l, .int .u16 s.r.sp, .int .u16 s.r.pc, .bool s.ime, .bool s.soon, .bool s.halt, .bool s.stop], .int .u16 j, .int .u8 k, .int .u8 l, .slice a n c] w fun e w' => e = .returned (.bool true) ∧ Below w.heap.size w w' := by
 have AW := Hd awake_c
 have h0I : (2000 : Int) < n := by omega
 have hnot := nt
 go_enter Tryz.func4, Tryz.ntmps4; go_wp2_with fail
 with_reducible refine (AW.out _).mono ?_
 rintro e w1 ⟨rfl, b1⟩; have B1 := Hd (via (own1 w _) b1); clear b1; go_wp2_with fail
 with_reducible refine (AW.out _).mono ?_
 rintro e w2 ⟨rfl, b2⟩; have B2 := Hd (via B1.out b2); clear b2; go_wp2; go_ret
 exact ⟨rfl, B2.out⟩
structure DRam (w : World) (R M : Nat) (m : Int → Int) : Prop where
 ram : Has w R (memC M 0 (.slice none 0 0))
 mem : ∀ a : Nat, a < 65536 → w.cell? ⟨M, a, none⟩ = some (.int .u8 (m a))
 free : ∀ a, w.frozen? ⟨M, a, none⟩ = false
 mlt : M < w.heap.size
 rm : R ≠ M
 okm : ∀ a, 0 ≤ m a ∧ m a < 256
theorem DRam.off {w w' : World} {R M : Nat} {m : Int → Int} {X : Nat → Prop} (h : DRam w R M m) (ho : Off X w w') (h1 : ¬ X R) (h2 : ¬ X M) : DRam w' R M m :=
 ⟨h.ram.off ho h1, fun a ha => (ho.cell (p := ⟨M, a, none⟩) h.mlt h2).trans (h.mem a ha), fun a => (ho.frozen (p := ⟨M, a, none⟩) h.mlt h2).trans (h.free a), Nat.lt_of_lt_of_le h.mlt ho.size, h.rm, h.okm⟩
theorem DRam.poke {w : World} {R M : Nat} {m : Int → Int} (h : DRam w R M m) (a : Nat) (ha : a < 65536) (x : Int) (h0 : 0 ≤ x) (h1 : x < 256) : DRam (w.setCell ⟨M, a, none⟩ (.int .u8 x)) R M (upd m a x) := by
 have hO : Off (fun k => k = M) w (w.setCell ⟨M, a, none⟩ (.int .u8 x)) := Off.setCell w M a _ rfl
 have hr : Ram ((w.alloc (.cells (ramC M 0 (.slice none 0 0)) 35))) w.heap.size M m := by
  have hb := own1 w (.cells (ramC M 0 (.slice none 0 0)) 35); have q := bcell hb
  exact ⟨Has.new w _ 35, fun b hb' => (q.1 M b h.mlt).trans (h.mem b hb'), fun b => (q.2 M b h.mlt).trans (h.free b), Nat.lt_of_lt_of_le h.mlt hb.size, by have := h.mlt; omega, h.okm⟩
 have hp := hr.poke a ha x h0 h1
 refine ⟨h.ram.off hO h.rm, fun b hb => ?_, fun b => by simpa [go_sem] using h.free b, Nat.lt_of_lt_of_le h.mlt hO.size, h.rm, hp.okm⟩
 unfold upd
 by_cases e : b = a
 ·subst e
  rw [if_pos rfl]
  exact World.cell?_setCell_same w _ _ (h.mem b hb)
 ·rw [if_neg (by omega), World.cell?_setCell_other w _ _ _ (by intro q; injection q with _ q; exact e q.symm)]
  exact h.mem b hb
theorem Fi.dram {w : World} {M n : Nat} {f : Nat → Int} (h : Fi w M n f 65536) (hf : ∀ j, 0 ≤ f j ∧ f j < 256) : DRam (w.alloc (.cells (memC M 0 (.slice none 0 0)) 38)) w.heap.size M (fillM n f) := by
 have hb := bcell (own1 w (.cells (memC M 0 (.slice none 0 0)) 38))
 refine ⟨Has.new w _ 38, fun a ha => ?_, fun a => (hb.2 M a h.lt).trans (h.free a), by simpa using Nat.lt_succ_of_lt h.lt, by have := h.lt; omega, fillM_ok hf⟩
 rw [hb.1 M a h.lt, h.mem a ha, if_pos ha]
 rfl
theorem DRam.bus {w : World} {R M tb : Nat} {m : Int → Int} (h : DRam w R M m) (T : TabAny w tb) (h1 : R ≠ tb) (h2 : M ≠ tb) : Bus memC w R M tb (.slice none 0 0) m [] 0 :=
 ⟨⟨0, h.ram⟩, h.mem, h.free, h.mlt, World.ownsRow_nil _ _ _ _, T, h.rm, h1, h2, fun k hk => by simp [Value.ownBlock] at hk, h.okm, Nat.le_refl _⟩
def Fresh (N : Nat) (w : World) (R M R2 M2 b : Nat) (A : Array Value) : Prop := Has w b A ∧ N ≤ b ∧ b ≠ R ∧ b ≠ M ∧ b ≠ R2 ∧ b ≠ M2
structure Ev (N : Nat) (w0 w : World) (R M R2 M2 sb : Nat) (m : Int → Int) (A : Array Value) : Prop where
 b : Below N w0 w
 a : Ram w R M m
 g : DRam w R2 M2 m
 h : Fresh N w R M R2 M2 sb A
 d : R ≠ R2 ∧ R ≠ M2 ∧ M ≠ R2 ∧ M ≠ M2
 l : N ≤ M ∧ N ≤ R ∧ N ≤ M2 ∧ N ≤ R2
section
variable {N : Nat} {w0 w w' : World} {R M R2 M2 sb tb : Nat} {m : Int → Int} {A : Array Value} {s : St}
theorem Ev.nle (h : Ev N w0 w R M R2 M2 sb m A) : N ≤ w.heap.size := Nat.le_of_lt (Nat.lt_of_le_of_lt h.l.1 h.a.mlt)
theorem Fresh.off {b : Nat} {X : Nat → Prop} (h : Fresh N w R M R2 M2 b A) (ho : Off X w w') (hx : ¬ X b) : Fresh N w' R M R2 M2 b A := ⟨h.1.off ho hx, h.2⟩
theorem Fresh.below {b : Nat} (h : Fresh N w R M R2 M2 b A) (hb : Below w.heap.size w w') : Fresh N w' R M R2 M2 b A := ⟨h.1.below hb, h.2⟩
theorem Ev.next (h : Ev N w0 w R M R2 M2 sb m A) (hb : Below w.heap.size w w') : Ev N w0 w' R M R2 M2 sb m A :=
 ⟨h.b.trans (hb.mono h.nle), h.a.below hb, h.g.off (Off.of (fun _ => False) hb) id id, h.h.below hb, h.d, h.l⟩
theorem Ev.drew (h : Ev N w0 w R M R2 M2 sb m A) : Ev N w0 w.drew R M R2 M2 sb m A := h.next (Below.refl _ _).drew
theorem Ev.new (h : Ev N w0 w R M R2 M2 sb m A) (A' : Array Value) (t : TypeId) : Fresh N (w.alloc (.cells A' t)) R M R2 M2 w.heap.size A' := by
 have h1 := h.a.ram.1; have h2 := h.a.mlt; have h3 := h.g.ram.1; have h4 := h.g.mlt
 exact ⟨Has.new w A' t, h.nle, by omega, by omega, by omega, by omega⟩
theorem Ev.poke (h : Ev N w0 w R M R2 M2 sb m A) (a : Nat) (ha : a < 65536) (x : Int) (h0 : 0 ≤ x) (h1 : x < 256) : Ev N w0 ((w.setCell ⟨M, a, none⟩ (.int .u8 x)).setCell ⟨M2, a, none⟩ (.int .u8 x)) R M R2 M2 sb (upd m a x) A := by
 have o1 : Off (fun k => k = M) w (w.setCell ⟨M, a, none⟩ (.int .u8 x)) := Off.setCell w M a _ rfl
 have o2 : Off (fun k => k = M2) (w.setCell ⟨M, a, none⟩ (.int .u8 x)) ((w.setCell ⟨M, a, none⟩ (.int .u8 x)).setCell ⟨M2, a, none⟩ (.int .u8 x)) := Off.setCell _ M2 a _ rfl
 have g1 := h.g.off o1 (fun e => h.d.2.2.1 e.symm) (fun e => h.d.2.2.2 e.symm)
 exact ⟨(h.b.setCell (p := ⟨M, a, none⟩) h.l.1 _).setCell (p := ⟨M2, a, none⟩) h.l.2.2.1 _, (h.a.poke a ha x h0 h1).off o2 h.d.2.1 h.d.2.2.2, g1.poke a ha x h0 h1, (h.h.off o1 h.h.2.2.2.1).off o2 h.h.2.2.2.2.2, h.d, h.l⟩
theorem Fresh.poke {b : Nat} (h : Fresh N w R M R2 M2 b A) (a : Nat) (x : Value) : Fresh N ((w.setCell ⟨M, a, none⟩ x).setCell ⟨M2, a, none⟩ x) R M R2 M2 b A :=
 (h.off (Off.setCell (X := fun k => k = M) w M a x rfl) h.2.2.2.1).off (Off.setCell (X := fun k => k = M2) _ M2 a x rfl) h.2.2.2.2.2
end
theorem four {N : Nat} {w0 w : World} {R M R2 M2 cb : Nat} {m : Int → Int} {s : St} {t : Nat} {x : Value} (h : Ev N w0 w R M R2 M2 N m #[.int .u8 s.r.a, .int .u8 s.r.f, .int .u8 s.r.b, .int .u8 s.r.c, .int .u8 s.r.d, .int .u8 s.r.e, .int .u8 s.r.h, .int .u8 s.r.l, .int .u16 s.r.sp, .int .u16 s.r.pc, .bool s.ime, .bool s.soon, .bool s.halt, .bool s.stop]) (hl : cb < w.heap.size) (hx : w.cell? ⟨cb, t, none⟩ = some x) : w.cell? ⟨R, 0, none⟩ = some (.slice (some ⟨M, 0, none⟩) 65536 65536) ∧ w.cell? ⟨R2, 0, none⟩ = some (.slice (some ⟨M2, 0, none⟩) 65536 65536) ∧ w.cell? ⟨N, 9, none⟩ = some (.int .u16 s.r.pc) ∧ w.cell? ⟨cb, t, none⟩ = some x :=
 ⟨h.a.ram.2.1 0, h.g.ram.2.1 0, h.h.1.2.1 9, hx⟩
theorem four' {w w' : World} {R R2 N cb b : Nat} {x0 x1 x2 x : Option Value} {t : Nat} (ho : Off (fun k => k = b) w w') (h : w.cell? ⟨R, 0, none⟩ = x0 ∧ w.cell? ⟨R2, 0, none⟩ = x1 ∧ w.cell? ⟨N, 9, none⟩ = x2 ∧ w.cell? ⟨cb, t, none⟩ = x) (l : R < w.heap.size ∧ R2 < w.heap.size ∧ N < w.heap.size ∧ cb < w.heap.size) (n : R ≠ b ∧ R2 ≠ b ∧ N ≠ b ∧ cb ≠ b) : w'.cell? ⟨R, 0, none⟩ = x0 ∧ w'.cell? ⟨R2, 0, none⟩ = x1 ∧ w'.cell? ⟨N, 9, none⟩ = x2 ∧ w'.cell? ⟨cb, t, none⟩ = x :=
 ⟨(ho.cell (p := ⟨R, 0, none⟩) l.1 n.1).trans h.1, (ho.cell (p := ⟨R2, 0, none⟩) l.2.1 n.2.1).trans h.2.1, (ho.cell (p := ⟨N, 9, none⟩) l.2.2.1 n.2.2.1).trans h.2.2.1, (ho.cell (p := ⟨cb, t, none⟩) l.2.2.2 n.2.2.2).trans h.2.2.2⟩
theorem Ev.flags {N : Nat} {w0 w : World} {R M R2 M2 sb : Nat} {m : Int → Int} {s : St} (h : Ev N w0 w R M R2 M2 sb m #[.int .u8 s.r.a, .int .u8 s.r.f, .int .u8 s.r.b, .int .u8 s.r.c, .int .u8 s.r.d, .int .u8 s.r.e, .int .u8 s.r.h, .int .u8 s.r.l, .int .u16 s.r.sp, .int .u16 s.r.pc, .bool s.ime, .bool s.soon, .bool s.halt, .bool s.stop]) : Ev N w0 (((w.setCell ⟨sb, 12, none⟩ (.bool false)).setCell ⟨sb, 13, none⟩ (.bool false)).setCell ⟨sb, 10, none⟩ (.bool false)) R M R2 M2 sb m #[.int .u8 s.r.a, .int .u8 s.r.f, .int .u8 s.r.b, .int .u8 s.r.c, .int .u8 s.r.d, .int .u8 s.r.e, .int .u8 s.r.h, .int .u8 s.r.l, .int .u16 s.r.sp, .int .u16 s.r.pc, .bool false, .bool s.soon, .bool false, .bool false] := by
 have o : Off (fun k => k = sb) w (((w.setCell ⟨sb, 12, none⟩ (.bool false)).setCell ⟨sb, 13, none⟩ (.bool false)).setCell ⟨sb, 10, none⟩ (.bool false)) := ((Off.setCell (X := fun k => k = sb) w sb 12 _ rfl).trans (Off.setCell (X := fun k => k = sb) _ sb 13 _ rfl) (fun _ _ e => e)).trans (Off.setCell (X := fun k => k = sb) _ sb 10 _ rfl) (fun _ _ e => e)
 have hs := ((h.h.1.set 12 (.bool false) (by simp)).set 13 (.bool false) (by simp)).set 10 (.bool false) (by simp)
 exact ⟨h.b.trans (o.below (fun k hk e => by have := h.h.2.1; have e' : k = sb := e; omega) h.nle), h.a.off o h.h.2.2.1.symm h.h.2.2.2.1.symm, h.g.off o h.h.2.2.2.2.1.symm h.h.2.2.2.2.2.symm, ⟨by simpa using hs, h.h.2⟩, h.d, h.l⟩
structure On (N : Nat) (w0 w : World) (R M R2 M2 tb : Nat) (v v2 : Value) (y y2 : Sy) (n n2 sb : Nat) (A : Array Value) : Prop where
 b : Below N w0 w
 d : Duo N w R M R2 M2 tb v v2 y y2 n n2
 h : Mine N w R M R2 M2 tb v v2 sb A
theorem On.next {N : Nat} {w0 w w' : World} {R M R2 M2 tb n n2 sb : Nat} {v v2 : Value} {y y2 : Sy} {A : Array Value} (h : On N w0 w R M R2 M2 tb v v2 y y2 n n2 sb A) (hb : Below w.heap.size w w') : On N w0 w' R M R2 M2 tb v v2 y y2 n n2 sb A := ⟨h.d.bel h.b hb, h.d.below hb, h.h.below hb⟩
theorem On.left {N : Nat} {w0 w w' : World} {R M R2 M2 tb n n2 n' sb : Nat} {v v2 v' : Value} {y y2 y' : Sy} {A : Array Value} (h : On N w0 w R M R2 M2 tb v v2 y y2 n n2 sb A) (hb : Bus ramC w' R M tb v' y'.m y'.acc n') (hm : BM R M tb v w v' w') : On N w0 w' R M R2 M2 tb v' v2 y' y2 n' n2 sb A := ⟨h.d.bl h.b hm, h.d.left hb hm, h.h.left hm⟩
theorem On.right {N : Nat} {w0 w w' : World} {R M R2 M2 tb n n2 n' sb : Nat} {v v2 v' : Value} {y y2 y' : Sy} {A : Array Value} (h : On N w0 w R M R2 M2 tb v v2 y y2 n n2 sb A) (hb : Bus memC w' R2 M2 tb v' y'.m y'.acc n') (hm : BM R2 M2 tb v2 w v' w') : On N w0 w' R M R2 M2 tb v v' y y' n n' sb A := ⟨h.d.br h.b hm, h.d.right hb hm, h.h.right hm⟩
theorem Duo.acs {w : World} {N R M R2 M2 tb n n2 l1 l2 c1 c2 : Nat} {a1 a2 : Option Addr} {y y2 : Sy} (h : Duo N w R M R2 M2 tb (.slice a1 l1 c1) (.slice a2 l2 c2) y y2 n n2) : w.cell? ⟨R, 1, none⟩ = some (.slice a1 l1 c1) ∧ w.cell? ⟨R2, 5, none⟩ = some (.slice a2 l2 c2) := by
 obtain ⟨q, hq⟩ := h.a.ram; obtain ⟨q2, hq2⟩ := h.b.ram
 exact ⟨hq.2.1 1, hq2.2.1 5⟩
theorem Fresh.mine {N : Nat} {w : World} {R M R2 M2 b : Nat} {A : Array Value} (h : Fresh N w R M R2 M2 b A) : Mine N (w.alloc (.cells Tryz.zeroCells81 81)) R M R2 M2 w.heap.size (.slice none 0 0) (.slice none 0 0) b A := by
 have l := h.1.1
 refine ⟨h.1.below (own1 w _), h.2.1, fun e => ?_⟩
 rcases e with (e | e | e | e) | (e | e | e | e)
 ·exact h.2.2.1 e
 ·exact h.2.2.2.1 e
 ·omega
 ·simp [Value.ownBlock] at e
 ·exact h.2.2.2.2.1 e
 ·exact h.2.2.2.2.2 e
 ·omega
 ·simp [Value.ownBlock] at e
theorem Ev.on {N : Nat} {w0 w : World} {R M R2 M2 sb : Nat} {m : Int → Int} {A : Array Value} (s : St) (h : Ev N w0 w R M R2 M2 sb m A) : On N w0 (w.alloc (.cells Tryz.zeroCells81 81)) R M R2 M2 w.heap.size (.slice none 0 0) (.slice none 0 0) ⟨s, m, []⟩ ⟨s, m, []⟩ 0 0 sb A := by
 have hz := own1 w (.cells Tryz.zeroCells81 81); have T : TabAny (w.alloc (.cells Tryz.zeroCells81 81)) w.heap.size := Or.inl (Tab.new w 81); have h1 := h.a.ram.1; have h2 := h.a.mlt; have h3 := h.g.ram.1; have h4 := h.g.mlt; have E := h.next hz
 exact ⟨E.b, duo_start E.a (E.g.bus T (by omega) (by omega)) T (by omega) (by omega) h.d h.nle h.l.1 h.l.2.1 h.l.2.2.1 h.l.2.2.2, h.h.mine⟩
def Dn1 (N : Nat) (w0 wx : World) (R M R2 M2 tb pb db : Nat) (v : Value) (y1 y : Sy) (D : DidV) (sb : Nat) (A : Array Value) : Prop := On N w0 wx R M R2 M2 tb v (.slice none 0 0) y1 y 12 0 sb A ∧ Mine N wx R M R2 M2 tb v (.slice none 0 0) pb #[.int .u8 y1.s.r.a, .int .u8 y1.s.r.f, .int .u8 y1.s.r.b, .int .u8 y1.s.r.c, .int .u8 y1.s.r.d, .int .u8 y1.s.r.e, .int .u8 y1.s.r.h, .int .u8 y1.s.r.l, .int .u16 y1.s.r.sp, .int .u16 y1.s.r.pc, .bool y1.s.ime, .bool y1.s.soon, .bool y1.s.halt, .bool y1.s.stop] ∧ Mine N wx R M R2 M2 tb v (.slice none 0 0) db #[.int .i64 D.what, .int .i64 D.n, .int .u16 D.at', .int .i64 D.o.k, .int .i64 D.o.x, .int .i64 D.o.y, .int .i64 D.o.s, .int .u16 D.o.n, .bool D.t]
theorem On.did {N : Nat} {w0 w : World} {R M R2 M2 tb sb pb db : Nat} {v : Value} {y1 y : Sy} {D : DidV} {A : Array Value} (h : On N w0 w R M R2 M2 tb v (.slice none 0 0) y1 y 12 0 sb A) (hp : Mine N w R M R2 M2 tb v (.slice none 0 0) pb #[.int .u8 0, .int .u8 0, .int .u8 0, .int .u8 0, .int .u8 0, .int .u8 0, .int .u8 0, .int .u8 0, .int .u16 0, .int .u16 0, .bool false, .bool false, .bool false, .bool false]) (he : Mine N w R M R2 M2 tb v (.slice none 0 0) db #[.int .i64 0, .int .i64 0, .int .u16 0, .int .i64 0, .int .i64 0, .int .i64 0, .int .i64 0, .int .u16 0, .bool false]) (n1 : sb ≠ pb) (n2 : sb ≠ db) (n3 : pb ≠ db) : Dn1 N w0 (World.setCell (World.setCell (World.setCell (World.setCell (World.setCell (World.setCell (World.setCell (World.setCell (World.setCell (World.setCell (World.setCell (World.setCell (World.setCell (World.setCell (World.setCell (World.setCell (World.setCell (World.setCell (World.setCell (World.setCell (World.setCell (World.setCell (World.setCell w ⟨pb, 0, none⟩ (.int .u8 y1.s.r.a)) ⟨pb, 1, none⟩ (.int .u8 y1.s.r.f)) ⟨pb, 2, none⟩ (.int .u8 y1.s.r.b)) ⟨pb, 3, none⟩ (.int .u8 y1.s.r.c)) ⟨pb, 4, none⟩ (.int .u8 y1.s.r.d)) ⟨pb, 5, none⟩ (.int .u8 y1.s.r.e)) ⟨pb, 6, none⟩ (.int .u8 y1.s.r.h)) ⟨pb, 7, none⟩ (.int .u8 y1.s.r.l)) ⟨pb, 8, none⟩ (.int .u16 y1.s.r.sp)) ⟨pb, 9, none⟩ (.int .u16 y1.s.r.pc)) ⟨pb, 10, none⟩ (.bool y1.s.ime)) ⟨pb, 11, none⟩ (.bool y1.s.soon)) ⟨pb, 12, none⟩ (.bool y1.s.halt)) ⟨pb, 13, none⟩ (.bool y1.s.stop)) ⟨db, 0, none⟩ (.int .i64 D.what)) ⟨db, 1, none⟩ (.int .i64 D.n)) ⟨db, 2, none⟩ (.int .u16 D.at')) ⟨db, 3, none⟩ (.int .i64 D.o.k)) ⟨db, 4, none⟩ (.int .i64 D.o.x)) ⟨db, 5, none⟩ (.int .i64 D.o.y)) ⟨db, 6, none⟩ (.int .i64 D.o.s)) ⟨db, 7, none⟩ (.int .u16 D.o.n)) ⟨db, 8, none⟩ (.bool D.t)) R M R2 M2 tb pb db v y1 y D sb A := by
 have o1 := Off.put14 w pb y1.s; have o2 := Off.put9 (World.setCell (World.setCell (World.setCell (World.setCell (World.setCell (World.setCell (World.setCell (World.setCell (World.setCell (World.setCell (World.setCell (World.setCell (World.setCell (World.setCell w ⟨pb, 0, none⟩ (.int .u8 y1.s.r.a)) ⟨pb, 1, none⟩ (.int .u8 y1.s.r.f)) ⟨pb, 2, none⟩ (.int .u8 y1.s.r.b)) ⟨pb, 3, none⟩ (.int .u8 y1.s.r.c)) ⟨pb, 4, none⟩ (.int .u8 y1.s.r.d)) ⟨pb, 5, none⟩ (.int .u8 y1.s.r.e)) ⟨pb, 6, none⟩ (.int .u8 y1.s.r.h)) ⟨pb, 7, none⟩ (.int .u8 y1.s.r.l)) ⟨pb, 8, none⟩ (.int .u16 y1.s.r.sp)) ⟨pb, 9, none⟩ (.int .u16 y1.s.r.pc)) ⟨pb, 10, none⟩ (.bool y1.s.ime)) ⟨pb, 11, none⟩ (.bool y1.s.soon)) ⟨pb, 12, none⟩ (.bool y1.s.halt)) ⟨pb, 13, none⟩ (.bool y1.s.stop)) db D; have he' := he.off1 o1 n3.symm; have hd' := h.d.off1 o1 hp
 exact ⟨⟨he'.bl (hp.bl h.b o1 h.d.nle) o2 hd'.nle, hd'.off1 o2 he', (h.h.off1 o1 n1).off1 o2 n2⟩, (Mine.put14 (s := ⟨⟨0, 0, 0, 0, 0, 0, 0, 0, 0, 0⟩, false, false, false, false⟩) hp y1.s).off1 o2 n3, he'.put9 D⟩
section
variable {N : Nat} {w0 w : World} {R M R2 M2 tb n n2 sb b : Nat} {v v2 : Value} {y y2 : Sy} {m : Int → Int} {A : Array Value}
theorem onAl (h : Hid (On N w0 w R M R2 M2 tb v v2 y y2 n n2 sb A)) (B : Array Value) (t : TypeId) : Hid (On N w0 (w.alloc (.cells B t)) R M R2 M2 tb v v2 y y2 n n2 sb A) ∧ Hid (Mine N (w.alloc (.cells B t)) R M R2 M2 tb v v2 w.heap.size B) ∧ Hid (sb ≠ w.heap.size) :=
 ⟨Hd (h.out.next (own1 w _)), Hd (h.out.d.new B t), Hd (by have := h.out.h.1.1; omega)⟩
theorem mineAl (h : Hid (Mine N w R M R2 M2 tb v v2 b A)) (B : Array Value) (t : TypeId) : Hid (Mine N (w.alloc (.cells B t)) R M R2 M2 tb v v2 b A) ∧ Hid (b ≠ w.heap.size) :=
 ⟨Hd (h.out.below (own1 w _)), Hd (by have := h.out.1.1; omega)⟩
theorem evAl (h : Hid (Ev N w0 w R M R2 M2 sb m A)) (B : Array Value) (t : TypeId) : Hid (Ev N w0 (w.alloc (.cells B t)) R M R2 M2 sb m A) ∧ Hid (Fresh N (w.alloc (.cells B t)) R M R2 M2 w.heap.size B) ∧ Hid (sb ≠ w.heap.size) :=
 ⟨Hd (h.out.next (own1 w _)), Hd (h.out.new B t), Hd (by have := h.out.h.1.1; omega)⟩
theorem freshAl (h : Hid (Fresh N w R M R2 M2 b A)) (B : Array Value) (t : TypeId) : Hid (Fresh N (w.alloc (.cells B t)) R M R2 M2 b A) ∧ Hid (b ≠ w.heap.size) :=
 ⟨Hd (h.out.below (own1 w _)), Hd (by have := h.out.1.1; omega)⟩
theorem onP (h : Hid (On N w0 w R M R2 M2 tb v v2 y y2 n n2 sb A)) : Hid (On N w0 (w.alloc (.cells #[.int .u8 0, .int .u8 0, .int .u8 0, .int .u8 0, .int .u8 0, .int .u8 0, .int .u8 0, .int .u8 0, .int .u16 0, .int .u16 0, .bool false, .bool false, .bool false, .bool false] 41)) R M R2 M2 tb v v2 y y2 n n2 sb A) ∧ Hid (Mine N (w.alloc (.cells #[.int .u8 0, .int .u8 0, .int .u8 0, .int .u8 0, .int .u8 0, .int .u8 0, .int .u8 0, .int .u8 0, .int .u16 0, .int .u16 0, .bool false, .bool false, .bool false, .bool false] 41)) R M R2 M2 tb v v2 w.heap.size #[.int .u8 0, .int .u8 0, .int .u8 0, .int .u8 0, .int .u8 0, .int .u8 0, .int .u8 0, .int .u8 0, .int .u16 0, .int .u16 0, .bool false, .bool false, .bool false, .bool false]) ∧ Hid (sb ≠ w.heap.size) := onAl h _ _
theorem onE (h : Hid (On N w0 w R M R2 M2 tb v v2 y y2 n n2 sb A)) : Hid (On N w0 (w.alloc (.cells #[.int .i64 0, .int .i64 0, .int .u16 0, .int .i64 0, .int .i64 0, .int .i64 0, .int .i64 0, .int .u16 0, .bool false] 46)) R M R2 M2 tb v v2 y y2 n n2 sb A) ∧ Hid (Mine N (w.alloc (.cells #[.int .i64 0, .int .i64 0, .int .u16 0, .int .i64 0, .int .i64 0, .int .i64 0, .int .i64 0, .int .u16 0, .bool false] 46)) R M R2 M2 tb v v2 w.heap.size #[.int .i64 0, .int .i64 0, .int .u16 0, .int .i64 0, .int .i64 0, .int .i64 0, .int .i64 0, .int .u16 0, .bool false]) ∧ Hid (sb ≠ w.heap.size) := onAl h _ _
theorem mineP (h : Hid (Mine N w R M R2 M2 tb v v2 b A)) : Hid (Mine N (w.alloc (.cells #[.int .u8 0, .int .u8 0, .int .u8 0, .int .u8 0, .int .u8 0, .int .u8 0, .int .u8 0, .int .u8 0, .int .u16 0, .int .u16 0, .bool false, .bool false, .bool false, .bool false] 41)) R M R2 M2 tb v v2 b A) ∧ Hid (b ≠ w.heap.size) := mineAl h _ _
theorem mineE (h : Hid (Mine N w R M R2 M2 tb v v2 b A)) : Hid (Mine N (w.alloc (.cells #[.int .i64 0, .int .i64 0, .int .u16 0, .int .i64 0, .int .i64 0, .int .i64 0, .int .i64 0, .int .u16 0, .bool false] 46)) R M R2 M2 tb v v2 b A) ∧ Hid (b ≠ w.heap.size) := mineAl h _ _
theorem evP (h : Hid (Ev N w0 w R M R2 M2 sb m A)) : Hid (Ev N w0 (w.alloc (.cells #[.int .u8 0, .int .u8 0, .int .u8 0, .int .u8 0, .int .u8 0, .int .u8 0, .int .u8 0, .int .u8 0, .int .u16 0, .int .u16 0, .bool false, .bool false, .bool false, .bool false] 41)) R M R2 M2 sb m A) ∧ Hid (Fresh N (w.alloc (.cells #[.int .u8 0, .int .u8 0, .int .u8 0, .int .u8 0, .int .u8 0, .int .u8 0, .int .u8 0, .int .u8 0, .int .u16 0, .int .u16 0, .bool false, .bool false, .bool false, .bool false] 41)) R M R2 M2 w.heap.size #[.int .u8 0, .int .u8 0, .int .u8 0, .int .u8 0, .int .u8 0, .int .u8 0, .int .u8 0, .int .u8 0, .int .u16 0, .int .u16 0, .bool false, .bool false, .bool false, .bool false]) ∧ Hid (sb ≠ w.heap.size) := evAl h _ _
theorem evE (h : Hid (Ev N w0 w R M R2 M2 sb m A)) : Hid (Ev N w0 (w.alloc (.cells #[.int .i64 0, .int .i64 0, .int .u16 0, .int .i64 0, .int .i64 0, .int .i64 0, .int .i64 0, .int .u16 0, .bool false] 46)) R M R2 M2 sb m A) ∧ Hid (Fresh N (w.alloc (.cells #[.int .i64 0, .int .i64 0, .int .u16 0, .int .i64 0, .int .i64 0, .int .i64 0, .int .i64 0, .int .u16 0, .bool false] 46)) R M R2 M2 w.heap.size #[.int .i64 0, .int .i64 0, .int .u16 0, .int .i64 0, .int .i64 0, .int .i64 0, .int .i64 0, .int .u16 0, .bool false]) ∧ Hid (sb ≠ w.heap.size) := evAl h _ _
theorem freshP (h : Hid (Fresh N w R M R2 M2 b A)) : Hid (Fresh N (w.alloc (.cells #[.int .u8 0, .int .u8 0, .int .u8 0, .int .u8 0, .int .u8 0, .int .u8 0, .int .u8 0, .int .u8 0, .int .u16 0, .int .u16 0, .bool false, .bool false, .bool false, .bool false] 41)) R M R2 M2 b A) ∧ Hid (b ≠ w.heap.size) := freshAl h _ _
theorem freshE (h : Hid (Fresh N w R M R2 M2 b A)) : Hid (Fresh N (w.alloc (.cells #[.int .i64 0, .int .i64 0, .int .u16 0, .int .i64 0, .int .i64 0, .int .i64 0, .int .i64 0, .int .u16 0, .bool false] 46)) R M R2 M2 b A) ∧ Hid (b ≠ w.heap.size) := freshAl h _ _
end
def ops13 : Array Oper := #[{ dst := some 87, op := Op.call { callee := Callee.value (Operand.func 11), args := #[], argTypes := #[] }, type := 29, pos := "law.go:119", after := #[], guard := none }, { dst := some 88, op := Op.load 26 (Operand.tmp 5), type := 26, pos := "law.go:119", after := #[], guard := none }, { dst := some 89, op := Op.call { callee := Callee.value (Operand.func 13), args := #[Operand.tmp 88], argTypes := #[26] }, type := 41, pos := "law.go:119", after := #[{ on := 1, ground := Ground.data }, { on := 0, ground := Ground.chain }], guard := none }, { dst := some 90, op := Op.move (Operand.tmp 11), type := 31, pos := "law.go:119", after := #[], guard := none }, { dst := some 91, op := Op.makeInterface 31 (Operand.tmp 90), type := 83, pos := "law.go:119", after := #[{ on := 3, ground := Ground.data }], guard := none }, { dst := some 92, op := Op.call { callee := Callee.value (Operand.func 14), args := #[Operand.tmp 87, Operand.tmp 89, Operand.tmp 91], argTypes := #[29, 41, 83] }, type := 50, pos := "law.go:119", after := #[{ on := 0, ground := Ground.data }, { on := 2, ground := Ground.data }, { on := 4, ground := Ground.data }, { on := 2, ground := Ground.chain }], guard := none }, { dst := some 86, op := Op.move (Operand.tmp 92), type := 50, pos := "law.go:119", after := #[{ on := 5, ground := Ground.data }], guard := none }, { dst := some 93, op := Op.extract (Operand.tmp 86) 0, type := 41, pos := "law.go:119", after := #[{ on := 6, ground := Ground.data }], guard := none }, { dst := some 94, op := Op.extract (Operand.tmp 86) 1, type := 46, pos := "law.go:119", after := #[{ on := 6, ground := Ground.data }, { on := 11, ground := Ground.gcOnly Departure.lateStores }], guard := none }, { dst := some 15, op := Op.alloc 41, type := 0, pos := "law.go:119", after := #[], guard := none }, { dst := some 16, op := Op.alloc 46, type := 0, pos := "law.go:119", after := #[], guard := none }, { dst := none, op := Op.store 41 (Operand.tmp 15) (Operand.tmp 93), type := 0, pos := "law.go:119", after := #[{ on := 9, ground := Ground.data }, { on := 7, ground := Ground.data }, { on := 5, ground := Ground.chain }, { on := 0, ground := Ground.phase }, { on := 1, ground := Ground.phase }, { on := 2, ground := Ground.phase }, { on := 3, ground := Ground.phase }, { on := 4, ground := Ground.phase }, { on := 5, ground := Ground.phase }, { on := 6, ground := Ground.phase }, { on := 7, ground := Ground.phase }, { on := 8, ground := Ground.textOnly Departure.lateStores }, { on := 9, ground := Ground.phase }, { on := 10, ground := Ground.phase }], guard := none }, { dst := none, op := Op.store 46 (Operand.tmp 16) (Operand.tmp 94), type := 0, pos := "law.go:119", after := #[{ on := 10, ground := Ground.data }, { on := 8, ground := Ground.data }, { on := 11, ground := Ground.chain }, { on := 0, ground := Ground.phase }, { on := 1, ground := Ground.phase }, { on := 2, ground := Ground.phase }, { on := 3, ground := Ground.phase }, { on := 4, ground := Ground.phase }, { on := 5, ground := Ground.phase }, { on := 6, ground := Ground.phase }, { on := 7, ground := Ground.phase }, { on := 8, ground := Ground.phase }, { on := 9, ground := Ground.phase }, { on := 10, ground := Ground.phase }, { on := 11, ground := Ground.phase }], guard := none }]
theorem fin13 {N : Nat} {w u : World} {R M R2 M2 tb pb db : Nat} {v : Value} {s s1 : St} {m : Int → Int} {y1 : Sy} {D : DidV} {c0 c1 c2 c3 c4 c6 c7 c8 c9 c10 c12 c13 c14 c17 c18 c19 c20 c21 c22 c23 c24 c25 c26 c27 c28 c29 c30 c31 c32 c33 c34 c35 c36 c37 c38 c39 c40 c41 c42 c43 c44 c45 c46 c47 c48 c49 c50 c51 c52 c53 c54 c55 c56 c57 c58 c59 c60 c61 c62 c63 c64 c65 c66 c67 c68 c69 c70 c71 c72 c73 c74 c75 c76 c77 c78 c79 c80 c81 c82 c83 c84 c85 c95 c96 c97 c98 c99 c100 c101 c102 c103 c104 c105 c106 c107 c108 c109 c110 c111 c112 c113 c114 c115 c116 : Value} {d86 d87 d88 d89 d90 d91 d92 : Value} {Kz : Act → World → Prop} {Pz : Ending → World → Prop} {listed : Array Bool}
  (HQ : Hid (∀ (tb pb db : Nat) (v : Value) (d86 d87 d88 d89 d90 d91 d92 d93 d94 : Value) (wx : World), Dn1 N w wx R M R2 M2 tb pb db v y1 ⟨s1, m, []⟩ D N #[.int .u8 s.r.a, .int .u8 s.r.f, .int .u8 s.r.b, .int .u8 s.r.c, .int .u8 s.r.d, .int .u8 s.r.e, .int .u8 s.r.h, .int .u8 s.r.l, .int .u16 s.r.sp, .int .u16 s.r.pc, .bool false, .bool s.soon, .bool false, .bool false] → Kz ⟨#[c0, c1, c2, c3, c4, .pointer (some ⟨N, 0, none⟩), c6, c7, c8, c9, c10, .pointer (some ⟨R, 0, none⟩), c12, c13, c14, .pointer (some ⟨pb, 0, none⟩), .pointer (some ⟨db, 0, none⟩), c17, c18, c19, c20, c21, c22, c23, c24, c25, c26, c27, c28, c29, c30, c31, c32, c33, c34, c35, c36, c37, c38, c39, c40, c41, c42, c43, c44, c45, c46, c47, c48, c49, c50, c51, c52, c53, c54, c55, c56, c57, c58, c59, c60, c61, c62, c63, c64, c65, c66, c67, c68, c69, c70, c71, c72, c73, c74, c75, c76, c77, c78, c79, c80, c81, c82, c83, c84, c85, d86, d87, d88, d89, d90, d91, d92, d93, d94, c95, c96, c97, c98, c99, c100, c101, c102, c103, c104, c105, c106, c107, c108, c109, c110, c111, c112, c113, c114, c115, c116], []⟩ wx)) (X : Hid (On N w u R M R2 M2 tb v (.slice none 0 0) y1 ⟨s1, m, []⟩ 12 0 N #[.int .u8 s.r.a, .int .u8 s.r.f, .int .u8 s.r.b, .int .u8 s.r.c, .int .u8 s.r.d, .int .u8 s.r.e, .int .u8 s.r.h, .int .u8 s.r.l, .int .u16 s.r.sp, .int .u16 s.r.pc, .bool false, .bool s.soon, .bool false, .bool false])) (P : Hid (Mine N u R M R2 M2 tb v (.slice none 0 0) pb #[.int .u8 0, .int .u8 0, .int .u8 0, .int .u8 0, .int .u8 0, .int .u8 0, .int .u8 0, .int .u8 0, .int .u16 0, .int .u16 0, .bool false, .bool false, .bool false, .bool false])) (E : Hid (Mine N u R M R2 M2 tb v (.slice none 0 0) db #[.int .i64 0, .int .i64 0, .int .u16 0, .int .i64 0, .int .i64 0, .int .i64 0, .int .i64 0, .int .u16 0, .bool false])) (n1 : Hid (N ≠ pb)) (n2 : Hid (N ≠ db)) (n3 : Hid (pb ≠ db))
  (r1 : Region.ready .any ops13 listed = [11] := by kernel_rfl) (r2 : Region.ready .any ops13 (listed.setIfInBounds 11 true) = [12] := by kernel_rfl) (r3 : Region.ready .any ops13 ((listed.setIfInBounds 11 true).setIfInBounds 12 true) = [] := by kernel_rfl) :
  wpAnyH Tryz.prog .any ops13 (Exit.then Kz (bodyPost Tryz.prog Tryz.f4 Pz)) (fun w' => ∀ o_, w'.cell? ⟨N, o_, none⟩ = #[.int .u8 s.r.a, .int .u8 s.r.f, .int .u8 s.r.b, .int .u8 s.r.c, .int .u8 s.r.d, .int .u8 s.r.e, .int .u8 s.r.h, .int .u8 s.r.l, .int .u16 s.r.sp, .int .u16 s.r.pc, .bool false, .bool s.soon, .bool false, .bool false][o_]?) 2 listed ⟨#[c0, c1, c2, c3, c4, .pointer (some ⟨N, 0, none⟩), c6, c7, c8, c9, c10, .pointer (some ⟨R, 0, none⟩), c12, c13, c14, .pointer (some ⟨pb, 0, none⟩), .pointer (some ⟨db, 0, none⟩), c17, c18, c19, c20, c21, c22, c23, c24, c25, c26, c27, c28, c29, c30, c31, c32, c33, c34, c35, c36, c37, c38, c39, c40, c41, c42, c43, c44, c45, c46, c47, c48, c49, c50, c51, c52, c53, c54, c55, c56, c57, c58, c59, c60, c61, c62, c63, c64, c65, c66, c67, c68, c69, c70, c71, c72, c73, c74, c75, c76, c77, c78, c79, c80, c81, c82, c83, c84, c85, d86, d87, d88, d89, d90, d91, d92, .agg #[.int .u8 y1.s.r.a, .int .u8 y1.s.r.f, .int .u8 y1.s.r.b, .int .u8 y1.s.r.c, .int .u8 y1.s.r.d, .int .u8 y1.s.r.e, .int .u8 y1.s.r.h, .int .u8 y1.s.r.l, .int .u16 y1.s.r.sp, .int .u16 y1.s.r.pc, .bool y1.s.ime, .bool y1.s.soon, .bool y1.s.halt, .bool y1.s.stop], .agg #[.int .i64 D.what, .int .i64 D.n, .int .u16 D.at', .int .i64 D.o.k, .int .i64 D.o.x, .int .i64 D.o.y, .int .i64 D.o.s, .int .u16 D.o.n, .bool D.t], c95, c96, c97, c98, c99, c100, c101, c102, c103, c104, c105, c106, c107, c108, c109, c110, c111, c112, c113, c114, c115, c116], []⟩ u := by
 have npe : pb ≠ db := n3.out
 refine wpAnyH_ready (rs := [11]) r1 (by simp) ?_
 refine (ac rfl (fun K hK => ?_) AllReadyH.nil)
 have g1 := P.out.1.2.1; have g2 := P.out.1.2.2; have g3 := E.out.1.2.1; have g4 := E.out.1.2.2; have n1' : ¬ pb = db := npe
 have n2' : ¬ db = pb := fun e => npe e.symm
 go_simp
 refine hK.out _ _ ((X.out.h.off1 (Off.put14 _ pb y1.s) n1.out).1.2.1) (fun hNew => ?_)
 clear hK K
 refine wpAnyH_ready (rs := [12]) r2 (by simp) ?_
 refine (ac rfl (fun K hK => ?_) AllReadyH.nil)
 go_simp
 refine hK.out _ _ (((X.out.h.off1 (Off.put14 _ pb y1.s) n1.out).off1 (Off.put9 _ db D) n2.out).1.2.1) (fun hNew2 => ?_)
 clear hK K
 refine wpAnyH_done r3 ?_ _
 exact HQ.out _ _ _ _ _ _ _ _ _ _ _ _ _ _ (X.out.did P.out E.out n1.out n2.out npe)
theorem reg13 {N : Nat} {w wf : World} {R M R2 M2 : Nat} {s s1 : St} {m : Int → Int} {y1 : Sy} {D : DidV} (c0 c1 c2 c3 c4 c6 c7 c8 c9 c10 c12 c13 c14 c15 c16 c17 c18 c19 c20 c21 c22 c23 c24 c25 c26 c27 c28 c29 c30 c31 c32 c33 c34 c35 c36 c37 c38 c39 c40 c41 c42 c43 c44 c45 c46 c47 c48 c49 c50 c51 c52 c53 c54 c55 c56 c57 c58 c59 c60 c61 c62 c63 c64 c65 c66 c67 c68 c69 c70 c71 c72 c73 c74 c75 c76 c77 c78 c79 c80 c81 c82 c83 c84 c85 c86 c87 c88 c89 c90 c91 c92 c93 c94 c95 c96 c97 c98 c99 c100 c101 c102 c103 c104 c105 c106 c107 c108 c109 c110 c111 c112 c113 c114 c115 c116 : Value) (Kz : Act → World → Prop) (Pz : Ending → World → Prop) (E2 : Hid (Ev N w wf R M R2 M2 N m #[.int .u8 s.r.a, .int .u8 s.r.f, .int .u8 s.r.b, .int .u8 s.r.c, .int .u8 s.r.d, .int .u8 s.r.e, .int .u8 s.r.h, .int .u8 s.r.l, .int .u16 s.r.sp, .int .u16 s.r.pc, .bool false, .bool s.soon, .bool false, .bool false])) (hs1 : s1 = ⟨s.r, false, s.soon, false, false⟩) (ok : s1.r.ok) (hy : y1 = stepS ⟨s1, m, []⟩) (hD : D = stepD ⟨s1, m, []⟩)
  (hQ : ∀ (tb pb db : Nat) (v : Value) (d86 d87 d88 d89 d90 d91 d92 d93 d94 : Value) (wx : World), Dn1 N w wx R M R2 M2 tb pb db v y1 ⟨s1, m, []⟩ D N #[.int .u8 s.r.a, .int .u8 s.r.f, .int .u8 s.r.b, .int .u8 s.r.c, .int .u8 s.r.d, .int .u8 s.r.e, .int .u8 s.r.h, .int .u8 s.r.l, .int .u16 s.r.sp, .int .u16 s.r.pc, .bool false, .bool s.soon, .bool false, .bool false] → Kz ⟨#[c0, c1, c2, c3, c4, .pointer (some ⟨N, 0, none⟩), c6, c7, c8, c9, c10, .pointer (some ⟨R, 0, none⟩), c12, c13, c14, .pointer (some ⟨pb, 0, none⟩), .pointer (some ⟨db, 0, none⟩), c17, c18, c19, c20, c21, c22, c23, c24, c25, c26, c27, c28, c29, c30, c31, c32, c33, c34, c35, c36, c37, c38, c39, c40, c41, c42, c43, c44, c45, c46, c47, c48, c49, c50, c51, c52, c53, c54, c55, c56, c57, c58, c59, c60, c61, c62, c63, c64, c65, c66, c67, c68, c69, c70, c71, c72, c73, c74, c75, c76, c77, c78, c79, c80, c81, c82, c83, c84, c85, d86, d87, d88, d89, d90, d91, d92, d93, d94, c95, c96, c97, c98, c99, c100, c101, c102, c103, c104, c105, c106, c107, c108, c109, c110, c111, c112, c113, c114, c115, c116], []⟩ wx) : Code.wp Tryz.prog (.region 13 ops13 true) (Exit.then Kz (bodyPost Tryz.prog Tryz.f4 Pz)) ⟨#[c0, c1, c2, c3, c4, .pointer (some ⟨N, 0, none⟩), c6, c7, c8, c9, c10, .pointer (some ⟨R, 0, none⟩), c12, c13, c14, c15, c16, c17, c18, c19, c20, c21, c22, c23, c24, c25, c26, c27, c28, c29, c30, c31, c32, c33, c34, c35, c36, c37, c38, c39, c40, c41, c42, c43, c44, c45, c46, c47, c48, c49, c50, c51, c52, c53, c54, c55, c56, c57, c58, c59, c60, c61, c62, c63, c64, c65, c66, c67, c68, c69, c70, c71, c72, c73, c74, c75, c76, c77, c78, c79, c80, c81, c82, c83, c84, c85, c86, c87, c88, c89, c90, c91, c92, c93, c94, c95, c96, c97, c98, c99, c100, c101, c102, c103, c104, c105, c106, c107, c108, c109, c110, c111, c112, c113, c114, c115, c116], []⟩ wf := by
 have HQ := Hd hQ; have OK1 := Hd ok
 have STC := Hd (show ∀ W, Calls Tryz.prog 13 #[.agg #[.int .u8 s.r.a, .int .u8 s.r.f, .int .u8 s.r.b, .int .u8 s.r.c, .int .u8 s.r.d, .int .u8 s.r.e, .int .u8 s.r.h, .int .u8 s.r.l, .int .u16 s.r.sp, .int .u16 s.r.pc, .bool false, .bool s.soon, .bool false, .bool false]] W fun e w' => e = .returned (.agg #[.int .u8 s.r.a, .int .u8 s.r.f, .int .u8 s.r.b, .int .u8 s.r.c, .int .u8 s.r.d, .int .u8 s.r.e, .int .u8 s.r.h, .int .u8 s.r.l, .int .u16 s.r.sp, .int .u16 s.r.pc, .bool false, .bool s.soon, .bool false, .bool false]) ∧ Below W.heap.size W w' from fun W => state_c ⟨s.r, false, s.soon, false, false⟩ W)
 have STP := Hd (show ∀ (tb : Nat) (W : World) (v : Value), Bus ramC W R M tb v m [] 0 → Calls Tryz.prog 14 #[.pointer (some ⟨tb, 0, none⟩), .agg #[.int .u8 s.r.a, .int .u8 s.r.f, .int .u8 s.r.b, .int .u8 s.r.c, .int .u8 s.r.d, .int .u8 s.r.e, .int .u8 s.r.h, .int .u8 s.r.l, .int .u16 s.r.sp, .int .u16 s.r.pc, .bool false, .bool s.soon, .bool false, .bool false], .iface 31 (.pointer (some ⟨R, 0, none⟩))] W fun e w' => e = .returned (.tuple #[.agg #[.int .u8 y1.s.r.a, .int .u8 y1.s.r.f, .int .u8 y1.s.r.b, .int .u8 y1.s.r.c, .int .u8 y1.s.r.d, .int .u8 y1.s.r.e, .int .u8 y1.s.r.h, .int .u8 y1.s.r.l, .int .u16 y1.s.r.sp, .int .u16 y1.s.r.pc, .bool y1.s.ime, .bool y1.s.soon, .bool y1.s.halt, .bool y1.s.stop], .agg #[.int .i64 D.what, .int .i64 D.n, .int .u16 D.at', .int .i64 D.o.k, .int .i64 D.o.x, .int .i64 D.o.y, .int .i64 D.o.s, .int .u16 D.o.n, .bool D.t]]) ∧ ∃ v', Bus ramC w' R M tb v' y1.m y1.acc 12 ∧ BM R M tb v W v' w' from fun tb W v hb => by
  have q := Step_t hb (by decide) s1 OK1.out; rw [hs1] at q
  refine q.mono ?_
  rintro e w' ⟨rfl, _, v', b', m'⟩; rw [← hs1, ← hy] at b'; rw [← hs1, ← hy, ← hD]
  exact ⟨rfl, v', b', m'⟩)
 clear hQ ok hy hD hs1
 unfold ops13
 have X0 := Hd E2.out.drew; clear E2
 refine wp_region_held_drew (S := (fun w' => ∀ o_, w'.cell? ⟨N, o_, none⟩ = #[.int .u8 s.r.a, .int .u8 s.r.f, .int .u8 s.r.b, .int .u8 s.r.c, .int .u8 s.r.d, .int .u8 s.r.e, .int .u8 s.r.h, .int .u8 s.r.l, .int .u16 s.r.sp, .int .u16 s.r.pc, .bool false, .bool s.soon, .bool false, .bool false][o_]?)) (by kernel_rfl) X0.out.h.1.2.1 (fun hHeld => ?_)
 generalize World.drew wf = u0 at hHeld X0 ⊢; refine tz 1 ?_; refine tz 3 ?_; refine tz 4 ?_
 refine wpAnyH_ready (rs := [0, 9, 10]) (by kernel_rfl) (by simp) ?_
 refine (ac rfl (fun K hK => ?_) (ac rfl (fun K hK => ?_) (ac rfl (fun K hK => ?_) AllReadyH.nil)))
 ·skip
  go_simp
  with_reducible refine (new_c _).mono ?_
  rintro e w' ⟨rfl, rfl⟩; have X1 := Hd (X0.out.on s1)
  refine hK.out _ _ X1.out.h.1.2.1 (fun hNew => ?_); clear hK K hHeld; have hHeld := hNew; clear hNew
  generalize World.alloc u0 (.cells Tryz.zeroCells81 81) = u1 at hHeld X1 ⊢; generalize u0.heap.size = tb at X1 ⊢
  refine wpAnyH_ready (rs := [2, 9, 10]) (by kernel_rfl) (by simp) ?_
  refine (ac rfl (fun K hK => ?_) (ac rfl (fun K hK => ?_) (ac rfl (fun K hK => ?_) AllReadyH.nil)))
  ·skip
   go_simp
   with_reducible refine (STC.out _).mono ?_
   rintro e u2 ⟨rfl, hz⟩; have X2 := Hd (X1.out.next hz); clear hz
   refine hK.out _ _ X2.out.h.1.2.1 (fun hNew => ?_); clear hK K hHeld; have hHeld := hNew; clear hNew
   refine wpAnyH_ready (rs := [5, 9, 10]) (by kernel_rfl) (by simp) ?_
   refine (ac rfl (fun K hK => ?_) (ac rfl (fun K hK => ?_) (ac rfl (fun K hK => ?_) AllReadyH.nil)))
   ·skip
    go_simp
    with_reducible refine (STP.out _ _ _ X2.out.d.a).mono ?_
    rintro e u3 ⟨rfl, v1, b', m'⟩; have X3 := Hd (X2.out.left b' m'); clear b' m'
    refine hK.out _ _ X3.out.h.1.2.1 (fun hNew => ?_); clear hK K hHeld; have hHeld := hNew; clear hNew
    refine tz 6 ?_; refine tz 7 ?_; refine tz 8 ?_
    refine wpAnyH_ready (rs := [9, 10]) (by kernel_rfl) (by simp) ?_
    refine (ac rfl (fun K hK => ?_) (ac rfl (fun K hK => ?_) AllReadyH.nil))
    ·skip
     go_simp; obtain ⟨X4, P4, NSP⟩ := onP X3
     refine hK.out _ _ X4.out.h.1.2.1 (fun hNew => ?_); clear hK K hHeld; have hHeld := hNew; clear hNew
     generalize World.alloc u3 _ = u4 at hHeld X4 P4 ⊢; generalize u3.heap.size = pb at P4 NSP ⊢
     refine re1 10 (fun K hK => ?_)
     go_simp; obtain ⟨X5, E5, NSE⟩ := onE X4; obtain ⟨P5, NPE⟩ := mineE P4
     refine hK.out _ _ X5.out.h.1.2.1 (fun hNew => ?_); clear hK K hHeld; have hHeld := hNew; clear hNew
     generalize World.alloc u4 _ = u5 at hHeld X5 E5 P5 ⊢; generalize u4.heap.size = db at E5 NSE NPE ⊢
     exact fin13 HQ X5 P5 E5 NSP NSE NPE
    ·skip
     go_simp; obtain ⟨X4, E4, NSE⟩ := onE X3
     refine hK.out _ _ X4.out.h.1.2.1 (fun hNew => ?_); clear hK K hHeld; have hHeld := hNew; clear hNew
     generalize World.alloc u3 _ = u4 at hHeld X4 E4 ⊢; generalize u3.heap.size = db at E4 NSE ⊢
     refine re1 9 (fun K hK => ?_)
     go_simp; obtain ⟨X5, P5, NSP⟩ := onP X4; obtain ⟨E5, NPE⟩ := mineP E4; replace NPE := Hd NPE.out.symm
     refine hK.out _ _ X5.out.h.1.2.1 (fun hNew => ?_); clear hK K hHeld; have hHeld := hNew; clear hNew
     generalize World.alloc u4 _ = u5 at hHeld X5 P5 E5 ⊢; generalize u4.heap.size = pb at P5 NSP NPE ⊢
     exact fin13 HQ X5 P5 E5 NSP NSE NPE
   ·skip
    go_simp; obtain ⟨X3, P3, NSP⟩ := onP X2
    refine hK.out _ _ X3.out.h.1.2.1 (fun hNew => ?_); clear hK K hHeld; have hHeld := hNew; clear hNew
    generalize World.alloc u2 _ = u3 at hHeld X3 P3 ⊢; generalize u2.heap.size = pb at P3 NSP ⊢
    refine wpAnyH_ready (rs := [5, 10]) (by kernel_rfl) (by simp) ?_
    refine (ac rfl (fun K hK => ?_) (ac rfl (fun K hK => ?_) AllReadyH.nil))
    ·skip
     go_simp
     with_reducible refine (STP.out _ _ _ X3.out.d.a).mono ?_
     rintro e u4 ⟨rfl, v1, b', m'⟩; have X4 := Hd (X3.out.left b' m'); have P4 := Hd (P3.out.left m'); clear b' m'
     refine hK.out _ _ X4.out.h.1.2.1 (fun hNew => ?_); clear hK K hHeld; have hHeld := hNew; clear hNew
     refine tz 6 ?_; refine tz 7 ?_; refine tz 8 ?_
     refine re1 10 (fun K hK => ?_)
     go_simp; obtain ⟨X5, E5, NSE⟩ := onE X4; obtain ⟨P5, NPE⟩ := mineE P4
     refine hK.out _ _ X5.out.h.1.2.1 (fun hNew => ?_); clear hK K hHeld; have hHeld := hNew; clear hNew
     generalize World.alloc u4 _ = u5 at hHeld X5 E5 P5 ⊢; generalize u4.heap.size = db at E5 NSE NPE ⊢
     exact fin13 HQ X5 P5 E5 NSP NSE NPE
    ·skip
     go_simp; obtain ⟨X4, E4, NSE⟩ := onE X3; obtain ⟨P4, NPE⟩ := mineE P3
     refine hK.out _ _ X4.out.h.1.2.1 (fun hNew => ?_); clear hK K hHeld; have hHeld := hNew; clear hNew
     generalize World.alloc u3 _ = u4 at hHeld X4 E4 P4 ⊢; generalize u3.heap.size = db at E4 NSE NPE ⊢
     refine re1 5 (fun K hK => ?_)
     go_simp
     with_reducible refine (STP.out _ _ _ X4.out.d.a).mono ?_
     rintro e u5 ⟨rfl, v1, b', m'⟩; have X5 := Hd (X4.out.left b' m'); have P5 := Hd (P4.out.left m'); have E5 := Hd (E4.out.left m'); clear b' m'
     refine hK.out _ _ X5.out.h.1.2.1 (fun hNew => ?_); clear hK K hHeld; have hHeld := hNew; clear hNew
     refine tz 6 ?_; refine tz 7 ?_; refine tz 8 ?_
     exact fin13 HQ X5 P5 E5 NSP NSE NPE
   ·skip
    go_simp; obtain ⟨X3, E3, NSE⟩ := onE X2
    refine hK.out _ _ X3.out.h.1.2.1 (fun hNew => ?_); clear hK K hHeld; have hHeld := hNew; clear hNew
    generalize World.alloc u2 _ = u3 at hHeld X3 E3 ⊢; generalize u2.heap.size = db at E3 NSE ⊢
    refine wpAnyH_ready (rs := [5, 9]) (by kernel_rfl) (by simp) ?_
    refine (ac rfl (fun K hK => ?_) (ac rfl (fun K hK => ?_) AllReadyH.nil))
    ·skip
     go_simp
     with_reducible refine (STP.out _ _ _ X3.out.d.a).mono ?_
     rintro e u4 ⟨rfl, v1, b', m'⟩; have X4 := Hd (X3.out.left b' m'); have E4 := Hd (E3.out.left m'); clear b' m'
     refine hK.out _ _ X4.out.h.1.2.1 (fun hNew => ?_); clear hK K hHeld; have hHeld := hNew; clear hNew
     refine tz 6 ?_; refine tz 7 ?_; refine tz 8 ?_
     refine re1 9 (fun K hK => ?_)
     go_simp; obtain ⟨X5, P5, NSP⟩ := onP X4; obtain ⟨E5, NPE⟩ := mineP E4; replace NPE := Hd NPE.out.symm
     refine hK.out _ _ X5.out.h.1.2.1 (fun hNew => ?_); clear hK K hHeld; have hHeld := hNew; clear hNew
     generalize World.alloc u4 _ = u5 at hHeld X5 P5 E5 ⊢; generalize u4.heap.size = pb at P5 NSP NPE ⊢
     exact fin13 HQ X5 P5 E5 NSP NSE NPE
    ·skip
     go_simp; obtain ⟨X4, P4, NSP⟩ := onP X3; obtain ⟨E4, NPE⟩ := mineP E3; replace NPE := Hd NPE.out.symm
     refine hK.out _ _ X4.out.h.1.2.1 (fun hNew => ?_); clear hK K hHeld; have hHeld := hNew; clear hNew
     generalize World.alloc u3 _ = u4 at hHeld X4 P4 E4 ⊢; generalize u3.heap.size = pb at P4 NSP NPE ⊢
     refine re1 5 (fun K hK => ?_)
     go_simp
     with_reducible refine (STP.out _ _ _ X4.out.d.a).mono ?_
     rintro e u5 ⟨rfl, v1, b', m'⟩; have X5 := Hd (X4.out.left b' m'); have P5 := Hd (P4.out.left m'); have E5 := Hd (E4.out.left m'); clear b' m'
     refine hK.out _ _ X5.out.h.1.2.1 (fun hNew => ?_); clear hK K hHeld; have hHeld := hNew; clear hNew
     refine tz 6 ?_; refine tz 7 ?_; refine tz 8 ?_
     exact fin13 HQ X5 P5 E5 NSP NSE NPE
  ·skip
   go_simp; obtain ⟨X2, P2, NSP⟩ := onP X1
   refine hK.out _ _ X2.out.h.1.2.1 (fun hNew => ?_); clear hK K hHeld; have hHeld := hNew; clear hNew
   generalize World.alloc u1 _ = u2 at hHeld X2 P2 ⊢; generalize u1.heap.size = pb at P2 NSP ⊢
   refine wpAnyH_ready (rs := [2, 10]) (by kernel_rfl) (by simp) ?_
   refine (ac rfl (fun K hK => ?_) (ac rfl (fun K hK => ?_) AllReadyH.nil))
   ·skip
    go_simp
    with_reducible refine (STC.out _).mono ?_
    rintro e u3 ⟨rfl, hz⟩; have X3 := Hd (X2.out.next hz); have P3 := Hd (P2.out.below hz); clear hz
    refine hK.out _ _ X3.out.h.1.2.1 (fun hNew => ?_); clear hK K hHeld; have hHeld := hNew; clear hNew
    refine wpAnyH_ready (rs := [5, 10]) (by kernel_rfl) (by simp) ?_
    refine (ac rfl (fun K hK => ?_) (ac rfl (fun K hK => ?_) AllReadyH.nil))
    ·skip
     go_simp
     with_reducible refine (STP.out _ _ _ X3.out.d.a).mono ?_
     rintro e u4 ⟨rfl, v1, b', m'⟩; have X4 := Hd (X3.out.left b' m'); have P4 := Hd (P3.out.left m'); clear b' m'
     refine hK.out _ _ X4.out.h.1.2.1 (fun hNew => ?_); clear hK K hHeld; have hHeld := hNew; clear hNew
     refine tz 6 ?_; refine tz 7 ?_; refine tz 8 ?_
     refine re1 10 (fun K hK => ?_)
     go_simp; obtain ⟨X5, E5, NSE⟩ := onE X4; obtain ⟨P5, NPE⟩ := mineE P4
     refine hK.out _ _ X5.out.h.1.2.1 (fun hNew => ?_); clear hK K hHeld; have hHeld := hNew; clear hNew
     generalize World.alloc u4 _ = u5 at hHeld X5 E5 P5 ⊢; generalize u4.heap.size = db at E5 NSE NPE ⊢
     exact fin13 HQ X5 P5 E5 NSP NSE NPE
    ·skip
     go_simp; obtain ⟨X4, E4, NSE⟩ := onE X3; obtain ⟨P4, NPE⟩ := mineE P3
     refine hK.out _ _ X4.out.h.1.2.1 (fun hNew => ?_); clear hK K hHeld; have hHeld := hNew; clear hNew
     generalize World.alloc u3 _ = u4 at hHeld X4 E4 P4 ⊢; generalize u3.heap.size = db at E4 NSE NPE ⊢
     refine re1 5 (fun K hK => ?_)
     go_simp
     with_reducible refine (STP.out _ _ _ X4.out.d.a).mono ?_
     rintro e u5 ⟨rfl, v1, b', m'⟩; have X5 := Hd (X4.out.left b' m'); have P5 := Hd (P4.out.left m'); have E5 := Hd (E4.out.left m'); clear b' m'
     refine hK.out _ _ X5.out.h.1.2.1 (fun hNew => ?_); clear hK K hHeld; have hHeld := hNew; clear hNew
     refine tz 6 ?_; refine tz 7 ?_; refine tz 8 ?_
     exact fin13 HQ X5 P5 E5 NSP NSE NPE
   ·skip
    go_simp; obtain ⟨X3, E3, NSE⟩ := onE X2; obtain ⟨P3, NPE⟩ := mineE P2
    refine hK.out _ _ X3.out.h.1.2.1 (fun hNew => ?_); clear hK K hHeld; have hHeld := hNew; clear hNew
    generalize World.alloc u2 _ = u3 at hHeld X3 E3 P3 ⊢; generalize u2.heap.size = db at E3 NSE NPE ⊢
    refine re1 2 (fun K hK => ?_)
    go_simp
    with_reducible refine (STC.out _).mono ?_
    rintro e u4 ⟨rfl, hz⟩; have X4 := Hd (X3.out.next hz); have P4 := Hd (P3.out.below hz); have E4 := Hd (E3.out.below hz); clear hz
    refine hK.out _ _ X4.out.h.1.2.1 (fun hNew => ?_); clear hK K hHeld; have hHeld := hNew; clear hNew
    refine re1 5 (fun K hK => ?_)
    go_simp
    with_reducible refine (STP.out _ _ _ X4.out.d.a).mono ?_
    rintro e u5 ⟨rfl, v1, b', m'⟩; have X5 := Hd (X4.out.left b' m'); have P5 := Hd (P4.out.left m'); have E5 := Hd (E4.out.left m'); clear b' m'
    refine hK.out _ _ X5.out.h.1.2.1 (fun hNew => ?_); clear hK K hHeld; have hHeld := hNew; clear hNew
    refine tz 6 ?_; refine tz 7 ?_; refine tz 8 ?_
    exact fin13 HQ X5 P5 E5 NSP NSE NPE
  ·skip
   go_simp; obtain ⟨X2, E2, NSE⟩ := onE X1
   refine hK.out _ _ X2.out.h.1.2.1 (fun hNew => ?_); clear hK K hHeld; have hHeld := hNew; clear hNew
   generalize World.alloc u1 _ = u2 at hHeld X2 E2 ⊢; generalize u1.heap.size = db at E2 NSE ⊢
   refine wpAnyH_ready (rs := [2, 9]) (by kernel_rfl) (by simp) ?_
   refine (ac rfl (fun K hK => ?_) (ac rfl (fun K hK => ?_) AllReadyH.nil))
   ·skip
    go_simp
    with_reducible refine (STC.out _).mono ?_
    rintro e u3 ⟨rfl, hz⟩; have X3 := Hd (X2.out.next hz); have E3 := Hd (E2.out.below hz); clear hz
    refine hK.out _ _ X3.out.h.1.2.1 (fun hNew => ?_); clear hK K hHeld; have hHeld := hNew; clear hNew
    refine wpAnyH_ready (rs := [5, 9]) (by kernel_rfl) (by simp) ?_
    refine (ac rfl (fun K hK => ?_) (ac rfl (fun K hK => ?_) AllReadyH.nil))
    ·skip
     go_simp
     with_reducible refine (STP.out _ _ _ X3.out.d.a).mono ?_
     rintro e u4 ⟨rfl, v1, b', m'⟩; have X4 := Hd (X3.out.left b' m'); have E4 := Hd (E3.out.left m'); clear b' m'
     refine hK.out _ _ X4.out.h.1.2.1 (fun hNew => ?_); clear hK K hHeld; have hHeld := hNew; clear hNew
     refine tz 6 ?_; refine tz 7 ?_; refine tz 8 ?_
     refine re1 9 (fun K hK => ?_)
     go_simp; obtain ⟨X5, P5, NSP⟩ := onP X4; obtain ⟨E5, NPE⟩ := mineP E4; replace NPE := Hd NPE.out.symm
     refine hK.out _ _ X5.out.h.1.2.1 (fun hNew => ?_); clear hK K hHeld; have hHeld := hNew; clear hNew
     generalize World.alloc u4 _ = u5 at hHeld X5 P5 E5 ⊢; generalize u4.heap.size = pb at P5 NSP NPE ⊢
     exact fin13 HQ X5 P5 E5 NSP NSE NPE
    ·skip
     go_simp; obtain ⟨X4, P4, NSP⟩ := onP X3; obtain ⟨E4, NPE⟩ := mineP E3; replace NPE := Hd NPE.out.symm
     refine hK.out _ _ X4.out.h.1.2.1 (fun hNew => ?_); clear hK K hHeld; have hHeld := hNew; clear hNew
     generalize World.alloc u3 _ = u4 at hHeld X4 P4 E4 ⊢; generalize u3.heap.size = pb at P4 NSP NPE ⊢
     refine re1 5 (fun K hK => ?_)
     go_simp
     with_reducible refine (STP.out _ _ _ X4.out.d.a).mono ?_
     rintro e u5 ⟨rfl, v1, b', m'⟩; have X5 := Hd (X4.out.left b' m'); have P5 := Hd (P4.out.left m'); have E5 := Hd (E4.out.left m'); clear b' m'
     refine hK.out _ _ X5.out.h.1.2.1 (fun hNew => ?_); clear hK K hHeld; have hHeld := hNew; clear hNew
     refine tz 6 ?_; refine tz 7 ?_; refine tz 8 ?_
     exact fin13 HQ X5 P5 E5 NSP NSE NPE
   ·skip
    go_simp; obtain ⟨X3, P3, NSP⟩ := onP X2; obtain ⟨E3, NPE⟩ := mineP E2; replace NPE := Hd NPE.out.symm
    refine hK.out _ _ X3.out.h.1.2.1 (fun hNew => ?_); clear hK K hHeld; have hHeld := hNew; clear hNew
    generalize World.alloc u2 _ = u3 at hHeld X3 P3 E3 ⊢; generalize u2.heap.size = pb at P3 NSP NPE ⊢
    refine re1 2 (fun K hK => ?_)
    go_simp
    with_reducible refine (STC.out _).mono ?_
    rintro e u4 ⟨rfl, hz⟩; have X4 := Hd (X3.out.next hz); have P4 := Hd (P3.out.below hz); have E4 := Hd (E3.out.below hz); clear hz
    refine hK.out _ _ X4.out.h.1.2.1 (fun hNew => ?_); clear hK K hHeld; have hHeld := hNew; clear hNew
    refine re1 5 (fun K hK => ?_)
    go_simp
    with_reducible refine (STP.out _ _ _ X4.out.d.a).mono ?_
    rintro e u5 ⟨rfl, v1, b', m'⟩; have X5 := Hd (X4.out.left b' m'); have P5 := Hd (P4.out.left m'); have E5 := Hd (E4.out.left m'); clear b' m'
    refine hK.out _ _ X5.out.h.1.2.1 (fun hNew => ?_); clear hK K hHeld; have hHeld := hNew; clear hNew
    refine tz 6 ?_; refine tz 7 ?_; refine tz 8 ?_
    exact fin13 HQ X5 P5 E5 NSP NSE NPE
 ·skip
  go_simp; obtain ⟨X1, P1, NSP⟩ := evP X0
  refine hK.out _ _ X1.out.h.1.2.1 (fun hNew => ?_); clear hK K hHeld; have hHeld := hNew; clear hNew
  generalize World.alloc u0 _ = u1 at hHeld X1 P1 ⊢; generalize u0.heap.size = pb at P1 NSP ⊢
  refine wpAnyH_ready (rs := [0, 10]) (by kernel_rfl) (by simp) ?_
  refine (ac rfl (fun K hK => ?_) (ac rfl (fun K hK => ?_) AllReadyH.nil))
  ·skip
   go_simp
   with_reducible refine (new_c _).mono ?_
   rintro e w' ⟨rfl, rfl⟩; have X2 := Hd (X1.out.on s1); have P2 := Hd P1.out.mine
   refine hK.out _ _ X2.out.h.1.2.1 (fun hNew => ?_); clear hK K hHeld; have hHeld := hNew; clear hNew
   generalize World.alloc u1 (.cells Tryz.zeroCells81 81) = u2 at hHeld X2 P2 ⊢; generalize u1.heap.size = tb at X2 P2 ⊢
   refine wpAnyH_ready (rs := [2, 10]) (by kernel_rfl) (by simp) ?_
   refine (ac rfl (fun K hK => ?_) (ac rfl (fun K hK => ?_) AllReadyH.nil))
   ·skip
    go_simp
    with_reducible refine (STC.out _).mono ?_
    rintro e u3 ⟨rfl, hz⟩; have X3 := Hd (X2.out.next hz); have P3 := Hd (P2.out.below hz); clear hz
    refine hK.out _ _ X3.out.h.1.2.1 (fun hNew => ?_); clear hK K hHeld; have hHeld := hNew; clear hNew
    refine wpAnyH_ready (rs := [5, 10]) (by kernel_rfl) (by simp) ?_
    refine (ac rfl (fun K hK => ?_) (ac rfl (fun K hK => ?_) AllReadyH.nil))
    ·skip
     go_simp
     with_reducible refine (STP.out _ _ _ X3.out.d.a).mono ?_
     rintro e u4 ⟨rfl, v1, b', m'⟩; have X4 := Hd (X3.out.left b' m'); have P4 := Hd (P3.out.left m'); clear b' m'
     refine hK.out _ _ X4.out.h.1.2.1 (fun hNew => ?_); clear hK K hHeld; have hHeld := hNew; clear hNew
     refine tz 6 ?_; refine tz 7 ?_; refine tz 8 ?_
     refine re1 10 (fun K hK => ?_)
     go_simp; obtain ⟨X5, E5, NSE⟩ := onE X4; obtain ⟨P5, NPE⟩ := mineE P4
     refine hK.out _ _ X5.out.h.1.2.1 (fun hNew => ?_); clear hK K hHeld; have hHeld := hNew; clear hNew
     generalize World.alloc u4 _ = u5 at hHeld X5 E5 P5 ⊢; generalize u4.heap.size = db at E5 NSE NPE ⊢
     exact fin13 HQ X5 P5 E5 NSP NSE NPE
    ·skip
     go_simp; obtain ⟨X4, E4, NSE⟩ := onE X3; obtain ⟨P4, NPE⟩ := mineE P3
     refine hK.out _ _ X4.out.h.1.2.1 (fun hNew => ?_); clear hK K hHeld; have hHeld := hNew; clear hNew
     generalize World.alloc u3 _ = u4 at hHeld X4 E4 P4 ⊢; generalize u3.heap.size = db at E4 NSE NPE ⊢
     refine re1 5 (fun K hK => ?_)
     go_simp
     with_reducible refine (STP.out _ _ _ X4.out.d.a).mono ?_
     rintro e u5 ⟨rfl, v1, b', m'⟩; have X5 := Hd (X4.out.left b' m'); have P5 := Hd (P4.out.left m'); have E5 := Hd (E4.out.left m'); clear b' m'
     refine hK.out _ _ X5.out.h.1.2.1 (fun hNew => ?_); clear hK K hHeld; have hHeld := hNew; clear hNew
     refine tz 6 ?_; refine tz 7 ?_; refine tz 8 ?_
     exact fin13 HQ X5 P5 E5 NSP NSE NPE
   ·skip
    go_simp; obtain ⟨X3, E3, NSE⟩ := onE X2; obtain ⟨P3, NPE⟩ := mineE P2
    refine hK.out _ _ X3.out.h.1.2.1 (fun hNew => ?_); clear hK K hHeld; have hHeld := hNew; clear hNew
    generalize World.alloc u2 _ = u3 at hHeld X3 E3 P3 ⊢; generalize u2.heap.size = db at E3 NSE NPE ⊢
    refine re1 2 (fun K hK => ?_)
    go_simp
    with_reducible refine (STC.out _).mono ?_
    rintro e u4 ⟨rfl, hz⟩; have X4 := Hd (X3.out.next hz); have P4 := Hd (P3.out.below hz); have E4 := Hd (E3.out.below hz); clear hz
    refine hK.out _ _ X4.out.h.1.2.1 (fun hNew => ?_); clear hK K hHeld; have hHeld := hNew; clear hNew
    refine re1 5 (fun K hK => ?_)
    go_simp
    with_reducible refine (STP.out _ _ _ X4.out.d.a).mono ?_
    rintro e u5 ⟨rfl, v1, b', m'⟩; have X5 := Hd (X4.out.left b' m'); have P5 := Hd (P4.out.left m'); have E5 := Hd (E4.out.left m'); clear b' m'
    refine hK.out _ _ X5.out.h.1.2.1 (fun hNew => ?_); clear hK K hHeld; have hHeld := hNew; clear hNew
    refine tz 6 ?_; refine tz 7 ?_; refine tz 8 ?_
    exact fin13 HQ X5 P5 E5 NSP NSE NPE
  ·skip
   go_simp; obtain ⟨X2, E2, NSE⟩ := evE X1; obtain ⟨P2, NPE⟩ := freshE P1
   refine hK.out _ _ X2.out.h.1.2.1 (fun hNew => ?_); clear hK K hHeld; have hHeld := hNew; clear hNew
   generalize World.alloc u1 _ = u2 at hHeld X2 E2 P2 ⊢; generalize u1.heap.size = db at E2 NSE NPE ⊢
   refine re1 0 (fun K hK => ?_)
   go_simp
   with_reducible refine (new_c _).mono ?_
   rintro e w' ⟨rfl, rfl⟩; have X3 := Hd (X2.out.on s1); have P3 := Hd P2.out.mine; have E3 := Hd E2.out.mine
   refine hK.out _ _ X3.out.h.1.2.1 (fun hNew => ?_); clear hK K hHeld; have hHeld := hNew; clear hNew
   generalize World.alloc u2 (.cells Tryz.zeroCells81 81) = u3 at hHeld X3 P3 E3 ⊢; generalize u2.heap.size = tb at X3 P3 E3 ⊢
   refine re1 2 (fun K hK => ?_)
   go_simp
   with_reducible refine (STC.out _).mono ?_
   rintro e u4 ⟨rfl, hz⟩; have X4 := Hd (X3.out.next hz); have P4 := Hd (P3.out.below hz); have E4 := Hd (E3.out.below hz); clear hz
   refine hK.out _ _ X4.out.h.1.2.1 (fun hNew => ?_); clear hK K hHeld; have hHeld := hNew; clear hNew
   refine re1 5 (fun K hK => ?_)
   go_simp
   with_reducible refine (STP.out _ _ _ X4.out.d.a).mono ?_
   rintro e u5 ⟨rfl, v1, b', m'⟩; have X5 := Hd (X4.out.left b' m'); have P5 := Hd (P4.out.left m'); have E5 := Hd (E4.out.left m'); clear b' m'
   refine hK.out _ _ X5.out.h.1.2.1 (fun hNew => ?_); clear hK K hHeld; have hHeld := hNew; clear hNew
   refine tz 6 ?_; refine tz 7 ?_; refine tz 8 ?_
   exact fin13 HQ X5 P5 E5 NSP NSE NPE
 ·skip
  go_simp; obtain ⟨X1, E1, NSE⟩ := evE X0
  refine hK.out _ _ X1.out.h.1.2.1 (fun hNew => ?_); clear hK K hHeld; have hHeld := hNew; clear hNew
  generalize World.alloc u0 _ = u1 at hHeld X1 E1 ⊢; generalize u0.heap.size = db at E1 NSE ⊢
  refine wpAnyH_ready (rs := [0, 9]) (by kernel_rfl) (by simp) ?_
  refine (ac rfl (fun K hK => ?_) (ac rfl (fun K hK => ?_) AllReadyH.nil))
  ·skip
   go_simp
   with_reducible refine (new_c _).mono ?_
   rintro e w' ⟨rfl, rfl⟩; have X2 := Hd (X1.out.on s1); have E2 := Hd E1.out.mine
   refine hK.out _ _ X2.out.h.1.2.1 (fun hNew => ?_); clear hK K hHeld; have hHeld := hNew; clear hNew
   generalize World.alloc u1 (.cells Tryz.zeroCells81 81) = u2 at hHeld X2 E2 ⊢; generalize u1.heap.size = tb at X2 E2 ⊢
   refine wpAnyH_ready (rs := [2, 9]) (by kernel_rfl) (by simp) ?_
   refine (ac rfl (fun K hK => ?_) (ac rfl (fun K hK => ?_) AllReadyH.nil))
   ·skip
    go_simp
    with_reducible refine (STC.out _).mono ?_
    rintro e u3 ⟨rfl, hz⟩; have X3 := Hd (X2.out.next hz); have E3 := Hd (E2.out.below hz); clear hz
    refine hK.out _ _ X3.out.h.1.2.1 (fun hNew => ?_); clear hK K hHeld; have hHeld := hNew; clear hNew
    refine wpAnyH_ready (rs := [5, 9]) (by kernel_rfl) (by simp) ?_
    refine (ac rfl (fun K hK => ?_) (ac rfl (fun K hK => ?_) AllReadyH.nil))
    ·skip
     go_simp
     with_reducible refine (STP.out _ _ _ X3.out.d.a).mono ?_
     rintro e u4 ⟨rfl, v1, b', m'⟩; have X4 := Hd (X3.out.left b' m'); have E4 := Hd (E3.out.left m'); clear b' m'
     refine hK.out _ _ X4.out.h.1.2.1 (fun hNew => ?_); clear hK K hHeld; have hHeld := hNew; clear hNew
     refine tz 6 ?_; refine tz 7 ?_; refine tz 8 ?_
     refine re1 9 (fun K hK => ?_)
     go_simp; obtain ⟨X5, P5, NSP⟩ := onP X4; obtain ⟨E5, NPE⟩ := mineP E4; replace NPE := Hd NPE.out.symm
     refine hK.out _ _ X5.out.h.1.2.1 (fun hNew => ?_); clear hK K hHeld; have hHeld := hNew; clear hNew
     generalize World.alloc u4 _ = u5 at hHeld X5 P5 E5 ⊢; generalize u4.heap.size = pb at P5 NSP NPE ⊢
     exact fin13 HQ X5 P5 E5 NSP NSE NPE
    ·skip
     go_simp; obtain ⟨X4, P4, NSP⟩ := onP X3; obtain ⟨E4, NPE⟩ := mineP E3; replace NPE := Hd NPE.out.symm
     refine hK.out _ _ X4.out.h.1.2.1 (fun hNew => ?_); clear hK K hHeld; have hHeld := hNew; clear hNew
     generalize World.alloc u3 _ = u4 at hHeld X4 P4 E4 ⊢; generalize u3.heap.size = pb at P4 NSP NPE ⊢
     refine re1 5 (fun K hK => ?_)
     go_simp
     with_reducible refine (STP.out _ _ _ X4.out.d.a).mono ?_
     rintro e u5 ⟨rfl, v1, b', m'⟩; have X5 := Hd (X4.out.left b' m'); have P5 := Hd (P4.out.left m'); have E5 := Hd (E4.out.left m'); clear b' m'
     refine hK.out _ _ X5.out.h.1.2.1 (fun hNew => ?_); clear hK K hHeld; have hHeld := hNew; clear hNew
     refine tz 6 ?_; refine tz 7 ?_; refine tz 8 ?_
     exact fin13 HQ X5 P5 E5 NSP NSE NPE
   ·skip
    go_simp; obtain ⟨X3, P3, NSP⟩ := onP X2; obtain ⟨E3, NPE⟩ := mineP E2; replace NPE := Hd NPE.out.symm
    refine hK.out _ _ X3.out.h.1.2.1 (fun hNew => ?_); clear hK K hHeld; have hHeld := hNew; clear hNew
    generalize World.alloc u2 _ = u3 at hHeld X3 P3 E3 ⊢; generalize u2.heap.size = pb at P3 NSP NPE ⊢
    refine re1 2 (fun K hK => ?_)
    go_simp
    with_reducible refine (STC.out _).mono ?_
    rintro e u4 ⟨rfl, hz⟩; have X4 := Hd (X3.out.next hz); have P4 := Hd (P3.out.below hz); have E4 := Hd (E3.out.below hz); clear hz
    refine hK.out _ _ X4.out.h.1.2.1 (fun hNew => ?_); clear hK K hHeld; have hHeld := hNew; clear hNew
    refine re1 5 (fun K hK => ?_)
    go_simp
    with_reducible refine (STP.out _ _ _ X4.out.d.a).mono ?_
    rintro e u5 ⟨rfl, v1, b', m'⟩; have X5 := Hd (X4.out.left b' m'); have P5 := Hd (P4.out.left m'); have E5 := Hd (E4.out.left m'); clear b' m'
    refine hK.out _ _ X5.out.h.1.2.1 (fun hNew => ?_); clear hK K hHeld; have hHeld := hNew; clear hNew
    refine tz 6 ?_; refine tz 7 ?_; refine tz 8 ?_
    exact fin13 HQ X5 P5 E5 NSP NSE NPE
  ·skip
   go_simp; obtain ⟨X2, P2, NSP⟩ := evP X1; obtain ⟨E2, NPE⟩ := freshP E1; replace NPE := Hd NPE.out.symm
   refine hK.out _ _ X2.out.h.1.2.1 (fun hNew => ?_); clear hK K hHeld; have hHeld := hNew; clear hNew
   generalize World.alloc u1 _ = u2 at hHeld X2 P2 E2 ⊢; generalize u1.heap.size = pb at P2 NSP NPE ⊢
   refine re1 0 (fun K hK => ?_)
   go_simp
   with_reducible refine (new_c _).mono ?_
   rintro e w' ⟨rfl, rfl⟩; have X3 := Hd (X2.out.on s1); have P3 := Hd P2.out.mine; have E3 := Hd E2.out.mine
   refine hK.out _ _ X3.out.h.1.2.1 (fun hNew => ?_); clear hK K hHeld; have hHeld := hNew; clear hNew
   generalize World.alloc u2 (.cells Tryz.zeroCells81 81) = u3 at hHeld X3 P3 E3 ⊢; generalize u2.heap.size = tb at X3 P3 E3 ⊢
   refine re1 2 (fun K hK => ?_)
   go_simp
   with_reducible refine (STC.out _).mono ?_
   rintro e u4 ⟨rfl, hz⟩; have X4 := Hd (X3.out.next hz); have P4 := Hd (P3.out.below hz); have E4 := Hd (E3.out.below hz); clear hz
   refine hK.out _ _ X4.out.h.1.2.1 (fun hNew => ?_); clear hK K hHeld; have hHeld := hNew; clear hNew
   refine re1 5 (fun K hK => ?_)
   go_simp
   with_reducible refine (STP.out _ _ _ X4.out.d.a).mono ?_
   rintro e u5 ⟨rfl, v1, b', m'⟩; have X5 := Hd (X4.out.left b' m'); have P5 := Hd (P4.out.left m'); have E5 := Hd (E4.out.left m'); clear b' m'
   refine hK.out _ _ X5.out.h.1.2.1 (fun hNew => ?_); clear hK K hHeld; have hHeld := hNew; clear hNew
   refine tz 6 ?_; refine tz 7 ?_; refine tz 8 ?_
   exact fin13 HQ X5 P5 E5 NSP NSE NPE
end Go.Proofs.YtngdogldgcgnjaaGreat
