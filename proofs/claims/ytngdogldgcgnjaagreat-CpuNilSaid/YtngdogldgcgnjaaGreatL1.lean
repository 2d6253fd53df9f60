/-
  The first test of each law (awake), and a bus whose bytes are all 0: for every world; no condition.
-/
import Derived.Test.YtngdogldgcgnjaaGreatP13
import Derived.Laws.MakeOwn
namespace Go.Proofs.YtngdogldgcgnjaaGreat
open Go.ChangeShapes Go.WideShapes Go.ChangeAt Go.RowKit
open Reg
set_option linter.unusedVariables false
set_option maxRecDepth 100000
section
/-- Bytes that are all 0. -/
def zeroM : Array Value := madeCells (Value.int .u8 0).cells 65536
theorem zeroM_get (a : Nat) (h : a < 65536) : zeroM[a]? = some (.int .u8 0) := by
 unfold zeroM madeCells
 rw [Array.getElem?_map, Array.getElem?_range]
 rw [if_pos h]
 show some ((Value.int .u8 0).cells[a % 1]!) = _
 rw [Nat.mod_one]
 rfl
theorem infoB : (Tryz.prog.info? 5).map (fun i => (i.zero, i.size, i.bytes)) = some (some (.int .u8 0), 1, 1) := by kernel_rfl
theorem mk_run (w : World) : (Instr.makeSlice 27 (.int .i64 65536) (.int .i64 65536)).run Tryz.prog w = .ok (.slice (some ⟨w.heap.size, 0, none⟩) 65536 65536) (w.alloc (.cells zeroM 5)) := by
 obtain ⟨i0, hi, hz0, hz1, hz2⟩ := info_parts infoB
 have h := run_make (P := Tryz.prog) w 27 5 i0 _ Tryz.underlying27 hi hz0 .i64 .i64 65536 65536 (by decide) (by decide) (by rw [hz2]; decide) (by decide)
 rw [hz1] at h
 exact h
/-- A bus that nothing was asked of. -/
structure Ram (w : World) (R M : Nat) (m : Int → Int) : Prop where
 ram : Has w R (ramC M 0 (.slice none 0 0))
 mem : ∀ a : Nat, a < 65536 → w.cell? ⟨M, a, none⟩ = some (.int .u8 (m a))
 free : ∀ a, w.frozen? ⟨M, a, none⟩ = false
 mlt : M < w.heap.size
 rm : R ≠ M
 okm : ∀ a, 0 ≤ m a ∧ m a < 256
theorem Ram.off {w w' : World} {R M : Nat} {m : Int → Int} {X : Nat → Prop} (h : Ram w R M m) (ho : Off X w w') (h1 : ¬ X R) (h2 : ¬ X M) : Ram w' R M m :=
 ⟨h.ram.off ho h1, fun a ha => (ho.cell (p := ⟨M, a, none⟩) h.mlt h2).trans (h.mem a ha), fun a => (ho.frozen (p := ⟨M, a, none⟩) h.mlt h2).trans (h.free a), Nat.lt_of_lt_of_le h.mlt ho.size, h.rm, h.okm⟩
theorem Ram.below {w w' : World} {R M : Nat} {m : Int → Int} (h : Ram w R M m) (hb : Below w.heap.size w w') : Ram w' R M m := h.off (Off.of (fun _ => False) hb) id id
theorem Ram.poke {w : World} {R M : Nat} {m : Int → Int} (h : Ram w R M m) (a : Nat) (ha : a < 65536) (x : Int) (h0 : 0 ≤ x) (h1 : x < 256) : Ram (w.setCell ⟨M, a, none⟩ (.int .u8 x)) R M (upd m a x) := by
 have hO : Off (fun k => k = M) w (w.setCell ⟨M, a, none⟩ (.int .u8 x)) := Off.setCell w M a _ rfl
 refine ⟨h.ram.off hO h.rm, fun b hb => ?_, fun b => by simpa [go_sem] using h.free b, Nat.lt_of_lt_of_le h.mlt hO.size, h.rm, fun b => ?_⟩
 ·unfold upd
  by_cases e : b = a
  ·subst e
   rw [if_pos rfl]
   exact World.cell?_setCell_same w _ _ (h.mem b hb)
  ·rw [if_neg (by omega), World.cell?_setCell_other _ _ _ _ (fun h => e (by injection h with _ h; exact h.symm))]
   exact h.mem b hb
 ·unfold upd
  split
  ·exact ⟨h0, h1⟩
  ·exact h.okm b
theorem Ram.bus {w : World} {R M tb : Nat} {m : Int → Int} (h : Ram w R M m) (T : TabAny w tb) (h1 : R ≠ tb) (h2 : M ≠ tb) : Bus ramC w R M tb (.slice none 0 0) m [] 0 :=
 ⟨⟨0, h.ram⟩, h.mem, h.free, h.mlt, World.ownsRow_nil _ _ _ _, T, h.rm, h1, h2, fun k hk => by simp [Value.ownBlock] at hk, h.okm, Nat.le_refl _⟩
theorem Ram.zero (w : World) : Ram ((w.alloc (.cells zeroM 5)).alloc (.cells #[.slice (some ⟨w.heap.size, 0, none⟩) 65536 65536, .slice none 0 0] 35)) (w.heap.size + 1) w.heap.size (fun _ => 0) := by
 have h1 := (Has.new w zeroM 5).alloc (.cells #[.slice (some ⟨w.heap.size, 0, none⟩) 65536 65536, .slice none 0 0] 35)
 have h2 := Has.new (w.alloc (.cells zeroM 5)) #[.slice (some ⟨w.heap.size, 0, none⟩) 65536 65536, .slice none 0 0] 35
 have e : (w.alloc (.cells zeroM 5)).heap.size = w.heap.size + 1 := by simp
 rw [e] at h2
 exact ⟨h2, fun a ha => (h1.2.1 a).trans (zeroM_get a ha), h1.2.2, h1.1, by omega, fun _ => by decide⟩
def aw0 : Sy := ⟨⟨⟨0, 0, 0, 0, 0, 0, 0, 0, 0, 256⟩, false, false, false, false⟩, upd (upd (fun _ => 0) 256 62) 257 18, []⟩
theorem aw_a : (stepS aw0).s.r.a = 18 := by kernel_rfl
theorem aw_pc : (stepS aw0).s.r.pc = 258 := by kernel_rfl
theorem aw_n : (stepS aw0).acc.length = 2 := by kernel_rfl
theorem aw_w : (stepD aw0).what = 1 := by kernel_rfl
/-- The list of a bus, as long as it is. -/
theorem Bus.form {C : Nat → Int → Value → Array Value} {w : World} {R M tb n : Nat} {v : Value} {m : Int → Int} {acc : List Ac} (h : Bus C w R M tb v m acc n) : ∃ a c, v = .slice a acc.length c := by
 rcases h.own.2 with ⟨e, e'⟩ | ⟨g, cap, cur, e, _⟩
 ·exact ⟨none, 0, by rw [e, e']⟩
 ·exact ⟨_, _, e⟩
theorem aw_step {w : World} {R M tb : Nat} {v : Value} (h : Bus ramC w R M tb v aw0.m [] 0) : Calls Tryz.prog 14 #[.pointer (some ⟨tb, 0, none⟩), .agg #[.int .u8 0, .int .u8 0, .int .u8 0, .int .u8 0, .int .u8 0, .int .u8 0, .int .u8 0, .int .u8 0, .int .u16 0, .int .u16 256, .bool false, .bool false, .bool false, .bool false], .iface 31 (.pointer (some ⟨R, 0, none⟩))] w (SE R M tb v w aw0 12) :=
 Step_t h (by decide) aw0.s (by unfold RR.ok; decide)
set_option maxHeartbeats 2000000 in
theorem awake_c (w : World) : Calls Tryz.prog 10 #[] w fun e w' => e = .returned (.bool true) ∧ Below w.heap.size w w' := by
 have hmk := mk_run
 have r0 := Ram.zero w
 have B0 := Lib.hid (own2 w (.cells zeroM 5) (.cells #[.slice (some ⟨w.heap.size, 0, none⟩) 65536 65536, .slice none 0 0] 35))
 go_enter Tryz.func10, Tryz.ntmps10
 go_wp2
 clear hmk
 generalize ((w.alloc (.cells zeroM 5)).alloc (.cells #[.slice (some ⟨w.heap.size, 0, none⟩) 65536 65536, .slice none 0 0] 35)) = w0 at B0 r0 ⊢
 generalize hM : w.heap.size = M at r0 ⊢
 have LM := Lib.hid (show w.heap.size ≤ M by omega)
 clear hM
 generalize hR : M + 1 = R at r0 ⊢
 have LR := Lib.hid (show w.heap.size ≤ R by have := LM.out; omega)
 clear hR
 have R1 := Lib.hid (r0.below (Below.refl _ _).drew)
 have B1 := Lib.hid (B0.out.drew)
 clear r0 B0
 refine wp_region_held_drew (S := (fun w' => (w'.cell? ⟨R, 0, none⟩ = some (.slice (some ⟨M, 0, none⟩) 65536 65536)) ∧ True)) (by kernel_rfl) ⟨R1.out.ram.2.1 0, trivial⟩ (fun hHeld => ?_)
 generalize World.drew w0 = u1 at hHeld R1 B1 ⊢
 refine tk 0 rfl (v := ?v1) ?y1 ?z1
 case y1 => (intro w hSw; (try dsimp only at hSw); go_simp) <;> with_reducible rfl
 try simp only [Act.put, qqA, qqB, qqC]
 refine tk 1 rfl (v := ?v2) ?y2 ?z2
 case y2 => (intro w hSw; (try dsimp only at hSw); go_simp) <;> with_reducible rfl
 try simp only [Act.put, qqA, qqB, qqC]
 refine tk 2 rfl (v := ?v3) ?y3 ?z3
 case y3 => (intro w hSw; (try dsimp only at hSw); go_simp) <;> with_reducible rfl
 try simp only [Act.put, qqA, qqB, qqC]
 refine tk 3 rfl (v := ?v4) ?y4 ?z4
 case y4 => (intro w hSw; (try dsimp only at hSw); go_simp) <;> with_reducible rfl
 try simp only [Act.put, qqA, qqB, qqC]
 refine tk 4 rfl (v := ?v5) ?y5 ?z5
 case y5 => (intro w hSw; (try dsimp only at hSw); go_simp) <;> with_reducible rfl
 try simp only [Act.put, qqA, qqB, qqC]
 refine tk 5 rfl (v := ?v6) ?y6 ?z6
 case y6 => (intro w hSw; (try dsimp only at hSw); go_simp) <;> with_reducible rfl
 try simp only [Act.put, qqA, qqB, qqC]
 refine tk 6 rfl (v := ?v7) ?y7 ?z7
 case y7 => (intro w hSw; (try dsimp only at hSw); go_simp) <;> with_reducible rfl
 try simp only [Act.put, qqA, qqB, qqC]
 refine tk 7 rfl (v := ?v8) ?y8 ?z8
 case y8 => (intro w hSw; (try dsimp only at hSw); go_simp) <;> with_reducible rfl
 try simp only [Act.put, qqA, qqB, qqC]
 refine tk 8 rfl (v := ?v9) ?y9 ?z9
 case y9 => (intro w hSw; (try dsimp only at hSw); go_simp) <;> with_reducible rfl
 try simp only [Act.put, qqA, qqB, qqC]
 refine wpAnyH_ready (rs := [9]) (by kernel_rfl) (by simp) ?_
 refine (ac rfl (fun K hK => ?_) AllReadyH.nil)
 ·skip
  have hm := R1.out.mem 256 (by decide)
  have hf := R1.out.free
  go_simp
  have R2 := Lib.hid (R1.out.poke 256 (by decide) 62 (by decide) (by decide))
  have B2 := Lib.hid (B1.out.setCell (p := ⟨M, 256, none⟩) LM.out (.int .u8 62))
  refine hK.out _ _ ?s10 (fun hNew => ?r10)
  case s10 => exact ⟨R2.out.ram.2.1 0, trivial⟩
  clear hK K hHeld hm hf
  have hHeld := hNew
  clear hNew
  generalize World.setCell u1 ⟨M, 256, none⟩ (.int .u8 62) = u2 at hHeld R2 B2 ⊢
  refine tk 10 rfl (v := ?v11) ?y11 ?z11
  case y11 => (intro w hSw; (try dsimp only at hSw); go_simp) <;> with_reducible rfl
  try simp only [Act.put, qqA, qqB, qqC]
  refine wpAnyH_ready (rs := [11]) (by kernel_rfl) (by simp) ?_
  refine (ac rfl (fun K hK => ?_) AllReadyH.nil)
  ·skip
   have hm := R2.out.mem 257 (by decide)
   have hf := R2.out.free
   go_simp
   have R3 := Lib.hid (R2.out.poke 257 (by decide) 18 (by decide) (by decide))
   have B3 := Lib.hid (B2.out.setCell (p := ⟨M, 257, none⟩) LM.out (.int .u8 18))
   refine hK.out _ _ ?s12 (fun hNew => ?r12)
   case s12 => exact ⟨R3.out.ram.2.1 0, trivial⟩
   clear hK K hHeld hm hf
   have hHeld := hNew
   clear hNew
   generalize World.setCell u2 ⟨M, 257, none⟩ (.int .u8 18) = u3 at hHeld R3 B3 ⊢
   refine wpAnyH_done (by kernel_rfl) ?_ _
   go_wp2_with fail
   with_reducible refine (new_c _).mono ?_
   rintro e w' ⟨rfl, rfl⟩
   have T1 := Tab.new u3 81
   have R4 := R3.out.below (own1 u3 (.cells Tryz.zeroCells81 81))
   have B4 := Lib.hid (via B3.out (own1 u3 (.cells Tryz.zeroCells81 81)))
   have LT := Lib.hid B3.out.size
   have b3 := R4.bus (Or.inl T1) (by have := R3.out.ram.1; omega) (by have := R3.out.mlt; omega)
   have BB := Lib.hid b3
   clear T1 R4 b3 R3 B3 R2 B2 R1 B1 hHeld
   generalize u3.alloc (.cells Tryz.zeroCells81 81) = w2 at B4 BB ⊢
   generalize u3.heap.size = tb at LT BB ⊢
   go_wp2_with fail
   with_reducible refine (aw_step BB.out).mono ?_
   rintro e w3 ⟨rfl, -, v3, b3, m3⟩
   obtain ⟨A3, c3, hv⟩ := b3.form
   rw [aw_n] at hv
   subst hv
   obtain ⟨q, hR⟩ := b3.ram
   have hr : w3.cell? ⟨R, 1, none⟩ = some (.slice A3 2 c3) := hR.2.1 1
   have hlt := hR.1
   have B5 := Lib.hid (B4.out.trans (m3.1.below (fun k hk hx => by
    have := LM.out
    have := LT.out
    have := LR.out
    rcases hx with hx | hx | hx | hx
    ·omega
    ·omega
    ·omega
    ·simp [Value.ownBlock] at hx) B4.out.size))
   clear b3 m3 BB B4 hR
   have ha := aw_a
   have hp := aw_pc
   have hw := aw_w
   generalize stepS aw0 = y1 at ha hp ⊢
   generalize stepD aw0 = D at hw ⊢
   unfold St.cells didC
   rw [ha, hp, hw]
   clear ha hp hw
   have hne1 : ¬ R = w3.heap.size := by omega
   have hne2 : ¬ R = w3.heap.size + 1 := by omega
   go_wp2
   go_ret
   exact ⟨rfl, via B5.out (own2 _ _ _)⟩
end
end Go.Proofs.YtngdogldgcgnjaaGreat
