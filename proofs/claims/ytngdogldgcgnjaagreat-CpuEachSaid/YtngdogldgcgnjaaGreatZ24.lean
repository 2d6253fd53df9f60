/-
  What state does: for every world; no condition.
-/
import Derived.Test.YtngdogldgcgnjaaGreatZ23
import Derived.Laws.IdiomCopy
set_option maxRecDepth 100000
set_option maxHeartbeats 8000000
namespace Go.Proofs.YtngdogldgcgnjaaGreat
open Go.ChangeShapes Go.WideShapes Go.ChangeAt Go.RowKit
open Reg
set_option linter.unusedVariables false
section
theorem state_c (s : St) (w : World) : Calls Tryz.prog 13 #[.agg #[.int .u8 s.r.a, .int .u8 s.r.f, .int .u8 s.r.b, .int .u8 s.r.c, .int .u8 s.r.d, .int .u8 s.r.e, .int .u8 s.r.h, .int .u8 s.r.l, .int .u16 s.r.sp, .int .u16 s.r.pc, .bool s.ime, .bool s.soon, .bool s.halt, .bool s.stop]] w fun e w' => e = .returned (.agg #[.int .u8 s.r.a, .int .u8 s.r.f, .int .u8 s.r.b, .int .u8 s.r.c, .int .u8 s.r.d, .int .u8 s.r.e, .int .u8 s.r.h, .int .u8 s.r.l, .int .u16 s.r.sp, .int .u16 s.r.pc, .bool s.ime, .bool s.soon, .bool s.halt, .bool s.stop]) ∧ Below w.heap.size w w' := by
 go_enter Tryz.func13, Tryz.ntmps13; go_wp2
 exact bodyPost_ret (v := .agg #[.int .u8 s.r.a, .int .u8 s.r.f, .int .u8 s.r.b, .int .u8 s.r.c, .int .u8 s.r.d, .int .u8 s.r.e, .int .u8 s.r.h, .int .u8 s.r.l, .int .u16 s.r.sp, .int .u16 s.r.pc, .bool s.ime, .bool s.soon, .bool s.halt, .bool s.stop]) (by simp [results, Tryz.results13, go_sem]) rfl ⟨rfl, own2 _ _ _⟩
theorem sz1 : (Tryz.prog.info? 5).map (·.size) = some 1 := by kernel_rfl
theorem Ram.copy3 {w : World} {R M cb : Nat} {m : Int → Int} (h : Ram w R M m) (x y z : Int) (hb : Has w cb #[.int .u8 x, .int .u8 y, .int .u8 z]) (o n c : Nat) (ho : o + 3 ≤ 65536) (hn : 3 ≤ n) :
  (Builtin.copy_ #[27, 27] 3 #[.slice (some ⟨M, o, none⟩) n c, .slice (some ⟨cb, 0, none⟩) 3 3]).run Tryz.prog w = .ok (goInt 3) (((w.setCell ⟨M, o, none⟩ (.int .u8 x)).setCell ⟨M, o + 1, none⟩ (.int .u8 y)).setCell ⟨M, o + 1 + 1, none⟩ (.int .u8 z)) := by
 have q := run_copy_cells (P := Tryz.prog) w 27 27 3 5 M o n c ⟨cb, 0, none⟩ 3 3 [.int .u8 x, .int .u8 y, .int .u8 z] Tryz.underlying27 sz1 (by show 3 = min 3 n; omega)
  (fun j v hj => by
   match j, hj with
   | 0, hj => simp at hj; subst hj; simpa [Addr.add] using hb.2.1 0
   | 1, hj => simp at hj; subst hj; simpa [Addr.add] using hb.2.1 1
   | 2, hj => simp at hj; subst hj; simpa [Addr.add] using hb.2.1 2
   | j + 3, hj => simp at hj)
  (fun j hj => by rw [h.mem (o + j) (by simp at hj; omega)]; rfl) (fun j _ => h.free _) (by simp [Value.oneCell'])
 exact q
theorem Ram.copy2 {w : World} {R M cb : Nat} {m : Int → Int} (h : Ram w R M m) (x y : Int) (hb : Has w cb #[.int .u8 x, .int .u8 y]) (o n c : Nat) (ho : o + 2 ≤ 65536) (hn : 2 ≤ n) :
  (Builtin.copy_ #[27, 27] 3 #[.slice (some ⟨M, o, none⟩) n c, .slice (some ⟨cb, 0, none⟩) 2 2]).run Tryz.prog w = .ok (goInt 2) ((w.setCell ⟨M, o, none⟩ (.int .u8 x)).setCell ⟨M, o + 1, none⟩ (.int .u8 y)) := by
 have q := run_copy_cells (P := Tryz.prog) w 27 27 3 5 M o n c ⟨cb, 0, none⟩ 2 2 [.int .u8 x, .int .u8 y] Tryz.underlying27 sz1 (by show 2 = min 2 n; omega)
  (fun j v hj => by
   match j, hj with
   | 0, hj => simp at hj; subst hj; simpa [Addr.add] using hb.2.1 0
   | 1, hj => simp at hj; subst hj; simpa [Addr.add] using hb.2.1 1
   | j + 2, hj => simp at hj)
  (fun j hj => by rw [h.mem (o + j) (by simp at hj; omega)]; rfl) (fun j _ => h.free _) (by simp [Value.oneCell'])
 exact q
theorem own6 (w : World) (o1 o2 o3 o4 o5 o6 : Obj) : Below w.heap.size w ((((((w.alloc o1).alloc o2).alloc o3).alloc o4).alloc o5).alloc o6) := ((own4 w o1 o2 o3 o4).alloc (by simp; omega) _).alloc (by simp; omega) _
theorem BM.far {R M tb b : Nat} {v v1 : Value} {w w1 : World} (h : BM R M tb v w v1 w1) (hb : b < w.heap.size) (hn : ¬ BX R M tb v b) : ¬ BX R M tb v1 b := fun hx => hn (h.back b hb hx)
theorem Off.putL (b : Nat) : ∀ (l : List Value) (o : Nat) (w : World), Off (fun k => k = b) w (w.setCells b o l)
 | [], _, w => Off.refl _ w
 | v :: r, o, w => (Off.setCell (X := fun k => k = b) w b o v rfl).trans (Off.putL b r (o + 1) _) (fun _ _ h => h)
theorem Has.putL {w : World} {b : Nat} {A : Array Value} (h : Has w b A) (l : List Value) (hl : l.length = A.size) : Has (w.setCells b 0 l) b l.toArray := by
 have hv : ∀ j, j < l.length → (w.cell? ⟨b, 0 + j, none⟩).isSome = true := fun j hj => by
  rw [h.2.1 (0 + j), Array.getElem?_eq_getElem (by omega)]; rfl
 refine ⟨Nat.lt_of_lt_of_le h.1 (setCells_size _ _ _ _), fun o => ?_, fun o => by rw [World.frozen?_setCells]; exact h.2.2 o⟩
 by_cases ho : o < l.length
 ·have q := World.cell?_setCells_in b l 0 w hv o ho
  rw [Nat.zero_add] at q; rw [q]
  simp [ho]
 ·rw [World.cell?_setCells_out b l 0 w ⟨b, o, none⟩ (fun _ _ => Or.inr (by show 0 + l.length ≤ o; omega)), h.2.1 o, Array.getElem?_eq_none (by omega)]
  simp; omega
theorem Has.put14 {w : World} {b : Nat} {s0 : St} (h : Has w b #[.int .u8 s0.r.a, .int .u8 s0.r.f, .int .u8 s0.r.b, .int .u8 s0.r.c, .int .u8 s0.r.d, .int .u8 s0.r.e, .int .u8 s0.r.h, .int .u8 s0.r.l, .int .u16 s0.r.sp, .int .u16 s0.r.pc, .bool s0.ime, .bool s0.soon, .bool s0.halt, .bool s0.stop]) (s : St) : Has (World.setCell (World.setCell (World.setCell (World.setCell (World.setCell (World.setCell (World.setCell (World.setCell (World.setCell (World.setCell (World.setCell (World.setCell (World.setCell (World.setCell w ⟨b, 0, none⟩ (.int .u8 s.r.a)) ⟨b, 1, none⟩ (.int .u8 s.r.f)) ⟨b, 2, none⟩ (.int .u8 s.r.b)) ⟨b, 3, none⟩ (.int .u8 s.r.c)) ⟨b, 4, none⟩ (.int .u8 s.r.d)) ⟨b, 5, none⟩ (.int .u8 s.r.e)) ⟨b, 6, none⟩ (.int .u8 s.r.h)) ⟨b, 7, none⟩ (.int .u8 s.r.l)) ⟨b, 8, none⟩ (.int .u16 s.r.sp)) ⟨b, 9, none⟩ (.int .u16 s.r.pc)) ⟨b, 10, none⟩ (.bool s.ime)) ⟨b, 11, none⟩ (.bool s.soon)) ⟨b, 12, none⟩ (.bool s.halt)) ⟨b, 13, none⟩ (.bool s.stop)) b #[.int .u8 s.r.a, .int .u8 s.r.f, .int .u8 s.r.b, .int .u8 s.r.c, .int .u8 s.r.d, .int .u8 s.r.e, .int .u8 s.r.h, .int .u8 s.r.l, .int .u16 s.r.sp, .int .u16 s.r.pc, .bool s.ime, .bool s.soon, .bool s.halt, .bool s.stop] := h.putL [.int .u8 s.r.a, .int .u8 s.r.f, .int .u8 s.r.b, .int .u8 s.r.c, .int .u8 s.r.d, .int .u8 s.r.e, .int .u8 s.r.h, .int .u8 s.r.l, .int .u16 s.r.sp, .int .u16 s.r.pc, .bool s.ime, .bool s.soon, .bool s.halt, .bool s.stop] rfl
theorem Off.put14 (w : World) (b : Nat) (s : St) : Off (fun k => k = b) w (World.setCell (World.setCell (World.setCell (World.setCell (World.setCell (World.setCell (World.setCell (World.setCell (World.setCell (World.setCell (World.setCell (World.setCell (World.setCell (World.setCell w ⟨b, 0, none⟩ (.int .u8 s.r.a)) ⟨b, 1, none⟩ (.int .u8 s.r.f)) ⟨b, 2, none⟩ (.int .u8 s.r.b)) ⟨b, 3, none⟩ (.int .u8 s.r.c)) ⟨b, 4, none⟩ (.int .u8 s.r.d)) ⟨b, 5, none⟩ (.int .u8 s.r.e)) ⟨b, 6, none⟩ (.int .u8 s.r.h)) ⟨b, 7, none⟩ (.int .u8 s.r.l)) ⟨b, 8, none⟩ (.int .u16 s.r.sp)) ⟨b, 9, none⟩ (.int .u16 s.r.pc)) ⟨b, 10, none⟩ (.bool s.ime)) ⟨b, 11, none⟩ (.bool s.soon)) ⟨b, 12, none⟩ (.bool s.halt)) ⟨b, 13, none⟩ (.bool s.stop)) := Off.putL b [.int .u8 s.r.a, .int .u8 s.r.f, .int .u8 s.r.b, .int .u8 s.r.c, .int .u8 s.r.d, .int .u8 s.r.e, .int .u8 s.r.h, .int .u8 s.r.l, .int .u16 s.r.sp, .int .u16 s.r.pc, .bool s.ime, .bool s.soon, .bool s.halt, .bool s.stop] 0 w
theorem Has.put9 {w : World} {b : Nat} (h : Has w b #[.int .i64 0, .int .i64 0, .int .u16 0, .int .i64 0, .int .i64 0, .int .i64 0, .int .i64 0, .int .u16 0, .bool false]) (d : DidV) : Has (World.setCell (World.setCell (World.setCell (World.setCell (World.setCell (World.setCell (World.setCell (World.setCell (World.setCell w ⟨b, 0, none⟩ (.int .i64 d.what)) ⟨b, 1, none⟩ (.int .i64 d.n)) ⟨b, 2, none⟩ (.int .u16 d.at')) ⟨b, 3, none⟩ (.int .i64 d.o.k)) ⟨b, 4, none⟩ (.int .i64 d.o.x)) ⟨b, 5, none⟩ (.int .i64 d.o.y)) ⟨b, 6, none⟩ (.int .i64 d.o.s)) ⟨b, 7, none⟩ (.int .u16 d.o.n)) ⟨b, 8, none⟩ (.bool d.t)) b #[.int .i64 d.what, .int .i64 d.n, .int .u16 d.at', .int .i64 d.o.k, .int .i64 d.o.x, .int .i64 d.o.y, .int .i64 d.o.s, .int .u16 d.o.n, .bool d.t] := h.putL [.int .i64 d.what, .int .i64 d.n, .int .u16 d.at', .int .i64 d.o.k, .int .i64 d.o.x, .int .i64 d.o.y, .int .i64 d.o.s, .int .u16 d.o.n, .bool d.t] rfl
theorem Off.put9 (w : World) (b : Nat) (d : DidV) : Off (fun k => k = b) w (World.setCell (World.setCell (World.setCell (World.setCell (World.setCell (World.setCell (World.setCell (World.setCell (World.setCell w ⟨b, 0, none⟩ (.int .i64 d.what)) ⟨b, 1, none⟩ (.int .i64 d.n)) ⟨b, 2, none⟩ (.int .u16 d.at')) ⟨b, 3, none⟩ (.int .i64 d.o.k)) ⟨b, 4, none⟩ (.int .i64 d.o.x)) ⟨b, 5, none⟩ (.int .i64 d.o.y)) ⟨b, 6, none⟩ (.int .i64 d.o.s)) ⟨b, 7, none⟩ (.int .u16 d.o.n)) ⟨b, 8, none⟩ (.bool d.t)) := Off.putL b [.int .i64 d.what, .int .i64 d.n, .int .u16 d.at', .int .i64 d.o.k, .int .i64 d.o.x, .int .i64 d.o.y, .int .i64 d.o.s, .int .u16 d.o.n, .bool d.t] 0 w
theorem infoI : (Tryz.prog.info? 3).map (fun i => (i.zero, i.size, i.bytes)) = some (some (.int .i64 0), 1, 8) := by kernel_rfl
theorem app_int {W : World} {v : Value} {n : Nat} {xs : List Value} (hown : W.ownsRow 0 3 1 v n xs) (x : Int) (hl : n < 1000000) :
  ∃ g cap w2, (Builtin.append_ #[64, 64] 64 #[v, .slice (some ⟨W.heap.size, 0, none⟩) 1 1]).run Tryz.prog (W.alloc (.cells #[.int .i64 x] 3)) = .ok (.slice (some ⟨g, 0, none⟩) (n + 1) cap) w2 ∧
   w2.ownsRow 0 3 1 (.slice (some ⟨g, 0, none⟩) (n + 1) cap) (n + 1) (xs ++ [.int .i64 x]) ∧ (W.alloc (.cells #[.int .i64 x] 3)).grownBy w2 v.ownBlock ∧
   (some g = v.ownBlock ∨ g = (W.alloc (.cells #[.int .i64 x] 3)).heap.size) := by
 obtain ⟨i0, hi, hz0, hz1, hz2⟩ := info_parts infoI; obtain ⟨v', w2, hrun, ho, hg, _, hat⟩ := run_append_own_at (P := Tryz.prog) (W.alloc (.cells #[.int .i64 x] 3)) 0 64 64 3 i0 _ 1 8 Tryz.underlying64 hi hz0 hz1 hz2 rfl (by decide)
  v n xs (hown.alloc _) ⟨W.heap.size, 0, none⟩ 1 1 [.int .i64 x] rfl (fun j u hj => by
   match j, hj with
   | 0, hj => simp at hj; subst hj; simp [Addr.add, go_sem]
   | j + 1, hj => simp at hj) (fun u hu => by simp at hu; subst hu; rfl)
  (by simp only [maxLen]; omega) (by omega) (Nat.zero_le _)
 rcases ho.2 with ⟨_, h0⟩ | ⟨g, cap, cur, rfl, _⟩
 ·omega
 ·exact ⟨g, cap, w2, hrun, ho, hg, by simpa [Value.ownBlock] using hat⟩
theorem row_cell {w : World} {g n cap : Nat} {e : TypeId} {xs : List Value} (h : w.ownsRow 0 e 1 (.slice (some ⟨g, 0, none⟩) n cap) n xs) (j : Nat) (x : Value) (hj : xs[j]? = some x) : w.cell? ⟨g, j, none⟩ = some x := by
 have := h.cells (g := g) rfl j x hj
 have e : (⟨g, 0, none⟩ : Addr).add j = ⟨g, j, none⟩ := by unfold Addr.add; split <;> simp_all
 rwa [e] at this
end
end Go.Proofs.YtngdogldgcgnjaaGreat
