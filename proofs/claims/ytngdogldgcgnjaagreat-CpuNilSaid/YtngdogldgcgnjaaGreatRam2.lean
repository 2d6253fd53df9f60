/-
  What the statements' own bus does, call by call: contracts, for every world; the bus is there. (Some texts in one.)
-/
import Derived.Test.YtngdogldgcgnjaaGreatBus
import Derived.BigRegion
import Derived.ChangeAlike
import Derived.Deep.RegionLaw
namespace Go.Proofs.YtngdogldgcgnjaaGreat
open Go.ChangeShapes Go.WideShapes Go.ChangeAt Go.RowKit
open Reg
set_option linter.unusedVariables false
set_option maxRecDepth 100000

def ramC (M : Nat) (_q : Int) (v : Value) : Array Value := #[.slice (some ⟨M, 0, none⟩) 65536 65536, v]
/-- How a call of a bus ends. -/
def BE (C : Nat → Int → Value → Array Value) (R M tb : Nat) (v : Value) (w : World) (ret : Value) (m : Int → Int) (acc : List Ac) (n : Nat) (e : Ending) (w' : World) : Prop :=
 e = .returned ret ∧ ∃ v', Bus C w' R M tb v' m acc n ∧ BM R M tb v w v' w'
theorem infoA : (Tryz.prog.info? 59).map (fun i => (i.zero, i.size, i.bytes)) = some (some (.agg #[.int .i64 0, .int .u16 0, .int .u8 0]), 3, 16) := by kernel_rfl
theorem app_new {W : World} {v : Value} {acc : List Ac} (hown : W.ownsRow 0 59 3 v acc.length (accL acc)) (c : Ac) (hl : acc.length < 1000000) :
  ∃ g cap w2, (Builtin.append_ #[33, 33] 33 #[v, .slice (some ⟨W.heap.size, 0, none⟩) 1 1]).run Tryz.prog (W.alloc (.cells #[.int .i64 c.k, .int .u16 c.a, .int .u8 c.v] 59)) = .ok (.slice (some ⟨g, 0, none⟩) (acc.length + 1) cap) w2 ∧
   w2.ownsRow 0 59 3 (.slice (some ⟨g, 0, none⟩) (acc.length + 1) cap) (acc.length + 1) (accL acc ++ c.cells) ∧
   (W.alloc (.cells #[.int .i64 c.k, .int .u16 c.a, .int .u8 c.v] 59)).grownBy w2 v.ownBlock ∧
   ((Value.slice (some ⟨g, 0, none⟩) (acc.length + 1) cap).ownBlock = v.ownBlock ∨ (Value.slice (some ⟨g, 0, none⟩) (acc.length + 1) cap).ownBlock = some (W.alloc (.cells #[.int .i64 c.k, .int .u16 c.a, .int .u8 c.v] 59)).heap.size) := by
 obtain ⟨i0, hi, hz0, hz1, hz2⟩ := info_parts infoA
 obtain ⟨v', w2, hrun, ho, hg, _, hat⟩ := run_append_own_at (P := Tryz.prog) (W.alloc (.cells #[.int .i64 c.k, .int .u16 c.a, .int .u8 c.v] 59)) 0 33 33 59 i0 _ 3 16 Tryz.underlying33 hi hz0 hz1 hz2 rfl (by decide)
  v acc.length (accL acc) (hown.alloc _) ⟨W.heap.size, 0, none⟩ 1 1 c.cells rfl (fun j u hj => by
   match j, hj with
   | 0, hj => simp [Ac.cells] at hj; subst hj; simp [Addr.add, go_sem]
   | 1, hj => simp [Ac.cells] at hj; subst hj; simp [Addr.add, go_sem]
   | 2, hj => simp [Ac.cells] at hj; subst hj; simp [Addr.add, go_sem]
   | j + 3, hj => simp [Ac.cells] at hj) (fun u hu => by simp [Ac.cells] at hu; rcases hu with rfl | rfl | rfl <;> rfl)
  (by simp only [maxLen]; omega) (by omega) (Nat.zero_le _)
 rcases ho.2 with ⟨_, h0⟩ | ⟨g, cap, cur, rfl, _⟩
 ·omega
 ·exact ⟨g, cap, w2, hrun, ho, hg, hat⟩
theorem wp_append_run {P : Program} {w w' : World} {o : Oper} {a : Act} {K : Act → World → Prop} {Q : Exit → Act → World → Prop} (s x : Operand) (t : TypeId) (v u v' : Value)
  (ho : o.op = .call { callee := .builtin .append, args := #[s, x], argTypes := #[t, t] }) (hs : a.eval s = v) (hx : a.eval x = u)
  (hr : (Builtin.append_ #[t, t] o.type #[v, u]).run P w = .ok v' w') (h : K (a.put o.dst v') w') : o.wp P a w K Q := by
 unfold Oper.wp execOp
 simp only [ho, resolve, invoke, builtin, Sem.run_bind, Sem.run_pure, Result.andThen_ok, List.map_toArray, List.map_cons, List.map_nil, hs, hx, hr]
 exact h
theorem wpList_append_run {P : Program} {w w' : World} {ops : Array Oper} {rest : List Oper} {o : Oper} {a : Act} {Q : Exit → Act → World → Prop} (hgd : o.guard = none) (s x : Operand) (t : TypeId) (v u v' : Value)
  (ho : o.op = .call { callee := .builtin .append, args := #[s, x], argTypes := #[t, t] }) (hs : a.eval s = v) (hx : a.eval x = u)
  (hr : (Builtin.append_ #[t, t] o.type #[v, u]).run P w = .ok v' w') (h : wpList P ops Q rest (a.put o.dst v') w') : wpList P ops Q (o :: rest) a w :=
 wpList_plain hgd fun _ hK => wp_append_run s x t v u v' ho hs hx hr (hK _ _ h)
section
variable {w : World} {R M tb n : Nat} {v : Value} {m : Int → Int} {acc : List Ac}
theorem Has.grown {w w' : World} {b : Nat} {A : Array Value} {row : Option Nat} (h : Has w b A) (hg : w.grownBy w' row) (hn : ¬ row = some b) : Has w' b A :=
 h.off (X := fun k => row = some k) ⟨hg.os, hg.tape, hg.output, hg.size, fun k hk hn => hg.block k hk (fun e => hn e.symm)⟩ hn
theorem ramC_set (M : Nat) (q : Int) (x x' : Value) : (ramC M q x).setIfInBounds 1 x' = ramC M q x' := rfl
theorem ramC_size (M : Nat) (q : Int) (x : Value) : 1 < (ramC M q x).size := by show 1 < 2; decide
set_option maxHeartbeats 1000000 in
theorem idle_b (h : Bus ramC w R M tb v m acc n) (hn : n < 1000000) : Calls Tryz.prog 174 #[.pointer (some ⟨R, 0, none⟩)] w (BE ramC R M tb v w (.tuple #[]) m (acc ++ [⟨0, 0, 0⟩]) (n + 1)) := by
 obtain ⟨q, hR⟩ := h.ram
 have hc1 : w.cell? ⟨R, 1, none⟩ = some v := hR.2.1 1
 obtain ⟨g, cap, w2, hrun, ho, hg, hat⟩ := app_new h.own ⟨0, 0, 0⟩ (Nat.lt_of_le_of_lt h.len hn)
 have hR2 := (hR.alloc (.cells #[.int .i64 0, .int .u16 0, .int .u8 0] 59)).grown hg (fun e => (h.vr R e).1 rfl)
 have hc2 : w2.cell? ⟨R, 1, none⟩ = some v := hR2.2.1 1
 have hf2 := hR2.2.2 1
 have HB := Lib.hid (h.app 1 (ramC_set M) (ramC_size M) ⟨0, 0, 0⟩ (own1 w _) hg ho hat)
 have HRUN := Lib.hid hrun
 clear hR hR2 ho hg hat h hrun
 go_enter Tryz.func174, Tryz.ntmps174
 go_wp2_with (at_builtin; refine wpList_append_run rfl _ _ 33 _ _ _ rfl rfl rfl HRUN.out ?_)
 go_end0
 exact ⟨rfl, _, HB.out.1, HB.out.2⟩
set_option maxHeartbeats 1000000 in
theorem write_b (h : Bus ramC w R M tb v m acc n) (hn : n < 1000000) (a x : Int) (a0 : 0 ≤ a) (a1 : a < 65536) (x0 : 0 ≤ x) (x1 : x < 256) :
  Calls Tryz.prog 177 #[.pointer (some ⟨R, 0, none⟩), .int .u16 a, .int .u8 x] w (BE ramC R M tb v w (.tuple #[]) (upd m a x) (acc ++ [⟨2, a, x⟩]) (n + 1)) := by
 obtain ⟨q, hR⟩ := h.ram
 have hc1 : w.cell? ⟨R, 1, none⟩ = some v := hR.2.1 1
 obtain ⟨g, cap, w2, hrun, ho, hg, hat⟩ := app_new h.own ⟨2, a, x⟩ (Nat.lt_of_le_of_lt h.len hn)
 have hR2 := (hR.alloc (.cells #[.int .i64 2, .int .u16 a, .int .u8 x] 59)).grown hg (fun e => (h.vr R e).1 rfl)
 have hc2 : w2.cell? ⟨R, 1, none⟩ = some v := hR2.2.1 1
 have hc20 : w2.cell? ⟨R, 0, none⟩ = some (.slice (some ⟨M, 0, none⟩) 65536 65536) := hR2.2.1 0
 have hf2 := hR2.2.2 1
 have hB := h.app 1 (ramC_set M) (ramC_size M) ⟨2, a, x⟩ (own1 w _) hg ho hat
 obtain ⟨k, rfl⟩ := Int.eq_ofNat_of_zero_le a0
 have hk : k < 65536 := by omega
 have hP := hB.1.poke k hk x x0 x1
 have hm := hB.1.mem k hk
 have hfm := hB.1.free k
 have hrm : ¬ R = M := h.rm
 have HB := Lib.hid hB
 have HP := Lib.hid hP
 have HRUN := Lib.hid hrun
 clear hR hR2 ho hg hat h hB hP hrun
 go_enter Tryz.func177, Tryz.ntmps177
 go_wp2_with (at_builtin; refine wpList_append_run rfl _ _ 33 _ _ _ rfl rfl rfl HRUN.out ?_)
 go_end0
 exact ⟨rfl, _, HP.out.1, HB.out.2.trans HP.out.2⟩
end
end Go.Proofs.YtngdogldgcgnjaaGreat
namespace Go.Proofs.YtngdogldgcgnjaaGreat
open Go.ChangeShapes Go.WideShapes Go.ChangeAt Go.RowKit
open Reg
set_option linter.unusedVariables false
set_option maxRecDepth 100000
theorem step_append_run {P : Program} {w w' : World} {ops : Array Oper} {o : Oper} {a : Act} {K : Act → World → Prop} {Q : Exit → Act → World → Prop} {E : Prop} (hgd : o.guard = none) (s x : Operand) (t : TypeId) (v u v' : Value)
  (ho : o.op = .call { callee := .builtin .append, args := #[s, x], argTypes := #[t, t] }) (hs : a.eval s = v) (hx : a.eval x = u)
  (hr : (Builtin.append_ #[t, t] o.type #[v, u]).run P w = .ok v' w') (h : K (a.put o.dst v') w') : if Region.wanted o (yielded ops a.tmps) = true then Oper.wp P o a w K Q else E := by
 have hw : Region.wanted o (yielded ops a.tmps) = true := by simp [Region.wanted, hgd]
 rw [if_pos hw]
 exact wp_append_run s x t v u v' ho hs hx hr h
section
variable {w : World} {R M tb n : Nat} {v : Value} {m : Int → Int} {acc : List Ac}
theorem Bus.drew {C : Nat → Int → Value → Array Value} (h : Bus C w R M tb v m acc n) : Bus C w.drew R M tb v m acc n := h.below (Below.refl _ _).drew
theorem BM.ofDrew {v' : Value} {w' : World} (h : BM R M tb v w.drew v' w') : BM R M tb v w v' w' := (BM.of (Below.refl _ _).drew).trans h
set_option maxHeartbeats 2000000 in
theorem read_b (h0 : Bus ramC w R M tb v m acc n) (hn : n < 1000000) (a : Int) (a0 : 0 ≤ a) (a1 : a < 65536) :
  Calls Tryz.prog 176 #[.pointer (some ⟨R, 0, none⟩), .int .u16 a] w (BE ramC R M tb v w (.int .u8 (m a)) m (acc ++ [⟨1, a, m a⟩]) (n + 1)) := by
 obtain ⟨k, rfl⟩ := Int.eq_ofNat_of_zero_le a0
 have hk : k < 65536 := by omega
 have h := h0.drew
 obtain ⟨q, hR⟩ := h.ram
 have hc1 : w.drew.cell? ⟨R, 1, none⟩ = some v := hR.2.1 1
 have hc0 : w.drew.cell? ⟨R, 0, none⟩ = some (.slice (some ⟨M, 0, none⟩) 65536 65536) := hR.2.1 0
 have hmk := h.mem k hk
 obtain ⟨g, cap, w2, hrun, ho, hg, hat⟩ := app_new h.own ⟨1, k, m k⟩ (Nat.lt_of_le_of_lt h.len hn)
 have hR2 := (hR.alloc (.cells #[.int .i64 1, .int .u16 k, .int .u8 (m k)] 59)).grown hg (fun e => (h.vr R e).1 rfl)
 have hc2 : w2.cell? ⟨R, 1, none⟩ = some v := hR2.2.1 1
 have hc20 : w2.cell? ⟨R, 0, none⟩ = some (.slice (some ⟨M, 0, none⟩) 65536 65536) := hR2.2.1 0
 have hf2 := hR2.2.2 1
 have hB := h.app 1 (ramC_set M) (ramC_size M) ⟨1, k, m k⟩ (own1 w.drew _) hg ho hat
 have hmk2 := hB.1.mem k hk
 have HB := Lib.hid hB
 have hA := (h0.below (own1 w (.cells #[.int .i64 1, .int .u16 k, .int .u8 (m k)] 59)))
 obtain ⟨q', hRA⟩ := hA.ram
 have hcA1 : (w.alloc (.cells #[.int .i64 1, .int .u16 k, .int .u8 (m k)] 59)).cell? ⟨R, 1, none⟩ = some v := hRA.2.1 1
 have hcA0 : (w.alloc (.cells #[.int .i64 1, .int .u16 k, .int .u8 (m k)] 59)).cell? ⟨R, 0, none⟩ = some (.slice (some ⟨M, 0, none⟩) 65536 65536) := hRA.2.1 0
 have hcAm := hA.mem k hk
 have hrun' : (Builtin.append_ #[33, 33] 33 #[v, .slice (some ⟨w.heap.size, 0, none⟩) 1 1]).run Tryz.prog (w.alloc (.cells #[.int .i64 1, .int .u16 k, .int .u8 (m k)] 59)).drew = .ok (.slice (some ⟨g, 0, none⟩) (acc.length + 1) cap) w2 := hrun
 have HRUN := Lib.hid hrun'
 clear hA hRA hrun'
 clear hR hR2 ho hg hat h hB h0 hrun
 go_enter Tryz.func176, Tryz.ntmps176
 go_wp2
 go_region_law (refine step_append_run rfl _ _ 33 _ _ _ rfl rfl rfl HRUN.out ?_)
 all_goals
  go_wp2
  go_ret
  exact ⟨rfl, _, HB.out.1, HB.out.2.ofDrew⟩
set_option maxHeartbeats 2000000 in
theorem fetch_b (h0 : Bus ramC w R M tb v m acc n) (hn : n < 1000000) (a : Int) (a0 : 0 ≤ a) (a1 : a < 65536) :
  Calls Tryz.prog 173 #[.pointer (some ⟨R, 0, none⟩), .int .u16 a] w (BE ramC R M tb v w (.int .u8 (m a)) m (acc ++ [⟨3, a, m a⟩]) (n + 1)) := by
 obtain ⟨k, rfl⟩ := Int.eq_ofNat_of_zero_le a0
 have hk : k < 65536 := by omega
 have h := h0.drew
 obtain ⟨q, hR⟩ := h.ram
 have hc1 : w.drew.cell? ⟨R, 1, none⟩ = some v := hR.2.1 1
 have hc0 : w.drew.cell? ⟨R, 0, none⟩ = some (.slice (some ⟨M, 0, none⟩) 65536 65536) := hR.2.1 0
 have hmk := h.mem k hk
 obtain ⟨g, cap, w2, hrun, ho, hg, hat⟩ := app_new h.own ⟨3, k, m k⟩ (Nat.lt_of_le_of_lt h.len hn)
 have hR2 := (hR.alloc (.cells #[.int .i64 3, .int .u16 k, .int .u8 (m k)] 59)).grown hg (fun e => (h.vr R e).1 rfl)
 have hc2 : w2.cell? ⟨R, 1, none⟩ = some v := hR2.2.1 1
 have hc20 : w2.cell? ⟨R, 0, none⟩ = some (.slice (some ⟨M, 0, none⟩) 65536 65536) := hR2.2.1 0
 have hf2 := hR2.2.2 1
 have hB := h.app 1 (ramC_set M) (ramC_size M) ⟨3, k, m k⟩ (own1 w.drew _) hg ho hat
 have hmk2 := hB.1.mem k hk
 have HB := Lib.hid hB
 have hA := (h0.below (own1 w (.cells #[.int .i64 3, .int .u16 k, .int .u8 (m k)] 59)))
 obtain ⟨q', hRA⟩ := hA.ram
 have hcA1 : (w.alloc (.cells #[.int .i64 3, .int .u16 k, .int .u8 (m k)] 59)).cell? ⟨R, 1, none⟩ = some v := hRA.2.1 1
 have hcA0 : (w.alloc (.cells #[.int .i64 3, .int .u16 k, .int .u8 (m k)] 59)).cell? ⟨R, 0, none⟩ = some (.slice (some ⟨M, 0, none⟩) 65536 65536) := hRA.2.1 0
 have hcAm := hA.mem k hk
 have hrun' : (Builtin.append_ #[33, 33] 33 #[v, .slice (some ⟨w.heap.size, 0, none⟩) 1 1]).run Tryz.prog (w.alloc (.cells #[.int .i64 3, .int .u16 k, .int .u8 (m k)] 59)).drew = .ok (.slice (some ⟨g, 0, none⟩) (acc.length + 1) cap) w2 := hrun
 have HRUN := Lib.hid hrun'
 clear hA hRA hrun'
 clear hR hR2 ho hg hat h hB h0 hrun
 go_enter Tryz.func173, Tryz.ntmps173
 go_wp2
 go_region_law (refine step_append_run rfl _ _ 33 _ _ _ rfl rfl rfl HRUN.out ?_)
 all_goals
  go_wp2
  go_ret
  exact ⟨rfl, _, HB.out.1, HB.out.2.ofDrew⟩
theorem pend_bd (m : Int → Int) (h : ∀ a, 0 ≤ m a ∧ m a < 256) : 0 ≤ pend m ∧ pend m < 32 := by
 unfold pend
 have e := byte_all (P := fun x => 0 ≤ bits .and .u8 x 31 ∧ bits .and .u8 x 31 < 32) (by decide +kernel)
 have h1 := h 65295
 have h2 := h 65535
 have hb : ∀ x y : Int, 0 ≤ x → x < 256 → 0 ≤ y → y < 256 → 0 ≤ bits .and .u8 x y ∧ bits .and .u8 x y < 256 := fun x y a b c d => by
  rw [u8_and x y a b c d]
  have := Nat.and_le_left (n := x.toNat) (m := y.toNat)
  omega
 have h3 := hb _ _ h1.1 h1.2 h2.1 h2.2
 exact e _ h3.1 h3.2
set_option maxHeartbeats 2000000 in
theorem pend_b (h : Bus ramC w R M tb v m acc n) :
  Calls Tryz.prog 175 #[.pointer (some ⟨R, 0, none⟩)] w fun e w' => e = .returned (.int .u8 (pend m)) ∧ w' = w.drew := by
 obtain ⟨q, hR⟩ := h.ram
 have hc0 : w.cell? ⟨R, 0, none⟩ = some (.slice (some ⟨M, 0, none⟩) 65536 65536) := hR.2.1 0
 have h1 : w.cell? ⟨M, 65295, none⟩ = some (.int .u8 (m 65295)) := h.mem 65295 (by decide)
 have h2 : w.cell? ⟨M, 65535, none⟩ = some (.int .u8 (m 65535)) := h.mem 65535 (by decide)
 clear hR h
 go_enter Tryz.func175, Tryz.ntmps175
 go_wp2
 go_still_tail 12, (by kernel_rfl)
 change wpList _ _ _ _ _ w.drew
 go_wp2
 go_ret
 exact ⟨rfl, rfl⟩
theorem andNot (x : Int) (h0 : 0 ≤ x) (h1 : x < 256) (k : Nat) (hk : k < 5) : bits .andNot .u8 x (2 ^ k) = clr x k :=
 byte_all (P := fun x => ∀ k : Fin 5, bits .andNot .u8 x (2 ^ k.val) = clr x k.val) (by decide +kernel) x h0 h1 ⟨k, hk⟩
theorem clr_bd (x : Int) (h0 : 0 ≤ x) (h1 : x < 256) (k : Nat) (hk : k < 8) : 0 ≤ clr x k ∧ clr x k < 256 :=
 byte_all (P := fun x => ∀ k : Fin 8, 0 ≤ clr x k.val ∧ clr x k.val < 256) (by decide +kernel) x h0 h1 ⟨k, hk⟩
set_option maxHeartbeats 2000000 in
theorem ack_b (h0 : Bus ramC w R M tb v m acc n) (k : Nat) (hk : k < 5) :
  Calls Tryz.prog 172 #[.pointer (some ⟨R, 0, none⟩), .int .i64 k] w (BE ramC R M tb v w (.tuple #[]) (ackM k m) acc n) := by
 have h := h0.drew
 obtain ⟨q, hR⟩ := h.ram
 have hc0 : w.drew.cell? ⟨R, 0, none⟩ = some (.slice (some ⟨M, 0, none⟩) 65536 65536) := hR.2.1 0
 have h1 : w.drew.cell? ⟨M, 65295, none⟩ = some (.int .u8 (m 65295)) := h.mem 65295 (by decide)
 have hf : w.drew.frozen? ⟨M, 65295, none⟩ = false := h.free 65295
 have hm := h.okm 65295
 have e := andNot (m 65295) hm.1 hm.2 k hk
 have hb := clr_bd (m 65295) hm.1 hm.2 k (by omega)
 have HP := Lib.hid (h.poke 65295 (by decide) (clr (m 65295) k) hb.1 hb.2)
 have E := Lib.hid e
 have HD := Lib.hid (show BM R M tb v w v w.drew from BM.of (Below.refl _ _).drew)
 clear hR h h0 hm hb e
 have hk' : k = 0 ∨ k = 1 ∨ k = 2 ∨ k = 3 ∨ k = 4 := by omega
 rcases hk' with rfl | rfl | rfl | rfl | rfl
 all_goals
  go_enter Tryz.func172, Tryz.ntmps172
  go_wp2
  go_still_tail 10, (by kernel_rfl)
  change wpList _ _ _ _ _ w.drew
  generalize w.drew = w2 at *
  go_wp2
  go_end0
  first | rw [show bits BinOp.andNot IntKind.u8 (m 65295) 1 = clr (m 65295) 0 from E.out] | rw [show bits BinOp.andNot IntKind.u8 (m 65295) 2 = clr (m 65295) 1 from E.out] | rw [show bits BinOp.andNot IntKind.u8 (m 65295) 4 = clr (m 65295) 2 from E.out] | rw [show bits BinOp.andNot IntKind.u8 (m 65295) 8 = clr (m 65295) 3 from E.out] | rw [show bits BinOp.andNot IntKind.u8 (m 65295) 16 = clr (m 65295) 4 from E.out]
  exact ⟨rfl, _, HP.out.1, HD.out.trans HP.out.2⟩
end
end Go.Proofs.YtngdogldgcgnjaaGreat
