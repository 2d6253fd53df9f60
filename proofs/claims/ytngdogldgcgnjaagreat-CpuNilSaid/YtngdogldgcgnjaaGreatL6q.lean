/-
  CpuCycles as plain data: what an order adds to the accesses; the lower four bits of F stay 0; a step takes one to six cycles, and the first ones fetch: for every state; its condition where told: no access yet, bytes that are bytes, the lower bits of F that were 0.
-/
import Derived.Test.YtngdogldgcgnjaaGreatPure
namespace Go.Proofs.YtngdogldgcgnjaaGreat
open Go.ChangeShapes Go.WideShapes Go.ChangeAt Go.RowKit
open Reg
open Alu hiding decF
set_option linter.unusedVariables false
/-- y' has at most n accesses more than y, none of which fetches. -/
def Ext (n : Nat) (y y' : Sy) : Prop := ∃ L : List Ac, y'.acc = y.acc ++ L ∧ (∀ x, x ∈ L → x.k ≠ 3) ∧ L.length ≤ n
theorem Ext.same {n : Nat} {y y' : Sy} (h : y'.acc = y.acc) : Ext n y y' := ⟨[], by rw [h, List.append_nil], fun _ hx => absurd hx List.not_mem_nil, Nat.zero_le _⟩
theorem Ext.mono {n m : Nat} {y y' : Sy} (h : Ext n y y') (hm : n ≤ m) : Ext m y y' := by obtain ⟨L, h1, h2, h3⟩ := h; exact ⟨L, h1, h2, by omega⟩
theorem Ext.trans {n m : Nat} {y y1 y2 : Sy} (h : Ext n y y1) (k : Ext m y1 y2) : Ext (n + m) y y2 := by
 obtain ⟨L, h1, h2, h3⟩ := h
 obtain ⟨K, k1, k2, k3⟩ := k
 refine ⟨L ++ K, by rw [k1, h1, List.append_assoc], fun x hx => ?_, by rw [List.length_append]; omega⟩
 rcases List.mem_append.1 hx with hx | hx
 ·exact h2 x hx
 ·exact k2 x hx
theorem Ext.one {y y' : Sy} (c : Ac) (h : y'.acc = y.acc ++ [c]) (hk : c.k ≠ 3) : Ext 1 y y' := ⟨[c], h, fun x hx => by rw [List.mem_singleton.1 hx]; exact hk, Nat.le_refl _⟩
theorem Ext.rd (a : Int) (y : Sy) : Ext 1 y (rd 1 a y) := .one _ rfl (by show (1 : Int) ≠ 3; decide)
theorem Ext.wr (a x : Int) (y : Sy) : Ext 1 y (wr a x y) := .one _ rfl (by show (2 : Int) ≠ 3; decide)
theorem Ext.idle (y : Sy) : Ext 1 y (idle y) := .one _ rfl (by show (0 : Int) ≠ 3; decide)
theorem Ext.getS (n : Int) (y : Sy) : Ext 1 y (getS n y) := by
 unfold Go.Proofs.YtngdogldgcgnjaaGreat.getS; split
 ·exact .rd _ _
 ·exact .same rfl
theorem Ext.putS (n x : Int) (y : Sy) : Ext 1 y (putS n x y) := by
 unfold Go.Proofs.YtngdogldgcgnjaaGreat.putS; split
 ·exact .wr _ _ _
 ·exact .same rfl
theorem Ext.storeS (x : Int) (y : Sy) : Ext 2 y (storeS x y) :=
 Ext.trans (n := 1) (m := 1) (y1 := Go.Proofs.YtngdogldgcgnjaaGreat.wr (dn y.s.r.sp) (x / 256) (setSP (dn y.s.r.sp) y)) (.one _ rfl (by show (2 : Int) ≠ 3; decide)) (.one _ rfl (by show (2 : Int) ≠ 3; decide))
theorem Ext.pushS (x : Int) (y : Sy) : Ext 3 y (pushS x y) := Ext.trans (n := 1) (m := 2) (.idle y) (.storeS x _)
theorem Ext.popS (y : Sy) : Ext 2 y (popS y) :=
 Ext.trans (n := 1) (m := 1) (y1 := setSP (up y.s.r.sp) (Go.Proofs.YtngdogldgcgnjaaGreat.rd 1 y.s.r.sp y)) (.one _ rfl (by show (1 : Int) ≠ 3; decide)) (.one _ rfl (by show (1 : Int) ≠ 3; decide))
theorem Ext.leaveS (y : Sy) : Ext 3 y (leaveS y) := Ext.trans (n := 2) (m := 1) (y1 := setPC (popV y) (Go.Proofs.YtngdogldgcgnjaaGreat.popS y)) (Ext.trans (n := 2) (m := 0) (.popS y) (.same rfl)) (.idle _)
theorem Ext.thruS (x : Int) (y : Sy) : (thruS x y).acc = y.acc := by
 unfold Go.Proofs.YtngdogldgcgnjaaGreat.thruS; split
 ·rfl
 ·split <;> rfl
theorem Ext.enterS (x : Int) (y : Sy) : Ext 3 y (enterS x y) := Ext.trans (n := 3) (m := 0) (.pushS _ y) (.same rfl)
theorem done26 (x z sz n : Int) (t : Bool) (y : Sy) : doneS ⟨26, x, z, sz, n⟩ t y = (bif t then leaveS (bif x == 4 then y else idle y) else (bif x == 4 then y else idle y)) := by kernel_rfl
/-- What an order adds: at most four accesses, and four of a return alone; none of them fetches. -/
theorem done_ext (o : OpV) (t : Bool) (y : Sy) : Ext (if o.k = 26 then 4 else 3) y (doneS o t y) := by
 have gp : ∀ (a b x : Int) (z : Sy → Sy), (∀ u, (z u).acc = u.acc) → Ext 2 y (putS a x (z (getS b y))) := fun a b x z hz => Ext.trans (n := 1) (m := 1) (Ext.trans (n := 1) (m := 0) (.getS b y) (.same (hz _))) (.putS a x _)
 have f0 : ∀ {n : Nat} {u u' : Sy} (x : Int), Ext n u u' → Ext n u (setF x u') := fun x h => Ext.trans (m := 0) h (.same rfl)
 by_cases h26 : o.k = 26
 ·rw [if_pos h26]
  have e : doneS o t y = (bif t then leaveS (bif o.x == 4 then y else idle y) else (bif o.x == 4 then y else idle y)) := by
   obtain ⟨k, x, z, sz, n⟩ := o
   have hk : k = 26 := h26
   subst hk
   exact done26 x z sz n t y
  rw [e]
  cases t with
  | true =>
   cases hx : o.x == 4 with
   | true => exact (Ext.leaveS y).mono (by omega)
   | false => exact Ext.trans (n := 1) (m := 3) (.idle y) (.leaveS _)
  | false =>
   cases hx : o.x == 4 with
   | true => exact .same rfl
   | false => exact (Ext.idle y).mono (by omega)
 ·rw [if_neg h26]
  unfold doneS
  by_cases h2 : o.k = 2
  ·rw [if_pos h2]
   exact .same rfl
  rw [if_neg h2]
  by_cases h3 : o.k = 3
  ·rw [if_pos h3]
   exact .same rfl
  rw [if_neg h3]
  by_cases h4 : o.k = 4
  ·rw [if_pos h4]
   exact .same rfl
  rw [if_neg h4]
  by_cases h5 : o.k = 5
  ·rw [if_pos h5]
   exact .same rfl
  rw [if_neg h5]
  by_cases h6 : o.k = 6
  ·rw [if_pos h6]
   exact .same rfl
  rw [if_neg h6]
  by_cases h7 : o.k = 7
  ·rw [if_pos h7]
   exact (gp o.x o.y _ id (fun _ => rfl)).mono (by omega)
  rw [if_neg h7]
  by_cases h8 : o.k = 8
  ·rw [if_pos h8]
   exact (Ext.putS _ _ y).mono (by omega)
  rw [if_neg h8]
  by_cases h9 : o.k = 9
  ·rw [if_pos h9]
   exact .same rfl
  rw [if_neg h9]
  by_cases h10 : o.k = 10
  ·rw [if_pos h10]
   exact (Ext.trans (n := 1) (m := 0) (.getS o.y y) (.same rfl)).mono (by omega)
  rw [if_neg h10]
  by_cases h11 : o.k = 11
  ·rw [if_pos h11]
   exact .same rfl
  rw [if_neg h11]
  by_cases h12 : o.k = 12
  ·rw [if_pos h12]
   exact (f0 _ (gp o.x o.x _ id (fun _ => rfl))).mono (by omega)
  rw [if_neg h12]
  by_cases h13 : o.k = 13
  ·rw [if_pos h13]
   exact (f0 _ (gp o.x o.x _ id (fun _ => rfl))).mono (by omega)
  rw [if_neg h13]
  by_cases h14 : o.k = 14
  ·rw [if_pos h14]
   exact (Ext.trans (n := 1) (m := 0) (.idle y) (.same rfl)).mono (by omega)
  rw [if_neg h14]
  by_cases h15 : o.k = 15
  ·rw [if_pos h15]
   exact (Ext.trans (n := 1) (m := 0) (.idle y) (.same rfl)).mono (by omega)
  rw [if_neg h15]
  by_cases h16 : o.k = 16
  ·rw [if_pos h16]
   exact (Ext.trans (n := 1) (m := 0) (.idle y) (.same rfl)).mono (by omega)
  rw [if_neg h16]
  by_cases h17 : o.k = 17
  ·rw [if_pos h17]
   exact (gp o.y o.y _ (setF _) (fun _ => rfl)).mono (by omega)
  rw [if_neg h17]
  by_cases h18 : o.k = 18
  ·rw [if_pos h18]
   exact .same rfl
  rw [if_neg h18]
  by_cases h19 : o.k = 19
  ·rw [if_pos h19]
   exact .same rfl
  rw [if_neg h19]
  by_cases h20 : o.k = 20
  ·rw [if_pos h20]
   exact .same rfl
  rw [if_neg h20]
  by_cases h21 : o.k = 21
  ·rw [if_pos h21]
   exact .same rfl
  rw [if_neg h21]
  by_cases h22 : o.k = 22
  ·rw [if_pos h22]
   exact .same rfl
  rw [if_neg h22]
  by_cases h23 : o.k = 23
  ·rw [if_pos h23]
   cases t with
   | true => exact (Ext.trans (n := 1) (m := 0) (.idle y) (.same rfl)).mono (by omega)
   | false => exact .same rfl
  rw [if_neg h23]
  by_cases h24 : o.k = 24
  ·rw [if_pos h24]
   cases t with
   | true => exact (Ext.trans (n := 1) (m := 0) (.idle y) (.same rfl)).mono (by omega)
   | false => exact .same rfl
  rw [if_neg h24]
  by_cases h25 : o.k = 25
  ·rw [if_pos h25]
   cases t with
   | true => exact .enterS _ y
   | false => exact .same rfl
  rw [if_neg h25]
  rw [if_neg h26]
  by_cases h27 : o.k = 27
  ·rw [if_pos h27]
   exact Ext.trans (n := 3) (m := 0) (.leaveS y) (.same rfl)
  rw [if_neg h27]
  by_cases h28 : o.k = 28
  ·rw [if_pos h28]
   exact .enterS _ y
  rw [if_neg h28]
  by_cases h29 : o.k = 29
  ·rw [if_pos h29]
   exact .same rfl
  rw [if_neg h29]
  by_cases h30 : o.k = 30
  ·rw [if_pos h30]
   exact .pushS _ y
  rw [if_neg h30]
  by_cases h31 : o.k = 31
  ·rw [if_pos h31]
   exact (Ext.trans (n := 2) (m := 0) (.popS y) (.same rfl)).mono (by omega)
  rw [if_neg h31]
  by_cases h32 : o.k = 32
  ·rw [if_pos h32]
   exact (Ext.trans (n := 1) (m := 0) (Ext.trans (n := 0) (m := 1) (.same (Ext.thruS o.x y)) (.rd _ _)) (.same rfl)).mono (by omega)
  rw [if_neg h32]
  by_cases h33 : o.k = 33
  ·rw [if_pos h33]
   exact (Ext.trans (n := 0) (m := 1) (.same (Ext.thruS o.x y)) (.wr _ _ _)).mono (by omega)
  rw [if_neg h33]
  by_cases h34 : o.k = 34
  ·rw [if_pos h34]
   exact (Ext.trans (n := 1) (m := 0) (.rd _ y) (.same rfl)).mono (by omega)
  rw [if_neg h34]
  by_cases h35 : o.k = 35
  ·rw [if_pos h35]
   exact (Ext.wr _ _ y).mono (by omega)
  rw [if_neg h35]
  by_cases h36 : o.k = 36
  ·rw [if_pos h36]
   exact (Ext.trans (n := 1) (m := 0) (.rd _ y) (.same rfl)).mono (by omega)
  rw [if_neg h36]
  by_cases h37 : o.k = 37
  ·rw [if_pos h37]
   exact (Ext.wr _ _ y).mono (by omega)
  rw [if_neg h37]
  by_cases h38 : o.k = 38
  ·rw [if_pos h38]
   exact (Ext.trans (n := 1) (m := 0) (.rd _ y) (.same rfl)).mono (by omega)
  rw [if_neg h38]
  by_cases h39 : o.k = 39
  ·rw [if_pos h39]
   exact (Ext.wr _ _ y).mono (by omega)
  rw [if_neg h39]
  by_cases h40 : o.k = 40
  ·rw [if_pos h40]
   exact (Ext.trans (n := 1) (m := 1) (.wr _ _ y) (.wr _ _ _)).mono (by omega)
  rw [if_neg h40]
  by_cases h41 : o.k = 41
  ·rw [if_pos h41]
   exact (Ext.trans (n := 2) (m := 0) (Ext.trans (n := 1) (m := 1) (.idle y) (.idle _)) (.same rfl)).mono (by omega)
  rw [if_neg h41]
  by_cases h42 : o.k = 42
  ·rw [if_pos h42]
   exact (Ext.trans (n := 1) (m := 0) (.idle y) (.same rfl)).mono (by omega)
  rw [if_neg h42]
  by_cases h43 : o.k = 43
  ·rw [if_pos h43]
   exact (Ext.trans (n := 1) (m := 0) (.idle y) (.same rfl)).mono (by omega)
  rw [if_neg h43]
  by_cases h44 : o.k = 44
  ·rw [if_pos h44]
   exact (Ext.trans (n := 1) (m := 0) (.getS o.y y) (.same rfl)).mono (by omega)
  rw [if_neg h44]
  by_cases h45 : o.k = 45
  ·rw [if_pos h45]
   exact (gp o.y o.y _ id (fun _ => rfl)).mono (by omega)
  rw [if_neg h45]
  by_cases h46 : o.k = 46
  ·rw [if_pos h46]
   exact (gp o.y o.y _ id (fun _ => rfl)).mono (by omega)
  rw [if_neg h46]
  exact .same rfl
/-- What fetching n bytes adds: n fetches, one behind the other, from the PC on. -/
theorem fetchN_acc : ∀ (n : Nat) (y : Sy), (fetchN n y).acc = y.acc ++ (List.range n).map (fun i => ⟨3, (fetchN i y).s.r.pc, y.m ((fetchN i y).s.r.pc)⟩) ∧ (fetchN n y).m = y.m
 | 0, y => by simp [fetchN]
 | n + 1, y => by
  obtain ⟨h1, h2⟩ := fetchN_acc n (fetch1 y)
  refine ⟨?_, h2⟩
  show (fetchN n (fetch1 y)).acc = _
  rw [h1, List.range_succ_eq_map, List.map_cons, List.map_map]
  show (y.acc ++ [⟨3, y.s.r.pc, y.m y.s.r.pc⟩]) ++ _ = _
  rw [List.append_assoc]
  rfl
theorem fetchN_pc : ∀ (n : Nat) (y : Sy), 0 ≤ y.s.r.pc → y.s.r.pc < 65536 → (fetchN n y).s.r.pc = (y.s.r.pc + n) % 65536
 | 0, y, h0, h1 => by show y.s.r.pc = _; simp; omega
 | n + 1, y, h0, h1 => by
  have e : (fetch1 y).s.r.pc = (y.s.r.pc + 1) % 65536 := rfl
  have q := fetchN_pc n (fetch1 y) (by rw [e]; omega) (by rw [e]; omega)
  show (fetchN n (fetch1 y)).s.r.pc = _
  rw [q, e]
  omega
def Fz (y : Sy) : Prop := y.s.r.f % 16 = 0
theorem fl16 (c : Bool) : fl 16 c % 16 = 0 := by cases c <;> decide
theorem FL16 (z n h c : Bool) : FL z n h c % 16 = 0 := by cases z <;> cases n <;> cases h <;> cases c <;> decide
theorem sum16 (k a x f : Int) (c : Bool) (h : f % 16 = 0) : sumF k a x f c % 16 = 0 := by
 unfold sumF
 split; exact FL16 _ _ _ _
 split; exact FL16 _ _ _ _
 split; exact FL16 _ _ _ _
 split; exact FL16 _ _ _ _
 split; exact FL16 _ _ _ _
 split; exact FL16 _ _ _ _
 split; exact FL16 _ _ _ _
 split; exact FL16 _ _ _ _
 exact h
theorem setR16 (r : RR) (n x : Int) (h : r.f % 16 = 0) : (setR r n x).f % 16 = 0 := by
 unfold setR
 split; exact h
 split; exact h
 split; exact h
 split; exact h
 split; exact h
 split; exact h
 split; exact h
 decide
theorem setP16 (r : RR) (n x : Int) (h : r.f % 16 = 0) : (setP r n x).f % 16 = 0 := by
 unfold setP
 split; exact h
 split; exact h
 split; exact h
 split; exact h
 split; exact Int.mul_emod_left _ _
 decide
theorem Fz.getS {y : Sy} (n : Int) (h : Fz y) : Fz (getS n y) := by
 unfold Go.Proofs.YtngdogldgcgnjaaGreat.getS; split <;> exact h
theorem Fz.putS {y : Sy} (n x : Int) (h : Fz y) : Fz (putS n x y) := by
 unfold Go.Proofs.YtngdogldgcgnjaaGreat.putS; split
 ·exact h
 ·exact setR16 _ _ _ h
theorem Fz.pairS {y : Sy} (n x : Int) (h : Fz y) : Fz (pairS n x y) := setP16 _ _ _ h
theorem Fz.thruS {y : Sy} (x : Int) (h : Fz y) : Fz (thruS x y) := by
 unfold Go.Proofs.YtngdogldgcgnjaaGreat.thruS; split
 ·exact .pairS _ _ h
 ·split
  ·exact .pairS _ _ h
  ·exact h
theorem Fz.done (o : OpV) (t : Bool) {y : Sy} (h : Fz y) : Fz (doneS o t y) := by
 unfold doneS
 by_cases h2 : o.k = 2
 ·rw [if_pos h2]
  exact h
 rw [if_neg h2]
 by_cases h3 : o.k = 3
 ·rw [if_pos h3]
  exact h
 rw [if_neg h3]
 by_cases h4 : o.k = 4
 ·rw [if_pos h4]
  exact h
 rw [if_neg h4]
 by_cases h5 : o.k = 5
 ·rw [if_pos h5]
  exact h
 rw [if_neg h5]
 by_cases h6 : o.k = 6
 ·rw [if_pos h6]
  exact h
 rw [if_neg h6]
 by_cases h7 : o.k = 7
 ·rw [if_pos h7]
  exact Fz.putS _ _ (Fz.getS _ h)
 rw [if_neg h7]
 by_cases h8 : o.k = 8
 ·rw [if_pos h8]
  exact Fz.putS _ _ h
 rw [if_neg h8]
 by_cases h9 : o.k = 9
 ·rw [if_pos h9]
  exact Fz.pairS _ _ h
 rw [if_neg h9]
 by_cases h10 : o.k = 10
 ·rw [if_pos h10]
  exact sum16 _ _ _ _ _ (Fz.getS o.y h)
 rw [if_neg h10]
 by_cases h11 : o.k = 11
 ·rw [if_pos h11]
  exact sum16 _ _ _ _ _ h
 rw [if_neg h11]
 by_cases h12 : o.k = 12
 ·rw [if_pos h12]
  exact FL16 _ _ _ _
 rw [if_neg h12]
 by_cases h13 : o.k = 13
 ·rw [if_pos h13]
  exact FL16 _ _ _ _
 rw [if_neg h13]
 by_cases h14 : o.k = 14
 ·rw [if_pos h14]
  exact Fz.pairS _ _ h
 rw [if_neg h14]
 by_cases h15 : o.k = 15
 ·rw [if_pos h15]
  exact Fz.pairS _ _ h
 rw [if_neg h15]
 by_cases h16 : o.k = 16
 ·rw [if_pos h16]
  exact FL16 _ _ _ _
 rw [if_neg h16]
 by_cases h17 : o.k = 17
 ·rw [if_pos h17]
  exact Fz.putS _ _ (FL16 _ _ _ _)
 rw [if_neg h17]
 by_cases h18 : o.k = 18
 ·rw [if_pos h18]
  exact fl16 _
 rw [if_neg h18]
 by_cases h19 : o.k = 19
 ·rw [if_pos h19]
  exact FL16 _ _ _ _
 rw [if_neg h19]
 by_cases h20 : o.k = 20
 ·rw [if_pos h20]
  exact FL16 _ _ _ _
 rw [if_neg h20]
 by_cases h21 : o.k = 21
 ·rw [if_pos h21]
  exact FL16 _ _ _ _
 rw [if_neg h21]
 by_cases h22 : o.k = 22
 ·rw [if_pos h22]
  exact FL16 _ _ _ _
 rw [if_neg h22]
 by_cases h23 : o.k = 23
 ·rw [if_pos h23]
  cases t <;> exact h
 rw [if_neg h23]
 by_cases h24 : o.k = 24
 ·rw [if_pos h24]
  cases t <;> exact h
 rw [if_neg h24]
 by_cases h25 : o.k = 25
 ·rw [if_pos h25]
  cases t <;> exact h
 rw [if_neg h25]
 by_cases h26 : o.k = 26
 ·rw [if_pos h26]
  cases t <;> cases o.x == 4 <;> exact h
 rw [if_neg h26]
 by_cases h27 : o.k = 27
 ·rw [if_pos h27]
  exact h
 rw [if_neg h27]
 by_cases h28 : o.k = 28
 ·rw [if_pos h28]
  exact h
 rw [if_neg h28]
 by_cases h29 : o.k = 29
 ·rw [if_pos h29]
  exact h
 rw [if_neg h29]
 by_cases h30 : o.k = 30
 ·rw [if_pos h30]
  exact h
 rw [if_neg h30]
 by_cases h31 : o.k = 31
 ·rw [if_pos h31]
  exact Fz.pairS _ _ h
 rw [if_neg h31]
 by_cases h32 : o.k = 32
 ·rw [if_pos h32]
  exact Fz.thruS _ h
 rw [if_neg h32]
 by_cases h33 : o.k = 33
 ·rw [if_pos h33]
  exact Fz.thruS _ h
 rw [if_neg h33]
 by_cases h34 : o.k = 34
 ·rw [if_pos h34]
  exact h
 rw [if_neg h34]
 by_cases h35 : o.k = 35
 ·rw [if_pos h35]
  exact h
 rw [if_neg h35]
 by_cases h36 : o.k = 36
 ·rw [if_pos h36]
  exact h
 rw [if_neg h36]
 by_cases h37 : o.k = 37
 ·rw [if_pos h37]
  exact h
 rw [if_neg h37]
 by_cases h38 : o.k = 38
 ·rw [if_pos h38]
  exact h
 rw [if_neg h38]
 by_cases h39 : o.k = 39
 ·rw [if_pos h39]
  exact h
 rw [if_neg h39]
 by_cases h40 : o.k = 40
 ·rw [if_pos h40]
  exact h
 rw [if_neg h40]
 by_cases h41 : o.k = 41
 ·rw [if_pos h41]
  exact FL16 _ _ _ _
 rw [if_neg h41]
 by_cases h42 : o.k = 42
 ·rw [if_pos h42]
  exact FL16 _ _ _ _
 rw [if_neg h42]
 by_cases h43 : o.k = 43
 ·rw [if_pos h43]
  exact h
 rw [if_neg h43]
 by_cases h44 : o.k = 44
 ·rw [if_pos h44]
  exact FL16 _ _ _ _
 rw [if_neg h44]
 by_cases h45 : o.k = 45
 ·rw [if_pos h45]
  exact Fz.putS _ _ (Fz.getS _ h)
 rw [if_neg h45]
 by_cases h46 : o.k = 46
 ·rw [if_pos h46]
  exact Fz.putS _ _ (Fz.getS _ h)
 rw [if_neg h46]
 exact h
theorem Fz.fetchN : ∀ (n : Nat) {y : Sy}, Fz y → Fz (fetchN n y)
 | 0, _, h => h
 | n + 1, y, h => Fz.fetchN n (y := fetch1 y) h
/-- A step keeps the lower four bits of F 0. -/
theorem Fz.step {y : Sy} (h : Fz y) : Fz (stepS y) := by
 unfold stepS
 split
 ·split <;> exact h
 ·split
  ·exact h
  ·split
   ·exact h
   ·exact Fz.done _ _ (Fz.fetchN _ (y := setHalt false y) h)
theorem pf_s : ∀ n : Fin 256, (pfT n.val).s = 2 ∧ (pfT n.val).k ≠ 26 := by decide +kernel
theorem pl_s : ∀ n : Fin 256, 1 ≤ (plT n.val).s ∧ (plT n.val).s ≤ 3 ∧ ((plT n.val).k = 26 → (plT n.val).s = 1) := by decide +kernel
theorem decN_s (r : OpV) (b c : Nat) : (decN r b c).s = r.s ∧ (decN r b c).k = r.k := by
 unfold decN
 by_cases h2 : r.s = 2
 ·rw [if_pos h2]; exact ⟨rfl, rfl⟩
 ·rw [if_neg h2]
  by_cases h3 : r.s = 3
  ·rw [if_pos h3]; exact ⟨rfl, rfl⟩
  ·rw [if_neg h3]; exact ⟨rfl, rfl⟩
/-- An order's size hangs on its first byte alone. -/
theorem dec_s (a b c : Nat) (ha : a < 256) (hb : b < 256) : (decF a b c).s = (decF a 0 0).s ∧ 1 ≤ (decF a 0 0).s ∧ (decF a 0 0).s ≤ 3 ∧ ((decF a b c).k = 26 → (decF a 0 0).s = 1) := by
 unfold decF
 by_cases h : a = 203
 ·rw [if_pos h, if_pos h]
  have h1 := pf_s ⟨b, hb⟩
  have h2 := pf_s ⟨0, by decide⟩
  dsimp only at h1 h2
  rw [h1.1, h2.1]
  exact ⟨rfl, by decide, by decide, fun e => absurd e h1.2⟩
 ·rw [if_neg h, if_neg h, (decN_s _ b c).1, (decN_s _ 0 0).1, (decN_s _ b c).2]
  have h1 := pl_s ⟨a, ha⟩
  dsimp only at h1
  exact ⟨rfl, h1.1, h1.2.1, h1.2.2⟩
/-- What CpuCycles asks of a step. -/
def Cyc (y y1 : Sy) (D : DidV) : Prop := 1 ≤ y1.acc.length ∧ y1.acc.length ≤ 6 ∧ ∀ (i : Nat) (x : Ac), y1.acc[i]? = some x → (x.k = 3 ↔ D.what = 1 ∧ (i : Int) < D.o.s) ∧ (x.k = 3 → x.a = (y.s.r.pc + i) % 65536)
theorem cyc_idle (y y1 : Sy) (D : DidV) (h : y1.acc = [⟨0, 0, 0⟩]) (hD : D.what ≠ 1) : Cyc y y1 D := by
 refine ⟨by rw [h]; decide, by rw [h]; decide, fun i x hx => ?_⟩
 rw [h] at hx
 match i, hx with
 | 0, hx =>
  have e : (⟨0, 0, 0⟩ : Ac) = x := by simpa using hx
  subst e
  exact ⟨⟨fun e => absurd e (by show ¬ (0 : Int) = 3; decide), fun e => absurd e.1 hD⟩, fun e => absurd e (by show ¬ (0 : Int) = 3; decide)⟩
 | i + 1, hx => simp at hx
theorem cyc_none (y y1 : Sy) (D : DidV) (hD : D.what ≠ 1) (h1 : 1 ≤ y1.acc.length) (h6 : y1.acc.length ≤ 6) (h : ∀ x, x ∈ y1.acc → x.k ≠ 3) : Cyc y y1 D :=
 ⟨h1, h6, fun i x hx => ⟨⟨fun e => absurd e (h x (List.mem_of_getElem? hx)), fun e => absurd e.1 hD⟩, fun e => absurd e (h x (List.mem_of_getElem? hx))⟩⟩
theorem cyc_run (y y2 y1 : Sy) (D : DidV) (n : Nat) (ha : y.acc = []) (h0 : 0 ≤ y.s.r.pc) (h1 : y.s.r.pc < 65536) (n1 : 1 ≤ n) (e2 : y2.acc = (fetchN n y).acc) (hD : D.what = 1) (hs : D.o.s = n) (m : Nat) (hm : n + m ≤ 6) (hx : Ext m y2 y1) : Cyc y y1 D := by
 obtain ⟨L, hL, hk, hl⟩ := hx
 have hf := (fetchN_acc n y).1
 rw [ha, List.nil_append] at hf
 have e : y1.acc = (List.range n).map (fun i => (⟨3, (fetchN i y).s.r.pc, y.m ((fetchN i y).s.r.pc)⟩ : Ac)) ++ L := by rw [hL, e2, hf]
 have ll : y1.acc.length = n + L.length := by rw [e, List.length_append, List.length_map, List.length_range]
 refine ⟨by omega, by omega, fun i x hi => ?_⟩
 rw [e] at hi
 rw [hD, hs]
 by_cases hlt : i < n
 ·rw [List.getElem?_append_left (by simpa using hlt)] at hi
  simp [hlt] at hi
  subst hi
  exact ⟨⟨fun _ => ⟨rfl, by omega⟩, fun _ => rfl⟩, fun _ => fetchN_pc i y h0 h1⟩
 ·rw [List.getElem?_append_right (by simp; omega)] at hi
  have hne := hk x (List.mem_of_getElem? hi)
  exact ⟨⟨fun q => absurd q hne, fun q => absurd q.2 (by omega)⟩, fun q => absurd q hne⟩
theorem inter_acc (k : Nat) (s : St) (m : Int → Int) : (interS k ⟨s, m, []⟩).acc.length = 5 ∧ ∀ x, x ∈ (interS k ⟨s, m, []⟩).acc → x.k ≠ 3 := by
 constructor
 ·rfl
 ·intro x hx
  have hx' : x ∈ [(⟨0, 0, 0⟩ : Ac), ⟨0, 0, 0⟩, ⟨2, dn s.r.sp, s.r.pc / 256⟩, ⟨2, dn (dn s.r.sp), s.r.pc % 256⟩, ⟨0, 0, 0⟩] := hx
  simp at hx'
  rcases hx' with rfl | rfl | rfl | rfl
  ·show (0 : Int) ≠ 3; decide
  ·show (2 : Int) ≠ 3; decide
  ·show (2 : Int) ≠ 3; decide
  ·show (0 : Int) ≠ 3; decide
/-- A step takes one to six cycles; the first ones fetch. -/
theorem cyc (s : St) (m : Int → Int) (h0 : 0 ≤ s.r.pc) (h1 : s.r.pc < 65536) (hm : ∀ a, 0 ≤ m a ∧ m a < 256) : Cyc ⟨s, m, []⟩ (stepS ⟨s, m, []⟩) (stepD ⟨s, m, []⟩) ∧ (stepD ⟨s, m, []⟩).at' = s.r.pc := by
 have p0 : Cyc ⟨s, m, []⟩ (stepS ⟨s, m, []⟩) (stepD ⟨s, m, []⟩) := by
  unfold stepS stepD
  by_cases hst : s.stop = true
  ·rw [if_pos hst, if_pos hst]
   refine cyc_idle _ _ _ ?_ (by show (0 : Int) ≠ 1; decide)
   split <;> rfl
  ·rw [if_neg hst, if_neg hst]
   by_cases hh : (s.halt && pend m == 0) = true
   ·rw [if_pos hh, if_pos hh]
    exact cyc_idle _ _ _ rfl (by show (0 : Int) ≠ 1; decide)
   ·rw [if_neg hh, if_neg hh]
    by_cases hi : (s.ime && pend m != 0) = true
    ·rw [if_pos hi, if_pos hi]
     have q := inter_acc (lowV (pend m)) { s with halt := false } m
     exact cyc_none _ _ _ (by show (2 : Int) ≠ 1; decide) (by rw [show (interS (lowV (pend m)) (setHalt false ⟨s, m, []⟩)).acc.length = 5 from q.1]; decide) (by rw [show (interS (lowV (pend m)) (setHalt false ⟨s, m, []⟩)).acc.length = 5 from q.1]; decide) q.2
    ·rw [if_neg hi, if_neg hi]
     have b0 := hm ((s.r.pc + (0 : Nat)) % 65536)
     have b1 := hm ((s.r.pc + (1 : Nat)) % 65536)
     have bb : (if 2 ≤ szV (byteV 0 ⟨s, m, []⟩) then (byteV 1 ⟨s, m, []⟩).toNat else 0) < 256 := by
      split
      ·show (m ((s.r.pc + (1 : Nat)) % 65536)).toNat < 256; omega
      ·decide
     have d := dec_s (byteV 0 ⟨s, m, []⟩).toNat (if 2 ≤ szV (byteV 0 ⟨s, m, []⟩) then (byteV 1 ⟨s, m, []⟩).toNat else 0) (if 3 ≤ szV (byteV 0 ⟨s, m, []⟩) then (byteV 2 ⟨s, m, []⟩).toNat else 0) (by show (m ((s.r.pc + (0 : Nat)) % 65536)).toNat < 256; omega) bb
     have d1 : (opV ⟨s, m, []⟩).s = szV (byteV 0 ⟨s, m, []⟩) := d.1
     have d2 : 1 ≤ szV (byteV 0 ⟨s, m, []⟩) := d.2.1
     have d3 : szV (byteV 0 ⟨s, m, []⟩) ≤ 3 := d.2.2.1
     have d4 : (opV ⟨s, m, []⟩).k = 26 → szV (byteV 0 ⟨s, m, []⟩) = 1 := d.2.2.2
     have x := done_ext (opV ⟨s, m, []⟩) (takenV (opV (setHalt false ⟨s, m, []⟩)) (fetchS (setHalt false ⟨s, m, []⟩))) (setSoon false (setIme (s.ime || s.soon) (fetchS (setHalt false ⟨s, m, []⟩))))
     refine cyc_run (setHalt false ⟨s, m, []⟩) (setSoon false (setIme (s.ime || s.soon) (fetchS (setHalt false ⟨s, m, []⟩)))) _ _ (szV (byteV 0 ⟨s, m, []⟩)).toNat rfl h0 h1 (by omega) rfl rfl (by show (opV ⟨s, m, []⟩).s = _; rw [d1]; omega) (if (opV ⟨s, m, []⟩).k = 26 then 4 else 3) ?_ x
     by_cases h26 : (opV ⟨s, m, []⟩).k = 26
     ·rw [if_pos h26]; have := d4 h26; omega
     ·rw [if_neg h26]; omega
 refine ⟨p0, ?_⟩
 unfold stepD
 by_cases hst : s.stop = true
 ·rw [if_pos hst]
 ·rw [if_neg hst]
  by_cases hh : (s.halt && pend m == 0) = true
  ·rw [if_pos hh]
  ·rw [if_neg hh]
   by_cases hi : (s.ime && pend m != 0) = true
   ·rw [if_pos hi]
   ·rw [if_neg hi]
end Go.Proofs.YtngdogldgcgnjaaGreat
