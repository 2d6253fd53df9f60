/-
  The walk through SpritesNone: for every memory, sprite memory, look, line and colours below.
-/
import Derived.Test.YtiekojnhkemjlaaLnp
import Derived.Test.YtiekojnhkemjlaaUnd
import Derived.Test.YtiekojnhkemjlaaOpn
import Derived.Test.YtiekojnhkemjlaaUpr
import Derived.Deep.Cut
import Derived.BigQuiet
import Derived.WalkSmall
import Derived.Deep.LoopGhost
import Derived.Deep.DeepCutAuto
import Derived.Deep.CutBlock
namespace Go.Proofs.Ytiekojnhkemjlaa
open Go.ChangeShapes Go.WideShapes Go.ChangeAt Go.RowKit
set_option linter.unusedVariables false
set_option linter.unusedSimpArgs false
set_option maxRecDepth 100000
/-- One byte of a block is stored. -/
theorem store_c {ops : Array Oper} {rest : List Oper} {op : Oper} {a : Act} {w : World} {Q : Exit → Act → World → Prop} {b : Nat} {A : Array Value} (h : Has w b A)
    (hgd : op.guard = none) (x y : Operand) (ho : op.op = .store 5 x y) (o : Nat) (hx : a.eval x = .pointer (some ⟨b, o, none⟩)) (z old : Int) (hy : a.eval y = .int .u8 z) (hc : A[o]? = some (.int .u8 old)) (A2 : Array Value) (hA : A.setIfInBounds o (.int .u8 z) = A2)
    (hK : ∀ w', Has w' b A2 → Keeps b w w' → wpList Try.prog ops Q rest (a.put op.dst undef) w') : wpList Try.prog ops Q (op :: rest) a w := by
  have ho2 : o < A.size := by
    by_cases h : o < A.size
    · exact h
    · rw [Array.getElem?_eq_none (by omega)] at hc; cases hc
  have hP := h.set o (.int .u8 z) ho2
  rw [hA] at hP
  have hs : (storeVar 5 ⟨b, o, none⟩ (.int .u8 z)).run Try.prog w = .ok () (w.setCell ⟨b, o, none⟩ (.int .u8 z)) := by
    have h1 : (w.cell? ⟨b, o, none⟩) = some (.int .u8 old) := (h.2.1 o).trans hc
    have h2 : w.frozen? ⟨b, o, none⟩ = false := h.2.2 o
    simp [go_sem, h1, h2]
  refine wpList_plain hgd fun _ hKK => ?_
  unfold Oper.wp execOp
  simp only [ho, hx, hy, Instr.storeAt, Instr.sureAddr, Sem.run_bind, Sem.run_pure, Result.andThen_ok, hs]
  exact hKK _ _ (hK _ hP ((Keeps.refl b w).setCell o _))
/-- Two lines in blocks of their own, and what else is to be kept. -/
def TwoG (R : World → Prop) (m1 m2 : M) (wx : World) (s1 s2 : Value) : Prop := ∃ xb yb, s1 = .pointer (some ⟨xb, 0, none⟩) ∧ s2 = .pointer (some ⟨yb, 0, none⟩) ∧ R wx ∧ Has wx xb (enc m1) ∧ Has wx yb (enc m2)
theorem nd2_1 (a : Int) (h1 : 0 ≤ a) (h2 : a < 256) : bit (bits .andNot .u8 a 2) 1 = 0 := byte_all (P := fun a => bit (bits .andNot .u8 a 2) 1 = 0) (by decide +kernel) a h1 h2
theorem nd2_bd (a : Int) (h1 : 0 ≤ a) (h2 : a < 256) : 0 ≤ bits .andNot .u8 a 2 ∧ bits .andNot .u8 a 2 < 256 := byte_all (P := fun a => 0 ≤ bits .andNot .u8 a 2 ∧ bits .andNot .u8 a 2 < 256) (by decide +kernel) a h1 h2
def plainV (bk : Int) (U : M) : M := fun x => shadeV bk (U x)
theorem off_plain (c bk fi se : Int) (V O : M) (line : Int) (U : M) (h : bit c 1 = 0) : outV c bk fi se V O line U = plainV bk U := by
  funext x
  exact if_pos (Or.inl h)
theorem nil_plain (c bk fi se : Int) (V : M) (line : Int) (U : M) (h : 0 ≤ line) : outV c bk fi se V zeroM line U = plainV bk U := by
  funext x
  refine if_pos (Or.inr ?_)
  have e : scN c zeroM line 40 = (0, zeroM) := sc_none c zeroM line (fun n hn => by
    unfold inV
    have := hgt_is c
    rw [decide_eq_false (show ¬ line < zeroM (4 * n) - 16 + hgt c by unfold zeroM; omega), Bool.and_false]) 40 (Nat.le_refl _)
  unfold topV
  rw [e]
  show bestN _ _ _ 0 < 0
  rw [best_zero]
  decide
theorem mem_nil (w : World) : Mem w (.slice none 0 0) zeroM :=
  ⟨none, 0, 0, rfl, by omega, by omega, fun _ => by simp [zeroM], fun _ _ => rfl, fun h => absurd h (by omega)⟩
set_option maxHeartbeats 2000000 in
theorem none_long0 (c bk fi se : Int) (c0 : 0 ≤ c) (c1 : c < 256) (bk0 : 0 ≤ bk) (bk1 : bk < 256) (fi0 : 0 ≤ fi) (fi1 : fi < 256) (se0 : 0 ≤ se) (se1 : se < 256) (a : Option Addr) (n cp : Nat) (a1 : Option Addr) (n1 cp1 : Nat) (a2 : Option Addr) (n2 cp2 : Nat) (line : Int) (line0 : 0 ≤ line) (line1 : line < 256)  (h : 3000 < n) (w : World) : Calls Try.prog 6 #[.slice a n cp, .slice a1 n1 cp1, .agg #[.int .u8 c, .int .u8 bk, .int .u8 fi, .int .u8 se], .int .u8 line, .slice a2 n2 cp2] w fun q_ w' => q_ = .returned (.bool true) ∧ Below w.heap.size w w' := by
  suffices hall : ∀ (n_ : Nat) (W0 : World), n_ ≤ W0.heap.size → Below n_ W0 w → Calls Try.prog 6 #[.slice a n cp, .slice a1 n1 cp1, .agg #[.int .u8 c, .int .u8 bk, .int .u8 fi, .int .u8 se], .int .u8 line, .slice a2 n2 cp2] w fun q_ w' => q_ = .returned (.bool true) ∧ Below n_ W0 w' from hall _ _ (Nat.le_refl _) (Below.refl _ _)
  intro n_ W0 hn hB
  have HN := Lib.hid hn
  have BB := Lib.hid hB
  clear hn hB
  have AW := Lib.hid awake_c
  have hnot : ∀ (x : Bool) (w : World), (Op.unary .not (.bool x)).run Try.prog w = .ok (.bool (!x)) w := fun _ _ => rfl
  have hI : (3000 : Int) < n := by omega
  have hd : decide ((3000 : Int) < (n : Int)) = true := decide_eq_true hI
  go_enter Try.func6, Try.ntmps6
  have Q_ := own1 w (.cells #[.int .u8 c, .int .u8 bk, .int .u8 fi, .int .u8 se] 24)
  have B0 := Lib.hid (vian HN.out BB.out Q_)
  have P0 := Lib.hid (show Has (w.alloc (.cells #[.int .u8 c, .int .u8 bk, .int .u8 fi, .int .u8 se] 24)) w.heap.size #[.int .u8 c, .int .u8 bk, .int .u8 fi, .int .u8 se] by simpa using Has.new w #[.int .u8 c, .int .u8 bk, .int .u8 fi, .int .u8 se] 24)
  have LP := Lib.hid (show n_ ≤ w.heap.size + 0 from Nat.le_add_right_of_le (Nat.le_trans HN.out BB.out.size))
  simp only [Nat.add_zero] at LP
  clear Q_
  go_upto_region 1 with (fail)
  generalize (w.alloc (.cells #[.int .u8 c, .int .u8 bk, .int .u8 fi, .int .u8 se] 24)) = u0 at B0 P0 ⊢
  generalize w.heap.size = pb at P0 LP  ⊢
  go_wp2_with (fail)
  with_reducible refine (AW.out _).mono ?_
  rintro q_ u1 ⟨rfl, hb⟩
  have B1 := Lib.hid (vian HN.out B0.out hb)
  have P1 := Lib.hid (P0.out.below hb)
  clear hb B0 P0
  go_wp2_with (fail)
  with_reducible refine (AW.out _).mono ?_
  rintro q_ u2 ⟨rfl, hb⟩
  have B2 := Lib.hid (vian HN.out B1.out hb)
  have P2 := Lib.hid (P1.out.below hb)
  clear hb B1 P1
  go_wp2_with (fail)
  all_goals exact bodyPost_ret (v := .bool true) (by simp [results, Try.results6, go_sem]) rfl ⟨rfl, B2.out⟩
set_option maxHeartbeats 2000000 in
theorem none_long1 (c bk fi se : Int) (c0 : 0 ≤ c) (c1 : c < 256) (bk0 : 0 ≤ bk) (bk1 : bk < 256) (fi0 : 0 ≤ fi) (fi1 : fi < 256) (se0 : 0 ≤ se) (se1 : se < 256) (a : Option Addr) (n cp : Nat) (a1 : Option Addr) (n1 cp1 : Nat) (a2 : Option Addr) (n2 cp2 : Nat) (line : Int) (line0 : 0 ≤ line) (line1 : line < 256) (h0 : n ≤ 3000) (h : 300 < n1) (w : World) : Calls Try.prog 6 #[.slice a n cp, .slice a1 n1 cp1, .agg #[.int .u8 c, .int .u8 bk, .int .u8 fi, .int .u8 se], .int .u8 line, .slice a2 n2 cp2] w fun q_ w' => q_ = .returned (.bool true) ∧ Below w.heap.size w w' := by
  suffices hall : ∀ (n_ : Nat) (W0 : World), n_ ≤ W0.heap.size → Below n_ W0 w → Calls Try.prog 6 #[.slice a n cp, .slice a1 n1 cp1, .agg #[.int .u8 c, .int .u8 bk, .int .u8 fi, .int .u8 se], .int .u8 line, .slice a2 n2 cp2] w fun q_ w' => q_ = .returned (.bool true) ∧ Below n_ W0 w' from hall _ _ (Nat.le_refl _) (Below.refl _ _)
  intro n_ W0 hn hB
  have HN := Lib.hid hn
  have BB := Lib.hid hB
  clear hn hB
  have AW := Lib.hid awake_c
  have hnot : ∀ (x : Bool) (w : World), (Op.unary .not (.bool x)).run Try.prog w = .ok (.bool (!x)) w := fun _ _ => rfl
  have hI0 : ¬ (3000 : Int) < n := by omega
  have hd0 : decide ((3000 : Int) < (n : Int)) = false := decide_eq_false hI0
  have hI : (300 : Int) < n1 := by omega
  have hd : decide ((300 : Int) < (n1 : Int)) = true := decide_eq_true hI
  go_enter Try.func6, Try.ntmps6
  have Q_ := own1 w (.cells #[.int .u8 c, .int .u8 bk, .int .u8 fi, .int .u8 se] 24)
  have B0 := Lib.hid (vian HN.out BB.out Q_)
  have P0 := Lib.hid (show Has (w.alloc (.cells #[.int .u8 c, .int .u8 bk, .int .u8 fi, .int .u8 se] 24)) w.heap.size #[.int .u8 c, .int .u8 bk, .int .u8 fi, .int .u8 se] by simpa using Has.new w #[.int .u8 c, .int .u8 bk, .int .u8 fi, .int .u8 se] 24)
  have LP := Lib.hid (show n_ ≤ w.heap.size + 0 from Nat.le_add_right_of_le (Nat.le_trans HN.out BB.out.size))
  simp only [Nat.add_zero] at LP
  clear Q_
  go_upto_region 1 with (fail)
  generalize (w.alloc (.cells #[.int .u8 c, .int .u8 bk, .int .u8 fi, .int .u8 se] 24)) = u0 at B0 P0 ⊢
  generalize w.heap.size = pb at P0 LP  ⊢
  go_wp2_with (fail)
  with_reducible refine (AW.out _).mono ?_
  rintro q_ u1 ⟨rfl, hb⟩
  have B1 := Lib.hid (vian HN.out B0.out hb)
  have P1 := Lib.hid (P0.out.below hb)
  clear hb B0 P0
  go_wp2_with (fail)
  with_reducible refine (AW.out _).mono ?_
  rintro q_ u2 ⟨rfl, hb⟩
  have B2 := Lib.hid (vian HN.out B1.out hb)
  have P2 := Lib.hid (P1.out.below hb)
  clear hb B1 P1
  go_wp2_with (fail)
  all_goals exact bodyPost_ret (v := .bool true) (by simp [results, Try.results6, go_sem]) rfl ⟨rfl, B2.out⟩
set_option maxHeartbeats 2000000 in
theorem none_long2 (c bk fi se : Int) (c0 : 0 ≤ c) (c1 : c < 256) (bk0 : 0 ≤ bk) (bk1 : bk < 256) (fi0 : 0 ≤ fi) (fi1 : fi < 256) (se0 : 0 ≤ se) (se1 : se < 256) (a : Option Addr) (n cp : Nat) (a1 : Option Addr) (n1 cp1 : Nat) (a2 : Option Addr) (n2 cp2 : Nat) (line : Int) (line0 : 0 ≤ line) (line1 : line < 256) (h0 : n ≤ 3000) (h1 : n1 ≤ 300) (h : 3000 < n2) (w : World) : Calls Try.prog 6 #[.slice a n cp, .slice a1 n1 cp1, .agg #[.int .u8 c, .int .u8 bk, .int .u8 fi, .int .u8 se], .int .u8 line, .slice a2 n2 cp2] w fun q_ w' => q_ = .returned (.bool true) ∧ Below w.heap.size w w' := by
  suffices hall : ∀ (n_ : Nat) (W0 : World), n_ ≤ W0.heap.size → Below n_ W0 w → Calls Try.prog 6 #[.slice a n cp, .slice a1 n1 cp1, .agg #[.int .u8 c, .int .u8 bk, .int .u8 fi, .int .u8 se], .int .u8 line, .slice a2 n2 cp2] w fun q_ w' => q_ = .returned (.bool true) ∧ Below n_ W0 w' from hall _ _ (Nat.le_refl _) (Below.refl _ _)
  intro n_ W0 hn hB
  have HN := Lib.hid hn
  have BB := Lib.hid hB
  clear hn hB
  have AW := Lib.hid awake_c
  have hnot : ∀ (x : Bool) (w : World), (Op.unary .not (.bool x)).run Try.prog w = .ok (.bool (!x)) w := fun _ _ => rfl
  have hI0 : ¬ (3000 : Int) < n := by omega
  have hd0 : decide ((3000 : Int) < (n : Int)) = false := decide_eq_false hI0
  have hI1 : ¬ (300 : Int) < n1 := by omega
  have hd1 : decide ((300 : Int) < (n1 : Int)) = false := decide_eq_false hI1
  have hI : (3000 : Int) < n2 := by omega
  have hd : decide ((3000 : Int) < (n2 : Int)) = true := decide_eq_true hI
  go_enter Try.func6, Try.ntmps6
  have Q_ := own1 w (.cells #[.int .u8 c, .int .u8 bk, .int .u8 fi, .int .u8 se] 24)
  have B0 := Lib.hid (vian HN.out BB.out Q_)
  have P0 := Lib.hid (show Has (w.alloc (.cells #[.int .u8 c, .int .u8 bk, .int .u8 fi, .int .u8 se] 24)) w.heap.size #[.int .u8 c, .int .u8 bk, .int .u8 fi, .int .u8 se] by simpa using Has.new w #[.int .u8 c, .int .u8 bk, .int .u8 fi, .int .u8 se] 24)
  have LP := Lib.hid (show n_ ≤ w.heap.size + 0 from Nat.le_add_right_of_le (Nat.le_trans HN.out BB.out.size))
  simp only [Nat.add_zero] at LP
  clear Q_
  go_upto_region 1 with (fail)
  generalize (w.alloc (.cells #[.int .u8 c, .int .u8 bk, .int .u8 fi, .int .u8 se] 24)) = u0 at B0 P0 ⊢
  generalize w.heap.size = pb at P0 LP  ⊢
  go_wp2_with (fail)
  with_reducible refine (AW.out _).mono ?_
  rintro q_ u1 ⟨rfl, hb⟩
  have B1 := Lib.hid (vian HN.out B0.out hb)
  have P1 := Lib.hid (P0.out.below hb)
  clear hb B0 P0
  go_wp2_with (fail)
  with_reducible refine (AW.out _).mono ?_
  rintro q_ u2 ⟨rfl, hb⟩
  have B2 := Lib.hid (vian HN.out B1.out hb)
  have P2 := Lib.hid (P1.out.below hb)
  clear hb B1 P1
  go_wp2_with (fail)
  all_goals exact bodyPost_ret (v := .bool true) (by simp [results, Try.results6, go_sem]) rfl ⟨rfl, B2.out⟩
set_option maxHeartbeats 8000000 in
theorem none_short (c bk fi se : Int) (c0 : 0 ≤ c) (c1 : c < 256) (bk0 : 0 ≤ bk) (bk1 : bk < 256) (fi0 : 0 ≤ fi) (fi1 : fi < 256) (se0 : 0 ≤ se) (se1 : se < 256) (a : Option Addr) (n cp : Nat) (a1 : Option Addr) (n1 cp1 : Nat) (a2 : Option Addr) (n2 cp2 : Nat) (F : M) (O : M) (U : M) (line : Int) (line0 : 0 ≤ line) (line1 : line < 256) (h0 : n ≤ 3000) (h1 : n1 ≤ 300) (h2 : n2 ≤ 3000) (w : World) (hM0 : Mem w (.slice a n cp) F) (hM1 : Mem w (.slice a1 n1 cp1) O) (hM2 : Mem w (.slice a2 n2 cp2) U) : Calls Try.prog 6 #[.slice a n cp, .slice a1 n1 cp1, .agg #[.int .u8 c, .int .u8 bk, .int .u8 fi, .int .u8 se], .int .u8 line, .slice a2 n2 cp2] w fun q_ w' => q_ = .returned (.bool true) ∧ Below w.heap.size w w' := by
  suffices hall : ∀ (n_ : Nat) (W0 : World), n_ ≤ W0.heap.size → Below n_ W0 w → MemB n_ W0 (.slice a n cp) F → MemB n_ W0 (.slice a1 n1 cp1) O → MemB n_ W0 (.slice a2 n2 cp2) U → Calls Try.prog 6 #[.slice a n cp, .slice a1 n1 cp1, .agg #[.int .u8 c, .int .u8 bk, .int .u8 fi, .int .u8 se], .int .u8 line, .slice a2 n2 cp2] w fun q_ w' => q_ = .returned (.bool true) ∧ Below n_ W0 w' from hall _ _ (Nat.le_refl _) (Below.refl _ _) hM0 hM1 hM2
  clear hM0 hM1 hM2
  intro n_ W0 hn hB hM0 hM1 hM2
  have HN := Lib.hid hn
  have BB := Lib.hid hB
  clear hn hB
  have HM0 := Lib.hid hM0
  clear hM0
  have HM1 := Lib.hid hM1
  clear hM1
  have HM2 := Lib.hid hM2
  clear hM2
  have AW := Lib.hid awake_c
  have hnot : ∀ (x : Bool) (w : World), (Op.unary .not (.bool x)).run Try.prog w = .ok (.bool (!x)) w := fun _ _ => rfl
  have hI0 : ¬ (3000 : Int) < n := by omega
  have hd0 : decide ((3000 : Int) < (n : Int)) = false := decide_eq_false hI0
  have hI1 : ¬ (300 : Int) < n1 := by omega
  have hd1 : decide ((300 : Int) < (n1 : Int)) = false := decide_eq_false hI1
  have hI2 : ¬ (3000 : Int) < n2 := by omega
  have hd2 : decide ((3000 : Int) < (n2 : Int)) = false := decide_eq_false hI2
  have hz34 : ∀ w : World, (zeroValue 34).run Try.prog w = .ok (.agg (enc zeroM)) w := zero34
  go_enter Try.func6, Try.ntmps6
  have Q_ := own1 w (.cells #[.int .u8 c, .int .u8 bk, .int .u8 fi, .int .u8 se] 24)
  have B0 := Lib.hid (vian HN.out BB.out Q_)
  have P0 := Lib.hid (show Has (w.alloc (.cells #[.int .u8 c, .int .u8 bk, .int .u8 fi, .int .u8 se] 24)) w.heap.size #[.int .u8 c, .int .u8 bk, .int .u8 fi, .int .u8 se] by simpa using Has.new w #[.int .u8 c, .int .u8 bk, .int .u8 fi, .int .u8 se] 24)
  have LP := Lib.hid (show n_ ≤ w.heap.size + 0 from Nat.le_add_right_of_le (Nat.le_trans HN.out BB.out.size))
  simp only [Nat.add_zero] at LP
  clear Q_
  go_upto_region 1 with (fail)
  generalize (w.alloc (.cells #[.int .u8 c, .int .u8 bk, .int .u8 fi, .int .u8 se] 24)) = u0 at B0 P0 ⊢
  generalize w.heap.size = pb at P0 LP  ⊢
  go_wp2_with (fail)
  with_reducible refine (AW.out _).mono ?_
  rintro q_ u1 ⟨rfl, hb⟩
  have B1 := Lib.hid (vian HN.out B0.out hb)
  have P1 := Lib.hid (P0.out.below hb)
  clear hb B0 P0
  obtain ⟨hc0, hf0⟩ := P1.out.out
  go_wp2_with (fail)
  clear hc0 hf0
  with_reducible refine (filled_m a n cp F _ (HM0.out.at HN.out B1.out)).mono ?_
  rintro q_ u2 ⟨sv, rfl, hm0, hb⟩
  have hb3 := vian HN.out B1.out hb
  have hm1 := (HM1.out.at HN.out B1.out).at (Nat.le_refl _) hb
  have hm2 := (HM2.out.at HN.out B1.out).at (Nat.le_refl _) hb
  have P2 := Lib.hid (P1.out.below hb)
  obtain ⟨n3, V3, hn3, b3, m0, m1, m2, gP, z3, q3⟩ : ∃ (n3 : Nat) (V3 : World), n3 ≤ V3.heap.size ∧ Below n3 V3 u2 ∧ MemB n3 V3 sv (filledV F n) ∧ MemB n3 V3 (.slice a1 n1 cp1) O ∧ MemB n3 V3 (.slice a2 n2 cp2) U ∧ pb < n3 ∧ (∀ w', Below n3 V3 w' → Below n_ W0 w') ∧ n_ ≤ n3 := ⟨u2.heap.size, u2, Nat.le_refl _, Below.refl _ _, hm0, hm1, hm2, P2.out.1, fun w' h => vian HN.out hb3 h, Nat.le_trans HN.out hb3.size⟩
  clear HN hb hb3 HM0 hm0 HM1 hm1 HM2 hm2 B1 P1
  have HN := Lib.hid hn3
  have B2 := Lib.hid b3
  have ZF := Lib.hid z3
  have QF := Lib.hid q3
  have HM0 := Lib.hid m0
  have HM1 := Lib.hid m1
  have HM2 := Lib.hid m2
  have GP := Lib.hid gP
  clear LP
  clear hn3 b3 z3 q3 m0 m1 m2 gP
  obtain ⟨G, hG⟩ : ∃ G, G = filledV F n := ⟨_, rfl⟩
  rw [← hG] at HM0
  clear hG
  have UN := Lib.hid (fun W h => und_c a2 n2 cp2 U W h)
  have okU := ok_first (ok_und HM2.out.ok n2) 160
  obtain ⟨UU, hUU⟩ : ∃ q_, q_ = firstN (undV U n2) 160 := ⟨_, rfl⟩
  rw [← hUU] at UN okU
  have b2 := nd2_bd c c0 c1
  have L1 := Lib.hid (fun W h1 h2 => linep_c (bits .andNot .u8 c 2) bk fi se b2.1 b2.2 bk0 bk1 fi0 fi1 se0 se1 sv (.slice a1 n1 cp1) G O UU okU line (by omega) (by omega) W h1 h2)
  have L2 := Lib.hid (fun W h1 h2 => linep_c c bk fi se c0 c1 bk0 bk1 fi0 fi1 se0 se1 sv (.slice none 0 0) G zeroM UU okU line (by omega) (by omega) W h1 h2)
  rw [off_plain _ _ _ _ _ _ _ _ (nd2_1 c c0 c1)] at L1
  rw [nil_plain _ _ _ _ _ _ _ line0] at L2
  have SH := Lib.hid (fun t W => rshade_c bk (UU t) bk0 bk1 (okU t).1 (okU t).2 W)
  have MV := Lib.hid (show ∀ t, t < 160 → firstN (plainV bk UU) 160 t = shadeV bk (UU t) from fun t h => if_pos h)
  obtain ⟨m, hm⟩ : ∃ q_, q_ = firstN (plainV bk UU) 160 := ⟨_, rfl⟩
  rw [← hm] at L1 L2 MV
  have ewl : IntKind.i64.wrap line = line := by rw [IntKind.wrap_i64]; omega
  clear hm hUU okU b2
  obtain ⟨hc0, hf0⟩ := P2.out.out
  go_wp2_with (fail)
  clear hc0 hf0
  with_reducible refine (UN.out _ (HM2.out.at HN.out B2.out)).mono ?_
  rintro q_ u3 ⟨rfl, hb⟩
  have B3 := Lib.hid (vian HN.out B2.out hb)
  have P3 := Lib.hid (P2.out.below hb)
  clear hb B2 P2
  go_wp2_with (refine store_g r34 (Has.new u3 (enc zeroM) 34) (enc_size _) (enc UU) (enc_size _) (enc_one _) rfl _ _ rfl rfl rfl ?_)
  intro u4 hP hk
  have B4 := Lib.hid (keep_new HN.out B3.out _ hk)
  have NPT := Lib.hid (Nat.ne_of_lt P3.out.1)
  have P4 := Lib.hid (hk.has NPT.out (P3.out.below (own1 _ _)))
  have T4 := Lib.hid hP
  have LT := Lib.hid (Nat.le_trans HN.out B3.out.size)
  generalize u3.heap.size = tb at T4 LT NPT ⊢
  clear hk hP B3 P3
  try simp only [Act.put, List.setIfInBounds_toArray, List.set_cons_zero, List.set_cons_succ]
  obtain ⟨hc0, hf0⟩ := P4.out.out
  go_upto_region 5 with (fail)
  go_wp2_with (refine store_g r27 (Has.new u4 #[.int .u8 0, .int .u8 0, .int .u8 0, .int .u8 0] 27) rfl #[.int .u8 c, .int .u8 bk, .int .u8 fi, .int .u8 se] rfl (four_one _ _ _ _) rfl _ _ rfl rfl rfl ?_)
  intro u5 hP hk
  clear hc0 hf0
  have B5 := Lib.hid (keep_new HN.out B4.out _ hk)
  have NPQ := Lib.hid (Nat.ne_of_lt P4.out.1)
  have P5 := Lib.hid (hk.has NPQ.out (P4.out.below (own1 _ _)))
  have NTQ := Lib.hid (Nat.ne_of_lt T4.out.1)
  have T5 := Lib.hid (hk.has NTQ.out (T4.out.below (own1 _ _)))
  have Q5 := Lib.hid hP
  have LQ := Lib.hid (Nat.le_trans HN.out B4.out.size)
  generalize u4.heap.size = qb at Q5 LQ NPQ NTQ ⊢
  clear hk hP B4 P4 T4
  try simp only [Act.put, List.setIfInBounds_toArray, List.set_cons_zero, List.set_cons_succ]
  obtain ⟨hc0, hf0⟩ := Q5.out.out
  go_upto_region 6 with (fail)
  go_wp2_with (refine store_g r27 (Has.new u5 #[.int .u8 0, .int .u8 0, .int .u8 0, .int .u8 0] 27) rfl #[.int .u8 c, .int .u8 bk, .int .u8 fi, .int .u8 se] rfl (four_one _ _ _ _) rfl _ _ rfl rfl rfl ?_)
  intro u6 hP hk
  clear hc0 hf0
  have B6 := Lib.hid (keep_new HN.out B5.out _ hk)
  have NPF := Lib.hid (Nat.ne_of_lt P5.out.1)
  have P6 := Lib.hid (hk.has NPF.out (P5.out.below (own1 _ _)))
  have NTF := Lib.hid (Nat.ne_of_lt T5.out.1)
  have T6 := Lib.hid (hk.has NTF.out (T5.out.below (own1 _ _)))
  have NQF := Lib.hid (Nat.ne_of_lt Q5.out.1)
  have Q6 := Lib.hid (hk.has NQF.out (Q5.out.below (own1 _ _)))
  have F6 := Lib.hid hP
  have LF := Lib.hid (Nat.le_trans HN.out B5.out.size)
  generalize u5.heap.size = fb at F6 LF NPF NTF NQF ⊢
  clear hk hP B5 P5 T5 Q5
  try simp only [Act.put, List.setIfInBounds_toArray, List.set_cons_zero, List.set_cons_succ]
  obtain ⟨hc0, hf0⟩ := F6.out.out
  go_upto_region 7 with (fail)
  go_wp2_with (refine store_c F6.out rfl _ _ rfl 0 rfl _ _ rfl rfl #[.int .u8 (bits .andNot .u8 c 2), .int .u8 bk, .int .u8 fi, .int .u8 se] rfl ?_)
  intro u7 hP hk
  clear hc0 hf0
  have F7 := Lib.hid hP
  have B7 := Lib.hid (hk.below HN.out LF.out B6.out)
  have P7 := Lib.hid (hk.has NPF.out P6.out)
  have T7 := Lib.hid (hk.has NTF.out T6.out)
  have Q7 := Lib.hid (hk.has NQF.out Q6.out)
  clear hP hk B6 P6 T6 Q6 F6
  try simp only [Act.put, List.setIfInBounds_toArray, List.set_cons_zero, List.set_cons_succ]
  go_upto_region 8 with (fail)
  have B8 := Lib.hid B7.out.drew
  have P8 := Lib.hid P7.out.drew
  have T8 := Lib.hid T7.out.drew
  have Q8 := Lib.hid Q7.out.drew
  have F8 := Lib.hid F7.out.drew
  clear B7 P7 T7 Q7 F7
  go_cut [15, 16] (fun s1_ s2_ wx => TwoG (fun w_ => Below n3 V3 w_ ∧ Has w_ pb #[.int .u8 c, .int .u8 bk, .int .u8 fi, .int .u8 se] ∧ Has w_ tb (enc UU)) m m wx s1_ s2_)
  case first =>
    refine wp_region_held_drew (S := (fun w' => (∀ o, w'.cell? ⟨fb, o, none⟩ = (#[.int .u8 (bits .andNot .u8 c 2), .int .u8 bk, .int .u8 fi, .int .u8 se])[o]?) ∧ (∀ o, w'.cell? ⟨qb, o, none⟩ = (#[.int .u8 c, .int .u8 bk, .int .u8 fi, .int .u8 se])[o]?) ∧ (w'.rangeAt tb 0 (enc UU).toList))) (by kernel_rfl) ⟨F8.out.2.1, Q8.out.2.1, range_of_has T8.out⟩ (fun hHeld => ?_)
    generalize World.drew _ = u8 at hHeld B8 P8 T8 Q8 F8 ⊢
    refine wpAnyH_take (i := 0) (oi := { dst := some 46, op := Go.Op.load 27 (Go.Operand.tmp 14), type := 27, pos := "law.go:106", after := #[], guard := none }) (v := ?v1) rfl (by kernel_rfl) (by kernel_rfl) (by kernel_rfl) (fun _ _ _ h => h) (Or.inl ⟨by rfl, ?y1⟩) (by assumption) ?z1
    case y1 => (intro w hSw; (try dsimp only at hSw); go_simp) <;> with_reducible rfl
    try simp only [Act.put, List.setIfInBounds_toArray, List.set_cons_zero, List.set_cons_succ]
    refine wpAnyH_take (i := 1) (oi := { dst := some 47, op := Go.Op.move (Go.Operand.tmp 11), type := 22, pos := "law.go:106", after := #[], guard := none }) (v := ?v2) rfl (by kernel_rfl) (by kernel_rfl) (by kernel_rfl) (fun _ _ _ h => h) (Or.inl ⟨by rfl, ?y2⟩) (by assumption) ?z2
    case y2 => (intro w hSw; (try dsimp only at hSw); go_simp) <;> with_reducible rfl
    try simp only [Act.put, List.setIfInBounds_toArray, List.set_cons_zero, List.set_cons_succ]
    refine wpAnyH_take (i := 2) (oi := { dst := some 48, op := Go.Op.move (Go.Operand.tmp 1), type := 22, pos := "law.go:106", after := #[], guard := none }) (v := ?v3) rfl (by kernel_rfl) (by kernel_rfl) (by kernel_rfl) (fun _ _ _ h => h) (Or.inl ⟨by rfl, ?y3⟩) (by assumption) ?z3
    case y3 => (intro w hSw; (try dsimp only at hSw); go_simp) <;> with_reducible rfl
    try simp only [Act.put, List.setIfInBounds_toArray, List.set_cons_zero, List.set_cons_succ]
    refine wpAnyH_take (i := 3) (oi := { dst := some 49, op := Go.Op.move (Go.Operand.tmp 3), type := 5, pos := "law.go:106", after := #[], guard := none }) (v := ?v4) rfl (by kernel_rfl) (by kernel_rfl) (by kernel_rfl) (fun _ _ _ h => h) (Or.inl ⟨by rfl, ?y4⟩) (by assumption) ?z4
    case y4 => (intro w hSw; (try dsimp only at hSw); go_simp) <;> with_reducible rfl
    try simp only [Act.put, List.setIfInBounds_toArray, List.set_cons_zero, List.set_cons_succ]
    refine wpAnyH_take (i := 4) (oi := { dst := some 50, op := Go.Op.convert 5 3 (Go.Operand.tmp 49), type := 3, pos := "law.go:106", after := #[{ on := 3, ground := Go.Ground.data }], guard := none }) (v := ?v5) rfl (by kernel_rfl) (by kernel_rfl) (by kernel_rfl) (fun _ _ _ h => h) (Or.inl ⟨by rfl, ?y5⟩) (by assumption) ?z5
    case y5 => (intro w hSw; (try dsimp only at hSw); go_simp) <;> with_reducible rfl
    try simp only [Act.put, List.setIfInBounds_toArray, List.set_cons_zero, List.set_cons_succ]
    refine wpAnyH_take (i := 5) (oi := { dst := some 51, op := Go.Op.load 34 (Go.Operand.tmp 12), type := 34, pos := "law.go:106", after := #[], guard := none }) (v := .agg (enc UU)) rfl (by kernel_rfl) (by kernel_rfl) (by kernel_rfl) (fun _ _ _ h => h) (yields_load r34 (enc UU) (enc_size _) tb (fun w hw => hw.2.2) (by rfl) _ rfl rfl) (by assumption) ?_
    try simp only [Act.put, List.setIfInBounds_toArray, List.set_cons_zero, List.set_cons_succ]
    refine wpAnyH_take (i := 7) (oi := { dst := some 53, op := Go.Op.load 27 (Go.Operand.tmp 13), type := 27, pos := "law.go:106", after := #[], guard := none }) (v := ?v7) rfl (by kernel_rfl) (by kernel_rfl) (by kernel_rfl) (fun _ _ _ h => h) (Or.inl ⟨by rfl, ?y7⟩) (by assumption) ?z7
    case y7 => (intro w hSw; (try dsimp only at hSw); go_simp) <;> with_reducible rfl
    try simp only [Act.put, List.setIfInBounds_toArray, List.set_cons_zero, List.set_cons_succ]
    refine wpAnyH_take (i := 8) (oi := { dst := some 54, op := Go.Op.move (Go.Operand.tmp 11), type := 22, pos := "law.go:106", after := #[], guard := none }) (v := ?v8) rfl (by kernel_rfl) (by kernel_rfl) (by kernel_rfl) (fun _ _ _ h => h) (Or.inl ⟨by rfl, ?y8⟩) (by assumption) ?z8
    case y8 => (intro w hSw; (try dsimp only at hSw); go_simp) <;> with_reducible rfl
    try simp only [Act.put, List.setIfInBounds_toArray, List.set_cons_zero, List.set_cons_succ]
    refine wpAnyH_take (i := 9) (oi := { dst := some 55, op := Go.Op.move (Go.Operand.tmp 3), type := 5, pos := "law.go:106", after := #[], guard := none }) (v := ?v9) rfl (by kernel_rfl) (by kernel_rfl) (by kernel_rfl) (fun _ _ _ h => h) (Or.inl ⟨by rfl, ?y9⟩) (by assumption) ?z9
    case y9 => (intro w hSw; (try dsimp only at hSw); go_simp) <;> with_reducible rfl
    try simp only [Act.put, List.setIfInBounds_toArray, List.set_cons_zero, List.set_cons_succ]
    refine wpAnyH_take (i := 10) (oi := { dst := some 56, op := Go.Op.convert 5 3 (Go.Operand.tmp 55), type := 3, pos := "law.go:106", after := #[{ on := 9, ground := Go.Ground.data }], guard := none }) (v := ?v10) rfl (by kernel_rfl) (by kernel_rfl) (by kernel_rfl) (fun _ _ _ h => h) (Or.inl ⟨by rfl, ?y10⟩) (by assumption) ?z10
    case y10 => (intro w hSw; (try dsimp only at hSw); go_simp) <;> with_reducible rfl
    try simp only [Act.put, List.setIfInBounds_toArray, List.set_cons_zero, List.set_cons_succ]
    refine wpAnyH_take (i := 11) (oi := { dst := some 57, op := Go.Op.load 34 (Go.Operand.tmp 12), type := 34, pos := "law.go:106", after := #[], guard := none }) (v := .agg (enc UU)) rfl (by kernel_rfl) (by kernel_rfl) (by kernel_rfl) (fun _ _ _ h => h) (yields_load r34 (enc UU) (enc_size _) tb (fun w hw => hw.2.2) (by rfl) _ rfl rfl) (by assumption) ?_
    try simp only [Act.put, List.setIfInBounds_toArray, List.set_cons_zero, List.set_cons_succ]
    refine wpAnyH_ready (rs := [6, 13, 14]) (by kernel_rfl) (by simp) ?_
    refine (AllReadyH.cons (o := { dst := some 52, op := Go.Op.call { callee := Go.Callee.value (Go.Operand.func 17), args := #[Go.Operand.tmp 46, Go.Operand.tmp 47, Go.Operand.tmp 48, Go.Operand.tmp 50, Go.Operand.tmp 51], argTypes := #[27, 22, 22, 3, 34] }, type := 34, pos := "law.go:106", after := #[{ on := 0, ground := Go.Ground.data }, { on := 1, ground := Go.Ground.data }, { on := 2, ground := Go.Ground.data }, { on := 4, ground := Go.Ground.data }, { on := 5, ground := Go.Ground.data }], guard := none }) rfl (fun K hK => ?_) (AllReadyH.cons (o := { dst := some 15, op := Go.Op.alloc 34, type := 0, pos := "law.go:106", after := #[], guard := none }) rfl (fun K hK => ?_) (AllReadyH.cons (o := { dst := some 16, op := Go.Op.alloc 34, type := 0, pos := "law.go:106", after := #[], guard := none }) rfl (fun K hK => ?_) AllReadyH.nil)))
    · skip
      go_simp
      with_reducible refine (L1.out _ (HM0.out.at HN.out B8.out) (HM1.out.at HN.out B8.out)).mono ?_
      rintro q_ u9 ⟨rfl, hb⟩
      have B9 := Lib.hid (vian HN.out B8.out hb)
      have P9 := Lib.hid (P8.out.below hb)
      have T9 := Lib.hid (T8.out.below hb)
      have Q9 := Lib.hid (Q8.out.below hb)
      have F9 := Lib.hid (F8.out.below hb)
      clear hb B8 P8 T8 Q8 F8
      refine hK.out _ _ ?s12 (fun hNew => ?r12)
      case s12 => exact ⟨F9.out.2.1, Q9.out.2.1, range_of_has T9.out⟩
      clear hK K hHeld
      have hHeld := hNew
      clear hNew
      refine wpAnyH_ready (rs := [12, 13, 14]) (by kernel_rfl) (by simp) ?_
      refine (AllReadyH.cons (o := { dst := some 58, op := Go.Op.call { callee := Go.Callee.value (Go.Operand.func 17), args := #[Go.Operand.tmp 53, Go.Operand.tmp 54, Go.Operand.const (Go.Value.slice none 0 0), Go.Operand.tmp 56, Go.Operand.tmp 57], argTypes := #[27, 22, 22, 3, 34] }, type := 34, pos := "law.go:106", after := #[{ on := 7, ground := Go.Ground.data }, { on := 8, ground := Go.Ground.data }, { on := 10, ground := Go.Ground.data }, { on := 11, ground := Go.Ground.data }, { on := 6, ground := Go.Ground.chain }], guard := none }) rfl (fun K hK => ?_) (AllReadyH.cons (o := { dst := some 15, op := Go.Op.alloc 34, type := 0, pos := "law.go:106", after := #[], guard := none }) rfl (fun K hK => ?_) (AllReadyH.cons (o := { dst := some 16, op := Go.Op.alloc 34, type := 0, pos := "law.go:106", after := #[], guard := none }) rfl (fun K hK => ?_) AllReadyH.nil)))
      · skip
        go_simp
        with_reducible refine (L2.out _ (HM0.out.at HN.out B9.out) (mem_nil _)).mono ?_
        rintro q_ u10 ⟨rfl, hb⟩
        have B10 := Lib.hid (vian HN.out B9.out hb)
        have P10 := Lib.hid (P9.out.below hb)
        have T10 := Lib.hid (T9.out.below hb)
        have Q10 := Lib.hid (Q9.out.below hb)
        have F10 := Lib.hid (F9.out.below hb)
        clear hb B9 P9 T9 Q9 F9
        refine hK.out _ _ ?s13 (fun hNew => ?r13)
        case s13 => exact ⟨F10.out.2.1, Q10.out.2.1, range_of_has T10.out⟩
        clear hK K hHeld
        have hHeld := hNew
        clear hNew
        refine wpAnyH_ready (rs := [13, 14]) (by kernel_rfl) (by simp) ?_
        refine (AllReadyH.cons (o := { dst := some 15, op := Go.Op.alloc 34, type := 0, pos := "law.go:106", after := #[], guard := none }) rfl (fun K hK => ?_) (AllReadyH.cons (o := { dst := some 16, op := Go.Op.alloc 34, type := 0, pos := "law.go:106", after := #[], guard := none }) rfl (fun K hK => ?_) AllReadyH.nil))
        · skip
          go_simp
          have Q_ := own1 u10 (.cells (enc zeroM) 34)
          have B11 := Lib.hid (vian HN.out B10.out Q_)
          have P11 := Lib.hid (P10.out.below Q_)
          have T11 := Lib.hid (T10.out.below Q_)
          have Q11 := Lib.hid (Q10.out.below Q_)
          have F11 := Lib.hid (F10.out.below Q_)
          have X11 := Lib.hid (Has.new u10 (enc zeroM) 34)
          have LX := Lib.hid (Nat.le_trans HN.out B10.out.size)
          have NPX := Lib.hid (Nat.ne_of_lt P10.out.1)
          have NTX := Lib.hid (Nat.ne_of_lt T10.out.1)
          have NQX := Lib.hid (Nat.ne_of_lt Q10.out.1)
          have NFX := Lib.hid (Nat.ne_of_lt F10.out.1)
          clear Q_ B10 P10 T10 Q10 F10
          generalize u10.alloc (.cells (enc zeroM) 34) = u11 at B11 P11 T11 Q11 F11 X11 ⊢
          generalize u10.heap.size = xb at X11 LX NPX NTX NQX NFX ⊢
          refine hK.out _ _ ?s14 (fun hNew => ?r14)
          case s14 => exact ⟨F11.out.2.1, Q11.out.2.1, range_of_has T11.out⟩
          clear hK K hHeld
          have hHeld := hNew
          clear hNew
          refine wpAnyH_ready (rs := [14]) (by kernel_rfl) (by simp) ?_
          refine (AllReadyH.cons (o := { dst := some 16, op := Go.Op.alloc 34, type := 0, pos := "law.go:106", after := #[], guard := none }) rfl (fun K hK => ?_) AllReadyH.nil)
          · skip
            go_simp
            have Q_ := own1 u11 (.cells (enc zeroM) 34)
            have B12 := Lib.hid (vian HN.out B11.out Q_)
            have P12 := Lib.hid (P11.out.below Q_)
            have T12 := Lib.hid (T11.out.below Q_)
            have Q12 := Lib.hid (Q11.out.below Q_)
            have F12 := Lib.hid (F11.out.below Q_)
            have X12 := Lib.hid (X11.out.below Q_)
            have Y12 := Lib.hid (Has.new u11 (enc zeroM) 34)
            have LY := Lib.hid (Nat.le_trans HN.out B11.out.size)
            have NPY := Lib.hid (Nat.ne_of_lt P11.out.1)
            have NTY := Lib.hid (Nat.ne_of_lt T11.out.1)
            have NQY := Lib.hid (Nat.ne_of_lt Q11.out.1)
            have NFY := Lib.hid (Nat.ne_of_lt F11.out.1)
            have NXY := Lib.hid (Nat.ne_of_lt X11.out.1)
            clear Q_ B11 P11 T11 Q11 F11 X11
            generalize u11.alloc (.cells (enc zeroM) 34) = u12 at B12 P12 T12 Q12 F12 X12 Y12 ⊢
            generalize u11.heap.size = yb at Y12 LY NPY NTY NQY NFY NXY ⊢
            refine hK.out _ _ ?s15 (fun hNew => ?r15)
            case s15 => exact ⟨F12.out.2.1, Q12.out.2.1, range_of_has T12.out⟩
            clear hK K hHeld
            have hHeld := hNew
            clear hNew
            refine wpAnyH_ready (rs := [15]) (by kernel_rfl) (by simp) ?_
            refine (AllReadyH.cons (o := { dst := none, op := Go.Op.store 34 (Go.Operand.tmp 15) (Go.Operand.tmp 52), type := 0, pos := "law.go:106", after := #[{ on := 13, ground := Go.Ground.data }, { on := 6, ground := Go.Ground.data }, { on := 12, ground := Go.Ground.chain }, { on := 0, ground := Go.Ground.phase }, { on := 1, ground := Go.Ground.phase }, { on := 2, ground := Go.Ground.phase }, { on := 3, ground := Go.Ground.phase }, { on := 4, ground := Go.Ground.phase }, { on := 5, ground := Go.Ground.phase }, { on := 6, ground := Go.Ground.phase }, { on := 7, ground := Go.Ground.textOnly Go.Departure.lateStores }, { on := 8, ground := Go.Ground.textOnly Go.Departure.lateStores }, { on := 9, ground := Go.Ground.textOnly Go.Departure.lateStores }, { on := 10, ground := Go.Ground.textOnly Go.Departure.lateStores }, { on := 11, ground := Go.Ground.textOnly Go.Departure.lateStores }, { on := 12, ground := Go.Ground.textOnly Go.Departure.lateStoresUnsure }, { on := 13, ground := Go.Ground.phase }, { on := 14, ground := Go.Ground.phase }], guard := none }) rfl (fun K hK => ?_) AllReadyH.nil)
            · skip
              refine wp_store_g r34 X12.out (enc_size _) (enc m) (enc_size _) (enc_one _) _ _ rfl rfl rfl ?_
              intro u13 hP hk
              try simp only [Act.put, List.setIfInBounds_toArray, List.set_cons_zero, List.set_cons_succ]
              have X13 := Lib.hid hP
              have B13 := Lib.hid (hk.below HN.out LX.out B12.out)
              have P13 := Lib.hid (hk.has NPX.out P12.out)
              have T13 := Lib.hid (hk.has NTX.out T12.out)
              have Q13 := Lib.hid (hk.has NQX.out Q12.out)
              have F13 := Lib.hid (hk.has NFX.out F12.out)
              have Y13 := Lib.hid (hk.has (Ne.symm NXY.out) Y12.out)
              clear hP hk B12 P12 T12 Q12 F12 X12 Y12
              refine hK.out _ _ ?s16 (fun hNew => ?r16)
              case s16 => exact ⟨F13.out.2.1, Q13.out.2.1, range_of_has T13.out⟩
              clear hK K hHeld
              have hHeld := hNew
              clear hNew
              refine wpAnyH_ready (rs := [16]) (by kernel_rfl) (by simp) ?_
              refine (AllReadyH.cons (o := { dst := none, op := Go.Op.store 34 (Go.Operand.tmp 16) (Go.Operand.tmp 58), type := 0, pos := "law.go:106", after := #[{ on := 14, ground := Go.Ground.data }, { on := 12, ground := Go.Ground.data }, { on := 15, ground := Go.Ground.chain }, { on := 0, ground := Go.Ground.phase }, { on := 1, ground := Go.Ground.phase }, { on := 2, ground := Go.Ground.phase }, { on := 3, ground := Go.Ground.phase }, { on := 4, ground := Go.Ground.phase }, { on := 5, ground := Go.Ground.phase }, { on := 6, ground := Go.Ground.phase }, { on := 7, ground := Go.Ground.phase }, { on := 8, ground := Go.Ground.phase }, { on := 9, ground := Go.Ground.phase }, { on := 10, ground := Go.Ground.phase }, { on := 11, ground := Go.Ground.phase }, { on := 12, ground := Go.Ground.phase }, { on := 13, ground := Go.Ground.phase }, { on := 14, ground := Go.Ground.phase }, { on := 15, ground := Go.Ground.phase }], guard := none }) rfl (fun K hK => ?_) AllReadyH.nil)
              · skip
                refine wp_store_g r34 Y13.out (enc_size _) (enc m) (enc_size _) (enc_one _) _ _ rfl rfl rfl ?_
                intro u14 hP hk
                try simp only [Act.put, List.setIfInBounds_toArray, List.set_cons_zero, List.set_cons_succ]
                have Y14 := Lib.hid hP
                have B14 := Lib.hid (hk.below HN.out LY.out B13.out)
                have P14 := Lib.hid (hk.has NPY.out P13.out)
                have T14 := Lib.hid (hk.has NTY.out T13.out)
                have Q14 := Lib.hid (hk.has NQY.out Q13.out)
                have F14 := Lib.hid (hk.has NFY.out F13.out)
                have X14 := Lib.hid (hk.has NXY.out X13.out)
                clear hP hk B13 P13 T13 Q13 F13 X13 Y13
                refine hK.out _ _ ?s17 (fun hNew => ?r17)
                case s17 => exact ⟨F14.out.2.1, Q14.out.2.1, range_of_has T14.out⟩
                clear hK K hHeld
                have hHeld := hNew
                clear hNew
                refine wpAnyH_done (by kernel_rfl) ?_ _
                clear hHeld
                go_wp2
                go_meet
                exact ⟨xb, yb, rfl, rfl, ⟨B14.out, P14.out, T14.out⟩, X14.out, Y14.out⟩
        · skip
          go_simp
          have Q_ := own1 u10 (.cells (enc zeroM) 34)
          have B11 := Lib.hid (vian HN.out B10.out Q_)
          have P11 := Lib.hid (P10.out.below Q_)
          have T11 := Lib.hid (T10.out.below Q_)
          have Q11 := Lib.hid (Q10.out.below Q_)
          have F11 := Lib.hid (F10.out.below Q_)
          have Y11 := Lib.hid (Has.new u10 (enc zeroM) 34)
          have LY := Lib.hid (Nat.le_trans HN.out B10.out.size)
          have NPY := Lib.hid (Nat.ne_of_lt P10.out.1)
          have NTY := Lib.hid (Nat.ne_of_lt T10.out.1)
          have NQY := Lib.hid (Nat.ne_of_lt Q10.out.1)
          have NFY := Lib.hid (Nat.ne_of_lt F10.out.1)
          clear Q_ B10 P10 T10 Q10 F10
          generalize u10.alloc (.cells (enc zeroM) 34) = u11 at B11 P11 T11 Q11 F11 Y11 ⊢
          generalize u10.heap.size = yb at Y11 LY NPY NTY NQY NFY ⊢
          refine hK.out _ _ ?s18 (fun hNew => ?r18)
          case s18 => exact ⟨F11.out.2.1, Q11.out.2.1, range_of_has T11.out⟩
          clear hK K hHeld
          have hHeld := hNew
          clear hNew
          refine wpAnyH_ready (rs := [13]) (by kernel_rfl) (by simp) ?_
          refine (AllReadyH.cons (o := { dst := some 15, op := Go.Op.alloc 34, type := 0, pos := "law.go:106", after := #[], guard := none }) rfl (fun K hK => ?_) AllReadyH.nil)
          · skip
            go_simp
            have Q_ := own1 u11 (.cells (enc zeroM) 34)
            have B12 := Lib.hid (vian HN.out B11.out Q_)
            have P12 := Lib.hid (P11.out.below Q_)
            have T12 := Lib.hid (T11.out.below Q_)
            have Q12 := Lib.hid (Q11.out.below Q_)
            have F12 := Lib.hid (F11.out.below Q_)
            have Y12 := Lib.hid (Y11.out.below Q_)
            have X12 := Lib.hid (Has.new u11 (enc zeroM) 34)
            have LX := Lib.hid (Nat.le_trans HN.out B11.out.size)
            have NPX := Lib.hid (Nat.ne_of_lt P11.out.1)
            have NTX := Lib.hid (Nat.ne_of_lt T11.out.1)
            have NQX := Lib.hid (Nat.ne_of_lt Q11.out.1)
            have NFX := Lib.hid (Nat.ne_of_lt F11.out.1)
            have NYX := Lib.hid (Nat.ne_of_lt Y11.out.1)
            clear Q_ B11 P11 T11 Q11 F11 Y11
            generalize u11.alloc (.cells (enc zeroM) 34) = u12 at B12 P12 T12 Q12 F12 Y12 X12 ⊢
            generalize u11.heap.size = xb at X12 LX NPX NTX NQX NFX NYX ⊢
            refine hK.out _ _ ?s19 (fun hNew => ?r19)
            case s19 => exact ⟨F12.out.2.1, Q12.out.2.1, range_of_has T12.out⟩
            clear hK K hHeld
            have hHeld := hNew
            clear hNew
            refine wpAnyH_ready (rs := [15]) (by kernel_rfl) (by simp) ?_
            refine (AllReadyH.cons (o := { dst := none, op := Go.Op.store 34 (Go.Operand.tmp 15) (Go.Operand.tmp 52), type := 0, pos := "law.go:106", after := #[{ on := 13, ground := Go.Ground.data }, { on := 6, ground := Go.Ground.data }, { on := 12, ground := Go.Ground.chain }, { on := 0, ground := Go.Ground.phase }, { on := 1, ground := Go.Ground.phase }, { on := 2, ground := Go.Ground.phase }, { on := 3, ground := Go.Ground.phase }, { on := 4, ground := Go.Ground.phase }, { on := 5, ground := Go.Ground.phase }, { on := 6, ground := Go.Ground.phase }, { on := 7, ground := Go.Ground.textOnly Go.Departure.lateStores }, { on := 8, ground := Go.Ground.textOnly Go.Departure.lateStores }, { on := 9, ground := Go.Ground.textOnly Go.Departure.lateStores }, { on := 10, ground := Go.Ground.textOnly Go.Departure.lateStores }, { on := 11, ground := Go.Ground.textOnly Go.Departure.lateStores }, { on := 12, ground := Go.Ground.textOnly Go.Departure.lateStoresUnsure }, { on := 13, ground := Go.Ground.phase }, { on := 14, ground := Go.Ground.phase }], guard := none }) rfl (fun K hK => ?_) AllReadyH.nil)
            · skip
              refine wp_store_g r34 X12.out (enc_size _) (enc m) (enc_size _) (enc_one _) _ _ rfl rfl rfl ?_
              intro u13 hP hk
              try simp only [Act.put, List.setIfInBounds_toArray, List.set_cons_zero, List.set_cons_succ]
              have X13 := Lib.hid hP
              have B13 := Lib.hid (hk.below HN.out LX.out B12.out)
              have P13 := Lib.hid (hk.has NPX.out P12.out)
              have T13 := Lib.hid (hk.has NTX.out T12.out)
              have Q13 := Lib.hid (hk.has NQX.out Q12.out)
              have F13 := Lib.hid (hk.has NFX.out F12.out)
              have Y13 := Lib.hid (hk.has NYX.out Y12.out)
              clear hP hk B12 P12 T12 Q12 F12 Y12 X12
              refine hK.out _ _ ?s20 (fun hNew => ?r20)
              case s20 => exact ⟨F13.out.2.1, Q13.out.2.1, range_of_has T13.out⟩
              clear hK K hHeld
              have hHeld := hNew
              clear hNew
              refine wpAnyH_ready (rs := [16]) (by kernel_rfl) (by simp) ?_
              refine (AllReadyH.cons (o := { dst := none, op := Go.Op.store 34 (Go.Operand.tmp 16) (Go.Operand.tmp 58), type := 0, pos := "law.go:106", after := #[{ on := 14, ground := Go.Ground.data }, { on := 12, ground := Go.Ground.data }, { on := 15, ground := Go.Ground.chain }, { on := 0, ground := Go.Ground.phase }, { on := 1, ground := Go.Ground.phase }, { on := 2, ground := Go.Ground.phase }, { on := 3, ground := Go.Ground.phase }, { on := 4, ground := Go.Ground.phase }, { on := 5, ground := Go.Ground.phase }, { on := 6, ground := Go.Ground.phase }, { on := 7, ground := Go.Ground.phase }, { on := 8, ground := Go.Ground.phase }, { on := 9, ground := Go.Ground.phase }, { on := 10, ground := Go.Ground.phase }, { on := 11, ground := Go.Ground.phase }, { on := 12, ground := Go.Ground.phase }, { on := 13, ground := Go.Ground.phase }, { on := 14, ground := Go.Ground.phase }, { on := 15, ground := Go.Ground.phase }], guard := none }) rfl (fun K hK => ?_) AllReadyH.nil)
              · skip
                refine wp_store_g r34 Y13.out (enc_size _) (enc m) (enc_size _) (enc_one _) _ _ rfl rfl rfl ?_
                intro u14 hP hk
                try simp only [Act.put, List.setIfInBounds_toArray, List.set_cons_zero, List.set_cons_succ]
                have Y14 := Lib.hid hP
                have B14 := Lib.hid (hk.below HN.out LY.out B13.out)
                have P14 := Lib.hid (hk.has NPY.out P13.out)
                have T14 := Lib.hid (hk.has NTY.out T13.out)
                have Q14 := Lib.hid (hk.has NQY.out Q13.out)
                have F14 := Lib.hid (hk.has NFY.out F13.out)
                have X14 := Lib.hid (hk.has (Ne.symm NYX.out) X13.out)
                clear hP hk B13 P13 T13 Q13 F13 Y13 X13
                refine hK.out _ _ ?s21 (fun hNew => ?r21)
                case s21 => exact ⟨F14.out.2.1, Q14.out.2.1, range_of_has T14.out⟩
                clear hK K hHeld
                have hHeld := hNew
                clear hNew
                refine wpAnyH_done (by kernel_rfl) ?_ _
                clear hHeld
                go_wp2
                go_meet
                exact ⟨xb, yb, rfl, rfl, ⟨B14.out, P14.out, T14.out⟩, X14.out, Y14.out⟩
      · skip
        go_simp
        have Q_ := own1 u9 (.cells (enc zeroM) 34)
        have B10 := Lib.hid (vian HN.out B9.out Q_)
        have P10 := Lib.hid (P9.out.below Q_)
        have T10 := Lib.hid (T9.out.below Q_)
        have Q10 := Lib.hid (Q9.out.below Q_)
        have F10 := Lib.hid (F9.out.below Q_)
        have X10 := Lib.hid (Has.new u9 (enc zeroM) 34)
        have LX := Lib.hid (Nat.le_trans HN.out B9.out.size)
        have NPX := Lib.hid (Nat.ne_of_lt P9.out.1)
        have NTX := Lib.hid (Nat.ne_of_lt T9.out.1)
        have NQX := Lib.hid (Nat.ne_of_lt Q9.out.1)
        have NFX := Lib.hid (Nat.ne_of_lt F9.out.1)
        clear Q_ B9 P9 T9 Q9 F9
        generalize u9.alloc (.cells (enc zeroM) 34) = u10 at B10 P10 T10 Q10 F10 X10 ⊢
        generalize u9.heap.size = xb at X10 LX NPX NTX NQX NFX ⊢
        refine hK.out _ _ ?s22 (fun hNew => ?r22)
        case s22 => exact ⟨F10.out.2.1, Q10.out.2.1, range_of_has T10.out⟩
        clear hK K hHeld
        have hHeld := hNew
        clear hNew
        refine wpAnyH_ready (rs := [12, 14]) (by kernel_rfl) (by simp) ?_
        refine (AllReadyH.cons (o := { dst := some 58, op := Go.Op.call { callee := Go.Callee.value (Go.Operand.func 17), args := #[Go.Operand.tmp 53, Go.Operand.tmp 54, Go.Operand.const (Go.Value.slice none 0 0), Go.Operand.tmp 56, Go.Operand.tmp 57], argTypes := #[27, 22, 22, 3, 34] }, type := 34, pos := "law.go:106", after := #[{ on := 7, ground := Go.Ground.data }, { on := 8, ground := Go.Ground.data }, { on := 10, ground := Go.Ground.data }, { on := 11, ground := Go.Ground.data }, { on := 6, ground := Go.Ground.chain }], guard := none }) rfl (fun K hK => ?_) (AllReadyH.cons (o := { dst := some 16, op := Go.Op.alloc 34, type := 0, pos := "law.go:106", after := #[], guard := none }) rfl (fun K hK => ?_) AllReadyH.nil))
        · skip
          go_simp
          with_reducible refine (L2.out _ (HM0.out.at HN.out B10.out) (mem_nil _)).mono ?_
          rintro q_ u11 ⟨rfl, hb⟩
          have B11 := Lib.hid (vian HN.out B10.out hb)
          have P11 := Lib.hid (P10.out.below hb)
          have T11 := Lib.hid (T10.out.below hb)
          have Q11 := Lib.hid (Q10.out.below hb)
          have F11 := Lib.hid (F10.out.below hb)
          have X11 := Lib.hid (X10.out.below hb)
          clear hb B10 P10 T10 Q10 F10 X10
          refine hK.out _ _ ?s23 (fun hNew => ?r23)
          case s23 => exact ⟨F11.out.2.1, Q11.out.2.1, range_of_has T11.out⟩
          clear hK K hHeld
          have hHeld := hNew
          clear hNew
          refine wpAnyH_ready (rs := [14]) (by kernel_rfl) (by simp) ?_
          refine (AllReadyH.cons (o := { dst := some 16, op := Go.Op.alloc 34, type := 0, pos := "law.go:106", after := #[], guard := none }) rfl (fun K hK => ?_) AllReadyH.nil)
          · skip
            go_simp
            have Q_ := own1 u11 (.cells (enc zeroM) 34)
            have B12 := Lib.hid (vian HN.out B11.out Q_)
            have P12 := Lib.hid (P11.out.below Q_)
            have T12 := Lib.hid (T11.out.below Q_)
            have Q12 := Lib.hid (Q11.out.below Q_)
            have F12 := Lib.hid (F11.out.below Q_)
            have X12 := Lib.hid (X11.out.below Q_)
            have Y12 := Lib.hid (Has.new u11 (enc zeroM) 34)
            have LY := Lib.hid (Nat.le_trans HN.out B11.out.size)
            have NPY := Lib.hid (Nat.ne_of_lt P11.out.1)
            have NTY := Lib.hid (Nat.ne_of_lt T11.out.1)
            have NQY := Lib.hid (Nat.ne_of_lt Q11.out.1)
            have NFY := Lib.hid (Nat.ne_of_lt F11.out.1)
            have NXY := Lib.hid (Nat.ne_of_lt X11.out.1)
            clear Q_ B11 P11 T11 Q11 F11 X11
            generalize u11.alloc (.cells (enc zeroM) 34) = u12 at B12 P12 T12 Q12 F12 X12 Y12 ⊢
            generalize u11.heap.size = yb at Y12 LY NPY NTY NQY NFY NXY ⊢
            refine hK.out _ _ ?s24 (fun hNew => ?r24)
            case s24 => exact ⟨F12.out.2.1, Q12.out.2.1, range_of_has T12.out⟩
            clear hK K hHeld
            have hHeld := hNew
            clear hNew
            refine wpAnyH_ready (rs := [15]) (by kernel_rfl) (by simp) ?_
            refine (AllReadyH.cons (o := { dst := none, op := Go.Op.store 34 (Go.Operand.tmp 15) (Go.Operand.tmp 52), type := 0, pos := "law.go:106", after := #[{ on := 13, ground := Go.Ground.data }, { on := 6, ground := Go.Ground.data }, { on := 12, ground := Go.Ground.chain }, { on := 0, ground := Go.Ground.phase }, { on := 1, ground := Go.Ground.phase }, { on := 2, ground := Go.Ground.phase }, { on := 3, ground := Go.Ground.phase }, { on := 4, ground := Go.Ground.phase }, { on := 5, ground := Go.Ground.phase }, { on := 6, ground := Go.Ground.phase }, { on := 7, ground := Go.Ground.textOnly Go.Departure.lateStores }, { on := 8, ground := Go.Ground.textOnly Go.Departure.lateStores }, { on := 9, ground := Go.Ground.textOnly Go.Departure.lateStores }, { on := 10, ground := Go.Ground.textOnly Go.Departure.lateStores }, { on := 11, ground := Go.Ground.textOnly Go.Departure.lateStores }, { on := 12, ground := Go.Ground.textOnly Go.Departure.lateStoresUnsure }, { on := 13, ground := Go.Ground.phase }, { on := 14, ground := Go.Ground.phase }], guard := none }) rfl (fun K hK => ?_) AllReadyH.nil)
            · skip
              refine wp_store_g r34 X12.out (enc_size _) (enc m) (enc_size _) (enc_one _) _ _ rfl rfl rfl ?_
              intro u13 hP hk
              try simp only [Act.put, List.setIfInBounds_toArray, List.set_cons_zero, List.set_cons_succ]
              have X13 := Lib.hid hP
              have B13 := Lib.hid (hk.below HN.out LX.out B12.out)
              have P13 := Lib.hid (hk.has NPX.out P12.out)
              have T13 := Lib.hid (hk.has NTX.out T12.out)
              have Q13 := Lib.hid (hk.has NQX.out Q12.out)
              have F13 := Lib.hid (hk.has NFX.out F12.out)
              have Y13 := Lib.hid (hk.has (Ne.symm NXY.out) Y12.out)
              clear hP hk B12 P12 T12 Q12 F12 X12 Y12
              refine hK.out _ _ ?s25 (fun hNew => ?r25)
              case s25 => exact ⟨F13.out.2.1, Q13.out.2.1, range_of_has T13.out⟩
              clear hK K hHeld
              have hHeld := hNew
              clear hNew
              refine wpAnyH_ready (rs := [16]) (by kernel_rfl) (by simp) ?_
              refine (AllReadyH.cons (o := { dst := none, op := Go.Op.store 34 (Go.Operand.tmp 16) (Go.Operand.tmp 58), type := 0, pos := "law.go:106", after := #[{ on := 14, ground := Go.Ground.data }, { on := 12, ground := Go.Ground.data }, { on := 15, ground := Go.Ground.chain }, { on := 0, ground := Go.Ground.phase }, { on := 1, ground := Go.Ground.phase }, { on := 2, ground := Go.Ground.phase }, { on := 3, ground := Go.Ground.phase }, { on := 4, ground := Go.Ground.phase }, { on := 5, ground := Go.Ground.phase }, { on := 6, ground := Go.Ground.phase }, { on := 7, ground := Go.Ground.phase }, { on := 8, ground := Go.Ground.phase }, { on := 9, ground := Go.Ground.phase }, { on := 10, ground := Go.Ground.phase }, { on := 11, ground := Go.Ground.phase }, { on := 12, ground := Go.Ground.phase }, { on := 13, ground := Go.Ground.phase }, { on := 14, ground := Go.Ground.phase }, { on := 15, ground := Go.Ground.phase }], guard := none }) rfl (fun K hK => ?_) AllReadyH.nil)
              · skip
                refine wp_store_g r34 Y13.out (enc_size _) (enc m) (enc_size _) (enc_one _) _ _ rfl rfl rfl ?_
                intro u14 hP hk
                try simp only [Act.put, List.setIfInBounds_toArray, List.set_cons_zero, List.set_cons_succ]
                have Y14 := Lib.hid hP
                have B14 := Lib.hid (hk.below HN.out LY.out B13.out)
                have P14 := Lib.hid (hk.has NPY.out P13.out)
                have T14 := Lib.hid (hk.has NTY.out T13.out)
                have Q14 := Lib.hid (hk.has NQY.out Q13.out)
                have F14 := Lib.hid (hk.has NFY.out F13.out)
                have X14 := Lib.hid (hk.has NXY.out X13.out)
                clear hP hk B13 P13 T13 Q13 F13 X13 Y13
                refine hK.out _ _ ?s26 (fun hNew => ?r26)
                case s26 => exact ⟨F14.out.2.1, Q14.out.2.1, range_of_has T14.out⟩
                clear hK K hHeld
                have hHeld := hNew
                clear hNew
                refine wpAnyH_done (by kernel_rfl) ?_ _
                clear hHeld
                go_wp2
                go_meet
                exact ⟨xb, yb, rfl, rfl, ⟨B14.out, P14.out, T14.out⟩, X14.out, Y14.out⟩
        · skip
          go_simp
          have Q_ := own1 u10 (.cells (enc zeroM) 34)
          have B11 := Lib.hid (vian HN.out B10.out Q_)
          have P11 := Lib.hid (P10.out.below Q_)
          have T11 := Lib.hid (T10.out.below Q_)
          have Q11 := Lib.hid (Q10.out.below Q_)
          have F11 := Lib.hid (F10.out.below Q_)
          have X11 := Lib.hid (X10.out.below Q_)
          have Y11 := Lib.hid (Has.new u10 (enc zeroM) 34)
          have LY := Lib.hid (Nat.le_trans HN.out B10.out.size)
          have NPY := Lib.hid (Nat.ne_of_lt P10.out.1)
          have NTY := Lib.hid (Nat.ne_of_lt T10.out.1)
          have NQY := Lib.hid (Nat.ne_of_lt Q10.out.1)
          have NFY := Lib.hid (Nat.ne_of_lt F10.out.1)
          have NXY := Lib.hid (Nat.ne_of_lt X10.out.1)
          clear Q_ B10 P10 T10 Q10 F10 X10
          generalize u10.alloc (.cells (enc zeroM) 34) = u11 at B11 P11 T11 Q11 F11 X11 Y11 ⊢
          generalize u10.heap.size = yb at Y11 LY NPY NTY NQY NFY NXY ⊢
          refine hK.out _ _ ?s27 (fun hNew => ?r27)
          case s27 => exact ⟨F11.out.2.1, Q11.out.2.1, range_of_has T11.out⟩
          clear hK K hHeld
          have hHeld := hNew
          clear hNew
          refine wpAnyH_ready (rs := [12]) (by kernel_rfl) (by simp) ?_
          refine (AllReadyH.cons (o := { dst := some 58, op := Go.Op.call { callee := Go.Callee.value (Go.Operand.func 17), args := #[Go.Operand.tmp 53, Go.Operand.tmp 54, Go.Operand.const (Go.Value.slice none 0 0), Go.Operand.tmp 56, Go.Operand.tmp 57], argTypes := #[27, 22, 22, 3, 34] }, type := 34, pos := "law.go:106", after := #[{ on := 7, ground := Go.Ground.data }, { on := 8, ground := Go.Ground.data }, { on := 10, ground := Go.Ground.data }, { on := 11, ground := Go.Ground.data }, { on := 6, ground := Go.Ground.chain }], guard := none }) rfl (fun K hK => ?_) AllReadyH.nil)
          · skip
            go_simp
            with_reducible refine (L2.out _ (HM0.out.at HN.out B11.out) (mem_nil _)).mono ?_
            rintro q_ u12 ⟨rfl, hb⟩
            have B12 := Lib.hid (vian HN.out B11.out hb)
            have P12 := Lib.hid (P11.out.below hb)
            have T12 := Lib.hid (T11.out.below hb)
            have Q12 := Lib.hid (Q11.out.below hb)
            have F12 := Lib.hid (F11.out.below hb)
            have X12 := Lib.hid (X11.out.below hb)
            have Y12 := Lib.hid (Y11.out.below hb)
            clear hb B11 P11 T11 Q11 F11 X11 Y11
            refine hK.out _ _ ?s28 (fun hNew => ?r28)
            case s28 => exact ⟨F12.out.2.1, Q12.out.2.1, range_of_has T12.out⟩
            clear hK K hHeld
            have hHeld := hNew
            clear hNew
            refine wpAnyH_ready (rs := [15]) (by kernel_rfl) (by simp) ?_
            refine (AllReadyH.cons (o := { dst := none, op := Go.Op.store 34 (Go.Operand.tmp 15) (Go.Operand.tmp 52), type := 0, pos := "law.go:106", after := #[{ on := 13, ground := Go.Ground.data }, { on := 6, ground := Go.Ground.data }, { on := 12, ground := Go.Ground.chain }, { on := 0, ground := Go.Ground.phase }, { on := 1, ground := Go.Ground.phase }, { on := 2, ground := Go.Ground.phase }, { on := 3, ground := Go.Ground.phase }, { on := 4, ground := Go.Ground.phase }, { on := 5, ground := Go.Ground.phase }, { on := 6, ground := Go.Ground.phase }, { on := 7, ground := Go.Ground.textOnly Go.Departure.lateStores }, { on := 8, ground := Go.Ground.textOnly Go.Departure.lateStores }, { on := 9, ground := Go.Ground.textOnly Go.Departure.lateStores }, { on := 10, ground := Go.Ground.textOnly Go.Departure.lateStores }, { on := 11, ground := Go.Ground.textOnly Go.Departure.lateStores }, { on := 12, ground := Go.Ground.textOnly Go.Departure.lateStoresUnsure }, { on := 13, ground := Go.Ground.phase }, { on := 14, ground := Go.Ground.phase }], guard := none }) rfl (fun K hK => ?_) AllReadyH.nil)
            · skip
              refine wp_store_g r34 X12.out (enc_size _) (enc m) (enc_size _) (enc_one _) _ _ rfl rfl rfl ?_
              intro u13 hP hk
              try simp only [Act.put, List.setIfInBounds_toArray, List.set_cons_zero, List.set_cons_succ]
              have X13 := Lib.hid hP
              have B13 := Lib.hid (hk.below HN.out LX.out B12.out)
              have P13 := Lib.hid (hk.has NPX.out P12.out)
              have T13 := Lib.hid (hk.has NTX.out T12.out)
              have Q13 := Lib.hid (hk.has NQX.out Q12.out)
              have F13 := Lib.hid (hk.has NFX.out F12.out)
              have Y13 := Lib.hid (hk.has (Ne.symm NXY.out) Y12.out)
              clear hP hk B12 P12 T12 Q12 F12 X12 Y12
              refine hK.out _ _ ?s29 (fun hNew => ?r29)
              case s29 => exact ⟨F13.out.2.1, Q13.out.2.1, range_of_has T13.out⟩
              clear hK K hHeld
              have hHeld := hNew
              clear hNew
              refine wpAnyH_ready (rs := [16]) (by kernel_rfl) (by simp) ?_
              refine (AllReadyH.cons (o := { dst := none, op := Go.Op.store 34 (Go.Operand.tmp 16) (Go.Operand.tmp 58), type := 0, pos := "law.go:106", after := #[{ on := 14, ground := Go.Ground.data }, { on := 12, ground := Go.Ground.data }, { on := 15, ground := Go.Ground.chain }, { on := 0, ground := Go.Ground.phase }, { on := 1, ground := Go.Ground.phase }, { on := 2, ground := Go.Ground.phase }, { on := 3, ground := Go.Ground.phase }, { on := 4, ground := Go.Ground.phase }, { on := 5, ground := Go.Ground.phase }, { on := 6, ground := Go.Ground.phase }, { on := 7, ground := Go.Ground.phase }, { on := 8, ground := Go.Ground.phase }, { on := 9, ground := Go.Ground.phase }, { on := 10, ground := Go.Ground.phase }, { on := 11, ground := Go.Ground.phase }, { on := 12, ground := Go.Ground.phase }, { on := 13, ground := Go.Ground.phase }, { on := 14, ground := Go.Ground.phase }, { on := 15, ground := Go.Ground.phase }], guard := none }) rfl (fun K hK => ?_) AllReadyH.nil)
              · skip
                refine wp_store_g r34 Y13.out (enc_size _) (enc m) (enc_size _) (enc_one _) _ _ rfl rfl rfl ?_
                intro u14 hP hk
                try simp only [Act.put, List.setIfInBounds_toArray, List.set_cons_zero, List.set_cons_succ]
                have Y14 := Lib.hid hP
                have B14 := Lib.hid (hk.below HN.out LY.out B13.out)
                have P14 := Lib.hid (hk.has NPY.out P13.out)
                have T14 := Lib.hid (hk.has NTY.out T13.out)
                have Q14 := Lib.hid (hk.has NQY.out Q13.out)
                have F14 := Lib.hid (hk.has NFY.out F13.out)
                have X14 := Lib.hid (hk.has NXY.out X13.out)
                clear hP hk B13 P13 T13 Q13 F13 X13 Y13
                refine hK.out _ _ ?s30 (fun hNew => ?r30)
                case s30 => exact ⟨F14.out.2.1, Q14.out.2.1, range_of_has T14.out⟩
                clear hK K hHeld
                have hHeld := hNew
                clear hNew
                refine wpAnyH_done (by kernel_rfl) ?_ _
                clear hHeld
                go_wp2
                go_meet
                exact ⟨xb, yb, rfl, rfl, ⟨B14.out, P14.out, T14.out⟩, X14.out, Y14.out⟩
      · skip
        go_simp
        have Q_ := own1 u9 (.cells (enc zeroM) 34)
        have B10 := Lib.hid (vian HN.out B9.out Q_)
        have P10 := Lib.hid (P9.out.below Q_)
        have T10 := Lib.hid (T9.out.below Q_)
        have Q10 := Lib.hid (Q9.out.below Q_)
        have F10 := Lib.hid (F9.out.below Q_)
        have Y10 := Lib.hid (Has.new u9 (enc zeroM) 34)
        have LY := Lib.hid (Nat.le_trans HN.out B9.out.size)
        have NPY := Lib.hid (Nat.ne_of_lt P9.out.1)
        have NTY := Lib.hid (Nat.ne_of_lt T9.out.1)
        have NQY := Lib.hid (Nat.ne_of_lt Q9.out.1)
        have NFY := Lib.hid (Nat.ne_of_lt F9.out.1)
        clear Q_ B9 P9 T9 Q9 F9
        generalize u9.alloc (.cells (enc zeroM) 34) = u10 at B10 P10 T10 Q10 F10 Y10 ⊢
        generalize u9.heap.size = yb at Y10 LY NPY NTY NQY NFY ⊢
        refine hK.out _ _ ?s31 (fun hNew => ?r31)
        case s31 => exact ⟨F10.out.2.1, Q10.out.2.1, range_of_has T10.out⟩
        clear hK K hHeld
        have hHeld := hNew
        clear hNew
        refine wpAnyH_ready (rs := [12, 13]) (by kernel_rfl) (by simp) ?_
        refine (AllReadyH.cons (o := { dst := some 58, op := Go.Op.call { callee := Go.Callee.value (Go.Operand.func 17), args := #[Go.Operand.tmp 53, Go.Operand.tmp 54, Go.Operand.const (Go.Value.slice none 0 0), Go.Operand.tmp 56, Go.Operand.tmp 57], argTypes := #[27, 22, 22, 3, 34] }, type := 34, pos := "law.go:106", after := #[{ on := 7, ground := Go.Ground.data }, { on := 8, ground := Go.Ground.data }, { on := 10, ground := Go.Ground.data }, { on := 11, ground := Go.Ground.data }, { on := 6, ground := Go.Ground.chain }], guard := none }) rfl (fun K hK => ?_) (AllReadyH.cons (o := { dst := some 15, op := Go.Op.alloc 34, type := 0, pos := "law.go:106", after := #[], guard := none }) rfl (fun K hK => ?_) AllReadyH.nil))
        · skip
          go_simp
          with_reducible refine (L2.out _ (HM0.out.at HN.out B10.out) (mem_nil _)).mono ?_
          rintro q_ u11 ⟨rfl, hb⟩
          have B11 := Lib.hid (vian HN.out B10.out hb)
          have P11 := Lib.hid (P10.out.below hb)
          have T11 := Lib.hid (T10.out.below hb)
          have Q11 := Lib.hid (Q10.out.below hb)
          have F11 := Lib.hid (F10.out.below hb)
          have Y11 := Lib.hid (Y10.out.below hb)
          clear hb B10 P10 T10 Q10 F10 Y10
          refine hK.out _ _ ?s32 (fun hNew => ?r32)
          case s32 => exact ⟨F11.out.2.1, Q11.out.2.1, range_of_has T11.out⟩
          clear hK K hHeld
          have hHeld := hNew
          clear hNew
          refine wpAnyH_ready (rs := [13]) (by kernel_rfl) (by simp) ?_
          refine (AllReadyH.cons (o := { dst := some 15, op := Go.Op.alloc 34, type := 0, pos := "law.go:106", after := #[], guard := none }) rfl (fun K hK => ?_) AllReadyH.nil)
          · skip
            go_simp
            have Q_ := own1 u11 (.cells (enc zeroM) 34)
            have B12 := Lib.hid (vian HN.out B11.out Q_)
            have P12 := Lib.hid (P11.out.below Q_)
            have T12 := Lib.hid (T11.out.below Q_)
            have Q12 := Lib.hid (Q11.out.below Q_)
            have F12 := Lib.hid (F11.out.below Q_)
            have Y12 := Lib.hid (Y11.out.below Q_)
            have X12 := Lib.hid (Has.new u11 (enc zeroM) 34)
            have LX := Lib.hid (Nat.le_trans HN.out B11.out.size)
            have NPX := Lib.hid (Nat.ne_of_lt P11.out.1)
            have NTX := Lib.hid (Nat.ne_of_lt T11.out.1)
            have NQX := Lib.hid (Nat.ne_of_lt Q11.out.1)
            have NFX := Lib.hid (Nat.ne_of_lt F11.out.1)
            have NYX := Lib.hid (Nat.ne_of_lt Y11.out.1)
            clear Q_ B11 P11 T11 Q11 F11 Y11
            generalize u11.alloc (.cells (enc zeroM) 34) = u12 at B12 P12 T12 Q12 F12 Y12 X12 ⊢
            generalize u11.heap.size = xb at X12 LX NPX NTX NQX NFX NYX ⊢
            refine hK.out _ _ ?s33 (fun hNew => ?r33)
            case s33 => exact ⟨F12.out.2.1, Q12.out.2.1, range_of_has T12.out⟩
            clear hK K hHeld
            have hHeld := hNew
            clear hNew
            refine wpAnyH_ready (rs := [15]) (by kernel_rfl) (by simp) ?_
            refine (AllReadyH.cons (o := { dst := none, op := Go.Op.store 34 (Go.Operand.tmp 15) (Go.Operand.tmp 52), type := 0, pos := "law.go:106", after := #[{ on := 13, ground := Go.Ground.data }, { on := 6, ground := Go.Ground.data }, { on := 12, ground := Go.Ground.chain }, { on := 0, ground := Go.Ground.phase }, { on := 1, ground := Go.Ground.phase }, { on := 2, ground := Go.Ground.phase }, { on := 3, ground := Go.Ground.phase }, { on := 4, ground := Go.Ground.phase }, { on := 5, ground := Go.Ground.phase }, { on := 6, ground := Go.Ground.phase }, { on := 7, ground := Go.Ground.textOnly Go.Departure.lateStores }, { on := 8, ground := Go.Ground.textOnly Go.Departure.lateStores }, { on := 9, ground := Go.Ground.textOnly Go.Departure.lateStores }, { on := 10, ground := Go.Ground.textOnly Go.Departure.lateStores }, { on := 11, ground := Go.Ground.textOnly Go.Departure.lateStores }, { on := 12, ground := Go.Ground.textOnly Go.Departure.lateStoresUnsure }, { on := 13, ground := Go.Ground.phase }, { on := 14, ground := Go.Ground.phase }], guard := none }) rfl (fun K hK => ?_) AllReadyH.nil)
            · skip
              refine wp_store_g r34 X12.out (enc_size _) (enc m) (enc_size _) (enc_one _) _ _ rfl rfl rfl ?_
              intro u13 hP hk
              try simp only [Act.put, List.setIfInBounds_toArray, List.set_cons_zero, List.set_cons_succ]
              have X13 := Lib.hid hP
              have B13 := Lib.hid (hk.below HN.out LX.out B12.out)
              have P13 := Lib.hid (hk.has NPX.out P12.out)
              have T13 := Lib.hid (hk.has NTX.out T12.out)
              have Q13 := Lib.hid (hk.has NQX.out Q12.out)
              have F13 := Lib.hid (hk.has NFX.out F12.out)
              have Y13 := Lib.hid (hk.has NYX.out Y12.out)
              clear hP hk B12 P12 T12 Q12 F12 Y12 X12
              refine hK.out _ _ ?s34 (fun hNew => ?r34)
              case s34 => exact ⟨F13.out.2.1, Q13.out.2.1, range_of_has T13.out⟩
              clear hK K hHeld
              have hHeld := hNew
              clear hNew
              refine wpAnyH_ready (rs := [16]) (by kernel_rfl) (by simp) ?_
              refine (AllReadyH.cons (o := { dst := none, op := Go.Op.store 34 (Go.Operand.tmp 16) (Go.Operand.tmp 58), type := 0, pos := "law.go:106", after := #[{ on := 14, ground := Go.Ground.data }, { on := 12, ground := Go.Ground.data }, { on := 15, ground := Go.Ground.chain }, { on := 0, ground := Go.Ground.phase }, { on := 1, ground := Go.Ground.phase }, { on := 2, ground := Go.Ground.phase }, { on := 3, ground := Go.Ground.phase }, { on := 4, ground := Go.Ground.phase }, { on := 5, ground := Go.Ground.phase }, { on := 6, ground := Go.Ground.phase }, { on := 7, ground := Go.Ground.phase }, { on := 8, ground := Go.Ground.phase }, { on := 9, ground := Go.Ground.phase }, { on := 10, ground := Go.Ground.phase }, { on := 11, ground := Go.Ground.phase }, { on := 12, ground := Go.Ground.phase }, { on := 13, ground := Go.Ground.phase }, { on := 14, ground := Go.Ground.phase }, { on := 15, ground := Go.Ground.phase }], guard := none }) rfl (fun K hK => ?_) AllReadyH.nil)
              · skip
                refine wp_store_g r34 Y13.out (enc_size _) (enc m) (enc_size _) (enc_one _) _ _ rfl rfl rfl ?_
                intro u14 hP hk
                try simp only [Act.put, List.setIfInBounds_toArray, List.set_cons_zero, List.set_cons_succ]
                have Y14 := Lib.hid hP
                have B14 := Lib.hid (hk.below HN.out LY.out B13.out)
                have P14 := Lib.hid (hk.has NPY.out P13.out)
                have T14 := Lib.hid (hk.has NTY.out T13.out)
                have Q14 := Lib.hid (hk.has NQY.out Q13.out)
                have F14 := Lib.hid (hk.has NFY.out F13.out)
                have X14 := Lib.hid (hk.has (Ne.symm NYX.out) X13.out)
                clear hP hk B13 P13 T13 Q13 F13 Y13 X13
                refine hK.out _ _ ?s35 (fun hNew => ?r35)
                case s35 => exact ⟨F14.out.2.1, Q14.out.2.1, range_of_has T14.out⟩
                clear hK K hHeld
                have hHeld := hNew
                clear hNew
                refine wpAnyH_done (by kernel_rfl) ?_ _
                clear hHeld
                go_wp2
                go_meet
                exact ⟨xb, yb, rfl, rfl, ⟨B14.out, P14.out, T14.out⟩, X14.out, Y14.out⟩
        · skip
          go_simp
          have Q_ := own1 u10 (.cells (enc zeroM) 34)
          have B11 := Lib.hid (vian HN.out B10.out Q_)
          have P11 := Lib.hid (P10.out.below Q_)
          have T11 := Lib.hid (T10.out.below Q_)
          have Q11 := Lib.hid (Q10.out.below Q_)
          have F11 := Lib.hid (F10.out.below Q_)
          have Y11 := Lib.hid (Y10.out.below Q_)
          have X11 := Lib.hid (Has.new u10 (enc zeroM) 34)
          have LX := Lib.hid (Nat.le_trans HN.out B10.out.size)
          have NPX := Lib.hid (Nat.ne_of_lt P10.out.1)
          have NTX := Lib.hid (Nat.ne_of_lt T10.out.1)
          have NQX := Lib.hid (Nat.ne_of_lt Q10.out.1)
          have NFX := Lib.hid (Nat.ne_of_lt F10.out.1)
          have NYX := Lib.hid (Nat.ne_of_lt Y10.out.1)
          clear Q_ B10 P10 T10 Q10 F10 Y10
          generalize u10.alloc (.cells (enc zeroM) 34) = u11 at B11 P11 T11 Q11 F11 Y11 X11 ⊢
          generalize u10.heap.size = xb at X11 LX NPX NTX NQX NFX NYX ⊢
          refine hK.out _ _ ?s36 (fun hNew => ?r36)
          case s36 => exact ⟨F11.out.2.1, Q11.out.2.1, range_of_has T11.out⟩
          clear hK K hHeld
          have hHeld := hNew
          clear hNew
          refine wpAnyH_ready (rs := [12]) (by kernel_rfl) (by simp) ?_
          refine (AllReadyH.cons (o := { dst := some 58, op := Go.Op.call { callee := Go.Callee.value (Go.Operand.func 17), args := #[Go.Operand.tmp 53, Go.Operand.tmp 54, Go.Operand.const (Go.Value.slice none 0 0), Go.Operand.tmp 56, Go.Operand.tmp 57], argTypes := #[27, 22, 22, 3, 34] }, type := 34, pos := "law.go:106", after := #[{ on := 7, ground := Go.Ground.data }, { on := 8, ground := Go.Ground.data }, { on := 10, ground := Go.Ground.data }, { on := 11, ground := Go.Ground.data }, { on := 6, ground := Go.Ground.chain }], guard := none }) rfl (fun K hK => ?_) AllReadyH.nil)
          · skip
            go_simp
            with_reducible refine (L2.out _ (HM0.out.at HN.out B11.out) (mem_nil _)).mono ?_
            rintro q_ u12 ⟨rfl, hb⟩
            have B12 := Lib.hid (vian HN.out B11.out hb)
            have P12 := Lib.hid (P11.out.below hb)
            have T12 := Lib.hid (T11.out.below hb)
            have Q12 := Lib.hid (Q11.out.below hb)
            have F12 := Lib.hid (F11.out.below hb)
            have Y12 := Lib.hid (Y11.out.below hb)
            have X12 := Lib.hid (X11.out.below hb)
            clear hb B11 P11 T11 Q11 F11 Y11 X11
            refine hK.out _ _ ?s37 (fun hNew => ?r37)
            case s37 => exact ⟨F12.out.2.1, Q12.out.2.1, range_of_has T12.out⟩
            clear hK K hHeld
            have hHeld := hNew
            clear hNew
            refine wpAnyH_ready (rs := [15]) (by kernel_rfl) (by simp) ?_
            refine (AllReadyH.cons (o := { dst := none, op := Go.Op.store 34 (Go.Operand.tmp 15) (Go.Operand.tmp 52), type := 0, pos := "law.go:106", after := #[{ on := 13, ground := Go.Ground.data }, { on := 6, ground := Go.Ground.data }, { on := 12, ground := Go.Ground.chain }, { on := 0, ground := Go.Ground.phase }, { on := 1, ground := Go.Ground.phase }, { on := 2, ground := Go.Ground.phase }, { on := 3, ground := Go.Ground.phase }, { on := 4, ground := Go.Ground.phase }, { on := 5, ground := Go.Ground.phase }, { on := 6, ground := Go.Ground.phase }, { on := 7, ground := Go.Ground.textOnly Go.Departure.lateStores }, { on := 8, ground := Go.Ground.textOnly Go.Departure.lateStores }, { on := 9, ground := Go.Ground.textOnly Go.Departure.lateStores }, { on := 10, ground := Go.Ground.textOnly Go.Departure.lateStores }, { on := 11, ground := Go.Ground.textOnly Go.Departure.lateStores }, { on := 12, ground := Go.Ground.textOnly Go.Departure.lateStoresUnsure }, { on := 13, ground := Go.Ground.phase }, { on := 14, ground := Go.Ground.phase }], guard := none }) rfl (fun K hK => ?_) AllReadyH.nil)
            · skip
              refine wp_store_g r34 X12.out (enc_size _) (enc m) (enc_size _) (enc_one _) _ _ rfl rfl rfl ?_
              intro u13 hP hk
              try simp only [Act.put, List.setIfInBounds_toArray, List.set_cons_zero, List.set_cons_succ]
              have X13 := Lib.hid hP
              have B13 := Lib.hid (hk.below HN.out LX.out B12.out)
              have P13 := Lib.hid (hk.has NPX.out P12.out)
              have T13 := Lib.hid (hk.has NTX.out T12.out)
              have Q13 := Lib.hid (hk.has NQX.out Q12.out)
              have F13 := Lib.hid (hk.has NFX.out F12.out)
              have Y13 := Lib.hid (hk.has NYX.out Y12.out)
              clear hP hk B12 P12 T12 Q12 F12 Y12 X12
              refine hK.out _ _ ?s38 (fun hNew => ?r38)
              case s38 => exact ⟨F13.out.2.1, Q13.out.2.1, range_of_has T13.out⟩
              clear hK K hHeld
              have hHeld := hNew
              clear hNew
              refine wpAnyH_ready (rs := [16]) (by kernel_rfl) (by simp) ?_
              refine (AllReadyH.cons (o := { dst := none, op := Go.Op.store 34 (Go.Operand.tmp 16) (Go.Operand.tmp 58), type := 0, pos := "law.go:106", after := #[{ on := 14, ground := Go.Ground.data }, { on := 12, ground := Go.Ground.data }, { on := 15, ground := Go.Ground.chain }, { on := 0, ground := Go.Ground.phase }, { on := 1, ground := Go.Ground.phase }, { on := 2, ground := Go.Ground.phase }, { on := 3, ground := Go.Ground.phase }, { on := 4, ground := Go.Ground.phase }, { on := 5, ground := Go.Ground.phase }, { on := 6, ground := Go.Ground.phase }, { on := 7, ground := Go.Ground.phase }, { on := 8, ground := Go.Ground.phase }, { on := 9, ground := Go.Ground.phase }, { on := 10, ground := Go.Ground.phase }, { on := 11, ground := Go.Ground.phase }, { on := 12, ground := Go.Ground.phase }, { on := 13, ground := Go.Ground.phase }, { on := 14, ground := Go.Ground.phase }, { on := 15, ground := Go.Ground.phase }], guard := none }) rfl (fun K hK => ?_) AllReadyH.nil)
              · skip
                refine wp_store_g r34 Y13.out (enc_size _) (enc m) (enc_size _) (enc_one _) _ _ rfl rfl rfl ?_
                intro u14 hP hk
                try simp only [Act.put, List.setIfInBounds_toArray, List.set_cons_zero, List.set_cons_succ]
                have Y14 := Lib.hid hP
                have B14 := Lib.hid (hk.below HN.out LY.out B13.out)
                have P14 := Lib.hid (hk.has NPY.out P13.out)
                have T14 := Lib.hid (hk.has NTY.out T13.out)
                have Q14 := Lib.hid (hk.has NQY.out Q13.out)
                have F14 := Lib.hid (hk.has NFY.out F13.out)
                have X14 := Lib.hid (hk.has (Ne.symm NYX.out) X13.out)
                clear hP hk B13 P13 T13 Q13 F13 Y13 X13
                refine hK.out _ _ ?s39 (fun hNew => ?r39)
                case s39 => exact ⟨F14.out.2.1, Q14.out.2.1, range_of_has T14.out⟩
                clear hK K hHeld
                have hHeld := hNew
                clear hNew
                refine wpAnyH_done (by kernel_rfl) ?_ _
                clear hHeld
                go_wp2
                go_meet
                exact ⟨xb, yb, rfl, rfl, ⟨B14.out, P14.out, T14.out⟩, X14.out, Y14.out⟩
    · skip
      go_simp
      have Q_ := own1 u8 (.cells (enc zeroM) 34)
      have B9 := Lib.hid (vian HN.out B8.out Q_)
      have P9 := Lib.hid (P8.out.below Q_)
      have T9 := Lib.hid (T8.out.below Q_)
      have Q9 := Lib.hid (Q8.out.below Q_)
      have F9 := Lib.hid (F8.out.below Q_)
      have X9 := Lib.hid (Has.new u8 (enc zeroM) 34)
      have LX := Lib.hid (Nat.le_trans HN.out B8.out.size)
      have NPX := Lib.hid (Nat.ne_of_lt P8.out.1)
      have NTX := Lib.hid (Nat.ne_of_lt T8.out.1)
      have NQX := Lib.hid (Nat.ne_of_lt Q8.out.1)
      have NFX := Lib.hid (Nat.ne_of_lt F8.out.1)
      clear Q_ B8 P8 T8 Q8 F8
      generalize u8.alloc (.cells (enc zeroM) 34) = u9 at B9 P9 T9 Q9 F9 X9 ⊢
      generalize u8.heap.size = xb at X9 LX NPX NTX NQX NFX ⊢
      refine hK.out _ _ ?s40 (fun hNew => ?r40)
      case s40 => exact ⟨F9.out.2.1, Q9.out.2.1, range_of_has T9.out⟩
      clear hK K hHeld
      have hHeld := hNew
      clear hNew
      refine wpAnyH_ready (rs := [6, 14]) (by kernel_rfl) (by simp) ?_
      refine (AllReadyH.cons (o := { dst := some 52, op := Go.Op.call { callee := Go.Callee.value (Go.Operand.func 17), args := #[Go.Operand.tmp 46, Go.Operand.tmp 47, Go.Operand.tmp 48, Go.Operand.tmp 50, Go.Operand.tmp 51], argTypes := #[27, 22, 22, 3, 34] }, type := 34, pos := "law.go:106", after := #[{ on := 0, ground := Go.Ground.data }, { on := 1, ground := Go.Ground.data }, { on := 2, ground := Go.Ground.data }, { on := 4, ground := Go.Ground.data }, { on := 5, ground := Go.Ground.data }], guard := none }) rfl (fun K hK => ?_) (AllReadyH.cons (o := { dst := some 16, op := Go.Op.alloc 34, type := 0, pos := "law.go:106", after := #[], guard := none }) rfl (fun K hK => ?_) AllReadyH.nil))
      · skip
        go_simp
        with_reducible refine (L1.out _ (HM0.out.at HN.out B9.out) (HM1.out.at HN.out B9.out)).mono ?_
        rintro q_ u10 ⟨rfl, hb⟩
        have B10 := Lib.hid (vian HN.out B9.out hb)
        have P10 := Lib.hid (P9.out.below hb)
        have T10 := Lib.hid (T9.out.below hb)
        have Q10 := Lib.hid (Q9.out.below hb)
        have F10 := Lib.hid (F9.out.below hb)
        have X10 := Lib.hid (X9.out.below hb)
        clear hb B9 P9 T9 Q9 F9 X9
        refine hK.out _ _ ?s41 (fun hNew => ?r41)
        case s41 => exact ⟨F10.out.2.1, Q10.out.2.1, range_of_has T10.out⟩
        clear hK K hHeld
        have hHeld := hNew
        clear hNew
        refine wpAnyH_ready (rs := [12, 14]) (by kernel_rfl) (by simp) ?_
        refine (AllReadyH.cons (o := { dst := some 58, op := Go.Op.call { callee := Go.Callee.value (Go.Operand.func 17), args := #[Go.Operand.tmp 53, Go.Operand.tmp 54, Go.Operand.const (Go.Value.slice none 0 0), Go.Operand.tmp 56, Go.Operand.tmp 57], argTypes := #[27, 22, 22, 3, 34] }, type := 34, pos := "law.go:106", after := #[{ on := 7, ground := Go.Ground.data }, { on := 8, ground := Go.Ground.data }, { on := 10, ground := Go.Ground.data }, { on := 11, ground := Go.Ground.data }, { on := 6, ground := Go.Ground.chain }], guard := none }) rfl (fun K hK => ?_) (AllReadyH.cons (o := { dst := some 16, op := Go.Op.alloc 34, type := 0, pos := "law.go:106", after := #[], guard := none }) rfl (fun K hK => ?_) AllReadyH.nil))
        · skip
          go_simp
          with_reducible refine (L2.out _ (HM0.out.at HN.out B10.out) (mem_nil _)).mono ?_
          rintro q_ u11 ⟨rfl, hb⟩
          have B11 := Lib.hid (vian HN.out B10.out hb)
          have P11 := Lib.hid (P10.out.below hb)
          have T11 := Lib.hid (T10.out.below hb)
          have Q11 := Lib.hid (Q10.out.below hb)
          have F11 := Lib.hid (F10.out.below hb)
          have X11 := Lib.hid (X10.out.below hb)
          clear hb B10 P10 T10 Q10 F10 X10
          refine hK.out _ _ ?s42 (fun hNew => ?r42)
          case s42 => exact ⟨F11.out.2.1, Q11.out.2.1, range_of_has T11.out⟩
          clear hK K hHeld
          have hHeld := hNew
          clear hNew
          refine wpAnyH_ready (rs := [14]) (by kernel_rfl) (by simp) ?_
          refine (AllReadyH.cons (o := { dst := some 16, op := Go.Op.alloc 34, type := 0, pos := "law.go:106", after := #[], guard := none }) rfl (fun K hK => ?_) AllReadyH.nil)
          · skip
            go_simp
            have Q_ := own1 u11 (.cells (enc zeroM) 34)
            have B12 := Lib.hid (vian HN.out B11.out Q_)
            have P12 := Lib.hid (P11.out.below Q_)
            have T12 := Lib.hid (T11.out.below Q_)
            have Q12 := Lib.hid (Q11.out.below Q_)
            have F12 := Lib.hid (F11.out.below Q_)
            have X12 := Lib.hid (X11.out.below Q_)
            have Y12 := Lib.hid (Has.new u11 (enc zeroM) 34)
            have LY := Lib.hid (Nat.le_trans HN.out B11.out.size)
            have NPY := Lib.hid (Nat.ne_of_lt P11.out.1)
            have NTY := Lib.hid (Nat.ne_of_lt T11.out.1)
            have NQY := Lib.hid (Nat.ne_of_lt Q11.out.1)
            have NFY := Lib.hid (Nat.ne_of_lt F11.out.1)
            have NXY := Lib.hid (Nat.ne_of_lt X11.out.1)
            clear Q_ B11 P11 T11 Q11 F11 X11
            generalize u11.alloc (.cells (enc zeroM) 34) = u12 at B12 P12 T12 Q12 F12 X12 Y12 ⊢
            generalize u11.heap.size = yb at Y12 LY NPY NTY NQY NFY NXY ⊢
            refine hK.out _ _ ?s43 (fun hNew => ?r43)
            case s43 => exact ⟨F12.out.2.1, Q12.out.2.1, range_of_has T12.out⟩
            clear hK K hHeld
            have hHeld := hNew
            clear hNew
            refine wpAnyH_ready (rs := [15]) (by kernel_rfl) (by simp) ?_
            refine (AllReadyH.cons (o := { dst := none, op := Go.Op.store 34 (Go.Operand.tmp 15) (Go.Operand.tmp 52), type := 0, pos := "law.go:106", after := #[{ on := 13, ground := Go.Ground.data }, { on := 6, ground := Go.Ground.data }, { on := 12, ground := Go.Ground.chain }, { on := 0, ground := Go.Ground.phase }, { on := 1, ground := Go.Ground.phase }, { on := 2, ground := Go.Ground.phase }, { on := 3, ground := Go.Ground.phase }, { on := 4, ground := Go.Ground.phase }, { on := 5, ground := Go.Ground.phase }, { on := 6, ground := Go.Ground.phase }, { on := 7, ground := Go.Ground.textOnly Go.Departure.lateStores }, { on := 8, ground := Go.Ground.textOnly Go.Departure.lateStores }, { on := 9, ground := Go.Ground.textOnly Go.Departure.lateStores }, { on := 10, ground := Go.Ground.textOnly Go.Departure.lateStores }, { on := 11, ground := Go.Ground.textOnly Go.Departure.lateStores }, { on := 12, ground := Go.Ground.textOnly Go.Departure.lateStoresUnsure }, { on := 13, ground := Go.Ground.phase }, { on := 14, ground := Go.Ground.phase }], guard := none }) rfl (fun K hK => ?_) AllReadyH.nil)
            · skip
              refine wp_store_g r34 X12.out (enc_size _) (enc m) (enc_size _) (enc_one _) _ _ rfl rfl rfl ?_
              intro u13 hP hk
              try simp only [Act.put, List.setIfInBounds_toArray, List.set_cons_zero, List.set_cons_succ]
              have X13 := Lib.hid hP
              have B13 := Lib.hid (hk.below HN.out LX.out B12.out)
              have P13 := Lib.hid (hk.has NPX.out P12.out)
              have T13 := Lib.hid (hk.has NTX.out T12.out)
              have Q13 := Lib.hid (hk.has NQX.out Q12.out)
              have F13 := Lib.hid (hk.has NFX.out F12.out)
              have Y13 := Lib.hid (hk.has (Ne.symm NXY.out) Y12.out)
              clear hP hk B12 P12 T12 Q12 F12 X12 Y12
              refine hK.out _ _ ?s44 (fun hNew => ?r44)
              case s44 => exact ⟨F13.out.2.1, Q13.out.2.1, range_of_has T13.out⟩
              clear hK K hHeld
              have hHeld := hNew
              clear hNew
              refine wpAnyH_ready (rs := [16]) (by kernel_rfl) (by simp) ?_
              refine (AllReadyH.cons (o := { dst := none, op := Go.Op.store 34 (Go.Operand.tmp 16) (Go.Operand.tmp 58), type := 0, pos := "law.go:106", after := #[{ on := 14, ground := Go.Ground.data }, { on := 12, ground := Go.Ground.data }, { on := 15, ground := Go.Ground.chain }, { on := 0, ground := Go.Ground.phase }, { on := 1, ground := Go.Ground.phase }, { on := 2, ground := Go.Ground.phase }, { on := 3, ground := Go.Ground.phase }, { on := 4, ground := Go.Ground.phase }, { on := 5, ground := Go.Ground.phase }, { on := 6, ground := Go.Ground.phase }, { on := 7, ground := Go.Ground.phase }, { on := 8, ground := Go.Ground.phase }, { on := 9, ground := Go.Ground.phase }, { on := 10, ground := Go.Ground.phase }, { on := 11, ground := Go.Ground.phase }, { on := 12, ground := Go.Ground.phase }, { on := 13, ground := Go.Ground.phase }, { on := 14, ground := Go.Ground.phase }, { on := 15, ground := Go.Ground.phase }], guard := none }) rfl (fun K hK => ?_) AllReadyH.nil)
              · skip
                refine wp_store_g r34 Y13.out (enc_size _) (enc m) (enc_size _) (enc_one _) _ _ rfl rfl rfl ?_
                intro u14 hP hk
                try simp only [Act.put, List.setIfInBounds_toArray, List.set_cons_zero, List.set_cons_succ]
                have Y14 := Lib.hid hP
                have B14 := Lib.hid (hk.below HN.out LY.out B13.out)
                have P14 := Lib.hid (hk.has NPY.out P13.out)
                have T14 := Lib.hid (hk.has NTY.out T13.out)
                have Q14 := Lib.hid (hk.has NQY.out Q13.out)
                have F14 := Lib.hid (hk.has NFY.out F13.out)
                have X14 := Lib.hid (hk.has NXY.out X13.out)
                clear hP hk B13 P13 T13 Q13 F13 X13 Y13
                refine hK.out _ _ ?s45 (fun hNew => ?r45)
                case s45 => exact ⟨F14.out.2.1, Q14.out.2.1, range_of_has T14.out⟩
                clear hK K hHeld
                have hHeld := hNew
                clear hNew
                refine wpAnyH_done (by kernel_rfl) ?_ _
                clear hHeld
                go_wp2
                go_meet
                exact ⟨xb, yb, rfl, rfl, ⟨B14.out, P14.out, T14.out⟩, X14.out, Y14.out⟩
        · skip
          go_simp
          have Q_ := own1 u10 (.cells (enc zeroM) 34)
          have B11 := Lib.hid (vian HN.out B10.out Q_)
          have P11 := Lib.hid (P10.out.below Q_)
          have T11 := Lib.hid (T10.out.below Q_)
          have Q11 := Lib.hid (Q10.out.below Q_)
          have F11 := Lib.hid (F10.out.below Q_)
          have X11 := Lib.hid (X10.out.below Q_)
          have Y11 := Lib.hid (Has.new u10 (enc zeroM) 34)
          have LY := Lib.hid (Nat.le_trans HN.out B10.out.size)
          have NPY := Lib.hid (Nat.ne_of_lt P10.out.1)
          have NTY := Lib.hid (Nat.ne_of_lt T10.out.1)
          have NQY := Lib.hid (Nat.ne_of_lt Q10.out.1)
          have NFY := Lib.hid (Nat.ne_of_lt F10.out.1)
          have NXY := Lib.hid (Nat.ne_of_lt X10.out.1)
          clear Q_ B10 P10 T10 Q10 F10 X10
          generalize u10.alloc (.cells (enc zeroM) 34) = u11 at B11 P11 T11 Q11 F11 X11 Y11 ⊢
          generalize u10.heap.size = yb at Y11 LY NPY NTY NQY NFY NXY ⊢
          refine hK.out _ _ ?s46 (fun hNew => ?r46)
          case s46 => exact ⟨F11.out.2.1, Q11.out.2.1, range_of_has T11.out⟩
          clear hK K hHeld
          have hHeld := hNew
          clear hNew
          refine wpAnyH_ready (rs := [12]) (by kernel_rfl) (by simp) ?_
          refine (AllReadyH.cons (o := { dst := some 58, op := Go.Op.call { callee := Go.Callee.value (Go.Operand.func 17), args := #[Go.Operand.tmp 53, Go.Operand.tmp 54, Go.Operand.const (Go.Value.slice none 0 0), Go.Operand.tmp 56, Go.Operand.tmp 57], argTypes := #[27, 22, 22, 3, 34] }, type := 34, pos := "law.go:106", after := #[{ on := 7, ground := Go.Ground.data }, { on := 8, ground := Go.Ground.data }, { on := 10, ground := Go.Ground.data }, { on := 11, ground := Go.Ground.data }, { on := 6, ground := Go.Ground.chain }], guard := none }) rfl (fun K hK => ?_) AllReadyH.nil)
          · skip
            go_simp
            with_reducible refine (L2.out _ (HM0.out.at HN.out B11.out) (mem_nil _)).mono ?_
            rintro q_ u12 ⟨rfl, hb⟩
            have B12 := Lib.hid (vian HN.out B11.out hb)
            have P12 := Lib.hid (P11.out.below hb)
            have T12 := Lib.hid (T11.out.below hb)
            have Q12 := Lib.hid (Q11.out.below hb)
            have F12 := Lib.hid (F11.out.below hb)
            have X12 := Lib.hid (X11.out.below hb)
            have Y12 := Lib.hid (Y11.out.below hb)
            clear hb B11 P11 T11 Q11 F11 X11 Y11
            refine hK.out _ _ ?s47 (fun hNew => ?r47)
            case s47 => exact ⟨F12.out.2.1, Q12.out.2.1, range_of_has T12.out⟩
            clear hK K hHeld
            have hHeld := hNew
            clear hNew
            refine wpAnyH_ready (rs := [15]) (by kernel_rfl) (by simp) ?_
            refine (AllReadyH.cons (o := { dst := none, op := Go.Op.store 34 (Go.Operand.tmp 15) (Go.Operand.tmp 52), type := 0, pos := "law.go:106", after := #[{ on := 13, ground := Go.Ground.data }, { on := 6, ground := Go.Ground.data }, { on := 12, ground := Go.Ground.chain }, { on := 0, ground := Go.Ground.phase }, { on := 1, ground := Go.Ground.phase }, { on := 2, ground := Go.Ground.phase }, { on := 3, ground := Go.Ground.phase }, { on := 4, ground := Go.Ground.phase }, { on := 5, ground := Go.Ground.phase }, { on := 6, ground := Go.Ground.phase }, { on := 7, ground := Go.Ground.textOnly Go.Departure.lateStores }, { on := 8, ground := Go.Ground.textOnly Go.Departure.lateStores }, { on := 9, ground := Go.Ground.textOnly Go.Departure.lateStores }, { on := 10, ground := Go.Ground.textOnly Go.Departure.lateStores }, { on := 11, ground := Go.Ground.textOnly Go.Departure.lateStores }, { on := 12, ground := Go.Ground.textOnly Go.Departure.lateStoresUnsure }, { on := 13, ground := Go.Ground.phase }, { on := 14, ground := Go.Ground.phase }], guard := none }) rfl (fun K hK => ?_) AllReadyH.nil)
            · skip
              refine wp_store_g r34 X12.out (enc_size _) (enc m) (enc_size _) (enc_one _) _ _ rfl rfl rfl ?_
              intro u13 hP hk
              try simp only [Act.put, List.setIfInBounds_toArray, List.set_cons_zero, List.set_cons_succ]
              have X13 := Lib.hid hP
              have B13 := Lib.hid (hk.below HN.out LX.out B12.out)
              have P13 := Lib.hid (hk.has NPX.out P12.out)
              have T13 := Lib.hid (hk.has NTX.out T12.out)
              have Q13 := Lib.hid (hk.has NQX.out Q12.out)
              have F13 := Lib.hid (hk.has NFX.out F12.out)
              have Y13 := Lib.hid (hk.has (Ne.symm NXY.out) Y12.out)
              clear hP hk B12 P12 T12 Q12 F12 X12 Y12
              refine hK.out _ _ ?s48 (fun hNew => ?r48)
              case s48 => exact ⟨F13.out.2.1, Q13.out.2.1, range_of_has T13.out⟩
              clear hK K hHeld
              have hHeld := hNew
              clear hNew
              refine wpAnyH_ready (rs := [16]) (by kernel_rfl) (by simp) ?_
              refine (AllReadyH.cons (o := { dst := none, op := Go.Op.store 34 (Go.Operand.tmp 16) (Go.Operand.tmp 58), type := 0, pos := "law.go:106", after := #[{ on := 14, ground := Go.Ground.data }, { on := 12, ground := Go.Ground.data }, { on := 15, ground := Go.Ground.chain }, { on := 0, ground := Go.Ground.phase }, { on := 1, ground := Go.Ground.phase }, { on := 2, ground := Go.Ground.phase }, { on := 3, ground := Go.Ground.phase }, { on := 4, ground := Go.Ground.phase }, { on := 5, ground := Go.Ground.phase }, { on := 6, ground := Go.Ground.phase }, { on := 7, ground := Go.Ground.phase }, { on := 8, ground := Go.Ground.phase }, { on := 9, ground := Go.Ground.phase }, { on := 10, ground := Go.Ground.phase }, { on := 11, ground := Go.Ground.phase }, { on := 12, ground := Go.Ground.phase }, { on := 13, ground := Go.Ground.phase }, { on := 14, ground := Go.Ground.phase }, { on := 15, ground := Go.Ground.phase }], guard := none }) rfl (fun K hK => ?_) AllReadyH.nil)
              · skip
                refine wp_store_g r34 Y13.out (enc_size _) (enc m) (enc_size _) (enc_one _) _ _ rfl rfl rfl ?_
                intro u14 hP hk
                try simp only [Act.put, List.setIfInBounds_toArray, List.set_cons_zero, List.set_cons_succ]
                have Y14 := Lib.hid hP
                have B14 := Lib.hid (hk.below HN.out LY.out B13.out)
                have P14 := Lib.hid (hk.has NPY.out P13.out)
                have T14 := Lib.hid (hk.has NTY.out T13.out)
                have Q14 := Lib.hid (hk.has NQY.out Q13.out)
                have F14 := Lib.hid (hk.has NFY.out F13.out)
                have X14 := Lib.hid (hk.has NXY.out X13.out)
                clear hP hk B13 P13 T13 Q13 F13 X13 Y13
                refine hK.out _ _ ?s49 (fun hNew => ?r49)
                case s49 => exact ⟨F14.out.2.1, Q14.out.2.1, range_of_has T14.out⟩
                clear hK K hHeld
                have hHeld := hNew
                clear hNew
                refine wpAnyH_done (by kernel_rfl) ?_ _
                clear hHeld
                go_wp2
                go_meet
                exact ⟨xb, yb, rfl, rfl, ⟨B14.out, P14.out, T14.out⟩, X14.out, Y14.out⟩
      · skip
        go_simp
        have Q_ := own1 u9 (.cells (enc zeroM) 34)
        have B10 := Lib.hid (vian HN.out B9.out Q_)
        have P10 := Lib.hid (P9.out.below Q_)
        have T10 := Lib.hid (T9.out.below Q_)
        have Q10 := Lib.hid (Q9.out.below Q_)
        have F10 := Lib.hid (F9.out.below Q_)
        have X10 := Lib.hid (X9.out.below Q_)
        have Y10 := Lib.hid (Has.new u9 (enc zeroM) 34)
        have LY := Lib.hid (Nat.le_trans HN.out B9.out.size)
        have NPY := Lib.hid (Nat.ne_of_lt P9.out.1)
        have NTY := Lib.hid (Nat.ne_of_lt T9.out.1)
        have NQY := Lib.hid (Nat.ne_of_lt Q9.out.1)
        have NFY := Lib.hid (Nat.ne_of_lt F9.out.1)
        have NXY := Lib.hid (Nat.ne_of_lt X9.out.1)
        clear Q_ B9 P9 T9 Q9 F9 X9
        generalize u9.alloc (.cells (enc zeroM) 34) = u10 at B10 P10 T10 Q10 F10 X10 Y10 ⊢
        generalize u9.heap.size = yb at Y10 LY NPY NTY NQY NFY NXY ⊢
        refine hK.out _ _ ?s50 (fun hNew => ?r50)
        case s50 => exact ⟨F10.out.2.1, Q10.out.2.1, range_of_has T10.out⟩
        clear hK K hHeld
        have hHeld := hNew
        clear hNew
        refine wpAnyH_ready (rs := [6]) (by kernel_rfl) (by simp) ?_
        refine (AllReadyH.cons (o := { dst := some 52, op := Go.Op.call { callee := Go.Callee.value (Go.Operand.func 17), args := #[Go.Operand.tmp 46, Go.Operand.tmp 47, Go.Operand.tmp 48, Go.Operand.tmp 50, Go.Operand.tmp 51], argTypes := #[27, 22, 22, 3, 34] }, type := 34, pos := "law.go:106", after := #[{ on := 0, ground := Go.Ground.data }, { on := 1, ground := Go.Ground.data }, { on := 2, ground := Go.Ground.data }, { on := 4, ground := Go.Ground.data }, { on := 5, ground := Go.Ground.data }], guard := none }) rfl (fun K hK => ?_) AllReadyH.nil)
        · skip
          go_simp
          with_reducible refine (L1.out _ (HM0.out.at HN.out B10.out) (HM1.out.at HN.out B10.out)).mono ?_
          rintro q_ u11 ⟨rfl, hb⟩
          have B11 := Lib.hid (vian HN.out B10.out hb)
          have P11 := Lib.hid (P10.out.below hb)
          have T11 := Lib.hid (T10.out.below hb)
          have Q11 := Lib.hid (Q10.out.below hb)
          have F11 := Lib.hid (F10.out.below hb)
          have X11 := Lib.hid (X10.out.below hb)
          have Y11 := Lib.hid (Y10.out.below hb)
          clear hb B10 P10 T10 Q10 F10 X10 Y10
          refine hK.out _ _ ?s51 (fun hNew => ?r51)
          case s51 => exact ⟨F11.out.2.1, Q11.out.2.1, range_of_has T11.out⟩
          clear hK K hHeld
          have hHeld := hNew
          clear hNew
          refine wpAnyH_ready (rs := [12]) (by kernel_rfl) (by simp) ?_
          refine (AllReadyH.cons (o := { dst := some 58, op := Go.Op.call { callee := Go.Callee.value (Go.Operand.func 17), args := #[Go.Operand.tmp 53, Go.Operand.tmp 54, Go.Operand.const (Go.Value.slice none 0 0), Go.Operand.tmp 56, Go.Operand.tmp 57], argTypes := #[27, 22, 22, 3, 34] }, type := 34, pos := "law.go:106", after := #[{ on := 7, ground := Go.Ground.data }, { on := 8, ground := Go.Ground.data }, { on := 10, ground := Go.Ground.data }, { on := 11, ground := Go.Ground.data }, { on := 6, ground := Go.Ground.chain }], guard := none }) rfl (fun K hK => ?_) AllReadyH.nil)
          · skip
            go_simp
            with_reducible refine (L2.out _ (HM0.out.at HN.out B11.out) (mem_nil _)).mono ?_
            rintro q_ u12 ⟨rfl, hb⟩
            have B12 := Lib.hid (vian HN.out B11.out hb)
            have P12 := Lib.hid (P11.out.below hb)
            have T12 := Lib.hid (T11.out.below hb)
            have Q12 := Lib.hid (Q11.out.below hb)
            have F12 := Lib.hid (F11.out.below hb)
            have X12 := Lib.hid (X11.out.below hb)
            have Y12 := Lib.hid (Y11.out.below hb)
            clear hb B11 P11 T11 Q11 F11 X11 Y11
            refine hK.out _ _ ?s52 (fun hNew => ?r52)
            case s52 => exact ⟨F12.out.2.1, Q12.out.2.1, range_of_has T12.out⟩
            clear hK K hHeld
            have hHeld := hNew
            clear hNew
            refine wpAnyH_ready (rs := [15]) (by kernel_rfl) (by simp) ?_
            refine (AllReadyH.cons (o := { dst := none, op := Go.Op.store 34 (Go.Operand.tmp 15) (Go.Operand.tmp 52), type := 0, pos := "law.go:106", after := #[{ on := 13, ground := Go.Ground.data }, { on := 6, ground := Go.Ground.data }, { on := 12, ground := Go.Ground.chain }, { on := 0, ground := Go.Ground.phase }, { on := 1, ground := Go.Ground.phase }, { on := 2, ground := Go.Ground.phase }, { on := 3, ground := Go.Ground.phase }, { on := 4, ground := Go.Ground.phase }, { on := 5, ground := Go.Ground.phase }, { on := 6, ground := Go.Ground.phase }, { on := 7, ground := Go.Ground.textOnly Go.Departure.lateStores }, { on := 8, ground := Go.Ground.textOnly Go.Departure.lateStores }, { on := 9, ground := Go.Ground.textOnly Go.Departure.lateStores }, { on := 10, ground := Go.Ground.textOnly Go.Departure.lateStores }, { on := 11, ground := Go.Ground.textOnly Go.Departure.lateStores }, { on := 12, ground := Go.Ground.textOnly Go.Departure.lateStoresUnsure }, { on := 13, ground := Go.Ground.phase }, { on := 14, ground := Go.Ground.phase }], guard := none }) rfl (fun K hK => ?_) AllReadyH.nil)
            · skip
              refine wp_store_g r34 X12.out (enc_size _) (enc m) (enc_size _) (enc_one _) _ _ rfl rfl rfl ?_
              intro u13 hP hk
              try simp only [Act.put, List.setIfInBounds_toArray, List.set_cons_zero, List.set_cons_succ]
              have X13 := Lib.hid hP
              have B13 := Lib.hid (hk.below HN.out LX.out B12.out)
              have P13 := Lib.hid (hk.has NPX.out P12.out)
              have T13 := Lib.hid (hk.has NTX.out T12.out)
              have Q13 := Lib.hid (hk.has NQX.out Q12.out)
              have F13 := Lib.hid (hk.has NFX.out F12.out)
              have Y13 := Lib.hid (hk.has (Ne.symm NXY.out) Y12.out)
              clear hP hk B12 P12 T12 Q12 F12 X12 Y12
              refine hK.out _ _ ?s53 (fun hNew => ?r53)
              case s53 => exact ⟨F13.out.2.1, Q13.out.2.1, range_of_has T13.out⟩
              clear hK K hHeld
              have hHeld := hNew
              clear hNew
              refine wpAnyH_ready (rs := [16]) (by kernel_rfl) (by simp) ?_
              refine (AllReadyH.cons (o := { dst := none, op := Go.Op.store 34 (Go.Operand.tmp 16) (Go.Operand.tmp 58), type := 0, pos := "law.go:106", after := #[{ on := 14, ground := Go.Ground.data }, { on := 12, ground := Go.Ground.data }, { on := 15, ground := Go.Ground.chain }, { on := 0, ground := Go.Ground.phase }, { on := 1, ground := Go.Ground.phase }, { on := 2, ground := Go.Ground.phase }, { on := 3, ground := Go.Ground.phase }, { on := 4, ground := Go.Ground.phase }, { on := 5, ground := Go.Ground.phase }, { on := 6, ground := Go.Ground.phase }, { on := 7, ground := Go.Ground.phase }, { on := 8, ground := Go.Ground.phase }, { on := 9, ground := Go.Ground.phase }, { on := 10, ground := Go.Ground.phase }, { on := 11, ground := Go.Ground.phase }, { on := 12, ground := Go.Ground.phase }, { on := 13, ground := Go.Ground.phase }, { on := 14, ground := Go.Ground.phase }, { on := 15, ground := Go.Ground.phase }], guard := none }) rfl (fun K hK => ?_) AllReadyH.nil)
              · skip
                refine wp_store_g r34 Y13.out (enc_size _) (enc m) (enc_size _) (enc_one _) _ _ rfl rfl rfl ?_
                intro u14 hP hk
                try simp only [Act.put, List.setIfInBounds_toArray, List.set_cons_zero, List.set_cons_succ]
                have Y14 := Lib.hid hP
                have B14 := Lib.hid (hk.below HN.out LY.out B13.out)
                have P14 := Lib.hid (hk.has NPY.out P13.out)
                have T14 := Lib.hid (hk.has NTY.out T13.out)
                have Q14 := Lib.hid (hk.has NQY.out Q13.out)
                have F14 := Lib.hid (hk.has NFY.out F13.out)
                have X14 := Lib.hid (hk.has NXY.out X13.out)
                clear hP hk B13 P13 T13 Q13 F13 X13 Y13
                refine hK.out _ _ ?s54 (fun hNew => ?r54)
                case s54 => exact ⟨F14.out.2.1, Q14.out.2.1, range_of_has T14.out⟩
                clear hK K hHeld
                have hHeld := hNew
                clear hNew
                refine wpAnyH_done (by kernel_rfl) ?_ _
                clear hHeld
                go_wp2
                go_meet
                exact ⟨xb, yb, rfl, rfl, ⟨B14.out, P14.out, T14.out⟩, X14.out, Y14.out⟩
    · skip
      go_simp
      have Q_ := own1 u8 (.cells (enc zeroM) 34)
      have B9 := Lib.hid (vian HN.out B8.out Q_)
      have P9 := Lib.hid (P8.out.below Q_)
      have T9 := Lib.hid (T8.out.below Q_)
      have Q9 := Lib.hid (Q8.out.below Q_)
      have F9 := Lib.hid (F8.out.below Q_)
      have Y9 := Lib.hid (Has.new u8 (enc zeroM) 34)
      have LY := Lib.hid (Nat.le_trans HN.out B8.out.size)
      have NPY := Lib.hid (Nat.ne_of_lt P8.out.1)
      have NTY := Lib.hid (Nat.ne_of_lt T8.out.1)
      have NQY := Lib.hid (Nat.ne_of_lt Q8.out.1)
      have NFY := Lib.hid (Nat.ne_of_lt F8.out.1)
      clear Q_ B8 P8 T8 Q8 F8
      generalize u8.alloc (.cells (enc zeroM) 34) = u9 at B9 P9 T9 Q9 F9 Y9 ⊢
      generalize u8.heap.size = yb at Y9 LY NPY NTY NQY NFY ⊢
      refine hK.out _ _ ?s55 (fun hNew => ?r55)
      case s55 => exact ⟨F9.out.2.1, Q9.out.2.1, range_of_has T9.out⟩
      clear hK K hHeld
      have hHeld := hNew
      clear hNew
      refine wpAnyH_ready (rs := [6, 13]) (by kernel_rfl) (by simp) ?_
      refine (AllReadyH.cons (o := { dst := some 52, op := Go.Op.call { callee := Go.Callee.value (Go.Operand.func 17), args := #[Go.Operand.tmp 46, Go.Operand.tmp 47, Go.Operand.tmp 48, Go.Operand.tmp 50, Go.Operand.tmp 51], argTypes := #[27, 22, 22, 3, 34] }, type := 34, pos := "law.go:106", after := #[{ on := 0, ground := Go.Ground.data }, { on := 1, ground := Go.Ground.data }, { on := 2, ground := Go.Ground.data }, { on := 4, ground := Go.Ground.data }, { on := 5, ground := Go.Ground.data }], guard := none }) rfl (fun K hK => ?_) (AllReadyH.cons (o := { dst := some 15, op := Go.Op.alloc 34, type := 0, pos := "law.go:106", after := #[], guard := none }) rfl (fun K hK => ?_) AllReadyH.nil))
      · skip
        go_simp
        with_reducible refine (L1.out _ (HM0.out.at HN.out B9.out) (HM1.out.at HN.out B9.out)).mono ?_
        rintro q_ u10 ⟨rfl, hb⟩
        have B10 := Lib.hid (vian HN.out B9.out hb)
        have P10 := Lib.hid (P9.out.below hb)
        have T10 := Lib.hid (T9.out.below hb)
        have Q10 := Lib.hid (Q9.out.below hb)
        have F10 := Lib.hid (F9.out.below hb)
        have Y10 := Lib.hid (Y9.out.below hb)
        clear hb B9 P9 T9 Q9 F9 Y9
        refine hK.out _ _ ?s56 (fun hNew => ?r56)
        case s56 => exact ⟨F10.out.2.1, Q10.out.2.1, range_of_has T10.out⟩
        clear hK K hHeld
        have hHeld := hNew
        clear hNew
        refine wpAnyH_ready (rs := [12, 13]) (by kernel_rfl) (by simp) ?_
        refine (AllReadyH.cons (o := { dst := some 58, op := Go.Op.call { callee := Go.Callee.value (Go.Operand.func 17), args := #[Go.Operand.tmp 53, Go.Operand.tmp 54, Go.Operand.const (Go.Value.slice none 0 0), Go.Operand.tmp 56, Go.Operand.tmp 57], argTypes := #[27, 22, 22, 3, 34] }, type := 34, pos := "law.go:106", after := #[{ on := 7, ground := Go.Ground.data }, { on := 8, ground := Go.Ground.data }, { on := 10, ground := Go.Ground.data }, { on := 11, ground := Go.Ground.data }, { on := 6, ground := Go.Ground.chain }], guard := none }) rfl (fun K hK => ?_) (AllReadyH.cons (o := { dst := some 15, op := Go.Op.alloc 34, type := 0, pos := "law.go:106", after := #[], guard := none }) rfl (fun K hK => ?_) AllReadyH.nil))
        · skip
          go_simp
          with_reducible refine (L2.out _ (HM0.out.at HN.out B10.out) (mem_nil _)).mono ?_
          rintro q_ u11 ⟨rfl, hb⟩
          have B11 := Lib.hid (vian HN.out B10.out hb)
          have P11 := Lib.hid (P10.out.below hb)
          have T11 := Lib.hid (T10.out.below hb)
          have Q11 := Lib.hid (Q10.out.below hb)
          have F11 := Lib.hid (F10.out.below hb)
          have Y11 := Lib.hid (Y10.out.below hb)
          clear hb B10 P10 T10 Q10 F10 Y10
          refine hK.out _ _ ?s57 (fun hNew => ?r57)
          case s57 => exact ⟨F11.out.2.1, Q11.out.2.1, range_of_has T11.out⟩
          clear hK K hHeld
          have hHeld := hNew
          clear hNew
          refine wpAnyH_ready (rs := [13]) (by kernel_rfl) (by simp) ?_
          refine (AllReadyH.cons (o := { dst := some 15, op := Go.Op.alloc 34, type := 0, pos := "law.go:106", after := #[], guard := none }) rfl (fun K hK => ?_) AllReadyH.nil)
          · skip
            go_simp
            have Q_ := own1 u11 (.cells (enc zeroM) 34)
            have B12 := Lib.hid (vian HN.out B11.out Q_)
            have P12 := Lib.hid (P11.out.below Q_)
            have T12 := Lib.hid (T11.out.below Q_)
            have Q12 := Lib.hid (Q11.out.below Q_)
            have F12 := Lib.hid (F11.out.below Q_)
            have Y12 := Lib.hid (Y11.out.below Q_)
            have X12 := Lib.hid (Has.new u11 (enc zeroM) 34)
            have LX := Lib.hid (Nat.le_trans HN.out B11.out.size)
            have NPX := Lib.hid (Nat.ne_of_lt P11.out.1)
            have NTX := Lib.hid (Nat.ne_of_lt T11.out.1)
            have NQX := Lib.hid (Nat.ne_of_lt Q11.out.1)
            have NFX := Lib.hid (Nat.ne_of_lt F11.out.1)
            have NYX := Lib.hid (Nat.ne_of_lt Y11.out.1)
            clear Q_ B11 P11 T11 Q11 F11 Y11
            generalize u11.alloc (.cells (enc zeroM) 34) = u12 at B12 P12 T12 Q12 F12 Y12 X12 ⊢
            generalize u11.heap.size = xb at X12 LX NPX NTX NQX NFX NYX ⊢
            refine hK.out _ _ ?s58 (fun hNew => ?r58)
            case s58 => exact ⟨F12.out.2.1, Q12.out.2.1, range_of_has T12.out⟩
            clear hK K hHeld
            have hHeld := hNew
            clear hNew
            refine wpAnyH_ready (rs := [15]) (by kernel_rfl) (by simp) ?_
            refine (AllReadyH.cons (o := { dst := none, op := Go.Op.store 34 (Go.Operand.tmp 15) (Go.Operand.tmp 52), type := 0, pos := "law.go:106", after := #[{ on := 13, ground := Go.Ground.data }, { on := 6, ground := Go.Ground.data }, { on := 12, ground := Go.Ground.chain }, { on := 0, ground := Go.Ground.phase }, { on := 1, ground := Go.Ground.phase }, { on := 2, ground := Go.Ground.phase }, { on := 3, ground := Go.Ground.phase }, { on := 4, ground := Go.Ground.phase }, { on := 5, ground := Go.Ground.phase }, { on := 6, ground := Go.Ground.phase }, { on := 7, ground := Go.Ground.textOnly Go.Departure.lateStores }, { on := 8, ground := Go.Ground.textOnly Go.Departure.lateStores }, { on := 9, ground := Go.Ground.textOnly Go.Departure.lateStores }, { on := 10, ground := Go.Ground.textOnly Go.Departure.lateStores }, { on := 11, ground := Go.Ground.textOnly Go.Departure.lateStores }, { on := 12, ground := Go.Ground.textOnly Go.Departure.lateStoresUnsure }, { on := 13, ground := Go.Ground.phase }, { on := 14, ground := Go.Ground.phase }], guard := none }) rfl (fun K hK => ?_) AllReadyH.nil)
            · skip
              refine wp_store_g r34 X12.out (enc_size _) (enc m) (enc_size _) (enc_one _) _ _ rfl rfl rfl ?_
              intro u13 hP hk
              try simp only [Act.put, List.setIfInBounds_toArray, List.set_cons_zero, List.set_cons_succ]
              have X13 := Lib.hid hP
              have B13 := Lib.hid (hk.below HN.out LX.out B12.out)
              have P13 := Lib.hid (hk.has NPX.out P12.out)
              have T13 := Lib.hid (hk.has NTX.out T12.out)
              have Q13 := Lib.hid (hk.has NQX.out Q12.out)
              have F13 := Lib.hid (hk.has NFX.out F12.out)
              have Y13 := Lib.hid (hk.has NYX.out Y12.out)
              clear hP hk B12 P12 T12 Q12 F12 Y12 X12
              refine hK.out _ _ ?s59 (fun hNew => ?r59)
              case s59 => exact ⟨F13.out.2.1, Q13.out.2.1, range_of_has T13.out⟩
              clear hK K hHeld
              have hHeld := hNew
              clear hNew
              refine wpAnyH_ready (rs := [16]) (by kernel_rfl) (by simp) ?_
              refine (AllReadyH.cons (o := { dst := none, op := Go.Op.store 34 (Go.Operand.tmp 16) (Go.Operand.tmp 58), type := 0, pos := "law.go:106", after := #[{ on := 14, ground := Go.Ground.data }, { on := 12, ground := Go.Ground.data }, { on := 15, ground := Go.Ground.chain }, { on := 0, ground := Go.Ground.phase }, { on := 1, ground := Go.Ground.phase }, { on := 2, ground := Go.Ground.phase }, { on := 3, ground := Go.Ground.phase }, { on := 4, ground := Go.Ground.phase }, { on := 5, ground := Go.Ground.phase }, { on := 6, ground := Go.Ground.phase }, { on := 7, ground := Go.Ground.phase }, { on := 8, ground := Go.Ground.phase }, { on := 9, ground := Go.Ground.phase }, { on := 10, ground := Go.Ground.phase }, { on := 11, ground := Go.Ground.phase }, { on := 12, ground := Go.Ground.phase }, { on := 13, ground := Go.Ground.phase }, { on := 14, ground := Go.Ground.phase }, { on := 15, ground := Go.Ground.phase }], guard := none }) rfl (fun K hK => ?_) AllReadyH.nil)
              · skip
                refine wp_store_g r34 Y13.out (enc_size _) (enc m) (enc_size _) (enc_one _) _ _ rfl rfl rfl ?_
                intro u14 hP hk
                try simp only [Act.put, List.setIfInBounds_toArray, List.set_cons_zero, List.set_cons_succ]
                have Y14 := Lib.hid hP
                have B14 := Lib.hid (hk.below HN.out LY.out B13.out)
                have P14 := Lib.hid (hk.has NPY.out P13.out)
                have T14 := Lib.hid (hk.has NTY.out T13.out)
                have Q14 := Lib.hid (hk.has NQY.out Q13.out)
                have F14 := Lib.hid (hk.has NFY.out F13.out)
                have X14 := Lib.hid (hk.has (Ne.symm NYX.out) X13.out)
                clear hP hk B13 P13 T13 Q13 F13 Y13 X13
                refine hK.out _ _ ?s60 (fun hNew => ?r60)
                case s60 => exact ⟨F14.out.2.1, Q14.out.2.1, range_of_has T14.out⟩
                clear hK K hHeld
                have hHeld := hNew
                clear hNew
                refine wpAnyH_done (by kernel_rfl) ?_ _
                clear hHeld
                go_wp2
                go_meet
                exact ⟨xb, yb, rfl, rfl, ⟨B14.out, P14.out, T14.out⟩, X14.out, Y14.out⟩
        · skip
          go_simp
          have Q_ := own1 u10 (.cells (enc zeroM) 34)
          have B11 := Lib.hid (vian HN.out B10.out Q_)
          have P11 := Lib.hid (P10.out.below Q_)
          have T11 := Lib.hid (T10.out.below Q_)
          have Q11 := Lib.hid (Q10.out.below Q_)
          have F11 := Lib.hid (F10.out.below Q_)
          have Y11 := Lib.hid (Y10.out.below Q_)
          have X11 := Lib.hid (Has.new u10 (enc zeroM) 34)
          have LX := Lib.hid (Nat.le_trans HN.out B10.out.size)
          have NPX := Lib.hid (Nat.ne_of_lt P10.out.1)
          have NTX := Lib.hid (Nat.ne_of_lt T10.out.1)
          have NQX := Lib.hid (Nat.ne_of_lt Q10.out.1)
          have NFX := Lib.hid (Nat.ne_of_lt F10.out.1)
          have NYX := Lib.hid (Nat.ne_of_lt Y10.out.1)
          clear Q_ B10 P10 T10 Q10 F10 Y10
          generalize u10.alloc (.cells (enc zeroM) 34) = u11 at B11 P11 T11 Q11 F11 Y11 X11 ⊢
          generalize u10.heap.size = xb at X11 LX NPX NTX NQX NFX NYX ⊢
          refine hK.out _ _ ?s61 (fun hNew => ?r61)
          case s61 => exact ⟨F11.out.2.1, Q11.out.2.1, range_of_has T11.out⟩
          clear hK K hHeld
          have hHeld := hNew
          clear hNew
          refine wpAnyH_ready (rs := [12]) (by kernel_rfl) (by simp) ?_
          refine (AllReadyH.cons (o := { dst := some 58, op := Go.Op.call { callee := Go.Callee.value (Go.Operand.func 17), args := #[Go.Operand.tmp 53, Go.Operand.tmp 54, Go.Operand.const (Go.Value.slice none 0 0), Go.Operand.tmp 56, Go.Operand.tmp 57], argTypes := #[27, 22, 22, 3, 34] }, type := 34, pos := "law.go:106", after := #[{ on := 7, ground := Go.Ground.data }, { on := 8, ground := Go.Ground.data }, { on := 10, ground := Go.Ground.data }, { on := 11, ground := Go.Ground.data }, { on := 6, ground := Go.Ground.chain }], guard := none }) rfl (fun K hK => ?_) AllReadyH.nil)
          · skip
            go_simp
            with_reducible refine (L2.out _ (HM0.out.at HN.out B11.out) (mem_nil _)).mono ?_
            rintro q_ u12 ⟨rfl, hb⟩
            have B12 := Lib.hid (vian HN.out B11.out hb)
            have P12 := Lib.hid (P11.out.below hb)
            have T12 := Lib.hid (T11.out.below hb)
            have Q12 := Lib.hid (Q11.out.below hb)
            have F12 := Lib.hid (F11.out.below hb)
            have Y12 := Lib.hid (Y11.out.below hb)
            have X12 := Lib.hid (X11.out.below hb)
            clear hb B11 P11 T11 Q11 F11 Y11 X11
            refine hK.out _ _ ?s62 (fun hNew => ?r62)
            case s62 => exact ⟨F12.out.2.1, Q12.out.2.1, range_of_has T12.out⟩
            clear hK K hHeld
            have hHeld := hNew
            clear hNew
            refine wpAnyH_ready (rs := [15]) (by kernel_rfl) (by simp) ?_
            refine (AllReadyH.cons (o := { dst := none, op := Go.Op.store 34 (Go.Operand.tmp 15) (Go.Operand.tmp 52), type := 0, pos := "law.go:106", after := #[{ on := 13, ground := Go.Ground.data }, { on := 6, ground := Go.Ground.data }, { on := 12, ground := Go.Ground.chain }, { on := 0, ground := Go.Ground.phase }, { on := 1, ground := Go.Ground.phase }, { on := 2, ground := Go.Ground.phase }, { on := 3, ground := Go.Ground.phase }, { on := 4, ground := Go.Ground.phase }, { on := 5, ground := Go.Ground.phase }, { on := 6, ground := Go.Ground.phase }, { on := 7, ground := Go.Ground.textOnly Go.Departure.lateStores }, { on := 8, ground := Go.Ground.textOnly Go.Departure.lateStores }, { on := 9, ground := Go.Ground.textOnly Go.Departure.lateStores }, { on := 10, ground := Go.Ground.textOnly Go.Departure.lateStores }, { on := 11, ground := Go.Ground.textOnly Go.Departure.lateStores }, { on := 12, ground := Go.Ground.textOnly Go.Departure.lateStoresUnsure }, { on := 13, ground := Go.Ground.phase }, { on := 14, ground := Go.Ground.phase }], guard := none }) rfl (fun K hK => ?_) AllReadyH.nil)
            · skip
              refine wp_store_g r34 X12.out (enc_size _) (enc m) (enc_size _) (enc_one _) _ _ rfl rfl rfl ?_
              intro u13 hP hk
              try simp only [Act.put, List.setIfInBounds_toArray, List.set_cons_zero, List.set_cons_succ]
              have X13 := Lib.hid hP
              have B13 := Lib.hid (hk.below HN.out LX.out B12.out)
              have P13 := Lib.hid (hk.has NPX.out P12.out)
              have T13 := Lib.hid (hk.has NTX.out T12.out)
              have Q13 := Lib.hid (hk.has NQX.out Q12.out)
              have F13 := Lib.hid (hk.has NFX.out F12.out)
              have Y13 := Lib.hid (hk.has NYX.out Y12.out)
              clear hP hk B12 P12 T12 Q12 F12 Y12 X12
              refine hK.out _ _ ?s63 (fun hNew => ?r63)
              case s63 => exact ⟨F13.out.2.1, Q13.out.2.1, range_of_has T13.out⟩
              clear hK K hHeld
              have hHeld := hNew
              clear hNew
              refine wpAnyH_ready (rs := [16]) (by kernel_rfl) (by simp) ?_
              refine (AllReadyH.cons (o := { dst := none, op := Go.Op.store 34 (Go.Operand.tmp 16) (Go.Operand.tmp 58), type := 0, pos := "law.go:106", after := #[{ on := 14, ground := Go.Ground.data }, { on := 12, ground := Go.Ground.data }, { on := 15, ground := Go.Ground.chain }, { on := 0, ground := Go.Ground.phase }, { on := 1, ground := Go.Ground.phase }, { on := 2, ground := Go.Ground.phase }, { on := 3, ground := Go.Ground.phase }, { on := 4, ground := Go.Ground.phase }, { on := 5, ground := Go.Ground.phase }, { on := 6, ground := Go.Ground.phase }, { on := 7, ground := Go.Ground.phase }, { on := 8, ground := Go.Ground.phase }, { on := 9, ground := Go.Ground.phase }, { on := 10, ground := Go.Ground.phase }, { on := 11, ground := Go.Ground.phase }, { on := 12, ground := Go.Ground.phase }, { on := 13, ground := Go.Ground.phase }, { on := 14, ground := Go.Ground.phase }, { on := 15, ground := Go.Ground.phase }], guard := none }) rfl (fun K hK => ?_) AllReadyH.nil)
              · skip
                refine wp_store_g r34 Y13.out (enc_size _) (enc m) (enc_size _) (enc_one _) _ _ rfl rfl rfl ?_
                intro u14 hP hk
                try simp only [Act.put, List.setIfInBounds_toArray, List.set_cons_zero, List.set_cons_succ]
                have Y14 := Lib.hid hP
                have B14 := Lib.hid (hk.below HN.out LY.out B13.out)
                have P14 := Lib.hid (hk.has NPY.out P13.out)
                have T14 := Lib.hid (hk.has NTY.out T13.out)
                have Q14 := Lib.hid (hk.has NQY.out Q13.out)
                have F14 := Lib.hid (hk.has NFY.out F13.out)
                have X14 := Lib.hid (hk.has (Ne.symm NYX.out) X13.out)
                clear hP hk B13 P13 T13 Q13 F13 Y13 X13
                refine hK.out _ _ ?s64 (fun hNew => ?r64)
                case s64 => exact ⟨F14.out.2.1, Q14.out.2.1, range_of_has T14.out⟩
                clear hK K hHeld
                have hHeld := hNew
                clear hNew
                refine wpAnyH_done (by kernel_rfl) ?_ _
                clear hHeld
                go_wp2
                go_meet
                exact ⟨xb, yb, rfl, rfl, ⟨B14.out, P14.out, T14.out⟩, X14.out, Y14.out⟩
      · skip
        go_simp
        have Q_ := own1 u9 (.cells (enc zeroM) 34)
        have B10 := Lib.hid (vian HN.out B9.out Q_)
        have P10 := Lib.hid (P9.out.below Q_)
        have T10 := Lib.hid (T9.out.below Q_)
        have Q10 := Lib.hid (Q9.out.below Q_)
        have F10 := Lib.hid (F9.out.below Q_)
        have Y10 := Lib.hid (Y9.out.below Q_)
        have X10 := Lib.hid (Has.new u9 (enc zeroM) 34)
        have LX := Lib.hid (Nat.le_trans HN.out B9.out.size)
        have NPX := Lib.hid (Nat.ne_of_lt P9.out.1)
        have NTX := Lib.hid (Nat.ne_of_lt T9.out.1)
        have NQX := Lib.hid (Nat.ne_of_lt Q9.out.1)
        have NFX := Lib.hid (Nat.ne_of_lt F9.out.1)
        have NYX := Lib.hid (Nat.ne_of_lt Y9.out.1)
        clear Q_ B9 P9 T9 Q9 F9 Y9
        generalize u9.alloc (.cells (enc zeroM) 34) = u10 at B10 P10 T10 Q10 F10 Y10 X10 ⊢
        generalize u9.heap.size = xb at X10 LX NPX NTX NQX NFX NYX ⊢
        refine hK.out _ _ ?s65 (fun hNew => ?r65)
        case s65 => exact ⟨F10.out.2.1, Q10.out.2.1, range_of_has T10.out⟩
        clear hK K hHeld
        have hHeld := hNew
        clear hNew
        refine wpAnyH_ready (rs := [6]) (by kernel_rfl) (by simp) ?_
        refine (AllReadyH.cons (o := { dst := some 52, op := Go.Op.call { callee := Go.Callee.value (Go.Operand.func 17), args := #[Go.Operand.tmp 46, Go.Operand.tmp 47, Go.Operand.tmp 48, Go.Operand.tmp 50, Go.Operand.tmp 51], argTypes := #[27, 22, 22, 3, 34] }, type := 34, pos := "law.go:106", after := #[{ on := 0, ground := Go.Ground.data }, { on := 1, ground := Go.Ground.data }, { on := 2, ground := Go.Ground.data }, { on := 4, ground := Go.Ground.data }, { on := 5, ground := Go.Ground.data }], guard := none }) rfl (fun K hK => ?_) AllReadyH.nil)
        · skip
          go_simp
          with_reducible refine (L1.out _ (HM0.out.at HN.out B10.out) (HM1.out.at HN.out B10.out)).mono ?_
          rintro q_ u11 ⟨rfl, hb⟩
          have B11 := Lib.hid (vian HN.out B10.out hb)
          have P11 := Lib.hid (P10.out.below hb)
          have T11 := Lib.hid (T10.out.below hb)
          have Q11 := Lib.hid (Q10.out.below hb)
          have F11 := Lib.hid (F10.out.below hb)
          have Y11 := Lib.hid (Y10.out.below hb)
          have X11 := Lib.hid (X10.out.below hb)
          clear hb B10 P10 T10 Q10 F10 Y10 X10
          refine hK.out _ _ ?s66 (fun hNew => ?r66)
          case s66 => exact ⟨F11.out.2.1, Q11.out.2.1, range_of_has T11.out⟩
          clear hK K hHeld
          have hHeld := hNew
          clear hNew
          refine wpAnyH_ready (rs := [12]) (by kernel_rfl) (by simp) ?_
          refine (AllReadyH.cons (o := { dst := some 58, op := Go.Op.call { callee := Go.Callee.value (Go.Operand.func 17), args := #[Go.Operand.tmp 53, Go.Operand.tmp 54, Go.Operand.const (Go.Value.slice none 0 0), Go.Operand.tmp 56, Go.Operand.tmp 57], argTypes := #[27, 22, 22, 3, 34] }, type := 34, pos := "law.go:106", after := #[{ on := 7, ground := Go.Ground.data }, { on := 8, ground := Go.Ground.data }, { on := 10, ground := Go.Ground.data }, { on := 11, ground := Go.Ground.data }, { on := 6, ground := Go.Ground.chain }], guard := none }) rfl (fun K hK => ?_) AllReadyH.nil)
          · skip
            go_simp
            with_reducible refine (L2.out _ (HM0.out.at HN.out B11.out) (mem_nil _)).mono ?_
            rintro q_ u12 ⟨rfl, hb⟩
            have B12 := Lib.hid (vian HN.out B11.out hb)
            have P12 := Lib.hid (P11.out.below hb)
            have T12 := Lib.hid (T11.out.below hb)
            have Q12 := Lib.hid (Q11.out.below hb)
            have F12 := Lib.hid (F11.out.below hb)
            have Y12 := Lib.hid (Y11.out.below hb)
            have X12 := Lib.hid (X11.out.below hb)
            clear hb B11 P11 T11 Q11 F11 Y11 X11
            refine hK.out _ _ ?s67 (fun hNew => ?r67)
            case s67 => exact ⟨F12.out.2.1, Q12.out.2.1, range_of_has T12.out⟩
            clear hK K hHeld
            have hHeld := hNew
            clear hNew
            refine wpAnyH_ready (rs := [15]) (by kernel_rfl) (by simp) ?_
            refine (AllReadyH.cons (o := { dst := none, op := Go.Op.store 34 (Go.Operand.tmp 15) (Go.Operand.tmp 52), type := 0, pos := "law.go:106", after := #[{ on := 13, ground := Go.Ground.data }, { on := 6, ground := Go.Ground.data }, { on := 12, ground := Go.Ground.chain }, { on := 0, ground := Go.Ground.phase }, { on := 1, ground := Go.Ground.phase }, { on := 2, ground := Go.Ground.phase }, { on := 3, ground := Go.Ground.phase }, { on := 4, ground := Go.Ground.phase }, { on := 5, ground := Go.Ground.phase }, { on := 6, ground := Go.Ground.phase }, { on := 7, ground := Go.Ground.textOnly Go.Departure.lateStores }, { on := 8, ground := Go.Ground.textOnly Go.Departure.lateStores }, { on := 9, ground := Go.Ground.textOnly Go.Departure.lateStores }, { on := 10, ground := Go.Ground.textOnly Go.Departure.lateStores }, { on := 11, ground := Go.Ground.textOnly Go.Departure.lateStores }, { on := 12, ground := Go.Ground.textOnly Go.Departure.lateStoresUnsure }, { on := 13, ground := Go.Ground.phase }, { on := 14, ground := Go.Ground.phase }], guard := none }) rfl (fun K hK => ?_) AllReadyH.nil)
            · skip
              refine wp_store_g r34 X12.out (enc_size _) (enc m) (enc_size _) (enc_one _) _ _ rfl rfl rfl ?_
              intro u13 hP hk
              try simp only [Act.put, List.setIfInBounds_toArray, List.set_cons_zero, List.set_cons_succ]
              have X13 := Lib.hid hP
              have B13 := Lib.hid (hk.below HN.out LX.out B12.out)
              have P13 := Lib.hid (hk.has NPX.out P12.out)
              have T13 := Lib.hid (hk.has NTX.out T12.out)
              have Q13 := Lib.hid (hk.has NQX.out Q12.out)
              have F13 := Lib.hid (hk.has NFX.out F12.out)
              have Y13 := Lib.hid (hk.has NYX.out Y12.out)
              clear hP hk B12 P12 T12 Q12 F12 Y12 X12
              refine hK.out _ _ ?s68 (fun hNew => ?r68)
              case s68 => exact ⟨F13.out.2.1, Q13.out.2.1, range_of_has T13.out⟩
              clear hK K hHeld
              have hHeld := hNew
              clear hNew
              refine wpAnyH_ready (rs := [16]) (by kernel_rfl) (by simp) ?_
              refine (AllReadyH.cons (o := { dst := none, op := Go.Op.store 34 (Go.Operand.tmp 16) (Go.Operand.tmp 58), type := 0, pos := "law.go:106", after := #[{ on := 14, ground := Go.Ground.data }, { on := 12, ground := Go.Ground.data }, { on := 15, ground := Go.Ground.chain }, { on := 0, ground := Go.Ground.phase }, { on := 1, ground := Go.Ground.phase }, { on := 2, ground := Go.Ground.phase }, { on := 3, ground := Go.Ground.phase }, { on := 4, ground := Go.Ground.phase }, { on := 5, ground := Go.Ground.phase }, { on := 6, ground := Go.Ground.phase }, { on := 7, ground := Go.Ground.phase }, { on := 8, ground := Go.Ground.phase }, { on := 9, ground := Go.Ground.phase }, { on := 10, ground := Go.Ground.phase }, { on := 11, ground := Go.Ground.phase }, { on := 12, ground := Go.Ground.phase }, { on := 13, ground := Go.Ground.phase }, { on := 14, ground := Go.Ground.phase }, { on := 15, ground := Go.Ground.phase }], guard := none }) rfl (fun K hK => ?_) AllReadyH.nil)
              · skip
                refine wp_store_g r34 Y13.out (enc_size _) (enc m) (enc_size _) (enc_one _) _ _ rfl rfl rfl ?_
                intro u14 hP hk
                try simp only [Act.put, List.setIfInBounds_toArray, List.set_cons_zero, List.set_cons_succ]
                have Y14 := Lib.hid hP
                have B14 := Lib.hid (hk.below HN.out LY.out B13.out)
                have P14 := Lib.hid (hk.has NPY.out P13.out)
                have T14 := Lib.hid (hk.has NTY.out T13.out)
                have Q14 := Lib.hid (hk.has NQY.out Q13.out)
                have F14 := Lib.hid (hk.has NFY.out F13.out)
                have X14 := Lib.hid (hk.has (Ne.symm NYX.out) X13.out)
                clear hP hk B13 P13 T13 Q13 F13 Y13 X13
                refine hK.out _ _ ?s69 (fun hNew => ?r69)
                case s69 => exact ⟨F14.out.2.1, Q14.out.2.1, range_of_has T14.out⟩
                clear hK K hHeld
                have hHeld := hNew
                clear hNew
                refine wpAnyH_done (by kernel_rfl) ?_ _
                clear hHeld
                go_wp2
                go_meet
                exact ⟨xb, yb, rfl, rfl, ⟨B14.out, P14.out, T14.out⟩, X14.out, Y14.out⟩
  case rest =>
    obtain ⟨xb, yb, rfl, rfl, ⟨hB, hP, hT⟩, hX, hY⟩ := hcut
    have B0 := Lib.hid hB
    have P0 := Lib.hid hP
    have T0 := Lib.hid hT
    have X0 := Lib.hid hX
    have Y0 := Lib.hid hY
    clear hB hP hT hX hY L1 L2 ewl
    go_wp2
    go_loopg [59] 160 (fun g' i wr => ∃ t : Nat, t ≤ 160 ∧ g' + t = 160 ∧ i = .int .i64 (t : Int) ∧ Below n3 V3 wr ∧ Has wr pb #[.int .u8 c, .int .u8 bk, .int .u8 fi, .int .u8 se] ∧ Has wr tb (enc UU) ∧ Has wr xb (enc m) ∧ Has wr yb (enc m))
    case atStart => exact ⟨0, by omega, by omega, rfl, B0.out, P0.out, T0.out, X0.out, Y0.out⟩
    case round =>
      obtain ⟨u20, hw5⟩ : ∃ q_, q_ = wr := ⟨_, rfl⟩
      subst hw5
      obtain ⟨t, ht, hg, rfl, hB, hP, hT, hX, hY⟩ := hrel
      have TG := Lib.hid hg
      have B20 := Lib.hid hB
      have P20 := Lib.hid hP
      have T20 := Lib.hid hT
      have X20 := Lib.hid hX
      have Y20 := Lib.hid hY
      clear hg hB hP hT hX hY B0 P0 T0 X0 Y0
      by_cases hlt : t < 160
      · skip
        have l1 : (t : Int) < 160 := by omega
        have l0 : (0 : Int) ≤ t := by omega
        have SHT := Lib.hid (SH.out t)
        have mv := MV.out t hlt
        have uc : (enc UU)[t]? = some (.int .u8 (UU t)) := enc_get UU t hlt
        have mc : (enc m)[t]? = some (.int .u8 (m t)) := enc_get m t hlt
        rw [mv] at mc
        obtain ⟨y, hy⟩ : ∃ q_, q_ = UU t := ⟨_, rfl⟩
        rw [← hy] at SHT uc mc
        obtain ⟨z, hz⟩ : ∃ q_, q_ = shadeV bk y := ⟨_, rfl⟩
        rw [← hz] at SHT mc
        have UC := Lib.hid uc
        have MC := Lib.hid mc
        clear mv uc mc hy hz SH MV
        go_upto_region 12 with (fail)
        have B21 := Lib.hid B20.out.drew
        have P21 := Lib.hid P20.out.drew
        have T21 := Lib.hid T20.out.drew
        have X21 := Lib.hid X20.out.drew
        have Y21 := Lib.hid Y20.out.drew
        clear B20 P20 T20 X20 Y20
        refine wp_region_held_drew (S := (fun w' => (∀ o, w'.cell? ⟨pb, o, none⟩ = (#[.int .u8 c, .int .u8 bk, .int .u8 fi, .int .u8 se])[o]?) ∧ (w'.cell? ⟨tb, t, none⟩ = some (.int .u8 y)) ∧ (w'.cell? ⟨xb, t, none⟩ = some (.int .u8 z)) ∧ (w'.cell? ⟨yb, t, none⟩ = some (.int .u8 z)))) (by kernel_rfl) ⟨P21.out.2.1, (T21.out.2.1 t).trans UC.out, (X21.out.2.1 t).trans MC.out, (Y21.out.2.1 t).trans MC.out⟩ (fun hHeld => ?_)
        generalize World.drew _ = u21 at hHeld B21 P21 T21 X21 Y21 ⊢
        refine wpAnyH_take (i := 0) (oi := { dst := some 62, op := Go.Op.move (Go.Operand.tmp 17), type := 3, pos := "law.go:108", after := #[], guard := none }) (v := ?v70) rfl (by kernel_rfl) (by kernel_rfl) (by kernel_rfl) (fun _ _ _ h => h) (Or.inl ⟨by rfl, ?y70⟩) (by assumption) ?z70
        case y70 => (intro w hSw; (try dsimp only at hSw); go_simp) <;> with_reducible rfl
        try simp only [Act.put, List.setIfInBounds_toArray, List.set_cons_zero, List.set_cons_succ]
        refine wpAnyH_take (i := 1) (oi := { dst := some 63, op := Go.Op.indexAddr 34 (Go.Operand.tmp 15) (Go.Operand.tmp 62), type := 0, pos := "law.go:108", after := #[{ on := 0, ground := Go.Ground.data }], guard := none }) (v := ?v71) rfl (by kernel_rfl) (by kernel_rfl) (by kernel_rfl) (fun _ _ _ h => h) (Or.inl ⟨by rfl, ?y71⟩) (by assumption) ?z71
        case y71 => (intro w hSw; (try dsimp only at hSw); go_simp) <;> with_reducible rfl
        try simp only [Act.put, List.setIfInBounds_toArray, List.set_cons_zero, List.set_cons_succ]
        refine wpAnyH_take (i := 2) (oi := { dst := some 64, op := Go.Op.load 5 (Go.Operand.tmp 63), type := 5, pos := "law.go:108", after := #[{ on := 1, ground := Go.Ground.data }], guard := none }) (v := ?v72) rfl (by kernel_rfl) (by kernel_rfl) (by kernel_rfl) (fun _ _ _ h => h) (Or.inl ⟨by rfl, ?y72⟩) (by assumption) ?z72
        case y72 => (intro w hSw; (try dsimp only at hSw); go_simp) <;> with_reducible rfl
        try simp only [Act.put, List.setIfInBounds_toArray, List.set_cons_zero, List.set_cons_succ]
        refine wpAnyH_take (i := 3) (oi := { dst := some 65, op := Go.Op.fieldAddr 24 (Go.Operand.tmp 7) 1, type := 0, pos := "law.go:108", after := #[], guard := none }) (v := ?v73) rfl (by kernel_rfl) (by kernel_rfl) (by kernel_rfl) (fun _ _ _ h => h) (Or.inl ⟨by rfl, ?y73⟩) (by assumption) ?z73
        case y73 => (intro w hSw; (try dsimp only at hSw); go_simp) <;> with_reducible rfl
        try simp only [Act.put, List.setIfInBounds_toArray, List.set_cons_zero, List.set_cons_succ]
        refine wpAnyH_take (i := 4) (oi := { dst := some 66, op := Go.Op.load 5 (Go.Operand.tmp 65), type := 5, pos := "law.go:108", after := #[{ on := 3, ground := Go.Ground.data }], guard := none }) (v := ?v74) rfl (by kernel_rfl) (by kernel_rfl) (by kernel_rfl) (fun _ _ _ h => h) (Or.inl ⟨by rfl, ?y74⟩) (by assumption) ?z74
        case y74 => (intro w hSw; (try dsimp only at hSw); go_simp) <;> with_reducible rfl
        try simp only [Act.put, List.setIfInBounds_toArray, List.set_cons_zero, List.set_cons_succ]
        refine wpAnyH_take (i := 5) (oi := { dst := some 67, op := Go.Op.move (Go.Operand.tmp 17), type := 3, pos := "law.go:108", after := #[], guard := none }) (v := ?v75) rfl (by kernel_rfl) (by kernel_rfl) (by kernel_rfl) (fun _ _ _ h => h) (Or.inl ⟨by rfl, ?y75⟩) (by assumption) ?z75
        case y75 => (intro w hSw; (try dsimp only at hSw); go_simp) <;> with_reducible rfl
        try simp only [Act.put, List.setIfInBounds_toArray, List.set_cons_zero, List.set_cons_succ]
        refine wpAnyH_take (i := 6) (oi := { dst := some 68, op := Go.Op.indexAddr 34 (Go.Operand.tmp 12) (Go.Operand.tmp 67), type := 0, pos := "law.go:108", after := #[{ on := 5, ground := Go.Ground.data }], guard := none }) (v := ?v76) rfl (by kernel_rfl) (by kernel_rfl) (by kernel_rfl) (fun _ _ _ h => h) (Or.inl ⟨by rfl, ?y76⟩) (by assumption) ?z76
        case y76 => (intro w hSw; (try dsimp only at hSw); go_simp) <;> with_reducible rfl
        try simp only [Act.put, List.setIfInBounds_toArray, List.set_cons_zero, List.set_cons_succ]
        refine wpAnyH_take (i := 7) (oi := { dst := some 69, op := Go.Op.load 5 (Go.Operand.tmp 68), type := 5, pos := "law.go:108", after := #[{ on := 6, ground := Go.Ground.data }], guard := none }) (v := ?v77) rfl (by kernel_rfl) (by kernel_rfl) (by kernel_rfl) (fun _ _ _ h => h) (Or.inl ⟨by rfl, ?y77⟩) (by assumption) ?z77
        case y77 => (intro w hSw; (try dsimp only at hSw); go_simp) <;> with_reducible rfl
        try simp only [Act.put, List.setIfInBounds_toArray, List.set_cons_zero, List.set_cons_succ]
        refine wpAnyH_ready (rs := [8]) (by kernel_rfl) (by simp) ?_
        refine (AllReadyH.cons (o := { dst := some 70, op := Go.Op.call { callee := Go.Callee.value (Go.Operand.func 19), args := #[Go.Operand.tmp 66, Go.Operand.tmp 69], argTypes := #[5, 5] }, type := 5, pos := "law.go:108", after := #[{ on := 4, ground := Go.Ground.data }, { on := 7, ground := Go.Ground.data }], guard := none }) rfl (fun K hK => ?_) AllReadyH.nil)
        · skip
          go_simp
          with_reducible refine (SHT.out _).mono ?_
          rintro q_ u22 ⟨rfl, hb⟩
          subst hb
          have B22 := B21
          have P22 := P21
          have T22 := T21
          have X22 := X21
          have Y22 := Y21
          clear B21 P21 T21 X21 Y21
          refine hK.out _ _ ?s78 (fun hNew => ?r78)
          case s78 => exact ⟨P22.out.2.1, (T22.out.2.1 t).trans UC.out, (X22.out.2.1 t).trans MC.out, (Y22.out.2.1 t).trans MC.out⟩
          clear hK K hHeld
          have hHeld := hNew
          clear hNew
          refine wpAnyH_take (i := 9) (oi := { dst := some 71, op := Go.Op.binOp Go.BinOp.neq 5 (Go.Operand.tmp 64) (Go.Operand.tmp 70) 5, type := 4, pos := "law.go:108", after := #[{ on := 2, ground := Go.Ground.data }, { on := 8, ground := Go.Ground.data }], guard := none }) (v := ?v79) rfl (by kernel_rfl) (by kernel_rfl) (by kernel_rfl) (fun _ _ _ h => h) (Or.inl ⟨by rfl, ?y79⟩) (by assumption) ?z79
          case y79 => (intro w hSw; (try dsimp only at hSw); go_simp) <;> with_reducible rfl
          try simp only [Act.put, List.setIfInBounds_toArray, List.set_cons_zero, List.set_cons_succ]
          refine wpAnyH_take (i := 10) (oi := { dst := some 72, op := Go.Op.move (Go.Operand.tmp 71), type := 4, pos := "law.go:108", after := #[{ on := 9, ground := Go.Ground.data }, { on := 8, ground := Go.Ground.chain }], guard := none }) (v := ?v80) rfl (by kernel_rfl) (by kernel_rfl) (by kernel_rfl) (fun _ _ _ h => h) (Or.inl ⟨by rfl, ?y80⟩) (by assumption) ?z80
          case y80 => (intro w hSw; (try dsimp only at hSw); go_simp) <;> with_reducible rfl
          try simp only [Act.put, List.setIfInBounds_toArray, List.set_cons_zero, List.set_cons_succ]
          refine wpAnyH_take (i := 11) (oi := { dst := some 73, op := Go.Op.move (Go.Operand.tmp 17), type := 3, pos := "law.go:108", after := #[{ on := 10, ground := Go.Ground.guard }], guard := some (10, false) }) (v := ?v81) rfl (by kernel_rfl) (by kernel_rfl) (by kernel_rfl) (fun _ _ _ h => h) (Or.inl ⟨by rfl, ?y81⟩) (by assumption) ?z81
          case y81 => (intro w hSw; (try dsimp only at hSw); go_simp) <;> with_reducible rfl
          try simp only [Act.put, List.setIfInBounds_toArray, List.set_cons_zero, List.set_cons_succ]
          refine wpAnyH_take (i := 12) (oi := { dst := some 74, op := Go.Op.indexAddr 34 (Go.Operand.tmp 16) (Go.Operand.tmp 73), type := 0, pos := "law.go:108", after := #[{ on := 11, ground := Go.Ground.data }, { on := 10, ground := Go.Ground.guard }], guard := some (10, false) }) (v := ?v82) rfl (by kernel_rfl) (by kernel_rfl) (by kernel_rfl) (fun _ _ _ h => h) (Or.inl ⟨by rfl, ?y82⟩) (by assumption) ?z82
          case y82 => (intro w hSw; (try dsimp only at hSw); go_simp) <;> with_reducible rfl
          try simp only [Act.put, List.setIfInBounds_toArray, List.set_cons_zero, List.set_cons_succ]
          refine wpAnyH_take (i := 13) (oi := { dst := some 75, op := Go.Op.load 5 (Go.Operand.tmp 74), type := 5, pos := "law.go:108", after := #[{ on := 12, ground := Go.Ground.data }, { on := 10, ground := Go.Ground.guard }], guard := some (10, false) }) (v := ?v83) rfl (by kernel_rfl) (by kernel_rfl) (by kernel_rfl) (fun _ _ _ h => h) (Or.inl ⟨by rfl, ?y83⟩) (by assumption) ?z83
          case y83 => (intro w hSw; (try dsimp only at hSw); go_simp) <;> with_reducible rfl
          try simp only [Act.put, List.setIfInBounds_toArray, List.set_cons_zero, List.set_cons_succ]
          refine wpAnyH_take (i := 14) (oi := { dst := some 76, op := Go.Op.move (Go.Operand.tmp 17), type := 3, pos := "law.go:108", after := #[{ on := 10, ground := Go.Ground.guard }], guard := some (10, false) }) (v := ?v84) rfl (by kernel_rfl) (by kernel_rfl) (by kernel_rfl) (fun _ _ _ h => h) (Or.inl ⟨by rfl, ?y84⟩) (by assumption) ?z84
          case y84 => (intro w hSw; (try dsimp only at hSw); go_simp) <;> with_reducible rfl
          try simp only [Act.put, List.setIfInBounds_toArray, List.set_cons_zero, List.set_cons_succ]
          refine wpAnyH_take (i := 15) (oi := { dst := some 77, op := Go.Op.indexAddr 34 (Go.Operand.tmp 15) (Go.Operand.tmp 76), type := 0, pos := "law.go:108", after := #[{ on := 14, ground := Go.Ground.data }, { on := 10, ground := Go.Ground.guard }], guard := some (10, false) }) (v := ?v85) rfl (by kernel_rfl) (by kernel_rfl) (by kernel_rfl) (fun _ _ _ h => h) (Or.inl ⟨by rfl, ?y85⟩) (by assumption) ?z85
          case y85 => (intro w hSw; (try dsimp only at hSw); go_simp) <;> with_reducible rfl
          try simp only [Act.put, List.setIfInBounds_toArray, List.set_cons_zero, List.set_cons_succ]
          refine wpAnyH_take (i := 16) (oi := { dst := some 78, op := Go.Op.load 5 (Go.Operand.tmp 77), type := 5, pos := "law.go:108", after := #[{ on := 15, ground := Go.Ground.data }, { on := 10, ground := Go.Ground.guard }], guard := some (10, false) }) (v := ?v86) rfl (by kernel_rfl) (by kernel_rfl) (by kernel_rfl) (fun _ _ _ h => h) (Or.inl ⟨by rfl, ?y86⟩) (by assumption) ?z86
          case y86 => (intro w hSw; (try dsimp only at hSw); go_simp) <;> with_reducible rfl
          try simp only [Act.put, List.setIfInBounds_toArray, List.set_cons_zero, List.set_cons_succ]
          refine wpAnyH_take (i := 17) (oi := { dst := some 79, op := Go.Op.binOp Go.BinOp.neq 5 (Go.Operand.tmp 75) (Go.Operand.tmp 78) 5, type := 4, pos := "law.go:108", after := #[{ on := 13, ground := Go.Ground.data }, { on := 16, ground := Go.Ground.data }, { on := 10, ground := Go.Ground.guard }], guard := some (10, false) }) (v := ?v87) rfl (by kernel_rfl) (by kernel_rfl) (by kernel_rfl) (fun _ _ _ h => h) (Or.inl ⟨by rfl, ?y87⟩) (by assumption) ?z87
          case y87 => (intro w hSw; (try dsimp only at hSw); go_simp) <;> with_reducible rfl
          try simp only [Act.put, List.setIfInBounds_toArray, List.set_cons_zero, List.set_cons_succ]
          refine wpAnyH_take (i := 18) (oi := { dst := some 80, op := Go.Op.move (Go.Operand.tmp 79), type := 4, pos := "law.go:108", after := #[{ on := 17, ground := Go.Ground.data }, { on := 10, ground := Go.Ground.chain }, { on := 10, ground := Go.Ground.guard }], guard := some (10, false) }) (v := ?v88) rfl (by kernel_rfl) (by kernel_rfl) (by kernel_rfl) (fun _ _ _ h => h) (Or.inl ⟨by rfl, ?y88⟩) (by assumption) ?z88
          case y88 => (intro w hSw; (try dsimp only at hSw); go_simp) <;> with_reducible rfl
          try simp only [Act.put, List.setIfInBounds_toArray, List.set_cons_zero, List.set_cons_succ]
          refine wpAnyH_take (i := 19) (oi := { dst := some 81, op := Go.Op.move (Go.Operand.tmp 3), type := 5, pos := "law.go:108", after := #[{ on := 18, ground := Go.Ground.guard }], guard := some (18, true) }) (v := undef) rfl (by kernel_rfl) (by kernel_rfl) (by kernel_rfl) (fun _ _ _ h => h) (Or.inr ⟨by rfl, rfl⟩) (by assumption) ?_
          try simp only [Act.put, List.setIfInBounds_toArray, List.set_cons_zero, List.set_cons_succ]
          refine wpAnyH_take (i := 20) (oi := { dst := some 82, op := Go.Op.binOp Go.BinOp.lss 5 (Go.Operand.tmp 81) (Go.Operand.const (Go.Value.int Go.IntKind.u8 144)) 5, type := 4, pos := "law.go:108", after := #[{ on := 19, ground := Go.Ground.data }, { on := 18, ground := Go.Ground.guard }], guard := some (18, true) }) (v := undef) rfl (by kernel_rfl) (by kernel_rfl) (by kernel_rfl) (fun _ _ _ h => h) (Or.inr ⟨by rfl, rfl⟩) (by assumption) ?_
          try simp only [Act.put, List.setIfInBounds_toArray, List.set_cons_zero, List.set_cons_succ]
          refine wpAnyH_take (i := 21) (oi := { dst := some 83, op := Go.Op.pick (Go.Operand.tmp 80) (Go.Operand.tmp 82) (Go.Operand.const (Go.Value.bool false)), type := 4, pos := "law.go:108", after := #[{ on := 18, ground := Go.Ground.data }, { on := 20, ground := Go.Ground.data }, { on := 10, ground := Go.Ground.guard }], guard := some (10, false) }) (v := ?v91) rfl (by kernel_rfl) (by kernel_rfl) (by kernel_rfl) (fun _ _ _ h => h) (Or.inl ⟨by rfl, ?y91⟩) (by assumption) ?z91
          case y91 => (intro w hSw; (try dsimp only at hSw); go_simp) <;> with_reducible rfl
          try simp only [Act.put, List.setIfInBounds_toArray, List.set_cons_zero, List.set_cons_succ]
          refine wpAnyH_take (i := 22) (oi := { dst := some 84, op := Go.Op.pick (Go.Operand.tmp 72) (Go.Operand.const (Go.Value.bool true)) (Go.Operand.tmp 83), type := 4, pos := "law.go:108", after := #[{ on := 10, ground := Go.Ground.data }, { on := 21, ground := Go.Ground.data }], guard := none }) (v := ?v92) rfl (by kernel_rfl) (by kernel_rfl) (by kernel_rfl) (fun _ _ _ h => h) (Or.inl ⟨by rfl, ?y92⟩) (by assumption) ?z92
          case y92 => (intro w hSw; (try dsimp only at hSw); go_simp) <;> with_reducible rfl
          try simp only [Act.put, List.setIfInBounds_toArray, List.set_cons_zero, List.set_cons_succ]
          refine wpAnyH_done (by kernel_rfl) ?_ _
          clear hHeld
          go_wp2_with (fail)
          go_roundg (160 - (t + 1))
          case measure => have := TG.out; omega
          case rel => exact ⟨t + 1, by omega, by have := TG.out; omega, by simp, B22.out, P22.out, T22.out, X22.out, Y22.out⟩
      · skip
        have te : t = 160 := by omega
        subst te
        have l1 : ¬ ((160 : Nat) : Int) < 160 := by omega
        go_wp2_with (fail)
        all_goals exact bodyPost_ret (v := .bool true) (by simp [results, Try.results6, go_sem]) rfl ⟨rfl, ZF.out _ B20.out⟩
theorem none_walk (c bk fi se : Int) (c0 : 0 ≤ c) (c1 : c < 256) (bk0 : 0 ≤ bk) (bk1 : bk < 256) (fi0 : 0 ≤ fi) (fi1 : fi < 256) (se0 : 0 ≤ se) (se1 : se < 256) (vb : Value) (vo : Value) (vu : Value) (line : Int) (line0 : 0 ≤ line) (line1 : line < 256) (w : World) (hinb : MemIn w vb) (hino : MemIn w vo) (hinu : MemIn w vu) : Calls Try.prog 6 #[vb, vo, .agg #[.int .u8 c, .int .u8 bk, .int .u8 fi, .int .u8 se], .int .u8 line, vu] w fun q_ w' => q_ = .returned (.bool true) ∧ Below w.heap.size w w' := by
  obtain ⟨a, n, cp, rfl, hzb, hmb⟩ := hinb
  obtain ⟨a1, n1, cp1, rfl, hzo, hmo⟩ := hino
  obtain ⟨a2, n2, cp2, rfl, hzu, hmu⟩ := hinu
  by_cases g0 : 3000 < n
  · exact none_long0 c bk fi se c0 c1 bk0 bk1 fi0 fi1 se0 se1 a n cp a1 n1 cp1 a2 n2 cp2 line line0 line1  g0 w
  by_cases g1 : 300 < n1
  · exact none_long1 c bk fi se c0 c1 bk0 bk1 fi0 fi1 se0 se1 a n cp a1 n1 cp1 a2 n2 cp2 line line0 line1 (by omega) g1 w
  by_cases g2 : 3000 < n2
  · exact none_long2 c bk fi se c0 c1 bk0 bk1 fi0 fi1 se0 se1 a n cp a1 n1 cp1 a2 n2 cp2 line line0 line1 (by omega) (by omega) g2 w
  obtain ⟨F, hMb⟩ := hmb (by omega)
  obtain ⟨O, hMo⟩ := hmo (by omega)
  obtain ⟨U, hMu⟩ := hmu (by omega)
  exact none_short c bk fi se c0 c1 bk0 bk1 fi0 fi1 se0 se1 a n cp a1 n1 cp1 a2 n2 cp2 F O U line line0 line1 (by omega) (by omega) (by omega) w hMb hMo hMu
end Go.Proofs.Ytiekojnhkemjlaa
