/-
  The walk through SpritesScan: for every memory, sprite memory, look and place.
-/
import Derived.Test.YtiekojnhkemjlaaSm
import Derived.Deep.Cut
import Derived.BigQuiet
import Derived.WalkSmall
namespace Go.Proofs.Ytiekojnhkemjlaa
open Go.ChangeShapes Go.WideShapes Go.ChangeAt Go.RowKit
set_option linter.unusedVariables false
set_option linter.unusedSimpArgs false
set_option maxRecDepth 100000
set_option maxHeartbeats 2000000 in
theorem scans_long0 (c bk fi se : Int) (c0 : 0 ≤ c) (c1 : c < 256) (bk0 : 0 ≤ bk) (bk1 : bk < 256) (fi0 : 0 ≤ fi) (fi1 : fi < 256) (se0 : 0 ≤ se) (se1 : se < 256) (a : Option Addr) (n cp : Nat) (a1 : Option Addr) (n1 cp1 : Nat) (num x line : Int) (num0 : -9223372036854775808 ≤ num) (num1 : num ≤ 9223372036854775807) (x0 : -9223372036854775808 ≤ x) (x1 : x ≤ 9223372036854775807) (line0 : -9223372036854775808 ≤ line) (line1 : line ≤ 9223372036854775807)  (h : 3000 < n) (w : World) : Calls Try.prog 3 #[.slice a n cp, .slice a1 n1 cp1, .agg #[.int .u8 c, .int .u8 bk, .int .u8 fi, .int .u8 se], .int .i64 num, .int .i64 x, .int .i64 line] w fun q_ w' => q_ = .returned (.bool true) ∧ Below w.heap.size w w' := by
  suffices hall : ∀ (n_ : Nat) (W0 : World), n_ ≤ W0.heap.size → Below n_ W0 w → Calls Try.prog 3 #[.slice a n cp, .slice a1 n1 cp1, .agg #[.int .u8 c, .int .u8 bk, .int .u8 fi, .int .u8 se], .int .i64 num, .int .i64 x, .int .i64 line] w fun q_ w' => q_ = .returned (.bool true) ∧ Below n_ W0 w' from hall _ _ (Nat.le_refl _) (Below.refl _ _)
  intro n_ W0 hn hB
  have HN := Lib.hid hn
  have BB := Lib.hid hB
  clear hn hB
  have AW := Lib.hid awake_c
  have hnot : ∀ (x : Bool) (w : World), (Op.unary .not (.bool x)).run Try.prog w = .ok (.bool (!x)) w := fun _ _ => rfl
  have hI : (3000 : Int) < n := by omega
  have hd : decide ((3000 : Int) < (n : Int)) = true := decide_eq_true hI
  go_enter Try.func3, Try.ntmps3
  have Q_ := own1 w (.cells #[.int .u8 c, .int .u8 bk, .int .u8 fi, .int .u8 se] 24)
  have B0 := Lib.hid (vian HN.out BB.out Q_)
  have P0 := Lib.hid (show Has (w.alloc (.cells #[.int .u8 c, .int .u8 bk, .int .u8 fi, .int .u8 se] 24)) w.heap.size #[.int .u8 c, .int .u8 bk, .int .u8 fi, .int .u8 se] by simpa using Has.new w #[.int .u8 c, .int .u8 bk, .int .u8 fi, .int .u8 se] 24)
  have LP := Lib.hid (show n_ ≤ w.heap.size + 0 from Nat.le_add_right_of_le (Nat.le_trans HN.out BB.out.size))
  simp only [Nat.add_zero] at LP
  clear Q_
  go_upto_region 1 with (fail)
  generalize (w.alloc (.cells #[.int .u8 c, .int .u8 bk, .int .u8 fi, .int .u8 se] 24)) = u0 at B0 P0 ⊢
  generalize w.heap.size = pb at P0 LP  ⊢
  go_wp2_with (fail)
  with_reducible refine (AW.out _).mono ?_
  rintro q_ u1 ⟨rfl, hb⟩
  have B1 := Lib.hid (vian HN.out B0.out hb)
  have P1 := Lib.hid (P0.out.below hb)
  clear hb B0 P0
  go_wp2_with (fail)
  with_reducible refine (AW.out _).mono ?_
  rintro q_ u2 ⟨rfl, hb⟩
  have B2 := Lib.hid (vian HN.out B1.out hb)
  have P2 := Lib.hid (P1.out.below hb)
  clear hb B1 P1
  go_wp2_with (fail)
  all_goals exact bodyPost_ret (v := .bool true) (by simp [results, Try.results3, go_sem]) rfl ⟨rfl, B2.out⟩
set_option maxHeartbeats 2000000 in
theorem scans_long1 (c bk fi se : Int) (c0 : 0 ≤ c) (c1 : c < 256) (bk0 : 0 ≤ bk) (bk1 : bk < 256) (fi0 : 0 ≤ fi) (fi1 : fi < 256) (se0 : 0 ≤ se) (se1 : se < 256) (a : Option Addr) (n cp : Nat) (a1 : Option Addr) (n1 cp1 : Nat) (num x line : Int) (num0 : -9223372036854775808 ≤ num) (num1 : num ≤ 9223372036854775807) (x0 : -9223372036854775808 ≤ x) (x1 : x ≤ 9223372036854775807) (line0 : -9223372036854775808 ≤ line) (line1 : line ≤ 9223372036854775807) (h0 : n ≤ 3000) (h : 300 < n1) (w : World) : Calls Try.prog 3 #[.slice a n cp, .slice a1 n1 cp1, .agg #[.int .u8 c, .int .u8 bk, .int .u8 fi, .int .u8 se], .int .i64 num, .int .i64 x, .int .i64 line] w fun q_ w' => q_ = .returned (.bool true) ∧ Below w.heap.size w w' := by
  suffices hall : ∀ (n_ : Nat) (W0 : World), n_ ≤ W0.heap.size → Below n_ W0 w → Calls Try.prog 3 #[.slice a n cp, .slice a1 n1 cp1, .agg #[.int .u8 c, .int .u8 bk, .int .u8 fi, .int .u8 se], .int .i64 num, .int .i64 x, .int .i64 line] w fun q_ w' => q_ = .returned (.bool true) ∧ Below n_ W0 w' from hall _ _ (Nat.le_refl _) (Below.refl _ _)
  intro n_ W0 hn hB
  have HN := Lib.hid hn
  have BB := Lib.hid hB
  clear hn hB
  have AW := Lib.hid awake_c
  have hnot : ∀ (x : Bool) (w : World), (Op.unary .not (.bool x)).run Try.prog w = .ok (.bool (!x)) w := fun _ _ => rfl
  have hI0 : ¬ (3000 : Int) < n := by omega
  have hd0 : decide ((3000 : Int) < (n : Int)) = false := decide_eq_false hI0
  have hI : (300 : Int) < n1 := by omega
  have hd : decide ((300 : Int) < (n1 : Int)) = true := decide_eq_true hI
  go_enter Try.func3, Try.ntmps3
  have Q_ := own1 w (.cells #[.int .u8 c, .int .u8 bk, .int .u8 fi, .int .u8 se] 24)
  have B0 := Lib.hid (vian HN.out BB.out Q_)
  have P0 := Lib.hid (show Has (w.alloc (.cells #[.int .u8 c, .int .u8 bk, .int .u8 fi, .int .u8 se] 24)) w.heap.size #[.int .u8 c, .int .u8 bk, .int .u8 fi, .int .u8 se] by simpa using Has.new w #[.int .u8 c, .int .u8 bk, .int .u8 fi, .int .u8 se] 24)
  have LP := Lib.hid (show n_ ≤ w.heap.size + 0 from Nat.le_add_right_of_le (Nat.le_trans HN.out BB.out.size))
  simp only [Nat.add_zero] at LP
  clear Q_
  go_upto_region 1 with (fail)
  generalize (w.alloc (.cells #[.int .u8 c, .int .u8 bk, .int .u8 fi, .int .u8 se] 24)) = u0 at B0 P0 ⊢
  generalize w.heap.size = pb at P0 LP  ⊢
  go_wp2_with (fail)
  with_reducible refine (AW.out _).mono ?_
  rintro q_ u1 ⟨rfl, hb⟩
  have B1 := Lib.hid (vian HN.out B0.out hb)
  have P1 := Lib.hid (P0.out.below hb)
  clear hb B0 P0
  go_wp2_with (fail)
  with_reducible refine (AW.out _).mono ?_
  rintro q_ u2 ⟨rfl, hb⟩
  have B2 := Lib.hid (vian HN.out B1.out hb)
  have P2 := Lib.hid (P1.out.below hb)
  clear hb B1 P1
  go_wp2_with (fail)
  all_goals exact bodyPost_ret (v := .bool true) (by simp [results, Try.results3, go_sem]) rfl ⟨rfl, B2.out⟩
set_option maxHeartbeats 8000000 in
theorem scans_short (c bk fi se : Int) (c0 : 0 ≤ c) (c1 : c < 256) (bk0 : 0 ≤ bk) (bk1 : bk < 256) (fi0 : 0 ≤ fi) (fi1 : fi < 256) (se0 : 0 ≤ se) (se1 : se < 256) (a : Option Addr) (n cp : Nat) (a1 : Option Addr) (n1 cp1 : Nat) (F : M) (O : M) (num x line : Int) (num0 : -9223372036854775808 ≤ num) (num1 : num ≤ 9223372036854775807) (x0 : -9223372036854775808 ≤ x) (x1 : x ≤ 9223372036854775807) (line0 : -9223372036854775808 ≤ line) (line1 : line ≤ 9223372036854775807) (h0 : n ≤ 3000) (h1 : n1 ≤ 300) (w : World) (hM0 : Mem w (.slice a n cp) F) (hM1 : Mem w (.slice a1 n1 cp1) O) : Calls Try.prog 3 #[.slice a n cp, .slice a1 n1 cp1, .agg #[.int .u8 c, .int .u8 bk, .int .u8 fi, .int .u8 se], .int .i64 num, .int .i64 x, .int .i64 line] w fun q_ w' => q_ = .returned (.bool true) ∧ Below w.heap.size w w' := by
  suffices hall : ∀ (n_ : Nat) (W0 : World), n_ ≤ W0.heap.size → Below n_ W0 w → MemB n_ W0 (.slice a n cp) F → MemB n_ W0 (.slice a1 n1 cp1) O → Calls Try.prog 3 #[.slice a n cp, .slice a1 n1 cp1, .agg #[.int .u8 c, .int .u8 bk, .int .u8 fi, .int .u8 se], .int .i64 num, .int .i64 x, .int .i64 line] w fun q_ w' => q_ = .returned (.bool true) ∧ Below n_ W0 w' from hall _ _ (Nat.le_refl _) (Below.refl _ _) hM0 hM1
  clear hM0 hM1
  intro n_ W0 hn hB hM0 hM1
  have HN := Lib.hid hn
  have BB := Lib.hid hB
  clear hn hB
  have HM0 := Lib.hid hM0
  clear hM0
  have HM1 := Lib.hid hM1
  clear hM1
  have AW := Lib.hid awake_c
  have hnot : ∀ (x : Bool) (w : World), (Op.unary .not (.bool x)).run Try.prog w = .ok (.bool (!x)) w := fun _ _ => rfl
  have hI0 : ¬ (3000 : Int) < n := by omega
  have hd0 : decide ((3000 : Int) < (n : Int)) = false := decide_eq_false hI0
  have hI1 : ¬ (300 : Int) < n1 := by omega
  have hd1 : decide ((300 : Int) < (n1 : Int)) = false := decide_eq_false hI1
  go_enter Try.func3, Try.ntmps3
  have Q_ := own1 w (.cells #[.int .u8 c, .int .u8 bk, .int .u8 fi, .int .u8 se] 24)
  have B0 := Lib.hid (vian HN.out BB.out Q_)
  have P0 := Lib.hid (show Has (w.alloc (.cells #[.int .u8 c, .int .u8 bk, .int .u8 fi, .int .u8 se] 24)) w.heap.size #[.int .u8 c, .int .u8 bk, .int .u8 fi, .int .u8 se] by simpa using Has.new w #[.int .u8 c, .int .u8 bk, .int .u8 fi, .int .u8 se] 24)
  have LP := Lib.hid (show n_ ≤ w.heap.size + 0 from Nat.le_add_right_of_le (Nat.le_trans HN.out BB.out.size))
  simp only [Nat.add_zero] at LP
  clear Q_
  go_upto_region 1 with (fail)
  generalize (w.alloc (.cells #[.int .u8 c, .int .u8 bk, .int .u8 fi, .int .u8 se] 24)) = u0 at B0 P0 ⊢
  generalize w.heap.size = pb at P0 LP  ⊢
  go_wp2_with (fail)
  with_reducible refine (AW.out _).mono ?_
  rintro q_ u1 ⟨rfl, hb⟩
  have B1 := Lib.hid (vian HN.out B0.out hb)
  have P1 := Lib.hid (P0.out.below hb)
  clear hb B0 P0
  obtain ⟨hc0, hf0⟩ := P1.out.out
  go_wp2_with (fail)
  clear hc0 hf0
  with_reducible refine (filled_m a n cp F _ (HM0.out.at HN.out B1.out)).mono ?_
  rintro q_ u2 ⟨sv, rfl, hm0, hb⟩
  have hb3 := vian HN.out B1.out hb
  have hm1 := (HM1.out.at HN.out B1.out).at (Nat.le_refl _) hb
  have P2 := Lib.hid (P1.out.below hb)
  obtain ⟨n3, V3, hn3, b3, m0, m1, gP, z3, q3⟩ : ∃ (n3 : Nat) (V3 : World), n3 ≤ V3.heap.size ∧ Below n3 V3 u2 ∧ MemB n3 V3 sv (filledV F n) ∧ MemB n3 V3 (.slice a1 n1 cp1) O ∧ pb < n3 ∧ (∀ w', Below n3 V3 w' → Below n_ W0 w') ∧ n_ ≤ n3 := ⟨u2.heap.size, u2, Nat.le_refl _, Below.refl _ _, hm0, hm1, P2.out.1, fun w' h => vian HN.out hb3 h, Nat.le_trans HN.out hb3.size⟩
  clear HN hb hb3 HM0 hm0 HM1 hm1 B1 P1
  have HN := Lib.hid hn3
  have B2 := Lib.hid b3
  have ZF := Lib.hid z3
  have QF := Lib.hid q3
  have HM0 := Lib.hid m0
  have HM1 := Lib.hid m1
  have GP := Lib.hid gP
  clear LP
  clear hn3 b3 z3 q3 m0 m1 gP
  obtain ⟨G, hG⟩ : ∃ G, G = filledV F n := ⟨_, rfl⟩
  rw [← hG] at HM0
  clear hG
  obtain ⟨hc0, hf0⟩ := P2.out.out
  go_upto_region 4 with (fail)
  go_wp2_with (refine store_g r27 (Has.new u2 #[.int .u8 0, .int .u8 0, .int .u8 0, .int .u8 0] 27) rfl #[.int .u8 c, .int .u8 bk, .int .u8 fi, .int .u8 se] rfl (four_one _ _ _ _) rfl _ _ rfl rfl rfl ?_)
  intro u3 hP hk
  clear hc0 hf0
  have B3 := Lib.hid (keep_new HN.out B2.out _ hk)
  have NPQ := Lib.hid (Nat.ne_of_lt P2.out.1)
  have P3 := Lib.hid (hk.has NPQ.out (P2.out.below (own1 _ _)))
  have Q3 := Lib.hid hP
  have LQ := Lib.hid (Nat.le_trans HN.out B2.out.size)
  generalize u2.heap.size = qb at Q3 LQ NPQ ⊢
  clear hk hP B2 P2
  try simp only [Act.put, List.setIfInBounds_toArray, List.set_cons_zero, List.set_cons_succ]
  have D1 := Lib.hid (fun W h1 h2 => dotp_c c bk fi se c0 c1 bk0 bk1 fi0 fi1 se0 se1 sv (.slice a1 n1 cp1) G O num x line num0 num1 x0 x1 line0 line1 W h1 h2)
  have D2 := Lib.hid (fun W h1 h2 => dotr_c c bk fi se c0 c1 bk0 bk1 fi0 fi1 se0 se1 sv (.slice a1 n1 cp1) G O num x line num0 num1 x0 x1 line0 line1 W h1 h2)
  have S1 := Lib.hid (fun W h => scan_c c bk fi se c0 c1 bk0 bk1 fi0 fi1 se0 se1 (.slice a1 n1 cp1) O line line0 line1 W h)
  have S2 := Lib.hid (fun W h => rscan_c c bk fi se c0 c1 bk0 bk1 fi0 fi1 se0 se1 (.slice a1 n1 cp1) O line line0 line1 W h)
  have LE := (sc_le c O line 40).1
  obtain ⟨N, hN⟩ : ∃ q_, q_ = (scN c O line 40).1 := ⟨_, rfl⟩
  obtain ⟨E, hE⟩ : ∃ q_, q_ = (scN c O line 40).2 := ⟨_, rfl⟩
  rw [← hN, ← hE] at S1 S2
  rw [← hN] at LE
  obtain ⟨d, hd⟩ : ∃ q_, q_ = seeV G O c num x line := ⟨_, rfl⟩
  rw [← hd] at D1 D2
  obtain ⟨z, hz⟩ : ∃ q_, q_ = decide (d ≠ 0) := ⟨_, rfl⟩
  rw [← hz] at D1 D2
  have SM := Lib.hid (fun a b c1 d1 g h W hA hB => same_c a b N c1 d1 E g h (by omega) W hA hB)
  clear hN hE hd hz LE
  obtain ⟨hc0, hf0⟩ := P3.out.out
  obtain ⟨hc1, hf1⟩ := Q3.out.out
  go_wp2_with (fail)
  clear hc0 hf0 hc1 hf1
  with_reducible refine (D1.out _ (HM0.out.at HN.out B3.out) (HM1.out.at HN.out B3.out)).mono ?_
  rintro q_ u4 ⟨rfl, hb⟩
  have B4 := Lib.hid (vian HN.out B3.out hb)
  have P4 := Lib.hid (P3.out.below hb)
  have Q4 := Lib.hid (Q3.out.below hb)
  clear hb B3 P3 Q3
  obtain ⟨hc0, hf0⟩ := P4.out.out
  obtain ⟨hc1, hf1⟩ := Q4.out.out
  go_wp2_with (fail)
  clear hc0 hf0 hc1 hf1
  with_reducible refine (D2.out _ (HM0.out.at HN.out B4.out) (HM1.out.at HN.out B4.out)).mono ?_
  rintro q_ u5 ⟨rfl, hb⟩
  have B5 := Lib.hid (vian HN.out B4.out hb)
  have P5 := Lib.hid (P4.out.below hb)
  have Q5 := Lib.hid (Q4.out.below hb)
  clear hb B4 P4 Q4
  obtain ⟨hc0, hf0⟩ := P5.out.out
  obtain ⟨hc1, hf1⟩ := Q5.out.out
  go_upto_region 7 with (fail)
  clear hc0 hf0 hc1 hf1
  have B6 := Lib.hid B5.out.drew
  have P6 := Lib.hid P5.out.drew
  have Q6 := Lib.hid Q5.out.drew
  clear B5 P5 Q5
  refine wp_region_held_drew (S := (fun w' => (∀ o, w'.cell? ⟨pb, o, none⟩ = (#[.int .u8 c, .int .u8 bk, .int .u8 fi, .int .u8 se])[o]?) ∧ (∀ o, w'.cell? ⟨qb, o, none⟩ = (#[.int .u8 c, .int .u8 bk, .int .u8 fi, .int .u8 se])[o]?))) (by kernel_rfl) ⟨P6.out.2.1, Q6.out.2.1⟩ (fun hHeld => ?_)
  generalize World.drew _ = u6 at hHeld B6 P6 Q6 ⊢
  refine wpAnyH_take (i := 0) (oi := { dst := some 55, op := Go.Op.load 27 (Go.Operand.tmp 14), type := 27, pos := "law.go:54", after := #[], guard := none }) (v := ?v1) rfl (by kernel_rfl) (by kernel_rfl) (by kernel_rfl) (fun _ _ _ h => h) (Or.inl ⟨by rfl, ?y1⟩) (by assumption) ?z1
  case y1 => (intro w hSw; (try dsimp only at hSw); go_simp) <;> with_reducible rfl
  try simp only [Act.put, List.setIfInBounds_toArray, List.set_cons_zero, List.set_cons_succ]
  refine wpAnyH_take (i := 1) (oi := { dst := some 56, op := Go.Op.move (Go.Operand.tmp 1), type := 22, pos := "law.go:54", after := #[], guard := none }) (v := ?v2) rfl (by kernel_rfl) (by kernel_rfl) (by kernel_rfl) (fun _ _ _ h => h) (Or.inl ⟨by rfl, ?y2⟩) (by assumption) ?z2
  case y2 => (intro w hSw; (try dsimp only at hSw); go_simp) <;> with_reducible rfl
  try simp only [Act.put, List.setIfInBounds_toArray, List.set_cons_zero, List.set_cons_succ]
  refine wpAnyH_take (i := 2) (oi := { dst := some 57, op := Go.Op.move (Go.Operand.tmp 5), type := 3, pos := "law.go:54", after := #[], guard := none }) (v := ?v3) rfl (by kernel_rfl) (by kernel_rfl) (by kernel_rfl) (fun _ _ _ h => h) (Or.inl ⟨by rfl, ?y3⟩) (by assumption) ?z3
  case y3 => (intro w hSw; (try dsimp only at hSw); go_simp) <;> with_reducible rfl
  try simp only [Act.put, List.setIfInBounds_toArray, List.set_cons_zero, List.set_cons_succ]
  refine wpAnyH_take (i := 4) (oi := { dst := some 59, op := Go.Op.load 24 (Go.Operand.tmp 8), type := 24, pos := "law.go:54", after := #[], guard := none }) (v := ?v4) rfl (by kernel_rfl) (by kernel_rfl) (by kernel_rfl) (fun _ _ _ h => h) (Or.inl ⟨by rfl, ?y4⟩) (by assumption) ?z4
  case y4 => (intro w hSw; (try dsimp only at hSw); go_simp) <;> with_reducible rfl
  try simp only [Act.put, List.setIfInBounds_toArray, List.set_cons_zero, List.set_cons_succ]
  refine wpAnyH_take (i := 5) (oi := { dst := some 60, op := Go.Op.move (Go.Operand.tmp 1), type := 22, pos := "law.go:54", after := #[], guard := none }) (v := ?v5) rfl (by kernel_rfl) (by kernel_rfl) (by kernel_rfl) (fun _ _ _ h => h) (Or.inl ⟨by rfl, ?y5⟩) (by assumption) ?z5
  case y5 => (intro w hSw; (try dsimp only at hSw); go_simp) <;> with_reducible rfl
  try simp only [Act.put, List.setIfInBounds_toArray, List.set_cons_zero, List.set_cons_succ]
  refine wpAnyH_take (i := 6) (oi := { dst := some 61, op := Go.Op.move (Go.Operand.tmp 5), type := 3, pos := "law.go:54", after := #[], guard := none }) (v := ?v6) rfl (by kernel_rfl) (by kernel_rfl) (by kernel_rfl) (fun _ _ _ h => h) (Or.inl ⟨by rfl, ?y6⟩) (by assumption) ?z6
  case y6 => (intro w hSw; (try dsimp only at hSw); go_simp) <;> with_reducible rfl
  try simp only [Act.put, List.setIfInBounds_toArray, List.set_cons_zero, List.set_cons_succ]
  refine wpAnyH_ready (rs := [3]) (by kernel_rfl) (by simp) ?_
  refine (AllReadyH.cons (o := { dst := some 58, op := Go.Op.call { callee := Go.Callee.value (Go.Operand.func 14), args := #[Go.Operand.tmp 55, Go.Operand.tmp 56, Go.Operand.tmp 57], argTypes := #[27, 22, 3] }, type := 31, pos := "law.go:54", after := #[{ on := 0, ground := Go.Ground.data }, { on := 1, ground := Go.Ground.data }, { on := 2, ground := Go.Ground.data }], guard := none }) rfl (fun K hK => ?_) AllReadyH.nil)
  · skip
    go_simp
    with_reducible refine (S1.out _ (HM1.out.at HN.out B6.out)).mono ?_
    rintro q_ u7 ⟨vR, gR, rfl, ⟨aR, cR, rfl, hrw⟩, hgg, hb⟩
    have B7 := Lib.hid (vian HN.out B6.out hb)
    have P7 := Lib.hid (P6.out.below hb)
    have Q7 := Lib.hid (Q6.out.below hb)
    have R7 := Lib.hid (rowG_mk hrw)
    have ZR := Lib.hid (Nat.le_trans HN.out (Nat.le_trans B6.out.size hgg))
    clear hb hgg hrw
    clear B6 P6 Q6
    refine hK.out _ _ ?s7 (fun hNew => ?r7)
    case s7 => exact ⟨P7.out.2.1, Q7.out.2.1⟩
    clear hK K hHeld
    have hHeld := hNew
    clear hNew
    refine wpAnyH_ready (rs := [7]) (by kernel_rfl) (by simp) ?_
    refine (AllReadyH.cons (o := { dst := some 62, op := Go.Op.call { callee := Go.Callee.value (Go.Operand.func 15), args := #[Go.Operand.tmp 59, Go.Operand.tmp 60, Go.Operand.tmp 61], argTypes := #[24, 22, 3] }, type := 31, pos := "law.go:54", after := #[{ on := 4, ground := Go.Ground.data }, { on := 5, ground := Go.Ground.data }, { on := 6, ground := Go.Ground.data }, { on := 3, ground := Go.Ground.chain }], guard := none }) rfl (fun K hK => ?_) AllReadyH.nil)
    · skip
      go_simp
      with_reducible refine (S2.out _ (HM1.out.at HN.out B7.out)).mono ?_
      rintro q_ u8 ⟨vT, gT, rfl, ⟨aT, cT, rfl, hrw⟩, hgg, hb⟩
      have B8 := Lib.hid (vian HN.out B7.out hb)
      have P8 := Lib.hid (P7.out.below hb)
      have Q8 := Lib.hid (Q7.out.below hb)
      have R8 := Lib.hid (R7.out.below hb)
      have T8 := Lib.hid (rowG_mk hrw)
      have ZT := Lib.hid (Nat.le_trans HN.out (Nat.le_trans B7.out.size hgg))
      clear hb hgg hrw
      clear B7 P7 Q7 R7
      refine hK.out _ _ ?s8 (fun hNew => ?r8)
      case s8 => exact ⟨P8.out.2.1, Q8.out.2.1⟩
      clear hK K hHeld
      have hHeld := hNew
      clear hNew
      refine wpAnyH_ready (rs := [8]) (by kernel_rfl) (by simp) ?_
      refine (AllReadyH.cons (o := { dst := some 63, op := Go.Op.call { callee := Go.Callee.value (Go.Operand.func 13), args := #[Go.Operand.tmp 58, Go.Operand.tmp 62], argTypes := #[31, 31] }, type := 4, pos := "law.go:54", after := #[{ on := 3, ground := Go.Ground.data }, { on := 7, ground := Go.Ground.data }, { on := 7, ground := Go.Ground.chain }], guard := none }) rfl (fun K hK => ?_) AllReadyH.nil)
      · skip
        go_simp
        with_reducible refine (SM.out _ _ _ _ _ _ _ R8.out T8.out).mono ?_
        rintro q_ u9 ⟨rfl, hb⟩
        have B9 := Lib.hid (vian HN.out B8.out hb)
        have P9 := Lib.hid (P8.out.below hb)
        have Q9 := Lib.hid (Q8.out.below hb)
        have R9 := Lib.hid (R8.out.below hb)
        have T9 := Lib.hid (T8.out.below hb)
        clear hb
        clear B8 P8 Q8 R8 T8
        refine hK.out _ _ ?s9 (fun hNew => ?r9)
        case s9 => exact ⟨P9.out.2.1, Q9.out.2.1⟩
        clear hK K hHeld
        have hHeld := hNew
        clear hNew
        refine wpAnyH_take (i := 9) (oi := { dst := some 64, op := Go.Op.move (Go.Operand.tmp 63), type := 4, pos := "law.go:54", after := #[{ on := 8, ground := Go.Ground.data }, { on := 8, ground := Go.Ground.chain }], guard := none }) (v := ?v10) rfl (by kernel_rfl) (by kernel_rfl) (by kernel_rfl) (fun _ _ _ h => h) (Or.inl ⟨by rfl, ?y10⟩) (by assumption) ?z10
        case y10 => (intro w hSw; (try dsimp only at hSw); go_simp) <;> with_reducible rfl
        try simp only [Act.put, List.setIfInBounds_toArray, List.set_cons_zero, List.set_cons_succ]
        refine wpAnyH_take (i := 10) (oi := { dst := some 65, op := Go.Op.move (Go.Operand.tmp 15), type := 5, pos := "law.go:54", after := #[{ on := 9, ground := Go.Ground.guard }], guard := some (9, true) }) (v := ?v11) rfl (by kernel_rfl) (by kernel_rfl) (by kernel_rfl) (fun _ _ _ h => h) (Or.inl ⟨by rfl, ?y11⟩) (by assumption) ?z11
        case y11 => (intro w hSw; (try dsimp only at hSw); go_simp) <;> with_reducible rfl
        try simp only [Act.put, List.setIfInBounds_toArray, List.set_cons_zero, List.set_cons_succ]
        refine wpAnyH_take (i := 11) (oi := { dst := some 66, op := Go.Op.move (Go.Operand.tmp 17), type := 5, pos := "law.go:54", after := #[{ on := 9, ground := Go.Ground.guard }], guard := some (9, true) }) (v := ?v12) rfl (by kernel_rfl) (by kernel_rfl) (by kernel_rfl) (fun _ _ _ h => h) (Or.inl ⟨by rfl, ?y12⟩) (by assumption) ?z12
        case y12 => (intro w hSw; (try dsimp only at hSw); go_simp) <;> with_reducible rfl
        try simp only [Act.put, List.setIfInBounds_toArray, List.set_cons_zero, List.set_cons_succ]
        refine wpAnyH_take (i := 12) (oi := { dst := some 67, op := Go.Op.binOp Go.BinOp.eql 5 (Go.Operand.tmp 65) (Go.Operand.tmp 66) 5, type := 4, pos := "law.go:54", after := #[{ on := 10, ground := Go.Ground.data }, { on := 11, ground := Go.Ground.data }, { on := 9, ground := Go.Ground.guard }], guard := some (9, true) }) (v := ?v13) rfl (by kernel_rfl) (by kernel_rfl) (by kernel_rfl) (fun _ _ _ h => h) (Or.inl ⟨by rfl, ?y13⟩) (by assumption) ?z13
        case y13 => (intro w hSw; (try dsimp only at hSw); go_simp) <;> with_reducible rfl
        try simp only [Act.put, List.setIfInBounds_toArray, List.set_cons_zero, List.set_cons_succ]
        refine wpAnyH_take (i := 13) (oi := { dst := some 68, op := Go.Op.pick (Go.Operand.tmp 64) (Go.Operand.tmp 67) (Go.Operand.const (Go.Value.bool false)), type := 4, pos := "law.go:54", after := #[{ on := 9, ground := Go.Ground.data }, { on := 12, ground := Go.Ground.data }], guard := none }) (v := ?v14) rfl (by kernel_rfl) (by kernel_rfl) (by kernel_rfl) (fun _ _ _ h => h) (Or.inl ⟨by rfl, ?y14⟩) (by assumption) ?z14
        case y14 => (intro w hSw; (try dsimp only at hSw); go_simp) <;> with_reducible rfl
        try simp only [Act.put, List.setIfInBounds_toArray, List.set_cons_zero, List.set_cons_succ]
        refine wpAnyH_take (i := 14) (oi := { dst := some 69, op := Go.Op.move (Go.Operand.tmp 68), type := 4, pos := "law.go:54", after := #[{ on := 13, ground := Go.Ground.data }, { on := 9, ground := Go.Ground.chain }], guard := none }) (v := ?v15) rfl (by kernel_rfl) (by kernel_rfl) (by kernel_rfl) (fun _ _ _ h => h) (Or.inl ⟨by rfl, ?y15⟩) (by assumption) ?z15
        case y15 => (intro w hSw; (try dsimp only at hSw); go_simp) <;> with_reducible rfl
        try simp only [Act.put, List.setIfInBounds_toArray, List.set_cons_zero, List.set_cons_succ]
        refine wpAnyH_take (i := 15) (oi := { dst := some 70, op := Go.Op.move (Go.Operand.tmp 16), type := 4, pos := "law.go:54", after := #[{ on := 14, ground := Go.Ground.guard }], guard := some (14, true) }) (v := ?v16) rfl (by kernel_rfl) (by kernel_rfl) (by kernel_rfl) (fun _ _ _ h => h) (Or.inl ⟨by rfl, ?y16⟩) (by assumption) ?z16
        case y16 => (intro w hSw; (try dsimp only at hSw); go_simp) <;> with_reducible rfl
        try simp only [Act.put, List.setIfInBounds_toArray, List.set_cons_zero, List.set_cons_succ]
        refine wpAnyH_take (i := 16) (oi := { dst := some 71, op := Go.Op.move (Go.Operand.tmp 18), type := 4, pos := "law.go:54", after := #[{ on := 14, ground := Go.Ground.guard }], guard := some (14, true) }) (v := ?v17) rfl (by kernel_rfl) (by kernel_rfl) (by kernel_rfl) (fun _ _ _ h => h) (Or.inl ⟨by rfl, ?y17⟩) (by assumption) ?z17
        case y17 => (intro w hSw; (try dsimp only at hSw); go_simp) <;> with_reducible rfl
        try simp only [Act.put, List.setIfInBounds_toArray, List.set_cons_zero, List.set_cons_succ]
        refine wpAnyH_take (i := 17) (oi := { dst := some 72, op := Go.Op.binOp Go.BinOp.eql 4 (Go.Operand.tmp 70) (Go.Operand.tmp 71) 4, type := 4, pos := "law.go:54", after := #[{ on := 15, ground := Go.Ground.data }, { on := 16, ground := Go.Ground.data }, { on := 14, ground := Go.Ground.guard }], guard := some (14, true) }) (v := ?v18) rfl (by kernel_rfl) (by kernel_rfl) (by kernel_rfl) (fun _ _ _ h => h) (Or.inl ⟨by rfl, ?y18⟩) (by assumption) ?z18
        case y18 => (intro w hSw; (try dsimp only at hSw); go_simp) <;> with_reducible rfl
        try simp only [Act.put, List.setIfInBounds_toArray, List.set_cons_zero, List.set_cons_succ]
        refine wpAnyH_take (i := 18) (oi := { dst := some 73, op := Go.Op.pick (Go.Operand.tmp 69) (Go.Operand.tmp 72) (Go.Operand.const (Go.Value.bool false)), type := 4, pos := "law.go:54", after := #[{ on := 14, ground := Go.Ground.data }, { on := 17, ground := Go.Ground.data }], guard := none }) (v := ?v19) rfl (by kernel_rfl) (by kernel_rfl) (by kernel_rfl) (fun _ _ _ h => h) (Or.inl ⟨by rfl, ?y19⟩) (by assumption) ?z19
        case y19 => (intro w hSw; (try dsimp only at hSw); go_simp) <;> with_reducible rfl
        try simp only [Act.put, List.setIfInBounds_toArray, List.set_cons_zero, List.set_cons_succ]
        refine wpAnyH_take (i := 19) (oi := { dst := some 12, op := Go.Op.assign (Go.Operand.tmp 73), type := 4, pos := "law.go:54", after := #[{ on := 18, ground := Go.Ground.data }, { on := 14, ground := Go.Ground.chain }, { on := 0, ground := Go.Ground.phase }, { on := 1, ground := Go.Ground.phase }, { on := 2, ground := Go.Ground.phase }, { on := 3, ground := Go.Ground.phase }, { on := 4, ground := Go.Ground.phase }, { on := 5, ground := Go.Ground.phase }, { on := 6, ground := Go.Ground.phase }, { on := 7, ground := Go.Ground.phase }, { on := 8, ground := Go.Ground.phase }, { on := 9, ground := Go.Ground.phase }, { on := 10, ground := Go.Ground.phase }, { on := 11, ground := Go.Ground.phase }, { on := 12, ground := Go.Ground.phase }, { on := 13, ground := Go.Ground.phase }, { on := 14, ground := Go.Ground.phase }, { on := 15, ground := Go.Ground.phase }, { on := 16, ground := Go.Ground.phase }, { on := 17, ground := Go.Ground.phase }, { on := 18, ground := Go.Ground.phase }], guard := none }) (v := ?v20) rfl (by kernel_rfl) (by kernel_rfl) (by kernel_rfl) (fun _ _ _ h => h) (Or.inl ⟨by rfl, ?y20⟩) (by assumption) ?z20
        case y20 => (intro w hSw; (try dsimp only at hSw); go_simp) <;> with_reducible rfl
        try simp only [Act.put, List.setIfInBounds_toArray, List.set_cons_zero, List.set_cons_succ]
        refine wpAnyH_done (by kernel_rfl) ?_ _
        clear hHeld
        go_wp2_with (fail)
        all_goals exact bodyPost_ret (v := .bool true) (by simp [results, Try.results3, go_sem]) rfl ⟨rfl, ZF.out _ B9.out⟩
theorem scans_walk (c bk fi se : Int) (c0 : 0 ≤ c) (c1 : c < 256) (bk0 : 0 ≤ bk) (bk1 : bk < 256) (fi0 : 0 ≤ fi) (fi1 : fi < 256) (se0 : 0 ≤ se) (se1 : se < 256) (vb : Value) (vo : Value) (num x line : Int) (num0 : -9223372036854775808 ≤ num) (num1 : num ≤ 9223372036854775807) (x0 : -9223372036854775808 ≤ x) (x1 : x ≤ 9223372036854775807) (line0 : -9223372036854775808 ≤ line) (line1 : line ≤ 9223372036854775807) (w : World) (hinb : MemIn w vb) (hino : MemIn w vo) : Calls Try.prog 3 #[vb, vo, .agg #[.int .u8 c, .int .u8 bk, .int .u8 fi, .int .u8 se], .int .i64 num, .int .i64 x, .int .i64 line] w fun q_ w' => q_ = .returned (.bool true) ∧ Below w.heap.size w w' := by
  obtain ⟨a, n, cp, rfl, hzb, hmb⟩ := hinb
  obtain ⟨a1, n1, cp1, rfl, hzo, hmo⟩ := hino
  by_cases g0 : 3000 < n
  · exact scans_long0 c bk fi se c0 c1 bk0 bk1 fi0 fi1 se0 se1 a n cp a1 n1 cp1 num x line num0 num1 x0 x1 line0 line1  g0 w
  by_cases g1 : 300 < n1
  · exact scans_long1 c bk fi se c0 c1 bk0 bk1 fi0 fi1 se0 se1 a n cp a1 n1 cp1 num x line num0 num1 x0 x1 line0 line1 (by omega) g1 w
  obtain ⟨F, hMb⟩ := hmb (by omega)
  obtain ⟨O, hMo⟩ := hmo (by omega)
  exact scans_short c bk fi se c0 c1 bk0 bk1 fi0 fi1 se0 se1 a n cp a1 n1 cp1 F O num x line num0 num1 x0 x1 line0 line1 (by omega) (by omega) w hMb hMo
end Go.Proofs.Ytiekojnhkemjlaa
