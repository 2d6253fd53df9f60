/-
  The walk through SpritesLines: for every memory, sprite memory, look, line and colours below.
-/
import Derived.Test.YtiekojnhkemjlaaLnp
import Derived.Test.YtiekojnhkemjlaaLnr
import Derived.Test.YtiekojnhkemjlaaUnd
import Derived.Test.YtiekojnhkemjlaaOpn
import Derived.Deep.Cut
import Derived.BigQuiet
import Derived.WalkSmall
namespace Go.Proofs.Ytiekojnhkemjlaa
open Go.ChangeShapes Go.WideShapes Go.ChangeAt Go.RowKit
set_option linter.unusedVariables false
set_option linter.unusedSimpArgs false
set_option maxRecDepth 100000
set_option maxHeartbeats 2000000 in
theorem lines_long0 (c bk fi se : Int) (c0 : 0 ≤ c) (c1 : c < 256) (bk0 : 0 ≤ bk) (bk1 : bk < 256) (fi0 : 0 ≤ fi) (fi1 : fi < 256) (se0 : 0 ≤ se) (se1 : se < 256) (a : Option Addr) (n cp : Nat) (a1 : Option Addr) (n1 cp1 : Nat) (a2 : Option Addr) (n2 cp2 : Nat) (line : Int) (line0 : 0 ≤ line) (line1 : line < 256)  (h : 3000 < n) (w : World) : Calls Try.prog 4 #[.slice a n cp, .slice a1 n1 cp1, .agg #[.int .u8 c, .int .u8 bk, .int .u8 fi, .int .u8 se], .int .u8 line, .slice a2 n2 cp2] w fun q_ w' => q_ = .returned (.bool true) ∧ Below w.heap.size w w' := by
  suffices hall : ∀ (n_ : Nat) (W0 : World), n_ ≤ W0.heap.size → Below n_ W0 w → Calls Try.prog 4 #[.slice a n cp, .slice a1 n1 cp1, .agg #[.int .u8 c, .int .u8 bk, .int .u8 fi, .int .u8 se], .int .u8 line, .slice a2 n2 cp2] w fun q_ w' => q_ = .returned (.bool true) ∧ Below n_ W0 w' from hall _ _ (Nat.le_refl _) (Below.refl _ _)
  intro n_ W0 hn hB
  have HN := Lib.hid hn
  have BB := Lib.hid hB
  clear hn hB
  have AW := Lib.hid awake_c
  have hnot : ∀ (x : Bool) (w : World), (Op.unary .not (.bool x)).run Try.prog w = .ok (.bool (!x)) w := fun _ _ => rfl
  have hI : (3000 : Int) < n := by omega
  have hd : decide ((3000 : Int) < (n : Int)) = true := decide_eq_true hI
  go_enter Try.func4, Try.ntmps4
  have Q_ := own1 w (.cells #[.int .u8 c, .int .u8 bk, .int .u8 fi, .int .u8 se] 24)
  have B0 := Lib.hid (vian HN.out BB.out Q_)
  have P0 := Lib.hid (show Has (w.alloc (.cells #[.int .u8 c, .int .u8 bk, .int .u8 fi, .int .u8 se] 24)) w.heap.size #[.int .u8 c, .int .u8 bk, .int .u8 fi, .int .u8 se] by simpa using Has.new w #[.int .u8 c, .int .u8 bk, .int .u8 fi, .int .u8 se] 24)
  have LP := Lib.hid (show n_ ≤ w.heap.size + 0 from Nat.le_add_right_of_le (Nat.le_trans HN.out BB.out.size))
  simp only [Nat.add_zero] at LP
  clear Q_
  go_upto_region 1 with (fail)
  generalize (w.alloc (.cells #[.int .u8 c, .int .u8 bk, .int .u8 fi, .int .u8 se] 24)) = u0 at B0 P0 ⊢
  generalize w.heap.size = pb at P0 LP  ⊢
  go_wp2_with (fail)
  with_reducible refine (AW.out _).mono ?_
  rintro q_ u1 ⟨rfl, hb⟩
  have B1 := Lib.hid (vian HN.out B0.out hb)
  have P1 := Lib.hid (P0.out.below hb)
  clear hb B0 P0
  go_wp2_with (fail)
  with_reducible refine (AW.out _).mono ?_
  rintro q_ u2 ⟨rfl, hb⟩
  have B2 := Lib.hid (vian HN.out B1.out hb)
  have P2 := Lib.hid (P1.out.below hb)
  clear hb B1 P1
  go_wp2_with (fail)
  all_goals exact bodyPost_ret (v := .bool true) (by simp [results, Try.results4, go_sem]) rfl ⟨rfl, B2.out⟩
set_option maxHeartbeats 2000000 in
theorem lines_long1 (c bk fi se : Int) (c0 : 0 ≤ c) (c1 : c < 256) (bk0 : 0 ≤ bk) (bk1 : bk < 256) (fi0 : 0 ≤ fi) (fi1 : fi < 256) (se0 : 0 ≤ se) (se1 : se < 256) (a : Option Addr) (n cp : Nat) (a1 : Option Addr) (n1 cp1 : Nat) (a2 : Option Addr) (n2 cp2 : Nat) (line : Int) (line0 : 0 ≤ line) (line1 : line < 256) (h0 : n ≤ 3000) (h : 300 < n1) (w : World) : Calls Try.prog 4 #[.slice a n cp, .slice a1 n1 cp1, .agg #[.int .u8 c, .int .u8 bk, .int .u8 fi, .int .u8 se], .int .u8 line, .slice a2 n2 cp2] w fun q_ w' => q_ = .returned (.bool true) ∧ Below w.heap.size w w' := by
  suffices hall : ∀ (n_ : Nat) (W0 : World), n_ ≤ W0.heap.size → Below n_ W0 w → Calls Try.prog 4 #[.slice a n cp, .slice a1 n1 cp1, .agg #[.int .u8 c, .int .u8 bk, .int .u8 fi, .int .u8 se], .int .u8 line, .slice a2 n2 cp2] w fun q_ w' => q_ = .returned (.bool true) ∧ Below n_ W0 w' from hall _ _ (Nat.le_refl _) (Below.refl _ _)
  intro n_ W0 hn hB
  have HN := Lib.hid hn
  have BB := Lib.hid hB
  clear hn hB
  have AW := Lib.hid awake_c
  have hnot : ∀ (x : Bool) (w : World), (Op.unary .not (.bool x)).run Try.prog w = .ok (.bool (!x)) w := fun _ _ => rfl
  have hI0 : ¬ (3000 : Int) < n := by omega
  have hd0 : decide ((3000 : Int) < (n : Int)) = false := decide_eq_false hI0
  have hI : (300 : Int) < n1 := by omega
  have hd : decide ((300 : Int) < (n1 : Int)) = true := decide_eq_true hI
  go_enter Try.func4, Try.ntmps4
  have Q_ := own1 w (.cells #[.int .u8 c, .int .u8 bk, .int .u8 fi, .int .u8 se] 24)
  have B0 := Lib.hid (vian HN.out BB.out Q_)
  have P0 := Lib.hid (show Has (w.alloc (.cells #[.int .u8 c, .int .u8 bk, .int .u8 fi, .int .u8 se] 24)) w.heap.size #[.int .u8 c, .int .u8 bk, .int .u8 fi, .int .u8 se] by simpa using Has.new w #[.int .u8 c, .int .u8 bk, .int .u8 fi, .int .u8 se] 24)
  have LP := Lib.hid (show n_ ≤ w.heap.size + 0 from Nat.le_add_right_of_le (Nat.le_trans HN.out BB.out.size))
  simp only [Nat.add_zero] at LP
  clear Q_
  go_upto_region 1 with (fail)
  generalize (w.alloc (.cells #[.int .u8 c, .int .u8 bk, .int .u8 fi, .int .u8 se] 24)) = u0 at B0 P0 ⊢
  generalize w.heap.size = pb at P0 LP  ⊢
  go_wp2_with (fail)
  with_reducible refine (AW.out _).mono ?_
  rintro q_ u1 ⟨rfl, hb⟩
  have B1 := Lib.hid (vian HN.out B0.out hb)
  have P1 := Lib.hid (P0.out.below hb)
  clear hb B0 P0
  go_wp2_with (fail)
  with_reducible refine (AW.out _).mono ?_
  rintro q_ u2 ⟨rfl, hb⟩
  have B2 := Lib.hid (vian HN.out B1.out hb)
  have P2 := Lib.hid (P1.out.below hb)
  clear hb B1 P1
  go_wp2_with (fail)
  all_goals exact bodyPost_ret (v := .bool true) (by simp [results, Try.results4, go_sem]) rfl ⟨rfl, B2.out⟩
set_option maxHeartbeats 2000000 in
theorem lines_long2 (c bk fi se : Int) (c0 : 0 ≤ c) (c1 : c < 256) (bk0 : 0 ≤ bk) (bk1 : bk < 256) (fi0 : 0 ≤ fi) (fi1 : fi < 256) (se0 : 0 ≤ se) (se1 : se < 256) (a : Option Addr) (n cp : Nat) (a1 : Option Addr) (n1 cp1 : Nat) (a2 : Option Addr) (n2 cp2 : Nat) (line : Int) (line0 : 0 ≤ line) (line1 : line < 256) (h0 : n ≤ 3000) (h1 : n1 ≤ 300) (h : 3000 < n2) (w : World) : Calls Try.prog 4 #[.slice a n cp, .slice a1 n1 cp1, .agg #[.int .u8 c, .int .u8 bk, .int .u8 fi, .int .u8 se], .int .u8 line, .slice a2 n2 cp2] w fun q_ w' => q_ = .returned (.bool true) ∧ Below w.heap.size w w' := by
  suffices hall : ∀ (n_ : Nat) (W0 : World), n_ ≤ W0.heap.size → Below n_ W0 w → Calls Try.prog 4 #[.slice a n cp, .slice a1 n1 cp1, .agg #[.int .u8 c, .int .u8 bk, .int .u8 fi, .int .u8 se], .int .u8 line, .slice a2 n2 cp2] w fun q_ w' => q_ = .returned (.bool true) ∧ Below n_ W0 w' from hall _ _ (Nat.le_refl _) (Below.refl _ _)
  intro n_ W0 hn hB
  have HN := Lib.hid hn
  have BB := Lib.hid hB
  clear hn hB
  have AW := Lib.hid awake_c
  have hnot : ∀ (x : Bool) (w : World), (Op.unary .not (.bool x)).run Try.prog w = .ok (.bool (!x)) w := fun _ _ => rfl
  have hI0 : ¬ (3000 : Int) < n := by omega
  have hd0 : decide ((3000 : Int) < (n : Int)) = false := decide_eq_false hI0
  have hI1 : ¬ (300 : Int) < n1 := by omega
  have hd1 : decide ((300 : Int) < (n1 : Int)) = false := decide_eq_false hI1
  have hI : (3000 : Int) < n2 := by omega
  have hd : decide ((3000 : Int) < (n2 : Int)) = true := decide_eq_true hI
  go_enter Try.func4, Try.ntmps4
  have Q_ := own1 w (.cells #[.int .u8 c, .int .u8 bk, .int .u8 fi, .int .u8 se] 24)
  have B0 := Lib.hid (vian HN.out BB.out Q_)
  have P0 := Lib.hid (show Has (w.alloc (.cells #[.int .u8 c, .int .u8 bk, .int .u8 fi, .int .u8 se] 24)) w.heap.size #[.int .u8 c, .int .u8 bk, .int .u8 fi, .int .u8 se] by simpa using Has.new w #[.int .u8 c, .int .u8 bk, .int .u8 fi, .int .u8 se] 24)
  have LP := Lib.hid (show n_ ≤ w.heap.size + 0 from Nat.le_add_right_of_le (Nat.le_trans HN.out BB.out.size))
  simp only [Nat.add_zero] at LP
  clear Q_
  go_upto_region 1 with (fail)
  generalize (w.alloc (.cells #[.int .u8 c, .int .u8 bk, .int .u8 fi, .int .u8 se] 24)) = u0 at B0 P0 ⊢
  generalize w.heap.size = pb at P0 LP  ⊢
  go_wp2_with (fail)
  with_reducible refine (AW.out _).mono ?_
  rintro q_ u1 ⟨rfl, hb⟩
  have B1 := Lib.hid (vian HN.out B0.out hb)
  have P1 := Lib.hid (P0.out.below hb)
  clear hb B0 P0
  go_wp2_with (fail)
  with_reducible refine (AW.out _).mono ?_
  rintro q_ u2 ⟨rfl, hb⟩
  have B2 := Lib.hid (vian HN.out B1.out hb)
  have P2 := Lib.hid (P1.out.below hb)
  clear hb B1 P1
  go_wp2_with (fail)
  all_goals exact bodyPost_ret (v := .bool true) (by simp [results, Try.results4, go_sem]) rfl ⟨rfl, B2.out⟩
set_option maxHeartbeats 8000000 in
theorem lines_short (c bk fi se : Int) (c0 : 0 ≤ c) (c1 : c < 256) (bk0 : 0 ≤ bk) (bk1 : bk < 256) (fi0 : 0 ≤ fi) (fi1 : fi < 256) (se0 : 0 ≤ se) (se1 : se < 256) (a : Option Addr) (n cp : Nat) (a1 : Option Addr) (n1 cp1 : Nat) (a2 : Option Addr) (n2 cp2 : Nat) (F : M) (O : M) (U : M) (line : Int) (line0 : 0 ≤ line) (line1 : line < 256) (h0 : n ≤ 3000) (h1 : n1 ≤ 300) (h2 : n2 ≤ 3000) (w : World) (hM0 : Mem w (.slice a n cp) F) (hM1 : Mem w (.slice a1 n1 cp1) O) (hM2 : Mem w (.slice a2 n2 cp2) U) : Calls Try.prog 4 #[.slice a n cp, .slice a1 n1 cp1, .agg #[.int .u8 c, .int .u8 bk, .int .u8 fi, .int .u8 se], .int .u8 line, .slice a2 n2 cp2] w fun q_ w' => q_ = .returned (.bool true) ∧ Below w.heap.size w w' := by
  suffices hall : ∀ (n_ : Nat) (W0 : World), n_ ≤ W0.heap.size → Below n_ W0 w → MemB n_ W0 (.slice a n cp) F → MemB n_ W0 (.slice a1 n1 cp1) O → MemB n_ W0 (.slice a2 n2 cp2) U → Calls Try.prog 4 #[.slice a n cp, .slice a1 n1 cp1, .agg #[.int .u8 c, .int .u8 bk, .int .u8 fi, .int .u8 se], .int .u8 line, .slice a2 n2 cp2] w fun q_ w' => q_ = .returned (.bool true) ∧ Below n_ W0 w' from hall _ _ (Nat.le_refl _) (Below.refl _ _) hM0 hM1 hM2
  clear hM0 hM1 hM2
  intro n_ W0 hn hB hM0 hM1 hM2
  have HN := Lib.hid hn
  have BB := Lib.hid hB
  clear hn hB
  have HM0 := Lib.hid hM0
  clear hM0
  have HM1 := Lib.hid hM1
  clear hM1
  have HM2 := Lib.hid hM2
  clear hM2
  have AW := Lib.hid awake_c
  have hnot : ∀ (x : Bool) (w : World), (Op.unary .not (.bool x)).run Try.prog w = .ok (.bool (!x)) w := fun _ _ => rfl
  have hI0 : ¬ (3000 : Int) < n := by omega
  have hd0 : decide ((3000 : Int) < (n : Int)) = false := decide_eq_false hI0
  have hI1 : ¬ (300 : Int) < n1 := by omega
  have hd1 : decide ((300 : Int) < (n1 : Int)) = false := decide_eq_false hI1
  have hI2 : ¬ (3000 : Int) < n2 := by omega
  have hd2 : decide ((3000 : Int) < (n2 : Int)) = false := decide_eq_false hI2
  have hz34 : ∀ w : World, (zeroValue 34).run Try.prog w = .ok (.agg (enc zeroM)) w := zero34
  go_enter Try.func4, Try.ntmps4
  have Q_ := own1 w (.cells #[.int .u8 c, .int .u8 bk, .int .u8 fi, .int .u8 se] 24)
  have B0 := Lib.hid (vian HN.out BB.out Q_)
  have P0 := Lib.hid (show Has (w.alloc (.cells #[.int .u8 c, .int .u8 bk, .int .u8 fi, .int .u8 se] 24)) w.heap.size #[.int .u8 c, .int .u8 bk, .int .u8 fi, .int .u8 se] by simpa using Has.new w #[.int .u8 c, .int .u8 bk, .int .u8 fi, .int .u8 se] 24)
  have LP := Lib.hid (show n_ ≤ w.heap.size + 0 from Nat.le_add_right_of_le (Nat.le_trans HN.out BB.out.size))
  simp only [Nat.add_zero] at LP
  clear Q_
  go_upto_region 1 with (fail)
  generalize (w.alloc (.cells #[.int .u8 c, .int .u8 bk, .int .u8 fi, .int .u8 se] 24)) = u0 at B0 P0 ⊢
  generalize w.heap.size = pb at P0 LP  ⊢
  go_wp2_with (fail)
  with_reducible refine (AW.out _).mono ?_
  rintro q_ u1 ⟨rfl, hb⟩
  have B1 := Lib.hid (vian HN.out B0.out hb)
  have P1 := Lib.hid (P0.out.below hb)
  clear hb B0 P0
  obtain ⟨hc0, hf0⟩ := P1.out.out
  go_wp2_with (fail)
  clear hc0 hf0
  with_reducible refine (filled_m a n cp F _ (HM0.out.at HN.out B1.out)).mono ?_
  rintro q_ u2 ⟨sv, rfl, hm0, hb⟩
  have hb3 := vian HN.out B1.out hb
  have hm1 := (HM1.out.at HN.out B1.out).at (Nat.le_refl _) hb
  have hm2 := (HM2.out.at HN.out B1.out).at (Nat.le_refl _) hb
  have P2 := Lib.hid (P1.out.below hb)
  obtain ⟨n3, V3, hn3, b3, m0, m1, m2, gP, z3, q3⟩ : ∃ (n3 : Nat) (V3 : World), n3 ≤ V3.heap.size ∧ Below n3 V3 u2 ∧ MemB n3 V3 sv (filledV F n) ∧ MemB n3 V3 (.slice a1 n1 cp1) O ∧ MemB n3 V3 (.slice a2 n2 cp2) U ∧ pb < n3 ∧ (∀ w', Below n3 V3 w' → Below n_ W0 w') ∧ n_ ≤ n3 := ⟨u2.heap.size, u2, Nat.le_refl _, Below.refl _ _, hm0, hm1, hm2, P2.out.1, fun w' h => vian HN.out hb3 h, Nat.le_trans HN.out hb3.size⟩
  clear HN hb hb3 HM0 hm0 HM1 hm1 HM2 hm2 B1 P1
  have HN := Lib.hid hn3
  have B2 := Lib.hid b3
  have ZF := Lib.hid z3
  have QF := Lib.hid q3
  have HM0 := Lib.hid m0
  have HM1 := Lib.hid m1
  have HM2 := Lib.hid m2
  have GP := Lib.hid gP
  clear LP
  clear hn3 b3 z3 q3 m0 m1 m2 gP
  obtain ⟨G, hG⟩ : ∃ G, G = filledV F n := ⟨_, rfl⟩
  rw [← hG] at HM0
  clear hG
  have UN := Lib.hid (fun W h => und_c a2 n2 cp2 U W h)
  have okU := ok_first (ok_und HM2.out.ok n2) 160
  obtain ⟨UU, hUU⟩ : ∃ q_, q_ = firstN (undV U n2) 160 := ⟨_, rfl⟩
  rw [← hUU] at UN okU
  have L1 := Lib.hid (fun W h1 h2 => linep_c c bk fi se c0 c1 bk0 bk1 fi0 fi1 se0 se1 sv (.slice a1 n1 cp1) G O UU okU line (by omega) (by omega) W h1 h2)
  have L2 := Lib.hid (fun W h1 h2 => liner_c c bk fi se c0 c1 bk0 bk1 fi0 fi1 se0 se1 sv (.slice a1 n1 cp1) G O UU okU line (by omega) (by omega) W h1 h2)
  obtain ⟨m, hm⟩ : ∃ q_, q_ = firstN (outV c bk fi se G O line UU) 160 := ⟨_, rfl⟩
  rw [← hm] at L1 L2
  clear hm hUU okU
  have ewl : IntKind.i64.wrap line = line := by rw [IntKind.wrap_i64]; omega
  obtain ⟨hc0, hf0⟩ := P2.out.out
  go_wp2_with (fail)
  clear hc0 hf0
  with_reducible refine (UN.out _ (HM2.out.at HN.out B2.out)).mono ?_
  rintro q_ u3 ⟨rfl, hb⟩
  have B3 := Lib.hid (vian HN.out B2.out hb)
  have P3 := Lib.hid (P2.out.below hb)
  clear hb B2 P2
  go_wp2_with (refine store_g r34 (Has.new u3 (enc zeroM) 34) (enc_size _) (enc UU) (enc_size _) (enc_one _) rfl _ _ rfl rfl rfl ?_)
  intro u4 hP hk
  have B4 := Lib.hid (keep_new HN.out B3.out _ hk)
  have NPT := Lib.hid (Nat.ne_of_lt P3.out.1)
  have P4 := Lib.hid (hk.has NPT.out (P3.out.below (own1 _ _)))
  have T4 := Lib.hid hP
  have LT := Lib.hid (Nat.le_trans HN.out B3.out.size)
  generalize u3.heap.size = tb at T4 LT NPT ⊢
  clear hk hP B3 P3
  try simp only [Act.put, List.setIfInBounds_toArray, List.set_cons_zero, List.set_cons_succ]
  obtain ⟨hc0, hf0⟩ := P4.out.out
  go_upto_region 5 with (fail)
  clear hc0 hf0
  have B5 := Lib.hid B4.out.drew
  have P5 := Lib.hid P4.out.drew
  have T5 := Lib.hid T4.out.drew
  clear B4 P4 T4
  refine wp_region_held_drew (S := (fun w' => (∀ o, w'.cell? ⟨pb, o, none⟩ = (#[.int .u8 c, .int .u8 bk, .int .u8 fi, .int .u8 se])[o]?) ∧ (w'.rangeAt tb 0 (enc UU).toList))) (by kernel_rfl) ⟨P5.out.2.1, range_of_has T5.out⟩ (fun hHeld => ?_)
  generalize World.drew _ = u5 at hHeld B5 P5 T5 ⊢
  refine wpAnyH_take (i := 0) (oi := { dst := some 35, op := Go.Op.load 24 (Go.Operand.tmp 7), type := 24, pos := "law.go:64", after := #[], guard := none }) (v := ?v1) rfl (by kernel_rfl) (by kernel_rfl) (by kernel_rfl) (fun _ _ _ h => h) (Or.inl ⟨by rfl, ?y1⟩) (by assumption) ?z1
  case y1 => (intro w hSw; (try dsimp only at hSw); go_simp) <;> with_reducible rfl
  try simp only [Act.put, List.setIfInBounds_toArray, List.set_cons_zero, List.set_cons_succ]
  refine wpAnyH_take (i := 1) (oi := { dst := some 36, op := Go.Op.move (Go.Operand.tmp 11), type := 22, pos := "law.go:64", after := #[], guard := none }) (v := ?v2) rfl (by kernel_rfl) (by kernel_rfl) (by kernel_rfl) (fun _ _ _ h => h) (Or.inl ⟨by rfl, ?y2⟩) (by assumption) ?z2
  case y2 => (intro w hSw; (try dsimp only at hSw); go_simp) <;> with_reducible rfl
  try simp only [Act.put, List.setIfInBounds_toArray, List.set_cons_zero, List.set_cons_succ]
  refine wpAnyH_take (i := 2) (oi := { dst := some 37, op := Go.Op.move (Go.Operand.tmp 1), type := 22, pos := "law.go:64", after := #[], guard := none }) (v := ?v3) rfl (by kernel_rfl) (by kernel_rfl) (by kernel_rfl) (fun _ _ _ h => h) (Or.inl ⟨by rfl, ?y3⟩) (by assumption) ?z3
  case y3 => (intro w hSw; (try dsimp only at hSw); go_simp) <;> with_reducible rfl
  try simp only [Act.put, List.setIfInBounds_toArray, List.set_cons_zero, List.set_cons_succ]
  refine wpAnyH_take (i := 3) (oi := { dst := some 38, op := Go.Op.move (Go.Operand.tmp 3), type := 5, pos := "law.go:64", after := #[], guard := none }) (v := ?v4) rfl (by kernel_rfl) (by kernel_rfl) (by kernel_rfl) (fun _ _ _ h => h) (Or.inl ⟨by rfl, ?y4⟩) (by assumption) ?z4
  case y4 => (intro w hSw; (try dsimp only at hSw); go_simp) <;> with_reducible rfl
  try simp only [Act.put, List.setIfInBounds_toArray, List.set_cons_zero, List.set_cons_succ]
  refine wpAnyH_take (i := 4) (oi := { dst := some 39, op := Go.Op.convert 5 3 (Go.Operand.tmp 38), type := 3, pos := "law.go:64", after := #[{ on := 3, ground := Go.Ground.data }], guard := none }) (v := ?v5) rfl (by kernel_rfl) (by kernel_rfl) (by kernel_rfl) (fun _ _ _ h => h) (Or.inl ⟨by rfl, ?y5⟩) (by assumption) ?z5
  case y5 => (intro w hSw; (try dsimp only at hSw); go_simp) <;> with_reducible rfl
  try simp only [Act.put, List.setIfInBounds_toArray, List.set_cons_zero, List.set_cons_succ]
  refine wpAnyH_take (i := 5) (oi := { dst := some 40, op := Go.Op.load 34 (Go.Operand.tmp 12), type := 34, pos := "law.go:64", after := #[], guard := none }) (v := .agg (enc UU)) rfl (by kernel_rfl) (by kernel_rfl) (by kernel_rfl) (fun _ _ _ h => h) (yields_load r34 (enc UU) (enc_size _) tb (fun w hw => hw.2) (by rfl) _ rfl rfl) (by assumption) ?_
  try simp only [Act.put, List.setIfInBounds_toArray, List.set_cons_zero, List.set_cons_succ]
  refine wpAnyH_take (i := 7) (oi := { dst := some 42, op := Go.Op.load 24 (Go.Operand.tmp 7), type := 24, pos := "law.go:64", after := #[], guard := none }) (v := ?v7) rfl (by kernel_rfl) (by kernel_rfl) (by kernel_rfl) (fun _ _ _ h => h) (Or.inl ⟨by rfl, ?y7⟩) (by assumption) ?z7
  case y7 => (intro w hSw; (try dsimp only at hSw); go_simp) <;> with_reducible rfl
  try simp only [Act.put, List.setIfInBounds_toArray, List.set_cons_zero, List.set_cons_succ]
  refine wpAnyH_take (i := 8) (oi := { dst := some 43, op := Go.Op.move (Go.Operand.tmp 11), type := 22, pos := "law.go:64", after := #[], guard := none }) (v := ?v8) rfl (by kernel_rfl) (by kernel_rfl) (by kernel_rfl) (fun _ _ _ h => h) (Or.inl ⟨by rfl, ?y8⟩) (by assumption) ?z8
  case y8 => (intro w hSw; (try dsimp only at hSw); go_simp) <;> with_reducible rfl
  try simp only [Act.put, List.setIfInBounds_toArray, List.set_cons_zero, List.set_cons_succ]
  refine wpAnyH_take (i := 9) (oi := { dst := some 44, op := Go.Op.move (Go.Operand.tmp 1), type := 22, pos := "law.go:64", after := #[], guard := none }) (v := ?v9) rfl (by kernel_rfl) (by kernel_rfl) (by kernel_rfl) (fun _ _ _ h => h) (Or.inl ⟨by rfl, ?y9⟩) (by assumption) ?z9
  case y9 => (intro w hSw; (try dsimp only at hSw); go_simp) <;> with_reducible rfl
  try simp only [Act.put, List.setIfInBounds_toArray, List.set_cons_zero, List.set_cons_succ]
  refine wpAnyH_take (i := 10) (oi := { dst := some 45, op := Go.Op.move (Go.Operand.tmp 3), type := 5, pos := "law.go:64", after := #[], guard := none }) (v := ?v10) rfl (by kernel_rfl) (by kernel_rfl) (by kernel_rfl) (fun _ _ _ h => h) (Or.inl ⟨by rfl, ?y10⟩) (by assumption) ?z10
  case y10 => (intro w hSw; (try dsimp only at hSw); go_simp) <;> with_reducible rfl
  try simp only [Act.put, List.setIfInBounds_toArray, List.set_cons_zero, List.set_cons_succ]
  refine wpAnyH_take (i := 11) (oi := { dst := some 46, op := Go.Op.convert 5 3 (Go.Operand.tmp 45), type := 3, pos := "law.go:64", after := #[{ on := 10, ground := Go.Ground.data }], guard := none }) (v := ?v11) rfl (by kernel_rfl) (by kernel_rfl) (by kernel_rfl) (fun _ _ _ h => h) (Or.inl ⟨by rfl, ?y11⟩) (by assumption) ?z11
  case y11 => (intro w hSw; (try dsimp only at hSw); go_simp) <;> with_reducible rfl
  try simp only [Act.put, List.setIfInBounds_toArray, List.set_cons_zero, List.set_cons_succ]
  refine wpAnyH_take (i := 12) (oi := { dst := some 47, op := Go.Op.load 34 (Go.Operand.tmp 12), type := 34, pos := "law.go:64", after := #[], guard := none }) (v := .agg (enc UU)) rfl (by kernel_rfl) (by kernel_rfl) (by kernel_rfl) (fun _ _ _ h => h) (yields_load r34 (enc UU) (enc_size _) tb (fun w hw => hw.2) (by rfl) _ rfl rfl) (by assumption) ?_
  try simp only [Act.put, List.setIfInBounds_toArray, List.set_cons_zero, List.set_cons_succ]
  refine wpAnyH_ready (rs := [6]) (by kernel_rfl) (by simp) ?_
  refine (AllReadyH.cons (o := { dst := some 41, op := Go.Op.call { callee := Go.Callee.value (Go.Operand.func 17), args := #[Go.Operand.tmp 35, Go.Operand.tmp 36, Go.Operand.tmp 37, Go.Operand.tmp 39, Go.Operand.tmp 40], argTypes := #[27, 22, 22, 3, 34] }, type := 34, pos := "law.go:64", after := #[{ on := 0, ground := Go.Ground.data }, { on := 1, ground := Go.Ground.data }, { on := 2, ground := Go.Ground.data }, { on := 4, ground := Go.Ground.data }, { on := 5, ground := Go.Ground.data }], guard := none }) rfl (fun K hK => ?_) AllReadyH.nil)
  · skip
    go_simp
    with_reducible refine (L1.out _ (HM0.out.at HN.out B5.out) (HM1.out.at HN.out B5.out)).mono ?_
    rintro q_ u6 ⟨rfl, hb⟩
    have B6 := Lib.hid (vian HN.out B5.out hb)
    have P6 := Lib.hid (P5.out.below hb)
    have T6 := Lib.hid (T5.out.below hb)
    clear hb
    clear B5 P5 T5
    refine hK.out _ _ ?s13 (fun hNew => ?r13)
    case s13 => exact ⟨P6.out.2.1, range_of_has T6.out⟩
    clear hK K hHeld
    have hHeld := hNew
    clear hNew
    refine wpAnyH_ready (rs := [13]) (by kernel_rfl) (by simp) ?_
    refine (AllReadyH.cons (o := { dst := some 48, op := Go.Op.call { callee := Go.Callee.value (Go.Operand.func 18), args := #[Go.Operand.tmp 42, Go.Operand.tmp 43, Go.Operand.tmp 44, Go.Operand.tmp 46, Go.Operand.tmp 47], argTypes := #[24, 22, 22, 3, 34] }, type := 34, pos := "law.go:64", after := #[{ on := 7, ground := Go.Ground.data }, { on := 8, ground := Go.Ground.data }, { on := 9, ground := Go.Ground.data }, { on := 11, ground := Go.Ground.data }, { on := 12, ground := Go.Ground.data }, { on := 6, ground := Go.Ground.chain }], guard := none }) rfl (fun K hK => ?_) AllReadyH.nil)
    · skip
      go_simp
      with_reducible refine (L2.out _ (HM0.out.at HN.out B6.out) (HM1.out.at HN.out B6.out)).mono ?_
      rintro q_ u7 ⟨rfl, hb⟩
      have B7 := Lib.hid (vian HN.out B6.out hb)
      have P7 := Lib.hid (P6.out.below hb)
      have T7 := Lib.hid (T6.out.below hb)
      clear hb
      clear B6 P6 T6
      refine hK.out _ _ ?s14 (fun hNew => ?r14)
      case s14 => exact ⟨P7.out.2.1, range_of_has T7.out⟩
      clear hK K hHeld
      have hHeld := hNew
      clear hNew
      refine wpAnyH_take (i := 14) (oi := { dst := some 49, op := Go.Op.binOp Go.BinOp.eql 34 (Go.Operand.tmp 41) (Go.Operand.tmp 48) 34, type := 4, pos := "law.go:64", after := #[{ on := 6, ground := Go.Ground.data }, { on := 13, ground := Go.Ground.data }], guard := none }) (v := .bool true) rfl (by kernel_rfl) (by kernel_rfl) (by kernel_rfl) (fun _ _ _ h => h) (yields_eq m (by rfl) _ _ rfl rfl rfl) (by assumption) ?_
      try simp only [Act.put, List.setIfInBounds_toArray, List.set_cons_zero, List.set_cons_succ]
      refine wpAnyH_take (i := 15) (oi := { dst := some 10, op := Go.Op.assign (Go.Operand.tmp 49), type := 4, pos := "law.go:64", after := #[{ on := 14, ground := Go.Ground.data }, { on := 13, ground := Go.Ground.chain }, { on := 0, ground := Go.Ground.phase }, { on := 1, ground := Go.Ground.phase }, { on := 2, ground := Go.Ground.phase }, { on := 3, ground := Go.Ground.phase }, { on := 4, ground := Go.Ground.phase }, { on := 5, ground := Go.Ground.phase }, { on := 6, ground := Go.Ground.phase }, { on := 7, ground := Go.Ground.phase }, { on := 8, ground := Go.Ground.phase }, { on := 9, ground := Go.Ground.phase }, { on := 10, ground := Go.Ground.phase }, { on := 11, ground := Go.Ground.phase }, { on := 12, ground := Go.Ground.phase }, { on := 13, ground := Go.Ground.phase }, { on := 14, ground := Go.Ground.phase }], guard := none }) (v := ?v16) rfl (by kernel_rfl) (by kernel_rfl) (by kernel_rfl) (fun _ _ _ h => h) (Or.inl ⟨by rfl, ?y16⟩) (by assumption) ?z16
      case y16 => (intro w hSw; (try dsimp only at hSw); go_simp) <;> with_reducible rfl
      try simp only [Act.put, List.setIfInBounds_toArray, List.set_cons_zero, List.set_cons_succ]
      refine wpAnyH_done (by kernel_rfl) ?_ _
      clear hHeld
      go_wp2_with (fail)
      all_goals exact bodyPost_ret (v := .bool true) (by simp [results, Try.results4, go_sem]) rfl ⟨rfl, ZF.out _ B7.out⟩
theorem lines_walk (c bk fi se : Int) (c0 : 0 ≤ c) (c1 : c < 256) (bk0 : 0 ≤ bk) (bk1 : bk < 256) (fi0 : 0 ≤ fi) (fi1 : fi < 256) (se0 : 0 ≤ se) (se1 : se < 256) (vb : Value) (vo : Value) (vu : Value) (line : Int) (line0 : 0 ≤ line) (line1 : line < 256) (w : World) (hinb : MemIn w vb) (hino : MemIn w vo) (hinu : MemIn w vu) : Calls Try.prog 4 #[vb, vo, .agg #[.int .u8 c, .int .u8 bk, .int .u8 fi, .int .u8 se], .int .u8 line, vu] w fun q_ w' => q_ = .returned (.bool true) ∧ Below w.heap.size w w' := by
  obtain ⟨a, n, cp, rfl, hzb, hmb⟩ := hinb
  obtain ⟨a1, n1, cp1, rfl, hzo, hmo⟩ := hino
  obtain ⟨a2, n2, cp2, rfl, hzu, hmu⟩ := hinu
  by_cases g0 : 3000 < n
  · exact lines_long0 c bk fi se c0 c1 bk0 bk1 fi0 fi1 se0 se1 a n cp a1 n1 cp1 a2 n2 cp2 line line0 line1  g0 w
  by_cases g1 : 300 < n1
  · exact lines_long1 c bk fi se c0 c1 bk0 bk1 fi0 fi1 se0 se1 a n cp a1 n1 cp1 a2 n2 cp2 line line0 line1 (by omega) g1 w
  by_cases g2 : 3000 < n2
  · exact lines_long2 c bk fi se c0 c1 bk0 bk1 fi0 fi1 se0 se1 a n cp a1 n1 cp1 a2 n2 cp2 line line0 line1 (by omega) (by omega) g2 w
  obtain ⟨F, hMb⟩ := hmb (by omega)
  obtain ⟨O, hMo⟩ := hmo (by omega)
  obtain ⟨U, hMu⟩ := hmu (by omega)
  exact lines_short c bk fi se c0 c1 bk0 bk1 fi0 fi1 se0 se1 a n cp a1 n1 cp1 a2 n2 cp2 F O U line line0 line1 (by omega) (by omega) (by omega) w hMb hMo hMu
end Go.Proofs.Ytiekojnhkemjlaa
