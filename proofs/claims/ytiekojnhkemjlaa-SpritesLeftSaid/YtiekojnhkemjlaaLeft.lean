/-
  The walk through SpritesLeft: for every memory, look, two sprites and line.
-/
import Derived.Test.YtiekojnhkemjlaaLnp
import Derived.Test.YtiekojnhkemjlaaUpr
import Derived.Test.YtiekojnhkemjlaaLp
import Derived.Test.YtiekojnhkemjlaaOpn
import Derived.Deep.Cut
import Derived.BigQuiet
import Derived.WalkSmall
import Derived.Deep.LoopGhost
import Derived.Deep.DeepCutAuto
import Derived.Deep.CutBlock
import Derived.OwnWalk
import Derived.Laws.AppendOwn
import Derived.Laws.OwnMore
namespace Go.Proofs.Ytiekojnhkemjlaa
open Go.ChangeShapes Go.WideShapes Go.ChangeAt Go.RowKit
set_option linter.unusedVariables false
set_option linter.unusedSimpArgs false
set_option maxRecDepth 100000
/-- One byte of a block is stored. -/
theorem store_d {ops : Array Oper} {rest : List Oper} {op : Oper} {a : Act} {w : World} {Q : Exit → Act → World → Prop} {b : Nat} {A : Array Value} (h : Has w b A)
    (hgd : op.guard = none) (x y : Operand) (ho : op.op = .store 5 x y) (o : Nat) (hx : a.eval x = .pointer (some ⟨b, o, none⟩)) (z old : Int) (hy : a.eval y = .int .u8 z) (hc : A[o]? = some (.int .u8 old)) (A2 : Array Value) (hA : A.setIfInBounds o (.int .u8 z) = A2)
    (hK : ∀ w', Has w' b A2 → Keeps b w w' → wpList Try.prog ops Q rest (a.put op.dst undef) w') : wpList Try.prog ops Q (op :: rest) a w := by
  have ho2 : o < A.size := by
    by_cases h : o < A.size
    · exact h
    · rw [Array.getElem?_eq_none (by omega)] at hc; cases hc
  have hP := h.set o (.int .u8 z) ho2
  rw [hA] at hP
  have hs : (storeVar 5 ⟨b, o, none⟩ (.int .u8 z)).run Try.prog w = .ok () (w.setCell ⟨b, o, none⟩ (.int .u8 z)) := by
    have h1 : (w.cell? ⟨b, o, none⟩) = some (.int .u8 old) := (h.2.1 o).trans hc
    have h2 : w.frozen? ⟨b, o, none⟩ = false := h.2.2 o
    simp [go_sem, h1, h2]
  refine wpList_plain hgd fun _ hKK => ?_
  unfold Oper.wp execOp
  simp only [ho, hx, hy, Instr.storeAt, Instr.sureAddr, Sem.run_bind, Sem.run_pure, Result.andThen_ok, hs]
  exact hKK _ _ (hK _ hP ((Keeps.refl b w).setCell o _))
/-- Two lines in blocks of their own, and what else is to be kept. -/
def TwoH (R : World → Prop) (m1 m2 : M) (wx : World) (s1 s2 : Value) : Prop := ∃ xb yb, s1 = .pointer (some ⟨xb, 0, none⟩) ∧ s2 = .pointer (some ⟨yb, 0, none⟩) ∧ R wx ∧ Has wx xb (enc m1) ∧ Has wx yb (enc m2)
theorem an127 (a : Int) (h1 : 0 ≤ a) (h2 : a < 256) : bits .and .u8 a 127 = a % 128 := byte_all (P := fun a => bits .and .u8 a 127 = a % 128) (by decide +kernel) a h1 h2
theorem or2_1 (a : Int) (h1 : 0 ≤ a) (h2 : a < 256) : bit (bits .or .u8 a 2) 1 = 1 := byte_all (P := fun a => bit (bits .or .u8 a 2) 1 = 1) (by decide +kernel) a h1 h2
theorem or2_bd (a : Int) (h1 : 0 ≤ a) (h2 : a < 256) : 0 ≤ bits .or .u8 a 2 ∧ bits .or .u8 a 2 < 256 := byte_all (P := fun a => 0 ≤ bits .or .u8 a 2 ∧ bits .or .u8 a 2 < 256) (by decide +kernel) a h1 h2
theorem info5 : (Try.prog.info? 5).map (fun i => (i.zero, i.size, i.bytes)) = some (some (.int .u8 0), 1, 1) := by kernel_rfl
theorem four_at {w : World} {b : Nat} {p q r s : Int} (h : Has w b #[.int .u8 p, .int .u8 q, .int .u8 r, .int .u8 s]) : ∀ j u, [Value.int .u8 p, .int .u8 q, .int .u8 r, .int .u8 s][j]? = some u → w.cell? ((⟨b, 0, none⟩ : Addr).add j) = some u := by
  intro j u hj
  rw [plus, h.2.1]
  match j, hj with
  | 0, hj => simpa using hj
  | 1, hj => simpa using hj
  | 2, hj => simpa using hj
  | 3, hj => simpa using hj
  | j + 4, hj => simp at hj
/-- append of four bytes, told by its run. -/
theorem app_4 {w : World} {base n : Nat} {v : Value} {xs : List Value} (h : w.ownsRow base 5 1 v n xs) (hb : base ≤ w.heap.size) (hn : n < 1000000) {b : Nat} {p q r s : Int} (hB : Has w b #[.int .u8 p, .int .u8 q, .int .u8 r, .int .u8 s]) :
    ∃ v' w', (Builtin.append_ #[22, 22] 22 #[v, .slice (some ⟨b, 0, none⟩) 4 4]).run Try.prog w = .ok v' w' ∧
      w'.ownsRow base 5 1 v' (n + 4) (xs ++ [.int .u8 p, .int .u8 q, .int .u8 r, .int .u8 s]) ∧ Below base w w' := by
  obtain ⟨i0, hi, hz0, hz1, hz2⟩ := info_parts info5
  obtain ⟨v', w', hr, ho, hg, _⟩ := run_append_own (P := Try.prog) w base 22 22 5 i0 _ 1 1 Try.underlying22 hi hz0 hz1 hz2 rfl (by decide)
    v n xs h ⟨b, 0, none⟩ 4 4 [.int .u8 p, .int .u8 q, .int .u8 r, .int .u8 s] rfl (four_at hB) (fun u hu => by simp at hu; rcases hu with rfl | rfl | rfl | rfl <;> rfl)
    (by simp only [maxLen]; omega) (by omega) hb
  exact ⟨v', w', hr, ho, (Below.refl base w).grown hg hb (fun k hk => (h.lt k hk).1)⟩
theorem mem_own8 {w : World} {base : Nat} {v : Value} {p q r s p2 q2 r2 s2 : Int} (h : w.ownsRow base 5 1 v 8 ([] ++ [.int .u8 p, .int .u8 q, .int .u8 r, .int .u8 s] ++ [.int .u8 p2, .int .u8 q2, .int .u8 r2, .int .u8 s2]))
    (ok1 : okB (litM p q r s)) (ok2 : okB (litM p2 q2 r2 s2)) : ∃ a c, v = .slice a 8 c ∧ Mem w (.slice a 8 c) (twoM (litM p q r s) (litM p2 q2 r2 s2)) := by
  rcases h.2 with ⟨_, h0⟩ | ⟨g, cap, cur, rfl, hb, hk, hle, _⟩
  · omega
  · refine ⟨_, cap, rfl, _, 8, cap, rfl, by omega, hle, ok_two ok1 ok2, fun k hk => by unfold twoM; rw [if_neg (by omega), if_neg (by omega)], fun _ => ⟨g, 0, rfl, (h.lt g rfl).2, fun j hj => ?_⟩⟩
    rw [Nat.zero_add]
    have c1 := h.cells (g := g) rfl j
    rcases (show j = 0 ∨ j = 1 ∨ j = 2 ∨ j = 3 ∨ j = 4 ∨ j = 5 ∨ j = 6 ∨ j = 7 by omega) with rfl | rfl | rfl | rfl | rfl | rfl | rfl | rfl <;> (have c2 := c1 _ rfl; rw [plus] at c2; exact c2)
set_option maxHeartbeats 2000000 in
theorem left_long0 (c bk fi se : Int) (c0 : 0 ≤ c) (c1 : c < 256) (bk0 : 0 ≤ bk) (bk1 : bk < 256) (fi0 : 0 ≤ fi) (fi1 : fi < 256) (se0 : 0 ≤ se) (se1 : se < 256) (a : Option Addr) (n cp : Nat) (xa : Int) (xa0 : 0 ≤ xa) (xa1 : xa < 256) (xc : Int) (xc0 : 0 ≤ xc) (xc1 : xc < 256) (ta : Int) (ta0 : 0 ≤ ta) (ta1 : ta < 256) (tc : Int) (tc0 : 0 ≤ tc) (tc1 : tc < 256) (ha : Int) (ha0 : 0 ≤ ha) (ha1 : ha < 256) (hc : Int) (hc0 : 0 ≤ hc) (hc1 : hc < 256) (line : Int) (line0 : 0 ≤ line) (line1 : line < 256)  (h : 3000 < n) (w : World) : Calls Try.prog 8 #[.slice a n cp, .agg #[.int .u8 c, .int .u8 bk, .int .u8 fi, .int .u8 se], .int .u8 xa, .int .u8 xc, .int .u8 ta, .int .u8 tc, .int .u8 ha, .int .u8 hc, .int .u8 line] w fun q_ w' => q_ = .returned (.bool true) ∧ Below w.heap.size w w' := by
  suffices hall : ∀ (n_ : Nat) (W0 : World), n_ ≤ W0.heap.size → Below n_ W0 w → Calls Try.prog 8 #[.slice a n cp, .agg #[.int .u8 c, .int .u8 bk, .int .u8 fi, .int .u8 se], .int .u8 xa, .int .u8 xc, .int .u8 ta, .int .u8 tc, .int .u8 ha, .int .u8 hc, .int .u8 line] w fun q_ w' => q_ = .returned (.bool true) ∧ Below n_ W0 w' from hall _ _ (Nat.le_refl _) (Below.refl _ _)
  intro n_ W0 hn hB
  have HN := Lib.hid hn
  have BB := Lib.hid hB
  clear hn hB
  have AW := Lib.hid awake_c
  have hnot : ∀ (x : Bool) (w : World), (Op.unary .not (.bool x)).run Try.prog w = .ok (.bool (!x)) w := fun _ _ => rfl
  have hI : (3000 : Int) < n := by omega
  have hd : decide ((3000 : Int) < (n : Int)) = true := decide_eq_true hI
  go_enter Try.func8, Try.ntmps8
  have Q_ := own1 w (.cells #[.int .u8 c, .int .u8 bk, .int .u8 fi, .int .u8 se] 24)
  have B0 := Lib.hid (vian HN.out BB.out Q_)
  have P0 := Lib.hid (show Has (w.alloc (.cells #[.int .u8 c, .int .u8 bk, .int .u8 fi, .int .u8 se] 24)) w.heap.size #[.int .u8 c, .int .u8 bk, .int .u8 fi, .int .u8 se] by simpa using Has.new w #[.int .u8 c, .int .u8 bk, .int .u8 fi, .int .u8 se] 24)
  have LP := Lib.hid (show n_ ≤ w.heap.size + 0 from Nat.le_add_right_of_le (Nat.le_trans HN.out BB.out.size))
  simp only [Nat.add_zero] at LP
  clear Q_
  go_upto_region 1 with (fail)
  generalize (w.alloc (.cells #[.int .u8 c, .int .u8 bk, .int .u8 fi, .int .u8 se] 24)) = u0 at B0 P0 ⊢
  generalize w.heap.size = pb at P0 LP  ⊢
  go_wp2_with (fail)
  with_reducible refine (AW.out _).mono ?_
  rintro q_ u1 ⟨rfl, hb⟩
  have B1 := Lib.hid (vian HN.out B0.out hb)
  have P1 := Lib.hid (P0.out.below hb)
  clear hb B0 P0
  go_wp2_with (fail)
  with_reducible refine (AW.out _).mono ?_
  rintro q_ u2 ⟨rfl, hb⟩
  have B2 := Lib.hid (vian HN.out B1.out hb)
  have P2 := Lib.hid (P1.out.below hb)
  clear hb B1 P1
  go_wp2_with (fail)
  all_goals exact bodyPost_ret (v := .bool true) (by simp [results, Try.results8, go_sem]) rfl ⟨rfl, B2.out⟩
set_option maxHeartbeats 16000000 in
theorem left_short (c bk fi se : Int) (c0 : 0 ≤ c) (c1 : c < 256) (bk0 : 0 ≤ bk) (bk1 : bk < 256) (fi0 : 0 ≤ fi) (fi1 : fi < 256) (se0 : 0 ≤ se) (se1 : se < 256) (a : Option Addr) (n cp : Nat) (F : M) (xa : Int) (xa0 : 0 ≤ xa) (xa1 : xa < 256) (xc : Int) (xc0 : 0 ≤ xc) (xc1 : xc < 256) (ta : Int) (ta0 : 0 ≤ ta) (ta1 : ta < 256) (tc : Int) (tc0 : 0 ≤ tc) (tc1 : tc < 256) (ha : Int) (ha0 : 0 ≤ ha) (ha1 : ha < 256) (hc : Int) (hc0 : 0 ≤ hc) (hc1 : hc < 256) (line : Int) (line0 : 0 ≤ line) (line1 : line < 256) (h0 : n ≤ 3000) (w : World) (hM0 : Mem w (.slice a n cp) F) : Calls Try.prog 8 #[.slice a n cp, .agg #[.int .u8 c, .int .u8 bk, .int .u8 fi, .int .u8 se], .int .u8 xa, .int .u8 xc, .int .u8 ta, .int .u8 tc, .int .u8 ha, .int .u8 hc, .int .u8 line] w fun q_ w' => q_ = .returned (.bool true) ∧ Below w.heap.size w w' := by
  suffices hall : ∀ (n_ : Nat) (W0 : World), n_ ≤ W0.heap.size → Below n_ W0 w → MemB n_ W0 (.slice a n cp) F → Calls Try.prog 8 #[.slice a n cp, .agg #[.int .u8 c, .int .u8 bk, .int .u8 fi, .int .u8 se], .int .u8 xa, .int .u8 xc, .int .u8 ta, .int .u8 tc, .int .u8 ha, .int .u8 hc, .int .u8 line] w fun q_ w' => q_ = .returned (.bool true) ∧ Below n_ W0 w' from hall _ _ (Nat.le_refl _) (Below.refl _ _) hM0
  clear hM0
  intro n_ W0 hn hB hM0
  have HN := Lib.hid hn
  have BB := Lib.hid hB
  clear hn hB
  have HM0 := Lib.hid hM0
  clear hM0
  have AW := Lib.hid awake_c
  have hnot : ∀ (x : Bool) (w : World), (Op.unary .not (.bool x)).run Try.prog w = .ok (.bool (!x)) w := fun _ _ => rfl
  have hI0 : ¬ (3000 : Int) < n := by omega
  have hd0 : decide ((3000 : Int) < (n : Int)) = false := decide_eq_false hI0
  have hz34 : ∀ w : World, (zeroValue 34).run Try.prog w = .ok (.agg (enc zeroM)) w := zero34
  obtain ⟨i8, hi8⟩ : ∃ q_, q_ = line % 8 := ⟨_, rfl⟩
  have ei : line.tmod 8 = i8 := by rw [Int.tmod_eq_emod_of_nonneg line0, hi8]
  have ib0 : 0 ≤ i8 := by omega
  have ib1 : i8 < 8 := by omega
  clear hi8
  have OKA := Lib.hid (lit_ok (p := 16) (q := xa) (r := ta) (s := ha % 128) (by decide) ⟨xa0, xa1⟩ ⟨ta0, ta1⟩ (by omega))
  have OKB := Lib.hid (lit_ok (p := 16) (q := xc) (r := tc) (s := hc % 128) (by decide) ⟨xc0, xc1⟩ ⟨tc0, tc1⟩ (by omega))
  have b2 := or2_bd c c0 c1
  have e127a := an127 ha ha0 ha1
  have e127c := an127 hc hc0 hc1
  go_enter Try.func8, Try.ntmps8
  have Q_ := own1 w (.cells #[.int .u8 c, .int .u8 bk, .int .u8 fi, .int .u8 se] 24)
  have B0 := Lib.hid (vian HN.out BB.out Q_)
  have P0 := Lib.hid (show Has (w.alloc (.cells #[.int .u8 c, .int .u8 bk, .int .u8 fi, .int .u8 se] 24)) w.heap.size #[.int .u8 c, .int .u8 bk, .int .u8 fi, .int .u8 se] by simpa using Has.new w #[.int .u8 c, .int .u8 bk, .int .u8 fi, .int .u8 se] 24)
  have LP := Lib.hid (show n_ ≤ w.heap.size + 0 from Nat.le_add_right_of_le (Nat.le_trans HN.out BB.out.size))
  simp only [Nat.add_zero] at LP
  clear Q_
  go_upto_region 1 with (fail)
  generalize (w.alloc (.cells #[.int .u8 c, .int .u8 bk, .int .u8 fi, .int .u8 se] 24)) = u0 at B0 P0 ⊢
  generalize w.heap.size = pb at P0 LP  ⊢
  go_wp2_with (fail)
  with_reducible refine (AW.out _).mono ?_
  rintro q_ u1 ⟨rfl, hb⟩
  have B1 := Lib.hid (vian HN.out B0.out hb)
  have P1 := Lib.hid (P0.out.below hb)
  clear hb B0 P0
  obtain ⟨hc0, hf0⟩ := P1.out.out
  go_wp2_with (fail)
  clear hc0 hf0
  with_reducible refine (filled_m a n cp F _ (HM0.out.at HN.out B1.out)).mono ?_
  rintro q_ u2 ⟨sv, rfl, hm0, hb⟩
  have hb3 := vian HN.out B1.out hb
  have P2 := Lib.hid (P1.out.below hb)
  obtain ⟨n3, V3, hn3, b3, m0, gP, z3, q3⟩ : ∃ (n3 : Nat) (V3 : World), n3 ≤ V3.heap.size ∧ Below n3 V3 u2 ∧ MemB n3 V3 sv (filledV F n) ∧ pb < n3 ∧ (∀ w', Below n3 V3 w' → Below n_ W0 w') ∧ n_ ≤ n3 := ⟨u2.heap.size, u2, Nat.le_refl _, Below.refl _ _, hm0, P2.out.1, fun w' h => vian HN.out hb3 h, Nat.le_trans HN.out hb3.size⟩
  clear HN hb hb3 HM0 hm0 B1 P1
  have HN := Lib.hid hn3
  have B2 := Lib.hid b3
  have ZF := Lib.hid z3
  have QF := Lib.hid q3
  have HM0 := Lib.hid m0
  have GP := Lib.hid gP
  clear LP
  clear hn3 b3 z3 q3 m0 gP
  obtain ⟨G, hG⟩ : ∃ G, G = filledV F n := ⟨_, rfl⟩
  rw [← hG] at HM0
  clear hG
  have okz : okB zeroM := fun _ => by unfold zeroM; decide
  have L0 := Lib.hid (fun W o h1 h2 => linep_c (bits .or .u8 c 2) bk fi se b2.1 b2.2 bk0 bk1 fi0 fi1 se0 se1 sv o G (twoM (litM 16 xa ta (ha % 128)) (litM 16 xc tc (hc % 128))) zeroM okz i8 (by omega) (by omega) W h1 h2)
  have LA := Lib.hid (fun W o h1 h2 => linep_c (bits .or .u8 c 2) bk fi se b2.1 b2.2 bk0 bk1 fi0 fi1 se0 se1 sv o G (litM 16 xa ta (ha % 128)) zeroM okz i8 (by omega) (by omega) W h1 h2)
  have LB := Lib.hid (fun W o h1 h2 => linep_c (bits .or .u8 c 2) bk fi se b2.1 b2.2 bk0 bk1 fi0 fi1 se0 se1 sv o G (litM 16 xc tc (hc % 128)) zeroM okz i8 (by omega) (by omega) W h1 h2)
  have DA := Lib.hid (fun (x : Nat) (hx : x < 160) W o h1 h2 => dotp_c (bits .or .u8 c 2) bk fi se b2.1 b2.2 bk0 bk1 fi0 fi1 se0 se1 sv o G (twoM (litM 16 xa ta (ha % 128)) (litM 16 xc tc (hc % 128))) 0 (x : Int) i8 (by decide) (by decide) (by omega) (by omega) (by omega) (by omega) W h1 h2)
  have DB := Lib.hid (fun (x : Nat) (hx : x < 160) W o h1 h2 => dotp_c (bits .or .u8 c 2) bk fi se b2.1 b2.2 bk0 bk1 fi0 fi1 se0 se1 sv o G (twoM (litM 16 xa ta (ha % 128)) (litM 16 xc tc (hc % 128))) 1 (x : Int) i8 (by decide) (by decide) (by omega) (by omega) (by omega) (by omega) W h1 h2)
  have LO := Lib.hid (fun x => left_out G (litM 16 xa ta (ha % 128)) (litM 16 xc tc (hc % 128)) (bits .or .u8 c 2) i8 bk fi se zeroM ib0 ib1 rfl rfl (or2_1 c c0 c1) x)
  have SA := Lib.hid (fun x => see_a G (litM 16 xa ta (ha % 128)) (litM 16 xc tc (hc % 128)) (bits .or .u8 c 2) i8 x)
  have SB := Lib.hid (fun x => see_b G (litM 16 xa ta (ha % 128)) (litM 16 xc tc (hc % 128)) (bits .or .u8 c 2) i8 x)
  rw [only_lit, only_lit] at LO
  rw [only_lit] at SA SB
  obtain ⟨ow, how⟩ : ∃ q_, q_ = outV (bits .or .u8 c 2) bk fi se G (twoM (litM 16 xa ta (ha % 128)) (litM 16 xc tc (hc % 128))) i8 zeroM := ⟨_, rfl⟩
  obtain ⟨oa, hoa⟩ : ∃ q_, q_ = outV (bits .or .u8 c 2) bk fi se G (litM 16 xa ta (ha % 128)) i8 zeroM := ⟨_, rfl⟩
  obtain ⟨ob, hob⟩ : ∃ q_, q_ = outV (bits .or .u8 c 2) bk fi se G (litM 16 xc tc (hc % 128)) i8 zeroM := ⟨_, rfl⟩
  rw [← how] at L0 LO
  rw [← hoa] at LA LO
  rw [← hob] at LB LO
  obtain ⟨mw, hmw⟩ : ∃ q_, q_ = firstN ow 160 := ⟨_, rfl⟩
  obtain ⟨ma, hma⟩ : ∃ q_, q_ = firstN oa 160 := ⟨_, rfl⟩
  obtain ⟨mb, hmb⟩ : ∃ q_, q_ = firstN ob 160 := ⟨_, rfl⟩
  have FW := Lib.hid (show ∀ t, t < 160 → mw t = ow t from fun t h => by rw [hmw]; exact if_pos h)
  have FA := Lib.hid (show ∀ t, t < 160 → ma t = oa t from fun t h => by rw [hma]; exact if_pos h)
  have FB := Lib.hid (show ∀ t, t < 160 → mb t = ob t from fun t h => by rw [hmb]; exact if_pos h)
  rw [← hmw] at L0
  rw [← hma] at LA
  rw [← hmb] at LB
  clear how hoa hob hmw hma hmb okz b2
  obtain ⟨hc0, hf0⟩ := P2.out.out
  go_upto_region 4 with (fail)
  go_wp2_with (refine store_g r27 (Has.new u2 #[.int .u8 0, .int .u8 0, .int .u8 0, .int .u8 0] 27) rfl #[.int .u8 c, .int .u8 bk, .int .u8 fi, .int .u8 se] rfl (four_one _ _ _ _) rfl _ _ rfl rfl rfl ?_)
  intro u3 hP hk
  clear hc0 hf0
  have B3 := Lib.hid (keep_new HN.out B2.out _ hk)
  have NPQ := Lib.hid (Nat.ne_of_lt P2.out.1)
  have P3 := Lib.hid (hk.has NPQ.out (P2.out.below (own1 _ _)))
  have Q3 := Lib.hid hP
  have LQ := Lib.hid (Nat.le_trans HN.out B2.out.size)
  generalize u2.heap.size = kb at Q3 LQ NPQ ⊢
  clear hk hP B2 P2
  try simp only [Act.put, List.setIfInBounds_toArray, List.set_cons_zero, List.set_cons_succ]
  obtain ⟨hc0, hf0⟩ := Q3.out.out
  go_upto_region 5 with (fail)
  go_wp2_with (refine store_d Q3.out rfl _ _ rfl 0 rfl _ _ rfl rfl #[.int .u8 (bits .or .u8 c 2), .int .u8 bk, .int .u8 fi, .int .u8 se] rfl ?_)
  intro u4 hP hk
  clear hc0 hf0
  have Q4 := Lib.hid hP
  have B4 := Lib.hid (hk.below HN.out LQ.out B3.out)
  have P4 := Lib.hid (hk.has NPQ.out P3.out)
  clear hP hk B3 P3 Q3
  try simp only [Act.put, List.setIfInBounds_toArray, List.set_cons_zero, List.set_cons_succ]
  go_upto_region 8 with (fail)
  have Q_ := own2 u4 (.cells #[.int .u8 16, .int .u8 xa, .int .u8 ta, .int .u8 (ha % 128)] 5) (.cells #[.int .u8 16, .int .u8 xc, .int .u8 tc, .int .u8 (hc % 128)] 5)
  have B5 := Lib.hid (vian HN.out B4.out Q_)
  have P5 := Lib.hid (P4.out.below Q_)
  have Q5 := Lib.hid (Q4.out.below Q_)
  have E5 := Lib.hid ((Has.new u4 #[.int .u8 16, .int .u8 xa, .int .u8 ta, .int .u8 (ha % 128)] 5).alloc (.cells #[.int .u8 16, .int .u8 xc, .int .u8 tc, .int .u8 (hc % 128)] 5))
  have H5 := Lib.hid (show Has ((u4.alloc (.cells #[.int .u8 16, .int .u8 xa, .int .u8 ta, .int .u8 (ha % 128)] 5)).alloc (.cells #[.int .u8 16, .int .u8 xc, .int .u8 tc, .int .u8 (hc % 128)] 5)) (u4.heap.size + 1) #[.int .u8 16, .int .u8 xc, .int .u8 tc, .int .u8 (hc % 128)] by simpa using Has.new (u4.alloc (.cells #[.int .u8 16, .int .u8 xa, .int .u8 ta, .int .u8 (ha % 128)] 5)) #[.int .u8 16, .int .u8 xc, .int .u8 tc, .int .u8 (hc % 128)] 5)
  clear Q_ B4 P4 Q4
  generalize (u4.alloc (.cells #[.int .u8 16, .int .u8 xa, .int .u8 ta, .int .u8 (ha % 128)] 5)).alloc (.cells #[.int .u8 16, .int .u8 xc, .int .u8 tc, .int .u8 (hc % 128)] 5) = u5 at B5 P5 Q5 E5 H5 ⊢
  generalize u4.heap.size + 1 = gb at H5 ⊢
  generalize u4.heap.size = eb at E5 ⊢
  obtain ⟨n3, V3, hn3, b3, m0, gP, gQ, gE, gH, z3, q3⟩ : ∃ (n3 : Nat) (V3 : World), n3 ≤ V3.heap.size ∧ Below n3 V3 u5 ∧ MemB n3 V3 sv G ∧ pb < n3 ∧ kb < n3 ∧ eb < n3 ∧ gb < n3 ∧ (∀ w', Below n3 V3 w' → Below n_ W0 w') ∧ n_ ≤ n3 := ⟨u5.heap.size, u5, Nat.le_refl _, Below.refl _ _, HM0.out.at HN.out B5.out, P5.out.1, Q5.out.1, E5.out.1, H5.out.1, fun w' h => ZF.out w' (vian HN.out B5.out h), Nat.le_trans QF.out (Nat.le_trans HN.out B5.out.size)⟩
  clear B5 HN ZF QF HM0
  have HN := Lib.hid hn3
  have B5 := Lib.hid b3
  have ZF := Lib.hid z3
  have QF := Lib.hid q3
  have HM0 := Lib.hid m0
  clear hn3 b3 z3 q3 m0
  have GP := Lib.hid gP
  try clear LP
  clear gP
  have GQ := Lib.hid gQ
  try clear LQ
  clear gQ
  have GE := Lib.hid gE
  try clear LE
  clear gE
  have GH := Lib.hid gH
  try clear LH
  clear gH
  have O0 := World.ownsRow_lit (base := n3) (e := 5) (size := 1) u5 #[] 0 (Nat.le_trans HN.out B5.out.size) (by decide) rfl
  have B6 := Lib.hid (show Below n3 V3 (u5.alloc (.cells #[] 5)) from vian HN.out B5.out (own1 u5 _))
  have E6 := Lib.hid (E5.out.below (own1 u5 (.cells #[] 5)))
  have H6 := Lib.hid (H5.out.below (own1 u5 (.cells #[] 5)))
  obtain ⟨v1, w1, hr1, ho1, hb1⟩ := app_4 O0 (Nat.le_trans HN.out B6.out.size) (by omega) E6.out
  have H7 := Lib.hid (has_base hb1 GH.out H6.out)
  obtain ⟨v2, w2, hr2, ho2, hb2⟩ := app_4 ho1 (Nat.le_trans HN.out (Nat.le_trans B6.out.size hb1.size)) (by omega) H7.out
  have RUN1 := Lib.hid hr1
  have RUN2 := Lib.hid hr2
  obtain ⟨a8, c8, ev8, hm8⟩ := mem_own8 ho2 OKA.out OKB.out
  subst ev8
  have M8 := Lib.hid hm8
  have bb := hb1.trans hb2
  have B8 := Lib.hid (B6.out.trans bb)
  have P8 := Lib.hid (has_base bb GP.out (P5.out.below (own1 u5 (.cells #[] 5))))
  have Q8 := Lib.hid (has_base bb GQ.out (Q5.out.below (own1 u5 (.cells #[] 5))))
  have E8 := Lib.hid (has_base bb GE.out E6.out)
  have H8 := Lib.hid (has_base hb2 GH.out H7.out)
  clear hr1 hr2 ho1 ho2 hb1 hb2 bb O0 hm8
  clear B5 P5 E5 H5 B6 E6 H6 H7
  go_upto_region 9 with (first | (at_builtin; refine wpList_append_run rfl _ _ _ (.slice (some ⟨u5.heap.size, 0, none⟩) 0 0) (.slice (some ⟨eb, 0, none⟩) 4 4) _ rfl rfl rfl (by with_reducible exact RUN1.out) ?_) | (at_builtin; refine wpList_append_run rfl _ _ _ v1 (.slice (some ⟨gb, 0, none⟩) 4 4) _ rfl rfl rfl (by with_reducible exact RUN2.out) ?_))
  clear RUN1 RUN2
  obtain ⟨u8, hu8⟩ : ∃ q_, q_ = w2 := ⟨_, rfl⟩
  rw [← hu8] at B8 P8 Q8 E8 H8 M8 ⊢
  clear hu8
  obtain ⟨n3, V3, hn3, b3, m0, m1, gP, gQ, gE, gH, z3, q3⟩ : ∃ (n3 : Nat) (V3 : World), n3 ≤ V3.heap.size ∧ Below n3 V3 u8 ∧ MemB n3 V3 sv G ∧ MemB n3 V3 (.slice a8 8 c8) (twoM (litM 16 xa ta (ha % 128)) (litM 16 xc tc (hc % 128))) ∧ pb < n3 ∧ kb < n3 ∧ eb < n3 ∧ gb < n3 ∧ (∀ w', Below n3 V3 w' → Below n_ W0 w') ∧ n_ ≤ n3 := ⟨u8.heap.size, u8, Nat.le_refl _, Below.refl _ _, HM0.out.at HN.out B8.out, M8.out, P8.out.1, Q8.out.1, E8.out.1, H8.out.1, fun w' h => ZF.out w' (vian HN.out B8.out h), Nat.le_trans QF.out (Nat.le_trans HN.out B8.out.size)⟩
  clear B8 HN ZF QF HM0
  have HN := Lib.hid hn3
  have B8 := Lib.hid b3
  have ZF := Lib.hid z3
  have QF := Lib.hid q3
  have HM0 := Lib.hid m0
  have HM1 := Lib.hid m1
  clear hn3 b3 z3 q3 m0 m1
  have GP := Lib.hid gP
  try clear LP
  clear gP
  have GQ := Lib.hid gQ
  try clear LQ
  clear gQ
  have GE := Lib.hid gE
  try clear LE
  clear gE
  have GH := Lib.hid gH
  try clear LH
  clear gH
  clear M8
  obtain ⟨hc0, hf0⟩ := Q8.out.out
  go_wp2_with (fail)
  clear hc0 hf0
  with_reducible refine (L0.out _ _ (HM0.out.at HN.out B8.out) (HM1.out.at HN.out B8.out)).mono ?_
  rintro q_ u9 ⟨rfl, hb⟩
  have B9 := Lib.hid (vian HN.out B8.out hb)
  have P9 := Lib.hid (P8.out.below hb)
  have Q9 := Lib.hid (Q8.out.below hb)
  have E9 := Lib.hid (E8.out.below hb)
  have H9 := Lib.hid (H8.out.below hb)
  clear hb B8 P8 Q8 E8 H8
  go_wp2_with (refine store_g r34 (Has.new u9 (enc zeroM) 34) (enc_size _) (enc mw) (enc_size _) (enc_one _) rfl _ _ rfl rfl rfl ?_)
  intro u10 hP hk
  have B10 := Lib.hid (keep_new HN.out B9.out _ hk)
  have NPW := Lib.hid (Nat.ne_of_lt P9.out.1)
  have P10 := Lib.hid (hk.has NPW.out (P9.out.below (own1 _ _)))
  have NQW := Lib.hid (Nat.ne_of_lt Q9.out.1)
  have Q10 := Lib.hid (hk.has NQW.out (Q9.out.below (own1 _ _)))
  have NEW := Lib.hid (Nat.ne_of_lt E9.out.1)
  have E10 := Lib.hid (hk.has NEW.out (E9.out.below (own1 _ _)))
  have NHW := Lib.hid (Nat.ne_of_lt H9.out.1)
  have H10 := Lib.hid (hk.has NHW.out (H9.out.below (own1 _ _)))
  have W10 := Lib.hid hP
  have LW := Lib.hid (Nat.le_trans HN.out B9.out.size)
  generalize u9.heap.size = wb at W10 LW NPW NQW NEW NHW ⊢
  clear hk hP B9 P9 Q9 E9 H9
  try simp only [Act.put, List.setIfInBounds_toArray, List.set_cons_zero, List.set_cons_succ]
  go_upto_region 10 with (fail)
  have B11 := Lib.hid B10.out.drew
  have P11 := Lib.hid P10.out.drew
  have Q11 := Lib.hid Q10.out.drew
  have E11 := Lib.hid E10.out.drew
  have H11 := Lib.hid H10.out.drew
  have W11 := Lib.hid W10.out.drew
  clear B10 P10 Q10 E10 H10 W10
  go_cut [26, 27] (fun s1_ s2_ wx => TwoH (fun w_ => Below n3 V3 w_ ∧ Has w_ kb #[.int .u8 (bits .or .u8 c 2), .int .u8 bk, .int .u8 fi, .int .u8 se] ∧ Has w_ wb (enc mw)) ma mb wx s1_ s2_)
  case first =>
    refine wp_region_held_drew (S := (fun w' => (∀ o, w'.cell? ⟨kb, o, none⟩ = (#[.int .u8 (bits .or .u8 c 2), .int .u8 bk, .int .u8 fi, .int .u8 se])[o]?))) (by kernel_rfl) Q11.out.2.1 (fun hHeld => ?_)
    generalize World.drew _ = u11 at hHeld B11 P11 Q11 E11 H11 W11 ⊢
    refine wpAnyH_take (i := 0) (oi := { dst := some 73, op := Go.Op.load 27 (Go.Operand.tmp 20), type := 27, pos := "law.go:146", after := #[], guard := none }) (v := ?v1) rfl (by kernel_rfl) (by kernel_rfl) (by kernel_rfl) (fun _ _ _ h => h) (Or.inl ⟨by rfl, ?y1⟩) (by assumption) ?z1
    case y1 => (intro w hSw; (try dsimp only at hSw); go_simp) <;> with_reducible rfl
    try simp only [Act.put, List.setIfInBounds_toArray, List.set_cons_zero, List.set_cons_succ]
    refine wpAnyH_take (i := 1) (oi := { dst := some 74, op := Go.Op.move (Go.Operand.tmp 19), type := 22, pos := "law.go:146", after := #[], guard := none }) (v := ?v2) rfl (by kernel_rfl) (by kernel_rfl) (by kernel_rfl) (fun _ _ _ h => h) (Or.inl ⟨by rfl, ?y2⟩) (by assumption) ?z2
    case y2 => (intro w hSw; (try dsimp only at hSw); go_simp) <;> with_reducible rfl
    try simp only [Act.put, List.setIfInBounds_toArray, List.set_cons_zero, List.set_cons_succ]
    refine wpAnyH_take (i := 2) (oi := { dst := some 75, op := Go.Op.move (Go.Operand.tmp 22), type := 22, pos := "law.go:146", after := #[], guard := none }) (v := ?v3) rfl (by kernel_rfl) (by kernel_rfl) (by kernel_rfl) (fun _ _ _ h => h) (Or.inl ⟨by rfl, ?y3⟩) (by assumption) ?z3
    case y3 => (intro w hSw; (try dsimp only at hSw); go_simp) <;> with_reducible rfl
    try simp only [Act.put, List.setIfInBounds_toArray, List.set_cons_zero, List.set_cons_succ]
    refine wpAnyH_take (i := 3) (oi := { dst := some 76, op := Go.Op.move (Go.Operand.tmp 21), type := 3, pos := "law.go:146", after := #[], guard := none }) (v := ?v4) rfl (by kernel_rfl) (by kernel_rfl) (by kernel_rfl) (fun _ _ _ h => h) (Or.inl ⟨by rfl, ?y4⟩) (by assumption) ?z4
    case y4 => (intro w hSw; (try dsimp only at hSw); go_simp) <;> with_reducible rfl
    try simp only [Act.put, List.setIfInBounds_toArray, List.set_cons_zero, List.set_cons_succ]
    refine wpAnyH_take (i := 4) (oi := { dst := some 77, op := Go.Op.build 34 #[], type := 34, pos := "law.go:146", after := #[], guard := none }) (v := ?v5) rfl (by kernel_rfl) (by kernel_rfl) (by kernel_rfl) (fun _ _ _ h => h) (Or.inl ⟨by rfl, ?y5⟩) (by assumption) ?z5
    case y5 => (intro w hSw; (try dsimp only at hSw); go_simp) <;> with_reducible rfl
    try simp only [Act.put, List.setIfInBounds_toArray, List.set_cons_zero, List.set_cons_succ]
    refine wpAnyH_take (i := 6) (oi := { dst := some 79, op := Go.Op.load 27 (Go.Operand.tmp 20), type := 27, pos := "law.go:146", after := #[], guard := none }) (v := ?v6) rfl (by kernel_rfl) (by kernel_rfl) (by kernel_rfl) (fun _ _ _ h => h) (Or.inl ⟨by rfl, ?y6⟩) (by assumption) ?z6
    case y6 => (intro w hSw; (try dsimp only at hSw); go_simp) <;> with_reducible rfl
    try simp only [Act.put, List.setIfInBounds_toArray, List.set_cons_zero, List.set_cons_succ]
    refine wpAnyH_take (i := 7) (oi := { dst := some 80, op := Go.Op.move (Go.Operand.tmp 19), type := 22, pos := "law.go:146", after := #[], guard := none }) (v := ?v7) rfl (by kernel_rfl) (by kernel_rfl) (by kernel_rfl) (fun _ _ _ h => h) (Or.inl ⟨by rfl, ?y7⟩) (by assumption) ?z7
    case y7 => (intro w hSw; (try dsimp only at hSw); go_simp) <;> with_reducible rfl
    try simp only [Act.put, List.setIfInBounds_toArray, List.set_cons_zero, List.set_cons_succ]
    refine wpAnyH_take (i := 8) (oi := { dst := some 81, op := Go.Op.move (Go.Operand.tmp 23), type := 22, pos := "law.go:146", after := #[], guard := none }) (v := ?v8) rfl (by kernel_rfl) (by kernel_rfl) (by kernel_rfl) (fun _ _ _ h => h) (Or.inl ⟨by rfl, ?y8⟩) (by assumption) ?z8
    case y8 => (intro w hSw; (try dsimp only at hSw); go_simp) <;> with_reducible rfl
    try simp only [Act.put, List.setIfInBounds_toArray, List.set_cons_zero, List.set_cons_succ]
    refine wpAnyH_take (i := 9) (oi := { dst := some 82, op := Go.Op.move (Go.Operand.tmp 21), type := 3, pos := "law.go:146", after := #[], guard := none }) (v := ?v9) rfl (by kernel_rfl) (by kernel_rfl) (by kernel_rfl) (fun _ _ _ h => h) (Or.inl ⟨by rfl, ?y9⟩) (by assumption) ?z9
    case y9 => (intro w hSw; (try dsimp only at hSw); go_simp) <;> with_reducible rfl
    try simp only [Act.put, List.setIfInBounds_toArray, List.set_cons_zero, List.set_cons_succ]
    refine wpAnyH_take (i := 10) (oi := { dst := some 83, op := Go.Op.build 34 #[], type := 34, pos := "law.go:146", after := #[], guard := none }) (v := ?v10) rfl (by kernel_rfl) (by kernel_rfl) (by kernel_rfl) (fun _ _ _ h => h) (Or.inl ⟨by rfl, ?y10⟩) (by assumption) ?z10
    case y10 => (intro w hSw; (try dsimp only at hSw); go_simp) <;> with_reducible rfl
    try simp only [Act.put, List.setIfInBounds_toArray, List.set_cons_zero, List.set_cons_succ]
    refine wpAnyH_ready (rs := [5, 12, 13]) (by kernel_rfl) (by simp) ?_
    refine (AllReadyH.cons (o := { dst := some 78, op := Go.Op.call { callee := Go.Callee.value (Go.Operand.func 17), args := #[Go.Operand.tmp 73, Go.Operand.tmp 74, Go.Operand.tmp 75, Go.Operand.tmp 76, Go.Operand.tmp 77], argTypes := #[27, 22, 22, 3, 34] }, type := 34, pos := "law.go:146", after := #[{ on := 0, ground := Go.Ground.data }, { on := 1, ground := Go.Ground.data }, { on := 2, ground := Go.Ground.data }, { on := 3, ground := Go.Ground.data }, { on := 4, ground := Go.Ground.data }], guard := none }) rfl (fun K hK => ?_) (AllReadyH.cons (o := { dst := some 26, op := Go.Op.alloc 34, type := 0, pos := "law.go:146", after := #[], guard := none }) rfl (fun K hK => ?_) (AllReadyH.cons (o := { dst := some 27, op := Go.Op.alloc 34, type := 0, pos := "law.go:146", after := #[], guard := none }) rfl (fun K hK => ?_) AllReadyH.nil)))
    · skip
      go_simp
      with_reducible refine (LA.out _ _ (HM0.out.at HN.out B11.out) (mem_lit E11.out OKA.out)).mono ?_
      rintro q_ u12 ⟨rfl, hb⟩
      have B12 := Lib.hid (vian HN.out B11.out hb)
      have P12 := Lib.hid (P11.out.below hb)
      have Q12 := Lib.hid (Q11.out.below hb)
      have E12 := Lib.hid (E11.out.below hb)
      have H12 := Lib.hid (H11.out.below hb)
      have W12 := Lib.hid (W11.out.below hb)
      clear hb B11 P11 Q11 E11 H11 W11
      refine hK.out _ _ ?s11 (fun hNew => ?r11)
      case s11 => exact Q12.out.2.1
      clear hK K hHeld
      have hHeld := hNew
      clear hNew
      refine wpAnyH_ready (rs := [11, 12, 13]) (by kernel_rfl) (by simp) ?_
      refine (AllReadyH.cons (o := { dst := some 84, op := Go.Op.call { callee := Go.Callee.value (Go.Operand.func 17), args := #[Go.Operand.tmp 79, Go.Operand.tmp 80, Go.Operand.tmp 81, Go.Operand.tmp 82, Go.Operand.tmp 83], argTypes := #[27, 22, 22, 3, 34] }, type := 34, pos := "law.go:146", after := #[{ on := 6, ground := Go.Ground.data }, { on := 7, ground := Go.Ground.data }, { on := 8, ground := Go.Ground.data }, { on := 9, ground := Go.Ground.data }, { on := 10, ground := Go.Ground.data }, { on := 5, ground := Go.Ground.chain }], guard := none }) rfl (fun K hK => ?_) (AllReadyH.cons (o := { dst := some 26, op := Go.Op.alloc 34, type := 0, pos := "law.go:146", after := #[], guard := none }) rfl (fun K hK => ?_) (AllReadyH.cons (o := { dst := some 27, op := Go.Op.alloc 34, type := 0, pos := "law.go:146", after := #[], guard := none }) rfl (fun K hK => ?_) AllReadyH.nil)))
      · skip
        go_simp
        with_reducible refine (LB.out _ _ (HM0.out.at HN.out B12.out) (mem_lit H12.out OKB.out)).mono ?_
        rintro q_ u13 ⟨rfl, hb⟩
        have B13 := Lib.hid (vian HN.out B12.out hb)
        have P13 := Lib.hid (P12.out.below hb)
        have Q13 := Lib.hid (Q12.out.below hb)
        have E13 := Lib.hid (E12.out.below hb)
        have H13 := Lib.hid (H12.out.below hb)
        have W13 := Lib.hid (W12.out.below hb)
        clear hb B12 P12 Q12 E12 H12 W12
        refine hK.out _ _ ?s12 (fun hNew => ?r12)
        case s12 => exact Q13.out.2.1
        clear hK K hHeld
        have hHeld := hNew
        clear hNew
        refine wpAnyH_ready (rs := [12, 13]) (by kernel_rfl) (by simp) ?_
        refine (AllReadyH.cons (o := { dst := some 26, op := Go.Op.alloc 34, type := 0, pos := "law.go:146", after := #[], guard := none }) rfl (fun K hK => ?_) (AllReadyH.cons (o := { dst := some 27, op := Go.Op.alloc 34, type := 0, pos := "law.go:146", after := #[], guard := none }) rfl (fun K hK => ?_) AllReadyH.nil))
        · skip
          go_simp
          have Q_ := own1 u13 (.cells (enc zeroM) 34)
          have B14 := Lib.hid (vian HN.out B13.out Q_)
          have P14 := Lib.hid (P13.out.below Q_)
          have Q14 := Lib.hid (Q13.out.below Q_)
          have E14 := Lib.hid (E13.out.below Q_)
          have H14 := Lib.hid (H13.out.below Q_)
          have W14 := Lib.hid (W13.out.below Q_)
          have X14 := Lib.hid (Has.new u13 (enc zeroM) 34)
          have LX := Lib.hid (Nat.le_trans HN.out B13.out.size)
          have NPX := Lib.hid (Nat.ne_of_lt P13.out.1)
          have NQX := Lib.hid (Nat.ne_of_lt Q13.out.1)
          have NEX := Lib.hid (Nat.ne_of_lt E13.out.1)
          have NHX := Lib.hid (Nat.ne_of_lt H13.out.1)
          have NWX := Lib.hid (Nat.ne_of_lt W13.out.1)
          clear Q_ B13 P13 Q13 E13 H13 W13
          generalize u13.alloc (.cells (enc zeroM) 34) = u14 at B14 P14 Q14 E14 H14 W14 X14 ⊢
          generalize u13.heap.size = xb at X14 LX NPX NQX NEX NHX NWX ⊢
          refine hK.out _ _ ?s13 (fun hNew => ?r13)
          case s13 => exact Q14.out.2.1
          clear hK K hHeld
          have hHeld := hNew
          clear hNew
          refine wpAnyH_ready (rs := [13]) (by kernel_rfl) (by simp) ?_
          refine (AllReadyH.cons (o := { dst := some 27, op := Go.Op.alloc 34, type := 0, pos := "law.go:146", after := #[], guard := none }) rfl (fun K hK => ?_) AllReadyH.nil)
          · skip
            go_simp
            have Q_ := own1 u14 (.cells (enc zeroM) 34)
            have B15 := Lib.hid (vian HN.out B14.out Q_)
            have P15 := Lib.hid (P14.out.below Q_)
            have Q15 := Lib.hid (Q14.out.below Q_)
            have E15 := Lib.hid (E14.out.below Q_)
            have H15 := Lib.hid (H14.out.below Q_)
            have W15 := Lib.hid (W14.out.below Q_)
            have X15 := Lib.hid (X14.out.below Q_)
            have Y15 := Lib.hid (Has.new u14 (enc zeroM) 34)
            have LY := Lib.hid (Nat.le_trans HN.out B14.out.size)
            have NPY := Lib.hid (Nat.ne_of_lt P14.out.1)
            have NQY := Lib.hid (Nat.ne_of_lt Q14.out.1)
            have NEY := Lib.hid (Nat.ne_of_lt E14.out.1)
            have NHY := Lib.hid (Nat.ne_of_lt H14.out.1)
            have NWY := Lib.hid (Nat.ne_of_lt W14.out.1)
            have NXY := Lib.hid (Nat.ne_of_lt X14.out.1)
            clear Q_ B14 P14 Q14 E14 H14 W14 X14
            generalize u14.alloc (.cells (enc zeroM) 34) = u15 at B15 P15 Q15 E15 H15 W15 X15 Y15 ⊢
            generalize u14.heap.size = yb at Y15 LY NPY NQY NEY NHY NWY NXY ⊢
            refine hK.out _ _ ?s14 (fun hNew => ?r14)
            case s14 => exact Q15.out.2.1
            clear hK K hHeld
            have hHeld := hNew
            clear hNew
            refine wpAnyH_ready (rs := [14]) (by kernel_rfl) (by simp) ?_
            refine (AllReadyH.cons (o := { dst := none, op := Go.Op.store 34 (Go.Operand.tmp 26) (Go.Operand.tmp 78), type := 0, pos := "law.go:146", after := #[{ on := 12, ground := Go.Ground.data }, { on := 5, ground := Go.Ground.data }, { on := 11, ground := Go.Ground.chain }, { on := 0, ground := Go.Ground.phase }, { on := 1, ground := Go.Ground.phase }, { on := 2, ground := Go.Ground.phase }, { on := 3, ground := Go.Ground.phase }, { on := 4, ground := Go.Ground.phase }, { on := 5, ground := Go.Ground.phase }, { on := 6, ground := Go.Ground.textOnly Go.Departure.lateStores }, { on := 7, ground := Go.Ground.textOnly Go.Departure.lateStores }, { on := 8, ground := Go.Ground.textOnly Go.Departure.lateStores }, { on := 9, ground := Go.Ground.textOnly Go.Departure.lateStores }, { on := 10, ground := Go.Ground.textOnly Go.Departure.lateStores }, { on := 11, ground := Go.Ground.textOnly Go.Departure.lateStoresUnsure }, { on := 12, ground := Go.Ground.phase }, { on := 13, ground := Go.Ground.phase }], guard := none }) rfl (fun K hK => ?_) AllReadyH.nil)
            · skip
              refine wp_store_g r34 X15.out (enc_size _) (enc ma) (enc_size _) (enc_one _) _ _ rfl rfl rfl ?_
              intro u16 hP hk
              try simp only [Act.put, List.setIfInBounds_toArray, List.set_cons_zero, List.set_cons_succ]
              have X16 := Lib.hid hP
              have B16 := Lib.hid (hk.below HN.out LX.out B15.out)
              have P16 := Lib.hid (hk.has NPX.out P15.out)
              have Q16 := Lib.hid (hk.has NQX.out Q15.out)
              have E16 := Lib.hid (hk.has NEX.out E15.out)
              have H16 := Lib.hid (hk.has NHX.out H15.out)
              have W16 := Lib.hid (hk.has NWX.out W15.out)
              have Y16 := Lib.hid (hk.has (Ne.symm NXY.out) Y15.out)
              clear hP hk B15 P15 Q15 E15 H15 W15 X15 Y15
              refine hK.out _ _ ?s15 (fun hNew => ?r15)
              case s15 => exact Q16.out.2.1
              clear hK K hHeld
              have hHeld := hNew
              clear hNew
              refine wpAnyH_ready (rs := [15]) (by kernel_rfl) (by simp) ?_
              refine (AllReadyH.cons (o := { dst := none, op := Go.Op.store 34 (Go.Operand.tmp 27) (Go.Operand.tmp 84), type := 0, pos := "law.go:146", after := #[{ on := 13, ground := Go.Ground.data }, { on := 11, ground := Go.Ground.data }, { on := 14, ground := Go.Ground.chain }, { on := 0, ground := Go.Ground.phase }, { on := 1, ground := Go.Ground.phase }, { on := 2, ground := Go.Ground.phase }, { on := 3, ground := Go.Ground.phase }, { on := 4, ground := Go.Ground.phase }, { on := 5, ground := Go.Ground.phase }, { on := 6, ground := Go.Ground.phase }, { on := 7, ground := Go.Ground.phase }, { on := 8, ground := Go.Ground.phase }, { on := 9, ground := Go.Ground.phase }, { on := 10, ground := Go.Ground.phase }, { on := 11, ground := Go.Ground.phase }, { on := 12, ground := Go.Ground.phase }, { on := 13, ground := Go.Ground.phase }, { on := 14, ground := Go.Ground.phase }], guard := none }) rfl (fun K hK => ?_) AllReadyH.nil)
              · skip
                refine wp_store_g r34 Y16.out (enc_size _) (enc mb) (enc_size _) (enc_one _) _ _ rfl rfl rfl ?_
                intro u17 hP hk
                try simp only [Act.put, List.setIfInBounds_toArray, List.set_cons_zero, List.set_cons_succ]
                have Y17 := Lib.hid hP
                have B17 := Lib.hid (hk.below HN.out LY.out B16.out)
                have P17 := Lib.hid (hk.has NPY.out P16.out)
                have Q17 := Lib.hid (hk.has NQY.out Q16.out)
                have E17 := Lib.hid (hk.has NEY.out E16.out)
                have H17 := Lib.hid (hk.has NHY.out H16.out)
                have W17 := Lib.hid (hk.has NWY.out W16.out)
                have X17 := Lib.hid (hk.has NXY.out X16.out)
                clear hP hk B16 P16 Q16 E16 H16 W16 X16 Y16
                refine hK.out _ _ ?s16 (fun hNew => ?r16)
                case s16 => exact Q17.out.2.1
                clear hK K hHeld
                have hHeld := hNew
                clear hNew
                refine wpAnyH_done (by kernel_rfl) ?_ _
                clear hHeld
                go_wp2
                go_meet
                exact ⟨xb, yb, rfl, rfl, ⟨B17.out, Q17.out, W17.out⟩, X17.out, Y17.out⟩
        · skip
          go_simp
          have Q_ := own1 u13 (.cells (enc zeroM) 34)
          have B14 := Lib.hid (vian HN.out B13.out Q_)
          have P14 := Lib.hid (P13.out.below Q_)
          have Q14 := Lib.hid (Q13.out.below Q_)
          have E14 := Lib.hid (E13.out.below Q_)
          have H14 := Lib.hid (H13.out.below Q_)
          have W14 := Lib.hid (W13.out.below Q_)
          have Y14 := Lib.hid (Has.new u13 (enc zeroM) 34)
          have LY := Lib.hid (Nat.le_trans HN.out B13.out.size)
          have NPY := Lib.hid (Nat.ne_of_lt P13.out.1)
          have NQY := Lib.hid (Nat.ne_of_lt Q13.out.1)
          have NEY := Lib.hid (Nat.ne_of_lt E13.out.1)
          have NHY := Lib.hid (Nat.ne_of_lt H13.out.1)
          have NWY := Lib.hid (Nat.ne_of_lt W13.out.1)
          clear Q_ B13 P13 Q13 E13 H13 W13
          generalize u13.alloc (.cells (enc zeroM) 34) = u14 at B14 P14 Q14 E14 H14 W14 Y14 ⊢
          generalize u13.heap.size = yb at Y14 LY NPY NQY NEY NHY NWY ⊢
          refine hK.out _ _ ?s17 (fun hNew => ?r17)
          case s17 => exact Q14.out.2.1
          clear hK K hHeld
          have hHeld := hNew
          clear hNew
          refine wpAnyH_ready (rs := [12]) (by kernel_rfl) (by simp) ?_
          refine (AllReadyH.cons (o := { dst := some 26, op := Go.Op.alloc 34, type := 0, pos := "law.go:146", after := #[], guard := none }) rfl (fun K hK => ?_) AllReadyH.nil)
          · skip
            go_simp
            have Q_ := own1 u14 (.cells (enc zeroM) 34)
            have B15 := Lib.hid (vian HN.out B14.out Q_)
            have P15 := Lib.hid (P14.out.below Q_)
            have Q15 := Lib.hid (Q14.out.below Q_)
            have E15 := Lib.hid (E14.out.below Q_)
            have H15 := Lib.hid (H14.out.below Q_)
            have W15 := Lib.hid (W14.out.below Q_)
            have Y15 := Lib.hid (Y14.out.below Q_)
            have X15 := Lib.hid (Has.new u14 (enc zeroM) 34)
            have LX := Lib.hid (Nat.le_trans HN.out B14.out.size)
            have NPX := Lib.hid (Nat.ne_of_lt P14.out.1)
            have NQX := Lib.hid (Nat.ne_of_lt Q14.out.1)
            have NEX := Lib.hid (Nat.ne_of_lt E14.out.1)
            have NHX := Lib.hid (Nat.ne_of_lt H14.out.1)
            have NWX := Lib.hid (Nat.ne_of_lt W14.out.1)
            have NYX := Lib.hid (Nat.ne_of_lt Y14.out.1)
            clear Q_ B14 P14 Q14 E14 H14 W14 Y14
            generalize u14.alloc (.cells (enc zeroM) 34) = u15 at B15 P15 Q15 E15 H15 W15 Y15 X15 ⊢
            generalize u14.heap.size = xb at X15 LX NPX NQX NEX NHX NWX NYX ⊢
            refine hK.out _ _ ?s18 (fun hNew => ?r18)
            case s18 => exact Q15.out.2.1
            clear hK K hHeld
            have hHeld := hNew
            clear hNew
            refine wpAnyH_ready (rs := [14]) (by kernel_rfl) (by simp) ?_
            refine (AllReadyH.cons (o := { dst := none, op := Go.Op.store 34 (Go.Operand.tmp 26) (Go.Operand.tmp 78), type := 0, pos := "law.go:146", after := #[{ on := 12, ground := Go.Ground.data }, { on := 5, ground := Go.Ground.data }, { on := 11, ground := Go.Ground.chain }, { on := 0, ground := Go.Ground.phase }, { on := 1, ground := Go.Ground.phase }, { on := 2, ground := Go.Ground.phase }, { on := 3, ground := Go.Ground.phase }, { on := 4, ground := Go.Ground.phase }, { on := 5, ground := Go.Ground.phase }, { on := 6, ground := Go.Ground.textOnly Go.Departure.lateStores }, { on := 7, ground := Go.Ground.textOnly Go.Departure.lateStores }, { on := 8, ground := Go.Ground.textOnly Go.Departure.lateStores }, { on := 9, ground := Go.Ground.textOnly Go.Departure.lateStores }, { on := 10, ground := Go.Ground.textOnly Go.Departure.lateStores }, { on := 11, ground := Go.Ground.textOnly Go.Departure.lateStoresUnsure }, { on := 12, ground := Go.Ground.phase }, { on := 13, ground := Go.Ground.phase }], guard := none }) rfl (fun K hK => ?_) AllReadyH.nil)
            · skip
              refine wp_store_g r34 X15.out (enc_size _) (enc ma) (enc_size _) (enc_one _) _ _ rfl rfl rfl ?_
              intro u16 hP hk
              try simp only [Act.put, List.setIfInBounds_toArray, List.set_cons_zero, List.set_cons_succ]
              have X16 := Lib.hid hP
              have B16 := Lib.hid (hk.below HN.out LX.out B15.out)
              have P16 := Lib.hid (hk.has NPX.out P15.out)
              have Q16 := Lib.hid (hk.has NQX.out Q15.out)
              have E16 := Lib.hid (hk.has NEX.out E15.out)
              have H16 := Lib.hid (hk.has NHX.out H15.out)
              have W16 := Lib.hid (hk.has NWX.out W15.out)
              have Y16 := Lib.hid (hk.has NYX.out Y15.out)
              clear hP hk B15 P15 Q15 E15 H15 W15 Y15 X15
              refine hK.out _ _ ?s19 (fun hNew => ?r19)
              case s19 => exact Q16.out.2.1
              clear hK K hHeld
              have hHeld := hNew
              clear hNew
              refine wpAnyH_ready (rs := [15]) (by kernel_rfl) (by simp) ?_
              refine (AllReadyH.cons (o := { dst := none, op := Go.Op.store 34 (Go.Operand.tmp 27) (Go.Operand.tmp 84), type := 0, pos := "law.go:146", after := #[{ on := 13, ground := Go.Ground.data }, { on := 11, ground := Go.Ground.data }, { on := 14, ground := Go.Ground.chain }, { on := 0, ground := Go.Ground.phase }, { on := 1, ground := Go.Ground.phase }, { on := 2, ground := Go.Ground.phase }, { on := 3, ground := Go.Ground.phase }, { on := 4, ground := Go.Ground.phase }, { on := 5, ground := Go.Ground.phase }, { on := 6, ground := Go.Ground.phase }, { on := 7, ground := Go.Ground.phase }, { on := 8, ground := Go.Ground.phase }, { on := 9, ground := Go.Ground.phase }, { on := 10, ground := Go.Ground.phase }, { on := 11, ground := Go.Ground.phase }, { on := 12, ground := Go.Ground.phase }, { on := 13, ground := Go.Ground.phase }, { on := 14, ground := Go.Ground.phase }], guard := none }) rfl (fun K hK => ?_) AllReadyH.nil)
              · skip
                refine wp_store_g r34 Y16.out (enc_size _) (enc mb) (enc_size _) (enc_one _) _ _ rfl rfl rfl ?_
                intro u17 hP hk
                try simp only [Act.put, List.setIfInBounds_toArray, List.set_cons_zero, List.set_cons_succ]
                have Y17 := Lib.hid hP
                have B17 := Lib.hid (hk.below HN.out LY.out B16.out)
                have P17 := Lib.hid (hk.has NPY.out P16.out)
                have Q17 := Lib.hid (hk.has NQY.out Q16.out)
                have E17 := Lib.hid (hk.has NEY.out E16.out)
                have H17 := Lib.hid (hk.has NHY.out H16.out)
                have W17 := Lib.hid (hk.has NWY.out W16.out)
                have X17 := Lib.hid (hk.has (Ne.symm NYX.out) X16.out)
                clear hP hk B16 P16 Q16 E16 H16 W16 Y16 X16
                refine hK.out _ _ ?s20 (fun hNew => ?r20)
                case s20 => exact Q17.out.2.1
                clear hK K hHeld
                have hHeld := hNew
                clear hNew
                refine wpAnyH_done (by kernel_rfl) ?_ _
                clear hHeld
                go_wp2
                go_meet
                exact ⟨xb, yb, rfl, rfl, ⟨B17.out, Q17.out, W17.out⟩, X17.out, Y17.out⟩
      · skip
        go_simp
        have Q_ := own1 u12 (.cells (enc zeroM) 34)
        have B13 := Lib.hid (vian HN.out B12.out Q_)
        have P13 := Lib.hid (P12.out.below Q_)
        have Q13 := Lib.hid (Q12.out.below Q_)
        have E13 := Lib.hid (E12.out.below Q_)
        have H13 := Lib.hid (H12.out.below Q_)
        have W13 := Lib.hid (W12.out.below Q_)
        have X13 := Lib.hid (Has.new u12 (enc zeroM) 34)
        have LX := Lib.hid (Nat.le_trans HN.out B12.out.size)
        have NPX := Lib.hid (Nat.ne_of_lt P12.out.1)
        have NQX := Lib.hid (Nat.ne_of_lt Q12.out.1)
        have NEX := Lib.hid (Nat.ne_of_lt E12.out.1)
        have NHX := Lib.hid (Nat.ne_of_lt H12.out.1)
        have NWX := Lib.hid (Nat.ne_of_lt W12.out.1)
        clear Q_ B12 P12 Q12 E12 H12 W12
        generalize u12.alloc (.cells (enc zeroM) 34) = u13 at B13 P13 Q13 E13 H13 W13 X13 ⊢
        generalize u12.heap.size = xb at X13 LX NPX NQX NEX NHX NWX ⊢
        refine hK.out _ _ ?s21 (fun hNew => ?r21)
        case s21 => exact Q13.out.2.1
        clear hK K hHeld
        have hHeld := hNew
        clear hNew
        refine wpAnyH_ready (rs := [11, 13]) (by kernel_rfl) (by simp) ?_
        refine (AllReadyH.cons (o := { dst := some 84, op := Go.Op.call { callee := Go.Callee.value (Go.Operand.func 17), args := #[Go.Operand.tmp 79, Go.Operand.tmp 80, Go.Operand.tmp 81, Go.Operand.tmp 82, Go.Operand.tmp 83], argTypes := #[27, 22, 22, 3, 34] }, type := 34, pos := "law.go:146", after := #[{ on := 6, ground := Go.Ground.data }, { on := 7, ground := Go.Ground.data }, { on := 8, ground := Go.Ground.data }, { on := 9, ground := Go.Ground.data }, { on := 10, ground := Go.Ground.data }, { on := 5, ground := Go.Ground.chain }], guard := none }) rfl (fun K hK => ?_) (AllReadyH.cons (o := { dst := some 27, op := Go.Op.alloc 34, type := 0, pos := "law.go:146", after := #[], guard := none }) rfl (fun K hK => ?_) AllReadyH.nil))
        · skip
          go_simp
          with_reducible refine (LB.out _ _ (HM0.out.at HN.out B13.out) (mem_lit H13.out OKB.out)).mono ?_
          rintro q_ u14 ⟨rfl, hb⟩
          have B14 := Lib.hid (vian HN.out B13.out hb)
          have P14 := Lib.hid (P13.out.below hb)
          have Q14 := Lib.hid (Q13.out.below hb)
          have E14 := Lib.hid (E13.out.below hb)
          have H14 := Lib.hid (H13.out.below hb)
          have W14 := Lib.hid (W13.out.below hb)
          have X14 := Lib.hid (X13.out.below hb)
          clear hb B13 P13 Q13 E13 H13 W13 X13
          refine hK.out _ _ ?s22 (fun hNew => ?r22)
          case s22 => exact Q14.out.2.1
          clear hK K hHeld
          have hHeld := hNew
          clear hNew
          refine wpAnyH_ready (rs := [13]) (by kernel_rfl) (by simp) ?_
          refine (AllReadyH.cons (o := { dst := some 27, op := Go.Op.alloc 34, type := 0, pos := "law.go:146", after := #[], guard := none }) rfl (fun K hK => ?_) AllReadyH.nil)
          · skip
            go_simp
            have Q_ := own1 u14 (.cells (enc zeroM) 34)
            have B15 := Lib.hid (vian HN.out B14.out Q_)
            have P15 := Lib.hid (P14.out.below Q_)
            have Q15 := Lib.hid (Q14.out.below Q_)
            have E15 := Lib.hid (E14.out.below Q_)
            have H15 := Lib.hid (H14.out.below Q_)
            have W15 := Lib.hid (W14.out.below Q_)
            have X15 := Lib.hid (X14.out.below Q_)
            have Y15 := Lib.hid (Has.new u14 (enc zeroM) 34)
            have LY := Lib.hid (Nat.le_trans HN.out B14.out.size)
            have NPY := Lib.hid (Nat.ne_of_lt P14.out.1)
            have NQY := Lib.hid (Nat.ne_of_lt Q14.out.1)
            have NEY := Lib.hid (Nat.ne_of_lt E14.out.1)
            have NHY := Lib.hid (Nat.ne_of_lt H14.out.1)
            have NWY := Lib.hid (Nat.ne_of_lt W14.out.1)
            have NXY := Lib.hid (Nat.ne_of_lt X14.out.1)
            clear Q_ B14 P14 Q14 E14 H14 W14 X14
            generalize u14.alloc (.cells (enc zeroM) 34) = u15 at B15 P15 Q15 E15 H15 W15 X15 Y15 ⊢
            generalize u14.heap.size = yb at Y15 LY NPY NQY NEY NHY NWY NXY ⊢
            refine hK.out _ _ ?s23 (fun hNew => ?r23)
            case s23 => exact Q15.out.2.1
            clear hK K hHeld
            have hHeld := hNew
            clear hNew
            refine wpAnyH_ready (rs := [14]) (by kernel_rfl) (by simp) ?_
            refine (AllReadyH.cons (o := { dst := none, op := Go.Op.store 34 (Go.Operand.tmp 26) (Go.Operand.tmp 78), type := 0, pos := "law.go:146", after := #[{ on := 12, ground := Go.Ground.data }, { on := 5, ground := Go.Ground.data }, { on := 11, ground := Go.Ground.chain }, { on := 0, ground := Go.Ground.phase }, { on := 1, ground := Go.Ground.phase }, { on := 2, ground := Go.Ground.phase }, { on := 3, ground := Go.Ground.phase }, { on := 4, ground := Go.Ground.phase }, { on := 5, ground := Go.Ground.phase }, { on := 6, ground := Go.Ground.textOnly Go.Departure.lateStores }, { on := 7, ground := Go.Ground.textOnly Go.Departure.lateStores }, { on := 8, ground := Go.Ground.textOnly Go.Departure.lateStores }, { on := 9, ground := Go.Ground.textOnly Go.Departure.lateStores }, { on := 10, ground := Go.Ground.textOnly Go.Departure.lateStores }, { on := 11, ground := Go.Ground.textOnly Go.Departure.lateStoresUnsure }, { on := 12, ground := Go.Ground.phase }, { on := 13, ground := Go.Ground.phase }], guard := none }) rfl (fun K hK => ?_) AllReadyH.nil)
            · skip
              refine wp_store_g r34 X15.out (enc_size _) (enc ma) (enc_size _) (enc_one _) _ _ rfl rfl rfl ?_
              intro u16 hP hk
              try simp only [Act.put, List.setIfInBounds_toArray, List.set_cons_zero, List.set_cons_succ]
              have X16 := Lib.hid hP
              have B16 := Lib.hid (hk.below HN.out LX.out B15.out)
              have P16 := Lib.hid (hk.has NPX.out P15.out)
              have Q16 := Lib.hid (hk.has NQX.out Q15.out)
              have E16 := Lib.hid (hk.has NEX.out E15.out)
              have H16 := Lib.hid (hk.has NHX.out H15.out)
              have W16 := Lib.hid (hk.has NWX.out W15.out)
              have Y16 := Lib.hid (hk.has (Ne.symm NXY.out) Y15.out)
              clear hP hk B15 P15 Q15 E15 H15 W15 X15 Y15
              refine hK.out _ _ ?s24 (fun hNew => ?r24)
              case s24 => exact Q16.out.2.1
              clear hK K hHeld
              have hHeld := hNew
              clear hNew
              refine wpAnyH_ready (rs := [15]) (by kernel_rfl) (by simp) ?_
              refine (AllReadyH.cons (o := { dst := none, op := Go.Op.store 34 (Go.Operand.tmp 27) (Go.Operand.tmp 84), type := 0, pos := "law.go:146", after := #[{ on := 13, ground := Go.Ground.data }, { on := 11, ground := Go.Ground.data }, { on := 14, ground := Go.Ground.chain }, { on := 0, ground := Go.Ground.phase }, { on := 1, ground := Go.Ground.phase }, { on := 2, ground := Go.Ground.phase }, { on := 3, ground := Go.Ground.phase }, { on := 4, ground := Go.Ground.phase }, { on := 5, ground := Go.Ground.phase }, { on := 6, ground := Go.Ground.phase }, { on := 7, ground := Go.Ground.phase }, { on := 8, ground := Go.Ground.phase }, { on := 9, ground := Go.Ground.phase }, { on := 10, ground := Go.Ground.phase }, { on := 11, ground := Go.Ground.phase }, { on := 12, ground := Go.Ground.phase }, { on := 13, ground := Go.Ground.phase }, { on := 14, ground := Go.Ground.phase }], guard := none }) rfl (fun K hK => ?_) AllReadyH.nil)
              · skip
                refine wp_store_g r34 Y16.out (enc_size _) (enc mb) (enc_size _) (enc_one _) _ _ rfl rfl rfl ?_
                intro u17 hP hk
                try simp only [Act.put, List.setIfInBounds_toArray, List.set_cons_zero, List.set_cons_succ]
                have Y17 := Lib.hid hP
                have B17 := Lib.hid (hk.below HN.out LY.out B16.out)
                have P17 := Lib.hid (hk.has NPY.out P16.out)
                have Q17 := Lib.hid (hk.has NQY.out Q16.out)
                have E17 := Lib.hid (hk.has NEY.out E16.out)
                have H17 := Lib.hid (hk.has NHY.out H16.out)
                have W17 := Lib.hid (hk.has NWY.out W16.out)
                have X17 := Lib.hid (hk.has NXY.out X16.out)
                clear hP hk B16 P16 Q16 E16 H16 W16 X16 Y16
                refine hK.out _ _ ?s25 (fun hNew => ?r25)
                case s25 => exact Q17.out.2.1
                clear hK K hHeld
                have hHeld := hNew
                clear hNew
                refine wpAnyH_done (by kernel_rfl) ?_ _
                clear hHeld
                go_wp2
                go_meet
                exact ⟨xb, yb, rfl, rfl, ⟨B17.out, Q17.out, W17.out⟩, X17.out, Y17.out⟩
        · skip
          go_simp
          have Q_ := own1 u13 (.cells (enc zeroM) 34)
          have B14 := Lib.hid (vian HN.out B13.out Q_)
          have P14 := Lib.hid (P13.out.below Q_)
          have Q14 := Lib.hid (Q13.out.below Q_)
          have E14 := Lib.hid (E13.out.below Q_)
          have H14 := Lib.hid (H13.out.below Q_)
          have W14 := Lib.hid (W13.out.below Q_)
          have X14 := Lib.hid (X13.out.below Q_)
          have Y14 := Lib.hid (Has.new u13 (enc zeroM) 34)
          have LY := Lib.hid (Nat.le_trans HN.out B13.out.size)
          have NPY := Lib.hid (Nat.ne_of_lt P13.out.1)
          have NQY := Lib.hid (Nat.ne_of_lt Q13.out.1)
          have NEY := Lib.hid (Nat.ne_of_lt E13.out.1)
          have NHY := Lib.hid (Nat.ne_of_lt H13.out.1)
          have NWY := Lib.hid (Nat.ne_of_lt W13.out.1)
          have NXY := Lib.hid (Nat.ne_of_lt X13.out.1)
          clear Q_ B13 P13 Q13 E13 H13 W13 X13
          generalize u13.alloc (.cells (enc zeroM) 34) = u14 at B14 P14 Q14 E14 H14 W14 X14 Y14 ⊢
          generalize u13.heap.size = yb at Y14 LY NPY NQY NEY NHY NWY NXY ⊢
          refine hK.out _ _ ?s26 (fun hNew => ?r26)
          case s26 => exact Q14.out.2.1
          clear hK K hHeld
          have hHeld := hNew
          clear hNew
          refine wpAnyH_ready (rs := [11]) (by kernel_rfl) (by simp) ?_
          refine (AllReadyH.cons (o := { dst := some 84, op := Go.Op.call { callee := Go.Callee.value (Go.Operand.func 17), args := #[Go.Operand.tmp 79, Go.Operand.tmp 80, Go.Operand.tmp 81, Go.Operand.tmp 82, Go.Operand.tmp 83], argTypes := #[27, 22, 22, 3, 34] }, type := 34, pos := "law.go:146", after := #[{ on := 6, ground := Go.Ground.data }, { on := 7, ground := Go.Ground.data }, { on := 8, ground := Go.Ground.data }, { on := 9, ground := Go.Ground.data }, { on := 10, ground := Go.Ground.data }, { on := 5, ground := Go.Ground.chain }], guard := none }) rfl (fun K hK => ?_) AllReadyH.nil)
          · skip
            go_simp
            with_reducible refine (LB.out _ _ (HM0.out.at HN.out B14.out) (mem_lit H14.out OKB.out)).mono ?_
            rintro q_ u15 ⟨rfl, hb⟩
            have B15 := Lib.hid (vian HN.out B14.out hb)
            have P15 := Lib.hid (P14.out.below hb)
            have Q15 := Lib.hid (Q14.out.below hb)
            have E15 := Lib.hid (E14.out.below hb)
            have H15 := Lib.hid (H14.out.below hb)
            have W15 := Lib.hid (W14.out.below hb)
            have X15 := Lib.hid (X14.out.below hb)
            have Y15 := Lib.hid (Y14.out.below hb)
            clear hb B14 P14 Q14 E14 H14 W14 X14 Y14
            refine hK.out _ _ ?s27 (fun hNew => ?r27)
            case s27 => exact Q15.out.2.1
            clear hK K hHeld
            have hHeld := hNew
            clear hNew
            refine wpAnyH_ready (rs := [14]) (by kernel_rfl) (by simp) ?_
            refine (AllReadyH.cons (o := { dst := none, op := Go.Op.store 34 (Go.Operand.tmp 26) (Go.Operand.tmp 78), type := 0, pos := "law.go:146", after := #[{ on := 12, ground := Go.Ground.data }, { on := 5, ground := Go.Ground.data }, { on := 11, ground := Go.Ground.chain }, { on := 0, ground := Go.Ground.phase }, { on := 1, ground := Go.Ground.phase }, { on := 2, ground := Go.Ground.phase }, { on := 3, ground := Go.Ground.phase }, { on := 4, ground := Go.Ground.phase }, { on := 5, ground := Go.Ground.phase }, { on := 6, ground := Go.Ground.textOnly Go.Departure.lateStores }, { on := 7, ground := Go.Ground.textOnly Go.Departure.lateStores }, { on := 8, ground := Go.Ground.textOnly Go.Departure.lateStores }, { on := 9, ground := Go.Ground.textOnly Go.Departure.lateStores }, { on := 10, ground := Go.Ground.textOnly Go.Departure.lateStores }, { on := 11, ground := Go.Ground.textOnly Go.Departure.lateStoresUnsure }, { on := 12, ground := Go.Ground.phase }, { on := 13, ground := Go.Ground.phase }], guard := none }) rfl (fun K hK => ?_) AllReadyH.nil)
            · skip
              refine wp_store_g r34 X15.out (enc_size _) (enc ma) (enc_size _) (enc_one _) _ _ rfl rfl rfl ?_
              intro u16 hP hk
              try simp only [Act.put, List.setIfInBounds_toArray, List.set_cons_zero, List.set_cons_succ]
              have X16 := Lib.hid hP
              have B16 := Lib.hid (hk.below HN.out LX.out B15.out)
              have P16 := Lib.hid (hk.has NPX.out P15.out)
              have Q16 := Lib.hid (hk.has NQX.out Q15.out)
              have E16 := Lib.hid (hk.has NEX.out E15.out)
              have H16 := Lib.hid (hk.has NHX.out H15.out)
              have W16 := Lib.hid (hk.has NWX.out W15.out)
              have Y16 := Lib.hid (hk.has (Ne.symm NXY.out) Y15.out)
              clear hP hk B15 P15 Q15 E15 H15 W15 X15 Y15
              refine hK.out _ _ ?s28 (fun hNew => ?r28)
              case s28 => exact Q16.out.2.1
              clear hK K hHeld
              have hHeld := hNew
              clear hNew
              refine wpAnyH_ready (rs := [15]) (by kernel_rfl) (by simp) ?_
              refine (AllReadyH.cons (o := { dst := none, op := Go.Op.store 34 (Go.Operand.tmp 27) (Go.Operand.tmp 84), type := 0, pos := "law.go:146", after := #[{ on := 13, ground := Go.Ground.data }, { on := 11, ground := Go.Ground.data }, { on := 14, ground := Go.Ground.chain }, { on := 0, ground := Go.Ground.phase }, { on := 1, ground := Go.Ground.phase }, { on := 2, ground := Go.Ground.phase }, { on := 3, ground := Go.Ground.phase }, { on := 4, ground := Go.Ground.phase }, { on := 5, ground := Go.Ground.phase }, { on := 6, ground := Go.Ground.phase }, { on := 7, ground := Go.Ground.phase }, { on := 8, ground := Go.Ground.phase }, { on := 9, ground := Go.Ground.phase }, { on := 10, ground := Go.Ground.phase }, { on := 11, ground := Go.Ground.phase }, { on := 12, ground := Go.Ground.phase }, { on := 13, ground := Go.Ground.phase }, { on := 14, ground := Go.Ground.phase }], guard := none }) rfl (fun K hK => ?_) AllReadyH.nil)
              · skip
                refine wp_store_g r34 Y16.out (enc_size _) (enc mb) (enc_size _) (enc_one _) _ _ rfl rfl rfl ?_
                intro u17 hP hk
                try simp only [Act.put, List.setIfInBounds_toArray, List.set_cons_zero, List.set_cons_succ]
                have Y17 := Lib.hid hP
                have B17 := Lib.hid (hk.below HN.out LY.out B16.out)
                have P17 := Lib.hid (hk.has NPY.out P16.out)
                have Q17 := Lib.hid (hk.has NQY.out Q16.out)
                have E17 := Lib.hid (hk.has NEY.out E16.out)
                have H17 := Lib.hid (hk.has NHY.out H16.out)
                have W17 := Lib.hid (hk.has NWY.out W16.out)
                have X17 := Lib.hid (hk.has NXY.out X16.out)
                clear hP hk B16 P16 Q16 E16 H16 W16 X16 Y16
                refine hK.out _ _ ?s29 (fun hNew => ?r29)
                case s29 => exact Q17.out.2.1
                clear hK K hHeld
                have hHeld := hNew
                clear hNew
                refine wpAnyH_done (by kernel_rfl) ?_ _
                clear hHeld
                go_wp2
                go_meet
                exact ⟨xb, yb, rfl, rfl, ⟨B17.out, Q17.out, W17.out⟩, X17.out, Y17.out⟩
      · skip
        go_simp
        have Q_ := own1 u12 (.cells (enc zeroM) 34)
        have B13 := Lib.hid (vian HN.out B12.out Q_)
        have P13 := Lib.hid (P12.out.below Q_)
        have Q13 := Lib.hid (Q12.out.below Q_)
        have E13 := Lib.hid (E12.out.below Q_)
        have H13 := Lib.hid (H12.out.below Q_)
        have W13 := Lib.hid (W12.out.below Q_)
        have Y13 := Lib.hid (Has.new u12 (enc zeroM) 34)
        have LY := Lib.hid (Nat.le_trans HN.out B12.out.size)
        have NPY := Lib.hid (Nat.ne_of_lt P12.out.1)
        have NQY := Lib.hid (Nat.ne_of_lt Q12.out.1)
        have NEY := Lib.hid (Nat.ne_of_lt E12.out.1)
        have NHY := Lib.hid (Nat.ne_of_lt H12.out.1)
        have NWY := Lib.hid (Nat.ne_of_lt W12.out.1)
        clear Q_ B12 P12 Q12 E12 H12 W12
        generalize u12.alloc (.cells (enc zeroM) 34) = u13 at B13 P13 Q13 E13 H13 W13 Y13 ⊢
        generalize u12.heap.size = yb at Y13 LY NPY NQY NEY NHY NWY ⊢
        refine hK.out _ _ ?s30 (fun hNew => ?r30)
        case s30 => exact Q13.out.2.1
        clear hK K hHeld
        have hHeld := hNew
        clear hNew
        refine wpAnyH_ready (rs := [11, 12]) (by kernel_rfl) (by simp) ?_
        refine (AllReadyH.cons (o := { dst := some 84, op := Go.Op.call { callee := Go.Callee.value (Go.Operand.func 17), args := #[Go.Operand.tmp 79, Go.Operand.tmp 80, Go.Operand.tmp 81, Go.Operand.tmp 82, Go.Operand.tmp 83], argTypes := #[27, 22, 22, 3, 34] }, type := 34, pos := "law.go:146", after := #[{ on := 6, ground := Go.Ground.data }, { on := 7, ground := Go.Ground.data }, { on := 8, ground := Go.Ground.data }, { on := 9, ground := Go.Ground.data }, { on := 10, ground := Go.Ground.data }, { on := 5, ground := Go.Ground.chain }], guard := none }) rfl (fun K hK => ?_) (AllReadyH.cons (o := { dst := some 26, op := Go.Op.alloc 34, type := 0, pos := "law.go:146", after := #[], guard := none }) rfl (fun K hK => ?_) AllReadyH.nil))
        · skip
          go_simp
          with_reducible refine (LB.out _ _ (HM0.out.at HN.out B13.out) (mem_lit H13.out OKB.out)).mono ?_
          rintro q_ u14 ⟨rfl, hb⟩
          have B14 := Lib.hid (vian HN.out B13.out hb)
          have P14 := Lib.hid (P13.out.below hb)
          have Q14 := Lib.hid (Q13.out.below hb)
          have E14 := Lib.hid (E13.out.below hb)
          have H14 := Lib.hid (H13.out.below hb)
          have W14 := Lib.hid (W13.out.below hb)
          have Y14 := Lib.hid (Y13.out.below hb)
          clear hb B13 P13 Q13 E13 H13 W13 Y13
          refine hK.out _ _ ?s31 (fun hNew => ?r31)
          case s31 => exact Q14.out.2.1
          clear hK K hHeld
          have hHeld := hNew
          clear hNew
          refine wpAnyH_ready (rs := [12]) (by kernel_rfl) (by simp) ?_
          refine (AllReadyH.cons (o := { dst := some 26, op := Go.Op.alloc 34, type := 0, pos := "law.go:146", after := #[], guard := none }) rfl (fun K hK => ?_) AllReadyH.nil)
          · skip
            go_simp
            have Q_ := own1 u14 (.cells (enc zeroM) 34)
            have B15 := Lib.hid (vian HN.out B14.out Q_)
            have P15 := Lib.hid (P14.out.below Q_)
            have Q15 := Lib.hid (Q14.out.below Q_)
            have E15 := Lib.hid (E14.out.below Q_)
            have H15 := Lib.hid (H14.out.below Q_)
            have W15 := Lib.hid (W14.out.below Q_)
            have Y15 := Lib.hid (Y14.out.below Q_)
            have X15 := Lib.hid (Has.new u14 (enc zeroM) 34)
            have LX := Lib.hid (Nat.le_trans HN.out B14.out.size)
            have NPX := Lib.hid (Nat.ne_of_lt P14.out.1)
            have NQX := Lib.hid (Nat.ne_of_lt Q14.out.1)
            have NEX := Lib.hid (Nat.ne_of_lt E14.out.1)
            have NHX := Lib.hid (Nat.ne_of_lt H14.out.1)
            have NWX := Lib.hid (Nat.ne_of_lt W14.out.1)
            have NYX := Lib.hid (Nat.ne_of_lt Y14.out.1)
            clear Q_ B14 P14 Q14 E14 H14 W14 Y14
            generalize u14.alloc (.cells (enc zeroM) 34) = u15 at B15 P15 Q15 E15 H15 W15 Y15 X15 ⊢
            generalize u14.heap.size = xb at X15 LX NPX NQX NEX NHX NWX NYX ⊢
            refine hK.out _ _ ?s32 (fun hNew => ?r32)
            case s32 => exact Q15.out.2.1
            clear hK K hHeld
            have hHeld := hNew
            clear hNew
            refine wpAnyH_ready (rs := [14]) (by kernel_rfl) (by simp) ?_
            refine (AllReadyH.cons (o := { dst := none, op := Go.Op.store 34 (Go.Operand.tmp 26) (Go.Operand.tmp 78), type := 0, pos := "law.go:146", after := #[{ on := 12, ground := Go.Ground.data }, { on := 5, ground := Go.Ground.data }, { on := 11, ground := Go.Ground.chain }, { on := 0, ground := Go.Ground.phase }, { on := 1, ground := Go.Ground.phase }, { on := 2, ground := Go.Ground.phase }, { on := 3, ground := Go.Ground.phase }, { on := 4, ground := Go.Ground.phase }, { on := 5, ground := Go.Ground.phase }, { on := 6, ground := Go.Ground.textOnly Go.Departure.lateStores }, { on := 7, ground := Go.Ground.textOnly Go.Departure.lateStores }, { on := 8, ground := Go.Ground.textOnly Go.Departure.lateStores }, { on := 9, ground := Go.Ground.textOnly Go.Departure.lateStores }, { on := 10, ground := Go.Ground.textOnly Go.Departure.lateStores }, { on := 11, ground := Go.Ground.textOnly Go.Departure.lateStoresUnsure }, { on := 12, ground := Go.Ground.phase }, { on := 13, ground := Go.Ground.phase }], guard := none }) rfl (fun K hK => ?_) AllReadyH.nil)
            · skip
              refine wp_store_g r34 X15.out (enc_size _) (enc ma) (enc_size _) (enc_one _) _ _ rfl rfl rfl ?_
              intro u16 hP hk
              try simp only [Act.put, List.setIfInBounds_toArray, List.set_cons_zero, List.set_cons_succ]
              have X16 := Lib.hid hP
              have B16 := Lib.hid (hk.below HN.out LX.out B15.out)
              have P16 := Lib.hid (hk.has NPX.out P15.out)
              have Q16 := Lib.hid (hk.has NQX.out Q15.out)
              have E16 := Lib.hid (hk.has NEX.out E15.out)
              have H16 := Lib.hid (hk.has NHX.out H15.out)
              have W16 := Lib.hid (hk.has NWX.out W15.out)
              have Y16 := Lib.hid (hk.has NYX.out Y15.out)
              clear hP hk B15 P15 Q15 E15 H15 W15 Y15 X15
              refine hK.out _ _ ?s33 (fun hNew => ?r33)
              case s33 => exact Q16.out.2.1
              clear hK K hHeld
              have hHeld := hNew
              clear hNew
              refine wpAnyH_ready (rs := [15]) (by kernel_rfl) (by simp) ?_
              refine (AllReadyH.cons (o := { dst := none, op := Go.Op.store 34 (Go.Operand.tmp 27) (Go.Operand.tmp 84), type := 0, pos := "law.go:146", after := #[{ on := 13, ground := Go.Ground.data }, { on := 11, ground := Go.Ground.data }, { on := 14, ground := Go.Ground.chain }, { on := 0, ground := Go.Ground.phase }, { on := 1, ground := Go.Ground.phase }, { on := 2, ground := Go.Ground.phase }, { on := 3, ground := Go.Ground.phase }, { on := 4, ground := Go.Ground.phase }, { on := 5, ground := Go.Ground.phase }, { on := 6, ground := Go.Ground.phase }, { on := 7, ground := Go.Ground.phase }, { on := 8, ground := Go.Ground.phase }, { on := 9, ground := Go.Ground.phase }, { on := 10, ground := Go.Ground.phase }, { on := 11, ground := Go.Ground.phase }, { on := 12, ground := Go.Ground.phase }, { on := 13, ground := Go.Ground.phase }, { on := 14, ground := Go.Ground.phase }], guard := none }) rfl (fun K hK => ?_) AllReadyH.nil)
              · skip
                refine wp_store_g r34 Y16.out (enc_size _) (enc mb) (enc_size _) (enc_one _) _ _ rfl rfl rfl ?_
                intro u17 hP hk
                try simp only [Act.put, List.setIfInBounds_toArray, List.set_cons_zero, List.set_cons_succ]
                have Y17 := Lib.hid hP
                have B17 := Lib.hid (hk.below HN.out LY.out B16.out)
                have P17 := Lib.hid (hk.has NPY.out P16.out)
                have Q17 := Lib.hid (hk.has NQY.out Q16.out)
                have E17 := Lib.hid (hk.has NEY.out E16.out)
                have H17 := Lib.hid (hk.has NHY.out H16.out)
                have W17 := Lib.hid (hk.has NWY.out W16.out)
                have X17 := Lib.hid (hk.has (Ne.symm NYX.out) X16.out)
                clear hP hk B16 P16 Q16 E16 H16 W16 Y16 X16
                refine hK.out _ _ ?s34 (fun hNew => ?r34)
                case s34 => exact Q17.out.2.1
                clear hK K hHeld
                have hHeld := hNew
                clear hNew
                refine wpAnyH_done (by kernel_rfl) ?_ _
                clear hHeld
                go_wp2
                go_meet
                exact ⟨xb, yb, rfl, rfl, ⟨B17.out, Q17.out, W17.out⟩, X17.out, Y17.out⟩
        · skip
          go_simp
          have Q_ := own1 u13 (.cells (enc zeroM) 34)
          have B14 := Lib.hid (vian HN.out B13.out Q_)
          have P14 := Lib.hid (P13.out.below Q_)
          have Q14 := Lib.hid (Q13.out.below Q_)
          have E14 := Lib.hid (E13.out.below Q_)
          have H14 := Lib.hid (H13.out.below Q_)
          have W14 := Lib.hid (W13.out.below Q_)
          have Y14 := Lib.hid (Y13.out.below Q_)
          have X14 := Lib.hid (Has.new u13 (enc zeroM) 34)
          have LX := Lib.hid (Nat.le_trans HN.out B13.out.size)
          have NPX := Lib.hid (Nat.ne_of_lt P13.out.1)
          have NQX := Lib.hid (Nat.ne_of_lt Q13.out.1)
          have NEX := Lib.hid (Nat.ne_of_lt E13.out.1)
          have NHX := Lib.hid (Nat.ne_of_lt H13.out.1)
          have NWX := Lib.hid (Nat.ne_of_lt W13.out.1)
          have NYX := Lib.hid (Nat.ne_of_lt Y13.out.1)
          clear Q_ B13 P13 Q13 E13 H13 W13 Y13
          generalize u13.alloc (.cells (enc zeroM) 34) = u14 at B14 P14 Q14 E14 H14 W14 Y14 X14 ⊢
          generalize u13.heap.size = xb at X14 LX NPX NQX NEX NHX NWX NYX ⊢
          refine hK.out _ _ ?s35 (fun hNew => ?r35)
          case s35 => exact Q14.out.2.1
          clear hK K hHeld
          have hHeld := hNew
          clear hNew
          refine wpAnyH_ready (rs := [11]) (by kernel_rfl) (by simp) ?_
          refine (AllReadyH.cons (o := { dst := some 84, op := Go.Op.call { callee := Go.Callee.value (Go.Operand.func 17), args := #[Go.Operand.tmp 79, Go.Operand.tmp 80, Go.Operand.tmp 81, Go.Operand.tmp 82, Go.Operand.tmp 83], argTypes := #[27, 22, 22, 3, 34] }, type := 34, pos := "law.go:146", after := #[{ on := 6, ground := Go.Ground.data }, { on := 7, ground := Go.Ground.data }, { on := 8, ground := Go.Ground.data }, { on := 9, ground := Go.Ground.data }, { on := 10, ground := Go.Ground.data }, { on := 5, ground := Go.Ground.chain }], guard := none }) rfl (fun K hK => ?_) AllReadyH.nil)
          · skip
            go_simp
            with_reducible refine (LB.out _ _ (HM0.out.at HN.out B14.out) (mem_lit H14.out OKB.out)).mono ?_
            rintro q_ u15 ⟨rfl, hb⟩
            have B15 := Lib.hid (vian HN.out B14.out hb)
            have P15 := Lib.hid (P14.out.below hb)
            have Q15 := Lib.hid (Q14.out.below hb)
            have E15 := Lib.hid (E14.out.below hb)
            have H15 := Lib.hid (H14.out.below hb)
            have W15 := Lib.hid (W14.out.below hb)
            have Y15 := Lib.hid (Y14.out.below hb)
            have X15 := Lib.hid (X14.out.below hb)
            clear hb B14 P14 Q14 E14 H14 W14 Y14 X14
            refine hK.out _ _ ?s36 (fun hNew => ?r36)
            case s36 => exact Q15.out.2.1
            clear hK K hHeld
            have hHeld := hNew
            clear hNew
            refine wpAnyH_ready (rs := [14]) (by kernel_rfl) (by simp) ?_
            refine (AllReadyH.cons (o := { dst := none, op := Go.Op.store 34 (Go.Operand.tmp 26) (Go.Operand.tmp 78), type := 0, pos := "law.go:146", after := #[{ on := 12, ground := Go.Ground.data }, { on := 5, ground := Go.Ground.data }, { on := 11, ground := Go.Ground.chain }, { on := 0, ground := Go.Ground.phase }, { on := 1, ground := Go.Ground.phase }, { on := 2, ground := Go.Ground.phase }, { on := 3, ground := Go.Ground.phase }, { on := 4, ground := Go.Ground.phase }, { on := 5, ground := Go.Ground.phase }, { on := 6, ground := Go.Ground.textOnly Go.Departure.lateStores }, { on := 7, ground := Go.Ground.textOnly Go.Departure.lateStores }, { on := 8, ground := Go.Ground.textOnly Go.Departure.lateStores }, { on := 9, ground := Go.Ground.textOnly Go.Departure.lateStores }, { on := 10, ground := Go.Ground.textOnly Go.Departure.lateStores }, { on := 11, ground := Go.Ground.textOnly Go.Departure.lateStoresUnsure }, { on := 12, ground := Go.Ground.phase }, { on := 13, ground := Go.Ground.phase }], guard := none }) rfl (fun K hK => ?_) AllReadyH.nil)
            · skip
              refine wp_store_g r34 X15.out (enc_size _) (enc ma) (enc_size _) (enc_one _) _ _ rfl rfl rfl ?_
              intro u16 hP hk
              try simp only [Act.put, List.setIfInBounds_toArray, List.set_cons_zero, List.set_cons_succ]
              have X16 := Lib.hid hP
              have B16 := Lib.hid (hk.below HN.out LX.out B15.out)
              have P16 := Lib.hid (hk.has NPX.out P15.out)
              have Q16 := Lib.hid (hk.has NQX.out Q15.out)
              have E16 := Lib.hid (hk.has NEX.out E15.out)
              have H16 := Lib.hid (hk.has NHX.out H15.out)
              have W16 := Lib.hid (hk.has NWX.out W15.out)
              have Y16 := Lib.hid (hk.has NYX.out Y15.out)
              clear hP hk B15 P15 Q15 E15 H15 W15 Y15 X15
              refine hK.out _ _ ?s37 (fun hNew => ?r37)
              case s37 => exact Q16.out.2.1
              clear hK K hHeld
              have hHeld := hNew
              clear hNew
              refine wpAnyH_ready (rs := [15]) (by kernel_rfl) (by simp) ?_
              refine (AllReadyH.cons (o := { dst := none, op := Go.Op.store 34 (Go.Operand.tmp 27) (Go.Operand.tmp 84), type := 0, pos := "law.go:146", after := #[{ on := 13, ground := Go.Ground.data }, { on := 11, ground := Go.Ground.data }, { on := 14, ground := Go.Ground.chain }, { on := 0, ground := Go.Ground.phase }, { on := 1, ground := Go.Ground.phase }, { on := 2, ground := Go.Ground.phase }, { on := 3, ground := Go.Ground.phase }, { on := 4, ground := Go.Ground.phase }, { on := 5, ground := Go.Ground.phase }, { on := 6, ground := Go.Ground.phase }, { on := 7, ground := Go.Ground.phase }, { on := 8, ground := Go.Ground.phase }, { on := 9, ground := Go.Ground.phase }, { on := 10, ground := Go.Ground.phase }, { on := 11, ground := Go.Ground.phase }, { on := 12, ground := Go.Ground.phase }, { on := 13, ground := Go.Ground.phase }, { on := 14, ground := Go.Ground.phase }], guard := none }) rfl (fun K hK => ?_) AllReadyH.nil)
              · skip
                refine wp_store_g r34 Y16.out (enc_size _) (enc mb) (enc_size _) (enc_one _) _ _ rfl rfl rfl ?_
                intro u17 hP hk
                try simp only [Act.put, List.setIfInBounds_toArray, List.set_cons_zero, List.set_cons_succ]
                have Y17 := Lib.hid hP
                have B17 := Lib.hid (hk.below HN.out LY.out B16.out)
                have P17 := Lib.hid (hk.has NPY.out P16.out)
                have Q17 := Lib.hid (hk.has NQY.out Q16.out)
                have E17 := Lib.hid (hk.has NEY.out E16.out)
                have H17 := Lib.hid (hk.has NHY.out H16.out)
                have W17 := Lib.hid (hk.has NWY.out W16.out)
                have X17 := Lib.hid (hk.has (Ne.symm NYX.out) X16.out)
                clear hP hk B16 P16 Q16 E16 H16 W16 Y16 X16
                refine hK.out _ _ ?s38 (fun hNew => ?r38)
                case s38 => exact Q17.out.2.1
                clear hK K hHeld
                have hHeld := hNew
                clear hNew
                refine wpAnyH_done (by kernel_rfl) ?_ _
                clear hHeld
                go_wp2
                go_meet
                exact ⟨xb, yb, rfl, rfl, ⟨B17.out, Q17.out, W17.out⟩, X17.out, Y17.out⟩
    · skip
      go_simp
      have Q_ := own1 u11 (.cells (enc zeroM) 34)
      have B12 := Lib.hid (vian HN.out B11.out Q_)
      have P12 := Lib.hid (P11.out.below Q_)
      have Q12 := Lib.hid (Q11.out.below Q_)
      have E12 := Lib.hid (E11.out.below Q_)
      have H12 := Lib.hid (H11.out.below Q_)
      have W12 := Lib.hid (W11.out.below Q_)
      have X12 := Lib.hid (Has.new u11 (enc zeroM) 34)
      have LX := Lib.hid (Nat.le_trans HN.out B11.out.size)
      have NPX := Lib.hid (Nat.ne_of_lt P11.out.1)
      have NQX := Lib.hid (Nat.ne_of_lt Q11.out.1)
      have NEX := Lib.hid (Nat.ne_of_lt E11.out.1)
      have NHX := Lib.hid (Nat.ne_of_lt H11.out.1)
      have NWX := Lib.hid (Nat.ne_of_lt W11.out.1)
      clear Q_ B11 P11 Q11 E11 H11 W11
      generalize u11.alloc (.cells (enc zeroM) 34) = u12 at B12 P12 Q12 E12 H12 W12 X12 ⊢
      generalize u11.heap.size = xb at X12 LX NPX NQX NEX NHX NWX ⊢
      refine hK.out _ _ ?s39 (fun hNew => ?r39)
      case s39 => exact Q12.out.2.1
      clear hK K hHeld
      have hHeld := hNew
      clear hNew
      refine wpAnyH_ready (rs := [5, 13]) (by kernel_rfl) (by simp) ?_
      refine (AllReadyH.cons (o := { dst := some 78, op := Go.Op.call { callee := Go.Callee.value (Go.Operand.func 17), args := #[Go.Operand.tmp 73, Go.Operand.tmp 74, Go.Operand.tmp 75, Go.Operand.tmp 76, Go.Operand.tmp 77], argTypes := #[27, 22, 22, 3, 34] }, type := 34, pos := "law.go:146", after := #[{ on := 0, ground := Go.Ground.data }, { on := 1, ground := Go.Ground.data }, { on := 2, ground := Go.Ground.data }, { on := 3, ground := Go.Ground.data }, { on := 4, ground := Go.Ground.data }], guard := none }) rfl (fun K hK => ?_) (AllReadyH.cons (o := { dst := some 27, op := Go.Op.alloc 34, type := 0, pos := "law.go:146", after := #[], guard := none }) rfl (fun K hK => ?_) AllReadyH.nil))
      · skip
        go_simp
        with_reducible refine (LA.out _ _ (HM0.out.at HN.out B12.out) (mem_lit E12.out OKA.out)).mono ?_
        rintro q_ u13 ⟨rfl, hb⟩
        have B13 := Lib.hid (vian HN.out B12.out hb)
        have P13 := Lib.hid (P12.out.below hb)
        have Q13 := Lib.hid (Q12.out.below hb)
        have E13 := Lib.hid (E12.out.below hb)
        have H13 := Lib.hid (H12.out.below hb)
        have W13 := Lib.hid (W12.out.below hb)
        have X13 := Lib.hid (X12.out.below hb)
        clear hb B12 P12 Q12 E12 H12 W12 X12
        refine hK.out _ _ ?s40 (fun hNew => ?r40)
        case s40 => exact Q13.out.2.1
        clear hK K hHeld
        have hHeld := hNew
        clear hNew
        refine wpAnyH_ready (rs := [11, 13]) (by kernel_rfl) (by simp) ?_
        refine (AllReadyH.cons (o := { dst := some 84, op := Go.Op.call { callee := Go.Callee.value (Go.Operand.func 17), args := #[Go.Operand.tmp 79, Go.Operand.tmp 80, Go.Operand.tmp 81, Go.Operand.tmp 82, Go.Operand.tmp 83], argTypes := #[27, 22, 22, 3, 34] }, type := 34, pos := "law.go:146", after := #[{ on := 6, ground := Go.Ground.data }, { on := 7, ground := Go.Ground.data }, { on := 8, ground := Go.Ground.data }, { on := 9, ground := Go.Ground.data }, { on := 10, ground := Go.Ground.data }, { on := 5, ground := Go.Ground.chain }], guard := none }) rfl (fun K hK => ?_) (AllReadyH.cons (o := { dst := some 27, op := Go.Op.alloc 34, type := 0, pos := "law.go:146", after := #[], guard := none }) rfl (fun K hK => ?_) AllReadyH.nil))
        · skip
          go_simp
          with_reducible refine (LB.out _ _ (HM0.out.at HN.out B13.out) (mem_lit H13.out OKB.out)).mono ?_
          rintro q_ u14 ⟨rfl, hb⟩
          have B14 := Lib.hid (vian HN.out B13.out hb)
          have P14 := Lib.hid (P13.out.below hb)
          have Q14 := Lib.hid (Q13.out.below hb)
          have E14 := Lib.hid (E13.out.below hb)
          have H14 := Lib.hid (H13.out.below hb)
          have W14 := Lib.hid (W13.out.below hb)
          have X14 := Lib.hid (X13.out.below hb)
          clear hb B13 P13 Q13 E13 H13 W13 X13
          refine hK.out _ _ ?s41 (fun hNew => ?r41)
          case s41 => exact Q14.out.2.1
          clear hK K hHeld
          have hHeld := hNew
          clear hNew
          refine wpAnyH_ready (rs := [13]) (by kernel_rfl) (by simp) ?_
          refine (AllReadyH.cons (o := { dst := some 27, op := Go.Op.alloc 34, type := 0, pos := "law.go:146", after := #[], guard := none }) rfl (fun K hK => ?_) AllReadyH.nil)
          · skip
            go_simp
            have Q_ := own1 u14 (.cells (enc zeroM) 34)
            have B15 := Lib.hid (vian HN.out B14.out Q_)
            have P15 := Lib.hid (P14.out.below Q_)
            have Q15 := Lib.hid (Q14.out.below Q_)
            have E15 := Lib.hid (E14.out.below Q_)
            have H15 := Lib.hid (H14.out.below Q_)
            have W15 := Lib.hid (W14.out.below Q_)
            have X15 := Lib.hid (X14.out.below Q_)
            have Y15 := Lib.hid (Has.new u14 (enc zeroM) 34)
            have LY := Lib.hid (Nat.le_trans HN.out B14.out.size)
            have NPY := Lib.hid (Nat.ne_of_lt P14.out.1)
            have NQY := Lib.hid (Nat.ne_of_lt Q14.out.1)
            have NEY := Lib.hid (Nat.ne_of_lt E14.out.1)
            have NHY := Lib.hid (Nat.ne_of_lt H14.out.1)
            have NWY := Lib.hid (Nat.ne_of_lt W14.out.1)
            have NXY := Lib.hid (Nat.ne_of_lt X14.out.1)
            clear Q_ B14 P14 Q14 E14 H14 W14 X14
            generalize u14.alloc (.cells (enc zeroM) 34) = u15 at B15 P15 Q15 E15 H15 W15 X15 Y15 ⊢
            generalize u14.heap.size = yb at Y15 LY NPY NQY NEY NHY NWY NXY ⊢
            refine hK.out _ _ ?s42 (fun hNew => ?r42)
            case s42 => exact Q15.out.2.1
            clear hK K hHeld
            have hHeld := hNew
            clear hNew
            refine wpAnyH_ready (rs := [14]) (by kernel_rfl) (by simp) ?_
            refine (AllReadyH.cons (o := { dst := none, op := Go.Op.store 34 (Go.Operand.tmp 26) (Go.Operand.tmp 78), type := 0, pos := "law.go:146", after := #[{ on := 12, ground := Go.Ground.data }, { on := 5, ground := Go.Ground.data }, { on := 11, ground := Go.Ground.chain }, { on := 0, ground := Go.Ground.phase }, { on := 1, ground := Go.Ground.phase }, { on := 2, ground := Go.Ground.phase }, { on := 3, ground := Go.Ground.phase }, { on := 4, ground := Go.Ground.phase }, { on := 5, ground := Go.Ground.phase }, { on := 6, ground := Go.Ground.textOnly Go.Departure.lateStores }, { on := 7, ground := Go.Ground.textOnly Go.Departure.lateStores }, { on := 8, ground := Go.Ground.textOnly Go.Departure.lateStores }, { on := 9, ground := Go.Ground.textOnly Go.Departure.lateStores }, { on := 10, ground := Go.Ground.textOnly Go.Departure.lateStores }, { on := 11, ground := Go.Ground.textOnly Go.Departure.lateStoresUnsure }, { on := 12, ground := Go.Ground.phase }, { on := 13, ground := Go.Ground.phase }], guard := none }) rfl (fun K hK => ?_) AllReadyH.nil)
            · skip
              refine wp_store_g r34 X15.out (enc_size _) (enc ma) (enc_size _) (enc_one _) _ _ rfl rfl rfl ?_
              intro u16 hP hk
              try simp only [Act.put, List.setIfInBounds_toArray, List.set_cons_zero, List.set_cons_succ]
              have X16 := Lib.hid hP
              have B16 := Lib.hid (hk.below HN.out LX.out B15.out)
              have P16 := Lib.hid (hk.has NPX.out P15.out)
              have Q16 := Lib.hid (hk.has NQX.out Q15.out)
              have E16 := Lib.hid (hk.has NEX.out E15.out)
              have H16 := Lib.hid (hk.has NHX.out H15.out)
              have W16 := Lib.hid (hk.has NWX.out W15.out)
              have Y16 := Lib.hid (hk.has (Ne.symm NXY.out) Y15.out)
              clear hP hk B15 P15 Q15 E15 H15 W15 X15 Y15
              refine hK.out _ _ ?s43 (fun hNew => ?r43)
              case s43 => exact Q16.out.2.1
              clear hK K hHeld
              have hHeld := hNew
              clear hNew
              refine wpAnyH_ready (rs := [15]) (by kernel_rfl) (by simp) ?_
              refine (AllReadyH.cons (o := { dst := none, op := Go.Op.store 34 (Go.Operand.tmp 27) (Go.Operand.tmp 84), type := 0, pos := "law.go:146", after := #[{ on := 13, ground := Go.Ground.data }, { on := 11, ground := Go.Ground.data }, { on := 14, ground := Go.Ground.chain }, { on := 0, ground := Go.Ground.phase }, { on := 1, ground := Go.Ground.phase }, { on := 2, ground := Go.Ground.phase }, { on := 3, ground := Go.Ground.phase }, { on := 4, ground := Go.Ground.phase }, { on := 5, ground := Go.Ground.phase }, { on := 6, ground := Go.Ground.phase }, { on := 7, ground := Go.Ground.phase }, { on := 8, ground := Go.Ground.phase }, { on := 9, ground := Go.Ground.phase }, { on := 10, ground := Go.Ground.phase }, { on := 11, ground := Go.Ground.phase }, { on := 12, ground := Go.Ground.phase }, { on := 13, ground := Go.Ground.phase }, { on := 14, ground := Go.Ground.phase }], guard := none }) rfl (fun K hK => ?_) AllReadyH.nil)
              · skip
                refine wp_store_g r34 Y16.out (enc_size _) (enc mb) (enc_size _) (enc_one _) _ _ rfl rfl rfl ?_
                intro u17 hP hk
                try simp only [Act.put, List.setIfInBounds_toArray, List.set_cons_zero, List.set_cons_succ]
                have Y17 := Lib.hid hP
                have B17 := Lib.hid (hk.below HN.out LY.out B16.out)
                have P17 := Lib.hid (hk.has NPY.out P16.out)
                have Q17 := Lib.hid (hk.has NQY.out Q16.out)
                have E17 := Lib.hid (hk.has NEY.out E16.out)
                have H17 := Lib.hid (hk.has NHY.out H16.out)
                have W17 := Lib.hid (hk.has NWY.out W16.out)
                have X17 := Lib.hid (hk.has NXY.out X16.out)
                clear hP hk B16 P16 Q16 E16 H16 W16 X16 Y16
                refine hK.out _ _ ?s44 (fun hNew => ?r44)
                case s44 => exact Q17.out.2.1
                clear hK K hHeld
                have hHeld := hNew
                clear hNew
                refine wpAnyH_done (by kernel_rfl) ?_ _
                clear hHeld
                go_wp2
                go_meet
                exact ⟨xb, yb, rfl, rfl, ⟨B17.out, Q17.out, W17.out⟩, X17.out, Y17.out⟩
        · skip
          go_simp
          have Q_ := own1 u13 (.cells (enc zeroM) 34)
          have B14 := Lib.hid (vian HN.out B13.out Q_)
          have P14 := Lib.hid (P13.out.below Q_)
          have Q14 := Lib.hid (Q13.out.below Q_)
          have E14 := Lib.hid (E13.out.below Q_)
          have H14 := Lib.hid (H13.out.below Q_)
          have W14 := Lib.hid (W13.out.below Q_)
          have X14 := Lib.hid (X13.out.below Q_)
          have Y14 := Lib.hid (Has.new u13 (enc zeroM) 34)
          have LY := Lib.hid (Nat.le_trans HN.out B13.out.size)
          have NPY := Lib.hid (Nat.ne_of_lt P13.out.1)
          have NQY := Lib.hid (Nat.ne_of_lt Q13.out.1)
          have NEY := Lib.hid (Nat.ne_of_lt E13.out.1)
          have NHY := Lib.hid (Nat.ne_of_lt H13.out.1)
          have NWY := Lib.hid (Nat.ne_of_lt W13.out.1)
          have NXY := Lib.hid (Nat.ne_of_lt X13.out.1)
          clear Q_ B13 P13 Q13 E13 H13 W13 X13
          generalize u13.alloc (.cells (enc zeroM) 34) = u14 at B14 P14 Q14 E14 H14 W14 X14 Y14 ⊢
          generalize u13.heap.size = yb at Y14 LY NPY NQY NEY NHY NWY NXY ⊢
          refine hK.out _ _ ?s45 (fun hNew => ?r45)
          case s45 => exact Q14.out.2.1
          clear hK K hHeld
          have hHeld := hNew
          clear hNew
          refine wpAnyH_ready (rs := [11]) (by kernel_rfl) (by simp) ?_
          refine (AllReadyH.cons (o := { dst := some 84, op := Go.Op.call { callee := Go.Callee.value (Go.Operand.func 17), args := #[Go.Operand.tmp 79, Go.Operand.tmp 80, Go.Operand.tmp 81, Go.Operand.tmp 82, Go.Operand.tmp 83], argTypes := #[27, 22, 22, 3, 34] }, type := 34, pos := "law.go:146", after := #[{ on := 6, ground := Go.Ground.data }, { on := 7, ground := Go.Ground.data }, { on := 8, ground := Go.Ground.data }, { on := 9, ground := Go.Ground.data }, { on := 10, ground := Go.Ground.data }, { on := 5, ground := Go.Ground.chain }], guard := none }) rfl (fun K hK => ?_) AllReadyH.nil)
          · skip
            go_simp
            with_reducible refine (LB.out _ _ (HM0.out.at HN.out B14.out) (mem_lit H14.out OKB.out)).mono ?_
            rintro q_ u15 ⟨rfl, hb⟩
            have B15 := Lib.hid (vian HN.out B14.out hb)
            have P15 := Lib.hid (P14.out.below hb)
            have Q15 := Lib.hid (Q14.out.below hb)
            have E15 := Lib.hid (E14.out.below hb)
            have H15 := Lib.hid (H14.out.below hb)
            have W15 := Lib.hid (W14.out.below hb)
            have X15 := Lib.hid (X14.out.below hb)
            have Y15 := Lib.hid (Y14.out.below hb)
            clear hb B14 P14 Q14 E14 H14 W14 X14 Y14
            refine hK.out _ _ ?s46 (fun hNew => ?r46)
            case s46 => exact Q15.out.2.1
            clear hK K hHeld
            have hHeld := hNew
            clear hNew
            refine wpAnyH_ready (rs := [14]) (by kernel_rfl) (by simp) ?_
            refine (AllReadyH.cons (o := { dst := none, op := Go.Op.store 34 (Go.Operand.tmp 26) (Go.Operand.tmp 78), type := 0, pos := "law.go:146", after := #[{ on := 12, ground := Go.Ground.data }, { on := 5, ground := Go.Ground.data }, { on := 11, ground := Go.Ground.chain }, { on := 0, ground := Go.Ground.phase }, { on := 1, ground := Go.Ground.phase }, { on := 2, ground := Go.Ground.phase }, { on := 3, ground := Go.Ground.phase }, { on := 4, ground := Go.Ground.phase }, { on := 5, ground := Go.Ground.phase }, { on := 6, ground := Go.Ground.textOnly Go.Departure.lateStores }, { on := 7, ground := Go.Ground.textOnly Go.Departure.lateStores }, { on := 8, ground := Go.Ground.textOnly Go.Departure.lateStores }, { on := 9, ground := Go.Ground.textOnly Go.Departure.lateStores }, { on := 10, ground := Go.Ground.textOnly Go.Departure.lateStores }, { on := 11, ground := Go.Ground.textOnly Go.Departure.lateStoresUnsure }, { on := 12, ground := Go.Ground.phase }, { on := 13, ground := Go.Ground.phase }], guard := none }) rfl (fun K hK => ?_) AllReadyH.nil)
            · skip
              refine wp_store_g r34 X15.out (enc_size _) (enc ma) (enc_size _) (enc_one _) _ _ rfl rfl rfl ?_
              intro u16 hP hk
              try simp only [Act.put, List.setIfInBounds_toArray, List.set_cons_zero, List.set_cons_succ]
              have X16 := Lib.hid hP
              have B16 := Lib.hid (hk.below HN.out LX.out B15.out)
              have P16 := Lib.hid (hk.has NPX.out P15.out)
              have Q16 := Lib.hid (hk.has NQX.out Q15.out)
              have E16 := Lib.hid (hk.has NEX.out E15.out)
              have H16 := Lib.hid (hk.has NHX.out H15.out)
              have W16 := Lib.hid (hk.has NWX.out W15.out)
              have Y16 := Lib.hid (hk.has (Ne.symm NXY.out) Y15.out)
              clear hP hk B15 P15 Q15 E15 H15 W15 X15 Y15
              refine hK.out _ _ ?s47 (fun hNew => ?r47)
              case s47 => exact Q16.out.2.1
              clear hK K hHeld
              have hHeld := hNew
              clear hNew
              refine wpAnyH_ready (rs := [15]) (by kernel_rfl) (by simp) ?_
              refine (AllReadyH.cons (o := { dst := none, op := Go.Op.store 34 (Go.Operand.tmp 27) (Go.Operand.tmp 84), type := 0, pos := "law.go:146", after := #[{ on := 13, ground := Go.Ground.data }, { on := 11, ground := Go.Ground.data }, { on := 14, ground := Go.Ground.chain }, { on := 0, ground := Go.Ground.phase }, { on := 1, ground := Go.Ground.phase }, { on := 2, ground := Go.Ground.phase }, { on := 3, ground := Go.Ground.phase }, { on := 4, ground := Go.Ground.phase }, { on := 5, ground := Go.Ground.phase }, { on := 6, ground := Go.Ground.phase }, { on := 7, ground := Go.Ground.phase }, { on := 8, ground := Go.Ground.phase }, { on := 9, ground := Go.Ground.phase }, { on := 10, ground := Go.Ground.phase }, { on := 11, ground := Go.Ground.phase }, { on := 12, ground := Go.Ground.phase }, { on := 13, ground := Go.Ground.phase }, { on := 14, ground := Go.Ground.phase }], guard := none }) rfl (fun K hK => ?_) AllReadyH.nil)
              · skip
                refine wp_store_g r34 Y16.out (enc_size _) (enc mb) (enc_size _) (enc_one _) _ _ rfl rfl rfl ?_
                intro u17 hP hk
                try simp only [Act.put, List.setIfInBounds_toArray, List.set_cons_zero, List.set_cons_succ]
                have Y17 := Lib.hid hP
                have B17 := Lib.hid (hk.below HN.out LY.out B16.out)
                have P17 := Lib.hid (hk.has NPY.out P16.out)
                have Q17 := Lib.hid (hk.has NQY.out Q16.out)
                have E17 := Lib.hid (hk.has NEY.out E16.out)
                have H17 := Lib.hid (hk.has NHY.out H16.out)
                have W17 := Lib.hid (hk.has NWY.out W16.out)
                have X17 := Lib.hid (hk.has NXY.out X16.out)
                clear hP hk B16 P16 Q16 E16 H16 W16 X16 Y16
                refine hK.out _ _ ?s48 (fun hNew => ?r48)
                case s48 => exact Q17.out.2.1
                clear hK K hHeld
                have hHeld := hNew
                clear hNew
                refine wpAnyH_done (by kernel_rfl) ?_ _
                clear hHeld
                go_wp2
                go_meet
                exact ⟨xb, yb, rfl, rfl, ⟨B17.out, Q17.out, W17.out⟩, X17.out, Y17.out⟩
      · skip
        go_simp
        have Q_ := own1 u12 (.cells (enc zeroM) 34)
        have B13 := Lib.hid (vian HN.out B12.out Q_)
        have P13 := Lib.hid (P12.out.below Q_)
        have Q13 := Lib.hid (Q12.out.below Q_)
        have E13 := Lib.hid (E12.out.below Q_)
        have H13 := Lib.hid (H12.out.below Q_)
        have W13 := Lib.hid (W12.out.below Q_)
        have X13 := Lib.hid (X12.out.below Q_)
        have Y13 := Lib.hid (Has.new u12 (enc zeroM) 34)
        have LY := Lib.hid (Nat.le_trans HN.out B12.out.size)
        have NPY := Lib.hid (Nat.ne_of_lt P12.out.1)
        have NQY := Lib.hid (Nat.ne_of_lt Q12.out.1)
        have NEY := Lib.hid (Nat.ne_of_lt E12.out.1)
        have NHY := Lib.hid (Nat.ne_of_lt H12.out.1)
        have NWY := Lib.hid (Nat.ne_of_lt W12.out.1)
        have NXY := Lib.hid (Nat.ne_of_lt X12.out.1)
        clear Q_ B12 P12 Q12 E12 H12 W12 X12
        generalize u12.alloc (.cells (enc zeroM) 34) = u13 at B13 P13 Q13 E13 H13 W13 X13 Y13 ⊢
        generalize u12.heap.size = yb at Y13 LY NPY NQY NEY NHY NWY NXY ⊢
        refine hK.out _ _ ?s49 (fun hNew => ?r49)
        case s49 => exact Q13.out.2.1
        clear hK K hHeld
        have hHeld := hNew
        clear hNew
        refine wpAnyH_ready (rs := [5]) (by kernel_rfl) (by simp) ?_
        refine (AllReadyH.cons (o := { dst := some 78, op := Go.Op.call { callee := Go.Callee.value (Go.Operand.func 17), args := #[Go.Operand.tmp 73, Go.Operand.tmp 74, Go.Operand.tmp 75, Go.Operand.tmp 76, Go.Operand.tmp 77], argTypes := #[27, 22, 22, 3, 34] }, type := 34, pos := "law.go:146", after := #[{ on := 0, ground := Go.Ground.data }, { on := 1, ground := Go.Ground.data }, { on := 2, ground := Go.Ground.data }, { on := 3, ground := Go.Ground.data }, { on := 4, ground := Go.Ground.data }], guard := none }) rfl (fun K hK => ?_) AllReadyH.nil)
        · skip
          go_simp
          with_reducible refine (LA.out _ _ (HM0.out.at HN.out B13.out) (mem_lit E13.out OKA.out)).mono ?_
          rintro q_ u14 ⟨rfl, hb⟩
          have B14 := Lib.hid (vian HN.out B13.out hb)
          have P14 := Lib.hid (P13.out.below hb)
          have Q14 := Lib.hid (Q13.out.below hb)
          have E14 := Lib.hid (E13.out.below hb)
          have H14 := Lib.hid (H13.out.below hb)
          have W14 := Lib.hid (W13.out.below hb)
          have X14 := Lib.hid (X13.out.below hb)
          have Y14 := Lib.hid (Y13.out.below hb)
          clear hb B13 P13 Q13 E13 H13 W13 X13 Y13
          refine hK.out _ _ ?s50 (fun hNew => ?r50)
          case s50 => exact Q14.out.2.1
          clear hK K hHeld
          have hHeld := hNew
          clear hNew
          refine wpAnyH_ready (rs := [11]) (by kernel_rfl) (by simp) ?_
          refine (AllReadyH.cons (o := { dst := some 84, op := Go.Op.call { callee := Go.Callee.value (Go.Operand.func 17), args := #[Go.Operand.tmp 79, Go.Operand.tmp 80, Go.Operand.tmp 81, Go.Operand.tmp 82, Go.Operand.tmp 83], argTypes := #[27, 22, 22, 3, 34] }, type := 34, pos := "law.go:146", after := #[{ on := 6, ground := Go.Ground.data }, { on := 7, ground := Go.Ground.data }, { on := 8, ground := Go.Ground.data }, { on := 9, ground := Go.Ground.data }, { on := 10, ground := Go.Ground.data }, { on := 5, ground := Go.Ground.chain }], guard := none }) rfl (fun K hK => ?_) AllReadyH.nil)
          · skip
            go_simp
            with_reducible refine (LB.out _ _ (HM0.out.at HN.out B14.out) (mem_lit H14.out OKB.out)).mono ?_
            rintro q_ u15 ⟨rfl, hb⟩
            have B15 := Lib.hid (vian HN.out B14.out hb)
            have P15 := Lib.hid (P14.out.below hb)
            have Q15 := Lib.hid (Q14.out.below hb)
            have E15 := Lib.hid (E14.out.below hb)
            have H15 := Lib.hid (H14.out.below hb)
            have W15 := Lib.hid (W14.out.below hb)
            have X15 := Lib.hid (X14.out.below hb)
            have Y15 := Lib.hid (Y14.out.below hb)
            clear hb B14 P14 Q14 E14 H14 W14 X14 Y14
            refine hK.out _ _ ?s51 (fun hNew => ?r51)
            case s51 => exact Q15.out.2.1
            clear hK K hHeld
            have hHeld := hNew
            clear hNew
            refine wpAnyH_ready (rs := [14]) (by kernel_rfl) (by simp) ?_
            refine (AllReadyH.cons (o := { dst := none, op := Go.Op.store 34 (Go.Operand.tmp 26) (Go.Operand.tmp 78), type := 0, pos := "law.go:146", after := #[{ on := 12, ground := Go.Ground.data }, { on := 5, ground := Go.Ground.data }, { on := 11, ground := Go.Ground.chain }, { on := 0, ground := Go.Ground.phase }, { on := 1, ground := Go.Ground.phase }, { on := 2, ground := Go.Ground.phase }, { on := 3, ground := Go.Ground.phase }, { on := 4, ground := Go.Ground.phase }, { on := 5, ground := Go.Ground.phase }, { on := 6, ground := Go.Ground.textOnly Go.Departure.lateStores }, { on := 7, ground := Go.Ground.textOnly Go.Departure.lateStores }, { on := 8, ground := Go.Ground.textOnly Go.Departure.lateStores }, { on := 9, ground := Go.Ground.textOnly Go.Departure.lateStores }, { on := 10, ground := Go.Ground.textOnly Go.Departure.lateStores }, { on := 11, ground := Go.Ground.textOnly Go.Departure.lateStoresUnsure }, { on := 12, ground := Go.Ground.phase }, { on := 13, ground := Go.Ground.phase }], guard := none }) rfl (fun K hK => ?_) AllReadyH.nil)
            · skip
              refine wp_store_g r34 X15.out (enc_size _) (enc ma) (enc_size _) (enc_one _) _ _ rfl rfl rfl ?_
              intro u16 hP hk
              try simp only [Act.put, List.setIfInBounds_toArray, List.set_cons_zero, List.set_cons_succ]
              have X16 := Lib.hid hP
              have B16 := Lib.hid (hk.below HN.out LX.out B15.out)
              have P16 := Lib.hid (hk.has NPX.out P15.out)
              have Q16 := Lib.hid (hk.has NQX.out Q15.out)
              have E16 := Lib.hid (hk.has NEX.out E15.out)
              have H16 := Lib.hid (hk.has NHX.out H15.out)
              have W16 := Lib.hid (hk.has NWX.out W15.out)
              have Y16 := Lib.hid (hk.has (Ne.symm NXY.out) Y15.out)
              clear hP hk B15 P15 Q15 E15 H15 W15 X15 Y15
              refine hK.out _ _ ?s52 (fun hNew => ?r52)
              case s52 => exact Q16.out.2.1
              clear hK K hHeld
              have hHeld := hNew
              clear hNew
              refine wpAnyH_ready (rs := [15]) (by kernel_rfl) (by simp) ?_
              refine (AllReadyH.cons (o := { dst := none, op := Go.Op.store 34 (Go.Operand.tmp 27) (Go.Operand.tmp 84), type := 0, pos := "law.go:146", after := #[{ on := 13, ground := Go.Ground.data }, { on := 11, ground := Go.Ground.data }, { on := 14, ground := Go.Ground.chain }, { on := 0, ground := Go.Ground.phase }, { on := 1, ground := Go.Ground.phase }, { on := 2, ground := Go.Ground.phase }, { on := 3, ground := Go.Ground.phase }, { on := 4, ground := Go.Ground.phase }, { on := 5, ground := Go.Ground.phase }, { on := 6, ground := Go.Ground.phase }, { on := 7, ground := Go.Ground.phase }, { on := 8, ground := Go.Ground.phase }, { on := 9, ground := Go.Ground.phase }, { on := 10, ground := Go.Ground.phase }, { on := 11, ground := Go.Ground.phase }, { on := 12, ground := Go.Ground.phase }, { on := 13, ground := Go.Ground.phase }, { on := 14, ground := Go.Ground.phase }], guard := none }) rfl (fun K hK => ?_) AllReadyH.nil)
              · skip
                refine wp_store_g r34 Y16.out (enc_size _) (enc mb) (enc_size _) (enc_one _) _ _ rfl rfl rfl ?_
                intro u17 hP hk
                try simp only [Act.put, List.setIfInBounds_toArray, List.set_cons_zero, List.set_cons_succ]
                have Y17 := Lib.hid hP
                have B17 := Lib.hid (hk.below HN.out LY.out B16.out)
                have P17 := Lib.hid (hk.has NPY.out P16.out)
                have Q17 := Lib.hid (hk.has NQY.out Q16.out)
                have E17 := Lib.hid (hk.has NEY.out E16.out)
                have H17 := Lib.hid (hk.has NHY.out H16.out)
                have W17 := Lib.hid (hk.has NWY.out W16.out)
                have X17 := Lib.hid (hk.has NXY.out X16.out)
                clear hP hk B16 P16 Q16 E16 H16 W16 X16 Y16
                refine hK.out _ _ ?s53 (fun hNew => ?r53)
                case s53 => exact Q17.out.2.1
                clear hK K hHeld
                have hHeld := hNew
                clear hNew
                refine wpAnyH_done (by kernel_rfl) ?_ _
                clear hHeld
                go_wp2
                go_meet
                exact ⟨xb, yb, rfl, rfl, ⟨B17.out, Q17.out, W17.out⟩, X17.out, Y17.out⟩
    · skip
      go_simp
      have Q_ := own1 u11 (.cells (enc zeroM) 34)
      have B12 := Lib.hid (vian HN.out B11.out Q_)
      have P12 := Lib.hid (P11.out.below Q_)
      have Q12 := Lib.hid (Q11.out.below Q_)
      have E12 := Lib.hid (E11.out.below Q_)
      have H12 := Lib.hid (H11.out.below Q_)
      have W12 := Lib.hid (W11.out.below Q_)
      have Y12 := Lib.hid (Has.new u11 (enc zeroM) 34)
      have LY := Lib.hid (Nat.le_trans HN.out B11.out.size)
      have NPY := Lib.hid (Nat.ne_of_lt P11.out.1)
      have NQY := Lib.hid (Nat.ne_of_lt Q11.out.1)
      have NEY := Lib.hid (Nat.ne_of_lt E11.out.1)
      have NHY := Lib.hid (Nat.ne_of_lt H11.out.1)
      have NWY := Lib.hid (Nat.ne_of_lt W11.out.1)
      clear Q_ B11 P11 Q11 E11 H11 W11
      generalize u11.alloc (.cells (enc zeroM) 34) = u12 at B12 P12 Q12 E12 H12 W12 Y12 ⊢
      generalize u11.heap.size = yb at Y12 LY NPY NQY NEY NHY NWY ⊢
      refine hK.out _ _ ?s54 (fun hNew => ?r54)
      case s54 => exact Q12.out.2.1
      clear hK K hHeld
      have hHeld := hNew
      clear hNew
      refine wpAnyH_ready (rs := [5, 12]) (by kernel_rfl) (by simp) ?_
      refine (AllReadyH.cons (o := { dst := some 78, op := Go.Op.call { callee := Go.Callee.value (Go.Operand.func 17), args := #[Go.Operand.tmp 73, Go.Operand.tmp 74, Go.Operand.tmp 75, Go.Operand.tmp 76, Go.Operand.tmp 77], argTypes := #[27, 22, 22, 3, 34] }, type := 34, pos := "law.go:146", after := #[{ on := 0, ground := Go.Ground.data }, { on := 1, ground := Go.Ground.data }, { on := 2, ground := Go.Ground.data }, { on := 3, ground := Go.Ground.data }, { on := 4, ground := Go.Ground.data }], guard := none }) rfl (fun K hK => ?_) (AllReadyH.cons (o := { dst := some 26, op := Go.Op.alloc 34, type := 0, pos := "law.go:146", after := #[], guard := none }) rfl (fun K hK => ?_) AllReadyH.nil))
      · skip
        go_simp
        with_reducible refine (LA.out _ _ (HM0.out.at HN.out B12.out) (mem_lit E12.out OKA.out)).mono ?_
        rintro q_ u13 ⟨rfl, hb⟩
        have B13 := Lib.hid (vian HN.out B12.out hb)
        have P13 := Lib.hid (P12.out.below hb)
        have Q13 := Lib.hid (Q12.out.below hb)
        have E13 := Lib.hid (E12.out.below hb)
        have H13 := Lib.hid (H12.out.below hb)
        have W13 := Lib.hid (W12.out.below hb)
        have Y13 := Lib.hid (Y12.out.below hb)
        clear hb B12 P12 Q12 E12 H12 W12 Y12
        refine hK.out _ _ ?s55 (fun hNew => ?r55)
        case s55 => exact Q13.out.2.1
        clear hK K hHeld
        have hHeld := hNew
        clear hNew
        refine wpAnyH_ready (rs := [11, 12]) (by kernel_rfl) (by simp) ?_
        refine (AllReadyH.cons (o := { dst := some 84, op := Go.Op.call { callee := Go.Callee.value (Go.Operand.func 17), args := #[Go.Operand.tmp 79, Go.Operand.tmp 80, Go.Operand.tmp 81, Go.Operand.tmp 82, Go.Operand.tmp 83], argTypes := #[27, 22, 22, 3, 34] }, type := 34, pos := "law.go:146", after := #[{ on := 6, ground := Go.Ground.data }, { on := 7, ground := Go.Ground.data }, { on := 8, ground := Go.Ground.data }, { on := 9, ground := Go.Ground.data }, { on := 10, ground := Go.Ground.data }, { on := 5, ground := Go.Ground.chain }], guard := none }) rfl (fun K hK => ?_) (AllReadyH.cons (o := { dst := some 26, op := Go.Op.alloc 34, type := 0, pos := "law.go:146", after := #[], guard := none }) rfl (fun K hK => ?_) AllReadyH.nil))
        · skip
          go_simp
          with_reducible refine (LB.out _ _ (HM0.out.at HN.out B13.out) (mem_lit H13.out OKB.out)).mono ?_
          rintro q_ u14 ⟨rfl, hb⟩
          have B14 := Lib.hid (vian HN.out B13.out hb)
          have P14 := Lib.hid (P13.out.below hb)
          have Q14 := Lib.hid (Q13.out.below hb)
          have E14 := Lib.hid (E13.out.below hb)
          have H14 := Lib.hid (H13.out.below hb)
          have W14 := Lib.hid (W13.out.below hb)
          have Y14 := Lib.hid (Y13.out.below hb)
          clear hb B13 P13 Q13 E13 H13 W13 Y13
          refine hK.out _ _ ?s56 (fun hNew => ?r56)
          case s56 => exact Q14.out.2.1
          clear hK K hHeld
          have hHeld := hNew
          clear hNew
          refine wpAnyH_ready (rs := [12]) (by kernel_rfl) (by simp) ?_
          refine (AllReadyH.cons (o := { dst := some 26, op := Go.Op.alloc 34, type := 0, pos := "law.go:146", after := #[], guard := none }) rfl (fun K hK => ?_) AllReadyH.nil)
          · skip
            go_simp
            have Q_ := own1 u14 (.cells (enc zeroM) 34)
            have B15 := Lib.hid (vian HN.out B14.out Q_)
            have P15 := Lib.hid (P14.out.below Q_)
            have Q15 := Lib.hid (Q14.out.below Q_)
            have E15 := Lib.hid (E14.out.below Q_)
            have H15 := Lib.hid (H14.out.below Q_)
            have W15 := Lib.hid (W14.out.below Q_)
            have Y15 := Lib.hid (Y14.out.below Q_)
            have X15 := Lib.hid (Has.new u14 (enc zeroM) 34)
            have LX := Lib.hid (Nat.le_trans HN.out B14.out.size)
            have NPX := Lib.hid (Nat.ne_of_lt P14.out.1)
            have NQX := Lib.hid (Nat.ne_of_lt Q14.out.1)
            have NEX := Lib.hid (Nat.ne_of_lt E14.out.1)
            have NHX := Lib.hid (Nat.ne_of_lt H14.out.1)
            have NWX := Lib.hid (Nat.ne_of_lt W14.out.1)
            have NYX := Lib.hid (Nat.ne_of_lt Y14.out.1)
            clear Q_ B14 P14 Q14 E14 H14 W14 Y14
            generalize u14.alloc (.cells (enc zeroM) 34) = u15 at B15 P15 Q15 E15 H15 W15 Y15 X15 ⊢
            generalize u14.heap.size = xb at X15 LX NPX NQX NEX NHX NWX NYX ⊢
            refine hK.out _ _ ?s57 (fun hNew => ?r57)
            case s57 => exact Q15.out.2.1
            clear hK K hHeld
            have hHeld := hNew
            clear hNew
            refine wpAnyH_ready (rs := [14]) (by kernel_rfl) (by simp) ?_
            refine (AllReadyH.cons (o := { dst := none, op := Go.Op.store 34 (Go.Operand.tmp 26) (Go.Operand.tmp 78), type := 0, pos := "law.go:146", after := #[{ on := 12, ground := Go.Ground.data }, { on := 5, ground := Go.Ground.data }, { on := 11, ground := Go.Ground.chain }, { on := 0, ground := Go.Ground.phase }, { on := 1, ground := Go.Ground.phase }, { on := 2, ground := Go.Ground.phase }, { on := 3, ground := Go.Ground.phase }, { on := 4, ground := Go.Ground.phase }, { on := 5, ground := Go.Ground.phase }, { on := 6, ground := Go.Ground.textOnly Go.Departure.lateStores }, { on := 7, ground := Go.Ground.textOnly Go.Departure.lateStores }, { on := 8, ground := Go.Ground.textOnly Go.Departure.lateStores }, { on := 9, ground := Go.Ground.textOnly Go.Departure.lateStores }, { on := 10, ground := Go.Ground.textOnly Go.Departure.lateStores }, { on := 11, ground := Go.Ground.textOnly Go.Departure.lateStoresUnsure }, { on := 12, ground := Go.Ground.phase }, { on := 13, ground := Go.Ground.phase }], guard := none }) rfl (fun K hK => ?_) AllReadyH.nil)
            · skip
              refine wp_store_g r34 X15.out (enc_size _) (enc ma) (enc_size _) (enc_one _) _ _ rfl rfl rfl ?_
              intro u16 hP hk
              try simp only [Act.put, List.setIfInBounds_toArray, List.set_cons_zero, List.set_cons_succ]
              have X16 := Lib.hid hP
              have B16 := Lib.hid (hk.below HN.out LX.out B15.out)
              have P16 := Lib.hid (hk.has NPX.out P15.out)
              have Q16 := Lib.hid (hk.has NQX.out Q15.out)
              have E16 := Lib.hid (hk.has NEX.out E15.out)
              have H16 := Lib.hid (hk.has NHX.out H15.out)
              have W16 := Lib.hid (hk.has NWX.out W15.out)
              have Y16 := Lib.hid (hk.has NYX.out Y15.out)
              clear hP hk B15 P15 Q15 E15 H15 W15 Y15 X15
              refine hK.out _ _ ?s58 (fun hNew => ?r58)
              case s58 => exact Q16.out.2.1
              clear hK K hHeld
              have hHeld := hNew
              clear hNew
              refine wpAnyH_ready (rs := [15]) (by kernel_rfl) (by simp) ?_
              refine (AllReadyH.cons (o := { dst := none, op := Go.Op.store 34 (Go.Operand.tmp 27) (Go.Operand.tmp 84), type := 0, pos := "law.go:146", after := #[{ on := 13, ground := Go.Ground.data }, { on := 11, ground := Go.Ground.data }, { on := 14, ground := Go.Ground.chain }, { on := 0, ground := Go.Ground.phase }, { on := 1, ground := Go.Ground.phase }, { on := 2, ground := Go.Ground.phase }, { on := 3, ground := Go.Ground.phase }, { on := 4, ground := Go.Ground.phase }, { on := 5, ground := Go.Ground.phase }, { on := 6, ground := Go.Ground.phase }, { on := 7, ground := Go.Ground.phase }, { on := 8, ground := Go.Ground.phase }, { on := 9, ground := Go.Ground.phase }, { on := 10, ground := Go.Ground.phase }, { on := 11, ground := Go.Ground.phase }, { on := 12, ground := Go.Ground.phase }, { on := 13, ground := Go.Ground.phase }, { on := 14, ground := Go.Ground.phase }], guard := none }) rfl (fun K hK => ?_) AllReadyH.nil)
              · skip
                refine wp_store_g r34 Y16.out (enc_size _) (enc mb) (enc_size _) (enc_one _) _ _ rfl rfl rfl ?_
                intro u17 hP hk
                try simp only [Act.put, List.setIfInBounds_toArray, List.set_cons_zero, List.set_cons_succ]
                have Y17 := Lib.hid hP
                have B17 := Lib.hid (hk.below HN.out LY.out B16.out)
                have P17 := Lib.hid (hk.has NPY.out P16.out)
                have Q17 := Lib.hid (hk.has NQY.out Q16.out)
                have E17 := Lib.hid (hk.has NEY.out E16.out)
                have H17 := Lib.hid (hk.has NHY.out H16.out)
                have W17 := Lib.hid (hk.has NWY.out W16.out)
                have X17 := Lib.hid (hk.has (Ne.symm NYX.out) X16.out)
                clear hP hk B16 P16 Q16 E16 H16 W16 Y16 X16
                refine hK.out _ _ ?s59 (fun hNew => ?r59)
                case s59 => exact Q17.out.2.1
                clear hK K hHeld
                have hHeld := hNew
                clear hNew
                refine wpAnyH_done (by kernel_rfl) ?_ _
                clear hHeld
                go_wp2
                go_meet
                exact ⟨xb, yb, rfl, rfl, ⟨B17.out, Q17.out, W17.out⟩, X17.out, Y17.out⟩
        · skip
          go_simp
          have Q_ := own1 u13 (.cells (enc zeroM) 34)
          have B14 := Lib.hid (vian HN.out B13.out Q_)
          have P14 := Lib.hid (P13.out.below Q_)
          have Q14 := Lib.hid (Q13.out.below Q_)
          have E14 := Lib.hid (E13.out.below Q_)
          have H14 := Lib.hid (H13.out.below Q_)
          have W14 := Lib.hid (W13.out.below Q_)
          have Y14 := Lib.hid (Y13.out.below Q_)
          have X14 := Lib.hid (Has.new u13 (enc zeroM) 34)
          have LX := Lib.hid (Nat.le_trans HN.out B13.out.size)
          have NPX := Lib.hid (Nat.ne_of_lt P13.out.1)
          have NQX := Lib.hid (Nat.ne_of_lt Q13.out.1)
          have NEX := Lib.hid (Nat.ne_of_lt E13.out.1)
          have NHX := Lib.hid (Nat.ne_of_lt H13.out.1)
          have NWX := Lib.hid (Nat.ne_of_lt W13.out.1)
          have NYX := Lib.hid (Nat.ne_of_lt Y13.out.1)
          clear Q_ B13 P13 Q13 E13 H13 W13 Y13
          generalize u13.alloc (.cells (enc zeroM) 34) = u14 at B14 P14 Q14 E14 H14 W14 Y14 X14 ⊢
          generalize u13.heap.size = xb at X14 LX NPX NQX NEX NHX NWX NYX ⊢
          refine hK.out _ _ ?s60 (fun hNew => ?r60)
          case s60 => exact Q14.out.2.1
          clear hK K hHeld
          have hHeld := hNew
          clear hNew
          refine wpAnyH_ready (rs := [11]) (by kernel_rfl) (by simp) ?_
          refine (AllReadyH.cons (o := { dst := some 84, op := Go.Op.call { callee := Go.Callee.value (Go.Operand.func 17), args := #[Go.Operand.tmp 79, Go.Operand.tmp 80, Go.Operand.tmp 81, Go.Operand.tmp 82, Go.Operand.tmp 83], argTypes := #[27, 22, 22, 3, 34] }, type := 34, pos := "law.go:146", after := #[{ on := 6, ground := Go.Ground.data }, { on := 7, ground := Go.Ground.data }, { on := 8, ground := Go.Ground.data }, { on := 9, ground := Go.Ground.data }, { on := 10, ground := Go.Ground.data }, { on := 5, ground := Go.Ground.chain }], guard := none }) rfl (fun K hK => ?_) AllReadyH.nil)
          · skip
            go_simp
            with_reducible refine (LB.out _ _ (HM0.out.at HN.out B14.out) (mem_lit H14.out OKB.out)).mono ?_
            rintro q_ u15 ⟨rfl, hb⟩
            have B15 := Lib.hid (vian HN.out B14.out hb)
            have P15 := Lib.hid (P14.out.below hb)
            have Q15 := Lib.hid (Q14.out.below hb)
            have E15 := Lib.hid (E14.out.below hb)
            have H15 := Lib.hid (H14.out.below hb)
            have W15 := Lib.hid (W14.out.below hb)
            have Y15 := Lib.hid (Y14.out.below hb)
            have X15 := Lib.hid (X14.out.below hb)
            clear hb B14 P14 Q14 E14 H14 W14 Y14 X14
            refine hK.out _ _ ?s61 (fun hNew => ?r61)
            case s61 => exact Q15.out.2.1
            clear hK K hHeld
            have hHeld := hNew
            clear hNew
            refine wpAnyH_ready (rs := [14]) (by kernel_rfl) (by simp) ?_
            refine (AllReadyH.cons (o := { dst := none, op := Go.Op.store 34 (Go.Operand.tmp 26) (Go.Operand.tmp 78), type := 0, pos := "law.go:146", after := #[{ on := 12, ground := Go.Ground.data }, { on := 5, ground := Go.Ground.data }, { on := 11, ground := Go.Ground.chain }, { on := 0, ground := Go.Ground.phase }, { on := 1, ground := Go.Ground.phase }, { on := 2, ground := Go.Ground.phase }, { on := 3, ground := Go.Ground.phase }, { on := 4, ground := Go.Ground.phase }, { on := 5, ground := Go.Ground.phase }, { on := 6, ground := Go.Ground.textOnly Go.Departure.lateStores }, { on := 7, ground := Go.Ground.textOnly Go.Departure.lateStores }, { on := 8, ground := Go.Ground.textOnly Go.Departure.lateStores }, { on := 9, ground := Go.Ground.textOnly Go.Departure.lateStores }, { on := 10, ground := Go.Ground.textOnly Go.Departure.lateStores }, { on := 11, ground := Go.Ground.textOnly Go.Departure.lateStoresUnsure }, { on := 12, ground := Go.Ground.phase }, { on := 13, ground := Go.Ground.phase }], guard := none }) rfl (fun K hK => ?_) AllReadyH.nil)
            · skip
              refine wp_store_g r34 X15.out (enc_size _) (enc ma) (enc_size _) (enc_one _) _ _ rfl rfl rfl ?_
              intro u16 hP hk
              try simp only [Act.put, List.setIfInBounds_toArray, List.set_cons_zero, List.set_cons_succ]
              have X16 := Lib.hid hP
              have B16 := Lib.hid (hk.below HN.out LX.out B15.out)
              have P16 := Lib.hid (hk.has NPX.out P15.out)
              have Q16 := Lib.hid (hk.has NQX.out Q15.out)
              have E16 := Lib.hid (hk.has NEX.out E15.out)
              have H16 := Lib.hid (hk.has NHX.out H15.out)
              have W16 := Lib.hid (hk.has NWX.out W15.out)
              have Y16 := Lib.hid (hk.has NYX.out Y15.out)
              clear hP hk B15 P15 Q15 E15 H15 W15 Y15 X15
              refine hK.out _ _ ?s62 (fun hNew => ?r62)
              case s62 => exact Q16.out.2.1
              clear hK K hHeld
              have hHeld := hNew
              clear hNew
              refine wpAnyH_ready (rs := [15]) (by kernel_rfl) (by simp) ?_
              refine (AllReadyH.cons (o := { dst := none, op := Go.Op.store 34 (Go.Operand.tmp 27) (Go.Operand.tmp 84), type := 0, pos := "law.go:146", after := #[{ on := 13, ground := Go.Ground.data }, { on := 11, ground := Go.Ground.data }, { on := 14, ground := Go.Ground.chain }, { on := 0, ground := Go.Ground.phase }, { on := 1, ground := Go.Ground.phase }, { on := 2, ground := Go.Ground.phase }, { on := 3, ground := Go.Ground.phase }, { on := 4, ground := Go.Ground.phase }, { on := 5, ground := Go.Ground.phase }, { on := 6, ground := Go.Ground.phase }, { on := 7, ground := Go.Ground.phase }, { on := 8, ground := Go.Ground.phase }, { on := 9, ground := Go.Ground.phase }, { on := 10, ground := Go.Ground.phase }, { on := 11, ground := Go.Ground.phase }, { on := 12, ground := Go.Ground.phase }, { on := 13, ground := Go.Ground.phase }, { on := 14, ground := Go.Ground.phase }], guard := none }) rfl (fun K hK => ?_) AllReadyH.nil)
              · skip
                refine wp_store_g r34 Y16.out (enc_size _) (enc mb) (enc_size _) (enc_one _) _ _ rfl rfl rfl ?_
                intro u17 hP hk
                try simp only [Act.put, List.setIfInBounds_toArray, List.set_cons_zero, List.set_cons_succ]
                have Y17 := Lib.hid hP
                have B17 := Lib.hid (hk.below HN.out LY.out B16.out)
                have P17 := Lib.hid (hk.has NPY.out P16.out)
                have Q17 := Lib.hid (hk.has NQY.out Q16.out)
                have E17 := Lib.hid (hk.has NEY.out E16.out)
                have H17 := Lib.hid (hk.has NHY.out H16.out)
                have W17 := Lib.hid (hk.has NWY.out W16.out)
                have X17 := Lib.hid (hk.has (Ne.symm NYX.out) X16.out)
                clear hP hk B16 P16 Q16 E16 H16 W16 Y16 X16
                refine hK.out _ _ ?s63 (fun hNew => ?r63)
                case s63 => exact Q17.out.2.1
                clear hK K hHeld
                have hHeld := hNew
                clear hNew
                refine wpAnyH_done (by kernel_rfl) ?_ _
                clear hHeld
                go_wp2
                go_meet
                exact ⟨xb, yb, rfl, rfl, ⟨B17.out, Q17.out, W17.out⟩, X17.out, Y17.out⟩
      · skip
        go_simp
        have Q_ := own1 u12 (.cells (enc zeroM) 34)
        have B13 := Lib.hid (vian HN.out B12.out Q_)
        have P13 := Lib.hid (P12.out.below Q_)
        have Q13 := Lib.hid (Q12.out.below Q_)
        have E13 := Lib.hid (E12.out.below Q_)
        have H13 := Lib.hid (H12.out.below Q_)
        have W13 := Lib.hid (W12.out.below Q_)
        have Y13 := Lib.hid (Y12.out.below Q_)
        have X13 := Lib.hid (Has.new u12 (enc zeroM) 34)
        have LX := Lib.hid (Nat.le_trans HN.out B12.out.size)
        have NPX := Lib.hid (Nat.ne_of_lt P12.out.1)
        have NQX := Lib.hid (Nat.ne_of_lt Q12.out.1)
        have NEX := Lib.hid (Nat.ne_of_lt E12.out.1)
        have NHX := Lib.hid (Nat.ne_of_lt H12.out.1)
        have NWX := Lib.hid (Nat.ne_of_lt W12.out.1)
        have NYX := Lib.hid (Nat.ne_of_lt Y12.out.1)
        clear Q_ B12 P12 Q12 E12 H12 W12 Y12
        generalize u12.alloc (.cells (enc zeroM) 34) = u13 at B13 P13 Q13 E13 H13 W13 Y13 X13 ⊢
        generalize u12.heap.size = xb at X13 LX NPX NQX NEX NHX NWX NYX ⊢
        refine hK.out _ _ ?s64 (fun hNew => ?r64)
        case s64 => exact Q13.out.2.1
        clear hK K hHeld
        have hHeld := hNew
        clear hNew
        refine wpAnyH_ready (rs := [5]) (by kernel_rfl) (by simp) ?_
        refine (AllReadyH.cons (o := { dst := some 78, op := Go.Op.call { callee := Go.Callee.value (Go.Operand.func 17), args := #[Go.Operand.tmp 73, Go.Operand.tmp 74, Go.Operand.tmp 75, Go.Operand.tmp 76, Go.Operand.tmp 77], argTypes := #[27, 22, 22, 3, 34] }, type := 34, pos := "law.go:146", after := #[{ on := 0, ground := Go.Ground.data }, { on := 1, ground := Go.Ground.data }, { on := 2, ground := Go.Ground.data }, { on := 3, ground := Go.Ground.data }, { on := 4, ground := Go.Ground.data }], guard := none }) rfl (fun K hK => ?_) AllReadyH.nil)
        · skip
          go_simp
          with_reducible refine (LA.out _ _ (HM0.out.at HN.out B13.out) (mem_lit E13.out OKA.out)).mono ?_
          rintro q_ u14 ⟨rfl, hb⟩
          have B14 := Lib.hid (vian HN.out B13.out hb)
          have P14 := Lib.hid (P13.out.below hb)
          have Q14 := Lib.hid (Q13.out.below hb)
          have E14 := Lib.hid (E13.out.below hb)
          have H14 := Lib.hid (H13.out.below hb)
          have W14 := Lib.hid (W13.out.below hb)
          have Y14 := Lib.hid (Y13.out.below hb)
          have X14 := Lib.hid (X13.out.below hb)
          clear hb B13 P13 Q13 E13 H13 W13 Y13 X13
          refine hK.out _ _ ?s65 (fun hNew => ?r65)
          case s65 => exact Q14.out.2.1
          clear hK K hHeld
          have hHeld := hNew
          clear hNew
          refine wpAnyH_ready (rs := [11]) (by kernel_rfl) (by simp) ?_
          refine (AllReadyH.cons (o := { dst := some 84, op := Go.Op.call { callee := Go.Callee.value (Go.Operand.func 17), args := #[Go.Operand.tmp 79, Go.Operand.tmp 80, Go.Operand.tmp 81, Go.Operand.tmp 82, Go.Operand.tmp 83], argTypes := #[27, 22, 22, 3, 34] }, type := 34, pos := "law.go:146", after := #[{ on := 6, ground := Go.Ground.data }, { on := 7, ground := Go.Ground.data }, { on := 8, ground := Go.Ground.data }, { on := 9, ground := Go.Ground.data }, { on := 10, ground := Go.Ground.data }, { on := 5, ground := Go.Ground.chain }], guard := none }) rfl (fun K hK => ?_) AllReadyH.nil)
          · skip
            go_simp
            with_reducible refine (LB.out _ _ (HM0.out.at HN.out B14.out) (mem_lit H14.out OKB.out)).mono ?_
            rintro q_ u15 ⟨rfl, hb⟩
            have B15 := Lib.hid (vian HN.out B14.out hb)
            have P15 := Lib.hid (P14.out.below hb)
            have Q15 := Lib.hid (Q14.out.below hb)
            have E15 := Lib.hid (E14.out.below hb)
            have H15 := Lib.hid (H14.out.below hb)
            have W15 := Lib.hid (W14.out.below hb)
            have Y15 := Lib.hid (Y14.out.below hb)
            have X15 := Lib.hid (X14.out.below hb)
            clear hb B14 P14 Q14 E14 H14 W14 Y14 X14
            refine hK.out _ _ ?s66 (fun hNew => ?r66)
            case s66 => exact Q15.out.2.1
            clear hK K hHeld
            have hHeld := hNew
            clear hNew
            refine wpAnyH_ready (rs := [14]) (by kernel_rfl) (by simp) ?_
            refine (AllReadyH.cons (o := { dst := none, op := Go.Op.store 34 (Go.Operand.tmp 26) (Go.Operand.tmp 78), type := 0, pos := "law.go:146", after := #[{ on := 12, ground := Go.Ground.data }, { on := 5, ground := Go.Ground.data }, { on := 11, ground := Go.Ground.chain }, { on := 0, ground := Go.Ground.phase }, { on := 1, ground := Go.Ground.phase }, { on := 2, ground := Go.Ground.phase }, { on := 3, ground := Go.Ground.phase }, { on := 4, ground := Go.Ground.phase }, { on := 5, ground := Go.Ground.phase }, { on := 6, ground := Go.Ground.textOnly Go.Departure.lateStores }, { on := 7, ground := Go.Ground.textOnly Go.Departure.lateStores }, { on := 8, ground := Go.Ground.textOnly Go.Departure.lateStores }, { on := 9, ground := Go.Ground.textOnly Go.Departure.lateStores }, { on := 10, ground := Go.Ground.textOnly Go.Departure.lateStores }, { on := 11, ground := Go.Ground.textOnly Go.Departure.lateStoresUnsure }, { on := 12, ground := Go.Ground.phase }, { on := 13, ground := Go.Ground.phase }], guard := none }) rfl (fun K hK => ?_) AllReadyH.nil)
            · skip
              refine wp_store_g r34 X15.out (enc_size _) (enc ma) (enc_size _) (enc_one _) _ _ rfl rfl rfl ?_
              intro u16 hP hk
              try simp only [Act.put, List.setIfInBounds_toArray, List.set_cons_zero, List.set_cons_succ]
              have X16 := Lib.hid hP
              have B16 := Lib.hid (hk.below HN.out LX.out B15.out)
              have P16 := Lib.hid (hk.has NPX.out P15.out)
              have Q16 := Lib.hid (hk.has NQX.out Q15.out)
              have E16 := Lib.hid (hk.has NEX.out E15.out)
              have H16 := Lib.hid (hk.has NHX.out H15.out)
              have W16 := Lib.hid (hk.has NWX.out W15.out)
              have Y16 := Lib.hid (hk.has NYX.out Y15.out)
              clear hP hk B15 P15 Q15 E15 H15 W15 Y15 X15
              refine hK.out _ _ ?s67 (fun hNew => ?r67)
              case s67 => exact Q16.out.2.1
              clear hK K hHeld
              have hHeld := hNew
              clear hNew
              refine wpAnyH_ready (rs := [15]) (by kernel_rfl) (by simp) ?_
              refine (AllReadyH.cons (o := { dst := none, op := Go.Op.store 34 (Go.Operand.tmp 27) (Go.Operand.tmp 84), type := 0, pos := "law.go:146", after := #[{ on := 13, ground := Go.Ground.data }, { on := 11, ground := Go.Ground.data }, { on := 14, ground := Go.Ground.chain }, { on := 0, ground := Go.Ground.phase }, { on := 1, ground := Go.Ground.phase }, { on := 2, ground := Go.Ground.phase }, { on := 3, ground := Go.Ground.phase }, { on := 4, ground := Go.Ground.phase }, { on := 5, ground := Go.Ground.phase }, { on := 6, ground := Go.Ground.phase }, { on := 7, ground := Go.Ground.phase }, { on := 8, ground := Go.Ground.phase }, { on := 9, ground := Go.Ground.phase }, { on := 10, ground := Go.Ground.phase }, { on := 11, ground := Go.Ground.phase }, { on := 12, ground := Go.Ground.phase }, { on := 13, ground := Go.Ground.phase }, { on := 14, ground := Go.Ground.phase }], guard := none }) rfl (fun K hK => ?_) AllReadyH.nil)
              · skip
                refine wp_store_g r34 Y16.out (enc_size _) (enc mb) (enc_size _) (enc_one _) _ _ rfl rfl rfl ?_
                intro u17 hP hk
                try simp only [Act.put, List.setIfInBounds_toArray, List.set_cons_zero, List.set_cons_succ]
                have Y17 := Lib.hid hP
                have B17 := Lib.hid (hk.below HN.out LY.out B16.out)
                have P17 := Lib.hid (hk.has NPY.out P16.out)
                have Q17 := Lib.hid (hk.has NQY.out Q16.out)
                have E17 := Lib.hid (hk.has NEY.out E16.out)
                have H17 := Lib.hid (hk.has NHY.out H16.out)
                have W17 := Lib.hid (hk.has NWY.out W16.out)
                have X17 := Lib.hid (hk.has (Ne.symm NYX.out) X16.out)
                clear hP hk B16 P16 Q16 E16 H16 W16 Y16 X16
                refine hK.out _ _ ?s68 (fun hNew => ?r68)
                case s68 => exact Q17.out.2.1
                clear hK K hHeld
                have hHeld := hNew
                clear hNew
                refine wpAnyH_done (by kernel_rfl) ?_ _
                clear hHeld
                go_wp2
                go_meet
                exact ⟨xb, yb, rfl, rfl, ⟨B17.out, Q17.out, W17.out⟩, X17.out, Y17.out⟩
  case rest =>
    obtain ⟨xb, yb, rfl, rfl, ⟨hB, hQ, hW⟩, hX, hY⟩ := hcut
    have B0 := Lib.hid hB
    have Q0 := Lib.hid hQ
    have W0_ := Lib.hid hW
    have X0 := Lib.hid hX
    have Y0 := Lib.hid hY
    clear hB hQ hW hX hY L0 LA LB OKA OKB
    go_wp2
    go_loopg [85] 160 (fun g' i wr => ∃ t : Nat, t ≤ 160 ∧ g' + t = 160 ∧ i = .int .i64 (t : Int) ∧ Below n3 V3 wr ∧ Has wr kb #[.int .u8 (bits .or .u8 c 2), .int .u8 bk, .int .u8 fi, .int .u8 se] ∧ Has wr wb (enc mw) ∧ Has wr xb (enc ma) ∧ Has wr yb (enc mb))
    case atStart => exact ⟨0, by omega, by omega, rfl, B0.out, Q0.out, W0_.out, X0.out, Y0.out⟩
    case round =>
      obtain ⟨u20, hw5⟩ : ∃ q_, q_ = wr := ⟨_, rfl⟩
      subst hw5
      obtain ⟨t, ht, hg, rfl, hB, hQ, hW, hX, hY⟩ := hrel
      have TG := Lib.hid hg
      have B20 := Lib.hid hB
      have Q20 := Lib.hid hQ
      have W20 := Lib.hid hW
      have X20 := Lib.hid hX
      have Y20 := Lib.hid hY
      clear hg hB hQ hW hX hY B0 Q0 W0_ X0 Y0
      by_cases hlt : t < 160
      · skip
        have l1 : (t : Int) < 160 := by omega
        have l0 : (0 : Int) ≤ t := by omega
        have lo := LO.out t
        have D1 := Lib.hid (DA.out t hlt)
        have D2 := Lib.hid (DB.out t hlt)
        rw [SA.out] at D1
        rw [SB.out] at D2
        have cw : (enc mw)[t]? = some (.int .u8 (ow t)) := by rw [enc_get mw t hlt, FW.out t hlt]
        have ca : (enc ma)[t]? = some (.int .u8 (oa t)) := by rw [enc_get ma t hlt, FA.out t hlt]
        have cb : (enc mb)[t]? = some (.int .u8 (ob t)) := by rw [enc_get mb t hlt, FB.out t hlt]
        obtain ⟨d, hd⟩ : ∃ q_, q_ = seeV G (litM 16 xa ta (ha % 128)) (bits .or .u8 c 2) 0 (t : Int) i8 := ⟨_, rfl⟩
        obtain ⟨e, he⟩ : ∃ q_, q_ = seeV G (litM 16 xc tc (hc % 128)) (bits .or .u8 c 2) 0 (t : Int) i8 := ⟨_, rfl⟩
        rw [← hd, ← he] at lo
        rw [← hd] at D1
        rw [← he] at D2
        rw [show (litM 16 xa ta (ha % 128)) 1 = xa from rfl, show (litM 16 xc tc (hc % 128)) 1 = xc from rfl] at lo
        clear hd he
        obtain ⟨z, hz⟩ : ∃ q_, q_ = decide (d ≠ 0) := ⟨_, rfl⟩
        obtain ⟨y, hy⟩ : ∃ q_, q_ = decide (e ≠ 0) := ⟨_, rfl⟩
        rw [← hz] at D1
        rw [← hy] at D2
        generalize ow t = vw at lo cw
        generalize oa t = va at lo ca
        generalize ob t = vb at lo cb
        have CW := Lib.hid cw
        have CA := Lib.hid ca
        have CB := Lib.hid cb
        have HZ := Lib.hid hz
        have HYY := Lib.hid hy
        clear hz hy cw ca cb DA DB SA SB FW FA FB LO
        obtain ⟨hc0, hf0⟩ := Q20.out.out
        go_wp2_with (fail)
        clear hc0 hf0
        with_reducible refine (D1.out _ _ (HM0.out.at HN.out B20.out) (HM1.out.at HN.out B20.out)).mono ?_
        rintro q_ u21 ⟨rfl, hb⟩
        have B21 := Lib.hid (vian HN.out B20.out hb)
        have Q21 := Lib.hid (Q20.out.below hb)
        have W21 := Lib.hid (W20.out.below hb)
        have X21 := Lib.hid (X20.out.below hb)
        have Y21 := Lib.hid (Y20.out.below hb)
        clear hb B20 Q20 W20 X20 Y20
        obtain ⟨hc0, hf0⟩ := Q21.out.out
        go_wp2_with (fail)
        clear hc0 hf0
        with_reducible refine (D2.out _ _ (HM0.out.at HN.out B21.out) (HM1.out.at HN.out B21.out)).mono ?_
        rintro q_ u22 ⟨rfl, hb⟩
        have B22 := Lib.hid (vian HN.out B21.out hb)
        have Q22 := Lib.hid (Q21.out.below hb)
        have W22 := Lib.hid (W21.out.below hb)
        have X22 := Lib.hid (X21.out.below hb)
        have Y22 := Lib.hid (Y21.out.below hb)
        clear hb B21 Q21 W21 X21 Y21
        cases y
        · skip
          have he0 : e = 0 := by have := HYY.out; simpa using this.symm
          rw [if_neg (fun hh => hh.1 he0)] at lo
          clear he0
          have gw : u22.cell? ⟨wb, t, none⟩ = some (.int .u8 vw) := (W22.out.2.1 t).trans CW.out
          have ga : u22.cell? ⟨xb, t, none⟩ = some (.int .u8 va) := (X22.out.2.1 t).trans CA.out
          have gb_ : u22.cell? ⟨yb, t, none⟩ = some (.int .u8 vb) := (Y22.out.2.1 t).trans CB.out
          rw [lo] at gw
          clear lo
          go_wp2_with (fail)
          go_roundg (160 - (t + 1))
          case measure => have := TG.out; omega
          case rel => exact ⟨t + 1, by omega, by have := TG.out; omega, by simp, B22.out, Q22.out, W22.out, X22.out, Y22.out⟩
        · skip
          have he0 : e ≠ 0 := by have := HYY.out; simpa using this.symm
          cases z
          · skip
            have hd0 : d = 0 := by have := HZ.out; simpa using this.symm
            rw [if_pos ⟨he0, Or.inl hd0⟩] at lo
            clear he0 hd0
            have gw : u22.cell? ⟨wb, t, none⟩ = some (.int .u8 vw) := (W22.out.2.1 t).trans CW.out
            have ga : u22.cell? ⟨xb, t, none⟩ = some (.int .u8 va) := (X22.out.2.1 t).trans CA.out
            have gb_ : u22.cell? ⟨yb, t, none⟩ = some (.int .u8 vb) := (Y22.out.2.1 t).trans CB.out
            rw [lo] at gw
            clear lo
            go_wp2_with (fail)
            go_roundg (160 - (t + 1))
            case measure => have := TG.out; omega
            case rel => exact ⟨t + 1, by omega, by have := TG.out; omega, by simp, B22.out, Q22.out, W22.out, X22.out, Y22.out⟩
          · skip
            have hd0 : d ≠ 0 := by have := HZ.out; simpa using this.symm
            by_cases hx : xc < xa
            · skip
              rw [if_pos ⟨he0, Or.inr hx⟩] at lo
              have dx : decide (xc < xa) = true := decide_eq_true hx
              clear he0 hd0
              have gw : u22.cell? ⟨wb, t, none⟩ = some (.int .u8 vw) := (W22.out.2.1 t).trans CW.out
              have ga : u22.cell? ⟨xb, t, none⟩ = some (.int .u8 va) := (X22.out.2.1 t).trans CA.out
              have gb_ : u22.cell? ⟨yb, t, none⟩ = some (.int .u8 vb) := (Y22.out.2.1 t).trans CB.out
              rw [lo] at gw
              clear lo
              go_wp2_with (fail)
              go_roundg (160 - (t + 1))
              case measure => have := TG.out; omega
              case rel => exact ⟨t + 1, by omega, by have := TG.out; omega, by simp, B22.out, Q22.out, W22.out, X22.out, Y22.out⟩
            · skip
              rw [if_neg (fun hh => by rcases hh.2 with h | h; exact hd0 h; exact hx h)] at lo
              have dx : decide (xc < xa) = false := decide_eq_false hx
              clear he0 hd0
              have gw : u22.cell? ⟨wb, t, none⟩ = some (.int .u8 vw) := (W22.out.2.1 t).trans CW.out
              have ga : u22.cell? ⟨xb, t, none⟩ = some (.int .u8 va) := (X22.out.2.1 t).trans CA.out
              have gb_ : u22.cell? ⟨yb, t, none⟩ = some (.int .u8 vb) := (Y22.out.2.1 t).trans CB.out
              rw [lo] at gw
              clear lo
              go_wp2_with (fail)
              go_roundg (160 - (t + 1))
              case measure => have := TG.out; omega
              case rel => exact ⟨t + 1, by omega, by have := TG.out; omega, by simp, B22.out, Q22.out, W22.out, X22.out, Y22.out⟩
      · skip
        have te : t = 160 := by omega
        subst te
        have l1 : ¬ ((160 : Nat) : Int) < 160 := by omega
        go_wp2_with (fail)
        all_goals exact bodyPost_ret (v := .bool true) (by simp [results, Try.results8, go_sem]) rfl ⟨rfl, ZF.out _ B20.out⟩
theorem left_walk (c bk fi se : Int) (c0 : 0 ≤ c) (c1 : c < 256) (bk0 : 0 ≤ bk) (bk1 : bk < 256) (fi0 : 0 ≤ fi) (fi1 : fi < 256) (se0 : 0 ≤ se) (se1 : se < 256) (vb : Value) (xa : Int) (xa0 : 0 ≤ xa) (xa1 : xa < 256) (xc : Int) (xc0 : 0 ≤ xc) (xc1 : xc < 256) (ta : Int) (ta0 : 0 ≤ ta) (ta1 : ta < 256) (tc : Int) (tc0 : 0 ≤ tc) (tc1 : tc < 256) (ha : Int) (ha0 : 0 ≤ ha) (ha1 : ha < 256) (hc : Int) (hc0 : 0 ≤ hc) (hc1 : hc < 256) (line : Int) (line0 : 0 ≤ line) (line1 : line < 256) (w : World) (hinb : MemIn w vb) : Calls Try.prog 8 #[vb, .agg #[.int .u8 c, .int .u8 bk, .int .u8 fi, .int .u8 se], .int .u8 xa, .int .u8 xc, .int .u8 ta, .int .u8 tc, .int .u8 ha, .int .u8 hc, .int .u8 line] w fun q_ w' => q_ = .returned (.bool true) ∧ Below w.heap.size w w' := by
  obtain ⟨a, n, cp, rfl, hzb, hmb⟩ := hinb
  by_cases g0 : 3000 < n
  · exact left_long0 c bk fi se c0 c1 bk0 bk1 fi0 fi1 se0 se1 a n cp xa xa0 xa1 xc xc0 xc1 ta ta0 ta1 tc tc0 tc1 ha ha0 ha1 hc hc0 hc1 line line0 line1  g0 w
  obtain ⟨F, hMb⟩ := hmb (by omega)
  exact left_short c bk fi se c0 c1 bk0 bk1 fi0 fi1 se0 se1 a n cp F xa xa0 xa1 xc xc0 xc1 ta ta0 ta1 tc tc0 tc1 ha ha0 ha1 hc hc0 hc1 line line0 line1 (by omega) w hMb
end Go.Proofs.Ytiekojnhkemjlaa
