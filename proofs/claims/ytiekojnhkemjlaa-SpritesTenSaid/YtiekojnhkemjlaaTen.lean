/-
  The walk through SpritesTen: for every sprite memory, look and line.
-/
import Derived.Test.YtiekojnhkemjlaaOpn
import Derived.Deep.Cut
import Derived.BigQuiet
import Derived.WalkSmall
import Derived.Deep.LoopGhost
namespace Go.Proofs.Ytiekojnhkemjlaa
open Go.ChangeShapes Go.WideShapes Go.ChangeAt Go.RowKit
set_option linter.unusedVariables false
set_option linter.unusedSimpArgs false
set_option maxRecDepth 100000
set_option maxHeartbeats 2000000 in
theorem ten_long (c bk fi se : Int) (c0 : 0 ≤ c) (c1 : c < 256) (bk0 : 0 ≤ bk) (bk1 : bk < 256) (fi0 : 0 ≤ fi) (fi1 : fi < 256) (se0 : 0 ≤ se) (se1 : se < 256) (a : Option Addr) (n cp : Nat) (line : Int) (line0 : 0 ≤ line) (line1 : line < 256) (h : 300 < n) (w : World) : Calls Try.prog 5 #[.slice a n cp, .agg #[.int .u8 c, .int .u8 bk, .int .u8 fi, .int .u8 se], .int .u8 line] w fun q_ w' => q_ = .returned (.bool true) ∧ Below w.heap.size w w' := by
  suffices hall : ∀ (n_ : Nat) (W0 : World), n_ ≤ W0.heap.size → Below n_ W0 w → Calls Try.prog 5 #[.slice a n cp, .agg #[.int .u8 c, .int .u8 bk, .int .u8 fi, .int .u8 se], .int .u8 line] w fun q_ w' => q_ = .returned (.bool true) ∧ Below n_ W0 w' from hall _ _ (Nat.le_refl _) (Below.refl _ _)
  intro n_ W0 hn hB
  have HN := Lib.hid hn
  have BB := Lib.hid hB
  clear hn hB
  have AW := Lib.hid awake_c
  have hnot : ∀ (x : Bool) (w : World), (Op.unary .not (.bool x)).run Try.prog w = .ok (.bool (!x)) w := fun _ _ => rfl
  have hI : (300 : Int) < n := by omega
  go_enter Try.func5, Try.ntmps5
  have Q_ := own1 w (.cells #[.int .u8 c, .int .u8 bk, .int .u8 fi, .int .u8 se] 24)
  have B0 := Lib.hid (vian HN.out BB.out Q_)
  have P0 := Lib.hid (show Has (w.alloc (.cells #[.int .u8 c, .int .u8 bk, .int .u8 fi, .int .u8 se] 24)) w.heap.size #[.int .u8 c, .int .u8 bk, .int .u8 fi, .int .u8 se] by simpa using Has.new w #[.int .u8 c, .int .u8 bk, .int .u8 fi, .int .u8 se] 24)
  have LP := Lib.hid (show n_ ≤ w.heap.size + 0 from Nat.le_add_right_of_le (Nat.le_trans HN.out BB.out.size))
  simp only [Nat.add_zero] at LP
  clear Q_
  go_upto_region 1 with (fail)
  generalize (w.alloc (.cells #[.int .u8 c, .int .u8 bk, .int .u8 fi, .int .u8 se] 24)) = u0 at B0 P0 ⊢
  generalize w.heap.size = pb at P0 LP  ⊢
  go_wp2_with (fail)
  with_reducible refine (AW.out _).mono ?_
  rintro q_ u1 ⟨rfl, hb⟩
  have B1 := Lib.hid (vian HN.out B0.out hb)
  have P1 := Lib.hid (P0.out.below hb)
  clear hb B0 P0
  go_wp2_with (fail)
  with_reducible refine (AW.out _).mono ?_
  rintro q_ u2 ⟨rfl, hb⟩
  have B2 := Lib.hid (vian HN.out B1.out hb)
  have P2 := Lib.hid (P1.out.below hb)
  clear hb B1 P1
  go_wp2_with (fail)
  all_goals exact bodyPost_ret (v := .bool true) (by simp [results, Try.results5, go_sem]) rfl ⟨rfl, B2.out⟩
set_option maxHeartbeats 8000000 in
theorem ten_0 (c bk fi se : Int) (c0 : 0 ≤ c) (c1 : c < 256) (bk0 : 0 ≤ bk) (bk1 : bk < 256) (fi0 : 0 ≤ fi) (fi1 : fi < 256) (se0 : 0 ≤ se) (se1 : se < 256) (a : Option Addr) (n cp : Nat) (O : M) (line : Int) (line0 : 0 ≤ line) (line1 : line < 256) (h : n ≤ 300) (hb2 : bit c 2 = 0) (w : World) (hM0 : Mem w (.slice a n cp) O) : Calls Try.prog 5 #[.slice a n cp, .agg #[.int .u8 c, .int .u8 bk, .int .u8 fi, .int .u8 se], .int .u8 line] w fun q_ w' => q_ = .returned (.bool true) ∧ Below w.heap.size w w' := by
  suffices hall : ∀ (n_ : Nat) (W0 : World), n_ ≤ W0.heap.size → Below n_ W0 w → MemB n_ W0 (.slice a n cp) O → Calls Try.prog 5 #[.slice a n cp, .agg #[.int .u8 c, .int .u8 bk, .int .u8 fi, .int .u8 se], .int .u8 line] w fun q_ w' => q_ = .returned (.bool true) ∧ Below n_ W0 w' from hall _ _ (Nat.le_refl _) (Below.refl _ _) hM0
  clear hM0
  intro n_ W0 hn hB hM0
  have HN := Lib.hid hn
  have BB := Lib.hid hB
  clear hn hB
  have HM0 := Lib.hid hM0
  clear hM0
  have AW := Lib.hid awake_c
  have hnot : ∀ (x : Bool) (w : World), (Op.unary .not (.bool x)).run Try.prog w = .ok (.bool (!x)) w := fun _ _ => rfl
  have hI : ¬ (300 : Int) < n := by omega
  have e2 : bits .and .u8 c 4 = 0 := by rw [an2 c c0 c1, hb2]; rfl
  have hgv : hgt c = 8 := by unfold hgt; rw [hb2]; rfl
  have HV := Lib.hid (show ∀ t : Nat, inV c O t line = (decide (O (4 * t) - 16 ≤ line) && decide (line < O (4 * t) - 16 + 8)) from fun t => by unfold inV; rw [hgv])
  have SC := Lib.hid (fun W h => scan_c c bk fi se c0 c1 bk0 bk1 fi0 fi1 se0 se1 (.slice a n cp) O line (by omega) (by omega) W h)
  have TD := Lib.hid (fun t ht => sc_told c O line t ht)
  have LE := Lib.hid (sc_le c O line 40).1
  obtain ⟨q, hq⟩ : ∃ q_, q_ = scN c O line 40 := ⟨_, rfl⟩
  rw [← hq] at SC TD LE
  obtain ⟨L, FF⟩ := q
  dsimp only at SC TD LE
  have HL := Lib.hid hq
  clear hq hgv hb2
  go_enter Try.func5, Try.ntmps5
  have Q_ := own1 w (.cells #[.int .u8 c, .int .u8 bk, .int .u8 fi, .int .u8 se] 24)
  have B0 := Lib.hid (vian HN.out BB.out Q_)
  have P0 := Lib.hid (show Has (w.alloc (.cells #[.int .u8 c, .int .u8 bk, .int .u8 fi, .int .u8 se] 24)) w.heap.size #[.int .u8 c, .int .u8 bk, .int .u8 fi, .int .u8 se] by simpa using Has.new w #[.int .u8 c, .int .u8 bk, .int .u8 fi, .int .u8 se] 24)
  have LP := Lib.hid (show n_ ≤ w.heap.size + 0 from Nat.le_add_right_of_le (Nat.le_trans HN.out BB.out.size))
  simp only [Nat.add_zero] at LP
  clear Q_
  go_upto_region 1 with (fail)
  generalize (w.alloc (.cells #[.int .u8 c, .int .u8 bk, .int .u8 fi, .int .u8 se] 24)) = u0 at B0 P0 ⊢
  generalize w.heap.size = pb at P0 LP  ⊢
  go_wp2_with (fail)
  with_reducible refine (AW.out _).mono ?_
  rintro q_ u1 ⟨rfl, hb⟩
  have B1 := Lib.hid (vian HN.out B0.out hb)
  have P1 := Lib.hid (P0.out.below hb)
  clear hb B0 P0
  obtain ⟨hc0, hf0⟩ := P1.out.out
  go_upto_region 3 with (fail)
  go_wp2_with (refine store_g r27 (Has.new u1 #[.int .u8 0, .int .u8 0, .int .u8 0, .int .u8 0] 27) rfl #[.int .u8 c, .int .u8 bk, .int .u8 fi, .int .u8 se] rfl (four_one _ _ _ _) rfl _ _ rfl rfl rfl ?_)
  intro u2 hP hk
  clear hc0 hf0
  have B2 := Lib.hid (keep_new HN.out B1.out _ hk)
  have NPQ := Lib.hid (Nat.ne_of_lt P1.out.1)
  have P2 := Lib.hid (hk.has NPQ.out (P1.out.below (own1 _ _)))
  have Q2 := Lib.hid hP
  have LQ := Lib.hid (Nat.le_trans HN.out B1.out.size)
  generalize u1.heap.size = qb at Q2 LQ NPQ ⊢
  clear hk hP B1 P1
  try simp only [Act.put, List.setIfInBounds_toArray, List.set_cons_zero, List.set_cons_succ]
  obtain ⟨hc0, hf0⟩ := P2.out.out
  obtain ⟨hc1, hf1⟩ := Q2.out.out
  go_wp2_with (fail)
  clear hc0 hf0 hc1 hf1
  with_reducible refine (SC.out _ (HM0.out.at HN.out B2.out)).mono ?_
  rintro q_ u3 ⟨v, g, rfl, ⟨ra, rc, rfl, hrc, hrow⟩, hg, hb⟩
  have HR := Lib.hid hrow
  have B3 := Lib.hid (vian HN.out B2.out hb)
  have P3 := Lib.hid (P2.out.below hb)
  have Q3 := Lib.hid (Q2.out.below hb)
  clear hb hg hrow hrc B2 P2 Q2
  obtain ⟨hc0, hf0⟩ := P3.out.out
  go_wp2_with (fail)
  clear hc0 hf0
  go_loopg [10, 33] 40 (fun g' at_ i wr => ∃ (t N : Nat) (F : M), t ≤ 40 ∧ g' + t = 40 ∧ i = .int .i64 t ∧ at_ = .int .i64 N ∧ scN c O line t = (N, F) ∧ u3 = wr)
  case atStart => exact ⟨0, 0, zeroM, by omega, by omega, rfl, rfl, sc_zero c O line, rfl⟩
  case round =>
    obtain ⟨t, N, F, ht, hg, rfl, rfl, hs, hw⟩ := hrel
    subst hw
    have TG := Lib.hid hg
    have HS := Lib.hid hs
    clear hg hs
    by_cases hlt : t < 40
    · skip
      have l1 : (t : Int) < 40 := by omega
      have l0 : (0 : Int) ≤ t := by omega
      have T1 := TD.out t hlt
      rw [HS.out] at T1
      dsimp only at T1
      rw [HV.out t] at T1
      have TB := Lib.hid T1
      have NX := Lib.hid (show (N < 10 ∧ (decide (O (4 * t) - 16 ≤ line) && decide (line < O (4 * t) - 16 + 8)) = true) → ∃ F2, scN c O line (t + 1) = (N + 1, F2) from fun h => by have := sc_yes c O line t (by rw [HS.out]; exact h.1) (by rw [HV.out t]; exact h.2); rw [HS.out] at this; exact ⟨_, this⟩)
      have NZ := Lib.hid (show ¬ (N < 10 ∧ (decide (O (4 * t) - 16 ≤ line) && decide (line < O (4 * t) - 16 + 8)) = true) → scN c O line (t + 1) = (N, F) from fun h => by have := sc_no c O line t (by rw [HS.out, HV.out t]; exact h); rw [HS.out] at this; exact this)
      clear T1
      have hM := (HM0.out.at HN.out B3.out)
      obtain ⟨a2, l2, c2, e2_, m1, m2, m3, m4, m5⟩ := hM
      injection e2_ with ea eb ec
      subst ea eb ec
      obtain ⟨st, hst⟩ : ∃ m, m = 4 * t := ⟨_, rfl⟩
      rw [← hst] at TB NX NZ
      have es : 4 * (t : Int) = (st : Int) := by omega
      have s0 : (0 : Int) ≤ (st : Int) := by omega
      clear hst m1 m2
      by_cases hm : st < n
      · skip
        have l2 : (st : Int) < n := by omega
        obtain ⟨b, o, rfl, e3, e4⟩ := m5 (by omega)
        have hc9 := e4 st hm
        have y0 := m3 st
        obtain ⟨y, hy⟩ : ∃ q_, q_ = O st := ⟨_, rfl⟩
        rw [← hy] at hc9 y0 TB NX NZ
        clear m3 m4 m5 e4 hy e3
        by_cases ht2 : N < 10 ∧ (decide (y - 16 ≤ line) && decide (line < y - 16 + 8)) = true
        · skip
          have tb := TB.out.2 ht2
          obtain ⟨F2, hx⟩ := NX.out ht2
          have HX := Lib.hid hx
          have g2 := ht2.2
          rw [Bool.and_eq_true, decide_eq_true_eq, decide_eq_true_eq] at g2
          have d1 : y - 16 ≤ line := g2.1
          have d2 : line < y - 16 + 8 := g2.2
          have d3 : line < y - 8 := by omega
          have N10 : (N : Int) < 10 := by omega
          have tl := tb.1
          have tv := tb.2
          clear hx g2 tb
          obtain ⟨rfl, hgl, hrc, hrf⟩ := HR.out (by omega)
          have hr0 := hrc N (by omega)
          have hr1 := hrf N
          have n1 : (N : Int) < (L : Int) := by omega
          have n0 : (0 : Int) ≤ (N : Int) := by omega
          rw [tv] at hr0
          clear tv
          clear hrc hrf
          clear ht2 TB NX NZ
          go_wp2_with (fail)
          go_roundg (40 - (t + 1))
          case measure => have := TG.out; omega
          case rel => exact ⟨t + 1, N + 1, F2, by omega, by have := TG.out; omega, by simp, by first | rfl | simp, HX.out, rfl⟩
        · skip
          have HX := Lib.hid (NZ.out ht2)
          by_cases tl : N < L
          · skip
            have tv : ¬ FF N = (t : Int) := fun h => ht2 (TB.out.1 ⟨tl, h⟩)
            obtain ⟨rfl, hgl, hrc, hrf⟩ := HR.out (by omega)
            have hr0 := hrc N (by omega)
            have hr1 := hrf N
            have n1 : (N : Int) < (L : Int) := by omega
            have n0 : (0 : Int) ≤ (N : Int) := by omega
            obtain ⟨x, hx⟩ : ∃ q_, q_ = FF N := ⟨_, rfl⟩
            rw [← hx] at hr0 tv
            have tv2 : (x == (t : Int)) = false := by simp; exact tv
            clear hx
            clear hrc hrf
            by_cases d1 : y - 16 ≤ line
            · skip
              by_cases d2 : line < y - 16 + 8
              · skip
                exact absurd ⟨by have := LE.out; omega, by rw [decide_eq_true d1, decide_eq_true d2]; rfl⟩ ht2
              · skip
                have d3 : ¬ line < y - 8 := by omega
                clear ht2 TB NX NZ
                go_wp2_with (fail)
                go_roundg (40 - (t + 1))
                case measure => have := TG.out; omega
                case rel => exact ⟨t + 1, N, F, by omega, by have := TG.out; omega, by simp, by first | rfl | simp, HX.out, rfl⟩
            · skip
              clear ht2 TB NX NZ
              go_wp2_with (fail)
              go_roundg (40 - (t + 1))
              case measure => have := TG.out; omega
              case rel => exact ⟨t + 1, N, F, by omega, by have := TG.out; omega, by simp, by first | rfl | simp, HX.out, rfl⟩
          · skip
            have n1 : ¬ (N : Int) < (L : Int) := by omega
            by_cases d1 : y - 16 ≤ line
            · skip
              by_cases d2 : line < y - 16 + 8
              · skip
                have N10 : ¬ (N : Int) < 10 := fun h => ht2 ⟨by omega, by rw [decide_eq_true d1, decide_eq_true d2]; rfl⟩
                have d3 : line < y - 8 := by omega
                clear ht2 TB NX NZ
                go_wp2_with (fail)
                go_roundg (40 - (t + 1))
                case measure => have := TG.out; omega
                case rel => exact ⟨t + 1, N, F, by omega, by have := TG.out; omega, by simp, by first | rfl | simp, HX.out, rfl⟩
              · skip
                have d3 : ¬ line < y - 8 := by omega
                clear ht2 TB NX NZ
                go_wp2_with (fail)
                go_roundg (40 - (t + 1))
                case measure => have := TG.out; omega
                case rel => exact ⟨t + 1, N, F, by omega, by have := TG.out; omega, by simp, by first | rfl | simp, HX.out, rfl⟩
            · skip
              clear ht2 TB NX NZ
              go_wp2_with (fail)
              go_roundg (40 - (t + 1))
              case measure => have := TG.out; omega
              case rel => exact ⟨t + 1, N, F, by omega, by have := TG.out; omega, by simp, by first | rfl | simp, HX.out, rfl⟩
      · skip
        have l2 : ¬ (st : Int) < n := by omega
        have oz := m4 st (by omega)
        rw [oz] at TB NX NZ
        clear m3 m4 m5 oz
        by_cases ht2 : N < 10 ∧ (decide (0 - 16 ≤ line) && decide (line < 0 - 16 + 8)) = true
        · exact absurd ht2.2 (by rw [Bool.and_eq_true, decide_eq_true_eq, decide_eq_true_eq]; omega)
        · skip
          have HX := Lib.hid (NZ.out ht2)
          by_cases tl : N < L
          · skip
            have tv : ¬ FF N = (t : Int) := fun h => ht2 (TB.out.1 ⟨tl, h⟩)
            obtain ⟨rfl, hgl, hrc, hrf⟩ := HR.out (by omega)
            have hr0 := hrc N (by omega)
            have hr1 := hrf N
            have n1 : (N : Int) < (L : Int) := by omega
            have n0 : (0 : Int) ≤ (N : Int) := by omega
            obtain ⟨x, hx⟩ : ∃ q_, q_ = FF N := ⟨_, rfl⟩
            rw [← hx] at hr0 tv
            have tv2 : (x == (t : Int)) = false := by simp; exact tv
            clear hx
            clear hrc hrf
            have d1 : (-16 : Int) ≤ line := by omega
            have d2 : ¬ line < -8 := by omega
            clear ht2 TB NX NZ
            go_wp2_with (fail)
            go_roundg (40 - (t + 1))
            case measure => have := TG.out; omega
            case rel => exact ⟨t + 1, N, F, by omega, by have := TG.out; omega, by simp, by first | rfl | simp, HX.out, rfl⟩
          · skip
            have n1 : ¬ (N : Int) < (L : Int) := by omega
            have d1 : (-16 : Int) ≤ line := by omega
            have d2 : ¬ line < -8 := by omega
            clear ht2 TB NX NZ
            go_wp2_with (fail)
            go_roundg (40 - (t + 1))
            case measure => have := TG.out; omega
            case rel => exact ⟨t + 1, N, F, by omega, by have := TG.out; omega, by simp, by first | rfl | simp, HX.out, rfl⟩
    · skip
      have te : t = 40 := by omega
      subst te
      have h4 := HL.out
      rw [HS.out] at h4
      injection h4 with h4 h5
      have LL := LE.out
      subst h4
      have l1 : ¬ ((40 : Nat) : Int) < 40 := by omega
      have l2 : (L : Int) ≤ 10 := by omega
      clear h5
      go_wp2_with (fail)
      all_goals exact bodyPost_ret (v := .bool true) (by simp [results, Try.results5, go_sem]) rfl ⟨rfl, B3.out⟩
set_option maxHeartbeats 8000000 in
theorem ten_1 (c bk fi se : Int) (c0 : 0 ≤ c) (c1 : c < 256) (bk0 : 0 ≤ bk) (bk1 : bk < 256) (fi0 : 0 ≤ fi) (fi1 : fi < 256) (se0 : 0 ≤ se) (se1 : se < 256) (a : Option Addr) (n cp : Nat) (O : M) (line : Int) (line0 : 0 ≤ line) (line1 : line < 256) (h : n ≤ 300) (hb2 : bit c 2 = 1) (w : World) (hM0 : Mem w (.slice a n cp) O) : Calls Try.prog 5 #[.slice a n cp, .agg #[.int .u8 c, .int .u8 bk, .int .u8 fi, .int .u8 se], .int .u8 line] w fun q_ w' => q_ = .returned (.bool true) ∧ Below w.heap.size w w' := by
  suffices hall : ∀ (n_ : Nat) (W0 : World), n_ ≤ W0.heap.size → Below n_ W0 w → MemB n_ W0 (.slice a n cp) O → Calls Try.prog 5 #[.slice a n cp, .agg #[.int .u8 c, .int .u8 bk, .int .u8 fi, .int .u8 se], .int .u8 line] w fun q_ w' => q_ = .returned (.bool true) ∧ Below n_ W0 w' from hall _ _ (Nat.le_refl _) (Below.refl _ _) hM0
  clear hM0
  intro n_ W0 hn hB hM0
  have HN := Lib.hid hn
  have BB := Lib.hid hB
  clear hn hB
  have HM0 := Lib.hid hM0
  clear hM0
  have AW := Lib.hid awake_c
  have hnot : ∀ (x : Bool) (w : World), (Op.unary .not (.bool x)).run Try.prog w = .ok (.bool (!x)) w := fun _ _ => rfl
  have hI : ¬ (300 : Int) < n := by omega
  have e2 : bits .and .u8 c 4 = 4 := by rw [an2 c c0 c1, hb2]; rfl
  have hgv : hgt c = 16 := by unfold hgt; rw [hb2]; rfl
  have HV := Lib.hid (show ∀ t : Nat, inV c O t line = (decide (O (4 * t) - 16 ≤ line) && decide (line < O (4 * t) - 16 + 16)) from fun t => by unfold inV; rw [hgv])
  have SC := Lib.hid (fun W h => scan_c c bk fi se c0 c1 bk0 bk1 fi0 fi1 se0 se1 (.slice a n cp) O line (by omega) (by omega) W h)
  have TD := Lib.hid (fun t ht => sc_told c O line t ht)
  have LE := Lib.hid (sc_le c O line 40).1
  obtain ⟨q, hq⟩ : ∃ q_, q_ = scN c O line 40 := ⟨_, rfl⟩
  rw [← hq] at SC TD LE
  obtain ⟨L, FF⟩ := q
  dsimp only at SC TD LE
  have HL := Lib.hid hq
  clear hq hgv hb2
  go_enter Try.func5, Try.ntmps5
  have Q_ := own1 w (.cells #[.int .u8 c, .int .u8 bk, .int .u8 fi, .int .u8 se] 24)
  have B0 := Lib.hid (vian HN.out BB.out Q_)
  have P0 := Lib.hid (show Has (w.alloc (.cells #[.int .u8 c, .int .u8 bk, .int .u8 fi, .int .u8 se] 24)) w.heap.size #[.int .u8 c, .int .u8 bk, .int .u8 fi, .int .u8 se] by simpa using Has.new w #[.int .u8 c, .int .u8 bk, .int .u8 fi, .int .u8 se] 24)
  have LP := Lib.hid (show n_ ≤ w.heap.size + 0 from Nat.le_add_right_of_le (Nat.le_trans HN.out BB.out.size))
  simp only [Nat.add_zero] at LP
  clear Q_
  go_upto_region 1 with (fail)
  generalize (w.alloc (.cells #[.int .u8 c, .int .u8 bk, .int .u8 fi, .int .u8 se] 24)) = u0 at B0 P0 ⊢
  generalize w.heap.size = pb at P0 LP  ⊢
  go_wp2_with (fail)
  with_reducible refine (AW.out _).mono ?_
  rintro q_ u1 ⟨rfl, hb⟩
  have B1 := Lib.hid (vian HN.out B0.out hb)
  have P1 := Lib.hid (P0.out.below hb)
  clear hb B0 P0
  obtain ⟨hc0, hf0⟩ := P1.out.out
  go_upto_region 3 with (fail)
  go_wp2_with (refine store_g r27 (Has.new u1 #[.int .u8 0, .int .u8 0, .int .u8 0, .int .u8 0] 27) rfl #[.int .u8 c, .int .u8 bk, .int .u8 fi, .int .u8 se] rfl (four_one _ _ _ _) rfl _ _ rfl rfl rfl ?_)
  intro u2 hP hk
  clear hc0 hf0
  have B2 := Lib.hid (keep_new HN.out B1.out _ hk)
  have NPQ := Lib.hid (Nat.ne_of_lt P1.out.1)
  have P2 := Lib.hid (hk.has NPQ.out (P1.out.below (own1 _ _)))
  have Q2 := Lib.hid hP
  have LQ := Lib.hid (Nat.le_trans HN.out B1.out.size)
  generalize u1.heap.size = qb at Q2 LQ NPQ ⊢
  clear hk hP B1 P1
  try simp only [Act.put, List.setIfInBounds_toArray, List.set_cons_zero, List.set_cons_succ]
  obtain ⟨hc0, hf0⟩ := P2.out.out
  obtain ⟨hc1, hf1⟩ := Q2.out.out
  go_wp2_with (fail)
  clear hc0 hf0 hc1 hf1
  with_reducible refine (SC.out _ (HM0.out.at HN.out B2.out)).mono ?_
  rintro q_ u3 ⟨v, g, rfl, ⟨ra, rc, rfl, hrc, hrow⟩, hg, hb⟩
  have HR := Lib.hid hrow
  have B3 := Lib.hid (vian HN.out B2.out hb)
  have P3 := Lib.hid (P2.out.below hb)
  have Q3 := Lib.hid (Q2.out.below hb)
  clear hb hg hrow hrc B2 P2 Q2
  obtain ⟨hc0, hf0⟩ := P3.out.out
  go_wp2_with (fail)
  clear hc0 hf0
  go_loopg [10, 33] 40 (fun g' at_ i wr => ∃ (t N : Nat) (F : M), t ≤ 40 ∧ g' + t = 40 ∧ i = .int .i64 t ∧ at_ = .int .i64 N ∧ scN c O line t = (N, F) ∧ u3 = wr)
  case atStart => exact ⟨0, 0, zeroM, by omega, by omega, rfl, rfl, sc_zero c O line, rfl⟩
  case round =>
    obtain ⟨t, N, F, ht, hg, rfl, rfl, hs, hw⟩ := hrel
    subst hw
    have TG := Lib.hid hg
    have HS := Lib.hid hs
    clear hg hs
    by_cases hlt : t < 40
    · skip
      have l1 : (t : Int) < 40 := by omega
      have l0 : (0 : Int) ≤ t := by omega
      have T1 := TD.out t hlt
      rw [HS.out] at T1
      dsimp only at T1
      rw [HV.out t] at T1
      have TB := Lib.hid T1
      have NX := Lib.hid (show (N < 10 ∧ (decide (O (4 * t) - 16 ≤ line) && decide (line < O (4 * t) - 16 + 16)) = true) → ∃ F2, scN c O line (t + 1) = (N + 1, F2) from fun h => by have := sc_yes c O line t (by rw [HS.out]; exact h.1) (by rw [HV.out t]; exact h.2); rw [HS.out] at this; exact ⟨_, this⟩)
      have NZ := Lib.hid (show ¬ (N < 10 ∧ (decide (O (4 * t) - 16 ≤ line) && decide (line < O (4 * t) - 16 + 16)) = true) → scN c O line (t + 1) = (N, F) from fun h => by have := sc_no c O line t (by rw [HS.out, HV.out t]; exact h); rw [HS.out] at this; exact this)
      clear T1
      have hM := (HM0.out.at HN.out B3.out)
      obtain ⟨a2, l2, c2, e2_, m1, m2, m3, m4, m5⟩ := hM
      injection e2_ with ea eb ec
      subst ea eb ec
      obtain ⟨st, hst⟩ : ∃ m, m = 4 * t := ⟨_, rfl⟩
      rw [← hst] at TB NX NZ
      have es : 4 * (t : Int) = (st : Int) := by omega
      have s0 : (0 : Int) ≤ (st : Int) := by omega
      clear hst m1 m2
      by_cases hm : st < n
      · skip
        have l2 : (st : Int) < n := by omega
        obtain ⟨b, o, rfl, e3, e4⟩ := m5 (by omega)
        have hc9 := e4 st hm
        have y0 := m3 st
        obtain ⟨y, hy⟩ : ∃ q_, q_ = O st := ⟨_, rfl⟩
        rw [← hy] at hc9 y0 TB NX NZ
        clear m3 m4 m5 e4 hy e3
        by_cases ht2 : N < 10 ∧ (decide (y - 16 ≤ line) && decide (line < y - 16 + 16)) = true
        · skip
          have tb := TB.out.2 ht2
          obtain ⟨F2, hx⟩ := NX.out ht2
          have HX := Lib.hid hx
          have g2 := ht2.2
          rw [Bool.and_eq_true, decide_eq_true_eq, decide_eq_true_eq] at g2
          have d1 : y - 16 ≤ line := g2.1
          have d2 : line < y - 16 + 16 := g2.2
          have d3 : line < y - 0 := by omega
          have N10 : (N : Int) < 10 := by omega
          have tl := tb.1
          have tv := tb.2
          clear hx g2 tb
          obtain ⟨rfl, hgl, hrc, hrf⟩ := HR.out (by omega)
          have hr0 := hrc N (by omega)
          have hr1 := hrf N
          have n1 : (N : Int) < (L : Int) := by omega
          have n0 : (0 : Int) ≤ (N : Int) := by omega
          rw [tv] at hr0
          clear tv
          clear hrc hrf
          clear ht2 TB NX NZ
          go_wp2_with (fail)
          go_roundg (40 - (t + 1))
          case measure => have := TG.out; omega
          case rel => exact ⟨t + 1, N + 1, F2, by omega, by have := TG.out; omega, by simp, by first | rfl | simp, HX.out, rfl⟩
        · skip
          have HX := Lib.hid (NZ.out ht2)
          by_cases tl : N < L
          · skip
            have tv : ¬ FF N = (t : Int) := fun h => ht2 (TB.out.1 ⟨tl, h⟩)
            obtain ⟨rfl, hgl, hrc, hrf⟩ := HR.out (by omega)
            have hr0 := hrc N (by omega)
            have hr1 := hrf N
            have n1 : (N : Int) < (L : Int) := by omega
            have n0 : (0 : Int) ≤ (N : Int) := by omega
            obtain ⟨x, hx⟩ : ∃ q_, q_ = FF N := ⟨_, rfl⟩
            rw [← hx] at hr0 tv
            have tv2 : (x == (t : Int)) = false := by simp; exact tv
            clear hx
            clear hrc hrf
            by_cases d1 : y - 16 ≤ line
            · skip
              by_cases d2 : line < y - 16 + 16
              · skip
                exact absurd ⟨by have := LE.out; omega, by rw [decide_eq_true d1, decide_eq_true d2]; rfl⟩ ht2
              · skip
                have d3 : ¬ line < y - 0 := by omega
                clear ht2 TB NX NZ
                go_wp2_with (fail)
                go_roundg (40 - (t + 1))
                case measure => have := TG.out; omega
                case rel => exact ⟨t + 1, N, F, by omega, by have := TG.out; omega, by simp, by first | rfl | simp, HX.out, rfl⟩
            · skip
              clear ht2 TB NX NZ
              go_wp2_with (fail)
              go_roundg (40 - (t + 1))
              case measure => have := TG.out; omega
              case rel => exact ⟨t + 1, N, F, by omega, by have := TG.out; omega, by simp, by first | rfl | simp, HX.out, rfl⟩
          · skip
            have n1 : ¬ (N : Int) < (L : Int) := by omega
            by_cases d1 : y - 16 ≤ line
            · skip
              by_cases d2 : line < y - 16 + 16
              · skip
                have N10 : ¬ (N : Int) < 10 := fun h => ht2 ⟨by omega, by rw [decide_eq_true d1, decide_eq_true d2]; rfl⟩
                have d3 : line < y - 0 := by omega
                clear ht2 TB NX NZ
                go_wp2_with (fail)
                go_roundg (40 - (t + 1))
                case measure => have := TG.out; omega
                case rel => exact ⟨t + 1, N, F, by omega, by have := TG.out; omega, by simp, by first | rfl | simp, HX.out, rfl⟩
              · skip
                have d3 : ¬ line < y - 0 := by omega
                clear ht2 TB NX NZ
                go_wp2_with (fail)
                go_roundg (40 - (t + 1))
                case measure => have := TG.out; omega
                case rel => exact ⟨t + 1, N, F, by omega, by have := TG.out; omega, by simp, by first | rfl | simp, HX.out, rfl⟩
            · skip
              clear ht2 TB NX NZ
              go_wp2_with (fail)
              go_roundg (40 - (t + 1))
              case measure => have := TG.out; omega
              case rel => exact ⟨t + 1, N, F, by omega, by have := TG.out; omega, by simp, by first | rfl | simp, HX.out, rfl⟩
      · skip
        have l2 : ¬ (st : Int) < n := by omega
        have oz := m4 st (by omega)
        rw [oz] at TB NX NZ
        clear m3 m4 m5 oz
        by_cases ht2 : N < 10 ∧ (decide (0 - 16 ≤ line) && decide (line < 0 - 16 + 16)) = true
        · exact absurd ht2.2 (by rw [Bool.and_eq_true, decide_eq_true_eq, decide_eq_true_eq]; omega)
        · skip
          have HX := Lib.hid (NZ.out ht2)
          by_cases tl : N < L
          · skip
            have tv : ¬ FF N = (t : Int) := fun h => ht2 (TB.out.1 ⟨tl, h⟩)
            obtain ⟨rfl, hgl, hrc, hrf⟩ := HR.out (by omega)
            have hr0 := hrc N (by omega)
            have hr1 := hrf N
            have n1 : (N : Int) < (L : Int) := by omega
            have n0 : (0 : Int) ≤ (N : Int) := by omega
            obtain ⟨x, hx⟩ : ∃ q_, q_ = FF N := ⟨_, rfl⟩
            rw [← hx] at hr0 tv
            have tv2 : (x == (t : Int)) = false := by simp; exact tv
            clear hx
            clear hrc hrf
            have d1 : (-16 : Int) ≤ line := by omega
            have d2 : ¬ line < 0 := by omega
            clear ht2 TB NX NZ
            go_wp2_with (fail)
            go_roundg (40 - (t + 1))
            case measure => have := TG.out; omega
            case rel => exact ⟨t + 1, N, F, by omega, by have := TG.out; omega, by simp, by first | rfl | simp, HX.out, rfl⟩
          · skip
            have n1 : ¬ (N : Int) < (L : Int) := by omega
            have d1 : (-16 : Int) ≤ line := by omega
            have d2 : ¬ line < 0 := by omega
            clear ht2 TB NX NZ
            go_wp2_with (fail)
            go_roundg (40 - (t + 1))
            case measure => have := TG.out; omega
            case rel => exact ⟨t + 1, N, F, by omega, by have := TG.out; omega, by simp, by first | rfl | simp, HX.out, rfl⟩
    · skip
      have te : t = 40 := by omega
      subst te
      have h4 := HL.out
      rw [HS.out] at h4
      injection h4 with h4 h5
      have LL := LE.out
      subst h4
      have l1 : ¬ ((40 : Nat) : Int) < 40 := by omega
      have l2 : (L : Int) ≤ 10 := by omega
      clear h5
      go_wp2_with (fail)
      all_goals exact bodyPost_ret (v := .bool true) (by simp [results, Try.results5, go_sem]) rfl ⟨rfl, B3.out⟩
theorem ten_walk (c bk fi se : Int) (c0 : 0 ≤ c) (c1 : c < 256) (bk0 : 0 ≤ bk) (bk1 : bk < 256) (fi0 : 0 ≤ fi) (fi1 : fi < 256) (se0 : 0 ≤ se) (se1 : se < 256) (b : Value) (line : Int) (line0 : 0 ≤ line) (line1 : line < 256) (w : World) (hin : MemIn w b) : Calls Try.prog 5 #[b, .agg #[.int .u8 c, .int .u8 bk, .int .u8 fi, .int .u8 se], .int .u8 line] w fun q_ w' => q_ = .returned (.bool true) ∧ Below w.heap.size w w' := by
  obtain ⟨a, n, cp, rfl, h1, h2⟩ := hin
  by_cases h : 300 < n
  · exact ten_long c bk fi se c0 c1 bk0 bk1 fi0 fi1 se0 se1 a n cp line line0 line1 h w
  · obtain ⟨O, hO⟩ := h2 (by omega)
    rcases bit_bd c 2 with hb | hb
    · exact ten_0 c bk fi se c0 c1 bk0 bk1 fi0 fi1 se0 se1 a n cp O line line0 line1 (by omega) hb w hO
    · exact ten_1 c bk fi se c0 c1 bk0 bk1 fi0 fi1 se0 se1 a n cp O line line0 line1 (by omega) hb w hO
end Go.Proofs.Ytiekojnhkemjlaa
