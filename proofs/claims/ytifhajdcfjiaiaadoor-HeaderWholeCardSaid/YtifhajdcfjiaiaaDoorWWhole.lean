/-
  The walk through HeaderWhole: for every world in which the program's bytes and the two tables lie as told; no other condition.
-/
import Derived.Test.YtifhajdcfjiaiaaDoorOpn
namespace Go.Proofs.YtifhajdcfjiaiaaDoor
open Go.ChangeShapes Go.WideShapes Go.ChangeAt Go.RowKit
set_option linter.unusedVariables false
set_option maxRecDepth 100000
theorem ok_put {f : Nat → Int} (h : okB f) (s : Int) (h0 : 0 ≤ s) (h1 : s < 65536) : okB (upd (upd f 334 (s / 256)) 335 (s % 256)) := (h.upd 334 (s / 256) (by omega) (by omega)).upd 335 (s % 256) (by omega) (by omega)
theorem kindV_lo (x : Int) : -1 ≤ kindV x ∧ kindV x ≤ 5 := by
  unfold kindV
  split; omega
  split; omega
  split; omega
  split; omega
  split <;> omega
/-- With the sum at its place. -/
def sumAt (n : Nat) (f : Nat → Int) : Nat → Int := upd (upd f 334 (sumV n f / 256)) 335 (sumV n f % 256)
theorem sumAt_head (n : Nat) (f : Nat → Int) (i : Nat) (h : i ≠ 334) (h' : i ≠ 335) : sumAt n f i = f i := by
  unfold sumAt; rw [upd_far _ _ _ _ h', upd_far _ _ _ _ h]
theorem sumAt_sum (n : Nat) (f : Nat → Int) : sumV n (sumAt n f) = sumV n f := by
  unfold sumAt; rw [sumV_own n _ 335 _ (Or.inr rfl), sumV_own n _ 334 _ (Or.inl rfl)]
theorem sumAt_at (n : Nat) (f : Nat → Int) : sumAt n f 334 * 256 + sumAt n f 335 = sumV n f := by
  have e1 : sumAt n f 334 = sumV n f / 256 := by unfold sumAt; rw [upd_far _ _ _ _ (by decide), upd_same]
  have e2 : sumAt n f 335 = sumV n f % 256 := by unfold sumAt; rw [upd_same]
  rw [e1, e2]; omega
theorem sumAt_whole (n : Nat) (f : Nat → Int) (h : perr n (sumAt n f) = 0) : (parV n (sumAt n f)).w = true := by
  unfold parV
  rw [if_pos h]
  show decide (sumAt n f 334 * 256 + sumAt n f 335 = sumV n (sumAt n f)) = true
  rw [sumAt_at, sumAt_sum]
  simp
/-- One byte besides that is by more: it isn't whole. -/
theorem whole_not (n : Nat) (hn : 336 ≤ n) (f : Nat → Int) (ok : okB f) (h : perr n (sumAt n f) = 0) (s : Nat) (hs : s < n) (h1 : s < 308 ∨ 335 < s) (d : Int) (d0 : 0 < d) (d1 : d < 256) :
    perr n (upd (sumAt n f) s ((sumAt n f s + d) % 256)) = 0 ∧ (parV n (upd (sumAt n f) s ((sumAt n f s + d) % 256))).w = false := by
  have okS : okB (sumAt n f) := ok_put ok _ (sumV_bd n f).1 (sumV_bd n f).2
  have e0 : perr n (upd (sumAt n f) s ((sumAt n f s + d) % 256)) = 0 := by
    rw [← h]; exact perr_congr (fun i h2 h3 => upd_far _ _ _ _ (by omega))
  refine ⟨e0, ?_⟩
  unfold parV
  rw [if_pos e0]
  show decide (upd (sumAt n f) s ((sumAt n f s + d) % 256) 334 * 256 + upd (sumAt n f) s ((sumAt n f s + d) % 256) 335 = sumV n (upd (sumAt n f) s ((sumAt n f s + d) % 256))) = false
  rw [upd_far _ _ _ _ (by omega), upd_far _ _ _ _ (by omega), sumAt_at]
  have q := sumV_one n hn (sumAt n f) okS s hs (by omega) d d0 d1
  rw [sumAt_sum] at q
  simp
  exact fun e => q e.symm
set_option maxHeartbeats 2000000 in
theorem whole_long (k bn r : Nat) (a : Option Addr) (n c at_ d : Nat) (h0 : 3000 < n ∨ (¬ 3000 < n ∧ d = 0)) (w : World) (G : Glob w) : Calls Tryd.prog 7 #[.int .u8 k, .int .u8 bn, .int .u8 r, .slice a n c, .int .u16 at_, .int .u8 d] w fun e w' => e = .returned (.bool true) ∧ Below w.heap.size w w' := by
  have GG := Lib.hid G
  have hnot : ∀ (x : Bool) (w : World), (Op.unary .not (.bool x)).run Tryd.prog w = .ok (.bool (!x)) w := fun _ _ => rfl
  have AW := Lib.hid (awake_c w G)
  clear G
  rcases h0 with h0 | ⟨h0, rfl⟩
  · have h0I : (3000 : Int) < n := by omega
    go_enter Tryd.func7, Tryd.ntmps7
    go_wp2_with fail
    with_reducible refine AW.out.mono ?_
    rintro e w1 ⟨rfl, b1⟩
    have B1 := Lib.hid b1
    have A2 := Lib.hid (awake_c w1 (GG.out.below b1))
    clear b1 AW
    go_wp2_with fail
    with_reducible refine A2.out.mono ?_
    rintro e w2 ⟨rfl, b2⟩
    have B2 := Lib.hid (via B1.out b2)
    clear b2
    go_wp2
    go_ret
    exact ⟨rfl, B2.out⟩
  · have h0I : ¬ (3000 : Int) < n := by omega
    go_enter Tryd.func7, Tryd.ntmps7
    go_wp2_with fail
    with_reducible refine AW.out.mono ?_
    rintro e w1 ⟨rfl, b1⟩
    have B1 := Lib.hid b1
    have A2 := Lib.hid (awake_c w1 (GG.out.below b1))
    clear b1 AW
    go_wp2_with fail
    with_reducible refine A2.out.mono ?_
    rintro e w2 ⟨rfl, b2⟩
    have B2 := Lib.hid (via B1.out b2)
    clear b2
    go_wp2
    go_ret
    exact ⟨rfl, B2.out⟩
set_option maxHeartbeats 4000000 in
theorem whole_some (k bn r at_ d : Nat) (hk : k < 256) (hb : bn < 256) (hr : r < 256) (hat : at_ < 65536) (hd : d < 256) (hd0 : d ≠ 0) (a : Option Addr) (m c : Nat) (h0 : ¬ 3000 < m) (p : Nat → Int) (hp : okB p) (w : World)
    (hin : 0 < m → ∃ b o, a = some ⟨b, o, none⟩ ∧ b < w.heap.size ∧ Rd w b o m p) (G : Glob w) : Calls Tryd.prog 7 #[.int .u8 k, .int .u8 bn, .int .u8 r, .slice a m c, .int .u16 at_, .int .u8 d] w fun e w' => e = .returned (.bool true) ∧ Below w.heap.size w w' := by
  have GG := Lib.hid G
  have HIN := Lib.hid hin
  have HP := Lib.hid hp
  have hnot : ∀ (x : Bool) (w : World), (Op.unary .not (.bool x)).run Tryd.prog w = .ok (.bool (!x)) w := fun _ _ => rfl
  have AW := Lib.hid (awake_c w G)
  clear G hin hp
  obtain ⟨q, hq⟩ : ∃ q, bn % 3 = q := ⟨_, rfl⟩
  have hq1 : (bn : Int) % 3 = q := by omega
  have hq2 : (bn : Int).tmod 3 = q := by rw [Int.tmod_eq_emod_of_nonneg (by omega)]; exact hq1
  have hqi : (q : Int) < 256 := by omega
  have q2 : q ≤ 2 := by omega
  have HQ := Lib.hid (show q % 9 = q by omega)
  have hbI : (bn : Int) < 256 := by omega
  have hdI : (d : Int) < 256 := by omega
  have hdb : ((d : Int) == 0) = false := by simpa using hd0
  have h0I : ¬ (3000 : Int) < m := by omega
  clear hq
  go_enter Tryd.func7, Tryd.ntmps7
  go_wp2_with fail
  with_reducible refine AW.out.mono ?_
  rintro e w1 ⟨rfl, b1⟩
  have B1 := Lib.hid b1
  clear b1 AW
  have MC := made_c k r q a m c p w1 (by omega) (by omega) (by omega) (by omega) HP.out (fun h => by obtain ⟨b, o, e, hl, hr⟩ := HIN.out h; exact ⟨b, o, e, Nat.lt_of_lt_of_le hl B1.out.size, hr.below hl B1.out⟩)
  rw [HQ.out] at MC
  have MH := Lib.hid MC
  clear MC
  go_wp2_with fail
  with_reducible refine MH.out.mono ?_
  rintro e w2 ⟨rfl, O2, b2⟩
  have B2 := Lib.hid (via B1.out b2)
  have LG := Lib.hid B1.out.size
  have MO := Lib.hid (made_ok (p := p) (b := (q : Int)) (min m 15000) (show 0 ≤ (k : Int) ∧ (k : Int) < 256 by omega) (by omega) (show 0 ≤ (r : Int) ∧ (r : Int) < 256 by omega) HP.out)
  have PM := Lib.hid (perr_made (k : Int) r q (by omega) p (min m 15000))
  have n0 := szN_ge q
  have n1 := szN_le q (by omega)
  generalize szN q = n at O2 n0 n1 PM ⊢
  generalize made (k : Int) q r p (min m 15000) = f at O2 MO PM
  have OH := Lib.hid O2
  generalize w1.heap.size = g at OH LG ⊢
  clear O2 b2 MH B1
  have SC := Lib.hid (sum_c (OH.out.by MO.out (by omega)))
  go_wp2_with fail
  with_reducible refine SC.out.mono ?_
  rintro e w3 ⟨rfl, b3⟩
  have B3 := Lib.hid (via B2.out b3)
  have O3 := Lib.hid (OH.out.below b3)
  clear b3 SC OH B2
  have sb := sumV_bd n f
  have O5 := Lib.hid (show Own ((w3.setCell ⟨g, 334, none⟩ (.int .u8 (sumV n f / 256))).setCell ⟨g, 335, none⟩ (.int .u8 (sumV n f % 256))) g n (sumAt n f) from (O3.out.set 334 (by omega) _).set 335 (by omega) _)
  have B5 := Lib.hid (show Below w.heap.size w ((w3.setCell ⟨g, 334, none⟩ (.int .u8 (sumV n f / 256))).setCell ⟨g, 335, none⟩ (.int .u8 (sumV n f % 256))) from (B3.out.setCell (p := ⟨g, 334, none⟩) LG.out _).setCell (p := ⟨g, 335, none⟩) LG.out _)
  have M5 := Lib.hid (show okB (sumAt n f) from ok_put MO.out _ sb.1 sb.2)
  have PE5 := Lib.hid (PM.out (sumAt n f) (fun i h1 h2 => sumAt_head n f i (by omega) (by omega)))
  have SW := Lib.hid (sumAt_whole n f)
  have WN := Lib.hid (whole_not n (by omega) f MO.out)
  have c4 := O3.out.mem 334 (by omega)
  have c5 := O3.out.mem 335 (by omega)
  have ff := O3.out.free
  have i4 : (334 : Int) < n := by omega
  have i5 : (335 : Int) < n := by omega
  generalize hf5 : sumAt n f = f5 at O5 M5 PE5 SW WN
  clear hf5
  generalize sumV n f = sv at sb O5 B5 ⊢
  generalize f 334 = z4 at c4
  generalize f 335 = z5 at c5
  go_upto_region 6 with (fail)
  generalize ((w3.setCell ⟨g, 334, none⟩ (.int .u8 (sv / 256))).setCell ⟨g, 335, none⟩ (.int .u8 (sv % 256))) = w5 at O5 B5 ⊢
  clear c4 c5 ff O3 B3
  obtain ⟨ph, hph⟩ : ∃ q_, parV n f5 = q_ := ⟨_, rfl⟩
  obtain ⟨pe, hpe⟩ : ∃ q_, perr n f5 = q_ := ⟨_, rfl⟩
  rw [hpe] at PE5 SW WN
  rw [hph] at SW
  have PC := Lib.hid (parse_v (O5.out.by M5.out (by omega)) (GG.out.below B5.out) hph hpe)
  clear hph hpe
  go_wp2_with fail
  with_reducible refine PC.out.mono ?_
  rintro e w6 ⟨rfl, b6⟩
  have Q6 := own1 w6 (.cells #[.string ph.t, .int .i64 ph.k, .bool ph.c, .bool ph.b, .int .i64 ph.n, .int .i64 ph.r, .bool ph.w] 27)
  have B7 := Lib.hid (via (via B5.out b6) Q6)
  have O7 := Lib.hid ((O5.out.below b6).below Q6)
  have H7 := Lib.hid (Has.new w6 #[.string ph.t, .int .i64 ph.k, .bool ph.c, .bool ph.b, .int .i64 ph.n, .int .i64 ph.r, .bool ph.w] 27)
  have NG := Lib.hid (show g ≠ w6.heap.size by have := (O5.out.below b6).lt; omega)
  clear b6 Q6 PC B5 O5
  go_upto_region 7 with (fail)
  generalize w6.alloc (.cells #[.string ph.t, .int .i64 ph.k, .bool ph.c, .bool ph.b, .int .i64 ph.n, .int .i64 ph.r, .bool ph.w] 27) = w7 at B7 O7 H7 ⊢
  generalize w6.heap.size = h7 at H7 NG ⊢
  have KC := Lib.hid (kind_c (k : Int) w7)
  have pe5 := PE5.out
  have kb := kindV_lo (k : Int)
  generalize kindV (k : Int) = kv at KC pe5 kb
  by_cases hp0 : pe = 0
  · have WT := SW.out hp0
    have W0 := WN.out hp0
    subst hp0
    obtain ⟨s, hs⟩ : ∃ s : Nat, at_ % n = s := ⟨_, rfl⟩
    have hsn : s < n := by rw [← hs]; exact Nat.mod_lt _ (by omega)
    have hs1 : (at_ : Int) % (n : Int) = s := by rw [← hs, Int.natCast_emod]
    have hs2 : (at_ : Int).tmod (n : Int) = s := by rw [Int.tmod_eq_emod_of_nonneg (by omega)]; exact hs1
    have hsI : (s : Int) < n := by omega
    have hnz : ¬ (n : Int) = 0 := by omega
    have n0I : (0 : Int) < n := by omega
    have WH := Lib.hid W0
    have c7 := H7.out.2.1
    have cw : (Value.bool ph.w) = .bool true := by rw [WT]
    have WTH := Lib.hid WT
    clear hs W0 pe5 WT cw KC
    by_cases hin2 : 308 ≤ s ∧ s ≤ 335
    · have h1 : (308 : Int) ≤ s := by omega
      have h2 : (s : Int) ≤ 335 := by omega
      go_wp2
      go_ret
      exact ⟨by rw [← WTH.out]; rfl, B7.out⟩
    · have WX := WH.out s hsn (by omega) d (by omega) (by omega)
      have c8 := O7.out.mem s hsn
      have f8 := O7.out.free s
      have fb := M5.out s
      have O9 := Lib.hid (O7.out.set s hsn ((f5 s + d) % 256))
      have B9 := Lib.hid (B7.out.setCell (p := ⟨g, s, none⟩) LG.out (.int .u8 ((f5 s + d) % 256)))
      have H9 := Lib.hid (H7.out.far ⟨g, s, none⟩ (.int .u8 ((f5 s + d) % 256)) NG.out)
      have M9 := Lib.hid (M5.out.upd s ((f5 s + d) % 256) (by omega) (by omega))
      have WXH := Lib.hid WX
      clear WX
      generalize hf9 : upd f5 s ((f5 s + d) % 256) = f9 at O9 M9 WXH
      clear hf9
      generalize f5 s = xs at c8 fb O9 B9 H9
      have hins : ¬ (308 : Int) ≤ s ∨ ((308 : Int) ≤ s ∧ ¬ (s : Int) ≤ 335) := by omega
      clear hin2
      rcases hins with h1 | ⟨h1, h2⟩
      all_goals
        go_upto_region 13 with (fail)
        clear c8 f8 c7
        generalize w7.setCell ⟨g, s, none⟩ (.int .u8 ((xs + d) % 256)) = w9 at O9 B9 H9 ⊢
        obtain ⟨pg, hpg⟩ : ∃ q_, parV n f9 = q_ := ⟨_, rfl⟩
        have PC := Lib.hid (parse_v (O9.out.by M9.out (by omega)) (GG.out.below B9.out) hpg WXH.out.1)
        have gw := WXH.out.2
        rw [hpg] at gw
        have GW := Lib.hid gw
        clear hpg gw
        go_wp2_with fail
        with_reducible refine PC.out.mono ?_
        rintro e w10 ⟨rfl, b10⟩
        have Q10 := own1 w10 (.cells #[.string pg.t, .int .i64 pg.k, .bool pg.c, .bool pg.b, .int .i64 pg.n, .int .i64 pg.r, .bool pg.w] 27)
        have B11 := Lib.hid (via (via B9.out b10) Q10)
        have H11 := Lib.hid ((H9.out.below b10).below Q10)
        have A11 := Lib.hid (Has.new w10 #[.string pg.t, .int .i64 pg.k, .bool pg.c, .bool pg.b, .int .i64 pg.n, .int .i64 pg.r, .bool pg.w] 27)
        clear b10 Q10 PC
        go_upto_region 14 with (fail)
        generalize w10.alloc (.cells #[.string pg.t, .int .i64 pg.k, .bool pg.c, .bool pg.b, .int .i64 pg.n, .int .i64 pg.r, .bool pg.w] 27) = w11 at B11 H11 A11 ⊢
        generalize w10.heap.size = h11 at A11 ⊢
        have c11 := H11.out.2.1
        have d11 := A11.out.2.1
        have wt := WTH.out
        have gw := GW.out
        obtain ⟨pt, pk, pc, pb, pn, pr, pw⟩ := ph
        obtain ⟨gt, gk, gc, gb, gn, gr, gw'⟩ := pg
        dsimp only at wt gw c11 d11 ⊢
        subst wt
        subst gw
        go_wp2
        go_ret
        exact ⟨rfl, B11.out⟩
  · have hpb : (pe != 0) = true := by simpa using hp0
    have hor : kv < 0 ∨ (¬ kv < 0 ∧ (5 : Int) < r) := by
      by_cases h1 : kv < 0
      · exact Or.inl h1
      · right
        rw [if_neg h1] at pe5
        by_cases h2 : (5 : Int) < r
        · exact ⟨h1, h2⟩
        · rw [if_neg h2] at pe5; exact absurd pe5 hp0
    clear pe5 hp0
    rcases hor with h1 | ⟨h1, h2⟩
    all_goals
      go_wp2_with fail
      with_reducible refine KC.out.mono ?_
      rintro e w8 ⟨rfl, rfl⟩
      go_wp2
      go_ret
      exact ⟨rfl, B7.out⟩
theorem whole_walk (k bn r : Nat) (v : Value) (at_ d : Nat) (hk : k < 256) (hb : bn < 256) (hr : r < 256) (hat : at_ < 65536) (hd : d < 256) (w : World) (h : ByIn w v) (G : Glob w) : Calls Tryd.prog 7 #[.int .u8 k, .int .u8 bn, .int .u8 r, v, .int .u16 at_, .int .u8 d] w fun e w' => e = .returned (.bool true) ∧ Below w.heap.size w w' := by
  obtain ⟨a, m, c, rfl, hm, p, hp, hc, hin⟩ := h
  by_cases h0 : 3000 < m
  · exact whole_long k bn r a m c at_ d (Or.inl h0) w G
  · by_cases hd0 : d = 0
    · exact whole_long k bn r a m c at_ d (Or.inr ⟨h0, hd0⟩) w G
    · exact whole_some k bn r at_ d hk hb hr hat hd hd0 a m c h0 p hp w hin G
end Go.Proofs.YtifhajdcfjiaiaaDoor
