/-
  The walk through HeaderSums: for every world in which the two tables lie as told; no other condition.
-/
import Derived.Test.YtifhajdcfjiaiaaDoorAwk
namespace Go.Proofs.YtifhajdcfjiaiaaDoor
open Go.ChangeShapes Go.WideShapes Go.ChangeAt Go.RowKit
set_option linter.unusedVariables false
set_option maxRecDepth 100000
set_option maxHeartbeats 2000000 in
theorem sums_zero (k bn r at_ : Nat) (w : World) (G : Glob w) : Calls Tryd.prog 5 #[.int .u8 k, .int .u8 bn, .int .u8 r, .int .u8 at_, .int .u8 0] w fun e w' => e = .returned (.bool true) ∧ Below w.heap.size w w' := by
  have GG := Lib.hid G
  have hnot : ∀ (x : Bool) (w : World), (Op.unary .not (.bool x)).run Tryd.prog w = .ok (.bool (!x)) w := fun _ _ => rfl
  have AW := Lib.hid (awake_c w G)
  clear G
  go_enter Tryd.func5, Tryd.ntmps5
  go_wp2_with fail
  with_reducible refine AW.out.mono ?_
  rintro e w1 ⟨rfl, b1⟩
  have B1 := Lib.hid b1
  have A2 := Lib.hid (awake_c w1 (GG.out.below b1))
  clear b1 AW
  go_wp2_with fail
  with_reducible refine A2.out.mono ?_
  rintro e w2 ⟨rfl, b2⟩
  have B2 := Lib.hid (via B1.out b2)
  clear b2
  go_wp2
  go_ret
  exact ⟨rfl, B2.out⟩
set_option maxHeartbeats 2000000 in
theorem sums_some (k bn r at_ d : Nat) (hk : k < 256) (hb : bn < 256) (hr : r < 256) (ha : at_ < 256) (hd : d < 256) (h0 : d ≠ 0) (w : World) (G : Glob w) : Calls Tryd.prog 5 #[.int .u8 k, .int .u8 bn, .int .u8 r, .int .u8 at_, .int .u8 d] w fun e w' => e = .returned (.bool true) ∧ Below w.heap.size w w' := by
  have GG := Lib.hid G
  have hnot : ∀ (x : Bool) (w : World), (Op.unary .not (.bool x)).run Tryd.prog w = .ok (.bool (!x)) w := fun _ _ => rfl
  have AW := Lib.hid (awake_c w G)
  clear G
  obtain ⟨q, hq⟩ : ∃ q, bn % 3 = q := ⟨_, rfl⟩
  have hq1 : (bn : Int) % 3 = q := by omega
  have hq2 : (bn : Int).tmod 3 = q := by rw [Int.tmod_eq_emod_of_nonneg (by omega)]; exact hq1
  have hqi : (q : Int) < 256 := by omega
  have hq9 : q % 9 = q := by omega
  obtain ⟨s, hs⟩ : ∃ s, at_ % 25 = s := ⟨_, rfl⟩
  have hs1 : (at_ : Int) % 25 = s := by omega
  have hs2 : (at_ : Int).tmod 25 = s := by rw [Int.tmod_eq_emod_of_nonneg (by omega)]; exact hs1
  have s25 : s < 25 := by omega
  have hbI : (bn : Int) < 256 := by omega
  have haI : (at_ : Int) < 256 := by omega
  have hdI : (d : Int) < 256 := by omega
  have hd0 : ((d : Int) == 0) = false := by simpa using h0
  have HQ := Lib.hid hq9
  clear hq hs
  go_enter Tryd.func5, Tryd.ntmps5
  go_wp2_with fail
  with_reducible refine AW.out.mono ?_
  rintro e w1 ⟨rfl, b1⟩
  have B1 := Lib.hid b1
  clear b1 AW hq9
  have MC := made_c k r q none 0 0 zf w1 (by omega) (by omega) (by omega) (by omega) zf_ok (fun h => absurd h (by omega))
  rw [HQ.out] at MC
  have MH := Lib.hid MC
  clear MC
  go_wp2_with fail
  with_reducible refine MH.out.mono ?_
  rintro e w2 ⟨rfl, O2, b2⟩
  have B2 := Lib.hid (via B1.out b2)
  have LG := Lib.hid B1.out.size
  have MO := Lib.hid (made_ok (p := zf) (b := (q : Int)) (min 0 15000) (show 0 ≤ (k : Int) ∧ (k : Int) < 256 by omega) (by omega) (show 0 ≤ (r : Int) ∧ (r : Int) < 256 by omega) zf_ok)
  have MS := Lib.hid (made_sum (k : Int) q r zf (min 0 15000))
  have n0 := szN_ge q
  have n1 := szN_le q (by omega)
  generalize szN q = n at O2 n0 n1 ⊢
  generalize made (k : Int) q r zf (min 0 15000) = f at O2 MO MS
  have OH := Lib.hid O2
  generalize w1.heap.size = g at OH LG ⊢
  clear O2 b2 MH B1
  have cS := OH.out.mem (308 + s) (by omega)
  have fS := OH.out.free (308 + s)
  have fb := MO.out (308 + s)
  have hI : (308 : Int) + s < n := by omega
  have hT : ((308 : Int) + s).toNat = 308 + s := by omega
  have P4 := Lib.hid (sums_bad n (by omega) f MO.out MS.out s s25 d (by omega) (by omega))
  have O3 := Lib.hid (OH.out.set (308 + s) (by omega) ((f (308 + s) + d) % 256))
  have B3 := Lib.hid (B2.out.setCell (p := ⟨g, 308 + s, none⟩) LG.out (.int .u8 ((f (308 + s) + d) % 256)))
  have M3 := Lib.hid (MO.out.upd (308 + s) ((f (308 + s) + d) % 256) (by omega) (by omega))
  generalize hf3 : upd f (308 + s) ((f (308 + s) + d) % 256) = f3 at P4 O3 M3
  clear hf3
  generalize f (308 + s) = x at cS fb O3 B3
  go_wp2_with fail
  clear cS fS fb
  generalize w2.setCell ⟨g, 308 + s, none⟩ (.int .u8 ((x + d) % 256)) = w3 at O3 B3 ⊢
  obtain ⟨ph, hph⟩ : ∃ q_, parV n f3 = q_ := ⟨_, rfl⟩
  have PC := Lib.hid (parse_v (O3.out.by M3.out (by omega)) (GG.out.below B3.out) hph P4.out)
  clear hph
  with_reducible refine PC.out.mono ?_
  rintro e w4 ⟨rfl, b4⟩
  have Q4 := own1 w4 (.cells #[.string ph.t, .int .i64 ph.k, .bool ph.c, .bool ph.b, .int .i64 ph.n, .int .i64 ph.r, .bool ph.w] 27)
  have B5 := Lib.hid (via (via B3.out b4) Q4)
  have O5 := Lib.hid ((O3.out.below b4).below Q4)
  clear b4 Q4 PC
  go_wp2_with fail
  generalize w4.alloc (.cells #[.string ph.t, .int .i64 ph.k, .bool ph.c, .bool ph.b, .int .i64 ph.n, .int .i64 ph.r, .bool ph.w] 27) = w5 at B5 O5 ⊢
  have CC := Lib.hid (check_c (O5.out.by M3.out (by omega)))
  with_reducible refine CC.out.mono ?_
  rintro e w6 ⟨rfl, rfl⟩
  have c3 := O5.out.mem 333 (by omega)
  have f3' := O5.out.free 333
  have i3 : (333 : Int) < n := by omega
  have SG := Lib.hid (sums_good n (by omega) f3)
  have cb := chkV_bd n f3
  have O6 := Lib.hid (O5.out.set 333 (by omega) (chkV n f3))
  have B6 := Lib.hid (B5.out.setCell (p := ⟨g, 333, none⟩) LG.out (.int .u8 (chkV n f3)))
  have M6 := Lib.hid (M3.out.upd 333 (chkV n f3) cb.1 cb.2)
  generalize upd f3 333 (chkV n f3) = f6 at SG O6 M6
  generalize chkV n f3 = ck at O6 B6 ⊢
  generalize f3 333 = c333 at c3
  go_wp2_with fail
  clear c3 f3'
  generalize w5.setCell ⟨g, 333, none⟩ (.int .u8 ck) = w6 at O6 B6 ⊢
  obtain ⟨pg, hpg⟩ : ∃ q_, parV n f6 = q_ := ⟨_, rfl⟩
  obtain ⟨pe, hpe⟩ : ∃ q_, perr n f6 = q_ := ⟨_, rfl⟩
  have PC := Lib.hid (parse_v (O6.out.by M6.out (by omega)) (GG.out.below B6.out) hpg hpe)
  have sg := SG.out
  rw [hpe] at sg
  have e4 : (pe != 4) = true := by simpa using sg.1
  have e2 : (pe != 2) = true := by simpa using sg.2
  clear hpg hpe sg
  with_reducible refine PC.out.mono ?_
  rintro e w7 ⟨rfl, b7⟩
  have B8 := Lib.hid (via (via B6.out b7) (own1 w7 (.cells #[.string pg.t, .int .i64 pg.k, .bool pg.c, .bool pg.b, .int .i64 pg.n, .int .i64 pg.r, .bool pg.w] 27)))
  clear b7 PC
  go_wp2
  go_ret
  exact ⟨rfl, B8.out⟩
theorem sums_walk (k bn r at_ d : Nat) (hk : k < 256) (hb : bn < 256) (hr : r < 256) (ha : at_ < 256) (hd : d < 256) (w : World) (G : Glob w) : Calls Tryd.prog 5 #[.int .u8 k, .int .u8 bn, .int .u8 r, .int .u8 at_, .int .u8 d] w fun e w' => e = .returned (.bool true) ∧ Below w.heap.size w w' := by
  by_cases h0 : d = 0
  · subst h0; exact sums_zero k bn r at_ w G
  · exact sums_some k bn r at_ d hk hb hr ha hd h0 w G
end Go.Proofs.YtifhajdcfjiaiaaDoor
