/-
  The walk through HeaderTells: for every world in which the pairs and the two tables lie as told; no other condition.
-/
import Derived.Test.YtifhajdcfjiaiaaDoorWBytes
import Derived.Test.YtifhajdcfjiaiaaDoorCart
namespace Go.Proofs.YtifhajdcfjiaiaaDoor
open Go.ChangeShapes Go.WideShapes Go.ChangeAt Go.RowKit
set_option linter.unusedVariables false
set_option maxRecDepth 100000
set_option maxHeartbeats 2000000 in
theorem tells_long (k bn r : Nat) (a : Option Addr) (n c : Nat) (ck : Bool) (ct : Int) (h0 : 30 < n) (w : World) (G : Glob w) : Calls Tryd.prog 3 #[.int .u8 k, .int .u8 bn, .int .u8 r, .slice a n c, .bool ck, .int .i64 ct] w fun e w' => e = .returned (.bool true) ∧ Below w.heap.size w w' := by
  have GG := Lib.hid G
  have hnot : ∀ (x : Bool) (w : World), (Op.unary .not (.bool x)).run Tryd.prog w = .ok (.bool (!x)) w := fun _ _ => rfl
  have AW := Lib.hid (awake_c w G)
  have h0I : (30 : Int) < n := by omega
  clear G
  go_enter Tryd.func3, Tryd.ntmps3
  go_wp2_with fail
  with_reducible refine AW.out.mono ?_
  rintro e w1 ⟨rfl, b1⟩
  have B1 := Lib.hid b1
  have A2 := Lib.hid (awake_c w1 (GG.out.below b1))
  clear b1 AW
  go_wp2_with fail
  with_reducible refine A2.out.mono ?_
  rintro e w2 ⟨rfl, b2⟩
  have B2 := Lib.hid (via B1.out b2)
  clear b2
  go_wp2
  go_ret
  exact ⟨rfl, B2.out⟩
set_option maxHeartbeats 4000000 in
theorem tells_some (k bn r : Nat) (hk : k < 256) (hb : bn < 256) (hr : r < 256) (a0 : Option Addr) (m c0 : Nat) (h0 : ¬ 30 < m) (p g' : Nat → Int) (hp : okB p) (hg' : okB g') (ck : Bool) (ct : Int) (q0 : -9223372036854775808 ≤ ct) (q1 : ct ≤ 9223372036854775807) (w : World)
    (hin : 0 < m → ∃ b o, a0 = some ⟨b, o, none⟩ ∧ b < w.heap.size ∧ ∀ j, j < m → w.cell? ⟨b, o + j * 2, none⟩ = some (.int .u8 (p j)) ∧ w.cell? ⟨b, o + j * 2 + 1, none⟩ = some (.int .u8 (g' j))) (G : Glob w) :
    Calls Tryd.prog 3 #[.int .u8 k, .int .u8 bn, .int .u8 r, .slice a0 m c0, .bool ck, .int .i64 ct] w fun e w' => e = .returned (.bool true) ∧ Below w.heap.size w w' := by
  have GG := Lib.hid G
  have hnot : ∀ (x : Bool) (w : World), (Op.unary .not (.bool x)).run Tryd.prog w = .ok (.bool (!x)) w := fun _ _ => rfl
  have AW := Lib.hid (awake_c w G)
  have CC := Lib.hid (fun (W : World) (hW : Below w.heap.size w W) => cart_c k bn r hk hb hr a0 m c0 h0 p g' hp hg' ck ct q0 q1 W (fun h => by
    obtain ⟨b, o, e, hl, hc⟩ := hin h
    exact ⟨b, o, e, Nat.lt_of_lt_of_le hl hW.size, fun j hj => ⟨(hW.cell (p := ⟨b, o + j * 2, none⟩) hl).trans (hc j hj).1, (hW.cell (p := ⟨b, o + j * 2 + 1, none⟩) hl).trans (hc j hj).2⟩⟩))
  have h0I : ¬ (30 : Int) < m := by omega
  clear G hin hp hg' q0 q1
  go_enter Tryd.func3, Tryd.ntmps3
  go_wp2_with fail
  with_reducible refine AW.out.mono ?_
  rintro e w0 ⟨rfl, b0⟩
  have B0 := Lib.hid b0
  clear b0 AW
  go_wp2_with fail
  with_reducible refine (CC.out w0 B0.out).mono ?_
  rintro e w1 ⟨a, n, c, f, rfl, y1, b1⟩
  have Y1 := Lib.hid y1
  have B1 := Lib.hid (via B0.out b1)
  clear y1 b1 CC B0
  obtain ⟨ph, hph⟩ : ∃ q_, parV n f = q_ := ⟨_, rfl⟩
  obtain ⟨pe, hpe⟩ : ∃ q_, perr n f = q_ := ⟨_, rfl⟩
  have HP := Lib.hid hph
  have HE := Lib.hid hpe
  clear hph hpe
  go_wp2_with fail
  with_reducible refine (parse_v Y1.out (GG.out.below B1.out) HP.out HE.out).mono ?_
  rintro e w2 ⟨rfl, b2⟩
  have Q2 := own1 w2 (.cells #[.string ph.t, .int .i64 ph.k, .bool ph.c, .bool ph.b, .int .i64 ph.n, .int .i64 ph.r, .bool ph.w] 27)
  have B3 := Lib.hid (via (via B1.out b2) Q2)
  have Y3 := Lib.hid ((Y1.out.below b2).below Q2)
  have H3 := Lib.hid (Has.new w2 #[.string ph.t, .int .i64 ph.k, .bool ph.c, .bool ph.b, .int .i64 ph.n, .int .i64 ph.r, .bool ph.w] 27)
  clear b2 Q2 B1 Y1
  go_wp2_with fail
  generalize w2.alloc (.cells #[.string ph.t, .int .i64 ph.k, .bool ph.c, .bool ph.b, .int .i64 ph.n, .int .i64 ph.r, .bool ph.w] 27) = w3 at B3 Y3 H3 ⊢
  generalize w2.heap.size = g3 at H3 ⊢
  with_reducible refine (rparse_v Y3.out HP.out HE.out).mono ?_
  rintro e w4 ⟨rfl, b4⟩
  have Q4 := own1 w4 (.cells #[.string ph.t, .int .i64 ph.k, .bool ph.c, .bool ph.b, .int .i64 ph.n, .int .i64 ph.r, .bool ph.w] 31)
  have B5 := Lib.hid (via (via B3.out b4) Q4)
  have Y5 := Lib.hid ((Y3.out.below b4).below Q4)
  have H5 := Lib.hid ((H3.out.below b4).below Q4)
  have N5 := Lib.hid (Has.new w4 #[.string ph.t, .int .i64 ph.k, .bool ph.c, .bool ph.b, .int .i64 ph.n, .int .i64 ph.r, .bool ph.w] 31)
  clear b4 Q4 B3 Y3 H3
  go_upto_region 6 with (fail)
  generalize w4.alloc (.cells #[.string ph.t, .int .i64 ph.k, .bool ph.c, .bool ph.b, .int .i64 ph.n, .int .i64 ph.r, .bool ph.w] 31) = w5 at B5 Y5 H5 N5 ⊢
  generalize w4.heap.size = g5 at N5 ⊢
  have h3 := H5.out.2.1
  have h5 := N5.out.2.1
  have S5 := Lib.hid (sum_c Y5.out)
  have C5 := Lib.hid (check_c Y5.out)
  have D5 := Lib.hid (rcheck_c Y5.out)
  generalize chkV n f = ck at C5 D5
  obtain ⟨sm, hsm⟩ : ∃ q_, sumV n f = q_ := ⟨_, rfl⟩
  rw [hsm] at S5
  have SM := Lib.hid hsm
  clear hsm
  go_wp2_with fail
  with_reducible refine C5.out.mono ?_
  rintro e w6 ⟨rfl, rfl⟩
  go_wp2_with fail
  with_reducible refine D5.out.mono ?_
  rintro e w6 ⟨rfl, rfl⟩
  go_wp2_with fail
  with_reducible refine S5.out.mono ?_
  rintro e w6 ⟨rfl, b6⟩
  have B6 := Lib.hid (via B5.out b6)
  have R6 := Lib.hid (rsum_c (Y5.out.below b6))
  clear b6
  go_wp2_with fail
  have r6 := R6.out
  rw [SM.out] at r6
  have R7 := Lib.hid r6
  clear r6
  with_reducible refine R7.out.mono ?_
  rintro e w7 ⟨rfl, rfl⟩
  go_wp2
  go_ret
  exact ⟨rfl, B6.out⟩
theorem tells_walk (k bn r : Nat) (v : Value) (ck : Bool) (ct : Int) (hk : k < 256) (hb : bn < 256) (hr : r < 256) (q0 : -9223372036854775808 ≤ ct) (q1 : ct ≤ 9223372036854775807) (w : World) (h : PaIn w v) (G : Glob w) : Calls Tryd.prog 3 #[.int .u8 k, .int .u8 bn, .int .u8 r, v, .bool ck, .int .i64 ct] w fun e w' => e = .returned (.bool true) ∧ Below w.heap.size w w' := by
  obtain ⟨a, m, c, rfl, hm, p, g', hp, hg', hin⟩ := h
  by_cases h0 : 30 < m
  · exact tells_long k bn r a m c ck ct h0 w G
  · exact tells_some k bn r hk hb hr a m c h0 p g' hp hg' ck ct q0 q1 w hin G
end Go.Proofs.YtifhajdcfjiaiaaDoor
