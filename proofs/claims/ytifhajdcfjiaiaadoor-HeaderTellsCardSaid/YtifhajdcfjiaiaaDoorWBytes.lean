/-
  The walk through HeaderBytes: for every world in which the bytes and the two tables lie as told; no other condition.
-/
import Derived.Test.YtifhajdcfjiaiaaDoorOpn
import Derived.Test.YtifhajdcfjiaiaaDoorRpar
namespace Go.Proofs.YtifhajdcfjiaiaaDoor
open Go.ChangeShapes Go.WideShapes Go.ChangeAt Go.RowKit
set_option linter.unusedVariables false
set_option maxRecDepth 100000
theorem rparse_v {w : World} {v : Value} {n : Nat} {f : Nat → Int} {ph : HV} {pe : Int} (h : By w v n f) (hp : parV n f = ph) (he : perr n f = pe) : Calls Tryd.prog 12 #[v] w fun e w' => e = .returned (.tuple #[.agg #[.string ph.t, .int .i64 ph.k, .bool ph.c, .bool ph.b, .int .i64 ph.n, .int .i64 ph.r, .bool ph.w], .int .i64 pe]) ∧ Below w.heap.size w w' := by
  subst hp
  subst he
  obtain ⟨h1, h2, ⟨h0, a, c, rfl⟩ | ⟨h0, b, o, c, rfl, hc, hl, hr⟩⟩ := h
  · have e : perr n f = 2 := if_pos h0
    rw [e, show parV n f = noH by unfold parV; rw [e]; rfl]
    exact rparse_short a n c w h0
  · by_cases hs : f 333 = chk f 25
    · exact rparse_rest b o n c f w hl h0 h1 hc hr h2 hs
    · have e : perr n f = 4 := by unfold perr; rw [if_neg (by omega), if_pos hs]
      rw [e, show parV n f = noH by unfold parV; rw [e]; rfl]
      exact rparse_sum b o n c f w hl h0 h1 hc hr h2 hs
set_option maxHeartbeats 2000000 in
theorem bytes_long (a : Option Addr) (n c : Nat) (hn : n ≤ 9223372036854775807) (h0 : 70000 < n) (w : World) (G : Glob w) : Calls Tryd.prog 4 #[.slice a n c] w fun e w' => e = .returned (.bool true) ∧ Below w.heap.size w w' := by
  have GG := Lib.hid G
  have hnot : ∀ (x : Bool) (w : World), (Op.unary .not (.bool x)).run Tryd.prog w = .ok (.bool (!x)) w := fun _ _ => rfl
  have AW := Lib.hid (awake_c w G)
  have h0I : (70000 : Int) < n := by omega
  clear G hn
  go_enter Tryd.func4, Tryd.ntmps4
  go_wp2_with fail
  with_reducible refine AW.out.mono ?_
  rintro e w1 ⟨rfl, b1⟩
  have B1 := Lib.hid b1
  have A2 := Lib.hid (awake_c w1 (GG.out.below b1))
  clear b1 AW
  go_wp2_with fail
  with_reducible refine A2.out.mono ?_
  rintro e w2 ⟨rfl, b2⟩
  have B2 := Lib.hid (via B1.out b2)
  clear b2
  go_wp2
  go_ret
  exact ⟨rfl, B2.out⟩
set_option maxHeartbeats 2000000 in
theorem bytes_some (v : Value) (a : Option Addr) (n c : Nat) (f : Nat → Int) (h0 : ¬ 70000 < n) (hv : v = .slice a n c) (w : World) (BY : By w v n f) (G : Glob w) : Calls Tryd.prog 4 #[v] w fun e w' => e = .returned (.bool true) ∧ Below w.heap.size w w' := by
  have GG := Lib.hid G
  have Y0 := Lib.hid BY
  have hnot : ∀ (x : Bool) (w : World), (Op.unary .not (.bool x)).run Tryd.prog w = .ok (.bool (!x)) w := fun _ _ => rfl
  have AW := Lib.hid (awake_c w G)
  have h0I : ¬ (70000 : Int) < n := by omega
  subst hv
  clear G BY
  go_enter Tryd.func4, Tryd.ntmps4
  go_wp2_with fail
  with_reducible refine AW.out.mono ?_
  rintro e w1 ⟨rfl, b1⟩
  have B1 := Lib.hid b1
  have Y1 := Lib.hid (Y0.out.below b1)
  clear b1 AW Y0
  obtain ⟨ph, hph⟩ : ∃ q_, parV n f = q_ := ⟨_, rfl⟩
  obtain ⟨pe, hpe⟩ : ∃ q_, perr n f = q_ := ⟨_, rfl⟩
  have HP := Lib.hid hph
  have HE := Lib.hid hpe
  clear hph hpe
  go_wp2_with fail
  with_reducible refine (parse_v Y1.out (GG.out.below B1.out) HP.out HE.out).mono ?_
  rintro e w2 ⟨rfl, b2⟩
  have Q2 := own1 w2 (.cells #[.string ph.t, .int .i64 ph.k, .bool ph.c, .bool ph.b, .int .i64 ph.n, .int .i64 ph.r, .bool ph.w] 27)
  have B3 := Lib.hid (via (via B1.out b2) Q2)
  have Y3 := Lib.hid ((Y1.out.below b2).below Q2)
  have H3 := Lib.hid (Has.new w2 #[.string ph.t, .int .i64 ph.k, .bool ph.c, .bool ph.b, .int .i64 ph.n, .int .i64 ph.r, .bool ph.w] 27)
  clear b2 Q2 B1 Y1
  go_wp2_with fail
  generalize w2.alloc (.cells #[.string ph.t, .int .i64 ph.k, .bool ph.c, .bool ph.b, .int .i64 ph.n, .int .i64 ph.r, .bool ph.w] 27) = w3 at B3 Y3 H3 ⊢
  generalize w2.heap.size = g3 at H3 ⊢
  with_reducible refine (rparse_v Y3.out HP.out HE.out).mono ?_
  rintro e w4 ⟨rfl, b4⟩
  have Q4 := own1 w4 (.cells #[.string ph.t, .int .i64 ph.k, .bool ph.c, .bool ph.b, .int .i64 ph.n, .int .i64 ph.r, .bool ph.w] 31)
  have B5 := Lib.hid (via (via B3.out b4) Q4)
  have Y5 := Lib.hid ((Y3.out.below b4).below Q4)
  have H5 := Lib.hid ((H3.out.below b4).below Q4)
  have N5 := Lib.hid (Has.new w4 #[.string ph.t, .int .i64 ph.k, .bool ph.c, .bool ph.b, .int .i64 ph.n, .int .i64 ph.r, .bool ph.w] 31)
  clear b4 Q4 B3 Y3 H3
  go_upto_region 5 with (fail)
  generalize w4.alloc (.cells #[.string ph.t, .int .i64 ph.k, .bool ph.c, .bool ph.b, .int .i64 ph.n, .int .i64 ph.r, .bool ph.w] 31) = w5 at B5 Y5 H5 N5 ⊢
  generalize w4.heap.size = g5 at N5 ⊢
  have h3 := H5.out.2.1
  have h5 := N5.out.2.1
  have S5 := Lib.hid (sum_c Y5.out)
  have C5 := Lib.hid (check_c Y5.out)
  have D5 := Lib.hid (rcheck_c Y5.out)
  generalize chkV n f = ck at C5 D5
  obtain ⟨sm, hsm⟩ : ∃ q_, sumV n f = q_ := ⟨_, rfl⟩
  rw [hsm] at S5
  have SM := Lib.hid hsm
  clear hsm
  go_wp2_with fail
  with_reducible refine C5.out.mono ?_
  rintro e w6 ⟨rfl, rfl⟩
  go_wp2_with fail
  with_reducible refine D5.out.mono ?_
  rintro e w6 ⟨rfl, rfl⟩
  go_wp2_with fail
  with_reducible refine S5.out.mono ?_
  rintro e w6 ⟨rfl, b6⟩
  have B6 := Lib.hid (via B5.out b6)
  have R6 := Lib.hid (rsum_c (Y5.out.below b6))
  clear b6
  go_wp2_with fail
  have r6 := R6.out
  rw [SM.out] at r6
  have R7 := Lib.hid r6
  clear r6
  with_reducible refine R7.out.mono ?_
  rintro e w7 ⟨rfl, rfl⟩
  go_wp2
  go_ret
  exact ⟨rfl, B6.out⟩
theorem by_in {W : World} {a : Option Addr} {n c : Nat} {f : Nat → Int} (hn : n < 2147483648) (ok : okB f) (hc : n ≤ c) (h : 0 < n → ∃ b o, a = some ⟨b, o, none⟩ ∧ b < W.heap.size ∧ Rd W b o n f) : By W (.slice a n c) n f := by
  refine ⟨hn, ok, ?_⟩
  rcases Nat.lt_or_ge n 336 with h0 | h0
  · exact Or.inl ⟨h0, _, _, rfl⟩
  · obtain ⟨b, o, rfl, hl, hr⟩ := h (by omega)
    exact Or.inr ⟨h0, b, o, c, rfl, hc, hl, hr⟩
theorem bytes_walk (v : Value) {w : World} (h : ByIn w v) (G : Glob w) : Calls Tryd.prog 4 #[v] w fun e w' => e = .returned (.bool true) ∧ Below w.heap.size w w' := by
  obtain ⟨a, n, c, rfl, hn, f, ok, hc, hr⟩ := h
  by_cases h0 : 70000 < n
  · exact bytes_long a n c hn h0 w G
  · exact bytes_some _ a n c f h0 rfl w (by_in (by omega) ok hc hr) G
end Go.Proofs.YtifhajdcfjiaiaaDoor
