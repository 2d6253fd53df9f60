/-
  The walk through ClockCounts: for every time; no condition but that each number fits.
-/
import Derived.Test.YtkpjoongbckhcaaOpn
import Derived.Deep.Cut
namespace Go.Proofs.Ytkpjoongbckhcaa
open Go.ChangeShapes Go.WideShapes Go.ChangeAt Go.RowKit
set_option linter.unusedVariables false
set_option linter.unusedSimpArgs false
set_option maxRecDepth 100000
theorem clean60 (x t : Int) (hx : 0 ≤ x) (hx2 : x < 60) (ht : 0 ≤ t) : cntX x t 64 60 = (x + t) % 60 ∧ cntN x t 64 60 = (x + t) / 60 := by
  unfold cntX cntN; constructor
  all_goals (repeat' split)
  all_goals omega
theorem clean24 (x t : Int) (hx : 0 ≤ x) (hx2 : x < 24) (ht : 0 ≤ t) : cntX x t 32 24 = (x + t) % 24 ∧ cntN x t 32 24 = (x + t) / 24 := by
  unfold cntX cntN; constructor
  all_goals (repeat' split)
  all_goals omega
theorem tick_all (D H M S n A : Int) (hD : 0 ≤ D ∧ D < 512) (hH : 0 ≤ H ∧ H < 24) (hM : 0 ≤ M ∧ M < 60) (hS : 0 ≤ S ∧ S < 60) (hn : 0 ≤ n ∧ n < 1024) (hA : ((D * 24 + H) * 60 + M) * 60 + S + n = A) : tickV ⟨S, M, H, D, 0, false, false, 0, 0, 0, 0, 0⟩ (n * 1048576) = ⟨A % 60, A / 60 % 60, A / 3600 % 24, A / 86400 % 512, 0, false, decide (44236800 ≤ A), 0, 0, 0, 0, 0⟩ := by
  have pv : passV ⟨S, M, H, D, 0, false, false, 0, 0, 0, 0, 0⟩ n = ⟨A % 60, A / 60 % 60, A / 3600 % 24, A / 86400 % 512, 0, false, decide (44236800 ≤ A), 0, 0, 0, 0, 0⟩ := by
    obtain ⟨a1, a2⟩ := clean60 S n hS.1 hS.2 hn.1
    obtain ⟨b1, b2⟩ := clean60 M ((S + n) / 60) hM.1 hM.2 (by omega)
    obtain ⟨c1, c2⟩ := clean24 H ((M + (S + n) / 60) / 60) hH.1 hH.2 (by omega)
    have d1 : dayD D ((H + (M + (S + n) / 60) / 60) / 24) = A / 86400 % 512 := by unfold dayD; split <;> omega
    have d2 : dayC D ((H + (M + (S + n) / 60) / 60) / 24) false = decide (44236800 ≤ A) := by
      unfold dayC; split
      · exact (decide_eq_true (by omega)).symm
      · exact (decide_eq_false (by omega)).symm
    have e1 : (S + n) % 60 = A % 60 := by omega
    have e2 : (M + (S + n) / 60) % 60 = A / 60 % 60 := by omega
    have e3 : (H + (M + (S + n) / 60) / 60) % 24 = A / 3600 % 24 := by omega
    unfold passV
    dsimp only
    rw [a1, a2, b1, b2, c1, c2, d1, d2, e1, e2, e3]
  unfold tickV
  rw [if_neg (by simp)]
  by_cases h0 : n * 1048576 < 1
  · rw [if_pos h0]
    have n0 : n = 0 := by omega
    subst n0
    rw [← pv, pass_zero]
    exact ⟨by dsimp only; omega, by dsimp only; omega, by dsimp only; omega, by dsimp only; omega, by dsimp only; omega⟩
  · rw [if_neg h0]
    have hc : capV (n * 1048576) = n * 1048576 := by unfold capV; rw [if_neg (by omega)]
    dsimp only
    rw [hc, show (0 + n * 1048576) / 1048576 = n by omega, show (0 + n * 1048576) % 1048576 = 0 by omega, pv]
set_option maxHeartbeats 2000000 in
theorem counts_f (day h m s q D H M S n A : Int) (hd : 0 ≤ day) (hd2 : day < 65536) (hh : 0 ≤ h) (hh2 : h < 256) (hm : 0 ≤ m) (hm2 : m < 256) (hs : 0 ≤ s) (hs2 : s < 256) (hq : 0 ≤ q) (hq2 : q < 65536) (hD : day % 512 = D) (hH : h % 24 = H) (hM : m % 60 = M) (hS : s % 60 = S) (hN : q % 1024 = n) (hA : ((D * 24 + H) * 60 + M) * 60 + S + n = A) (C1 : ∀ W, Calls Try.prog 14 #[.agg #[.int .u8 S, .int .u8 M, .int .u8 H, .int .i64 D, .int .i64 0, .bool false, .bool false, .int .u8 0, .int .u8 0, .int .u8 0, .int .u8 0, .int .u8 0], .int .i64 (n * 1048576)] W fun q_ w' => q_ = .returned (.agg #[.int .u8 (A % 60), .int .u8 (A / 60 % 60), .int .u8 (A / 3600 % 24), .int .i64 (A / 86400 % 512), .int .i64 0, .bool false, .bool (decide (44236800 ≤ A)), .int .u8 0, .int .u8 0, .int .u8 0, .int .u8 0, .int .u8 0]) ∧ Below W.heap.size W w') (w : World) : Calls Try.prog 7 #[.int .u16 day, .int .u8 h, .int .u8 m, .int .u8 s, .int .u16 q] w fun q_ w' => q_ = .returned (.bool true) ∧ Below w.heap.size w w' := by
  suffices hall : ∀ (n_ : Nat) (W0 : World), n_ ≤ W0.heap.size → Below n_ W0 w → Calls Try.prog 7 #[.int .u16 day, .int .u8 h, .int .u8 m, .int .u8 s, .int .u16 q] w fun q_ w' => q_ = .returned (.bool true) ∧ Below n_ W0 w' from hall _ _ (Nat.le_refl _) (Below.refl _ _)
  intro n_ W0 hn hB
  have HN := Lib.hid hn
  have BB := Lib.hid hB
  clear hn hB
  have H1 := Lib.hid C1
  clear C1
  have AW := Lib.hid awake_c
  have hnot : ∀ (x : Bool) (w : World), (Op.unary .not (.bool x)).run Try.prog w = .ok (.bool (!x)) w := fun _ _ => rfl
  have D0 : 0 ≤ D ∧ D < 512 := by omega
  have H0 : 0 ≤ H ∧ H < 24 := by omega
  have M0 : 0 ≤ M ∧ M < 60 := by omega
  have S0 : 0 ≤ S ∧ S < 60 := by omega
  have n0 : 0 ≤ n ∧ n < 1024 := by omega
  obtain ⟨D0, D1⟩ := D0
  obtain ⟨H0, H1_⟩ := H0
  obtain ⟨M0, M1⟩ := M0
  obtain ⟨S0, S1⟩ := S0
  obtain ⟨n0, n1⟩ := n0
  have A0 : 0 ≤ A := by omega
  have A1 : A ≤ 44300000 := by omega
  go_enter Try.func7, Try.ntmps7
  go_wp2_with fail
  with_reducible refine (AW.out _).mono ?_
  rintro q_ w1 ⟨rfl, hb⟩
  have B1 := Lib.hid (vian HN.out BB.out hb)
  clear hb
  have Q_ := own1 w1 (.cells #[.int .u8 S, .int .u8 M, .int .u8 H, .int .i64 D, .int .i64 0, .bool false, .bool false, .int .u8 0, .int .u8 0, .int .u8 0, .int .u8 0, .int .u8 0] 26)
  have B2 := Lib.hid (vian HN.out B1.out Q_)
  have P2 := Lib.hid (Has.new w1 #[.int .u8 S, .int .u8 M, .int .u8 H, .int .i64 D, .int .i64 0, .bool false, .bool false, .int .u8 0, .int .u8 0, .int .u8 0, .int .u8 0, .int .u8 0] 26)
  clear Q_
  go_upto_region 4 with (fail)
  generalize w1.alloc (.cells #[.int .u8 S, .int .u8 M, .int .u8 H, .int .i64 D, .int .i64 0, .bool false, .bool false, .int .u8 0, .int .u8 0, .int .u8 0, .int .u8 0, .int .u8 0] 26) = w2 at B2 P2 ⊢
  generalize w1.heap.size = pb at P2 ⊢
  obtain ⟨hc, hf⟩ := P2.out.out
  go_wp2_with fail
  with_reducible refine (H1.out _).mono ?_
  rintro q_ w3 ⟨rfl, hb⟩
  have B3 := Lib.hid (vian HN.out B2.out hb)
  clear hb hc hf
  have Q_ := own1 w3 (.cells #[.int .u8 (A % 60), .int .u8 (A / 60 % 60), .int .u8 (A / 3600 % 24), .int .i64 (A / 86400 % 512), .int .i64 0, .bool false, .bool (decide (44236800 ≤ A)), .int .u8 0, .int .u8 0, .int .u8 0, .int .u8 0, .int .u8 0] 26)
  have B4 := Lib.hid (vian HN.out B3.out Q_)
  clear Q_
  go_wp2
  go_ret
  exact ⟨rfl, B4.out⟩
theorem counts_walk (day h m s q : Int) (hd : 0 ≤ day) (hd2 : day < 65536) (hh : 0 ≤ h) (hh2 : h < 256) (hm : 0 ≤ m) (hm2 : m < 256) (hs : 0 ≤ s) (hs2 : s < 256) (hq : 0 ≤ q) (hq2 : q < 65536) (w : World) : Calls Try.prog 7 #[.int .u16 day, .int .u8 h, .int .u8 m, .int .u8 s, .int .u16 q] w fun e w' => e = .returned (.bool true) ∧ Below w.heap.size w w' :=
  counts_f day h m s q _ _ _ _ _ _ hd hd2 hh hh2 hm hm2 hs hs2 hq hq2 rfl rfl rfl rfl rfl rfl (fun W => tick_c ⟨s % 60, m % 60, h % 24, day % 512, 0, false, false, 0, 0, 0, 0, 0⟩ _ _ (by unfold CV.ok; dsimp only; omega) (tick_all _ _ _ _ _ _ (by omega) (by omega) (by omega) (by omega) (by omega) rfl) W) w
end Go.Proofs.Ytkpjoongbckhcaa
