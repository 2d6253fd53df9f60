/-
  Colours of some bytes, that go on and on: for every slice of at most 8192 bytes.
-/
import Derived.Test.YtiekojnhkemjlaaEnc
import Derived.Deep.Cut
import Derived.BigQuiet
import Derived.WalkSmall
import Derived.Deep.LoopGhost
namespace Go.Proofs.Ytiekojnhkemjlaa
open Go.ChangeShapes Go.WideShapes Go.ChangeAt Go.RowKit
set_option linter.unusedVariables false
set_option linter.unusedSimpArgs false
set_option maxRecDepth 100000
def undV (F : M) (n : Nat) : M := fun t => if 0 < n then F (t % n) else 0
theorem ok_und {F : M} (h : okB F) (n : Nat) : okB (undV F n) := fun t => by
  unfold undV
  split
  · exact h _
  · decide
theorem ok_first {F : M} (h : okB F) (n : Nat) : okB (firstN F n) := fun t => by
  unfold firstN
  split
  · exact h _
  · decide
set_option maxHeartbeats 4000000 in
theorem und_c (a : Option Addr) (n cp : Nat) (F : M) (w : World) (hM0 : Mem w (.slice a n cp) F) : Calls Try.prog 16 #[.slice a n cp] w fun q_ w' => q_ = .returned (.agg (enc (firstN (undV F n) 160))) ∧ Below w.heap.size w w' := by
  suffices hall : ∀ (n_ : Nat) (W0 : World), n_ ≤ W0.heap.size → Below n_ W0 w → MemB n_ W0 (.slice a n cp) F → Calls Try.prog 16 #[.slice a n cp] w fun q_ w' => q_ = .returned (.agg (enc (firstN (undV F n) 160))) ∧ Below n_ W0 w' from hall _ _ (Nat.le_refl _) (Below.refl _ _) hM0
  clear hM0
  intro n_ W0 hn hB hM0
  have HN := Lib.hid hn
  have BB := Lib.hid hB
  clear hn hB
  have HM0 := Lib.hid hM0
  clear hM0
  have hz34 : ∀ w : World, (zeroValue 34).run Try.prog w = .ok (.agg (enc zeroM)) w := zero34
  obtain ⟨L, hL⟩ : ∃ q_, q_ = undV F n := ⟨_, rfl⟩
  have LV := Lib.hid (show ∀ t, 0 < n → L t = F (t % n) from fun t h => by rw [hL]; exact if_pos h)
  have LZ := Lib.hid (show n = 0 → L = zeroM from fun h => by rw [hL]; funext k; unfold undV zeroM; rw [if_neg (by omega)])
  rw [← hL]
  clear hL
  go_enter Try.func16, Try.ntmps16
  have Q_ := own1 w (.cells (enc zeroM) 34)
  have B0 := Lib.hid (vian HN.out BB.out Q_)
  have R0 := Lib.hid (show Has (w.alloc (.cells (enc zeroM) 34)) w.heap.size (enc zeroM) by simpa using Has.new w (enc zeroM) 34)
  have LR := Lib.hid (show n_ ≤ w.heap.size + 0 from Nat.le_add_right_of_le (Nat.le_trans HN.out BB.out.size))
  simp only [Nat.add_zero] at LR
  clear Q_
  go_upto_region 1 with (fail)
  generalize (w.alloc (.cells (enc zeroM) 34)) = u0 at B0 R0 ⊢
  generalize w.heap.size = rb at R0 LR  ⊢
  go_wp2_with (refine store_g r34 (Has.new u0 (enc zeroM) 34) (enc_size _) (enc zeroM) (enc_size _) (enc_one _) rfl _ _ rfl rfl rfl ?_)
  intro u1 hP hk
  have B1 := Lib.hid (keep_new HN.out B0.out _ hk)
  have NRS := Lib.hid (Nat.ne_of_lt R0.out.1)
  have R1 := Lib.hid (hk.has NRS.out (R0.out.below (own1 _ _)))
  have S1 := Lib.hid hP
  have LS := Lib.hid (Nat.le_trans HN.out B0.out.size)
  generalize u0.heap.size = sb at S1 LS NRS ⊢
  clear hk hP B0 R0
  try simp only [Act.put, List.setIfInBounds_toArray, List.set_cons_zero, List.set_cons_succ]
  go_wp2_with (fail)
  go_loopg [6] 160 (fun g' i wr => ∃ t : Nat, t ≤ 160 ∧ g' + t = 160 ∧ i = .int .i64 (t : Int) ∧ Below n_ W0 wr ∧ Has wr rb (enc zeroM) ∧ Has wr sb (enc (firstN L t)))
  case atStart => exact ⟨0, by omega, by omega, rfl, B1.out, R1.out, by rw [first_zero]; exact S1.out⟩
  case round =>
    obtain ⟨u20, hw5⟩ : ∃ q_, q_ = wr := ⟨_, rfl⟩
    subst hw5
    obtain ⟨t, ht, hg, rfl, hB, hR, hS⟩ := hrel
    have TG := Lib.hid hg
    have B20 := Lib.hid hB
    have R20 := Lib.hid hR
    have S20 := Lib.hid hS
    clear hg hB hR hS B1 R1 S1
    by_cases hlt : t < 160
    · skip
      have l1 : (t : Int) < 160 := by omega
      have l0 : (0 : Int) ≤ t := by omega
      have HS := Lib.hid (first_succ L t)
      by_cases h0 : 0 < n
      · skip
        have i0 : (0 : Int) < n := by omega
        have hM := HM0.out
        obtain ⟨a1, n1, c1, e1, m1, m2, m3, m4, m5⟩ := hM
        injection e1 with ea eb ec
        subst ea eb ec
        obtain ⟨b, o, rfl, e2, e3⟩ := m5 h0
        obtain ⟨k, hk⟩ : ∃ k, k = t % n := ⟨_, rfl⟩
        have kn : k < n := hk ▸ Nat.mod_lt _ h0
        have hlv := LV.out t h0
        rw [← hk] at hlv
        have hcl := (B20.out.cell (p := ⟨b, o + k, none⟩) e2).trans (e3 k kn)
        have d2 : (t : Int).tmod (n : Int) = (k : Int) := by rw [Int.tmod_eq_emod_of_nonneg (by omega), hk]; simp
        have d3 : (t : Int) % (n : Int) = (k : Int) := by rw [hk]; simp
        have kI : (k : Int) < n := by omega
        have n9 : (n : Int) ≠ 0 := by omega
        obtain ⟨x, hx⟩ : ∃ q_, q_ = F k := ⟨_, rfl⟩
        rw [← hx] at hcl hlv
        rw [hlv] at HS
        obtain ⟨m, hm⟩ : ∃ q_, q_ = firstN L t := ⟨_, rfl⟩
        rw [← hm] at HS S20
        clear e3 hk hlv hx hm m1 m2 m3 m4 m5
        go_wp2_with (refine store_u S20.out rfl _ _ rfl t rfl x rfl (by omega) ?_)
        intro u21 hP hk
        rw [HS.out] at hP
        have S21 := Lib.hid hP
        have B21 := Lib.hid (hk.below HN.out LS.out B20.out)
        have R21 := Lib.hid (hk.has NRS.out R20.out)
        clear hP hk B20 R20 S20
        try simp only [Act.put, List.setIfInBounds_toArray, List.set_cons_zero, List.set_cons_succ]
        go_wp2_with (fail)
        go_roundg (160 - (t + 1))
        case measure => have := TG.out; omega
        case rel => exact ⟨t + 1, by omega, by have := TG.out; omega, by simp, B21.out, R21.out, S21.out⟩
      · skip
        have i0 : ¬ (0 : Int) < n := by omega
        have ez := LZ.out (by omega)
        have S21 := Lib.hid (show Has u20 sb (enc (firstN L (t + 1))) from by
          have e : firstN L (t + 1) = firstN L t := by rw [ez]; funext k; unfold firstN zeroM; split <;> split <;> rfl
          rw [e]; exact S20.out)
        clear ez S20
        go_wp2_with (fail)
        go_roundg (160 - (t + 1))
        case measure => have := TG.out; omega
        case rel => exact ⟨t + 1, by omega, by have := TG.out; omega, by simp, B20.out, R20.out, S21.out⟩
    · skip
      have te : t = 160 := by omega
      subst te
      have l1 : ¬ ((160 : Nat) : Int) < 160 := by omega
      go_wp2_with (first | (refine load_g r34 S20.out (enc_size _) rfl _ rfl rfl ?_; simp only [Act.put, List.setIfInBounds_toArray, List.set_cons_zero, List.set_cons_succ]) | (refine store_g r34 R20.out (enc_size _) (enc (firstN L 160)) (enc_size _) (enc_one _) rfl _ _ rfl rfl rfl ?_))
      intro u21 hP hk
      have R22 := Lib.hid hP
      have B22 := Lib.hid (hk.below HN.out LR.out B20.out)
      clear hk hP
      try simp only [Act.put]
      go_wp2_with (fail)
      exact bodyPost_ret (results_g r34 rfl _ rfl R22.out (enc_size _)) rfl ⟨rfl, B22.out⟩
end Go.Proofs.Ytiekojnhkemjlaa
