/-
  A new unit, and that a program is awake: for every world; no condition.
-/
import Derived.Test.YtpfbodmadmneiaaPc
import Derived.Test.YtpfbodmadmneiaaIt
import Derived.Deep.Cut
import Derived.BigQuiet
import Derived.WalkSmall
import Derived.Deep.LoopGhost
import Derived.Deep.DeepCutAuto
import Derived.Deep.CutBlock
namespace Go.Proofs.Ytpfbodmadmneiaa
open Go.ChangeShapes Go.WideShapes Go.ChangeAt Go.RowKit
set_option linter.unusedVariables false
set_option linter.unusedSimpArgs false
set_option maxRecDepth 100000
/-- A new unit. -/
theorem new_c (w : World) : Calls Try.prog 12 #[] w fun q_ w' => q_ = .returned (.pointer (some ⟨w.heap.size, 0, none⟩)) ∧ Has w' w.heap.size (encU zeroM) ∧ Below w.heap.size w w' := by
  go_enter Try.func12, Try.ntmps12
  go_wp2
  go_ret
  have h := Has.new w Try.zeroCells61 61
  rw [z61] at h
  rw [z61]
  exact ⟨rfl, h, own1 _ _⟩
theorem modem_c (b : Nat) (m : M) (ok : Ok m) (v : Int) (hv : modeM m = v) (w : World) (h : Has w b (encU m)) : Calls Try.prog 25 #[.pointer (some ⟨b, 0, none⟩)] w fun q_ w' => q_ = .returned (.int .i64 v) ∧ w' = w := by
  have B := ok.byte
  exact mode_c b m _ rfl (B 8352 (by decide) (by decide)).1 (B 8352 (by decide) (by decide)).2 _ rfl (B 8356 (by decide) (by decide)).1 (B 8356 (by decide) (by decide)).2 _ rfl (B 8363 (by decide) (by decide)).1 (B 8363 (by decide) (by decide)).2 v hv w h
theorem aw_rd (pb : Nat) (w : World) (h : Has w pb (encU awM)) : Calls Try.prog 26 #[.pointer (some ⟨pb, 0, none⟩), .int .u16 65348] w fun q_ w' => q_ = .returned (.int .u8 1) ∧ Below w.heap.size w w' := by
  have := read_c pb awM aw_ok 65348 (by decide) (by decide) w h
  rwa [aw_read] at this
set_option maxHeartbeats 4000000 in
theorem awake_c  (w : World) : Calls Try.prog 10 #[] w fun q_ w' => q_ = .returned (.bool true) ∧ Below w.heap.size w w' := by
  suffices hall : ∀ (n_ : Nat) (W0 : World), n_ ≤ W0.heap.size → Below n_ W0 w → Calls Try.prog 10 #[] w fun q_ w' => q_ = .returned (.bool true) ∧ Below n_ W0 w' from hall _ _ (Nat.le_refl _) (Below.refl _ _)
  intro n_ W0 hn hB
  have HN := Lib.hid hn
  obtain ⟨u0, hu0⟩ : ∃ u0, u0 = w := ⟨_, rfl⟩
  rw [← hu0]
  rw [← hu0] at hB
  have B0 := Lib.hid hB
  clear hn hB hu0
  go_enter Try.func10, Try.ntmps10
  go_wp2_with (fail)
  with_reducible refine (new_c _).mono ?_
  rintro q_ u1 ⟨rfl, hP, hb⟩
  have B1 := Lib.hid (vian HN.out B0.out hb)
  have P1 := Lib.hid hP
  have LP := Lib.hid (Nat.le_trans HN.out B0.out.size)
  clear hb hP B0
  generalize u0.heap.size = pb at P1 LP  ⊢
  go_wp2_with (fail)
  with_reducible refine (write_c pb _ ok_zero 65344 (by decide) (by decide) 128 (by decide) (by decide) _ P1.out).mono ?_
  rintro q_ u2 ⟨rfl, hP, hk⟩
  have P2 := Lib.hid hP
  have B2 := Lib.hid (hk.below HN.out LP.out B1.out)
  clear hP hk B1 P1
  go_wp2
  obtain ⟨m1, hm1⟩ : ∃ m1, m1 = writeM zeroM 65344 128 := ⟨_, rfl⟩
  rw [← hm1] at P2
  have HM := Lib.hid hm1
  have OK := Lib.hid (show Ok m1 by rw [hm1]; exact aw_ok0)
  clear hm1
  go_loopg [7] 114 (fun g' i wr => ∃ (t : Nat), t ≤ 114 ∧ g' + t = 114 ∧ i = .int .i64 t ∧ Below n_ W0 wr ∧ Has wr pb (encU (itM t m1)))
  case atStart => exact ⟨0, by omega, by omega, rfl, B2.out, by have := P2.out; rwa [it_zero]⟩
  case round =>
    obtain ⟨t, ht, hg, rfl, hB, hP⟩ := hrel
    have TG := Lib.hid hg
    have B3 := Lib.hid hB
    have P3 := Lib.hid hP
    clear hg hB hP B2 P2
    obtain ⟨u3, hu⟩ : ∃ q_, q_ = wr := ⟨_, rfl⟩
    subst hu
    by_cases hlt : t < 114
    · have l1 : (t : Int) < 114 := by omega
      go_wp2_with (fail)
      with_reducible refine (tick_c pb _ (it_ok OK.out t) _ P3.out).mono ?_
      rintro q_ u4 ⟨rfl, hP, hk⟩
      have P4 := Lib.hid hP
      have B4 := Lib.hid (hk.below HN.out LP.out B3.out)
      clear hP hk B3 P3
      go_wp2
      go_roundg (gk - 1)
      · exact ⟨t + 1, by omega, by have := TG.out; omega, by simp, B4.out, by rw [it_succ]; exact P4.out⟩
      case measure => have := TG.out; omega
    · have et : t = 114 := by omega
      subst et
      have em : itM 114 m1 = awM := by rw [HM.out]; rfl
      rw [em] at P3
      go_wp2_with (fail)
      with_reducible refine (line_u pb _ 1 aw_line (by decide) (by decide) _ P3.out).mono ?_
      rintro q_ w' ⟨rfl, rfl⟩
      go_wp2_with (fail)
      with_reducible refine (dot_u pb _ 0 aw_dot (by decide) (by decide) _ P3.out).mono ?_
      rintro q_ w' ⟨rfl, rfl⟩
      go_wp2_with (fail)
      with_reducible refine (modem_c pb _ aw_ok 2 aw_mode _ P3.out).mono ?_
      rintro q_ w' ⟨rfl, rfl⟩
      go_wp2_with (fail)
      with_reducible refine (aw_rd pb _ P3.out).mono ?_
      rintro q_ u4 ⟨rfl, hb⟩
      have B4 := Lib.hid (vian HN.out B3.out hb)
      have P4 := Lib.hid (P3.out.below hb)
      clear hb B3 P3
      go_wp2
      all_goals exact bodyPost_ret (v := .bool true) (by simp [results, Try.results10, go_sem]) rfl ⟨rfl, B4.out⟩
end Go.Proofs.Ytpfbodmadmneiaa
