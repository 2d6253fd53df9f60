/-
  The walk through PpuAsks: for every two bytes; no condition but that each number fits.
-/
import Derived.Test.YtpfbodmadmneiaaAw
import Derived.Test.YtpfbodmadmneiaaAq
import Derived.Deep.Cut
import Derived.BigQuiet
import Derived.WalkSmall
import Derived.Deep.LoopGhost
import Derived.Deep.DeepCutAuto
import Derived.Deep.CutBlock
import Derived.Laws.StructEq
namespace Go.Proofs.Ytpfbodmadmneiaa
open Go.ChangeShapes Go.WideShapes Go.ChangeAt Go.RowKit
set_option linter.unusedVariables false
set_option linter.unusedSimpArgs false
set_option maxRecDepth 100000
set_option maxHeartbeats 8000000 in
theorem asks_0 (y h : Int) (y0 : 0 ≤ y) (y1 : y < 256) (h0 : 0 ≤ h) (h1 : h < 256) (hh : bits .and .u8 h 120 = 0) (m0 m1 : M) (e0 : asM y h = m0) (e1 : itM 17556 m0 = m1) (F : Nat → Nat) (hF : ∀ q, F q ≤ 1) (hst : ∀ t, (bits .and .u8 (tickR (itM t m1)) 2 != 0) = decide (F ((0 + 1 + t) % 17556) = 1)) (hn : sumN F 17556 = 0) (w : World) : Calls Try.prog 8 #[.int .u8 y, .int .u8 h] w fun q_ w' => q_ = .returned (.bool true) ∧ Below w.heap.size w w' := by
  suffices hall : ∀ (n_ : Nat) (W0 : World), n_ ≤ W0.heap.size → Below n_ W0 w → Calls Try.prog 8 #[.int .u8 y, .int .u8 h] w fun q_ w' => q_ = .returned (.bool true) ∧ Below n_ W0 w' from hall _ _ (Nat.le_refl _) (Below.refl _ _)
  intro n_ W0 hn hB
  have HN := Lib.hid hn
  obtain ⟨u0, hu0⟩ : ∃ u0, u0 = w := ⟨_, rfl⟩
  rw [← hu0]
  rw [← hu0] at hB
  have B0 := Lib.hid hB
  clear hn hB hu0
  have AW := Lib.hid awake_c
  have hnot : ∀ (x : Bool) (w : World), (Op.unary .not (.bool x)).run Try.prog w = .ok (.bool (!x)) w := fun _ _ => rfl
  have OA := Lib.hid (ok_write ok_zero 65349 y ⟨y0, y1⟩)
  have OB := Lib.hid (ok_write OA.out 65345 h ⟨h0, h1⟩)
  have OK0 := Lib.hid (show Ok m0 by rw [← e0]; exact as_ok y h ⟨y0, y1⟩ ⟨h0, h1⟩)
  have OK1 := Lib.hid (show Ok m1 by rw [← e1]; exact it_ok OK0.out _)
  have e0_ := Lib.hid e0
  clear e0
  have e1_ := Lib.hid e1
  clear e1
  have hst_ := Lib.hid hst
  clear hst
  have hn_ := Lib.hid hn
  clear hn
  have hF_ := Lib.hid hF
  clear hF
  go_enter Try.func8, Try.ntmps8
  go_wp2_with (fail)
  with_reducible refine (AW.out _).mono ?_
  rintro q_ u1 ⟨rfl, hb⟩
  have B1 := Lib.hid (vian HN.out B0.out hb)
  clear hb B0
  go_wp2_with (fail)
  with_reducible refine (new_c _).mono ?_
  rintro q_ u2 ⟨rfl, hP, hb⟩
  have B2 := Lib.hid (vian HN.out B1.out hb)
  have P2 := Lib.hid hP
  have LP := Lib.hid (Nat.le_trans HN.out B1.out.size)
  clear hb hP B1
  generalize u1.heap.size = pb at P2 LP  ⊢
  go_wp2_with (fail)
  with_reducible refine (write_c pb _ ok_zero 65349 (by decide) (by decide) y y0 y1 _ P2.out).mono ?_
  rintro q_ u3 ⟨rfl, hP, hk⟩
  have P3 := Lib.hid hP
  have B3 := Lib.hid (hk.below HN.out LP.out B2.out)
  clear hP hk B2 P2
  go_wp2_with (fail)
  with_reducible refine (write_c pb _ OA.out 65345 (by decide) (by decide) h h0 h1 _ P3.out).mono ?_
  rintro q_ u4 ⟨rfl, hP, hk⟩
  have P4 := Lib.hid hP
  have B4 := Lib.hid (hk.below HN.out LP.out B3.out)
  clear hP hk B3 P3
  go_wp2_with (fail)
  with_reducible refine (write_c pb _ OB.out 65344 (by decide) (by decide) 128 (by decide) (by decide) _ P4.out).mono ?_
  rintro q_ u5 ⟨rfl, hP, hk⟩
  have P5 := Lib.hid hP
  have B5 := Lib.hid (hk.below HN.out LP.out B4.out)
  clear hP hk B4 P4
  have P9 : Has u5 pb (encU (asM y h)) := P5.out
  rw [e0_.out] at P9
  clear P5
  have P5 := Lib.hid P9
  clear P9
  go_wp2
  go_loopg [18] 17556 (fun g' i wr => ∃ (t : Nat), t ≤ 17556 ∧ g' + t = 17556 ∧ i = .int .i64 t ∧ Below n_ W0 wr ∧ Has wr pb (encU (itM t m0)))
  case atStart => exact ⟨0, by omega, by omega, rfl, B5.out, by have := P5.out; rwa [it_zero]⟩
  case round =>
    obtain ⟨t, ht, hg, rfl, hB, hP⟩ := hrel
    have TG := Lib.hid hg
    clear hg
    have B6 := Lib.hid hB
    clear hB
    have P6 := Lib.hid hP
    clear hP
    clear B5 P5
    obtain ⟨u6, hu⟩ : ∃ q_, q_ = wr := ⟨_, rfl⟩
    subst hu
    by_cases hlt : t < 17556
    · have l1 : (t : Int) < 17556 := by omega
      go_wp2_with (fail)
      with_reducible refine (tick_c pb _ (it_ok OK0.out t) _ P6.out).mono ?_
      rintro q_ u7 ⟨rfl, hP, hk⟩
      have P7 := Lib.hid hP
      have B7 := Lib.hid (hk.below HN.out LP.out B6.out)
      clear hP hk B6 P6
      go_wp2
      go_roundg (gk - 1)
      · exact ⟨t + 1, by omega, by have := TG.out; omega, by simp, B7.out, by rw [it_succ]; exact P7.out⟩
      case measure => have := TG.out; omega
    · have et : t = 17556 := by omega
      subst et
      rw [e1_.out] at P6
      clear ht hlt TG
      go_wp2
      go_loopg [6, 23] 17556 (fun g' bl i wr => ∃ (t : Nat), t ≤ 17556 ∧ g' + t = 17556 ∧ bl = .int .i64 ((cntN F 0 t : Nat) : Int) ∧ i = .int .i64 t ∧ Below n_ W0 wr ∧ Has wr pb (encU (itM t m1)))
      case atStart => exact ⟨0, by omega, by omega, by rw [cnt_zero]; rfl, rfl, B6.out, by have := P6.out; rwa [it_zero]⟩
      case round =>
        obtain ⟨t, ht, hg, rfl, rfl, hB, hP⟩ := hrel
        have TG := Lib.hid hg
        clear hg
        have B7 := Lib.hid hB
        clear hB
        have P7 := Lib.hid hP
        clear hP
        clear B6 P6
        obtain ⟨u7, hu⟩ : ∃ q_, q_ = wr := ⟨_, rfl⟩
        subst hu
        by_cases hlt : t < 17556
        · have l1 : (t : Int) < 17556 := by omega
          have qb := hst_.out t
          obtain ⟨b0, hb0⟩ : ∃ b0, b0 = cntN F 0 t := ⟨_, rfl⟩
          have kb : b0 ≤ t := by rw [hb0]; exact cnt_le _ hF_.out 0 t
          have sb := cnt_succ F 0 t
          rw [← hb0] at sb ⊢
          obtain ⟨z, hz⟩ : ∃ z, z = F ((0 + 1 + t) % 17556) := ⟨_, rfl⟩
          have hbl : z ≤ 1 := by rw [hz]; exact hF_.out _
          rw [← hz] at qb sb
          obtain ⟨r, hr⟩ : ∃ r, r = tickR (itM t m1) := ⟨_, rfl⟩
          rw [← hr] at qb
          have SB := Lib.hid sb
          have OT := Lib.hid (it_ok OK1.out t)
          have tc := fun W hW => (tick_c pb (itM t m1) OT.out W hW)
          rw [← hr] at tc
          have TC := Lib.hid tc
          clear tc hr hz sb hb0
          have zz : z = 0 ∨ z = 1 := by omega
          have w1 : IntKind.i64.wrap ((b0 : Int) + 1) = (b0 : Int) + 1 := by rw [IntKind.wrap_i64]; omega
          rcases zz with rfl | rfl
          · have qb : (bits .and .u8 r 2 != 0) = false := by rw [qb]; rfl
            go_wp2_with (fail)
            with_reducible refine (TC.out _ P7.out).mono ?_
            rintro q_ u8 ⟨rfl, hP, hk⟩
            have P8 := Lib.hid hP
            have B8 := Lib.hid (hk.below HN.out LP.out B7.out)
            clear hP hk B7 P7
            go_wp2
            go_roundg (gk - 1)
            · exact ⟨t + 1, by omega, by have := TG.out; omega, by rw [SB.out]; simp, by simp, B8.out, by rw [it_succ]; exact P8.out⟩
            case measure => have := TG.out; omega
          · have qb : (bits .and .u8 r 2 != 0) = true := by rw [qb]; rfl
            go_wp2_with (fail)
            with_reducible refine (TC.out _ P7.out).mono ?_
            rintro q_ u8 ⟨rfl, hP, hk⟩
            have P8 := Lib.hid hP
            have B8 := Lib.hid (hk.below HN.out LP.out B7.out)
            clear hP hk B7 P7
            go_wp2
            go_roundg (gk - 1)
            · exact ⟨t + 1, by omega, by have := TG.out; omega, by rw [SB.out]; simp, by simp, B8.out, by rw [it_succ]; exact P8.out⟩
            case measure => have := TG.out; omega
        · have et : t = 17556 := by omega
          subst et
          have en := (cnt_all F 0).trans hn_.out
          rw [en]
          clear en ht hlt TG
          go_wp2
          all_goals exact bodyPost_ret (v := .bool true) (by simp [results, Try.results8, go_sem]) rfl ⟨rfl, B7.out⟩
set_option maxHeartbeats 8000000 in
theorem asks_64a (y h : Int) (y0 : 0 ≤ y) (y1 : y < 256) (h0 : 0 ≤ h) (h1 : h < 256) (hh : bits .and .u8 h 120 = 64) (m0 m1 : M) (hy : y < 154) (e0 : asM y h = m0) (e1 : itM 17556 m0 = m1) (F : Nat → Nat) (hF : ∀ q, F q ≤ 1) (hst : ∀ t, (bits .and .u8 (tickR (itM t m1)) 2 != 0) = decide (F ((0 + 1 + t) % 17556) = 1)) (hn : sumN F 17556 = 1) (w : World) : Calls Try.prog 8 #[.int .u8 y, .int .u8 h] w fun q_ w' => q_ = .returned (.bool true) ∧ Below w.heap.size w w' := by
  suffices hall : ∀ (n_ : Nat) (W0 : World), n_ ≤ W0.heap.size → Below n_ W0 w → Calls Try.prog 8 #[.int .u8 y, .int .u8 h] w fun q_ w' => q_ = .returned (.bool true) ∧ Below n_ W0 w' from hall _ _ (Nat.le_refl _) (Below.refl _ _)
  intro n_ W0 hn hB
  have HN := Lib.hid hn
  obtain ⟨u0, hu0⟩ : ∃ u0, u0 = w := ⟨_, rfl⟩
  rw [← hu0]
  rw [← hu0] at hB
  have B0 := Lib.hid hB
  clear hn hB hu0
  have HY := Lib.hid hy
  clear hy
  have AW := Lib.hid awake_c
  have hnot : ∀ (x : Bool) (w : World), (Op.unary .not (.bool x)).run Try.prog w = .ok (.bool (!x)) w := fun _ _ => rfl
  have OA := Lib.hid (ok_write ok_zero 65349 y ⟨y0, y1⟩)
  have OB := Lib.hid (ok_write OA.out 65345 h ⟨h0, h1⟩)
  have OK0 := Lib.hid (show Ok m0 by rw [← e0]; exact as_ok y h ⟨y0, y1⟩ ⟨h0, h1⟩)
  have OK1 := Lib.hid (show Ok m1 by rw [← e1]; exact it_ok OK0.out _)
  have e0_ := Lib.hid e0
  clear e0
  have e1_ := Lib.hid e1
  clear e1
  have hst_ := Lib.hid hst
  clear hst
  have hn_ := Lib.hid hn
  clear hn
  have hF_ := Lib.hid hF
  clear hF
  go_enter Try.func8, Try.ntmps8
  go_wp2_with (fail)
  with_reducible refine (AW.out _).mono ?_
  rintro q_ u1 ⟨rfl, hb⟩
  have B1 := Lib.hid (vian HN.out B0.out hb)
  clear hb B0
  go_wp2_with (fail)
  with_reducible refine (new_c _).mono ?_
  rintro q_ u2 ⟨rfl, hP, hb⟩
  have B2 := Lib.hid (vian HN.out B1.out hb)
  have P2 := Lib.hid hP
  have LP := Lib.hid (Nat.le_trans HN.out B1.out.size)
  clear hb hP B1
  generalize u1.heap.size = pb at P2 LP  ⊢
  go_wp2_with (fail)
  with_reducible refine (write_c pb _ ok_zero 65349 (by decide) (by decide) y y0 y1 _ P2.out).mono ?_
  rintro q_ u3 ⟨rfl, hP, hk⟩
  have P3 := Lib.hid hP
  have B3 := Lib.hid (hk.below HN.out LP.out B2.out)
  clear hP hk B2 P2
  go_wp2_with (fail)
  with_reducible refine (write_c pb _ OA.out 65345 (by decide) (by decide) h h0 h1 _ P3.out).mono ?_
  rintro q_ u4 ⟨rfl, hP, hk⟩
  have P4 := Lib.hid hP
  have B4 := Lib.hid (hk.below HN.out LP.out B3.out)
  clear hP hk B3 P3
  go_wp2_with (fail)
  with_reducible refine (write_c pb _ OB.out 65344 (by decide) (by decide) 128 (by decide) (by decide) _ P4.out).mono ?_
  rintro q_ u5 ⟨rfl, hP, hk⟩
  have P5 := Lib.hid hP
  have B5 := Lib.hid (hk.below HN.out LP.out B4.out)
  clear hP hk B4 P4
  have P9 : Has u5 pb (encU (asM y h)) := P5.out
  rw [e0_.out] at P9
  clear P5
  have P5 := Lib.hid P9
  clear P9
  go_wp2
  go_loopg [18] 17556 (fun g' i wr => ∃ (t : Nat), t ≤ 17556 ∧ g' + t = 17556 ∧ i = .int .i64 t ∧ Below n_ W0 wr ∧ Has wr pb (encU (itM t m0)))
  case atStart => exact ⟨0, by omega, by omega, rfl, B5.out, by have := P5.out; rwa [it_zero]⟩
  case round =>
    obtain ⟨t, ht, hg, rfl, hB, hP⟩ := hrel
    have TG := Lib.hid hg
    clear hg
    have B6 := Lib.hid hB
    clear hB
    have P6 := Lib.hid hP
    clear hP
    clear B5 P5
    obtain ⟨u6, hu⟩ : ∃ q_, q_ = wr := ⟨_, rfl⟩
    subst hu
    by_cases hlt : t < 17556
    · have l1 : (t : Int) < 17556 := by omega
      go_wp2_with (fail)
      with_reducible refine (tick_c pb _ (it_ok OK0.out t) _ P6.out).mono ?_
      rintro q_ u7 ⟨rfl, hP, hk⟩
      have P7 := Lib.hid hP
      have B7 := Lib.hid (hk.below HN.out LP.out B6.out)
      clear hP hk B6 P6
      go_wp2
      go_roundg (gk - 1)
      · exact ⟨t + 1, by omega, by have := TG.out; omega, by simp, B7.out, by rw [it_succ]; exact P7.out⟩
      case measure => have := TG.out; omega
    · have et : t = 17556 := by omega
      subst et
      rw [e1_.out] at P6
      clear ht hlt TG
      go_wp2
      go_loopg [6, 23] 17556 (fun g' bl i wr => ∃ (t : Nat), t ≤ 17556 ∧ g' + t = 17556 ∧ bl = .int .i64 ((cntN F 0 t : Nat) : Int) ∧ i = .int .i64 t ∧ Below n_ W0 wr ∧ Has wr pb (encU (itM t m1)))
      case atStart => exact ⟨0, by omega, by omega, by rw [cnt_zero]; rfl, rfl, B6.out, by have := P6.out; rwa [it_zero]⟩
      case round =>
        obtain ⟨t, ht, hg, rfl, rfl, hB, hP⟩ := hrel
        have TG := Lib.hid hg
        clear hg
        have B7 := Lib.hid hB
        clear hB
        have P7 := Lib.hid hP
        clear hP
        clear B6 P6
        obtain ⟨u7, hu⟩ : ∃ q_, q_ = wr := ⟨_, rfl⟩
        subst hu
        by_cases hlt : t < 17556
        · have l1 : (t : Int) < 17556 := by omega
          have qb := hst_.out t
          obtain ⟨b0, hb0⟩ : ∃ b0, b0 = cntN F 0 t := ⟨_, rfl⟩
          have kb : b0 ≤ t := by rw [hb0]; exact cnt_le _ hF_.out 0 t
          have sb := cnt_succ F 0 t
          rw [← hb0] at sb ⊢
          obtain ⟨z, hz⟩ : ∃ z, z = F ((0 + 1 + t) % 17556) := ⟨_, rfl⟩
          have hbl : z ≤ 1 := by rw [hz]; exact hF_.out _
          rw [← hz] at qb sb
          obtain ⟨r, hr⟩ : ∃ r, r = tickR (itM t m1) := ⟨_, rfl⟩
          rw [← hr] at qb
          have SB := Lib.hid sb
          have OT := Lib.hid (it_ok OK1.out t)
          have tc := fun W hW => (tick_c pb (itM t m1) OT.out W hW)
          rw [← hr] at tc
          have TC := Lib.hid tc
          clear tc hr hz sb hb0
          have zz : z = 0 ∨ z = 1 := by omega
          have w1 : IntKind.i64.wrap ((b0 : Int) + 1) = (b0 : Int) + 1 := by rw [IntKind.wrap_i64]; omega
          rcases zz with rfl | rfl
          · have qb : (bits .and .u8 r 2 != 0) = false := by rw [qb]; rfl
            go_wp2_with (fail)
            with_reducible refine (TC.out _ P7.out).mono ?_
            rintro q_ u8 ⟨rfl, hP, hk⟩
            have P8 := Lib.hid hP
            have B8 := Lib.hid (hk.below HN.out LP.out B7.out)
            clear hP hk B7 P7
            go_wp2
            go_roundg (gk - 1)
            · exact ⟨t + 1, by omega, by have := TG.out; omega, by rw [SB.out]; simp, by simp, B8.out, by rw [it_succ]; exact P8.out⟩
            case measure => have := TG.out; omega
          · have qb : (bits .and .u8 r 2 != 0) = true := by rw [qb]; rfl
            go_wp2_with (fail)
            with_reducible refine (TC.out _ P7.out).mono ?_
            rintro q_ u8 ⟨rfl, hP, hk⟩
            have P8 := Lib.hid hP
            have B8 := Lib.hid (hk.below HN.out LP.out B7.out)
            clear hP hk B7 P7
            go_wp2
            go_roundg (gk - 1)
            · exact ⟨t + 1, by omega, by have := TG.out; omega, by rw [SB.out]; simp, by simp, B8.out, by rw [it_succ]; exact P8.out⟩
            case measure => have := TG.out; omega
        · have et : t = 17556 := by omega
          subst et
          have en := (cnt_all F 0).trans hn_.out
          rw [en]
          clear en ht hlt TG
          have g2 : y < 154 := HY.out
          go_wp2
          all_goals exact bodyPost_ret (v := .bool true) (by simp [results, Try.results8, go_sem]) rfl ⟨rfl, B7.out⟩
set_option maxHeartbeats 8000000 in
theorem asks_64b (y h : Int) (y0 : 0 ≤ y) (y1 : y < 256) (h0 : 0 ≤ h) (h1 : h < 256) (hh : bits .and .u8 h 120 = 64) (m0 m1 : M) (hy : 154 ≤ y) (e0 : asM y h = m0) (e1 : itM 17556 m0 = m1) (F : Nat → Nat) (hF : ∀ q, F q ≤ 1) (hst : ∀ t, (bits .and .u8 (tickR (itM t m1)) 2 != 0) = decide (F ((0 + 1 + t) % 17556) = 1)) (hn : sumN F 17556 = 0) (w : World) : Calls Try.prog 8 #[.int .u8 y, .int .u8 h] w fun q_ w' => q_ = .returned (.bool true) ∧ Below w.heap.size w w' := by
  suffices hall : ∀ (n_ : Nat) (W0 : World), n_ ≤ W0.heap.size → Below n_ W0 w → Calls Try.prog 8 #[.int .u8 y, .int .u8 h] w fun q_ w' => q_ = .returned (.bool true) ∧ Below n_ W0 w' from hall _ _ (Nat.le_refl _) (Below.refl _ _)
  intro n_ W0 hn hB
  have HN := Lib.hid hn
  obtain ⟨u0, hu0⟩ : ∃ u0, u0 = w := ⟨_, rfl⟩
  rw [← hu0]
  rw [← hu0] at hB
  have B0 := Lib.hid hB
  clear hn hB hu0
  have HY := Lib.hid hy
  clear hy
  have AW := Lib.hid awake_c
  have hnot : ∀ (x : Bool) (w : World), (Op.unary .not (.bool x)).run Try.prog w = .ok (.bool (!x)) w := fun _ _ => rfl
  have OA := Lib.hid (ok_write ok_zero 65349 y ⟨y0, y1⟩)
  have OB := Lib.hid (ok_write OA.out 65345 h ⟨h0, h1⟩)
  have OK0 := Lib.hid (show Ok m0 by rw [← e0]; exact as_ok y h ⟨y0, y1⟩ ⟨h0, h1⟩)
  have OK1 := Lib.hid (show Ok m1 by rw [← e1]; exact it_ok OK0.out _)
  have e0_ := Lib.hid e0
  clear e0
  have e1_ := Lib.hid e1
  clear e1
  have hst_ := Lib.hid hst
  clear hst
  have hn_ := Lib.hid hn
  clear hn
  have hF_ := Lib.hid hF
  clear hF
  go_enter Try.func8, Try.ntmps8
  go_wp2_with (fail)
  with_reducible refine (AW.out _).mono ?_
  rintro q_ u1 ⟨rfl, hb⟩
  have B1 := Lib.hid (vian HN.out B0.out hb)
  clear hb B0
  go_wp2_with (fail)
  with_reducible refine (new_c _).mono ?_
  rintro q_ u2 ⟨rfl, hP, hb⟩
  have B2 := Lib.hid (vian HN.out B1.out hb)
  have P2 := Lib.hid hP
  have LP := Lib.hid (Nat.le_trans HN.out B1.out.size)
  clear hb hP B1
  generalize u1.heap.size = pb at P2 LP  ⊢
  go_wp2_with (fail)
  with_reducible refine (write_c pb _ ok_zero 65349 (by decide) (by decide) y y0 y1 _ P2.out).mono ?_
  rintro q_ u3 ⟨rfl, hP, hk⟩
  have P3 := Lib.hid hP
  have B3 := Lib.hid (hk.below HN.out LP.out B2.out)
  clear hP hk B2 P2
  go_wp2_with (fail)
  with_reducible refine (write_c pb _ OA.out 65345 (by decide) (by decide) h h0 h1 _ P3.out).mono ?_
  rintro q_ u4 ⟨rfl, hP, hk⟩
  have P4 := Lib.hid hP
  have B4 := Lib.hid (hk.below HN.out LP.out B3.out)
  clear hP hk B3 P3
  go_wp2_with (fail)
  with_reducible refine (write_c pb _ OB.out 65344 (by decide) (by decide) 128 (by decide) (by decide) _ P4.out).mono ?_
  rintro q_ u5 ⟨rfl, hP, hk⟩
  have P5 := Lib.hid hP
  have B5 := Lib.hid (hk.below HN.out LP.out B4.out)
  clear hP hk B4 P4
  have P9 : Has u5 pb (encU (asM y h)) := P5.out
  rw [e0_.out] at P9
  clear P5
  have P5 := Lib.hid P9
  clear P9
  go_wp2
  go_loopg [18] 17556 (fun g' i wr => ∃ (t : Nat), t ≤ 17556 ∧ g' + t = 17556 ∧ i = .int .i64 t ∧ Below n_ W0 wr ∧ Has wr pb (encU (itM t m0)))
  case atStart => exact ⟨0, by omega, by omega, rfl, B5.out, by have := P5.out; rwa [it_zero]⟩
  case round =>
    obtain ⟨t, ht, hg, rfl, hB, hP⟩ := hrel
    have TG := Lib.hid hg
    clear hg
    have B6 := Lib.hid hB
    clear hB
    have P6 := Lib.hid hP
    clear hP
    clear B5 P5
    obtain ⟨u6, hu⟩ : ∃ q_, q_ = wr := ⟨_, rfl⟩
    subst hu
    by_cases hlt : t < 17556
    · have l1 : (t : Int) < 17556 := by omega
      go_wp2_with (fail)
      with_reducible refine (tick_c pb _ (it_ok OK0.out t) _ P6.out).mono ?_
      rintro q_ u7 ⟨rfl, hP, hk⟩
      have P7 := Lib.hid hP
      have B7 := Lib.hid (hk.below HN.out LP.out B6.out)
      clear hP hk B6 P6
      go_wp2
      go_roundg (gk - 1)
      · exact ⟨t + 1, by omega, by have := TG.out; omega, by simp, B7.out, by rw [it_succ]; exact P7.out⟩
      case measure => have := TG.out; omega
    · have et : t = 17556 := by omega
      subst et
      rw [e1_.out] at P6
      clear ht hlt TG
      go_wp2
      go_loopg [6, 23] 17556 (fun g' bl i wr => ∃ (t : Nat), t ≤ 17556 ∧ g' + t = 17556 ∧ bl = .int .i64 ((cntN F 0 t : Nat) : Int) ∧ i = .int .i64 t ∧ Below n_ W0 wr ∧ Has wr pb (encU (itM t m1)))
      case atStart => exact ⟨0, by omega, by omega, by rw [cnt_zero]; rfl, rfl, B6.out, by have := P6.out; rwa [it_zero]⟩
      case round =>
        obtain ⟨t, ht, hg, rfl, rfl, hB, hP⟩ := hrel
        have TG := Lib.hid hg
        clear hg
        have B7 := Lib.hid hB
        clear hB
        have P7 := Lib.hid hP
        clear hP
        clear B6 P6
        obtain ⟨u7, hu⟩ : ∃ q_, q_ = wr := ⟨_, rfl⟩
        subst hu
        by_cases hlt : t < 17556
        · have l1 : (t : Int) < 17556 := by omega
          have qb := hst_.out t
          obtain ⟨b0, hb0⟩ : ∃ b0, b0 = cntN F 0 t := ⟨_, rfl⟩
          have kb : b0 ≤ t := by rw [hb0]; exact cnt_le _ hF_.out 0 t
          have sb := cnt_succ F 0 t
          rw [← hb0] at sb ⊢
          obtain ⟨z, hz⟩ : ∃ z, z = F ((0 + 1 + t) % 17556) := ⟨_, rfl⟩
          have hbl : z ≤ 1 := by rw [hz]; exact hF_.out _
          rw [← hz] at qb sb
          obtain ⟨r, hr⟩ : ∃ r, r = tickR (itM t m1) := ⟨_, rfl⟩
          rw [← hr] at qb
          have SB := Lib.hid sb
          have OT := Lib.hid (it_ok OK1.out t)
          have tc := fun W hW => (tick_c pb (itM t m1) OT.out W hW)
          rw [← hr] at tc
          have TC := Lib.hid tc
          clear tc hr hz sb hb0
          have zz : z = 0 ∨ z = 1 := by omega
          have w1 : IntKind.i64.wrap ((b0 : Int) + 1) = (b0 : Int) + 1 := by rw [IntKind.wrap_i64]; omega
          rcases zz with rfl | rfl
          · have qb : (bits .and .u8 r 2 != 0) = false := by rw [qb]; rfl
            go_wp2_with (fail)
            with_reducible refine (TC.out _ P7.out).mono ?_
            rintro q_ u8 ⟨rfl, hP, hk⟩
            have P8 := Lib.hid hP
            have B8 := Lib.hid (hk.below HN.out LP.out B7.out)
            clear hP hk B7 P7
            go_wp2
            go_roundg (gk - 1)
            · exact ⟨t + 1, by omega, by have := TG.out; omega, by rw [SB.out]; simp, by simp, B8.out, by rw [it_succ]; exact P8.out⟩
            case measure => have := TG.out; omega
          · have qb : (bits .and .u8 r 2 != 0) = true := by rw [qb]; rfl
            go_wp2_with (fail)
            with_reducible refine (TC.out _ P7.out).mono ?_
            rintro q_ u8 ⟨rfl, hP, hk⟩
            have P8 := Lib.hid hP
            have B8 := Lib.hid (hk.below HN.out LP.out B7.out)
            clear hP hk B7 P7
            go_wp2
            go_roundg (gk - 1)
            · exact ⟨t + 1, by omega, by have := TG.out; omega, by rw [SB.out]; simp, by simp, B8.out, by rw [it_succ]; exact P8.out⟩
            case measure => have := TG.out; omega
        · have et : t = 17556 := by omega
          subst et
          have en := (cnt_all F 0).trans hn_.out
          rw [en]
          clear en ht hlt TG
          have g3 : 154 ≤ y := HY.out
          have g2 : ¬ y < 154 := by omega
          go_wp2
          all_goals exact bodyPost_ret (v := .bool true) (by simp [results, Try.results8, go_sem]) rfl ⟨rfl, B7.out⟩
set_option maxHeartbeats 8000000 in
theorem asks_8 (y h : Int) (y0 : 0 ≤ y) (y1 : y < 256) (h0 : 0 ≤ h) (h1 : h < 256) (hh : bits .and .u8 h 120 = 8) (m0 m1 : M) (e0 : asM y h = m0) (e1 : itM 17556 m0 = m1) (F : Nat → Nat) (hF : ∀ q, F q ≤ 1) (hst : ∀ t, (bits .and .u8 (tickR (itM t m1)) 2 != 0) = decide (F ((0 + 1 + t) % 17556) = 1)) (hn : sumN F 17556 = 144) (w : World) : Calls Try.prog 8 #[.int .u8 y, .int .u8 h] w fun q_ w' => q_ = .returned (.bool true) ∧ Below w.heap.size w w' := by
  suffices hall : ∀ (n_ : Nat) (W0 : World), n_ ≤ W0.heap.size → Below n_ W0 w → Calls Try.prog 8 #[.int .u8 y, .int .u8 h] w fun q_ w' => q_ = .returned (.bool true) ∧ Below n_ W0 w' from hall _ _ (Nat.le_refl _) (Below.refl _ _)
  intro n_ W0 hn hB
  have HN := Lib.hid hn
  obtain ⟨u0, hu0⟩ : ∃ u0, u0 = w := ⟨_, rfl⟩
  rw [← hu0]
  rw [← hu0] at hB
  have B0 := Lib.hid hB
  clear hn hB hu0
  have AW := Lib.hid awake_c
  have hnot : ∀ (x : Bool) (w : World), (Op.unary .not (.bool x)).run Try.prog w = .ok (.bool (!x)) w := fun _ _ => rfl
  have OA := Lib.hid (ok_write ok_zero 65349 y ⟨y0, y1⟩)
  have OB := Lib.hid (ok_write OA.out 65345 h ⟨h0, h1⟩)
  have OK0 := Lib.hid (show Ok m0 by rw [← e0]; exact as_ok y h ⟨y0, y1⟩ ⟨h0, h1⟩)
  have OK1 := Lib.hid (show Ok m1 by rw [← e1]; exact it_ok OK0.out _)
  have e0_ := Lib.hid e0
  clear e0
  have e1_ := Lib.hid e1
  clear e1
  have hst_ := Lib.hid hst
  clear hst
  have hn_ := Lib.hid hn
  clear hn
  have hF_ := Lib.hid hF
  clear hF
  go_enter Try.func8, Try.ntmps8
  go_wp2_with (fail)
  with_reducible refine (AW.out _).mono ?_
  rintro q_ u1 ⟨rfl, hb⟩
  have B1 := Lib.hid (vian HN.out B0.out hb)
  clear hb B0
  go_wp2_with (fail)
  with_reducible refine (new_c _).mono ?_
  rintro q_ u2 ⟨rfl, hP, hb⟩
  have B2 := Lib.hid (vian HN.out B1.out hb)
  have P2 := Lib.hid hP
  have LP := Lib.hid (Nat.le_trans HN.out B1.out.size)
  clear hb hP B1
  generalize u1.heap.size = pb at P2 LP  ⊢
  go_wp2_with (fail)
  with_reducible refine (write_c pb _ ok_zero 65349 (by decide) (by decide) y y0 y1 _ P2.out).mono ?_
  rintro q_ u3 ⟨rfl, hP, hk⟩
  have P3 := Lib.hid hP
  have B3 := Lib.hid (hk.below HN.out LP.out B2.out)
  clear hP hk B2 P2
  go_wp2_with (fail)
  with_reducible refine (write_c pb _ OA.out 65345 (by decide) (by decide) h h0 h1 _ P3.out).mono ?_
  rintro q_ u4 ⟨rfl, hP, hk⟩
  have P4 := Lib.hid hP
  have B4 := Lib.hid (hk.below HN.out LP.out B3.out)
  clear hP hk B3 P3
  go_wp2_with (fail)
  with_reducible refine (write_c pb _ OB.out 65344 (by decide) (by decide) 128 (by decide) (by decide) _ P4.out).mono ?_
  rintro q_ u5 ⟨rfl, hP, hk⟩
  have P5 := Lib.hid hP
  have B5 := Lib.hid (hk.below HN.out LP.out B4.out)
  clear hP hk B4 P4
  have P9 : Has u5 pb (encU (asM y h)) := P5.out
  rw [e0_.out] at P9
  clear P5
  have P5 := Lib.hid P9
  clear P9
  go_wp2
  go_loopg [18] 17556 (fun g' i wr => ∃ (t : Nat), t ≤ 17556 ∧ g' + t = 17556 ∧ i = .int .i64 t ∧ Below n_ W0 wr ∧ Has wr pb (encU (itM t m0)))
  case atStart => exact ⟨0, by omega, by omega, rfl, B5.out, by have := P5.out; rwa [it_zero]⟩
  case round =>
    obtain ⟨t, ht, hg, rfl, hB, hP⟩ := hrel
    have TG := Lib.hid hg
    clear hg
    have B6 := Lib.hid hB
    clear hB
    have P6 := Lib.hid hP
    clear hP
    clear B5 P5
    obtain ⟨u6, hu⟩ : ∃ q_, q_ = wr := ⟨_, rfl⟩
    subst hu
    by_cases hlt : t < 17556
    · have l1 : (t : Int) < 17556 := by omega
      go_wp2_with (fail)
      with_reducible refine (tick_c pb _ (it_ok OK0.out t) _ P6.out).mono ?_
      rintro q_ u7 ⟨rfl, hP, hk⟩
      have P7 := Lib.hid hP
      have B7 := Lib.hid (hk.below HN.out LP.out B6.out)
      clear hP hk B6 P6
      go_wp2
      go_roundg (gk - 1)
      · exact ⟨t + 1, by omega, by have := TG.out; omega, by simp, B7.out, by rw [it_succ]; exact P7.out⟩
      case measure => have := TG.out; omega
    · have et : t = 17556 := by omega
      subst et
      rw [e1_.out] at P6
      clear ht hlt TG
      go_wp2
      go_loopg [6, 23] 17556 (fun g' bl i wr => ∃ (t : Nat), t ≤ 17556 ∧ g' + t = 17556 ∧ bl = .int .i64 ((cntN F 0 t : Nat) : Int) ∧ i = .int .i64 t ∧ Below n_ W0 wr ∧ Has wr pb (encU (itM t m1)))
      case atStart => exact ⟨0, by omega, by omega, by rw [cnt_zero]; rfl, rfl, B6.out, by have := P6.out; rwa [it_zero]⟩
      case round =>
        obtain ⟨t, ht, hg, rfl, rfl, hB, hP⟩ := hrel
        have TG := Lib.hid hg
        clear hg
        have B7 := Lib.hid hB
        clear hB
        have P7 := Lib.hid hP
        clear hP
        clear B6 P6
        obtain ⟨u7, hu⟩ : ∃ q_, q_ = wr := ⟨_, rfl⟩
        subst hu
        by_cases hlt : t < 17556
        · have l1 : (t : Int) < 17556 := by omega
          have qb := hst_.out t
          obtain ⟨b0, hb0⟩ : ∃ b0, b0 = cntN F 0 t := ⟨_, rfl⟩
          have kb : b0 ≤ t := by rw [hb0]; exact cnt_le _ hF_.out 0 t
          have sb := cnt_succ F 0 t
          rw [← hb0] at sb ⊢
          obtain ⟨z, hz⟩ : ∃ z, z = F ((0 + 1 + t) % 17556) := ⟨_, rfl⟩
          have hbl : z ≤ 1 := by rw [hz]; exact hF_.out _
          rw [← hz] at qb sb
          obtain ⟨r, hr⟩ : ∃ r, r = tickR (itM t m1) := ⟨_, rfl⟩
          rw [← hr] at qb
          have SB := Lib.hid sb
          have OT := Lib.hid (it_ok OK1.out t)
          have tc := fun W hW => (tick_c pb (itM t m1) OT.out W hW)
          rw [← hr] at tc
          have TC := Lib.hid tc
          clear tc hr hz sb hb0
          have zz : z = 0 ∨ z = 1 := by omega
          have w1 : IntKind.i64.wrap ((b0 : Int) + 1) = (b0 : Int) + 1 := by rw [IntKind.wrap_i64]; omega
          rcases zz with rfl | rfl
          · have qb : (bits .and .u8 r 2 != 0) = false := by rw [qb]; rfl
            go_wp2_with (fail)
            with_reducible refine (TC.out _ P7.out).mono ?_
            rintro q_ u8 ⟨rfl, hP, hk⟩
            have P8 := Lib.hid hP
            have B8 := Lib.hid (hk.below HN.out LP.out B7.out)
            clear hP hk B7 P7
            go_wp2
            go_roundg (gk - 1)
            · exact ⟨t + 1, by omega, by have := TG.out; omega, by rw [SB.out]; simp, by simp, B8.out, by rw [it_succ]; exact P8.out⟩
            case measure => have := TG.out; omega
          · have qb : (bits .and .u8 r 2 != 0) = true := by rw [qb]; rfl
            go_wp2_with (fail)
            with_reducible refine (TC.out _ P7.out).mono ?_
            rintro q_ u8 ⟨rfl, hP, hk⟩
            have P8 := Lib.hid hP
            have B8 := Lib.hid (hk.below HN.out LP.out B7.out)
            clear hP hk B7 P7
            go_wp2
            go_roundg (gk - 1)
            · exact ⟨t + 1, by omega, by have := TG.out; omega, by rw [SB.out]; simp, by simp, B8.out, by rw [it_succ]; exact P8.out⟩
            case measure => have := TG.out; omega
        · have et : t = 17556 := by omega
          subst et
          have en := (cnt_all F 0).trans hn_.out
          rw [en]
          clear en ht hlt TG
          go_wp2
          all_goals exact bodyPost_ret (v := .bool true) (by simp [results, Try.results8, go_sem]) rfl ⟨rfl, B7.out⟩
set_option maxHeartbeats 8000000 in
theorem asks_32 (y h : Int) (y0 : 0 ≤ y) (y1 : y < 256) (h0 : 0 ≤ h) (h1 : h < 256) (hh : bits .and .u8 h 120 = 32) (m0 m1 : M) (e0 : asM y h = m0) (e1 : itM 17556 m0 = m1) (F : Nat → Nat) (hF : ∀ q, F q ≤ 1) (hst : ∀ t, (bits .and .u8 (tickR (itM t m1)) 2 != 0) = decide (F ((0 + 1 + t) % 17556) = 1)) (hn : sumN F 17556 = 144) (w : World) : Calls Try.prog 8 #[.int .u8 y, .int .u8 h] w fun q_ w' => q_ = .returned (.bool true) ∧ Below w.heap.size w w' := by
  suffices hall : ∀ (n_ : Nat) (W0 : World), n_ ≤ W0.heap.size → Below n_ W0 w → Calls Try.prog 8 #[.int .u8 y, .int .u8 h] w fun q_ w' => q_ = .returned (.bool true) ∧ Below n_ W0 w' from hall _ _ (Nat.le_refl _) (Below.refl _ _)
  intro n_ W0 hn hB
  have HN := Lib.hid hn
  obtain ⟨u0, hu0⟩ : ∃ u0, u0 = w := ⟨_, rfl⟩
  rw [← hu0]
  rw [← hu0] at hB
  have B0 := Lib.hid hB
  clear hn hB hu0
  have AW := Lib.hid awake_c
  have hnot : ∀ (x : Bool) (w : World), (Op.unary .not (.bool x)).run Try.prog w = .ok (.bool (!x)) w := fun _ _ => rfl
  have OA := Lib.hid (ok_write ok_zero 65349 y ⟨y0, y1⟩)
  have OB := Lib.hid (ok_write OA.out 65345 h ⟨h0, h1⟩)
  have OK0 := Lib.hid (show Ok m0 by rw [← e0]; exact as_ok y h ⟨y0, y1⟩ ⟨h0, h1⟩)
  have OK1 := Lib.hid (show Ok m1 by rw [← e1]; exact it_ok OK0.out _)
  have e0_ := Lib.hid e0
  clear e0
  have e1_ := Lib.hid e1
  clear e1
  have hst_ := Lib.hid hst
  clear hst
  have hn_ := Lib.hid hn
  clear hn
  have hF_ := Lib.hid hF
  clear hF
  go_enter Try.func8, Try.ntmps8
  go_wp2_with (fail)
  with_reducible refine (AW.out _).mono ?_
  rintro q_ u1 ⟨rfl, hb⟩
  have B1 := Lib.hid (vian HN.out B0.out hb)
  clear hb B0
  go_wp2_with (fail)
  with_reducible refine (new_c _).mono ?_
  rintro q_ u2 ⟨rfl, hP, hb⟩
  have B2 := Lib.hid (vian HN.out B1.out hb)
  have P2 := Lib.hid hP
  have LP := Lib.hid (Nat.le_trans HN.out B1.out.size)
  clear hb hP B1
  generalize u1.heap.size = pb at P2 LP  ⊢
  go_wp2_with (fail)
  with_reducible refine (write_c pb _ ok_zero 65349 (by decide) (by decide) y y0 y1 _ P2.out).mono ?_
  rintro q_ u3 ⟨rfl, hP, hk⟩
  have P3 := Lib.hid hP
  have B3 := Lib.hid (hk.below HN.out LP.out B2.out)
  clear hP hk B2 P2
  go_wp2_with (fail)
  with_reducible refine (write_c pb _ OA.out 65345 (by decide) (by decide) h h0 h1 _ P3.out).mono ?_
  rintro q_ u4 ⟨rfl, hP, hk⟩
  have P4 := Lib.hid hP
  have B4 := Lib.hid (hk.below HN.out LP.out B3.out)
  clear hP hk B3 P3
  go_wp2_with (fail)
  with_reducible refine (write_c pb _ OB.out 65344 (by decide) (by decide) 128 (by decide) (by decide) _ P4.out).mono ?_
  rintro q_ u5 ⟨rfl, hP, hk⟩
  have P5 := Lib.hid hP
  have B5 := Lib.hid (hk.below HN.out LP.out B4.out)
  clear hP hk B4 P4
  have P9 : Has u5 pb (encU (asM y h)) := P5.out
  rw [e0_.out] at P9
  clear P5
  have P5 := Lib.hid P9
  clear P9
  go_wp2
  go_loopg [18] 17556 (fun g' i wr => ∃ (t : Nat), t ≤ 17556 ∧ g' + t = 17556 ∧ i = .int .i64 t ∧ Below n_ W0 wr ∧ Has wr pb (encU (itM t m0)))
  case atStart => exact ⟨0, by omega, by omega, rfl, B5.out, by have := P5.out; rwa [it_zero]⟩
  case round =>
    obtain ⟨t, ht, hg, rfl, hB, hP⟩ := hrel
    have TG := Lib.hid hg
    clear hg
    have B6 := Lib.hid hB
    clear hB
    have P6 := Lib.hid hP
    clear hP
    clear B5 P5
    obtain ⟨u6, hu⟩ : ∃ q_, q_ = wr := ⟨_, rfl⟩
    subst hu
    by_cases hlt : t < 17556
    · have l1 : (t : Int) < 17556 := by omega
      go_wp2_with (fail)
      with_reducible refine (tick_c pb _ (it_ok OK0.out t) _ P6.out).mono ?_
      rintro q_ u7 ⟨rfl, hP, hk⟩
      have P7 := Lib.hid hP
      have B7 := Lib.hid (hk.below HN.out LP.out B6.out)
      clear hP hk B6 P6
      go_wp2
      go_roundg (gk - 1)
      · exact ⟨t + 1, by omega, by have := TG.out; omega, by simp, B7.out, by rw [it_succ]; exact P7.out⟩
      case measure => have := TG.out; omega
    · have et : t = 17556 := by omega
      subst et
      rw [e1_.out] at P6
      clear ht hlt TG
      go_wp2
      go_loopg [6, 23] 17556 (fun g' bl i wr => ∃ (t : Nat), t ≤ 17556 ∧ g' + t = 17556 ∧ bl = .int .i64 ((cntN F 0 t : Nat) : Int) ∧ i = .int .i64 t ∧ Below n_ W0 wr ∧ Has wr pb (encU (itM t m1)))
      case atStart => exact ⟨0, by omega, by omega, by rw [cnt_zero]; rfl, rfl, B6.out, by have := P6.out; rwa [it_zero]⟩
      case round =>
        obtain ⟨t, ht, hg, rfl, rfl, hB, hP⟩ := hrel
        have TG := Lib.hid hg
        clear hg
        have B7 := Lib.hid hB
        clear hB
        have P7 := Lib.hid hP
        clear hP
        clear B6 P6
        obtain ⟨u7, hu⟩ : ∃ q_, q_ = wr := ⟨_, rfl⟩
        subst hu
        by_cases hlt : t < 17556
        · have l1 : (t : Int) < 17556 := by omega
          have qb := hst_.out t
          obtain ⟨b0, hb0⟩ : ∃ b0, b0 = cntN F 0 t := ⟨_, rfl⟩
          have kb : b0 ≤ t := by rw [hb0]; exact cnt_le _ hF_.out 0 t
          have sb := cnt_succ F 0 t
          rw [← hb0] at sb ⊢
          obtain ⟨z, hz⟩ : ∃ z, z = F ((0 + 1 + t) % 17556) := ⟨_, rfl⟩
          have hbl : z ≤ 1 := by rw [hz]; exact hF_.out _
          rw [← hz] at qb sb
          obtain ⟨r, hr⟩ : ∃ r, r = tickR (itM t m1) := ⟨_, rfl⟩
          rw [← hr] at qb
          have SB := Lib.hid sb
          have OT := Lib.hid (it_ok OK1.out t)
          have tc := fun W hW => (tick_c pb (itM t m1) OT.out W hW)
          rw [← hr] at tc
          have TC := Lib.hid tc
          clear tc hr hz sb hb0
          have zz : z = 0 ∨ z = 1 := by omega
          have w1 : IntKind.i64.wrap ((b0 : Int) + 1) = (b0 : Int) + 1 := by rw [IntKind.wrap_i64]; omega
          rcases zz with rfl | rfl
          · have qb : (bits .and .u8 r 2 != 0) = false := by rw [qb]; rfl
            go_wp2_with (fail)
            with_reducible refine (TC.out _ P7.out).mono ?_
            rintro q_ u8 ⟨rfl, hP, hk⟩
            have P8 := Lib.hid hP
            have B8 := Lib.hid (hk.below HN.out LP.out B7.out)
            clear hP hk B7 P7
            go_wp2
            go_roundg (gk - 1)
            · exact ⟨t + 1, by omega, by have := TG.out; omega, by rw [SB.out]; simp, by simp, B8.out, by rw [it_succ]; exact P8.out⟩
            case measure => have := TG.out; omega
          · have qb : (bits .and .u8 r 2 != 0) = true := by rw [qb]; rfl
            go_wp2_with (fail)
            with_reducible refine (TC.out _ P7.out).mono ?_
            rintro q_ u8 ⟨rfl, hP, hk⟩
            have P8 := Lib.hid hP
            have B8 := Lib.hid (hk.below HN.out LP.out B7.out)
            clear hP hk B7 P7
            go_wp2
            go_roundg (gk - 1)
            · exact ⟨t + 1, by omega, by have := TG.out; omega, by rw [SB.out]; simp, by simp, B8.out, by rw [it_succ]; exact P8.out⟩
            case measure => have := TG.out; omega
        · have et : t = 17556 := by omega
          subst et
          have en := (cnt_all F 0).trans hn_.out
          rw [en]
          clear en ht hlt TG
          go_wp2
          all_goals exact bodyPost_ret (v := .bool true) (by simp [results, Try.results8, go_sem]) rfl ⟨rfl, B7.out⟩
set_option maxHeartbeats 8000000 in
theorem asks_16 (y h : Int) (y0 : 0 ≤ y) (y1 : y < 256) (h0 : 0 ≤ h) (h1 : h < 256) (hh : bits .and .u8 h 120 = 16) (m0 m1 : M) (e0 : asM y h = m0) (e1 : itM 17556 m0 = m1) (F : Nat → Nat) (hF : ∀ q, F q ≤ 1) (hst : ∀ t, (bits .and .u8 (tickR (itM t m1)) 2 != 0) = decide (F ((0 + 1 + t) % 17556) = 1)) (hn : sumN F 17556 = 1) (w : World) : Calls Try.prog 8 #[.int .u8 y, .int .u8 h] w fun q_ w' => q_ = .returned (.bool true) ∧ Below w.heap.size w w' := by
  suffices hall : ∀ (n_ : Nat) (W0 : World), n_ ≤ W0.heap.size → Below n_ W0 w → Calls Try.prog 8 #[.int .u8 y, .int .u8 h] w fun q_ w' => q_ = .returned (.bool true) ∧ Below n_ W0 w' from hall _ _ (Nat.le_refl _) (Below.refl _ _)
  intro n_ W0 hn hB
  have HN := Lib.hid hn
  obtain ⟨u0, hu0⟩ : ∃ u0, u0 = w := ⟨_, rfl⟩
  rw [← hu0]
  rw [← hu0] at hB
  have B0 := Lib.hid hB
  clear hn hB hu0
  have AW := Lib.hid awake_c
  have hnot : ∀ (x : Bool) (w : World), (Op.unary .not (.bool x)).run Try.prog w = .ok (.bool (!x)) w := fun _ _ => rfl
  have OA := Lib.hid (ok_write ok_zero 65349 y ⟨y0, y1⟩)
  have OB := Lib.hid (ok_write OA.out 65345 h ⟨h0, h1⟩)
  have OK0 := Lib.hid (show Ok m0 by rw [← e0]; exact as_ok y h ⟨y0, y1⟩ ⟨h0, h1⟩)
  have OK1 := Lib.hid (show Ok m1 by rw [← e1]; exact it_ok OK0.out _)
  have e0_ := Lib.hid e0
  clear e0
  have e1_ := Lib.hid e1
  clear e1
  have hst_ := Lib.hid hst
  clear hst
  have hn_ := Lib.hid hn
  clear hn
  have hF_ := Lib.hid hF
  clear hF
  go_enter Try.func8, Try.ntmps8
  go_wp2_with (fail)
  with_reducible refine (AW.out _).mono ?_
  rintro q_ u1 ⟨rfl, hb⟩
  have B1 := Lib.hid (vian HN.out B0.out hb)
  clear hb B0
  go_wp2_with (fail)
  with_reducible refine (new_c _).mono ?_
  rintro q_ u2 ⟨rfl, hP, hb⟩
  have B2 := Lib.hid (vian HN.out B1.out hb)
  have P2 := Lib.hid hP
  have LP := Lib.hid (Nat.le_trans HN.out B1.out.size)
  clear hb hP B1
  generalize u1.heap.size = pb at P2 LP  ⊢
  go_wp2_with (fail)
  with_reducible refine (write_c pb _ ok_zero 65349 (by decide) (by decide) y y0 y1 _ P2.out).mono ?_
  rintro q_ u3 ⟨rfl, hP, hk⟩
  have P3 := Lib.hid hP
  have B3 := Lib.hid (hk.below HN.out LP.out B2.out)
  clear hP hk B2 P2
  go_wp2_with (fail)
  with_reducible refine (write_c pb _ OA.out 65345 (by decide) (by decide) h h0 h1 _ P3.out).mono ?_
  rintro q_ u4 ⟨rfl, hP, hk⟩
  have P4 := Lib.hid hP
  have B4 := Lib.hid (hk.below HN.out LP.out B3.out)
  clear hP hk B3 P3
  go_wp2_with (fail)
  with_reducible refine (write_c pb _ OB.out 65344 (by decide) (by decide) 128 (by decide) (by decide) _ P4.out).mono ?_
  rintro q_ u5 ⟨rfl, hP, hk⟩
  have P5 := Lib.hid hP
  have B5 := Lib.hid (hk.below HN.out LP.out B4.out)
  clear hP hk B4 P4
  have P9 : Has u5 pb (encU (asM y h)) := P5.out
  rw [e0_.out] at P9
  clear P5
  have P5 := Lib.hid P9
  clear P9
  go_wp2
  go_loopg [18] 17556 (fun g' i wr => ∃ (t : Nat), t ≤ 17556 ∧ g' + t = 17556 ∧ i = .int .i64 t ∧ Below n_ W0 wr ∧ Has wr pb (encU (itM t m0)))
  case atStart => exact ⟨0, by omega, by omega, rfl, B5.out, by have := P5.out; rwa [it_zero]⟩
  case round =>
    obtain ⟨t, ht, hg, rfl, hB, hP⟩ := hrel
    have TG := Lib.hid hg
    clear hg
    have B6 := Lib.hid hB
    clear hB
    have P6 := Lib.hid hP
    clear hP
    clear B5 P5
    obtain ⟨u6, hu⟩ : ∃ q_, q_ = wr := ⟨_, rfl⟩
    subst hu
    by_cases hlt : t < 17556
    · have l1 : (t : Int) < 17556 := by omega
      go_wp2_with (fail)
      with_reducible refine (tick_c pb _ (it_ok OK0.out t) _ P6.out).mono ?_
      rintro q_ u7 ⟨rfl, hP, hk⟩
      have P7 := Lib.hid hP
      have B7 := Lib.hid (hk.below HN.out LP.out B6.out)
      clear hP hk B6 P6
      go_wp2
      go_roundg (gk - 1)
      · exact ⟨t + 1, by omega, by have := TG.out; omega, by simp, B7.out, by rw [it_succ]; exact P7.out⟩
      case measure => have := TG.out; omega
    · have et : t = 17556 := by omega
      subst et
      rw [e1_.out] at P6
      clear ht hlt TG
      go_wp2
      go_loopg [6, 23] 17556 (fun g' bl i wr => ∃ (t : Nat), t ≤ 17556 ∧ g' + t = 17556 ∧ bl = .int .i64 ((cntN F 0 t : Nat) : Int) ∧ i = .int .i64 t ∧ Below n_ W0 wr ∧ Has wr pb (encU (itM t m1)))
      case atStart => exact ⟨0, by omega, by omega, by rw [cnt_zero]; rfl, rfl, B6.out, by have := P6.out; rwa [it_zero]⟩
      case round =>
        obtain ⟨t, ht, hg, rfl, rfl, hB, hP⟩ := hrel
        have TG := Lib.hid hg
        clear hg
        have B7 := Lib.hid hB
        clear hB
        have P7 := Lib.hid hP
        clear hP
        clear B6 P6
        obtain ⟨u7, hu⟩ : ∃ q_, q_ = wr := ⟨_, rfl⟩
        subst hu
        by_cases hlt : t < 17556
        · have l1 : (t : Int) < 17556 := by omega
          have qb := hst_.out t
          obtain ⟨b0, hb0⟩ : ∃ b0, b0 = cntN F 0 t := ⟨_, rfl⟩
          have kb : b0 ≤ t := by rw [hb0]; exact cnt_le _ hF_.out 0 t
          have sb := cnt_succ F 0 t
          rw [← hb0] at sb ⊢
          obtain ⟨z, hz⟩ : ∃ z, z = F ((0 + 1 + t) % 17556) := ⟨_, rfl⟩
          have hbl : z ≤ 1 := by rw [hz]; exact hF_.out _
          rw [← hz] at qb sb
          obtain ⟨r, hr⟩ : ∃ r, r = tickR (itM t m1) := ⟨_, rfl⟩
          rw [← hr] at qb
          have SB := Lib.hid sb
          have OT := Lib.hid (it_ok OK1.out t)
          have tc := fun W hW => (tick_c pb (itM t m1) OT.out W hW)
          rw [← hr] at tc
          have TC := Lib.hid tc
          clear tc hr hz sb hb0
          have zz : z = 0 ∨ z = 1 := by omega
          have w1 : IntKind.i64.wrap ((b0 : Int) + 1) = (b0 : Int) + 1 := by rw [IntKind.wrap_i64]; omega
          rcases zz with rfl | rfl
          · have qb : (bits .and .u8 r 2 != 0) = false := by rw [qb]; rfl
            go_wp2_with (fail)
            with_reducible refine (TC.out _ P7.out).mono ?_
            rintro q_ u8 ⟨rfl, hP, hk⟩
            have P8 := Lib.hid hP
            have B8 := Lib.hid (hk.below HN.out LP.out B7.out)
            clear hP hk B7 P7
            go_wp2
            go_roundg (gk - 1)
            · exact ⟨t + 1, by omega, by have := TG.out; omega, by rw [SB.out]; simp, by simp, B8.out, by rw [it_succ]; exact P8.out⟩
            case measure => have := TG.out; omega
          · have qb : (bits .and .u8 r 2 != 0) = true := by rw [qb]; rfl
            go_wp2_with (fail)
            with_reducible refine (TC.out _ P7.out).mono ?_
            rintro q_ u8 ⟨rfl, hP, hk⟩
            have P8 := Lib.hid hP
            have B8 := Lib.hid (hk.below HN.out LP.out B7.out)
            clear hP hk B7 P7
            go_wp2
            go_roundg (gk - 1)
            · exact ⟨t + 1, by omega, by have := TG.out; omega, by rw [SB.out]; simp, by simp, B8.out, by rw [it_succ]; exact P8.out⟩
            case measure => have := TG.out; omega
        · have et : t = 17556 := by omega
          subst et
          have en := (cnt_all F 0).trans hn_.out
          rw [en]
          clear en ht hlt TG
          go_wp2
          all_goals exact bodyPost_ret (v := .bool true) (by simp [results, Try.results8, go_sem]) rfl ⟨rfl, B7.out⟩
set_option maxHeartbeats 8000000 in
theorem asks_24 (y h : Int) (y0 : 0 ≤ y) (y1 : y < 256) (h0 : 0 ≤ h) (h1 : h < 256) (hh : bits .and .u8 h 120 = 24) (m0 m1 : M) (e0 : asM y h = m0) (e1 : itM 17556 m0 = m1) (F : Nat → Nat) (hF : ∀ q, F q ≤ 1) (hst : ∀ t, (bits .and .u8 (tickR (itM t m1)) 2 != 0) = decide (F ((0 + 1 + t) % 17556) = 1)) (hn : sumN F 17556 = 144) (w : World) : Calls Try.prog 8 #[.int .u8 y, .int .u8 h] w fun q_ w' => q_ = .returned (.bool true) ∧ Below w.heap.size w w' := by
  suffices hall : ∀ (n_ : Nat) (W0 : World), n_ ≤ W0.heap.size → Below n_ W0 w → Calls Try.prog 8 #[.int .u8 y, .int .u8 h] w fun q_ w' => q_ = .returned (.bool true) ∧ Below n_ W0 w' from hall _ _ (Nat.le_refl _) (Below.refl _ _)
  intro n_ W0 hn hB
  have HN := Lib.hid hn
  obtain ⟨u0, hu0⟩ : ∃ u0, u0 = w := ⟨_, rfl⟩
  rw [← hu0]
  rw [← hu0] at hB
  have B0 := Lib.hid hB
  clear hn hB hu0
  have AW := Lib.hid awake_c
  have hnot : ∀ (x : Bool) (w : World), (Op.unary .not (.bool x)).run Try.prog w = .ok (.bool (!x)) w := fun _ _ => rfl
  have OA := Lib.hid (ok_write ok_zero 65349 y ⟨y0, y1⟩)
  have OB := Lib.hid (ok_write OA.out 65345 h ⟨h0, h1⟩)
  have OK0 := Lib.hid (show Ok m0 by rw [← e0]; exact as_ok y h ⟨y0, y1⟩ ⟨h0, h1⟩)
  have OK1 := Lib.hid (show Ok m1 by rw [← e1]; exact it_ok OK0.out _)
  have e0_ := Lib.hid e0
  clear e0
  have e1_ := Lib.hid e1
  clear e1
  have hst_ := Lib.hid hst
  clear hst
  have hn_ := Lib.hid hn
  clear hn
  have hF_ := Lib.hid hF
  clear hF
  go_enter Try.func8, Try.ntmps8
  go_wp2_with (fail)
  with_reducible refine (AW.out _).mono ?_
  rintro q_ u1 ⟨rfl, hb⟩
  have B1 := Lib.hid (vian HN.out B0.out hb)
  clear hb B0
  go_wp2_with (fail)
  with_reducible refine (new_c _).mono ?_
  rintro q_ u2 ⟨rfl, hP, hb⟩
  have B2 := Lib.hid (vian HN.out B1.out hb)
  have P2 := Lib.hid hP
  have LP := Lib.hid (Nat.le_trans HN.out B1.out.size)
  clear hb hP B1
  generalize u1.heap.size = pb at P2 LP  ⊢
  go_wp2_with (fail)
  with_reducible refine (write_c pb _ ok_zero 65349 (by decide) (by decide) y y0 y1 _ P2.out).mono ?_
  rintro q_ u3 ⟨rfl, hP, hk⟩
  have P3 := Lib.hid hP
  have B3 := Lib.hid (hk.below HN.out LP.out B2.out)
  clear hP hk B2 P2
  go_wp2_with (fail)
  with_reducible refine (write_c pb _ OA.out 65345 (by decide) (by decide) h h0 h1 _ P3.out).mono ?_
  rintro q_ u4 ⟨rfl, hP, hk⟩
  have P4 := Lib.hid hP
  have B4 := Lib.hid (hk.below HN.out LP.out B3.out)
  clear hP hk B3 P3
  go_wp2_with (fail)
  with_reducible refine (write_c pb _ OB.out 65344 (by decide) (by decide) 128 (by decide) (by decide) _ P4.out).mono ?_
  rintro q_ u5 ⟨rfl, hP, hk⟩
  have P5 := Lib.hid hP
  have B5 := Lib.hid (hk.below HN.out LP.out B4.out)
  clear hP hk B4 P4
  have P9 : Has u5 pb (encU (asM y h)) := P5.out
  rw [e0_.out] at P9
  clear P5
  have P5 := Lib.hid P9
  clear P9
  go_wp2
  go_loopg [18] 17556 (fun g' i wr => ∃ (t : Nat), t ≤ 17556 ∧ g' + t = 17556 ∧ i = .int .i64 t ∧ Below n_ W0 wr ∧ Has wr pb (encU (itM t m0)))
  case atStart => exact ⟨0, by omega, by omega, rfl, B5.out, by have := P5.out; rwa [it_zero]⟩
  case round =>
    obtain ⟨t, ht, hg, rfl, hB, hP⟩ := hrel
    have TG := Lib.hid hg
    clear hg
    have B6 := Lib.hid hB
    clear hB
    have P6 := Lib.hid hP
    clear hP
    clear B5 P5
    obtain ⟨u6, hu⟩ : ∃ q_, q_ = wr := ⟨_, rfl⟩
    subst hu
    by_cases hlt : t < 17556
    · have l1 : (t : Int) < 17556 := by omega
      go_wp2_with (fail)
      with_reducible refine (tick_c pb _ (it_ok OK0.out t) _ P6.out).mono ?_
      rintro q_ u7 ⟨rfl, hP, hk⟩
      have P7 := Lib.hid hP
      have B7 := Lib.hid (hk.below HN.out LP.out B6.out)
      clear hP hk B6 P6
      go_wp2
      go_roundg (gk - 1)
      · exact ⟨t + 1, by omega, by have := TG.out; omega, by simp, B7.out, by rw [it_succ]; exact P7.out⟩
      case measure => have := TG.out; omega
    · have et : t = 17556 := by omega
      subst et
      rw [e1_.out] at P6
      clear ht hlt TG
      go_wp2
      go_loopg [6, 23] 17556 (fun g' bl i wr => ∃ (t : Nat), t ≤ 17556 ∧ g' + t = 17556 ∧ bl = .int .i64 ((cntN F 0 t : Nat) : Int) ∧ i = .int .i64 t ∧ Below n_ W0 wr ∧ Has wr pb (encU (itM t m1)))
      case atStart => exact ⟨0, by omega, by omega, by rw [cnt_zero]; rfl, rfl, B6.out, by have := P6.out; rwa [it_zero]⟩
      case round =>
        obtain ⟨t, ht, hg, rfl, rfl, hB, hP⟩ := hrel
        have TG := Lib.hid hg
        clear hg
        have B7 := Lib.hid hB
        clear hB
        have P7 := Lib.hid hP
        clear hP
        clear B6 P6
        obtain ⟨u7, hu⟩ : ∃ q_, q_ = wr := ⟨_, rfl⟩
        subst hu
        by_cases hlt : t < 17556
        · have l1 : (t : Int) < 17556 := by omega
          have qb := hst_.out t
          obtain ⟨b0, hb0⟩ : ∃ b0, b0 = cntN F 0 t := ⟨_, rfl⟩
          have kb : b0 ≤ t := by rw [hb0]; exact cnt_le _ hF_.out 0 t
          have sb := cnt_succ F 0 t
          rw [← hb0] at sb ⊢
          obtain ⟨z, hz⟩ : ∃ z, z = F ((0 + 1 + t) % 17556) := ⟨_, rfl⟩
          have hbl : z ≤ 1 := by rw [hz]; exact hF_.out _
          rw [← hz] at qb sb
          obtain ⟨r, hr⟩ : ∃ r, r = tickR (itM t m1) := ⟨_, rfl⟩
          rw [← hr] at qb
          have SB := Lib.hid sb
          have OT := Lib.hid (it_ok OK1.out t)
          have tc := fun W hW => (tick_c pb (itM t m1) OT.out W hW)
          rw [← hr] at tc
          have TC := Lib.hid tc
          clear tc hr hz sb hb0
          have zz : z = 0 ∨ z = 1 := by omega
          have w1 : IntKind.i64.wrap ((b0 : Int) + 1) = (b0 : Int) + 1 := by rw [IntKind.wrap_i64]; omega
          rcases zz with rfl | rfl
          · have qb : (bits .and .u8 r 2 != 0) = false := by rw [qb]; rfl
            go_wp2_with (fail)
            with_reducible refine (TC.out _ P7.out).mono ?_
            rintro q_ u8 ⟨rfl, hP, hk⟩
            have P8 := Lib.hid hP
            have B8 := Lib.hid (hk.below HN.out LP.out B7.out)
            clear hP hk B7 P7
            go_wp2
            go_roundg (gk - 1)
            · exact ⟨t + 1, by omega, by have := TG.out; omega, by rw [SB.out]; simp, by simp, B8.out, by rw [it_succ]; exact P8.out⟩
            case measure => have := TG.out; omega
          · have qb : (bits .and .u8 r 2 != 0) = true := by rw [qb]; rfl
            go_wp2_with (fail)
            with_reducible refine (TC.out _ P7.out).mono ?_
            rintro q_ u8 ⟨rfl, hP, hk⟩
            have P8 := Lib.hid hP
            have B8 := Lib.hid (hk.below HN.out LP.out B7.out)
            clear hP hk B7 P7
            go_wp2
            go_roundg (gk - 1)
            · exact ⟨t + 1, by omega, by have := TG.out; omega, by rw [SB.out]; simp, by simp, B8.out, by rw [it_succ]; exact P8.out⟩
            case measure => have := TG.out; omega
        · have et : t = 17556 := by omega
          subst et
          have en := (cnt_all F 0).trans hn_.out
          rw [en]
          clear en ht hlt TG
          go_wp2
          all_goals exact bodyPost_ret (v := .bool true) (by simp [results, Try.results8, go_sem]) rfl ⟨rfl, B7.out⟩
set_option maxHeartbeats 8000000 in
theorem asks_x (hv : Int) (k0 : (hv == 0) = false) (k1 : (hv == 64) = false) (k2 : (hv == 8) = false) (k3 : (hv == 32) = false) (k4 : (hv == 16) = false) (k5 : (hv == 24) = false) (n : Nat) (n0 : 0 < n) (n1 : n ≤ 300) (y h : Int) (y0 : 0 ≤ y) (y1 : y < 256) (h0 : 0 ≤ h) (h1 : h < 256) (hh : bits .and .u8 h 120 = hv) (m0 m1 : M) (e0 : asM y h = m0) (e1 : itM 17556 m0 = m1) (F : Nat → Nat) (hF : ∀ q, F q ≤ 1) (hst : ∀ t, (bits .and .u8 (tickR (itM t m1)) 2 != 0) = decide (F ((0 + 1 + t) % 17556) = 1)) (hn : sumN F 17556 = n) (w : World) : Calls Try.prog 8 #[.int .u8 y, .int .u8 h] w fun q_ w' => q_ = .returned (.bool true) ∧ Below w.heap.size w w' := by
  suffices hall : ∀ (n_ : Nat) (W0 : World), n_ ≤ W0.heap.size → Below n_ W0 w → Calls Try.prog 8 #[.int .u8 y, .int .u8 h] w fun q_ w' => q_ = .returned (.bool true) ∧ Below n_ W0 w' from hall _ _ (Nat.le_refl _) (Below.refl _ _)
  intro n_ W0 hn hB
  have HN := Lib.hid hn
  obtain ⟨u0, hu0⟩ : ∃ u0, u0 = w := ⟨_, rfl⟩
  rw [← hu0]
  rw [← hu0] at hB
  have B0 := Lib.hid hB
  clear hn hB hu0
  have AW := Lib.hid awake_c
  have hnot : ∀ (x : Bool) (w : World), (Op.unary .not (.bool x)).run Try.prog w = .ok (.bool (!x)) w := fun _ _ => rfl
  have OA := Lib.hid (ok_write ok_zero 65349 y ⟨y0, y1⟩)
  have OB := Lib.hid (ok_write OA.out 65345 h ⟨h0, h1⟩)
  have OK0 := Lib.hid (show Ok m0 by rw [← e0]; exact as_ok y h ⟨y0, y1⟩ ⟨h0, h1⟩)
  have OK1 := Lib.hid (show Ok m1 by rw [← e1]; exact it_ok OK0.out _)
  have e0_ := Lib.hid e0
  clear e0
  have e1_ := Lib.hid e1
  clear e1
  have hst_ := Lib.hid hst
  clear hst
  have hn_ := Lib.hid hn
  clear hn
  have hF_ := Lib.hid hF
  clear hF
  go_enter Try.func8, Try.ntmps8
  go_wp2_with (fail)
  with_reducible refine (AW.out _).mono ?_
  rintro q_ u1 ⟨rfl, hb⟩
  have B1 := Lib.hid (vian HN.out B0.out hb)
  clear hb B0
  go_wp2_with (fail)
  with_reducible refine (new_c _).mono ?_
  rintro q_ u2 ⟨rfl, hP, hb⟩
  have B2 := Lib.hid (vian HN.out B1.out hb)
  have P2 := Lib.hid hP
  have LP := Lib.hid (Nat.le_trans HN.out B1.out.size)
  clear hb hP B1
  generalize u1.heap.size = pb at P2 LP  ⊢
  go_wp2_with (fail)
  with_reducible refine (write_c pb _ ok_zero 65349 (by decide) (by decide) y y0 y1 _ P2.out).mono ?_
  rintro q_ u3 ⟨rfl, hP, hk⟩
  have P3 := Lib.hid hP
  have B3 := Lib.hid (hk.below HN.out LP.out B2.out)
  clear hP hk B2 P2
  go_wp2_with (fail)
  with_reducible refine (write_c pb _ OA.out 65345 (by decide) (by decide) h h0 h1 _ P3.out).mono ?_
  rintro q_ u4 ⟨rfl, hP, hk⟩
  have P4 := Lib.hid hP
  have B4 := Lib.hid (hk.below HN.out LP.out B3.out)
  clear hP hk B3 P3
  go_wp2_with (fail)
  with_reducible refine (write_c pb _ OB.out 65344 (by decide) (by decide) 128 (by decide) (by decide) _ P4.out).mono ?_
  rintro q_ u5 ⟨rfl, hP, hk⟩
  have P5 := Lib.hid hP
  have B5 := Lib.hid (hk.below HN.out LP.out B4.out)
  clear hP hk B4 P4
  have P9 : Has u5 pb (encU (asM y h)) := P5.out
  rw [e0_.out] at P9
  clear P5
  have P5 := Lib.hid P9
  clear P9
  go_wp2
  go_loopg [18] 17556 (fun g' i wr => ∃ (t : Nat), t ≤ 17556 ∧ g' + t = 17556 ∧ i = .int .i64 t ∧ Below n_ W0 wr ∧ Has wr pb (encU (itM t m0)))
  case atStart => exact ⟨0, by omega, by omega, rfl, B5.out, by have := P5.out; rwa [it_zero]⟩
  case round =>
    obtain ⟨t, ht, hg, rfl, hB, hP⟩ := hrel
    have TG := Lib.hid hg
    clear hg
    have B6 := Lib.hid hB
    clear hB
    have P6 := Lib.hid hP
    clear hP
    clear B5 P5
    obtain ⟨u6, hu⟩ : ∃ q_, q_ = wr := ⟨_, rfl⟩
    subst hu
    by_cases hlt : t < 17556
    · have l1 : (t : Int) < 17556 := by omega
      go_wp2_with (fail)
      with_reducible refine (tick_c pb _ (it_ok OK0.out t) _ P6.out).mono ?_
      rintro q_ u7 ⟨rfl, hP, hk⟩
      have P7 := Lib.hid hP
      have B7 := Lib.hid (hk.below HN.out LP.out B6.out)
      clear hP hk B6 P6
      go_wp2
      go_roundg (gk - 1)
      · exact ⟨t + 1, by omega, by have := TG.out; omega, by simp, B7.out, by rw [it_succ]; exact P7.out⟩
      case measure => have := TG.out; omega
    · have et : t = 17556 := by omega
      subst et
      rw [e1_.out] at P6
      clear ht hlt TG
      go_wp2
      go_loopg [6, 23] 17556 (fun g' bl i wr => ∃ (t : Nat), t ≤ 17556 ∧ g' + t = 17556 ∧ bl = .int .i64 ((cntN F 0 t : Nat) : Int) ∧ i = .int .i64 t ∧ Below n_ W0 wr ∧ Has wr pb (encU (itM t m1)))
      case atStart => exact ⟨0, by omega, by omega, by rw [cnt_zero]; rfl, rfl, B6.out, by have := P6.out; rwa [it_zero]⟩
      case round =>
        obtain ⟨t, ht, hg, rfl, rfl, hB, hP⟩ := hrel
        have TG := Lib.hid hg
        clear hg
        have B7 := Lib.hid hB
        clear hB
        have P7 := Lib.hid hP
        clear hP
        clear B6 P6
        obtain ⟨u7, hu⟩ : ∃ q_, q_ = wr := ⟨_, rfl⟩
        subst hu
        by_cases hlt : t < 17556
        · have l1 : (t : Int) < 17556 := by omega
          have qb := hst_.out t
          obtain ⟨b0, hb0⟩ : ∃ b0, b0 = cntN F 0 t := ⟨_, rfl⟩
          have kb : b0 ≤ t := by rw [hb0]; exact cnt_le _ hF_.out 0 t
          have sb := cnt_succ F 0 t
          rw [← hb0] at sb ⊢
          obtain ⟨z, hz⟩ : ∃ z, z = F ((0 + 1 + t) % 17556) := ⟨_, rfl⟩
          have hbl : z ≤ 1 := by rw [hz]; exact hF_.out _
          rw [← hz] at qb sb
          obtain ⟨r, hr⟩ : ∃ r, r = tickR (itM t m1) := ⟨_, rfl⟩
          rw [← hr] at qb
          have SB := Lib.hid sb
          have OT := Lib.hid (it_ok OK1.out t)
          have tc := fun W hW => (tick_c pb (itM t m1) OT.out W hW)
          rw [← hr] at tc
          have TC := Lib.hid tc
          clear tc hr hz sb hb0
          have zz : z = 0 ∨ z = 1 := by omega
          have w1 : IntKind.i64.wrap ((b0 : Int) + 1) = (b0 : Int) + 1 := by rw [IntKind.wrap_i64]; omega
          rcases zz with rfl | rfl
          · have qb : (bits .and .u8 r 2 != 0) = false := by rw [qb]; rfl
            go_wp2_with (fail)
            with_reducible refine (TC.out _ P7.out).mono ?_
            rintro q_ u8 ⟨rfl, hP, hk⟩
            have P8 := Lib.hid hP
            have B8 := Lib.hid (hk.below HN.out LP.out B7.out)
            clear hP hk B7 P7
            go_wp2
            go_roundg (gk - 1)
            · exact ⟨t + 1, by omega, by have := TG.out; omega, by rw [SB.out]; simp, by simp, B8.out, by rw [it_succ]; exact P8.out⟩
            case measure => have := TG.out; omega
          · have qb : (bits .and .u8 r 2 != 0) = true := by rw [qb]; rfl
            go_wp2_with (fail)
            with_reducible refine (TC.out _ P7.out).mono ?_
            rintro q_ u8 ⟨rfl, hP, hk⟩
            have P8 := Lib.hid hP
            have B8 := Lib.hid (hk.below HN.out LP.out B7.out)
            clear hP hk B7 P7
            go_wp2
            go_roundg (gk - 1)
            · exact ⟨t + 1, by omega, by have := TG.out; omega, by rw [SB.out]; simp, by simp, B8.out, by rw [it_succ]; exact P8.out⟩
            case measure => have := TG.out; omega
        · have et : t = 17556 := by omega
          subst et
          have en := (cnt_all F 0).trans hn_.out
          rw [en]
          clear en ht hlt TG
          have g2 : (0 : Int) < n := by omega
          have g3 : (n : Int) ≤ 300 := by omega
          go_wp2
          all_goals exact bodyPost_ret (v := .bool true) (by simp [results, Try.results8, go_sem]) rfl ⟨rfl, B7.out⟩
theorem st_bits (h : Int) (h0 : 0 ≤ h) (h1 : h < 256) : h / 8 % 16 * 8 = 8 * tf (decide (bit (h / 8 % 16 * 8) 3 = 1)) + 16 * tf (decide (bit (h / 8 % 16 * 8) 4 = 1)) + 32 * tf (decide (bit (h / 8 % 16 * 8) 5 = 1)) + 64 * tf (decide (bit (h / 8 % 16 * 8) 6 = 1)) := byte_all (P := fun h => h / 8 % 16 * 8 = 8 * tf (decide (bit (h / 8 % 16 * 8) 3 = 1)) + 16 * tf (decide (bit (h / 8 % 16 * 8) 4 = 1)) + 32 * tf (decide (bit (h / 8 % 16 * 8) 5 = 1)) + 64 * tf (decide (bit (h / 8 % 16 * 8) 6 = 1))) (by decide +kernel) h h0 h1
theorem tot_low (b3 b4 b5 : Bool) (ly : Nat) : okN false b3 b4 b5 (sumN (riseQ false b3 b4 b5 ly) 17556) = true := by
  rw [all_rise, line_low]; exact low_ok b3 b4 b5
theorem tot_high (b3 b4 b5 : Bool) (ly : Nat) (h : ly < 154) : okN true b3 b4 b5 (sumN (riseQ true b3 b4 b5 ly) 17556) = true := by
  rw [all_rise]; exact high_ok b3 b4 b5 ⟨ly, h⟩
theorem tot_none (b3 b4 b5 : Bool) (ly : Nat) (h : 154 ≤ ly) : okN false b3 b4 b5 (sumN (riseQ true b3 b4 b5 ly) 17556) = true := by
  rw [all_rise, line_none _ _ _ _ h]; exact low_ok b3 b4 b5
/-- The walk. -/
theorem asks_walk (y h : Int) (y0 : 0 ≤ y) (y1 : y < 256) (h0 : 0 ≤ h) (h1 : h < 256) (w : World) : Calls Try.prog 8 #[.int .u8 y, .int .u8 h] w fun q_ w' => q_ = .returned (.bool true) ∧ Below w.heap.size w w' := by
  obtain ⟨ly, hly⟩ := Int.eq_ofNat_of_zero_le y0
  have ok0 := as_ok y h ⟨y0, y1⟩ ⟨h0, h1⟩
  have on0 : 128 ≤ asM y h 8352 := by rw [as_on]; decide
  have ok1 := it_ok ok0 17556
  have on1 : 128 ≤ itM 17556 (asM y h) 8352 := by rw [it_ctl]; exact on0
  have ps : pos (itM 17556 (asM y h)) = ((0 : Nat) : Int) := by rw [pos_it ok0 on0, as_pos]; rfl
  have ac := it_act on0 (as_act y h) 17556
  have st1 : itM 17556 (asM y h) 8353 = h / 8 % 16 * 8 := by rw [it_lies _ _ _ (by omega) (by omega)]; exact as_st y h
  have ly1 : itM 17556 (asM y h) 8357 = ly := by rw [it_lies _ _ _ (by omega) (by omega), as_ly]; exact hly
  have hb := st_bits h h0 h1
  have hh := g120 h h0 h1
  generalize hs : h / 8 % 16 * 8 = s at hb hh st1
  obtain ⟨b3, h3⟩ : ∃ b3, decide (bit s 3 = 1) = b3 := ⟨_, rfl⟩
  obtain ⟨b4, h4⟩ : ∃ b4, decide (bit s 4 = 1) = b4 := ⟨_, rfl⟩
  obtain ⟨b5, h5⟩ : ∃ b5, decide (bit s 5 = 1) = b5 := ⟨_, rfl⟩
  obtain ⟨b6, h6⟩ : ∃ b6, decide (bit s 6 = 1) = b6 := ⟨_, rfl⟩
  have stt : ∀ t, (bits .and .u8 (tickR (itM t (itM 17556 (asM y h)))) 2 != 0) = decide (riseQ b6 b3 b4 b5 ly ((0 + 1 + t) % 17556) = 1) := fun t => by
    have l := it_lies (itM 17556 (asM y h)) t
    exact tick_stat (it_ok ok1 t) (by rw [it_ctl]; exact on1) (it_act on1 ac t) _ _ (pos_nat ok1 on1 0 ps t) (by omega) ly (by rw [l _ (by omega) (by omega)]; exact ly1) b6 b3 b4 b5
      (by rw [l _ (by omega) (by omega), st1]; exact h6) (by rw [l _ (by omega) (by omega), st1]; exact h3) (by rw [l _ (by omega) (by omega), st1]; exact h4) (by rw [l _ (by omega) (by omega), st1]; exact h5)
  rw [h3, h4, h5, h6] at hb
  clear h3 h4 h5 h6
  have key : ∀ n, sumN (riseQ b6 b3 b4 b5 ly) 17556 = n → (b6 = false ∨ ly < 154 → okN b6 b3 b4 b5 n = true) ∧ (154 ≤ ly → okN false b3 b4 b5 n = true) := fun n hn => by
    subst hn
    constructor
    · intro hc
      cases b6 with
      | false => exact tot_low _ _ _ _
      | true => exact tot_high _ _ _ _ (hc.resolve_left (by simp))
    · intro hc
      cases b6 with
      | false => exact tot_low _ _ _ _
      | true => exact tot_none _ _ _ _ hc
  obtain ⟨n, hn⟩ : ∃ n, sumN (riseQ b6 b3 b4 b5 ly) 17556 = n := ⟨_, rfl⟩
  obtain ⟨ka, kb⟩ := key n hn
  clear key
  have hF := riseQ_le b6 b3 b4 b5 ly
  generalize riseQ b6 b3 b4 b5 ly = F at hn hF stt
  cases b6 <;> cases b5 <;> cases b4 <;> cases b3 <;> simp only [tf, if_true, Bool.false_eq_true, if_false] at hb
  all_goals simp at hb
  all_goals subst hb
  · obtain rfl : n = 0 := by have := ka (Or.inl rfl); simpa [okN] using this
    exact asks_0 y h y0 y1 h0 h1 hh _ _ rfl rfl F hF stt hn w
  · obtain rfl : n = 144 := by have := ka (Or.inl rfl); simpa [okN] using this
    exact asks_8 y h y0 y1 h0 h1 hh _ _ rfl rfl F hF stt hn w
  · obtain rfl : n = 1 := by have := ka (Or.inl rfl); simpa [okN] using this
    exact asks_16 y h y0 y1 h0 h1 hh _ _ rfl rfl F hF stt hn w
  · obtain rfl : n = 144 := by have := ka (Or.inl rfl); simpa [okN] using this
    exact asks_24 y h y0 y1 h0 h1 hh _ _ rfl rfl F hF stt hn w
  · obtain rfl : n = 144 := by have := ka (Or.inl rfl); simpa [okN] using this
    exact asks_32 y h y0 y1 h0 h1 hh _ _ rfl rfl F hF stt hn w
  · have kk : 0 < n ∧ n ≤ 300 := by have := ka (Or.inl rfl); simpa [okN] using this
    exact asks_x _ (by decide) (by decide) (by decide) (by decide) (by decide) (by decide) n kk.1 kk.2 y h y0 y1 h0 h1 hh _ _ rfl rfl F hF stt hn w
  · have kk : 0 < n ∧ n ≤ 300 := by have := ka (Or.inl rfl); simpa [okN] using this
    exact asks_x _ (by decide) (by decide) (by decide) (by decide) (by decide) (by decide) n kk.1 kk.2 y h y0 y1 h0 h1 hh _ _ rfl rfl F hF stt hn w
  · have kk : 0 < n ∧ n ≤ 300 := by have := ka (Or.inl rfl); simpa [okN] using this
    exact asks_x _ (by decide) (by decide) (by decide) (by decide) (by decide) (by decide) n kk.1 kk.2 y h y0 y1 h0 h1 hh _ _ rfl rfl F hF stt hn w
  · by_cases g : ly < 154
    · obtain rfl : n = 1 := by have := ka (Or.inr g); simpa [okN] using this
      exact asks_64a y h y0 y1 h0 h1 hh _ _ (by omega) rfl rfl F hF stt hn w
    · obtain rfl : n = 0 := by have := kb (by omega); simpa [okN] using this
      exact asks_64b y h y0 y1 h0 h1 hh _ _ (by omega) rfl rfl F hF stt hn w
  · by_cases g : ly < 154
    · have kk : 0 < n ∧ n ≤ 300 := by have := ka (Or.inr g); simpa [okN] using this
      exact asks_x _ (by decide) (by decide) (by decide) (by decide) (by decide) (by decide) n kk.1 kk.2 y h y0 y1 h0 h1 hh _ _ rfl rfl F hF stt hn w
    · have kk : 0 < n ∧ n ≤ 300 := by have := kb (by omega); simp [okN] at this; omega
      exact asks_x _ (by decide) (by decide) (by decide) (by decide) (by decide) (by decide) n kk.1 kk.2 y h y0 y1 h0 h1 hh _ _ rfl rfl F hF stt hn w
  · by_cases g : ly < 154
    · have kk : 0 < n ∧ n ≤ 300 := by have := ka (Or.inr g); simpa [okN] using this
      exact asks_x _ (by decide) (by decide) (by decide) (by decide) (by decide) (by decide) n kk.1 kk.2 y h y0 y1 h0 h1 hh _ _ rfl rfl F hF stt hn w
    · have kk : 0 < n ∧ n ≤ 300 := by have := kb (by omega); simp [okN] at this; omega
      exact asks_x _ (by decide) (by decide) (by decide) (by decide) (by decide) (by decide) n kk.1 kk.2 y h y0 y1 h0 h1 hh _ _ rfl rfl F hF stt hn w
  · by_cases g : ly < 154
    · have kk : 0 < n ∧ n ≤ 300 := by have := ka (Or.inr g); simpa [okN] using this
      exact asks_x _ (by decide) (by decide) (by decide) (by decide) (by decide) (by decide) n kk.1 kk.2 y h y0 y1 h0 h1 hh _ _ rfl rfl F hF stt hn w
    · have kk : 0 < n ∧ n ≤ 300 := by have := kb (by omega); simp [okN] at this; omega
      exact asks_x _ (by decide) (by decide) (by decide) (by decide) (by decide) (by decide) n kk.1 kk.2 y h y0 y1 h0 h1 hh _ _ rfl rfl F hF stt hn w
  · by_cases g : ly < 154
    · have kk : 0 < n ∧ n ≤ 300 := by have := ka (Or.inr g); simpa [okN] using this
      exact asks_x _ (by decide) (by decide) (by decide) (by decide) (by decide) (by decide) n kk.1 kk.2 y h y0 y1 h0 h1 hh _ _ rfl rfl F hF stt hn w
    · have kk : 0 < n ∧ n ≤ 300 := by have := kb (by omega); simp [okN] at this; omega
      exact asks_x _ (by decide) (by decide) (by decide) (by decide) (by decide) (by decide) n kk.1 kk.2 y h y0 y1 h0 h1 hh _ _ rfl rfl F hF stt hn w
  · by_cases g : ly < 154
    · have kk : 0 < n ∧ n ≤ 300 := by have := ka (Or.inr g); simpa [okN] using this
      exact asks_x _ (by decide) (by decide) (by decide) (by decide) (by decide) (by decide) n kk.1 kk.2 y h y0 y1 h0 h1 hh _ _ rfl rfl F hF stt hn w
    · have kk : 0 < n ∧ n ≤ 300 := by have := kb (by omega); simpa [okN] using this
      exact asks_x _ (by decide) (by decide) (by decide) (by decide) (by decide) (by decide) n kk.1 kk.2 y h y0 y1 h0 h1 hh _ _ rfl rfl F hF stt hn w
  · by_cases g : ly < 154
    · have kk : 0 < n ∧ n ≤ 300 := by have := ka (Or.inr g); simpa [okN] using this
      exact asks_x _ (by decide) (by decide) (by decide) (by decide) (by decide) (by decide) n kk.1 kk.2 y h y0 y1 h0 h1 hh _ _ rfl rfl F hF stt hn w
    · have kk : 0 < n ∧ n ≤ 300 := by have := kb (by omega); simpa [okN] using this
      exact asks_x _ (by decide) (by decide) (by decide) (by decide) (by decide) (by decide) n kk.1 kk.2 y h y0 y1 h0 h1 hh _ _ rfl rfl F hF stt hn w
  · by_cases g : ly < 154
    · have kk : 0 < n ∧ n ≤ 300 := by have := ka (Or.inr g); simpa [okN] using this
      exact asks_x _ (by decide) (by decide) (by decide) (by decide) (by decide) (by decide) n kk.1 kk.2 y h y0 y1 h0 h1 hh _ _ rfl rfl F hF stt hn w
    · have kk : 0 < n ∧ n ≤ 300 := by have := kb (by omega); simpa [okN] using this
      exact asks_x _ (by decide) (by decide) (by decide) (by decide) (by decide) (by decide) n kk.1 kk.2 y h y0 y1 h0 h1 hh _ _ rfl rfl F hF stt hn w
end Go.Proofs.Ytpfbodmadmneiaa
