/-
  The walk through PpuShut: for every number of cycles, place and byte; no condition but that each number fits.
-/
import Derived.Test.YtpfbodmadmneiaaAw
import Derived.Test.YtpfbodmadmneiaaSp2
import Derived.Deep.Cut
import Derived.BigQuiet
import Derived.WalkSmall
import Derived.Deep.LoopGhost
import Derived.Deep.DeepCutAuto
import Derived.Deep.CutBlock
namespace Go.Proofs.Ytpfbodmadmneiaa
open Go.ChangeShapes Go.WideShapes Go.ChangeAt Go.RowKit
set_option linter.unusedVariables false
set_option linter.unusedSimpArgs false
set_option maxRecDepth 100000
theorem readv_c (b : Nat) (m : M) (ok : Ok m) (a : Int) (a0 : 0 ≤ a) (a1 : a < 65536) (v : Int) (hv : readM m a = v) (w : World) (h : Has w b (encU m)) : Calls Try.prog 26 #[.pointer (some ⟨b, 0, none⟩), .int .u16 a] w fun q_ w' => q_ = .returned (.int .u8 v) ∧ Below w.heap.size w w' := by
  subst hv; exact read_c b m ok a a0 a1 w h
theorem peekv_c (b : Nat) (m : M) (ok : Ok m) (a : Int) (a0 : 0 ≤ a) (a1 : a < 65536) (v : Int) (hv : peekM m a = v) (w : World) (h : Has w b (encU m)) : Calls Try.prog 27 #[.pointer (some ⟨b, 0, none⟩), .int .u16 a] w fun q_ w' => q_ = .returned (.int .u8 v) ∧ Below w.heap.size w w' := by
  subst hv; exact peek_c b m ok a a0 a1 w h
theorem writev_c (b : Nat) (m : M) (ok : Ok m) (a : Int) (a0 : 0 ≤ a) (a1 : a < 65536) (x : Int) (x0 : 0 ≤ x) (x1 : x < 256) (m2 : M) (hm : writeM m a x = m2) (w : World) (h : Has w b (encU m)) : Calls Try.prog 21 #[.pointer (some ⟨b, 0, none⟩), .int .u16 a, .int .u8 x] w fun q_ w' => q_ = .returned (.int .u8 (writeR m a x)) ∧ Has w' b (encU m2) ∧ Keeps b w w' := by
  subst hm; exact write_c b m ok a a0 a1 x x0 x1 w h
theorem oamv_c (b : Nat) (m : M) (k : Nat) (hk : k < 160) (x : Int) (x0 : 0 ≤ x) (x1 : x < 256) (w : World) (h : Has w b (encU m)) : Calls Try.prog 28 #[.pointer (some ⟨b, 0, none⟩), .int .i64 (k : Int), .int .u8 x] w fun q_ w' => q_ = .returned (.tuple #[]) ∧ Has w' b (encU (upd m (8192 + k) x)) ∧ Keeps b w w' := by
  have := oamw_c b m (k : Int) x x0 x1 w h (by omega) (by omega)
  unfold sprM at this
  rw [if_pos (by omega)] at this
  exact this
theorem an8191 (a : Int) (h0 : 0 ≤ a) (h1 : a < 65536) : bits .and .u16 a 8191 = a % 8192 := by
  have key : (BitVec.ofInt 16 a &&& BitVec.ofInt 16 8191).toNat = (a % ((2 ^ 16 : Nat) : Int)).toNat % 2 ^ 13 := by
    rw [BitVec.toNat_and, BitVec.toNat_ofInt, show (BitVec.ofInt 16 8191).toNat = 2 ^ 13 - 1 by decide, Nat.and_two_pow_sub_one_eq_mod]
  show IntKind.u16.wrap ((BitVec.ofInt 16 a &&& BitVec.ofInt 16 8191).toNat : Nat) = a % 8192
  rw [key, IntKind.wrap_u16]
  omega
set_option maxHeartbeats 4000000 in
theorem shut_3 (cy a x : Int) (cy0 : 0 ≤ cy) (cy1 : cy < 65536) (a0 : 0 ≤ a) (a1 : a < 65536) (x0 : 0 ≤ x) (x1 : x < 256) (va vo N : Nat) (hva : bits .and .u16 a 8191 = va) (va1 : va < 8192) (hvo : a % 160 = vo) (vo1 : vo < 160) (hN : cy.tmod 18000 = N) (N1 : N < 18000) (hm : modeM (shM va vo N) = 3) (y : Int) (hy : bits .xor .u8 x 1 = y) (y0 : 0 ≤ y) (y1 : y < 256) (m5 m6 : M) (h5 : shM va vo N = m5) (h6 : m5 = m6) (e5 : writeM (shM va vo N) (32768 + (va : Int)) x = m5) (e6 : writeM m5 (65024 + (vo : Int)) x = m6) (ea : readM (shM va vo N) (32768 + (va : Int)) = 255) (eb : readM (shM va vo N) (65024 + (vo : Int)) = 255) (ec : peekM m6 (32768 + (va : Int)) = 1) (ed : peekM m6 (65024 + (vo : Int)) = 2) (w : World) : Calls Try.prog 7 #[.int .u16 cy, .int .u16 a, .int .u8 x] w fun q_ w' => q_ = .returned (.bool true) ∧ Below w.heap.size w w' := by
  suffices hall : ∀ (n_ : Nat) (W0 : World), n_ ≤ W0.heap.size → Below n_ W0 w → Calls Try.prog 7 #[.int .u16 cy, .int .u16 a, .int .u8 x] w fun q_ w' => q_ = .returned (.bool true) ∧ Below n_ W0 w' from hall _ _ (Nat.le_refl _) (Below.refl _ _)
  intro n_ W0 hn hB
  have HN := Lib.hid hn
  obtain ⟨u0, hu0⟩ : ∃ u0, u0 = w := ⟨_, rfl⟩
  rw [← hu0]
  rw [← hu0] at hB
  have B0 := Lib.hid hB
  clear hn hB hu0
  have AW := Lib.hid awake_c
  have hnot : ∀ (x : Bool) (w : World), (Op.unary .not (.bool x)).run Try.prog w = .ok (.bool (!x)) w := fun _ _ => rfl
  have OK4 := Lib.hid (show Ok (shM va vo N) from by unfold shM; exact it_ok (by rw [← sh3 va vo va1 vo1, ← sh2 va vo va1 vo1, ← sh1 va va1]; exact ok_write (ok_write (ok_write ok_zero _ _ (by decide)) _ _ (by decide)) _ _ (by decide)) N)
  have OK5 := Lib.hid (show Ok m5 by rw [← e5]; exact ok_write OK4.out _ _ ⟨x0, x1⟩)
  have OK6 := Lib.hid (show Ok m6 by rw [← e6]; exact ok_write OK5.out _ _ ⟨x0, x1⟩)
  have OK1 := Lib.hid (show Ok (upd zeroM va 1) by rw [← sh1 va va1]; exact ok_write ok_zero _ _ (by decide))
  have OK2 := Lib.hid (show Ok (upd (upd zeroM va 1) (8192 + vo) 2) by rw [← sh2 va vo va1 vo1]; exact ok_write OK1.out _ _ (by decide))
  have OK3 := Lib.hid (show Ok (sgM (upd (upd (upd zeroM va 1) (8192 + vo) 2) 8352 128)) by rw [← sh3 va vo va1 vo1]; exact ok_write OK2.out _ _ (by decide))
  have OK7 := Lib.hid (show Ok (upd m6 (8192 + vo) y) from ok_upd OK6.out _ _ ⟨y0, y1⟩ (by omega) (by omega))
  have E7 := Lib.hid (show peekM (upd m6 (8192 + vo) y) (65024 + (vo : Int)) = y by rw [peek_o _ _ vo1, upd_same])
  have HM := Lib.hid hm
  have E5 := Lib.hid e5
  have E6 := Lib.hid e6
  have EA := Lib.hid ea
  have EB := Lib.hid eb
  have EC := Lib.hid ec
  have ED := Lib.hid ed
  have o1 : bits .or .u16 32768 (va : Int) = 32768 + (va : Int) := or_32768 _ (by omega) (by omega)
  have o2 : IntKind.u16.wrap (65024 + (vo : Int)) = 65024 + (vo : Int) := by rw [IntKind.wrap_u16]; omega
  have o3 : IntKind.u16.wrap (65024 + (vo : Int) - 65024) = (vo : Int) := by rw [IntKind.wrap_u16]; omega
  have o4 : IntKind.u16.wrap (vo : Int) = (vo : Int) := by rw [IntKind.wrap_u16]; omega
  clear hm e5 e6 ea eb ec ed h5 h6
  go_enter Try.func7, Try.ntmps7
  go_wp2_with (fail)
  with_reducible refine (AW.out _).mono ?_
  rintro q_ u1 ⟨rfl, hb⟩
  have B1 := Lib.hid (vian HN.out B0.out hb)
  clear hb B0
  go_wp2_with (fail)
  with_reducible refine (new_c _).mono ?_
  rintro q_ u2 ⟨rfl, hP, hb⟩
  have B2 := Lib.hid (vian HN.out B1.out hb)
  have P2 := Lib.hid hP
  have LP := Lib.hid (Nat.le_trans HN.out B1.out.size)
  clear hb hP B1
  generalize u1.heap.size = pb at P2 LP  ⊢
  go_wp2_with (fail)
  with_reducible refine (writev_c pb _ ok_zero _ (by omega) (by omega) 1 (by decide) (by decide) _ (sh1 va va1) _ P2.out).mono ?_
  rintro q_ u3 ⟨rfl, hP, hk⟩
  have P3 := Lib.hid hP
  have B3 := Lib.hid (hk.below HN.out LP.out B2.out)
  clear hP hk B2 P2
  go_wp2_with (fail)
  with_reducible refine (writev_c pb _ OK1.out _ (by omega) (by omega) 2 (by decide) (by decide) _ (sh2 va vo va1 vo1) _ P3.out).mono ?_
  rintro q_ u4 ⟨rfl, hP, hk⟩
  have P4 := Lib.hid hP
  have B4 := Lib.hid (hk.below HN.out LP.out B3.out)
  clear hP hk B3 P3
  go_wp2_with (fail)
  with_reducible refine (writev_c pb _ OK2.out 65344 (by decide) (by decide) 128 (by decide) (by decide) _ (sh3 va vo va1 vo1) _ P4.out).mono ?_
  rintro q_ u5 ⟨rfl, hP, hk⟩
  have P5 := Lib.hid hP
  have B5 := Lib.hid (hk.below HN.out LP.out B4.out)
  clear hP hk B4 P4
  obtain ⟨m3, hm3⟩ : ∃ m3, m3 = sgM (upd (upd (upd zeroM va 1) (8192 + vo) 2) 8352 128) := ⟨_, rfl⟩
  rw [← hm3] at P5 OK3
  have H3 := Lib.hid hm3
  clear hm3
  go_wp2
  go_loopg [35] N (fun g' i wr => ∃ (t : Nat), t ≤ N ∧ g' + t = N ∧ i = .int .i64 t ∧ Below n_ W0 wr ∧ Has wr pb (encU (itM t m3)))
  case atStart => exact ⟨0, by omega, by omega, rfl, B5.out, by have := P5.out; rwa [it_zero]⟩
  case round =>
    obtain ⟨t, ht, hg, rfl, hB, hP⟩ := hrel
    have TG := Lib.hid hg
    have B6 := Lib.hid hB
    have P6 := Lib.hid hP
    clear hg hB hP B5 P5
    obtain ⟨u6, hu⟩ : ∃ q_, q_ = wr := ⟨_, rfl⟩
    subst hu
    by_cases hlt : t < N
    · have l1 : (t : Int) < N := by omega
      go_wp2_with (fail)
      with_reducible refine (tick_c pb _ (it_ok OK3.out t) _ P6.out).mono ?_
      rintro q_ u7 ⟨rfl, hP, hk⟩
      have P7 := Lib.hid hP
      have B7 := Lib.hid (hk.below HN.out LP.out B6.out)
      clear hP hk B6 P6
      go_wp2
      go_roundg (gk - 1)
      · exact ⟨t + 1, by omega, by have := TG.out; omega, by simp, B7.out, by rw [it_succ]; exact P7.out⟩
      case measure => have := TG.out; omega
    · have et : t = N := by omega
      subst et
      have em : itM t m3 = shM va vo t := by rw [H3.out]; rfl
      rw [em] at P6
      go_wp2_with (fail)
      with_reducible refine (modem_c pb _ OK4.out 3 HM.out _ P6.out).mono ?_
      rintro q_ w' ⟨rfl, rfl⟩
      go_wp2_with (fail)
      with_reducible refine (readv_c pb _ OK4.out _ (by omega) (by omega) 255 EA.out _ P6.out).mono ?_
      rintro q_ u7 ⟨rfl, hb⟩
      have B7 := Lib.hid (vian HN.out B6.out hb)
      have P7 := Lib.hid (P6.out.below hb)
      clear hb B6 P6
      go_wp2_with (fail)
      with_reducible refine (readv_c pb _ OK4.out _ (by omega) (by omega) 255 EB.out _ P7.out).mono ?_
      rintro q_ u8 ⟨rfl, hb⟩
      have B8 := Lib.hid (vian HN.out B7.out hb)
      have P8 := Lib.hid (P7.out.below hb)
      clear hb B7 P7
      go_wp2_with (fail)
      with_reducible refine (writev_c pb _ OK4.out _ (by omega) (by omega) x x0 x1 _ E5.out _ P8.out).mono ?_
      rintro q_ u9 ⟨rfl, hP, hk⟩
      have P9 := Lib.hid hP
      have B9 := Lib.hid (hk.below HN.out LP.out B8.out)
      clear hP hk B8 P8
      go_wp2_with (fail)
      with_reducible refine (writev_c pb _ OK5.out _ (by omega) (by omega) x x0 x1 _ E6.out _ P9.out).mono ?_
      rintro q_ u10 ⟨rfl, hP, hk⟩
      have P10 := Lib.hid hP
      have B10 := Lib.hid (hk.below HN.out LP.out B9.out)
      clear hP hk B9 P9
      go_wp2_with (fail)
      with_reducible refine (peekv_c pb _ OK6.out _ (by omega) (by omega) 1 EC.out _ P10.out).mono ?_
      rintro q_ u11 ⟨rfl, hb⟩
      have B11 := Lib.hid (vian HN.out B10.out hb)
      have P11 := Lib.hid (P10.out.below hb)
      clear hb B10 P10
      go_wp2_with (fail)
      with_reducible refine (peekv_c pb _ OK6.out _ (by omega) (by omega) 2 ED.out _ P11.out).mono ?_
      rintro q_ u12 ⟨rfl, hb⟩
      have B12 := Lib.hid (vian HN.out B11.out hb)
      have P12 := Lib.hid (P11.out.below hb)
      clear hb B11 P11
      go_wp2_with (fail)
      with_reducible refine (oamv_c pb _ vo vo1 y y0 y1 _ P12.out).mono ?_
      rintro q_ u13 ⟨rfl, hP, hk⟩
      have P13 := Lib.hid hP
      have B13 := Lib.hid (hk.below HN.out LP.out B12.out)
      clear hP hk B12 P12
      go_wp2_with (fail)
      with_reducible refine (peekv_c pb _ OK7.out _ (by omega) (by omega) y E7.out _ P13.out).mono ?_
      rintro q_ u14 ⟨rfl, hb⟩
      have B14 := Lib.hid (vian HN.out B13.out hb)
      have P14 := Lib.hid (P13.out.below hb)
      clear hb B13 P13
      go_wp2
      all_goals exact bodyPost_ret (v := .bool true) (by simp [results, Try.results7, go_sem]) rfl ⟨rfl, B14.out⟩
set_option maxHeartbeats 4000000 in
theorem shut_2 (cy a x : Int) (cy0 : 0 ≤ cy) (cy1 : cy < 65536) (a0 : 0 ≤ a) (a1 : a < 65536) (x0 : 0 ≤ x) (x1 : x < 256) (va vo N : Nat) (hva : bits .and .u16 a 8191 = va) (va1 : va < 8192) (hvo : a % 160 = vo) (vo1 : vo < 160) (hN : cy.tmod 18000 = N) (N1 : N < 18000) (hm : modeM (shM va vo N) = 2) (y : Int) (hy : bits .xor .u8 x 1 = y) (y0 : 0 ≤ y) (y1 : y < 256) (m5 m6 : M) (h5 : upd (shM va vo N) va x = m5) (h6 : m5 = m6) (e5 : writeM (shM va vo N) (32768 + (va : Int)) x = m5) (e6 : writeM m5 (65024 + (vo : Int)) x = m6) (ea : readM (shM va vo N) (32768 + (va : Int)) = 1) (eb : readM (shM va vo N) (65024 + (vo : Int)) = 255) (ec : peekM m6 (32768 + (va : Int)) = x) (ed : peekM m6 (65024 + (vo : Int)) = 2) (w : World) : Calls Try.prog 7 #[.int .u16 cy, .int .u16 a, .int .u8 x] w fun q_ w' => q_ = .returned (.bool true) ∧ Below w.heap.size w w' := by
  suffices hall : ∀ (n_ : Nat) (W0 : World), n_ ≤ W0.heap.size → Below n_ W0 w → Calls Try.prog 7 #[.int .u16 cy, .int .u16 a, .int .u8 x] w fun q_ w' => q_ = .returned (.bool true) ∧ Below n_ W0 w' from hall _ _ (Nat.le_refl _) (Below.refl _ _)
  intro n_ W0 hn hB
  have HN := Lib.hid hn
  obtain ⟨u0, hu0⟩ : ∃ u0, u0 = w := ⟨_, rfl⟩
  rw [← hu0]
  rw [← hu0] at hB
  have B0 := Lib.hid hB
  clear hn hB hu0
  have AW := Lib.hid awake_c
  have hnot : ∀ (x : Bool) (w : World), (Op.unary .not (.bool x)).run Try.prog w = .ok (.bool (!x)) w := fun _ _ => rfl
  have OK4 := Lib.hid (show Ok (shM va vo N) from by unfold shM; exact it_ok (by rw [← sh3 va vo va1 vo1, ← sh2 va vo va1 vo1, ← sh1 va va1]; exact ok_write (ok_write (ok_write ok_zero _ _ (by decide)) _ _ (by decide)) _ _ (by decide)) N)
  have OK5 := Lib.hid (show Ok m5 by rw [← e5]; exact ok_write OK4.out _ _ ⟨x0, x1⟩)
  have OK6 := Lib.hid (show Ok m6 by rw [← e6]; exact ok_write OK5.out _ _ ⟨x0, x1⟩)
  have OK1 := Lib.hid (show Ok (upd zeroM va 1) by rw [← sh1 va va1]; exact ok_write ok_zero _ _ (by decide))
  have OK2 := Lib.hid (show Ok (upd (upd zeroM va 1) (8192 + vo) 2) by rw [← sh2 va vo va1 vo1]; exact ok_write OK1.out _ _ (by decide))
  have OK3 := Lib.hid (show Ok (sgM (upd (upd (upd zeroM va 1) (8192 + vo) 2) 8352 128)) by rw [← sh3 va vo va1 vo1]; exact ok_write OK2.out _ _ (by decide))
  have OK7 := Lib.hid (show Ok (upd m6 (8192 + vo) y) from ok_upd OK6.out _ _ ⟨y0, y1⟩ (by omega) (by omega))
  have E7 := Lib.hid (show peekM (upd m6 (8192 + vo) y) (65024 + (vo : Int)) = y by rw [peek_o _ _ vo1, upd_same])
  have HM := Lib.hid hm
  have E5 := Lib.hid e5
  have E6 := Lib.hid e6
  have EA := Lib.hid ea
  have EB := Lib.hid eb
  have EC := Lib.hid ec
  have ED := Lib.hid ed
  have o1 : bits .or .u16 32768 (va : Int) = 32768 + (va : Int) := or_32768 _ (by omega) (by omega)
  have o2 : IntKind.u16.wrap (65024 + (vo : Int)) = 65024 + (vo : Int) := by rw [IntKind.wrap_u16]; omega
  have o3 : IntKind.u16.wrap (65024 + (vo : Int) - 65024) = (vo : Int) := by rw [IntKind.wrap_u16]; omega
  have o4 : IntKind.u16.wrap (vo : Int) = (vo : Int) := by rw [IntKind.wrap_u16]; omega
  clear hm e5 e6 ea eb ec ed h5 h6
  go_enter Try.func7, Try.ntmps7
  go_wp2_with (fail)
  with_reducible refine (AW.out _).mono ?_
  rintro q_ u1 ⟨rfl, hb⟩
  have B1 := Lib.hid (vian HN.out B0.out hb)
  clear hb B0
  go_wp2_with (fail)
  with_reducible refine (new_c _).mono ?_
  rintro q_ u2 ⟨rfl, hP, hb⟩
  have B2 := Lib.hid (vian HN.out B1.out hb)
  have P2 := Lib.hid hP
  have LP := Lib.hid (Nat.le_trans HN.out B1.out.size)
  clear hb hP B1
  generalize u1.heap.size = pb at P2 LP  ⊢
  go_wp2_with (fail)
  with_reducible refine (writev_c pb _ ok_zero _ (by omega) (by omega) 1 (by decide) (by decide) _ (sh1 va va1) _ P2.out).mono ?_
  rintro q_ u3 ⟨rfl, hP, hk⟩
  have P3 := Lib.hid hP
  have B3 := Lib.hid (hk.below HN.out LP.out B2.out)
  clear hP hk B2 P2
  go_wp2_with (fail)
  with_reducible refine (writev_c pb _ OK1.out _ (by omega) (by omega) 2 (by decide) (by decide) _ (sh2 va vo va1 vo1) _ P3.out).mono ?_
  rintro q_ u4 ⟨rfl, hP, hk⟩
  have P4 := Lib.hid hP
  have B4 := Lib.hid (hk.below HN.out LP.out B3.out)
  clear hP hk B3 P3
  go_wp2_with (fail)
  with_reducible refine (writev_c pb _ OK2.out 65344 (by decide) (by decide) 128 (by decide) (by decide) _ (sh3 va vo va1 vo1) _ P4.out).mono ?_
  rintro q_ u5 ⟨rfl, hP, hk⟩
  have P5 := Lib.hid hP
  have B5 := Lib.hid (hk.below HN.out LP.out B4.out)
  clear hP hk B4 P4
  obtain ⟨m3, hm3⟩ : ∃ m3, m3 = sgM (upd (upd (upd zeroM va 1) (8192 + vo) 2) 8352 128) := ⟨_, rfl⟩
  rw [← hm3] at P5 OK3
  have H3 := Lib.hid hm3
  clear hm3
  go_wp2
  go_loopg [35] N (fun g' i wr => ∃ (t : Nat), t ≤ N ∧ g' + t = N ∧ i = .int .i64 t ∧ Below n_ W0 wr ∧ Has wr pb (encU (itM t m3)))
  case atStart => exact ⟨0, by omega, by omega, rfl, B5.out, by have := P5.out; rwa [it_zero]⟩
  case round =>
    obtain ⟨t, ht, hg, rfl, hB, hP⟩ := hrel
    have TG := Lib.hid hg
    have B6 := Lib.hid hB
    have P6 := Lib.hid hP
    clear hg hB hP B5 P5
    obtain ⟨u6, hu⟩ : ∃ q_, q_ = wr := ⟨_, rfl⟩
    subst hu
    by_cases hlt : t < N
    · have l1 : (t : Int) < N := by omega
      go_wp2_with (fail)
      with_reducible refine (tick_c pb _ (it_ok OK3.out t) _ P6.out).mono ?_
      rintro q_ u7 ⟨rfl, hP, hk⟩
      have P7 := Lib.hid hP
      have B7 := Lib.hid (hk.below HN.out LP.out B6.out)
      clear hP hk B6 P6
      go_wp2
      go_roundg (gk - 1)
      · exact ⟨t + 1, by omega, by have := TG.out; omega, by simp, B7.out, by rw [it_succ]; exact P7.out⟩
      case measure => have := TG.out; omega
    · have et : t = N := by omega
      subst et
      have em : itM t m3 = shM va vo t := by rw [H3.out]; rfl
      rw [em] at P6
      go_wp2_with (fail)
      with_reducible refine (modem_c pb _ OK4.out 2 HM.out _ P6.out).mono ?_
      rintro q_ w' ⟨rfl, rfl⟩
      go_wp2_with (fail)
      with_reducible refine (readv_c pb _ OK4.out _ (by omega) (by omega) 1 EA.out _ P6.out).mono ?_
      rintro q_ u7 ⟨rfl, hb⟩
      have B7 := Lib.hid (vian HN.out B6.out hb)
      have P7 := Lib.hid (P6.out.below hb)
      clear hb B6 P6
      go_wp2_with (fail)
      with_reducible refine (readv_c pb _ OK4.out _ (by omega) (by omega) 255 EB.out _ P7.out).mono ?_
      rintro q_ u8 ⟨rfl, hb⟩
      have B8 := Lib.hid (vian HN.out B7.out hb)
      have P8 := Lib.hid (P7.out.below hb)
      clear hb B7 P7
      go_wp2_with (fail)
      with_reducible refine (writev_c pb _ OK4.out _ (by omega) (by omega) x x0 x1 _ E5.out _ P8.out).mono ?_
      rintro q_ u9 ⟨rfl, hP, hk⟩
      have P9 := Lib.hid hP
      have B9 := Lib.hid (hk.below HN.out LP.out B8.out)
      clear hP hk B8 P8
      go_wp2_with (fail)
      with_reducible refine (writev_c pb _ OK5.out _ (by omega) (by omega) x x0 x1 _ E6.out _ P9.out).mono ?_
      rintro q_ u10 ⟨rfl, hP, hk⟩
      have P10 := Lib.hid hP
      have B10 := Lib.hid (hk.below HN.out LP.out B9.out)
      clear hP hk B9 P9
      go_wp2_with (fail)
      with_reducible refine (peekv_c pb _ OK6.out _ (by omega) (by omega) x EC.out _ P10.out).mono ?_
      rintro q_ u11 ⟨rfl, hb⟩
      have B11 := Lib.hid (vian HN.out B10.out hb)
      have P11 := Lib.hid (P10.out.below hb)
      clear hb B10 P10
      go_wp2_with (fail)
      with_reducible refine (peekv_c pb _ OK6.out _ (by omega) (by omega) 2 ED.out _ P11.out).mono ?_
      rintro q_ u12 ⟨rfl, hb⟩
      have B12 := Lib.hid (vian HN.out B11.out hb)
      have P12 := Lib.hid (P11.out.below hb)
      clear hb B11 P11
      go_wp2_with (fail)
      with_reducible refine (oamv_c pb _ vo vo1 y y0 y1 _ P12.out).mono ?_
      rintro q_ u13 ⟨rfl, hP, hk⟩
      have P13 := Lib.hid hP
      have B13 := Lib.hid (hk.below HN.out LP.out B12.out)
      clear hP hk B12 P12
      go_wp2_with (fail)
      with_reducible refine (peekv_c pb _ OK7.out _ (by omega) (by omega) y E7.out _ P13.out).mono ?_
      rintro q_ u14 ⟨rfl, hb⟩
      have B14 := Lib.hid (vian HN.out B13.out hb)
      have P14 := Lib.hid (P13.out.below hb)
      clear hb B13 P13
      go_wp2
      all_goals exact bodyPost_ret (v := .bool true) (by simp [results, Try.results7, go_sem]) rfl ⟨rfl, B14.out⟩
set_option maxHeartbeats 4000000 in
theorem shut_x (v : Int) (cy a x : Int) (cy0 : 0 ≤ cy) (cy1 : cy < 65536) (a0 : 0 ≤ a) (a1 : a < 65536) (x0 : 0 ≤ x) (x1 : x < 256) (va vo N : Nat) (hva : bits .and .u16 a 8191 = va) (va1 : va < 8192) (hvo : a % 160 = vo) (vo1 : vo < 160) (hN : cy.tmod 18000 = N) (N1 : N < 18000) (hm : modeM (shM va vo N) = v) (g2 : (v == 2) = false) (g3 : (v == 3) = false) (y : Int) (hy : bits .xor .u8 x 1 = y) (y0 : 0 ≤ y) (y1 : y < 256) (m5 m6 : M) (h5 : upd (shM va vo N) va x = m5) (h6 : upd m5 (8192 + vo) x = m6) (e5 : writeM (shM va vo N) (32768 + (va : Int)) x = m5) (e6 : writeM m5 (65024 + (vo : Int)) x = m6) (ea : readM (shM va vo N) (32768 + (va : Int)) = 1) (eb : readM (shM va vo N) (65024 + (vo : Int)) = 2) (ec : peekM m6 (32768 + (va : Int)) = x) (ed : peekM m6 (65024 + (vo : Int)) = x) (w : World) : Calls Try.prog 7 #[.int .u16 cy, .int .u16 a, .int .u8 x] w fun q_ w' => q_ = .returned (.bool true) ∧ Below w.heap.size w w' := by
  suffices hall : ∀ (n_ : Nat) (W0 : World), n_ ≤ W0.heap.size → Below n_ W0 w → Calls Try.prog 7 #[.int .u16 cy, .int .u16 a, .int .u8 x] w fun q_ w' => q_ = .returned (.bool true) ∧ Below n_ W0 w' from hall _ _ (Nat.le_refl _) (Below.refl _ _)
  intro n_ W0 hn hB
  have HN := Lib.hid hn
  obtain ⟨u0, hu0⟩ : ∃ u0, u0 = w := ⟨_, rfl⟩
  rw [← hu0]
  rw [← hu0] at hB
  have B0 := Lib.hid hB
  clear hn hB hu0
  have AW := Lib.hid awake_c
  have hnot : ∀ (x : Bool) (w : World), (Op.unary .not (.bool x)).run Try.prog w = .ok (.bool (!x)) w := fun _ _ => rfl
  have OK4 := Lib.hid (show Ok (shM va vo N) from by unfold shM; exact it_ok (by rw [← sh3 va vo va1 vo1, ← sh2 va vo va1 vo1, ← sh1 va va1]; exact ok_write (ok_write (ok_write ok_zero _ _ (by decide)) _ _ (by decide)) _ _ (by decide)) N)
  have OK5 := Lib.hid (show Ok m5 by rw [← e5]; exact ok_write OK4.out _ _ ⟨x0, x1⟩)
  have OK6 := Lib.hid (show Ok m6 by rw [← e6]; exact ok_write OK5.out _ _ ⟨x0, x1⟩)
  have OK1 := Lib.hid (show Ok (upd zeroM va 1) by rw [← sh1 va va1]; exact ok_write ok_zero _ _ (by decide))
  have OK2 := Lib.hid (show Ok (upd (upd zeroM va 1) (8192 + vo) 2) by rw [← sh2 va vo va1 vo1]; exact ok_write OK1.out _ _ (by decide))
  have OK3 := Lib.hid (show Ok (sgM (upd (upd (upd zeroM va 1) (8192 + vo) 2) 8352 128)) by rw [← sh3 va vo va1 vo1]; exact ok_write OK2.out _ _ (by decide))
  have OK7 := Lib.hid (show Ok (upd m6 (8192 + vo) y) from ok_upd OK6.out _ _ ⟨y0, y1⟩ (by omega) (by omega))
  have E7 := Lib.hid (show peekM (upd m6 (8192 + vo) y) (65024 + (vo : Int)) = y by rw [peek_o _ _ vo1, upd_same])
  have HM := Lib.hid hm
  have E5 := Lib.hid e5
  have E6 := Lib.hid e6
  have EA := Lib.hid ea
  have EB := Lib.hid eb
  have EC := Lib.hid ec
  have ED := Lib.hid ed
  have o1 : bits .or .u16 32768 (va : Int) = 32768 + (va : Int) := or_32768 _ (by omega) (by omega)
  have o2 : IntKind.u16.wrap (65024 + (vo : Int)) = 65024 + (vo : Int) := by rw [IntKind.wrap_u16]; omega
  have o3 : IntKind.u16.wrap (65024 + (vo : Int) - 65024) = (vo : Int) := by rw [IntKind.wrap_u16]; omega
  have o4 : IntKind.u16.wrap (vo : Int) = (vo : Int) := by rw [IntKind.wrap_u16]; omega
  clear hm e5 e6 ea eb ec ed h5 h6
  go_enter Try.func7, Try.ntmps7
  go_wp2_with (fail)
  with_reducible refine (AW.out _).mono ?_
  rintro q_ u1 ⟨rfl, hb⟩
  have B1 := Lib.hid (vian HN.out B0.out hb)
  clear hb B0
  go_wp2_with (fail)
  with_reducible refine (new_c _).mono ?_
  rintro q_ u2 ⟨rfl, hP, hb⟩
  have B2 := Lib.hid (vian HN.out B1.out hb)
  have P2 := Lib.hid hP
  have LP := Lib.hid (Nat.le_trans HN.out B1.out.size)
  clear hb hP B1
  generalize u1.heap.size = pb at P2 LP  ⊢
  go_wp2_with (fail)
  with_reducible refine (writev_c pb _ ok_zero _ (by omega) (by omega) 1 (by decide) (by decide) _ (sh1 va va1) _ P2.out).mono ?_
  rintro q_ u3 ⟨rfl, hP, hk⟩
  have P3 := Lib.hid hP
  have B3 := Lib.hid (hk.below HN.out LP.out B2.out)
  clear hP hk B2 P2
  go_wp2_with (fail)
  with_reducible refine (writev_c pb _ OK1.out _ (by omega) (by omega) 2 (by decide) (by decide) _ (sh2 va vo va1 vo1) _ P3.out).mono ?_
  rintro q_ u4 ⟨rfl, hP, hk⟩
  have P4 := Lib.hid hP
  have B4 := Lib.hid (hk.below HN.out LP.out B3.out)
  clear hP hk B3 P3
  go_wp2_with (fail)
  with_reducible refine (writev_c pb _ OK2.out 65344 (by decide) (by decide) 128 (by decide) (by decide) _ (sh3 va vo va1 vo1) _ P4.out).mono ?_
  rintro q_ u5 ⟨rfl, hP, hk⟩
  have P5 := Lib.hid hP
  have B5 := Lib.hid (hk.below HN.out LP.out B4.out)
  clear hP hk B4 P4
  obtain ⟨m3, hm3⟩ : ∃ m3, m3 = sgM (upd (upd (upd zeroM va 1) (8192 + vo) 2) 8352 128) := ⟨_, rfl⟩
  rw [← hm3] at P5 OK3
  have H3 := Lib.hid hm3
  clear hm3
  go_wp2
  go_loopg [35] N (fun g' i wr => ∃ (t : Nat), t ≤ N ∧ g' + t = N ∧ i = .int .i64 t ∧ Below n_ W0 wr ∧ Has wr pb (encU (itM t m3)))
  case atStart => exact ⟨0, by omega, by omega, rfl, B5.out, by have := P5.out; rwa [it_zero]⟩
  case round =>
    obtain ⟨t, ht, hg, rfl, hB, hP⟩ := hrel
    have TG := Lib.hid hg
    have B6 := Lib.hid hB
    have P6 := Lib.hid hP
    clear hg hB hP B5 P5
    obtain ⟨u6, hu⟩ : ∃ q_, q_ = wr := ⟨_, rfl⟩
    subst hu
    by_cases hlt : t < N
    · have l1 : (t : Int) < N := by omega
      go_wp2_with (fail)
      with_reducible refine (tick_c pb _ (it_ok OK3.out t) _ P6.out).mono ?_
      rintro q_ u7 ⟨rfl, hP, hk⟩
      have P7 := Lib.hid hP
      have B7 := Lib.hid (hk.below HN.out LP.out B6.out)
      clear hP hk B6 P6
      go_wp2
      go_roundg (gk - 1)
      · exact ⟨t + 1, by omega, by have := TG.out; omega, by simp, B7.out, by rw [it_succ]; exact P7.out⟩
      case measure => have := TG.out; omega
    · have et : t = N := by omega
      subst et
      have em : itM t m3 = shM va vo t := by rw [H3.out]; rfl
      rw [em] at P6
      go_wp2_with (fail)
      with_reducible refine (modem_c pb _ OK4.out v HM.out _ P6.out).mono ?_
      rintro q_ w' ⟨rfl, rfl⟩
      go_wp2_with (fail)
      with_reducible refine (readv_c pb _ OK4.out _ (by omega) (by omega) 1 EA.out _ P6.out).mono ?_
      rintro q_ u7 ⟨rfl, hb⟩
      have B7 := Lib.hid (vian HN.out B6.out hb)
      have P7 := Lib.hid (P6.out.below hb)
      clear hb B6 P6
      go_wp2_with (fail)
      with_reducible refine (readv_c pb _ OK4.out _ (by omega) (by omega) 2 EB.out _ P7.out).mono ?_
      rintro q_ u8 ⟨rfl, hb⟩
      have B8 := Lib.hid (vian HN.out B7.out hb)
      have P8 := Lib.hid (P7.out.below hb)
      clear hb B7 P7
      go_wp2_with (fail)
      with_reducible refine (writev_c pb _ OK4.out _ (by omega) (by omega) x x0 x1 _ E5.out _ P8.out).mono ?_
      rintro q_ u9 ⟨rfl, hP, hk⟩
      have P9 := Lib.hid hP
      have B9 := Lib.hid (hk.below HN.out LP.out B8.out)
      clear hP hk B8 P8
      go_wp2_with (fail)
      with_reducible refine (writev_c pb _ OK5.out _ (by omega) (by omega) x x0 x1 _ E6.out _ P9.out).mono ?_
      rintro q_ u10 ⟨rfl, hP, hk⟩
      have P10 := Lib.hid hP
      have B10 := Lib.hid (hk.below HN.out LP.out B9.out)
      clear hP hk B9 P9
      go_wp2_with (fail)
      with_reducible refine (peekv_c pb _ OK6.out _ (by omega) (by omega) x EC.out _ P10.out).mono ?_
      rintro q_ u11 ⟨rfl, hb⟩
      have B11 := Lib.hid (vian HN.out B10.out hb)
      have P11 := Lib.hid (P10.out.below hb)
      clear hb B10 P10
      go_wp2_with (fail)
      with_reducible refine (peekv_c pb _ OK6.out _ (by omega) (by omega) x ED.out _ P11.out).mono ?_
      rintro q_ u12 ⟨rfl, hb⟩
      have B12 := Lib.hid (vian HN.out B11.out hb)
      have P12 := Lib.hid (P11.out.below hb)
      clear hb B11 P11
      go_wp2_with (fail)
      with_reducible refine (oamv_c pb _ vo vo1 y y0 y1 _ P12.out).mono ?_
      rintro q_ u13 ⟨rfl, hP, hk⟩
      have P13 := Lib.hid hP
      have B13 := Lib.hid (hk.below HN.out LP.out B12.out)
      clear hP hk B12 P12
      go_wp2_with (fail)
      with_reducible refine (peekv_c pb _ OK7.out _ (by omega) (by omega) y E7.out _ P13.out).mono ?_
      rintro q_ u14 ⟨rfl, hb⟩
      have B14 := Lib.hid (vian HN.out B13.out hb)
      have P14 := Lib.hid (P13.out.below hb)
      clear hb B13 P13
      go_wp2
      all_goals exact bodyPost_ret (v := .bool true) (by simp [results, Try.results7, go_sem]) rfl ⟨rfl, B14.out⟩
/-- The walk. -/
theorem shut_walk (cy a x : Int) (cy0 : 0 ≤ cy) (cy1 : cy < 65536) (a0 : 0 ≤ a) (a1 : a < 65536) (x0 : 0 ≤ x) (x1 : x < 256) (w : World) : Calls Try.prog 7 #[.int .u16 cy, .int .u16 a, .int .u8 x] w fun q_ w' => q_ = .returned (.bool true) ∧ Below w.heap.size w w' := by
  obtain ⟨va, hva⟩ := Int.eq_ofNat_of_zero_le (show 0 ≤ a % 8192 by omega)
  obtain ⟨vo, hvo⟩ := Int.eq_ofNat_of_zero_le (show 0 ≤ a % 160 by omega)
  have e0 : cy.tmod 18000 = cy % 18000 := Int.tmod_eq_emod_of_nonneg cy0
  obtain ⟨N, hN⟩ := Int.eq_ofNat_of_zero_le (show 0 ≤ cy % 18000 by omega)
  have va1 : va < 8192 := by omega
  have vo1 : vo < 160 := by omega
  have hva2 := (an8191 a a0 a1).trans hva
  have hN2 := e0.trans hN
  have y := xor1 x x0 x1
  obtain ⟨s1, s2⟩ := sh_at va vo N va1 vo1
  by_cases h3 : modeM (shM va vo N) = 3
  · obtain ⟨r1, r2, r3, r4⟩ := at_3 (shM va vo N) va vo va1 vo1 x h3
    exact shut_3 cy a x cy0 cy1 a0 a1 x0 x1 va vo N hva2 va1 hvo vo1 hN2 (by omega) h3 _ rfl y.1 y.2 _ _ rfl rfl r3 r4 r1 r2 ((peek_v _ _ va1).trans s1) ((peek_o _ _ vo1).trans s2) w
  · by_cases h2 : modeM (shM va vo N) = 2
    · obtain ⟨r1, r2, r3, r4⟩ := at_2 (shM va vo N) va vo va1 vo1 x h2
      have q := at_2 (upd (shM va vo N) va x) va vo va1 vo1 x ((mode_low _ _ _ (by omega)).trans h2)
      exact shut_2 cy a x cy0 cy1 a0 a1 x0 x1 va vo N hva2 va1 hvo vo1 hN2 (by omega) h2 _ rfl y.1 y.2 _ _ rfl rfl r3 q.2.2.2 (r1.trans s1) r2 ((peek_v _ _ va1).trans (upd_same _ _ _)) ((peek_o _ _ vo1).trans ((upd_ne _ _ _ _ (by omega)).trans s2)) w
    · obtain ⟨r1, r2, r3, r4⟩ := at_x (shM va vo N) va vo va1 vo1 x _ rfl h2 h3
      have q := at_x (upd (shM va vo N) va x) va vo va1 vo1 x _ ((mode_low _ _ _ (by omega)).trans rfl) h2 h3
      exact shut_x _ cy a x cy0 cy1 a0 a1 x0 x1 va vo N hva2 va1 hvo vo1 hN2 (by omega) rfl (by simpa using h2) (by simpa using h3) _ rfl y.1 y.2 _ _ rfl rfl r3 q.2.2.2 (r1.trans s1) (r2.trans s2) ((peek_v _ _ va1).trans ((upd_ne _ _ _ _ (by omega)).trans (upd_same _ _ _))) ((peek_o _ _ vo1).trans (upd_same _ _ _)) w
end Go.Proofs.Ytpfbodmadmneiaa
