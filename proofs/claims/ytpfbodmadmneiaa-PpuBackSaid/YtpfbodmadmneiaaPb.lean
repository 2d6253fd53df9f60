/-
  What is read of a unit, and what is written: for every unit as it can be; no other condition but that each number fits.
-/
import Derived.Test.YtpfbodmadmneiaaPt
import Derived.Test.YtpfbodmadmneiaaTb
import Derived.Deep.Cut
import Derived.BigQuiet
import Derived.WalkSmall
namespace Go.Proofs.Ytpfbodmadmneiaa
open Go.ChangeShapes Go.WideShapes Go.ChangeAt Go.RowKit
set_option linter.unusedVariables false
set_option linter.unusedSimpArgs false
set_option maxRecDepth 100000
theorem isO_c (a : Int) (a0 : 0 ≤ a) (a1 : a < 65536) (z : Bool) (hz : isO a = z) (w : World) : Calls Try.prog 53 #[.int .u16 a] w fun q_ w' => q_ = .returned (.bool z) ∧ w' = w := oam_c a a0 a1 z hz w
theorem isV_c (a : Int) (a0 : 0 ≤ a) (a1 : a < 65536) (z : Bool) (hz : isV a = z) (w : World) : Calls Try.prog 54 #[.int .u16 a] w fun q_ w' => q_ = .returned (.bool z) ∧ w' = w := vid_c a a0 a1 z hz w
set_option maxHeartbeats 2000000 in
theorem hid_2 (b : Nat) (m : M) (c : Int) (hc : m 8352 = c) (c0 : 0 ≤ c) (c1 : c < 256) (L : Int) (hL : m 8356 = L) (L0 : 0 ≤ L) (L1 : L < 256) (d : Int) (hd : m 8363 = d) (d0 : 0 ≤ d) (d1 : d < 256)  (a : Int) (a0 : 0 ≤ a) (a1 : a < 65536) (hv : modeV c L d = 2) (z : Bool) (hz : isO a = z) (w : World) (h : Has w b (encU m)) : Calls Try.prog 38 #[.pointer (some ⟨b, 0, none⟩), .int .u16 a] w fun q_ w' => q_ = .returned (.bool z) ∧ w' = w := by
  have P0 := Lib.hid h
  clear h
  have Hc := Lib.hid hc
  clear hc
  have HL := Lib.hid hL
  clear hL
  have Hd := Lib.hid hd
  clear hd
  have HV := Lib.hid hv
  clear hv
  have HZ := Lib.hid hz
  clear hz
  go_enter Try.func38, Try.ntmps38
  go_wp2_with (fail)
  with_reducible refine (mode_c b m c Hc.out c0 c1 L HL.out L0 L1 d Hd.out d0 d1 2 HV.out _ P0.out).mono ?_
  rintro q_ w' ⟨rfl, rfl⟩
  go_wp2_with (fail)
  with_reducible refine (isO_c a a0 a1 z HZ.out _).mono ?_
  rintro q_ w' ⟨rfl, rfl⟩
  go_wp2
  all_goals first | exact bodyPost_ret (v := .bool z) (by simp [results, Try.results38, go_sem]) rfl ⟨rfl, rfl⟩ | exact bodyPost_end (v := .bool z) (by simp [results, Try.results38, go_sem]) rfl ⟨rfl, rfl⟩
set_option maxHeartbeats 2000000 in
theorem hid_3t (b : Nat) (m : M) (c : Int) (hc : m 8352 = c) (c0 : 0 ≤ c) (c1 : c < 256) (L : Int) (hL : m 8356 = L) (L0 : 0 ≤ L) (L1 : L < 256) (d : Int) (hd : m 8363 = d) (d0 : 0 ≤ d) (d1 : d < 256)  (a : Int) (a0 : 0 ≤ a) (a1 : a < 65536) (hv : modeV c L d = 3) (hz : isO a = true) (w : World) (h : Has w b (encU m)) : Calls Try.prog 38 #[.pointer (some ⟨b, 0, none⟩), .int .u16 a] w fun q_ w' => q_ = .returned (.bool true) ∧ w' = w := by
  have P0 := Lib.hid h
  clear h
  have Hc := Lib.hid hc
  clear hc
  have HL := Lib.hid hL
  clear hL
  have Hd := Lib.hid hd
  clear hd
  have HV := Lib.hid hv
  clear hv
  have HZ := Lib.hid hz
  clear hz
  go_enter Try.func38, Try.ntmps38
  go_wp2_with (fail)
  with_reducible refine (mode_c b m c Hc.out c0 c1 L HL.out L0 L1 d Hd.out d0 d1 3 HV.out _ P0.out).mono ?_
  rintro q_ w' ⟨rfl, rfl⟩
  go_wp2_with (fail)
  with_reducible refine (isO_c a a0 a1 true HZ.out _).mono ?_
  rintro q_ w' ⟨rfl, rfl⟩
  go_wp2
  all_goals first | exact bodyPost_ret (v := .bool true) (by simp [results, Try.results38, go_sem]) rfl ⟨rfl, rfl⟩ | exact bodyPost_end (v := .bool true) (by simp [results, Try.results38, go_sem]) rfl ⟨rfl, rfl⟩
set_option maxHeartbeats 2000000 in
theorem hid_3f (b : Nat) (m : M) (c : Int) (hc : m 8352 = c) (c0 : 0 ≤ c) (c1 : c < 256) (L : Int) (hL : m 8356 = L) (L0 : 0 ≤ L) (L1 : L < 256) (d : Int) (hd : m 8363 = d) (d0 : 0 ≤ d) (d1 : d < 256)  (a : Int) (a0 : 0 ≤ a) (a1 : a < 65536) (hv : modeV c L d = 3) (hz : isO a = false) (z : Bool) (hz2 : isV a = z) (w : World) (h : Has w b (encU m)) : Calls Try.prog 38 #[.pointer (some ⟨b, 0, none⟩), .int .u16 a] w fun q_ w' => q_ = .returned (.bool z) ∧ w' = w := by
  have P0 := Lib.hid h
  clear h
  have Hc := Lib.hid hc
  clear hc
  have HL := Lib.hid hL
  clear hL
  have Hd := Lib.hid hd
  clear hd
  have HV := Lib.hid hv
  clear hv
  have HZ := Lib.hid hz
  have HZ2 := Lib.hid hz2
  clear hz hz2
  go_enter Try.func38, Try.ntmps38
  go_wp2_with (fail)
  with_reducible refine (mode_c b m c Hc.out c0 c1 L HL.out L0 L1 d Hd.out d0 d1 3 HV.out _ P0.out).mono ?_
  rintro q_ w' ⟨rfl, rfl⟩
  go_wp2_with (fail)
  with_reducible refine (isO_c a a0 a1 false HZ.out _).mono ?_
  rintro q_ w' ⟨rfl, rfl⟩
  go_wp2_with (fail)
  with_reducible refine (isV_c a a0 a1 z HZ2.out _).mono ?_
  rintro q_ w' ⟨rfl, rfl⟩
  go_wp2
  all_goals first | exact bodyPost_ret (v := .bool z) (by simp [results, Try.results38, go_sem]) rfl ⟨rfl, rfl⟩ | exact bodyPost_end (v := .bool z) (by simp [results, Try.results38, go_sem]) rfl ⟨rfl, rfl⟩
set_option maxHeartbeats 2000000 in
theorem hid_x (b : Nat) (m : M) (c : Int) (hc : m 8352 = c) (c0 : 0 ≤ c) (c1 : c < 256) (L : Int) (hL : m 8356 = L) (L0 : 0 ≤ L) (L1 : L < 256) (d : Int) (hd : m 8363 = d) (d0 : 0 ≤ d) (d1 : d < 256)  (a : Int) (a0 : 0 ≤ a) (a1 : a < 65536) (v : Int) (hv : modeV c L d = v) (h2 : (v == 2) = false) (h3 : (v == 3) = false) (w : World) (h : Has w b (encU m)) : Calls Try.prog 38 #[.pointer (some ⟨b, 0, none⟩), .int .u16 a] w fun q_ w' => q_ = .returned (.bool false) ∧ w' = w := by
  have P0 := Lib.hid h
  clear h
  have Hc := Lib.hid hc
  clear hc
  have HL := Lib.hid hL
  clear hL
  have Hd := Lib.hid hd
  clear hd
  have HV := Lib.hid hv
  clear hv
  go_enter Try.func38, Try.ntmps38
  go_wp2_with (fail)
  with_reducible refine (mode_c b m c Hc.out c0 c1 L HL.out L0 L1 d Hd.out d0 d1 v HV.out _ P0.out).mono ?_
  rintro q_ w' ⟨rfl, rfl⟩
  go_wp2
  all_goals first | exact bodyPost_ret (v := .bool false) (by simp [results, Try.results38, go_sem]) rfl ⟨rfl, rfl⟩ | exact bodyPost_end (v := .bool false) (by simp [results, Try.results38, go_sem]) rfl ⟨rfl, rfl⟩
/-- Is a place hidden by the mode? -/
theorem hides_c (b : Nat) (m : M) (c : Int) (hc : m 8352 = c) (c0 : 0 ≤ c) (c1 : c < 256) (L : Int) (hL : m 8356 = L) (L0 : 0 ≤ L) (L1 : L < 256) (d : Int) (hd : m 8363 = d) (d0 : 0 ≤ d) (d1 : d < 256) (a : Int) (a0 : 0 ≤ a) (a1 : a < 65536) (z : Bool) (hz : hidV (modeV c L d) a = z) (w : World) (h : Has w b (encU m)) : Calls Try.prog 38 #[.pointer (some ⟨b, 0, none⟩), .int .u16 a] w fun q_ w' => q_ = .returned (.bool z) ∧ w' = w := by
  subst hz
  unfold hidV
  by_cases h2 : modeV c L d = 2
  · rw [if_pos h2]; exact hid_2 b m c hc c0 c1 L hL L0 L1 d hd d0 d1 a a0 a1 h2 _ rfl w h
  · rw [if_neg h2]
    by_cases h3 : modeV c L d = 3
    · rw [if_pos h3]
      cases ho : isO a with
      | true => simp only [Bool.true_or]; exact hid_3t b m c hc c0 c1 L hL L0 L1 d hd d0 d1 a a0 a1 h3 ho w h
      | false => simp only [Bool.false_or]; exact hid_3f b m c hc c0 c1 L hL L0 L1 d hd d0 d1 a a0 a1 h3 ho _ rfl w h
    · rw [if_neg h3]; exact hid_x b m c hc c0 c1 L hL L0 L1 d hd d0 d1 a a0 a1 _ rfl (by simpa using h2) (by simpa using h3) w h
set_option maxHeartbeats 2000000 in
theorem sto_v (b : Nat) (m : M)  (a : Int) (a0 : 0 ≤ a) (a1 : a < 65536) (k : Nat) (hk : a = 32768 + k) (k1 : k < 8192) (w : World) (h : Has w b (encU m)) : Calls Try.prog 42 #[.pointer (some ⟨b, 0, none⟩), .int .u16 a] w fun q_ w' => q_ = .returned (.pointer (some ⟨b, k, none⟩)) ∧ w' = w := by
  have P0 := Lib.hid h
  clear h
  have hw : IntKind.u16.wrap (a - 32768) = k := by rw [IntKind.wrap_u16]; omega
  have k2 : (k : Int) < 8192 := by omega
  have HK := Lib.hid hk
  clear hk
  go_enter Try.func42, Try.ntmps42
  go_wp2_with (fail)
  with_reducible refine (vid_c a a0 a1 true (by have := HK.out; simp; omega) _).mono ?_
  rintro q_ w' ⟨rfl, rfl⟩
  go_wp2
  all_goals first | exact bodyPost_ret (v := .pointer (some ⟨b, k, none⟩)) (by simp [results, Try.results42, go_sem]) rfl ⟨rfl, rfl⟩ | exact bodyPost_end (v := .pointer (some ⟨b, k, none⟩)) (by simp [results, Try.results42, go_sem]) rfl ⟨rfl, rfl⟩
set_option maxHeartbeats 2000000 in
theorem sto_o (b : Nat) (m : M)  (a : Int) (a0 : 0 ≤ a) (a1 : a < 65536) (k : Nat) (hk : a = 65024 + k) (k1 : k < 160) (w : World) (h : Has w b (encU m)) : Calls Try.prog 42 #[.pointer (some ⟨b, 0, none⟩), .int .u16 a] w fun q_ w' => q_ = .returned (.pointer (some ⟨b, 8192 + k, none⟩)) ∧ w' = w := by
  have P0 := Lib.hid h
  clear h
  have hw : IntKind.u16.wrap (a - 65024) = k := by rw [IntKind.wrap_u16]; omega
  have k2 : (k : Int) < 160 := by omega
  have HK := Lib.hid hk
  clear hk
  go_enter Try.func42, Try.ntmps42
  go_wp2_with (fail)
  with_reducible refine (vid_c a a0 a1 false (by have := HK.out; simp; omega) _).mono ?_
  rintro q_ w' ⟨rfl, rfl⟩
  go_wp2_with (fail)
  with_reducible refine (oam_c a a0 a1 true (by have := HK.out; simp; omega) _).mono ?_
  rintro q_ w' ⟨rfl, rfl⟩
  go_wp2
  all_goals first | exact bodyPost_ret (v := .pointer (some ⟨b, 8192 + k, none⟩)) (by simp [results, Try.results42, go_sem]) rfl ⟨rfl, rfl⟩ | exact bodyPost_end (v := .pointer (some ⟨b, 8192 + k, none⟩)) (by simp [results, Try.results42, go_sem]) rfl ⟨rfl, rfl⟩
set_option maxHeartbeats 2000000 in
theorem sto_n (b : Nat) (m : M)  (a : Int) (a0 : 0 ≤ a) (a1 : a < 65536) (h1 : isV a = false) (h2 : isO a = false) (w : World) (h : Has w b (encU m)) : Calls Try.prog 42 #[.pointer (some ⟨b, 0, none⟩), .int .u16 a] w fun q_ w' => q_ = .returned (.pointer none) ∧ w' = w := by
  have P0 := Lib.hid h
  clear h
  have HA := Lib.hid h1
  have HB := Lib.hid h2
  clear h1 h2
  go_enter Try.func42, Try.ntmps42
  go_wp2_with (fail)
  with_reducible refine (isV_c a a0 a1 false HA.out _).mono ?_
  rintro q_ w' ⟨rfl, rfl⟩
  go_wp2_with (fail)
  with_reducible refine (isO_c a a0 a1 false HB.out _).mono ?_
  rintro q_ w' ⟨rfl, rfl⟩
  go_wp2
  all_goals first | exact bodyPost_ret (v := .pointer none) (by simp [results, Try.results42, go_sem]) rfl ⟨rfl, rfl⟩ | exact bodyPost_end (v := .pointer none) (by simp [results, Try.results42, go_sem]) rfl ⟨rfl, rfl⟩
theorem regn_c (a : Int) (a0 : 0 ≤ a) (a1 : a < 65536) (k : Nat) (hr : isR a = true) (hk : regno a = k) (w : World) : Calls Try.prog 39 #[.int .u16 a] w fun q_ w' => q_ = .returned (.tuple #[.int .i64 (k : Int), .bool true]) ∧ w' = w := by
  unfold isR at hr
  simp at hr
  unfold regno at hk
  by_cases g : a < 65350
  · rw [if_pos g] at hk
    have e : (k : Int) = a - 65344 := by omega
    rw [e]; exact reg_lo a a0 a1 (by omega) g w
  · rw [if_neg g] at hk
    have e : (k : Int) = a - 65345 := by omega
    rw [e]; exact reg_hi a a0 a1 (by omega) (by omega) w
theorem regx_c (a : Int) (a0 : 0 ≤ a) (a1 : a < 65536) (hr : isR a = false) (w : World) : Calls Try.prog 39 #[.int .u16 a] w fun q_ w' => q_ = .returned (.tuple #[.int .i64 0, .bool false]) ∧ w' = w := by
  by_cases g0 : a < 65344
  · exact reg_n0 a a0 a1 g0 w
  · by_cases g2 : 65355 < a
    · exact reg_n2 a a0 a1 g2 w
    · have e : a = 65350 := by
        unfold isR at hr
        simp at hr
        exact hr (by omega) (by omega)
      subst e; exact reg_n1 w
set_option maxHeartbeats 2000000 in
theorem rg_n (b : Nat) (m : M)  (n : Nat) (n1 : n < 11) (h1 : ((n : Int) == 1) = false) (x : Int) (hx : m (8352 + n) = x) (w : World) (h : Has w b (encU m)) : Calls Try.prog 46 #[.pointer (some ⟨b, 0, none⟩), .int .i64 (n : Int)] w fun q_ w' => q_ = .returned (.int .u8 x) ∧ w' = w := by
  have P0 := Lib.hid h
  clear h
  have HX := Lib.hid hx
  clear hx
  have n2 : (n : Int) < 11 := by omega
  obtain ⟨hc, hf⟩ := P0.out.out
  have e_x : (encU m)[8352 + n]? = some (.int .u8 x) := (encU_u _ _ (by omega) (by omega) (by omega)).trans (congrArg (fun x => some (Value.int .u8 x)) HX.out)
  go_enter Try.func46, Try.ntmps46
  go_wp2
  all_goals first | exact bodyPost_ret (v := .int .u8 x) (by simp [results, Try.results46, go_sem]) rfl ⟨rfl, rfl⟩ | exact bodyPost_end (v := .int .u8 x) (by simp [results, Try.results46, go_sem]) rfl ⟨rfl, rfl⟩
theorem or128 (v : Int) (h0 : 0 ≤ v) (h1 : v ≤ 3) : bits .or .u8 128 v = 128 + v := by
  have h : ∀ v : Fin 4, bits .or .u8 128 (v.val : Int) = 128 + v.val := by decide +kernel
  obtain ⟨n, rfl⟩ := Int.eq_ofNat_of_zero_le h0
  exact h ⟨n, by omega⟩
theorem or_st (st v : Int) (h0 : 0 ≤ v) (h1 : v ≤ 3) (s0 : 0 ≤ st) (s1 : st < 128) (s2 : st % 8 = 0) : bits .or .u8 st (128 + v) = st + 128 + v ∧ bits .or .u8 (st + 128 + v) 4 = st + 128 + v + 4 := by
  have h : ∀ (v : Fin 4) (s : Fin 16), bits .or .u8 (8 * (s.val : Int)) (128 + v.val) = 8 * (s.val : Int) + 128 + v.val ∧ bits .or .u8 (8 * (s.val : Int) + 128 + v.val) 4 = 8 * (s.val : Int) + 128 + v.val + 4 := by decide +kernel
  obtain ⟨n, rfl⟩ := Int.eq_ofNat_of_zero_le h0
  obtain ⟨k, rfl⟩ : ∃ k : Nat, st = 8 * (k : Int) := ⟨(st / 8).toNat, by omega⟩
  exact h ⟨n, by omega⟩ ⟨k, by omega⟩
set_option maxHeartbeats 2000000 in
theorem rg_1t (b : Nat) (m : M) (c : Int) (hc : m 8352 = c) (c0 : 0 ≤ c) (c1 : c < 256) (st : Int) (hst : m 8353 = st) (st0 : 0 ≤ st)  (L : Int) (hL : m 8356 = L) (L0 : 0 ≤ L) (L1 : L < 256) (ly : Int) (hly : m 8357 = ly) (ly0 : 0 ≤ ly) (ly1 : ly < 256) (d : Int) (hd : m 8363 = d) (d0 : 0 ≤ d) (d1 : d < 256)  (s2 : st % 8 = 0) (s1 : st < 128) (v : Int) (hv : modeV c L d = v) (v0 : 0 ≤ v) (v1 : v ≤ 3) (hz : decide (128 ≤ c) = true) (he : decide (L = ly) = true) (S : Int) (hS : st + 128 + v = S) (T : Int) (hT : S + 4 = T) (w : World) (h : Has w b (encU m)) : Calls Try.prog 46 #[.pointer (some ⟨b, 0, none⟩), .int .i64 1] w fun q_ w' => q_ = .returned (.int .u8 T) ∧ Below w.heap.size w w' := by
  suffices hall : ∀ w0 : World, Below w0.heap.size w0 w → Calls Try.prog 46 #[.pointer (some ⟨b, 0, none⟩), .int .i64 1] w fun q_ w' => q_ = .returned (.int .u8 T) ∧ Below w0.heap.size w0 w' from hall w (Below.refl _ w)
  intro w0 hK
  have P0 := Lib.hid h
  have K0 := Lib.hid hK
  clear h hK
  have Hc := Lib.hid hc
  clear hc
  have Hst := Lib.hid hst
  clear hst
  have HL := Lib.hid hL
  clear hL
  have Hly := Lib.hid hly
  clear hly
  have Hd := Lib.hid hd
  clear hd
  have HV := Lib.hid hv
  clear hv
  have HZ := Lib.hid hz
  clear hz
  have o1 := or128 v v0 v1
  have o2 : bits .or .u8 st (128 + v) = S := (or_st st v v0 v1 st0 s1 s2).1.trans hS
  have w8 : IntKind.u8.wrap v = v := by rw [IntKind.wrap_u8]; omega
  have HE := Lib.hid he
  clear he
  have o3 : bits .or .u8 S 4 = T := by rw [← hS, (or_st st v v0 v1 st0 s1 s2).2, hS]; exact hT
  have HT := Lib.hid hT
  clear hT
  have HS := Lib.hid hS
  clear hS
  go_enter Try.func46, Try.ntmps46
  obtain ⟨hc, hf⟩ := P0.out.out
  have e_st : (encU (m))[8353]? = some (.int .u8 st) := (encU_u _ 8353 (by decide) (by decide) (by decide)).trans (congrArg (fun x => some (Value.int .u8 x)) (Hst.out))
  go_wp2_with (fail)
  clear hc hf e_st
  with_reducible refine (mode_c b m c Hc.out c0 c1 L HL.out L0 L1 d Hd.out d0 d1 v HV.out _ P0.out).mono ?_
  rintro q_ w' ⟨rfl, rfl⟩
  go_wp2_with (fail)
  with_reducible refine (on_c b m c Hc.out c0 c1 true HZ.out _ P0.out).mono ?_
  rintro q_ w' ⟨rfl, rfl⟩
  go_wp2_with (fail)
  with_reducible refine (eq_c b m L HL.out L0 L1 ly Hly.out ly0 ly1 true HE.out _ P0.out).mono ?_
  rintro q_ u1 ⟨rfl, hb⟩
  have P1 := Lib.hid (P0.out.below hb)
  have K1 := Lib.hid (via K0.out hb)
  clear hb P0 K0
  go_wp2
  all_goals first | exact bodyPost_ret (v := .int .u8 T) (by simp [results, Try.results46, go_sem]) rfl ⟨rfl, K1.out⟩ | exact bodyPost_end (v := .int .u8 T) (by simp [results, Try.results46, go_sem]) rfl ⟨rfl, K1.out⟩
set_option maxHeartbeats 2000000 in
theorem rg_1f (b : Nat) (m : M) (c : Int) (hc : m 8352 = c) (c0 : 0 ≤ c) (c1 : c < 256) (st : Int) (hst : m 8353 = st) (st0 : 0 ≤ st)  (L : Int) (hL : m 8356 = L) (L0 : 0 ≤ L) (L1 : L < 256) (ly : Int) (hly : m 8357 = ly) (ly0 : 0 ≤ ly) (ly1 : ly < 256) (d : Int) (hd : m 8363 = d) (d0 : 0 ≤ d) (d1 : d < 256)  (s2 : st % 8 = 0) (s1 : st < 128) (v : Int) (hv : modeV c L d = v) (v0 : 0 ≤ v) (v1 : v ≤ 3) (hz : decide (128 ≤ c) = true) (he : decide (L = ly) = false) (S : Int) (hS : st + 128 + v = S)  (w : World) (h : Has w b (encU m)) : Calls Try.prog 46 #[.pointer (some ⟨b, 0, none⟩), .int .i64 1] w fun q_ w' => q_ = .returned (.int .u8 S) ∧ Below w.heap.size w w' := by
  suffices hall : ∀ w0 : World, Below w0.heap.size w0 w → Calls Try.prog 46 #[.pointer (some ⟨b, 0, none⟩), .int .i64 1] w fun q_ w' => q_ = .returned (.int .u8 S) ∧ Below w0.heap.size w0 w' from hall w (Below.refl _ w)
  intro w0 hK
  have P0 := Lib.hid h
  have K0 := Lib.hid hK
  clear h hK
  have Hc := Lib.hid hc
  clear hc
  have Hst := Lib.hid hst
  clear hst
  have HL := Lib.hid hL
  clear hL
  have Hly := Lib.hid hly
  clear hly
  have Hd := Lib.hid hd
  clear hd
  have HV := Lib.hid hv
  clear hv
  have HZ := Lib.hid hz
  clear hz
  have o1 := or128 v v0 v1
  have o2 : bits .or .u8 st (128 + v) = S := (or_st st v v0 v1 st0 s1 s2).1.trans hS
  have w8 : IntKind.u8.wrap v = v := by rw [IntKind.wrap_u8]; omega
  have HE := Lib.hid he
  clear he
  have HS := Lib.hid hS
  clear hS
  go_enter Try.func46, Try.ntmps46
  obtain ⟨hc, hf⟩ := P0.out.out
  have e_st : (encU (m))[8353]? = some (.int .u8 st) := (encU_u _ 8353 (by decide) (by decide) (by decide)).trans (congrArg (fun x => some (Value.int .u8 x)) (Hst.out))
  go_wp2_with (fail)
  clear hc hf e_st
  with_reducible refine (mode_c b m c Hc.out c0 c1 L HL.out L0 L1 d Hd.out d0 d1 v HV.out _ P0.out).mono ?_
  rintro q_ w' ⟨rfl, rfl⟩
  go_wp2_with (fail)
  with_reducible refine (on_c b m c Hc.out c0 c1 true HZ.out _ P0.out).mono ?_
  rintro q_ w' ⟨rfl, rfl⟩
  go_wp2_with (fail)
  with_reducible refine (eq_c b m L HL.out L0 L1 ly Hly.out ly0 ly1 false HE.out _ P0.out).mono ?_
  rintro q_ u1 ⟨rfl, hb⟩
  have P1 := Lib.hid (P0.out.below hb)
  have K1 := Lib.hid (via K0.out hb)
  clear hb P0 K0
  go_wp2
  all_goals first | exact bodyPost_ret (v := .int .u8 S) (by simp [results, Try.results46, go_sem]) rfl ⟨rfl, K1.out⟩ | exact bodyPost_end (v := .int .u8 S) (by simp [results, Try.results46, go_sem]) rfl ⟨rfl, K1.out⟩
set_option maxHeartbeats 2000000 in
theorem rg_1o (b : Nat) (m : M) (c : Int) (hc : m 8352 = c) (c0 : 0 ≤ c) (c1 : c < 256) (st : Int) (hst : m 8353 = st) (st0 : 0 ≤ st)  (L : Int) (hL : m 8356 = L) (L0 : 0 ≤ L) (L1 : L < 256) (ly : Int) (hly : m 8357 = ly) (ly0 : 0 ≤ ly) (ly1 : ly < 256) (d : Int) (hd : m 8363 = d) (d0 : 0 ≤ d) (d1 : d < 256)  (s2 : st % 8 = 0) (s1 : st < 128) (v : Int) (hv : modeV c L d = v) (v0 : 0 ≤ v) (v1 : v ≤ 3) (hz : decide (128 ≤ c) = false) (S : Int) (hS : st + 128 + v = S)  (w : World) (h : Has w b (encU m)) : Calls Try.prog 46 #[.pointer (some ⟨b, 0, none⟩), .int .i64 1] w fun q_ w' => q_ = .returned (.int .u8 S) ∧ Below w.heap.size w w' := by
  suffices hall : ∀ w0 : World, Below w0.heap.size w0 w → Calls Try.prog 46 #[.pointer (some ⟨b, 0, none⟩), .int .i64 1] w fun q_ w' => q_ = .returned (.int .u8 S) ∧ Below w0.heap.size w0 w' from hall w (Below.refl _ w)
  intro w0 hK
  have P0 := Lib.hid h
  have K0 := Lib.hid hK
  clear h hK
  have Hc := Lib.hid hc
  clear hc
  have Hst := Lib.hid hst
  clear hst
  have HL := Lib.hid hL
  clear hL
  have Hly := Lib.hid hly
  clear hly
  have Hd := Lib.hid hd
  clear hd
  have HV := Lib.hid hv
  clear hv
  have HZ := Lib.hid hz
  clear hz
  have o1 := or128 v v0 v1
  have o2 : bits .or .u8 st (128 + v) = S := (or_st st v v0 v1 st0 s1 s2).1.trans hS
  have w8 : IntKind.u8.wrap v = v := by rw [IntKind.wrap_u8]; omega
  have HS := Lib.hid hS
  clear hS
  go_enter Try.func46, Try.ntmps46
  obtain ⟨hc, hf⟩ := P0.out.out
  have e_st : (encU (m))[8353]? = some (.int .u8 st) := (encU_u _ 8353 (by decide) (by decide) (by decide)).trans (congrArg (fun x => some (Value.int .u8 x)) (Hst.out))
  go_wp2_with (fail)
  clear hc hf e_st
  with_reducible refine (mode_c b m c Hc.out c0 c1 L HL.out L0 L1 d Hd.out d0 d1 v HV.out _ P0.out).mono ?_
  rintro q_ w' ⟨rfl, rfl⟩
  go_wp2_with (fail)
  with_reducible refine (on_c b m c Hc.out c0 c1 false HZ.out _ P0.out).mono ?_
  rintro q_ w' ⟨rfl, rfl⟩
  go_wp2
  all_goals first | exact bodyPost_ret (v := .int .u8 S) (by simp [results, Try.results46, go_sem]) rfl ⟨rfl, K0.out⟩ | exact bodyPost_end (v := .int .u8 S) (by simp [results, Try.results46, go_sem]) rfl ⟨rfl, K0.out⟩
theorem mode_bd4 (m : M) : 0 ≤ modeM m ∧ modeM m ≤ 3 := modeV_bd _ _ _
/-- A register. -/
theorem reg_c (b : Nat) (m : M) (ok : Ok m) (n : Nat) (n1 : n < 11) (w : World) (h : Has w b (encU m)) : Calls Try.prog 46 #[.pointer (some ⟨b, 0, none⟩), .int .i64 (n : Int)] w fun q_ w' => q_ = .returned (.int .u8 (if n = 1 then statM m else m (8352 + n))) ∧ Below w.heap.size w w' := by
  have B := ok.byte
  by_cases a : n = 1
  · subst a
    rw [if_pos rfl]
    unfold statM statV
    by_cases g : 128 ≤ m 8352
    · by_cases e : m 8356 = m 8357
      · rw [if_pos ⟨g, e⟩]
        exact rg_1t b m _ rfl (B 8352 (by decide) (by decide)).1 (B 8352 (by decide) (by decide)).2 _ rfl (B 8353 (by decide) (by decide)).1 _ rfl (B 8356 (by decide) (by decide)).1 (B 8356 (by decide) (by decide)).2 _ rfl (B 8357 (by decide) (by decide)).1 (B 8357 (by decide) (by decide)).2 _ rfl (B 8363 (by decide) (by decide)).1 (B 8363 (by decide) (by decide)).2 ok.stat.1 ok.stat.2 _ rfl (modeV_bd _ _ _).1 (modeV_bd _ _ _).2 (by simpa using g) (by simpa using e) _ rfl _ rfl w h
      · rw [if_neg (fun q => e q.2), Int.add_zero]
        exact rg_1f b m _ rfl (B 8352 (by decide) (by decide)).1 (B 8352 (by decide) (by decide)).2 _ rfl (B 8353 (by decide) (by decide)).1 _ rfl (B 8356 (by decide) (by decide)).1 (B 8356 (by decide) (by decide)).2 _ rfl (B 8357 (by decide) (by decide)).1 (B 8357 (by decide) (by decide)).2 _ rfl (B 8363 (by decide) (by decide)).1 (B 8363 (by decide) (by decide)).2 ok.stat.1 ok.stat.2 _ rfl (modeV_bd _ _ _).1 (modeV_bd _ _ _).2 (by simpa using g) (by simpa using e) _ rfl w h
    · rw [if_neg (fun q => g q.1), Int.add_zero]
      exact rg_1o b m _ rfl (B 8352 (by decide) (by decide)).1 (B 8352 (by decide) (by decide)).2 _ rfl (B 8353 (by decide) (by decide)).1 _ rfl (B 8356 (by decide) (by decide)).1 (B 8356 (by decide) (by decide)).2 _ rfl (B 8357 (by decide) (by decide)).1 (B 8357 (by decide) (by decide)).2 _ rfl (B 8363 (by decide) (by decide)).1 (B 8363 (by decide) (by decide)).2 ok.stat.1 ok.stat.2 _ rfl (modeV_bd _ _ _).1 (modeV_bd _ _ _).2 (by simpa using g) _ rfl w h
  · rw [if_neg a]
    exact (rg_n b m n n1 (by simp; omega) _ rfl w h).mono (fun q_ w' hh => ⟨hh.1, by rw [hh.2]; exact Below.refl _ _⟩)
set_option maxHeartbeats 2000000 in
theorem pk_r (b : Nat) (m : M)  (a : Int) (a0 : 0 ≤ a) (a1 : a < 65536) (k : Nat) (hr : isR a = true) (hk : regno a = k) (v : Int) (H : ∀ W, Has W b (encU m) → Calls Try.prog 46 #[.pointer (some ⟨b, 0, none⟩), .int .i64 (k : Int)] W fun q_ w' => q_ = .returned (.int .u8 v) ∧ Below W.heap.size W w') (w : World) (h : Has w b (encU m)) : Calls Try.prog 27 #[.pointer (some ⟨b, 0, none⟩), .int .u16 a] w fun q_ w' => q_ = .returned (.int .u8 v) ∧ Below w.heap.size w w' := by
  suffices hall : ∀ w0 : World, Below w0.heap.size w0 w → Calls Try.prog 27 #[.pointer (some ⟨b, 0, none⟩), .int .u16 a] w fun q_ w' => q_ = .returned (.int .u8 v) ∧ Below w0.heap.size w0 w' from hall w (Below.refl _ w)
  intro w0 hK
  have P0 := Lib.hid h
  have K0 := Lib.hid hK
  clear h hK
  have HR := Lib.hid hr
  have HK := Lib.hid hk
  have SH := Lib.hid H
  clear hr hk H
  go_enter Try.func27, Try.ntmps27
  go_wp2_with (fail)
  with_reducible refine (regn_c a a0 a1 k HR.out HK.out _).mono ?_
  rintro q_ w' ⟨rfl, rfl⟩
  go_wp2_with (fail)
  with_reducible refine (SH.out _ P0.out).mono ?_
  rintro q_ u1 ⟨rfl, hb⟩
  have P1 := Lib.hid (P0.out.below hb)
  have K1 := Lib.hid (via K0.out hb)
  clear hb P0 K0
  go_wp2
  all_goals first | exact bodyPost_ret (v := .int .u8 v) (by simp [results, Try.results27, go_sem]) rfl ⟨rfl, K1.out⟩ | exact bodyPost_end (v := .int .u8 v) (by simp [results, Try.results27, go_sem]) rfl ⟨rfl, K1.out⟩
set_option maxHeartbeats 2000000 in
theorem pk_v (b : Nat) (m : M)  (a : Int) (a0 : 0 ≤ a) (a1 : a < 65536) (k : Nat) (hk : a = 32768 + k) (k1 : k < 8192) (hr : isR a = false) (x : Int) (hx : m (k) = x) (w : World) (h : Has w b (encU m)) : Calls Try.prog 27 #[.pointer (some ⟨b, 0, none⟩), .int .u16 a] w fun q_ w' => q_ = .returned (.int .u8 x) ∧ Below w.heap.size w w' := by
  suffices hall : ∀ w0 : World, Below w0.heap.size w0 w → Calls Try.prog 27 #[.pointer (some ⟨b, 0, none⟩), .int .u16 a] w fun q_ w' => q_ = .returned (.int .u8 x) ∧ Below w0.heap.size w0 w' from hall w (Below.refl _ w)
  intro w0 hK
  have P0 := Lib.hid h
  have K0 := Lib.hid hK
  clear h hK
  have HR := Lib.hid hr
  have HX := Lib.hid hx
  have HK := Lib.hid hk
  clear hr hx hk
  go_enter Try.func27, Try.ntmps27
  go_wp2_with (fail)
  with_reducible refine (regx_c a a0 a1 HR.out _).mono ?_
  rintro q_ w' ⟨rfl, rfl⟩
  go_wp2_with (fail)
  with_reducible refine (sto_v b m a a0 a1 k HK.out k1 _ P0.out).mono ?_
  rintro q_ w' ⟨rfl, rfl⟩
  obtain ⟨hc, hf⟩ := P0.out.out
  have e_x : (encU m)[k]? = some (.int .u8 x) := (encU_u _ _ (by omega) (by omega) (by omega)).trans (congrArg (fun x => some (Value.int .u8 x)) HX.out)
  go_wp2
  all_goals first | exact bodyPost_ret (v := .int .u8 x) (by simp [results, Try.results27, go_sem]) rfl ⟨rfl, K0.out⟩ | exact bodyPost_end (v := .int .u8 x) (by simp [results, Try.results27, go_sem]) rfl ⟨rfl, K0.out⟩
set_option maxHeartbeats 2000000 in
theorem pk_o (b : Nat) (m : M)  (a : Int) (a0 : 0 ≤ a) (a1 : a < 65536) (k : Nat) (hk : a = 65024 + k) (k1 : k < 160) (hr : isR a = false) (x : Int) (hx : m (8192 + k) = x) (w : World) (h : Has w b (encU m)) : Calls Try.prog 27 #[.pointer (some ⟨b, 0, none⟩), .int .u16 a] w fun q_ w' => q_ = .returned (.int .u8 x) ∧ Below w.heap.size w w' := by
  suffices hall : ∀ w0 : World, Below w0.heap.size w0 w → Calls Try.prog 27 #[.pointer (some ⟨b, 0, none⟩), .int .u16 a] w fun q_ w' => q_ = .returned (.int .u8 x) ∧ Below w0.heap.size w0 w' from hall w (Below.refl _ w)
  intro w0 hK
  have P0 := Lib.hid h
  have K0 := Lib.hid hK
  clear h hK
  have HR := Lib.hid hr
  have HX := Lib.hid hx
  have HK := Lib.hid hk
  clear hr hx hk
  go_enter Try.func27, Try.ntmps27
  go_wp2_with (fail)
  with_reducible refine (regx_c a a0 a1 HR.out _).mono ?_
  rintro q_ w' ⟨rfl, rfl⟩
  go_wp2_with (fail)
  with_reducible refine (sto_o b m a a0 a1 k HK.out k1 _ P0.out).mono ?_
  rintro q_ w' ⟨rfl, rfl⟩
  obtain ⟨hc, hf⟩ := P0.out.out
  have e_x : (encU m)[8192 + k]? = some (.int .u8 x) := (encU_u _ _ (by omega) (by omega) (by omega)).trans (congrArg (fun x => some (Value.int .u8 x)) HX.out)
  go_wp2
  all_goals first | exact bodyPost_ret (v := .int .u8 x) (by simp [results, Try.results27, go_sem]) rfl ⟨rfl, K0.out⟩ | exact bodyPost_end (v := .int .u8 x) (by simp [results, Try.results27, go_sem]) rfl ⟨rfl, K0.out⟩
set_option maxHeartbeats 2000000 in
theorem pk_n (b : Nat) (m : M)  (a : Int) (a0 : 0 ≤ a) (a1 : a < 65536) (hr : isR a = false) (h1 : isV a = false) (h2 : isO a = false) (w : World) (h : Has w b (encU m)) : Calls Try.prog 27 #[.pointer (some ⟨b, 0, none⟩), .int .u16 a] w fun q_ w' => q_ = .returned (.int .u8 255) ∧ Below w.heap.size w w' := by
  suffices hall : ∀ w0 : World, Below w0.heap.size w0 w → Calls Try.prog 27 #[.pointer (some ⟨b, 0, none⟩), .int .u16 a] w fun q_ w' => q_ = .returned (.int .u8 255) ∧ Below w0.heap.size w0 w' from hall w (Below.refl _ w)
  intro w0 hK
  have P0 := Lib.hid h
  have K0 := Lib.hid hK
  clear h hK
  have HR := Lib.hid hr
  have HA := Lib.hid h1
  have HB := Lib.hid h2
  clear hr h1 h2
  go_enter Try.func27, Try.ntmps27
  go_wp2_with (fail)
  with_reducible refine (regx_c a a0 a1 HR.out _).mono ?_
  rintro q_ w' ⟨rfl, rfl⟩
  go_wp2_with (fail)
  with_reducible refine (sto_n b m a a0 a1 HA.out HB.out _ P0.out).mono ?_
  rintro q_ w' ⟨rfl, rfl⟩
  go_wp2
  all_goals first | exact bodyPost_ret (v := .int .u8 255) (by simp [results, Try.results27, go_sem]) rfl ⟨rfl, K0.out⟩ | exact bodyPost_end (v := .int .u8 255) (by simp [results, Try.results27, go_sem]) rfl ⟨rfl, K0.out⟩
theorem isV_out (a : Int) (h : isV a = true) : 32768 ≤ a ∧ a < 40960 := by unfold isV at h; simpa using h
theorem isO_out (a : Int) (h : isO a = true) : 65024 ≤ a ∧ a < 65184 := by unfold isO at h; simpa using h
theorem isR_low (a : Int) (h : a < 65344) : isR a = false := by unfold isR; simp; omega
theorem isV_hi (a : Int) (h : 40960 ≤ a) : isV a = false := by unfold isV; simp; omega
theorem isO_hi (a : Int) (h : 65184 ≤ a) : isO a = false := by unfold isO; simp; omega
theorem isR_out (a : Int) (h : isR a = true) : 65344 ≤ a := by unfold isR at h; simp at h; exact h.1
/-- What lies at a place. -/
theorem peek_c (b : Nat) (m : M) (ok : Ok m) (a : Int) (a0 : 0 ≤ a) (a1 : a < 65536) (w : World) (h : Has w b (encU m)) : Calls Try.prog 27 #[.pointer (some ⟨b, 0, none⟩), .int .u16 a] w fun q_ w' => q_ = .returned (.int .u8 (peekM m a)) ∧ Below w.heap.size w w' := by
  unfold peekM
  by_cases hv : isV a = true
  · rw [if_pos hv]
    have q := isV_out a hv
    exact pk_v b m a a0 a1 (a - 32768).toNat (by omega) (by omega) (isR_low a (by omega)) _ rfl w h
  · rw [if_neg hv]
    by_cases ho : isO a = true
    · rw [if_pos ho]
      have q := isO_out a ho
      exact pk_o b m a a0 a1 (a - 65024).toNat (by omega) (by omega) (isR_low a (by omega)) _ rfl w h
    · rw [if_neg ho]
      by_cases hr : isR a = true
      · rw [if_pos hr]
        exact pk_r b m a a0 a1 _ hr rfl _ (fun W hW => reg_c b m ok _ (regno_bd a hr) W hW) w h
      · rw [if_neg hr]
        exact pk_n b m a a0 a1 (by simpa using hr) (by simpa using hv) (by simpa using ho) w h
set_option maxHeartbeats 2000000 in
theorem rd_h (b : Nat) (m : M) (c : Int) (hc : m 8352 = c) (c0 : 0 ≤ c) (c1 : c < 256) (L : Int) (hL : m 8356 = L) (L0 : 0 ≤ L) (L1 : L < 256) (d : Int) (hd : m 8363 = d) (d0 : 0 ≤ d) (d1 : d < 256)  (a : Int) (a0 : 0 ≤ a) (a1 : a < 65536) (hz : hidV (modeV c L d) a = true) (w : World) (h : Has w b (encU m)) : Calls Try.prog 26 #[.pointer (some ⟨b, 0, none⟩), .int .u16 a] w fun q_ w' => q_ = .returned (.int .u8 255) ∧ Below w.heap.size w w' := by
  suffices hall : ∀ w0 : World, Below w0.heap.size w0 w → Calls Try.prog 26 #[.pointer (some ⟨b, 0, none⟩), .int .u16 a] w fun q_ w' => q_ = .returned (.int .u8 255) ∧ Below w0.heap.size w0 w' from hall w (Below.refl _ w)
  intro w0 hK
  have P0 := Lib.hid h
  have K0 := Lib.hid hK
  clear h hK
  have Hc := Lib.hid hc
  clear hc
  have HL := Lib.hid hL
  clear hL
  have Hd := Lib.hid hd
  clear hd
  have HZ := Lib.hid hz
  clear hz
  go_enter Try.func26, Try.ntmps26
  go_wp2_with (fail)
  with_reducible refine (hides_c b m c Hc.out c0 c1 L HL.out L0 L1 d Hd.out d0 d1 a a0 a1 true HZ.out _ P0.out).mono ?_
  rintro q_ w' ⟨rfl, rfl⟩
  go_wp2
  all_goals first | exact bodyPost_ret (v := .int .u8 255) (by simp [results, Try.results26, go_sem]) rfl ⟨rfl, K0.out⟩ | exact bodyPost_end (v := .int .u8 255) (by simp [results, Try.results26, go_sem]) rfl ⟨rfl, K0.out⟩
set_option maxHeartbeats 2000000 in
theorem rd_s (b : Nat) (m : M) (c : Int) (hc : m 8352 = c) (c0 : 0 ≤ c) (c1 : c < 256) (L : Int) (hL : m 8356 = L) (L0 : 0 ≤ L) (L1 : L < 256) (d : Int) (hd : m 8363 = d) (d0 : 0 ≤ d) (d1 : d < 256)  (a : Int) (a0 : 0 ≤ a) (a1 : a < 65536) (hz : hidV (modeV c L d) a = false) (v : Int) (H : ∀ W, Has W b (encU m) → Calls Try.prog 27 #[.pointer (some ⟨b, 0, none⟩), .int .u16 a] W fun q_ w' => q_ = .returned (.int .u8 v) ∧ Below W.heap.size W w') (w : World) (h : Has w b (encU m)) : Calls Try.prog 26 #[.pointer (some ⟨b, 0, none⟩), .int .u16 a] w fun q_ w' => q_ = .returned (.int .u8 v) ∧ Below w.heap.size w w' := by
  suffices hall : ∀ w0 : World, Below w0.heap.size w0 w → Calls Try.prog 26 #[.pointer (some ⟨b, 0, none⟩), .int .u16 a] w fun q_ w' => q_ = .returned (.int .u8 v) ∧ Below w0.heap.size w0 w' from hall w (Below.refl _ w)
  intro w0 hK
  have P0 := Lib.hid h
  have K0 := Lib.hid hK
  clear h hK
  have Hc := Lib.hid hc
  clear hc
  have HL := Lib.hid hL
  clear hL
  have Hd := Lib.hid hd
  clear hd
  have HZ := Lib.hid hz
  clear hz
  have SH := Lib.hid H
  clear H
  go_enter Try.func26, Try.ntmps26
  go_wp2_with (fail)
  with_reducible refine (hides_c b m c Hc.out c0 c1 L HL.out L0 L1 d Hd.out d0 d1 a a0 a1 false HZ.out _ P0.out).mono ?_
  rintro q_ w' ⟨rfl, rfl⟩
  go_wp2_with (fail)
  with_reducible refine (SH.out _ P0.out).mono ?_
  rintro q_ u1 ⟨rfl, hb⟩
  have P1 := Lib.hid (P0.out.below hb)
  have K1 := Lib.hid (via K0.out hb)
  clear hb P0 K0
  go_wp2
  all_goals first | exact bodyPost_ret (v := .int .u8 v) (by simp [results, Try.results26, go_sem]) rfl ⟨rfl, K1.out⟩ | exact bodyPost_end (v := .int .u8 v) (by simp [results, Try.results26, go_sem]) rfl ⟨rfl, K1.out⟩
/-- What is seen at a place. -/
theorem read_c (b : Nat) (m : M) (ok : Ok m) (a : Int) (a0 : 0 ≤ a) (a1 : a < 65536) (w : World) (h : Has w b (encU m)) : Calls Try.prog 26 #[.pointer (some ⟨b, 0, none⟩), .int .u16 a] w fun q_ w' => q_ = .returned (.int .u8 (readM m a)) ∧ Below w.heap.size w w' := by
  have B := ok.byte
  unfold readM
  by_cases hz : hidV (modeM m) a = true
  · rw [if_pos hz]; exact rd_h b m _ rfl (B 8352 (by decide) (by decide)).1 (B 8352 (by decide) (by decide)).2 _ rfl (B 8356 (by decide) (by decide)).1 (B 8356 (by decide) (by decide)).2 _ rfl (B 8363 (by decide) (by decide)).1 (B 8363 (by decide) (by decide)).2 a a0 a1 hz w h
  · rw [if_neg hz]; exact rd_s b m _ rfl (B 8352 (by decide) (by decide)).1 (B 8352 (by decide) (by decide)).2 _ rfl (B 8356 (by decide) (by decide)).1 (B 8356 (by decide) (by decide)).2 _ rfl (B 8363 (by decide) (by decide)).1 (B 8363 (by decide) (by decide)).2 a a0 a1 (show hidV (modeM m) a = false by simpa using hz) _ (fun W hW => peek_c b m ok a a0 a1 W hW) w h
end Go.Proofs.Ytpfbodmadmneiaa
