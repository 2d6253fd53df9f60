/-
  The document's reads and writes: for every unit as it can be; no other condition but that each number fits.
-/
import Derived.Test.YtpfbodmadmneiaaRf
import Derived.Test.YtpfbodmadmneiaaSp2
import Derived.Deep.Cut
import Derived.BigQuiet
import Derived.WalkSmall
import Derived.Deep.DeepCutAuto
import Derived.Deep.CutBlock
namespace Go.Proofs.Ytpfbodmadmneiaa
open Go.ChangeShapes Go.WideShapes Go.ChangeAt Go.RowKit
set_option linter.unusedVariables false
set_option linter.unusedSimpArgs false
set_option maxRecDepth 100000
set_option maxHeartbeats 2000000 in
theorem shut_v3 (r v s : Nat) (m : M) (c : Int) (hc : m 8352 = c) (c0 : 0 ≤ c) (c1 : c < 256) (L : Int) (hL : m 8356 = L) (L0 : 0 ≤ L) (L1 : L < 256) (d : Int) (hd : m 8363 = d) (d0 : 0 ≤ d) (d1 : d < 256)  (a : Int) (a0 : 0 ≤ a) (a1 : a < 65536) (y : Int) (hy : modeV c L d = y) (y0 : 0 ≤ y) (y1 : y ≤ 3) (h1 : 32768 ≤ a) (h2 : a < 40960) (h3 : (y == 3) = true) (w : World) (h : RU w r v s m) : Calls Try.prog 52 #[.pointer (some ⟨r, 0, none⟩), .int .u16 a] w fun q_ w' => q_ = .returned (.bool true) ∧ w' = w := by
  have P0 := Lib.hid h
  clear h
  have Hc := Lib.hid hc
  clear hc
  have HL := Lib.hid hL
  clear hL
  have Hd := Lib.hid hd
  clear hd
  have HV := Lib.hid hy
  clear hy
  go_enter Try.func52, Try.ntmps52
  go_wp2_with (fail)
  with_reducible refine (rmode_c r v s m c Hc.out c0 c1 L HL.out L0 L1 d Hd.out d0 d1 y HV.out _ P0.out).mono ?_
  rintro q_ w' ⟨rfl, rfl⟩
  skip
  go_wp2
  all_goals first | exact bodyPost_ret (v := .bool true) (by simp [results, Try.results52, go_sem]) rfl ⟨rfl, rfl⟩ | exact bodyPost_end (v := .bool true) (by simp [results, Try.results52, go_sem]) rfl ⟨rfl, rfl⟩
set_option maxHeartbeats 2000000 in
theorem shut_vx (r v s : Nat) (m : M) (c : Int) (hc : m 8352 = c) (c0 : 0 ≤ c) (c1 : c < 256) (L : Int) (hL : m 8356 = L) (L0 : 0 ≤ L) (L1 : L < 256) (d : Int) (hd : m 8363 = d) (d0 : 0 ≤ d) (d1 : d < 256)  (a : Int) (a0 : 0 ≤ a) (a1 : a < 65536) (y : Int) (hy : modeV c L d = y) (y0 : 0 ≤ y) (y1 : y ≤ 3) (h1 : 32768 ≤ a) (h2 : a < 40960) (h3 : (y == 3) = false) (w : World) (h : RU w r v s m) : Calls Try.prog 52 #[.pointer (some ⟨r, 0, none⟩), .int .u16 a] w fun q_ w' => q_ = .returned (.bool false) ∧ w' = w := by
  have P0 := Lib.hid h
  clear h
  have Hc := Lib.hid hc
  clear hc
  have HL := Lib.hid hL
  clear hL
  have Hd := Lib.hid hd
  clear hd
  have HV := Lib.hid hy
  clear hy
  go_enter Try.func52, Try.ntmps52
  go_wp2_with (fail)
  with_reducible refine (rmode_c r v s m c Hc.out c0 c1 L HL.out L0 L1 d Hd.out d0 d1 y HV.out _ P0.out).mono ?_
  rintro q_ w' ⟨rfl, rfl⟩
  have g : ¬ 65024 ≤ a := by omega
  go_wp2
  all_goals first | exact bodyPost_ret (v := .bool false) (by simp [results, Try.results52, go_sem]) rfl ⟨rfl, rfl⟩ | exact bodyPost_end (v := .bool false) (by simp [results, Try.results52, go_sem]) rfl ⟨rfl, rfl⟩
set_option maxHeartbeats 2000000 in
theorem shut_lo (r v s : Nat) (m : M) (c : Int) (hc : m 8352 = c) (c0 : 0 ≤ c) (c1 : c < 256) (L : Int) (hL : m 8356 = L) (L0 : 0 ≤ L) (L1 : L < 256) (d : Int) (hd : m 8363 = d) (d0 : 0 ≤ d) (d1 : d < 256)  (a : Int) (a0 : 0 ≤ a) (a1 : a < 65536) (y : Int) (hy : modeV c L d = y) (y0 : 0 ≤ y) (y1 : y ≤ 3) (h2 : a < 32768) (w : World) (h : RU w r v s m) : Calls Try.prog 52 #[.pointer (some ⟨r, 0, none⟩), .int .u16 a] w fun q_ w' => q_ = .returned (.bool false) ∧ w' = w := by
  have P0 := Lib.hid h
  clear h
  have Hc := Lib.hid hc
  clear hc
  have HL := Lib.hid hL
  clear hL
  have Hd := Lib.hid hd
  clear hd
  have HV := Lib.hid hy
  clear hy
  go_enter Try.func52, Try.ntmps52
  go_wp2_with (fail)
  with_reducible refine (rmode_c r v s m c Hc.out c0 c1 L HL.out L0 L1 d Hd.out d0 d1 y HV.out _ P0.out).mono ?_
  rintro q_ w' ⟨rfl, rfl⟩
  have g : ¬ 32768 ≤ a := by omega
  have g2 : ¬ 65024 ≤ a := by omega
  go_wp2
  all_goals first | exact bodyPost_ret (v := .bool false) (by simp [results, Try.results52, go_sem]) rfl ⟨rfl, rfl⟩ | exact bodyPost_end (v := .bool false) (by simp [results, Try.results52, go_sem]) rfl ⟨rfl, rfl⟩
set_option maxHeartbeats 2000000 in
theorem shut_md (r v s : Nat) (m : M) (c : Int) (hc : m 8352 = c) (c0 : 0 ≤ c) (c1 : c < 256) (L : Int) (hL : m 8356 = L) (L0 : 0 ≤ L) (L1 : L < 256) (d : Int) (hd : m 8363 = d) (d0 : 0 ≤ d) (d1 : d < 256)  (a : Int) (a0 : 0 ≤ a) (a1 : a < 65536) (y : Int) (hy : modeV c L d = y) (y0 : 0 ≤ y) (y1 : y ≤ 3) (h1 : 40960 ≤ a) (h2 : a < 65024) (w : World) (h : RU w r v s m) : Calls Try.prog 52 #[.pointer (some ⟨r, 0, none⟩), .int .u16 a] w fun q_ w' => q_ = .returned (.bool false) ∧ w' = w := by
  have P0 := Lib.hid h
  clear h
  have Hc := Lib.hid hc
  clear hc
  have HL := Lib.hid hL
  clear hL
  have Hd := Lib.hid hd
  clear hd
  have HV := Lib.hid hy
  clear hy
  go_enter Try.func52, Try.ntmps52
  go_wp2_with (fail)
  with_reducible refine (rmode_c r v s m c Hc.out c0 c1 L HL.out L0 L1 d Hd.out d0 d1 y HV.out _ P0.out).mono ?_
  rintro q_ w' ⟨rfl, rfl⟩
  have g1 : 32768 ≤ a := by omega
  have g : ¬ a < 40960 := by omega
  have g2 : ¬ 65024 ≤ a := by omega
  go_wp2
  all_goals first | exact bodyPost_ret (v := .bool false) (by simp [results, Try.results52, go_sem]) rfl ⟨rfl, rfl⟩ | exact bodyPost_end (v := .bool false) (by simp [results, Try.results52, go_sem]) rfl ⟨rfl, rfl⟩
set_option maxHeartbeats 2000000 in
theorem shut_o2 (r v s : Nat) (m : M) (c : Int) (hc : m 8352 = c) (c0 : 0 ≤ c) (c1 : c < 256) (L : Int) (hL : m 8356 = L) (L0 : 0 ≤ L) (L1 : L < 256) (d : Int) (hd : m 8363 = d) (d0 : 0 ≤ d) (d1 : d < 256)  (a : Int) (a0 : 0 ≤ a) (a1 : a < 65536) (y : Int) (hy : modeV c L d = y) (y0 : 0 ≤ y) (y1 : y ≤ 3) (h1 : 65024 ≤ a) (h2 : a < 65184) (h3 : 2 ≤ y) (w : World) (h : RU w r v s m) : Calls Try.prog 52 #[.pointer (some ⟨r, 0, none⟩), .int .u16 a] w fun q_ w' => q_ = .returned (.bool true) ∧ w' = w := by
  have P0 := Lib.hid h
  clear h
  have Hc := Lib.hid hc
  clear hc
  have HL := Lib.hid hL
  clear hL
  have Hd := Lib.hid hd
  clear hd
  have HV := Lib.hid hy
  clear hy
  go_enter Try.func52, Try.ntmps52
  go_wp2_with (fail)
  with_reducible refine (rmode_c r v s m c Hc.out c0 c1 L HL.out L0 L1 d Hd.out d0 d1 y HV.out _ P0.out).mono ?_
  rintro q_ w' ⟨rfl, rfl⟩
  have g1 : 32768 ≤ a := by omega
  have g : ¬ a < 40960 := by omega
  go_wp2
  all_goals first | exact bodyPost_ret (v := .bool true) (by simp [results, Try.results52, go_sem]) rfl ⟨rfl, rfl⟩ | exact bodyPost_end (v := .bool true) (by simp [results, Try.results52, go_sem]) rfl ⟨rfl, rfl⟩
set_option maxHeartbeats 2000000 in
theorem shut_ox (r v s : Nat) (m : M) (c : Int) (hc : m 8352 = c) (c0 : 0 ≤ c) (c1 : c < 256) (L : Int) (hL : m 8356 = L) (L0 : 0 ≤ L) (L1 : L < 256) (d : Int) (hd : m 8363 = d) (d0 : 0 ≤ d) (d1 : d < 256)  (a : Int) (a0 : 0 ≤ a) (a1 : a < 65536) (y : Int) (hy : modeV c L d = y) (y0 : 0 ≤ y) (y1 : y ≤ 3) (h1 : 65024 ≤ a) (h2 : a < 65184) (h3 : y < 2) (w : World) (h : RU w r v s m) : Calls Try.prog 52 #[.pointer (some ⟨r, 0, none⟩), .int .u16 a] w fun q_ w' => q_ = .returned (.bool false) ∧ w' = w := by
  have P0 := Lib.hid h
  clear h
  have Hc := Lib.hid hc
  clear hc
  have HL := Lib.hid hL
  clear hL
  have Hd := Lib.hid hd
  clear hd
  have HV := Lib.hid hy
  clear hy
  go_enter Try.func52, Try.ntmps52
  go_wp2_with (fail)
  with_reducible refine (rmode_c r v s m c Hc.out c0 c1 L HL.out L0 L1 d Hd.out d0 d1 y HV.out _ P0.out).mono ?_
  rintro q_ w' ⟨rfl, rfl⟩
  have g1 : 32768 ≤ a := by omega
  have g : ¬ a < 40960 := by omega
  have g3 : decide (2 ≤ y) = false := by simp; omega
  go_wp2
  all_goals first | exact bodyPost_ret (v := .bool false) (by simp [results, Try.results52, go_sem]) rfl ⟨rfl, rfl⟩ | exact bodyPost_end (v := .bool false) (by simp [results, Try.results52, go_sem]) rfl ⟨rfl, rfl⟩
set_option maxHeartbeats 2000000 in
theorem shut_hi (r v s : Nat) (m : M) (c : Int) (hc : m 8352 = c) (c0 : 0 ≤ c) (c1 : c < 256) (L : Int) (hL : m 8356 = L) (L0 : 0 ≤ L) (L1 : L < 256) (d : Int) (hd : m 8363 = d) (d0 : 0 ≤ d) (d1 : d < 256)  (a : Int) (a0 : 0 ≤ a) (a1 : a < 65536) (y : Int) (hy : modeV c L d = y) (y0 : 0 ≤ y) (y1 : y ≤ 3) (h1 : 65184 ≤ a) (w : World) (h : RU w r v s m) : Calls Try.prog 52 #[.pointer (some ⟨r, 0, none⟩), .int .u16 a] w fun q_ w' => q_ = .returned (.bool false) ∧ w' = w := by
  have P0 := Lib.hid h
  clear h
  have Hc := Lib.hid hc
  clear hc
  have HL := Lib.hid hL
  clear hL
  have Hd := Lib.hid hd
  clear hd
  have HV := Lib.hid hy
  clear hy
  go_enter Try.func52, Try.ntmps52
  go_wp2_with (fail)
  with_reducible refine (rmode_c r v s m c Hc.out c0 c1 L HL.out L0 L1 d Hd.out d0 d1 y HV.out _ P0.out).mono ?_
  rintro q_ w' ⟨rfl, rfl⟩
  have g1 : 32768 ≤ a := by omega
  have g : ¬ a < 40960 := by omega
  have g2 : 65024 ≤ a := by omega
  have g3 : ¬ a < 65184 := by omega
  go_wp2
  all_goals first | exact bodyPost_ret (v := .bool false) (by simp [results, Try.results52, go_sem]) rfl ⟨rfl, rfl⟩ | exact bodyPost_end (v := .bool false) (by simp [results, Try.results52, go_sem]) rfl ⟨rfl, rfl⟩
theorem isV_iff (a : Int) : isV a = true ↔ 32768 ≤ a ∧ a < 40960 := by unfold isV; simp
theorem isO_iff (a : Int) : isO a = true ↔ 65024 ≤ a ∧ a < 65184 := by unfold isO; simp
theorem isV_no (a : Int) (h : ¬ (32768 ≤ a ∧ a < 40960)) : isV a = false := by cases e : isV a with
  | false => rfl
  | true => exact absurd ((isV_iff a).1 e) h
theorem isO_no (a : Int) (h : ¬ (65024 ≤ a ∧ a < 65184)) : isO a = false := by cases e : isO a with
  | false => rfl
  | true => exact absurd ((isO_iff a).1 e) h
/-- Is a place hidden by the mode? -/
theorem rshut_c (r v s : Nat) (m : M) (c : Int) (hc : m 8352 = c) (c0 : 0 ≤ c) (c1 : c < 256) (L : Int) (hL : m 8356 = L) (L0 : 0 ≤ L) (L1 : L < 256) (d : Int) (hd : m 8363 = d) (d0 : 0 ≤ d) (d1 : d < 256) (a : Int) (a0 : 0 ≤ a) (a1 : a < 65536) (z : Bool) (hz : hidV (modeV c L d) a = z) (w : World) (h : RU w r v s m) : Calls Try.prog 52 #[.pointer (some ⟨r, 0, none⟩), .int .u16 a] w fun q_ w' => q_ = .returned (.bool z) ∧ w' = w := by
  subst hz
  have y := modeV_bd c L d
  unfold hidV
  by_cases hv : 32768 ≤ a ∧ a < 40960
  · rw [(isV_iff a).2 hv, isO_no a (by omega)]
    by_cases h3 : modeV c L d = 3
    · rw [if_neg (by omega), if_pos h3]; exact shut_v3 r v s m c hc c0 c1 L hL L0 L1 d hd d0 d1 a a0 a1 _ rfl y.1 y.2 hv.1 hv.2 (by simpa using h3) w h
    · have e : (if modeV c L d = 2 then false else if modeV c L d = 3 then false || true else false) = false := by simp [h3]
      rw [e]; exact shut_vx r v s m c hc c0 c1 L hL L0 L1 d hd d0 d1 a a0 a1 _ rfl y.1 y.2 hv.1 hv.2 (by simpa using h3) w h
  · rw [isV_no a hv]
    by_cases ho : 65024 ≤ a ∧ a < 65184
    · rw [(isO_iff a).2 ho]
      by_cases h2 : 2 ≤ modeV c L d
      · have e : (if modeV c L d = 2 then true else if modeV c L d = 3 then true || false else false) = true := by
          have : modeV c L d = 2 ∨ modeV c L d = 3 := by omega
          rcases this with q | q <;> simp [q]
        rw [e]; exact shut_o2 r v s m c hc c0 c1 L hL L0 L1 d hd d0 d1 a a0 a1 _ rfl y.1 y.2 ho.1 ho.2 h2 w h
      · rw [if_neg (by omega), if_neg (by omega)]; exact shut_ox r v s m c hc c0 c1 L hL L0 L1 d hd d0 d1 a a0 a1 _ rfl y.1 y.2 ho.1 ho.2 (by omega) w h
    · rw [isO_no a ho]
      have e : (if modeV c L d = 2 then false else if modeV c L d = 3 then false || false else false) = false := by simp
      rw [e]
      by_cases g1 : a < 32768
      · exact shut_lo r v s m c hc c0 c1 L hL L0 L1 d hd d0 d1 a a0 a1 _ rfl y.1 y.2 g1 w h
      · by_cases g2 : a < 65024
        · exact shut_md r v s m c hc c0 c1 L hL L0 L1 d hd d0 d1 a a0 a1 _ rfl y.1 y.2 (by omega) g2 w h
        · exact shut_hi r v s m c hc c0 c1 L hL L0 L1 d hd d0 d1 a a0 a1 _ rfl y.1 y.2 (by omega) w h
set_option maxHeartbeats 2000000 in
theorem rpk_v (r v s : Nat) (m : M)  (a : Int) (a0 : 0 ≤ a) (a1 : a < 65536) (k : Nat) (hk : a = 32768 + k) (k1 : k < 8192) (x : Int) (hx : m k = x) (w : World) (h : RU w r v s m) : Calls Try.prog 33 #[.pointer (some ⟨r, 0, none⟩), .int .u16 a] w fun q_ w' => q_ = .returned (.int .u8 x) ∧ Below w.heap.size w w' := by
  suffices hall : ∀ w0 : World, Below w0.heap.size w0 w → Calls Try.prog 33 #[.pointer (some ⟨r, 0, none⟩), .int .u16 a] w fun q_ w' => q_ = .returned (.int .u8 x) ∧ Below w0.heap.size w0 w' from hall w (Below.refl _ w)
  intro w0 hK
  have P0 := Lib.hid h
  have K0 := Lib.hid hK
  clear h hK
  have HX := Lib.hid hx
  clear hx
  have w1 : IntKind.i64.wrap (a - 32768) = k := by rw [IntKind.wrap_i64]; omega
  have k2 : (k : Int) < 8192 := by omega
  have g1 : 32768 ≤ a := by omega
  have g2 : a < 40960 := by omega
  clear hk
  obtain ⟨hc, hf⟩ := P0.out.R.out
  obtain ⟨hc2, hf2⟩ := P0.out.V.out
  have e_V := encR_V v s m
  have e_S := encR_S v s m
  have e_x : (encV m)[k]? = some (.int .u8 x) := (encV_get m k k1).trans (congrArg (fun x => some (Value.int .u8 x)) HX.out)
  go_enter Try.func33, Try.ntmps33
  go_wp2
  all_goals first | exact bodyPost_ret (v := .int .u8 x) (by simp [results, Try.results33, go_sem]) rfl ⟨rfl, K0.out⟩ | exact bodyPost_end (v := .int .u8 x) (by simp [results, Try.results33, go_sem]) rfl ⟨rfl, K0.out⟩
set_option maxHeartbeats 2000000 in
theorem rpk_o (r v s : Nat) (m : M)  (a : Int) (a0 : 0 ≤ a) (a1 : a < 65536) (k : Nat) (hk : a = 65024 + k) (k1 : k < 160) (x : Int) (hx : m (8192 + k) = x) (w : World) (h : RU w r v s m) : Calls Try.prog 33 #[.pointer (some ⟨r, 0, none⟩), .int .u16 a] w fun q_ w' => q_ = .returned (.int .u8 x) ∧ Below w.heap.size w w' := by
  suffices hall : ∀ w0 : World, Below w0.heap.size w0 w → Calls Try.prog 33 #[.pointer (some ⟨r, 0, none⟩), .int .u16 a] w fun q_ w' => q_ = .returned (.int .u8 x) ∧ Below w0.heap.size w0 w' from hall w (Below.refl _ w)
  intro w0 hK
  have P0 := Lib.hid h
  have K0 := Lib.hid hK
  clear h hK
  have HX := Lib.hid hx
  clear hx
  have w1 : IntKind.i64.wrap (a - 65024) = k := by rw [IntKind.wrap_i64]; omega
  have k2 : (k : Int) < 160 := by omega
  have g1 : 32768 ≤ a := by omega
  have g : ¬ a < 40960 := by omega
  have g2 : 65024 ≤ a := by omega
  have g3 : a < 65184 := by omega
  clear hk
  obtain ⟨hc, hf⟩ := P0.out.R.out
  obtain ⟨hc2, hf2⟩ := P0.out.S.out
  have e_V := encR_V v s m
  have e_S := encR_S v s m
  have e_x : (encS m)[k]? = some (.int .u8 x) := (encS_get m k k1).trans (congrArg (fun x => some (Value.int .u8 x)) HX.out)
  go_enter Try.func33, Try.ntmps33
  go_wp2
  all_goals first | exact bodyPost_ret (v := .int .u8 x) (by simp [results, Try.results33, go_sem]) rfl ⟨rfl, K0.out⟩ | exact bodyPost_end (v := .int .u8 x) (by simp [results, Try.results33, go_sem]) rfl ⟨rfl, K0.out⟩
set_option maxHeartbeats 2000000 in
theorem rpk_lo (r v s : Nat) (m : M)  (a : Int) (a0 : 0 ≤ a) (a1 : a < 65536) (h1 : a < 32768) (w : World) (h : RU w r v s m) : Calls Try.prog 33 #[.pointer (some ⟨r, 0, none⟩), .int .u16 a] w fun q_ w' => q_ = .returned (.int .u8 255) ∧ Below w.heap.size w w' := by
  suffices hall : ∀ w0 : World, Below w0.heap.size w0 w → Calls Try.prog 33 #[.pointer (some ⟨r, 0, none⟩), .int .u16 a] w fun q_ w' => q_ = .returned (.int .u8 255) ∧ Below w0.heap.size w0 w' from hall w (Below.refl _ w)
  intro w0 hK
  have P0 := Lib.hid h
  have K0 := Lib.hid hK
  clear h hK
  have g : ¬ 32768 ≤ a := by omega
  have g2 : ¬ 65024 ≤ a := by omega
  have g3 : a < 65344 := by omega
  go_enter Try.func33, Try.ntmps33
  go_wp2
  all_goals first | exact bodyPost_ret (v := .int .u8 255) (by simp [results, Try.results33, go_sem]) rfl ⟨rfl, K0.out⟩ | exact bodyPost_end (v := .int .u8 255) (by simp [results, Try.results33, go_sem]) rfl ⟨rfl, K0.out⟩
set_option maxHeartbeats 2000000 in
theorem rpk_md (r v s : Nat) (m : M)  (a : Int) (a0 : 0 ≤ a) (a1 : a < 65536) (h1 : 40960 ≤ a) (h2 : a < 65024) (w : World) (h : RU w r v s m) : Calls Try.prog 33 #[.pointer (some ⟨r, 0, none⟩), .int .u16 a] w fun q_ w' => q_ = .returned (.int .u8 255) ∧ Below w.heap.size w w' := by
  suffices hall : ∀ w0 : World, Below w0.heap.size w0 w → Calls Try.prog 33 #[.pointer (some ⟨r, 0, none⟩), .int .u16 a] w fun q_ w' => q_ = .returned (.int .u8 255) ∧ Below w0.heap.size w0 w' from hall w (Below.refl _ w)
  intro w0 hK
  have P0 := Lib.hid h
  have K0 := Lib.hid hK
  clear h hK
  have g1 : 32768 ≤ a := by omega
  have g : ¬ a < 40960 := by omega
  have g2 : ¬ 65024 ≤ a := by omega
  have g3 : a < 65344 := by omega
  go_enter Try.func33, Try.ntmps33
  go_wp2
  all_goals first | exact bodyPost_ret (v := .int .u8 255) (by simp [results, Try.results33, go_sem]) rfl ⟨rfl, K0.out⟩ | exact bodyPost_end (v := .int .u8 255) (by simp [results, Try.results33, go_sem]) rfl ⟨rfl, K0.out⟩
set_option maxHeartbeats 2000000 in
theorem rpk_gp (r v s : Nat) (m : M)  (a : Int) (a0 : 0 ≤ a) (a1 : a < 65536) (h1 : 65184 ≤ a) (h2 : a < 65344) (w : World) (h : RU w r v s m) : Calls Try.prog 33 #[.pointer (some ⟨r, 0, none⟩), .int .u16 a] w fun q_ w' => q_ = .returned (.int .u8 255) ∧ Below w.heap.size w w' := by
  suffices hall : ∀ w0 : World, Below w0.heap.size w0 w → Calls Try.prog 33 #[.pointer (some ⟨r, 0, none⟩), .int .u16 a] w fun q_ w' => q_ = .returned (.int .u8 255) ∧ Below w0.heap.size w0 w' from hall w (Below.refl _ w)
  intro w0 hK
  have P0 := Lib.hid h
  have K0 := Lib.hid hK
  clear h hK
  have g1 : 32768 ≤ a := by omega
  have g : ¬ a < 40960 := by omega
  have g2 : 65024 ≤ a := by omega
  have g3 : ¬ a < 65184 := by omega
  go_enter Try.func33, Try.ntmps33
  go_wp2
  all_goals first | exact bodyPost_ret (v := .int .u8 255) (by simp [results, Try.results33, go_sem]) rfl ⟨rfl, K0.out⟩ | exact bodyPost_end (v := .int .u8 255) (by simp [results, Try.results33, go_sem]) rfl ⟨rfl, K0.out⟩
set_option maxHeartbeats 2000000 in
theorem rpk_hi (r v s : Nat) (m : M)  (a : Int) (a0 : 0 ≤ a) (a1 : a < 65536) (h1 : 65355 < a) (w : World) (h : RU w r v s m) : Calls Try.prog 33 #[.pointer (some ⟨r, 0, none⟩), .int .u16 a] w fun q_ w' => q_ = .returned (.int .u8 255) ∧ Below w.heap.size w w' := by
  suffices hall : ∀ w0 : World, Below w0.heap.size w0 w → Calls Try.prog 33 #[.pointer (some ⟨r, 0, none⟩), .int .u16 a] w fun q_ w' => q_ = .returned (.int .u8 255) ∧ Below w0.heap.size w0 w' from hall w (Below.refl _ w)
  intro w0 hK
  have P0 := Lib.hid h
  have K0 := Lib.hid hK
  clear h hK
  have g1 : 32768 ≤ a := by omega
  have g : ¬ a < 40960 := by omega
  have g2 : 65024 ≤ a := by omega
  have g3 : ¬ a < 65184 := by omega
  have g4 : ¬ a < 65344 := by omega
  go_enter Try.func33, Try.ntmps33
  go_wp2
  all_goals first | exact bodyPost_ret (v := .int .u8 255) (by simp [results, Try.results33, go_sem]) rfl ⟨rfl, K0.out⟩ | exact bodyPost_end (v := .int .u8 255) (by simp [results, Try.results33, go_sem]) rfl ⟨rfl, K0.out⟩
theorem rpk_50 (r v s : Nat) (m : M) (w : World) (h : RU w r v s m) : Calls Try.prog 33 #[.pointer (some ⟨r, 0, none⟩), .int .u16 65350] w fun q_ w' => q_ = .returned (.int .u8 255) ∧ Below w.heap.size w w' := by
  go_enter Try.func33, Try.ntmps33
  go_wp2
  all_goals exact bodyPost_ret (v := .int .u8 255) (by simp [results, Try.results33, go_sem]) rfl ⟨rfl, Below.refl _ _⟩
theorem rp_reg (n : Nat) (h : n < 12) (h4 : n ≠ 4) (h6 : n ≠ 6) : rp (2 + n) = if n < 6 then 8352 + n else 8351 + n := by
  unfold rp
  by_cases a : n < 4
  · rw [if_pos (by omega), if_pos (by omega)]; omega
  · rw [if_neg (by omega)]
    by_cases b : n = 5
    · subst b; rfl
    · rw [if_neg (by omega), if_pos (by omega), if_neg (by omega)]; omega
set_option maxHeartbeats 2000000 in
theorem rpk_r (r v s : Nat) (m : M)  (a : Int) (a0 : 0 ≤ a) (a1 : a < 65536) (n : Nat) (hn : a = 65344 + n) (n1 : n < 12) (n2 : n ≠ 1) (n4 : n ≠ 4) (n6 : n ≠ 6) (x : Int) (hx : m (rp (2 + n)) = x) (w : World) (h : RU w r v s m) : Calls Try.prog 33 #[.pointer (some ⟨r, 0, none⟩), .int .u16 a] w fun q_ w' => q_ = .returned (.int .u8 x) ∧ Below w.heap.size w w' := by
  suffices hall : ∀ w0 : World, Below w0.heap.size w0 w → Calls Try.prog 33 #[.pointer (some ⟨r, 0, none⟩), .int .u16 a] w fun q_ w' => q_ = .returned (.int .u8 x) ∧ Below w0.heap.size w0 w' from hall w (Below.refl _ w)
  intro w0 hK
  have P0 := Lib.hid h
  have K0 := Lib.hid hK
  clear h hK
  have HX := Lib.hid hx
  clear hx
  have w1 : IntKind.i64.wrap (a - 65344) = n := by rw [IntKind.wrap_i64]; omega
  have k2 : (n : Int) < 12 := by omega
  have g1 : 32768 ≤ a := by omega
  have g : ¬ a < 40960 := by omega
  have g2 : 65024 ≤ a := by omega
  have g3 : ¬ a < 65184 := by omega
  have g4 : ¬ a < 65344 := by omega
  have g5 : ¬ 65355 < a := by omega
  have q0 : (a == 65350) = false := by simp; omega
  have q1 : (a == 65345) = false := by simp; omega
  have q2 : (a == 65348) = false := by simp; omega
  clear hn
  obtain ⟨hc, hf⟩ := P0.out.R.out
  have e_x := rc_u v s m (2 + n) x (by omega) (by omega) (by omega) (by omega) HX.out
  go_enter Try.func33, Try.ntmps33
  go_wp2
  all_goals first | exact bodyPost_ret (v := .int .u8 x) (by simp [results, Try.results33, go_sem]) rfl ⟨rfl, K0.out⟩ | exact bodyPost_end (v := .int .u8 x) (by simp [results, Try.results33, go_sem]) rfl ⟨rfl, K0.out⟩
set_option maxHeartbeats 2000000 in
theorem rpk_44 (r v s : Nat) (m : M) (L : Int) (hL : m 8356 = L) (L0 : 0 ≤ L) (L1 : L < 256)   (w : World) (h : RU w r v s m) : Calls Try.prog 33 #[.pointer (some ⟨r, 0, none⟩), .int .u16 65348] w fun q_ w' => q_ = .returned (.int .u8 L) ∧ Below w.heap.size w w' := by
  suffices hall : ∀ w0 : World, Below w0.heap.size w0 w → Calls Try.prog 33 #[.pointer (some ⟨r, 0, none⟩), .int .u16 65348] w fun q_ w' => q_ = .returned (.int .u8 L) ∧ Below w0.heap.size w0 w' from hall w (Below.refl _ w)
  intro w0 hK
  have P0 := Lib.hid h
  have K0 := Lib.hid hK
  clear h hK
  have HL := Lib.hid hL
  clear hL
  have w8 : IntKind.u8.wrap L = L := by rw [IntKind.wrap_u8]; omega
  obtain ⟨hc, hf⟩ := P0.out.R.out
  have e_L := rc_i v s (m) 14 L (by decide) (by decide) (HL.out)
  go_enter Try.func33, Try.ntmps33
  go_wp2
  all_goals first | exact bodyPost_ret (v := .int .u8 L) (by simp [results, Try.results33, go_sem]) rfl ⟨rfl, K0.out⟩ | exact bodyPost_end (v := .int .u8 L) (by simp [results, Try.results33, go_sem]) rfl ⟨rfl, K0.out⟩
set_option maxHeartbeats 2000000 in
theorem rpk_41t (r v s : Nat) (m : M) (c : Int) (hc : m 8352 = c) (c0 : 0 ≤ c) (c1 : c < 256) (st : Int) (hst : m 8353 = st) (st0 : 0 ≤ st) (st1 : st < 256) (L : Int) (hL : m 8356 = L) (L0 : 0 ≤ L) (L1 : L < 256) (ly : Int) (hly : m 8357 = ly) (ly0 : 0 ≤ ly) (ly1 : ly < 256) (d : Int) (hd : m 8363 = d) (d0 : 0 ≤ d) (d1 : d < 256)  (s1 : st ≤ 120) (y : Int) (hy : modeV c L d = y) (y0 : 0 ≤ y) (y1 : y ≤ 3) (hz : decide (128 ≤ c) = true) (he : (L == ly) = true) (S : Int) (hS : 128 + st + y = S) (w : World) (h : RU w r v s m) : Calls Try.prog 33 #[.pointer (some ⟨r, 0, none⟩), .int .u16 65345] w fun q_ w' => q_ = .returned (.int .u8 (S + 4)) ∧ Below w.heap.size w w' := by
  suffices hall : ∀ w0 : World, Below w0.heap.size w0 w → Calls Try.prog 33 #[.pointer (some ⟨r, 0, none⟩), .int .u16 65345] w fun q_ w' => q_ = .returned (.int .u8 (S + 4)) ∧ Below w0.heap.size w0 w' from hall w (Below.refl _ w)
  intro w0 hK
  have P0 := Lib.hid h
  have K0 := Lib.hid hK
  clear h hK
  have Hc := Lib.hid hc
  clear hc
  have Hst := Lib.hid hst
  clear hst
  have HL := Lib.hid hL
  clear hL
  have Hly := Lib.hid hly
  clear hly
  have Hd := Lib.hid hd
  clear hd
  have HV := Lib.hid hy
  have HZ := Lib.hid hz
  clear hy hz
  have HS := Lib.hid hS
  clear hS
  have w1 : IntKind.i64.wrap (128 + st) = 128 + st := by rw [IntKind.wrap_i64]; omega
  have w2 : IntKind.i64.wrap (128 + st + y) = S := by rw [IntKind.wrap_i64]; have := HS.out; omega
  have w3 : IntKind.u8.wrap S = S := by rw [IntKind.wrap_u8]; have := HS.out; omega
  have w4 : IntKind.i64.wrap (S + 4) = S + 4 := by rw [IntKind.wrap_i64]; have := HS.out; omega
  have w5 : IntKind.u8.wrap (S + 4) = S + 4 := by rw [IntKind.wrap_u8]; have := HS.out; omega
  have hnot : ∀ (x : Bool) (w : World), (Op.unary .not (.bool x)).run Try.prog w = .ok (.bool (!x)) w := fun _ _ => rfl
  go_enter Try.func33, Try.ntmps33
  obtain ⟨hc, hf⟩ := P0.out.R.out
  have e_st := rc_u v s (m) 3 st (by decide) (by decide) (by decide) (by decide) (Hst.out)
  go_upto_region 10 with (fail)
  go_quiet ((go_at_call 30; with_reducible exact Calls.quiet_of_same (rmode_c r v s m c Hc.out c0 c1 L HL.out L0 L1 d Hd.out d0 d1 y HV.out _ (P0.out.drewN _))))
  go_upto_region 11 with (fail)
  clear hc hf e_st
  have P1 := Lib.hid (P0.out.drewN nq)
  have K1 := Lib.hid (below_drewN K0.out nq)
  generalize World.drewN _ nq = u1 at P1 K1 ⊢
  clear P0 K0
  obtain ⟨hc, hf⟩ := P1.out.R.out
  have e_L := rc_i v s (m) 14 L (by decide) (by decide) (HL.out)
  have e_ly := rc_u v s (m) 7 ly (by decide) (by decide) (by decide) (by decide) (Hly.out)
  go_quiet ((go_at_call 47; with_reducible exact Calls.quiet_of_same (ron_c r v s m c Hc.out c0 c1 true HZ.out _ (P1.out.drewN _))))
  go_wp2
  all_goals first | exact bodyPost_ret (v := .int .u8 (S + 4)) (by simp [results, Try.results33, go_sem]) rfl ⟨rfl, below_drewN K1.out _⟩ | exact bodyPost_end (v := .int .u8 (S + 4)) (by simp [results, Try.results33, go_sem]) rfl ⟨rfl, below_drewN K1.out _⟩
set_option maxHeartbeats 2000000 in
theorem rpk_41f (r v s : Nat) (m : M) (c : Int) (hc : m 8352 = c) (c0 : 0 ≤ c) (c1 : c < 256) (st : Int) (hst : m 8353 = st) (st0 : 0 ≤ st) (st1 : st < 256) (L : Int) (hL : m 8356 = L) (L0 : 0 ≤ L) (L1 : L < 256) (ly : Int) (hly : m 8357 = ly) (ly0 : 0 ≤ ly) (ly1 : ly < 256) (d : Int) (hd : m 8363 = d) (d0 : 0 ≤ d) (d1 : d < 256)  (s1 : st ≤ 120) (y : Int) (hy : modeV c L d = y) (y0 : 0 ≤ y) (y1 : y ≤ 3) (hz : decide (128 ≤ c) = true) (he : (L == ly) = false) (S : Int) (hS : 128 + st + y = S) (w : World) (h : RU w r v s m) : Calls Try.prog 33 #[.pointer (some ⟨r, 0, none⟩), .int .u16 65345] w fun q_ w' => q_ = .returned (.int .u8 S) ∧ Below w.heap.size w w' := by
  suffices hall : ∀ w0 : World, Below w0.heap.size w0 w → Calls Try.prog 33 #[.pointer (some ⟨r, 0, none⟩), .int .u16 65345] w fun q_ w' => q_ = .returned (.int .u8 S) ∧ Below w0.heap.size w0 w' from hall w (Below.refl _ w)
  intro w0 hK
  have P0 := Lib.hid h
  have K0 := Lib.hid hK
  clear h hK
  have Hc := Lib.hid hc
  clear hc
  have Hst := Lib.hid hst
  clear hst
  have HL := Lib.hid hL
  clear hL
  have Hly := Lib.hid hly
  clear hly
  have Hd := Lib.hid hd
  clear hd
  have HV := Lib.hid hy
  have HZ := Lib.hid hz
  clear hy hz
  have HS := Lib.hid hS
  clear hS
  have w1 : IntKind.i64.wrap (128 + st) = 128 + st := by rw [IntKind.wrap_i64]; omega
  have w2 : IntKind.i64.wrap (128 + st + y) = S := by rw [IntKind.wrap_i64]; have := HS.out; omega
  have w3 : IntKind.u8.wrap S = S := by rw [IntKind.wrap_u8]; have := HS.out; omega
  have w4 : IntKind.i64.wrap (S + 4) = S + 4 := by rw [IntKind.wrap_i64]; have := HS.out; omega
  have w5 : IntKind.u8.wrap (S + 4) = S + 4 := by rw [IntKind.wrap_u8]; have := HS.out; omega
  have hnot : ∀ (x : Bool) (w : World), (Op.unary .not (.bool x)).run Try.prog w = .ok (.bool (!x)) w := fun _ _ => rfl
  go_enter Try.func33, Try.ntmps33
  obtain ⟨hc, hf⟩ := P0.out.R.out
  have e_st := rc_u v s (m) 3 st (by decide) (by decide) (by decide) (by decide) (Hst.out)
  go_upto_region 10 with (fail)
  go_quiet ((go_at_call 30; with_reducible exact Calls.quiet_of_same (rmode_c r v s m c Hc.out c0 c1 L HL.out L0 L1 d Hd.out d0 d1 y HV.out _ (P0.out.drewN _))))
  go_upto_region 11 with (fail)
  clear hc hf e_st
  have P1 := Lib.hid (P0.out.drewN nq)
  have K1 := Lib.hid (below_drewN K0.out nq)
  generalize World.drewN _ nq = u1 at P1 K1 ⊢
  clear P0 K0
  obtain ⟨hc, hf⟩ := P1.out.R.out
  have e_L := rc_i v s (m) 14 L (by decide) (by decide) (HL.out)
  have e_ly := rc_u v s (m) 7 ly (by decide) (by decide) (by decide) (by decide) (Hly.out)
  go_quiet ((go_at_call 47; with_reducible exact Calls.quiet_of_same (ron_c r v s m c Hc.out c0 c1 true HZ.out _ (P1.out.drewN _))))
  go_wp2
  all_goals first | exact bodyPost_ret (v := .int .u8 S) (by simp [results, Try.results33, go_sem]) rfl ⟨rfl, below_drewN K1.out _⟩ | exact bodyPost_end (v := .int .u8 S) (by simp [results, Try.results33, go_sem]) rfl ⟨rfl, below_drewN K1.out _⟩
set_option maxHeartbeats 2000000 in
theorem rpk_41o (r v s : Nat) (m : M) (c : Int) (hc : m 8352 = c) (c0 : 0 ≤ c) (c1 : c < 256) (st : Int) (hst : m 8353 = st) (st0 : 0 ≤ st) (st1 : st < 256) (L : Int) (hL : m 8356 = L) (L0 : 0 ≤ L) (L1 : L < 256) (ly : Int) (hly : m 8357 = ly) (ly0 : 0 ≤ ly) (ly1 : ly < 256) (d : Int) (hd : m 8363 = d) (d0 : 0 ≤ d) (d1 : d < 256)  (s1 : st ≤ 120) (y : Int) (hy : modeV c L d = y) (y0 : 0 ≤ y) (y1 : y ≤ 3) (hz : decide (128 ≤ c) = false) (S : Int) (hS : 128 + st + y = S) (w : World) (h : RU w r v s m) : Calls Try.prog 33 #[.pointer (some ⟨r, 0, none⟩), .int .u16 65345] w fun q_ w' => q_ = .returned (.int .u8 S) ∧ Below w.heap.size w w' := by
  suffices hall : ∀ w0 : World, Below w0.heap.size w0 w → Calls Try.prog 33 #[.pointer (some ⟨r, 0, none⟩), .int .u16 65345] w fun q_ w' => q_ = .returned (.int .u8 S) ∧ Below w0.heap.size w0 w' from hall w (Below.refl _ w)
  intro w0 hK
  have P0 := Lib.hid h
  have K0 := Lib.hid hK
  clear h hK
  have Hc := Lib.hid hc
  clear hc
  have Hst := Lib.hid hst
  clear hst
  have HL := Lib.hid hL
  clear hL
  have Hly := Lib.hid hly
  clear hly
  have Hd := Lib.hid hd
  clear hd
  have HV := Lib.hid hy
  have HZ := Lib.hid hz
  clear hy hz
  have HS := Lib.hid hS
  clear hS
  have w1 : IntKind.i64.wrap (128 + st) = 128 + st := by rw [IntKind.wrap_i64]; omega
  have w2 : IntKind.i64.wrap (128 + st + y) = S := by rw [IntKind.wrap_i64]; have := HS.out; omega
  have w3 : IntKind.u8.wrap S = S := by rw [IntKind.wrap_u8]; have := HS.out; omega
  have w4 : IntKind.i64.wrap (S + 4) = S + 4 := by rw [IntKind.wrap_i64]; have := HS.out; omega
  have w5 : IntKind.u8.wrap (S + 4) = S + 4 := by rw [IntKind.wrap_u8]; have := HS.out; omega
  have hnot : ∀ (x : Bool) (w : World), (Op.unary .not (.bool x)).run Try.prog w = .ok (.bool (!x)) w := fun _ _ => rfl
  go_enter Try.func33, Try.ntmps33
  obtain ⟨hc, hf⟩ := P0.out.R.out
  have e_st := rc_u v s (m) 3 st (by decide) (by decide) (by decide) (by decide) (Hst.out)
  go_upto_region 10 with (fail)
  go_quiet ((go_at_call 30; with_reducible exact Calls.quiet_of_same (rmode_c r v s m c Hc.out c0 c1 L HL.out L0 L1 d Hd.out d0 d1 y HV.out _ (P0.out.drewN _))))
  go_upto_region 11 with (fail)
  clear hc hf e_st
  have P1 := Lib.hid (P0.out.drewN nq)
  have K1 := Lib.hid (below_drewN K0.out nq)
  generalize World.drewN _ nq = u1 at P1 K1 ⊢
  clear P0 K0
  obtain ⟨hc, hf⟩ := P1.out.R.out
  have e_L := rc_i v s (m) 14 L (by decide) (by decide) (HL.out)
  have e_ly := rc_u v s (m) 7 ly (by decide) (by decide) (by decide) (by decide) (Hly.out)
  go_quiet ((go_at_call 47; with_reducible exact Calls.quiet_of_same (ron_c r v s m c Hc.out c0 c1 false HZ.out _ (P1.out.drewN _))))
  go_wp2
  all_goals first | exact bodyPost_ret (v := .int .u8 S) (by simp [results, Try.results33, go_sem]) rfl ⟨rfl, below_drewN K1.out _⟩ | exact bodyPost_end (v := .int .u8 S) (by simp [results, Try.results33, go_sem]) rfl ⟨rfl, below_drewN K1.out _⟩
/-- What lies at a place. -/
theorem rpeek_c (r v s : Nat) (m : M) (ok : Ok m) (a : Int) (a0 : 0 ≤ a) (a1 : a < 65536) (w : World) (h : RU w r v s m) : Calls Try.prog 33 #[.pointer (some ⟨r, 0, none⟩), .int .u16 a] w fun q_ w' => q_ = .returned (.int .u8 (peekM m a)) ∧ Below w.heap.size w w' := by
  have B := ok.byte
  unfold peekM
  by_cases hv : 32768 ≤ a ∧ a < 40960
  · rw [if_pos ((isV_iff a).2 hv)]
    exact rpk_v r v s m a a0 a1 (a - 32768).toNat (by omega) (by omega) _ rfl w h
  · rw [isV_no a hv, if_neg (by decide)]
    by_cases ho : 65024 ≤ a ∧ a < 65184
    · rw [if_pos ((isO_iff a).2 ho)]
      exact rpk_o r v s m a a0 a1 (a - 65024).toNat (by omega) (by omega) _ rfl w h
    · rw [isO_no a ho, if_neg (by decide)]
      by_cases hr : 65344 ≤ a ∧ a ≤ 65355 ∧ a ≠ 65350
      · rw [if_pos (show isR a = true by unfold isR; simp; omega)]
        obtain ⟨n, hn⟩ : ∃ n : Nat, a = 65344 + n := ⟨(a - 65344).toNat, by omega⟩
        by_cases n1 : n = 1
        · have e : a = 65345 := by omega
          subst e
          rw [if_pos (by decide)]
          unfold statM statV
          have md := modeV_bd (m 8352) (m 8356) (m 8363)
          by_cases g : 128 ≤ m 8352
          · by_cases el : m 8356 = m 8357
            · rw [if_pos ⟨g, el⟩]
              exact rpk_41t r v s m _ rfl (B 8352 (by decide) (by decide)).1 (B 8352 (by decide) (by decide)).2 _ rfl (B 8353 (by decide) (by decide)).1 (B 8353 (by decide) (by decide)).2 _ rfl (B 8356 (by decide) (by decide)).1 (B 8356 (by decide) (by decide)).2 _ rfl (B 8357 (by decide) (by decide)).1 (B 8357 (by decide) (by decide)).2 _ rfl (B 8363 (by decide) (by decide)).1 (B 8363 (by decide) (by decide)).2 (by have := ok.stat; omega) _ rfl md.1 md.2 (by simpa using g) (by simpa using el) _ (by omega) w h
            · rw [if_neg (fun q => el q.2), Int.add_zero]
              exact rpk_41f r v s m _ rfl (B 8352 (by decide) (by decide)).1 (B 8352 (by decide) (by decide)).2 _ rfl (B 8353 (by decide) (by decide)).1 (B 8353 (by decide) (by decide)).2 _ rfl (B 8356 (by decide) (by decide)).1 (B 8356 (by decide) (by decide)).2 _ rfl (B 8357 (by decide) (by decide)).1 (B 8357 (by decide) (by decide)).2 _ rfl (B 8363 (by decide) (by decide)).1 (B 8363 (by decide) (by decide)).2 (by have := ok.stat; omega) _ rfl md.1 md.2 (by simpa using g) (by simpa using el) _ (by omega) w h
          · rw [if_neg (fun q => g q.1), Int.add_zero]
            exact rpk_41o r v s m _ rfl (B 8352 (by decide) (by decide)).1 (B 8352 (by decide) (by decide)).2 _ rfl (B 8353 (by decide) (by decide)).1 (B 8353 (by decide) (by decide)).2 _ rfl (B 8356 (by decide) (by decide)).1 (B 8356 (by decide) (by decide)).2 _ rfl (B 8357 (by decide) (by decide)).1 (B 8357 (by decide) (by decide)).2 _ rfl (B 8363 (by decide) (by decide)).1 (B 8363 (by decide) (by decide)).2 (by have := ok.stat; omega) _ rfl md.1 md.2 (by simpa using g) _ (by omega) w h
        · by_cases n4 : n = 4
          · have e : a = 65348 := by omega
            subst e
            rw [if_neg (by decide)]
            exact rpk_44 r v s m _ rfl (B 8356 (by decide) (by decide)).1 (B 8356 (by decide) (by decide)).2 w h
          · have hk : regno a ≠ 1 ∧ 8352 + regno a = rp (2 + n) := by
              rw [rp_reg n (by omega) n4 (by omega)]
              unfold regno
              split <;> split <;> omega
            rw [if_neg hk.1, hk.2]
            exact rpk_r r v s m a a0 a1 n hn (by omega) n1 n4 (by omega) _ rfl w h
      · rw [if_neg (show ¬ isR a = true by unfold isR; simp; omega)]
        by_cases g1 : a < 32768
        · exact rpk_lo r v s m a a0 a1 g1 w h
        · by_cases g2 : a < 65024
          · exact rpk_md r v s m a a0 a1 (by omega) g2 w h
          · by_cases g3 : a < 65344
            · exact rpk_gp r v s m a a0 a1 (by omega) g3 w h
            · by_cases g4 : 65355 < a
              · exact rpk_hi r v s m a a0 a1 g4 w h
              · have e : a = 65350 := by omega
                subst e
                exact rpk_50 r v s m w h
set_option maxHeartbeats 2000000 in
theorem rrd_h (r v s : Nat) (m : M) (c : Int) (hc : m 8352 = c) (c0 : 0 ≤ c) (c1 : c < 256) (L : Int) (hL : m 8356 = L) (L0 : 0 ≤ L) (L1 : L < 256) (d : Int) (hd : m 8363 = d) (d0 : 0 ≤ d) (d1 : d < 256)  (a : Int) (a0 : 0 ≤ a) (a1 : a < 65536) (hz : hidV (modeV c L d) a = true) (w : World) (h : RU w r v s m) : Calls Try.prog 32 #[.pointer (some ⟨r, 0, none⟩), .int .u16 a] w fun q_ w' => q_ = .returned (.int .u8 255) ∧ Below w.heap.size w w' := by
  suffices hall : ∀ w0 : World, Below w0.heap.size w0 w → Calls Try.prog 32 #[.pointer (some ⟨r, 0, none⟩), .int .u16 a] w fun q_ w' => q_ = .returned (.int .u8 255) ∧ Below w0.heap.size w0 w' from hall w (Below.refl _ w)
  intro w0 hK
  have P0 := Lib.hid h
  have K0 := Lib.hid hK
  clear h hK
  have Hc := Lib.hid hc
  clear hc
  have HL := Lib.hid hL
  clear hL
  have Hd := Lib.hid hd
  clear hd
  have HZ := Lib.hid hz
  clear hz
  go_enter Try.func32, Try.ntmps32
  go_wp2_with (fail)
  with_reducible refine (rshut_c r v s m c Hc.out c0 c1 L HL.out L0 L1 d Hd.out d0 d1 a a0 a1 true HZ.out _ P0.out).mono ?_
  rintro q_ w' ⟨rfl, rfl⟩
  go_wp2
  all_goals first | exact bodyPost_ret (v := .int .u8 255) (by simp [results, Try.results32, go_sem]) rfl ⟨rfl, K0.out⟩ | exact bodyPost_end (v := .int .u8 255) (by simp [results, Try.results32, go_sem]) rfl ⟨rfl, K0.out⟩
set_option maxHeartbeats 2000000 in
theorem rrd_s (r v s : Nat) (m : M) (c : Int) (hc : m 8352 = c) (c0 : 0 ≤ c) (c1 : c < 256) (L : Int) (hL : m 8356 = L) (L0 : 0 ≤ L) (L1 : L < 256) (d : Int) (hd : m 8363 = d) (d0 : 0 ≤ d) (d1 : d < 256)  (a : Int) (a0 : 0 ≤ a) (a1 : a < 65536) (hz : hidV (modeV c L d) a = false) (y : Int) (H : ∀ W, RU W r v s m → Calls Try.prog 33 #[.pointer (some ⟨r, 0, none⟩), .int .u16 a] W fun q_ w' => q_ = .returned (.int .u8 y) ∧ Below W.heap.size W w') (w : World) (h : RU w r v s m) : Calls Try.prog 32 #[.pointer (some ⟨r, 0, none⟩), .int .u16 a] w fun q_ w' => q_ = .returned (.int .u8 y) ∧ Below w.heap.size w w' := by
  suffices hall : ∀ w0 : World, Below w0.heap.size w0 w → Calls Try.prog 32 #[.pointer (some ⟨r, 0, none⟩), .int .u16 a] w fun q_ w' => q_ = .returned (.int .u8 y) ∧ Below w0.heap.size w0 w' from hall w (Below.refl _ w)
  intro w0 hK
  have P0 := Lib.hid h
  have K0 := Lib.hid hK
  clear h hK
  have Hc := Lib.hid hc
  clear hc
  have HL := Lib.hid hL
  clear hL
  have Hd := Lib.hid hd
  clear hd
  have HZ := Lib.hid hz
  clear hz
  have SH := Lib.hid H
  clear H
  go_enter Try.func32, Try.ntmps32
  go_wp2_with (fail)
  with_reducible refine (rshut_c r v s m c Hc.out c0 c1 L HL.out L0 L1 d Hd.out d0 d1 a a0 a1 false HZ.out _ P0.out).mono ?_
  rintro q_ w' ⟨rfl, rfl⟩
  go_wp2_with (fail)
  with_reducible refine (SH.out _ P0.out).mono ?_
  rintro q_ u1 ⟨rfl, hb⟩
  have P1 := Lib.hid (P0.out.below hb)
  have K1 := Lib.hid (via K0.out hb)
  clear hb
  clear P0 K0
  go_wp2
  all_goals first | exact bodyPost_ret (v := .int .u8 y) (by simp [results, Try.results32, go_sem]) rfl ⟨rfl, K1.out⟩ | exact bodyPost_end (v := .int .u8 y) (by simp [results, Try.results32, go_sem]) rfl ⟨rfl, K1.out⟩
/-- What is seen at a place. -/
theorem rread_c (r v s : Nat) (m : M) (ok : Ok m) (a : Int) (a0 : 0 ≤ a) (a1 : a < 65536) (w : World) (h : RU w r v s m) : Calls Try.prog 32 #[.pointer (some ⟨r, 0, none⟩), .int .u16 a] w fun q_ w' => q_ = .returned (.int .u8 (readM m a)) ∧ Below w.heap.size w w' := by
  have B := ok.byte
  unfold readM
  by_cases hz : hidV (modeM m) a = true
  · rw [if_pos hz]; exact rrd_h r v s m _ rfl (B 8352 (by decide) (by decide)).1 (B 8352 (by decide) (by decide)).2 _ rfl (B 8356 (by decide) (by decide)).1 (B 8356 (by decide) (by decide)).2 _ rfl (B 8363 (by decide) (by decide)).1 (B 8363 (by decide) (by decide)).2 a a0 a1 hz w h
  · rw [if_neg hz]; exact rrd_s r v s m _ rfl (B 8352 (by decide) (by decide)).1 (B 8352 (by decide) (by decide)).2 _ rfl (B 8356 (by decide) (by decide)).1 (B 8356 (by decide) (by decide)).2 _ rfl (B 8363 (by decide) (by decide)).1 (B 8363 (by decide) (by decide)).2 a a0 a1 (show hidV (modeM m) a = false by simpa using hz) _ (fun W hW => rpeek_c r v s m ok a a0 a1 W hW) w h
end Go.Proofs.Ytpfbodmadmneiaa
