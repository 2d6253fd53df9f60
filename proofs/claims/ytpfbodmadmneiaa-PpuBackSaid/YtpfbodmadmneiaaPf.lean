/-
  The small functions of the program, which only read: for every unit; no condition but that each number fits.
-/
import Derived.Test.YtpfbodmadmneiaaUe
import Derived.Test.YtpfbodmadmneiaaTk
import Derived.Deep.Cut
import Derived.BigQuiet
import Derived.WalkSmall
namespace Go.Proofs.Ytpfbodmadmneiaa
open Go.ChangeShapes Go.WideShapes Go.ChangeAt Go.RowKit
set_option linter.unusedVariables false
set_option linter.unusedSimpArgs false
set_option maxRecDepth 100000
theorem g128 (a : Int) (h1 : 0 ≤ a) (h2 : a < 256) : (bits .and .u8 a 128 != 0) = decide (128 ≤ a) := byte_all (P := fun a => (bits .and .u8 a 128 != 0) = decide (128 ≤ a)) (by decide +kernel) a h1 h2
theorem g64 (a : Int) (h1 : 0 ≤ a) (h2 : a < 256) : (bits .and .u8 a 64 != 0) = decide (bit a 6 = 1) := byte_all (P := fun a => (bits .and .u8 a 64 != 0) = decide (bit a 6 = 1)) (by decide +kernel) a h1 h2
theorem g8 (a : Int) (h1 : 0 ≤ a) (h2 : a < 256) : (bits .and .u8 a 8 != 0) = decide (bit a 3 = 1) := byte_all (P := fun a => (bits .and .u8 a 8 != 0) = decide (bit a 3 = 1)) (by decide +kernel) a h1 h2
theorem g16 (a : Int) (h1 : 0 ≤ a) (h2 : a < 256) : (bits .and .u8 a 16 != 0) = decide (bit a 4 = 1) := byte_all (P := fun a => (bits .and .u8 a 16 != 0) = decide (bit a 4 = 1)) (by decide +kernel) a h1 h2
theorem g32 (a : Int) (h1 : 0 ≤ a) (h2 : a < 256) : (bits .and .u8 a 32 != 0) = decide (bit a 5 = 1) := byte_all (P := fun a => (bits .and .u8 a 32 != 0) = decide (bit a 5 = 1)) (by decide +kernel) a h1 h2
theorem g120 (a : Int) (h1 : 0 ≤ a) (h2 : a < 256) : bits .and .u8 a 120 = a / 8 % 16 * 8 := byte_all (P := fun a => bits .and .u8 a 120 = a / 8 % 16 * 8) (by decide +kernel) a h1 h2
set_option maxHeartbeats 2000000 in
theorem on_c (b : Nat) (m : M) (c : Int) (hc : m 8352 = c) (c0 : 0 ≤ c) (c1 : c < 256)  (z : Bool) (hz : decide (128 ≤ c) = z) (w : World) (h : Has w b (encU m)) : Calls Try.prog 43 #[.pointer (some ⟨b, 0, none⟩)] w fun q_ w' => q_ = .returned (.bool z) ∧ w' = w := by
  have P0 := Lib.hid h
  clear h
  have Hc := Lib.hid hc
  clear hc
  have q1 := (g128 c c0 c1).trans hz
  obtain ⟨hc, hf⟩ := P0.out.out
  have e_c : (encU (m))[8352]? = some (.int .u8 c) := (encU_u _ 8352 (by decide) (by decide) (by decide)).trans (congrArg (fun x => some (Value.int .u8 x)) (Hc.out))
  go_enter Try.func43, Try.ntmps43
  go_wp2
  all_goals first | exact bodyPost_ret (v := .bool z) (by simp [results, Try.results43, go_sem]) rfl ⟨rfl, rfl⟩ | exact bodyPost_end (v := .bool z) (by simp [results, Try.results43, go_sem]) rfl ⟨rfl, rfl⟩
set_option maxHeartbeats 2000000 in
theorem eq_c (b : Nat) (m : M) (L : Int) (hL : m 8356 = L) (L0 : 0 ≤ L) (L1 : L < 256) (ly : Int) (hly : m 8357 = ly) (ly0 : 0 ≤ ly) (ly1 : ly < 256)  (z : Bool) (hz : decide (L = ly) = z) (w : World) (h : Has w b (encU m)) : Calls Try.prog 59 #[.pointer (some ⟨b, 0, none⟩)] w fun q_ w' => q_ = .returned (.bool z) ∧ Below w.heap.size w w' := by
  suffices hall : ∀ w0 : World, Below w0.heap.size w0 w → Calls Try.prog 59 #[.pointer (some ⟨b, 0, none⟩)] w fun q_ w' => q_ = .returned (.bool z) ∧ Below w0.heap.size w0 w' from hall w (Below.refl _ w)
  intro w0 hK
  have P0 := Lib.hid h
  have K0 := Lib.hid hK
  clear h hK
  have HL := Lib.hid hL
  clear hL
  have Hly := Lib.hid hly
  clear hly
  have q1 : (L == ly) = z := by rw [← hz]; rfl
  obtain ⟨hc, hf⟩ := P0.out.out
  have e_L : (encU (m))[8356]? = some (.int .u8 L) := (encU_u _ 8356 (by decide) (by decide) (by decide)).trans (congrArg (fun x => some (Value.int .u8 x)) (HL.out))
  have e_ly : (encU (m))[8357]? = some (.int .u8 ly) := (encU_u _ 8357 (by decide) (by decide) (by decide)).trans (congrArg (fun x => some (Value.int .u8 x)) (Hly.out))
  go_enter Try.func59, Try.ntmps59
  go_upto_region 1 with (fail)
  go_quiet (fail)
  go_wp2
  all_goals first | exact bodyPost_ret (v := .bool z) (by simp [results, Try.results59, go_sem]) rfl ⟨rfl, below_drewN K0.out _⟩ | exact bodyPost_end (v := .bool z) (by simp [results, Try.results59, go_sem]) rfl ⟨rfl, below_drewN K0.out _⟩
set_option maxHeartbeats 2000000 in
theorem line_u (b : Nat) (m : M) (L : Int) (hL : m 8356 = L) (L0 : 0 ≤ L) (L1 : L < 256)   (w : World) (h : Has w b (encU m)) : Calls Try.prog 23 #[.pointer (some ⟨b, 0, none⟩)] w fun q_ w' => q_ = .returned (.int .i64 L) ∧ w' = w := by
  have P0 := Lib.hid h
  clear h
  have HL := Lib.hid hL
  clear hL
  obtain ⟨hc, hf⟩ := P0.out.out
  have e_L : (encU (m))[8356]? = some (.int .u8 L) := (encU_u _ 8356 (by decide) (by decide) (by decide)).trans (congrArg (fun x => some (Value.int .u8 x)) (HL.out))
  go_enter Try.func23, Try.ntmps23
  go_wp2
  all_goals first | exact bodyPost_ret (v := .int .i64 L) (by simp [results, Try.results23, go_sem]) rfl ⟨rfl, rfl⟩ | exact bodyPost_end (v := .int .i64 L) (by simp [results, Try.results23, go_sem]) rfl ⟨rfl, rfl⟩
set_option maxHeartbeats 2000000 in
theorem dot_u (b : Nat) (m : M) (d : Int) (hd : m 8363 = d) (d0 : 0 ≤ d) (d1 : d < 256)   (w : World) (h : Has w b (encU m)) : Calls Try.prog 24 #[.pointer (some ⟨b, 0, none⟩)] w fun q_ w' => q_ = .returned (.int .i64 d) ∧ w' = w := by
  have P0 := Lib.hid h
  clear h
  have Hd := Lib.hid hd
  clear hd
  obtain ⟨hc, hf⟩ := P0.out.out
  have e_d : (encU (m))[8363]? = some (.int .u8 d) := (encU_u _ 8363 (by decide) (by decide) (by decide)).trans (congrArg (fun x => some (Value.int .u8 x)) (Hd.out))
  go_enter Try.func24, Try.ntmps24
  go_wp2
  all_goals first | exact bodyPost_ret (v := .int .i64 d) (by simp [results, Try.results24, go_sem]) rfl ⟨rfl, rfl⟩ | exact bodyPost_end (v := .int .i64 d) (by simp [results, Try.results24, go_sem]) rfl ⟨rfl, rfl⟩
set_option maxHeartbeats 2000000 in
theorem frames_u (b : Nat) (m : M) (fr : Int) (hfr : m 8365 = fr) (fr0 : 0 ≤ fr) (fr1 : fr < 65536)   (w : World) (h : Has w b (encU m)) : Calls Try.prog 34 #[.pointer (some ⟨b, 0, none⟩)] w fun q_ w' => q_ = .returned (.int .i64 fr) ∧ w' = w := by
  have P0 := Lib.hid h
  clear h
  have Hfr := Lib.hid hfr
  clear hfr
  obtain ⟨hc, hf⟩ := P0.out.out
  have e_fr : (encU (m))[8365]? = some (.int .u16 fr) := (encU_f _).trans (congrArg (fun x => some (Value.int .u16 x)) (Hfr.out))
  go_enter Try.func34, Try.ntmps34
  go_wp2
  all_goals first | exact bodyPost_ret (v := .int .i64 fr) (by simp [results, Try.results34, go_sem]) rfl ⟨rfl, rfl⟩ | exact bodyPost_end (v := .int .i64 fr) (by simp [results, Try.results34, go_sem]) rfl ⟨rfl, rfl⟩
set_option maxHeartbeats 2000000 in
theorem mode_off (b : Nat) (m : M) (c : Int) (hc : m 8352 = c) (c0 : 0 ≤ c) (c1 : c < 256)  (hz : decide (128 ≤ c) = false) (w : World) (h : Has w b (encU m)) : Calls Try.prog 25 #[.pointer (some ⟨b, 0, none⟩)] w fun q_ w' => q_ = .returned (.int .i64 0) ∧ w' = w := by
  have P0 := Lib.hid h
  clear h
  have Hc := Lib.hid hc
  clear hc
  have HZ := Lib.hid hz
  clear hz
  have hnot : ∀ (x : Bool) (w : World), (Op.unary .not (.bool x)).run Try.prog w = .ok (.bool (!x)) w := fun _ _ => rfl
  go_enter Try.func25, Try.ntmps25
  go_wp2_with (fail)
  with_reducible refine (on_c b m c Hc.out c0 c1 false HZ.out _ P0.out).mono ?_
  rintro q_ w' ⟨rfl, rfl⟩
  go_wp2
  all_goals first | exact bodyPost_ret (v := .int .i64 0) (by simp [results, Try.results25, go_sem]) rfl ⟨rfl, rfl⟩ | exact bodyPost_end (v := .int .i64 0) (by simp [results, Try.results25, go_sem]) rfl ⟨rfl, rfl⟩
set_option maxHeartbeats 2000000 in
theorem mode_1 (b : Nat) (m : M) (c : Int) (hc : m 8352 = c) (c0 : 0 ≤ c) (c1 : c < 256) (L : Int) (hL : m 8356 = L) (L0 : 0 ≤ L) (L1 : L < 256)  (hz : decide (128 ≤ c) = true) (g : 144 ≤ L) (w : World) (h : Has w b (encU m)) : Calls Try.prog 25 #[.pointer (some ⟨b, 0, none⟩)] w fun q_ w' => q_ = .returned (.int .i64 1) ∧ w' = w := by
  have P0 := Lib.hid h
  clear h
  have Hc := Lib.hid hc
  clear hc
  have HL := Lib.hid hL
  clear hL
  have HZ := Lib.hid hz
  clear hz
  have hnot : ∀ (x : Bool) (w : World), (Op.unary .not (.bool x)).run Try.prog w = .ok (.bool (!x)) w := fun _ _ => rfl
  go_enter Try.func25, Try.ntmps25
  go_wp2_with (fail)
  with_reducible refine (on_c b m c Hc.out c0 c1 true HZ.out _ P0.out).mono ?_
  rintro q_ w' ⟨rfl, rfl⟩
  obtain ⟨hc, hf⟩ := P0.out.out
  have e_L : (encU (m))[8356]? = some (.int .u8 L) := (encU_u _ 8356 (by decide) (by decide) (by decide)).trans (congrArg (fun x => some (Value.int .u8 x)) (HL.out))
  skip
  go_wp2
  all_goals first | exact bodyPost_ret (v := .int .i64 1) (by simp [results, Try.results25, go_sem]) rfl ⟨rfl, rfl⟩ | exact bodyPost_end (v := .int .i64 1) (by simp [results, Try.results25, go_sem]) rfl ⟨rfl, rfl⟩
set_option maxHeartbeats 2000000 in
theorem mode_2 (b : Nat) (m : M) (c : Int) (hc : m 8352 = c) (c0 : 0 ≤ c) (c1 : c < 256) (L : Int) (hL : m 8356 = L) (L0 : 0 ≤ L) (L1 : L < 256) (d : Int) (hd : m 8363 = d) (d0 : 0 ≤ d) (d1 : d < 256)  (hz : decide (128 ≤ c) = true) (g : L < 144) (g2 : d < 20) (w : World) (h : Has w b (encU m)) : Calls Try.prog 25 #[.pointer (some ⟨b, 0, none⟩)] w fun q_ w' => q_ = .returned (.int .i64 2) ∧ w' = w := by
  have P0 := Lib.hid h
  clear h
  have Hc := Lib.hid hc
  clear hc
  have HL := Lib.hid hL
  clear hL
  have Hd := Lib.hid hd
  clear hd
  have HZ := Lib.hid hz
  clear hz
  have hnot : ∀ (x : Bool) (w : World), (Op.unary .not (.bool x)).run Try.prog w = .ok (.bool (!x)) w := fun _ _ => rfl
  go_enter Try.func25, Try.ntmps25
  go_wp2_with (fail)
  with_reducible refine (on_c b m c Hc.out c0 c1 true HZ.out _ P0.out).mono ?_
  rintro q_ w' ⟨rfl, rfl⟩
  obtain ⟨hc, hf⟩ := P0.out.out
  have e_L : (encU (m))[8356]? = some (.int .u8 L) := (encU_u _ 8356 (by decide) (by decide) (by decide)).trans (congrArg (fun x => some (Value.int .u8 x)) (HL.out))
  have e_d : (encU (m))[8363]? = some (.int .u8 d) := (encU_u _ 8363 (by decide) (by decide) (by decide)).trans (congrArg (fun x => some (Value.int .u8 x)) (Hd.out))
  have g3 : ¬ 144 ≤ L := by omega
  go_wp2
  all_goals first | exact bodyPost_ret (v := .int .i64 2) (by simp [results, Try.results25, go_sem]) rfl ⟨rfl, rfl⟩ | exact bodyPost_end (v := .int .i64 2) (by simp [results, Try.results25, go_sem]) rfl ⟨rfl, rfl⟩
set_option maxHeartbeats 2000000 in
theorem mode_3 (b : Nat) (m : M) (c : Int) (hc : m 8352 = c) (c0 : 0 ≤ c) (c1 : c < 256) (L : Int) (hL : m 8356 = L) (L0 : 0 ≤ L) (L1 : L < 256) (d : Int) (hd : m 8363 = d) (d0 : 0 ≤ d) (d1 : d < 256)  (hz : decide (128 ≤ c) = true) (g : L < 144) (g2 : 20 ≤ d) (g4 : d < 63) (w : World) (h : Has w b (encU m)) : Calls Try.prog 25 #[.pointer (some ⟨b, 0, none⟩)] w fun q_ w' => q_ = .returned (.int .i64 3) ∧ w' = w := by
  have P0 := Lib.hid h
  clear h
  have Hc := Lib.hid hc
  clear hc
  have HL := Lib.hid hL
  clear hL
  have Hd := Lib.hid hd
  clear hd
  have HZ := Lib.hid hz
  clear hz
  have hnot : ∀ (x : Bool) (w : World), (Op.unary .not (.bool x)).run Try.prog w = .ok (.bool (!x)) w := fun _ _ => rfl
  go_enter Try.func25, Try.ntmps25
  go_wp2_with (fail)
  with_reducible refine (on_c b m c Hc.out c0 c1 true HZ.out _ P0.out).mono ?_
  rintro q_ w' ⟨rfl, rfl⟩
  obtain ⟨hc, hf⟩ := P0.out.out
  have e_L : (encU (m))[8356]? = some (.int .u8 L) := (encU_u _ 8356 (by decide) (by decide) (by decide)).trans (congrArg (fun x => some (Value.int .u8 x)) (HL.out))
  have e_d : (encU (m))[8363]? = some (.int .u8 d) := (encU_u _ 8363 (by decide) (by decide) (by decide)).trans (congrArg (fun x => some (Value.int .u8 x)) (Hd.out))
  have g3 : ¬ 144 ≤ L := by omega
  have g5 : ¬ d < 20 := by omega
  go_wp2
  all_goals first | exact bodyPost_ret (v := .int .i64 3) (by simp [results, Try.results25, go_sem]) rfl ⟨rfl, rfl⟩ | exact bodyPost_end (v := .int .i64 3) (by simp [results, Try.results25, go_sem]) rfl ⟨rfl, rfl⟩
set_option maxHeartbeats 2000000 in
theorem mode_0 (b : Nat) (m : M) (c : Int) (hc : m 8352 = c) (c0 : 0 ≤ c) (c1 : c < 256) (L : Int) (hL : m 8356 = L) (L0 : 0 ≤ L) (L1 : L < 256) (d : Int) (hd : m 8363 = d) (d0 : 0 ≤ d) (d1 : d < 256)  (hz : decide (128 ≤ c) = true) (g : L < 144) (g2 : 63 ≤ d) (w : World) (h : Has w b (encU m)) : Calls Try.prog 25 #[.pointer (some ⟨b, 0, none⟩)] w fun q_ w' => q_ = .returned (.int .i64 0) ∧ w' = w := by
  have P0 := Lib.hid h
  clear h
  have Hc := Lib.hid hc
  clear hc
  have HL := Lib.hid hL
  clear hL
  have Hd := Lib.hid hd
  clear hd
  have HZ := Lib.hid hz
  clear hz
  have hnot : ∀ (x : Bool) (w : World), (Op.unary .not (.bool x)).run Try.prog w = .ok (.bool (!x)) w := fun _ _ => rfl
  go_enter Try.func25, Try.ntmps25
  go_wp2_with (fail)
  with_reducible refine (on_c b m c Hc.out c0 c1 true HZ.out _ P0.out).mono ?_
  rintro q_ w' ⟨rfl, rfl⟩
  obtain ⟨hc, hf⟩ := P0.out.out
  have e_L : (encU (m))[8356]? = some (.int .u8 L) := (encU_u _ 8356 (by decide) (by decide) (by decide)).trans (congrArg (fun x => some (Value.int .u8 x)) (HL.out))
  have e_d : (encU (m))[8363]? = some (.int .u8 d) := (encU_u _ 8363 (by decide) (by decide) (by decide)).trans (congrArg (fun x => some (Value.int .u8 x)) (Hd.out))
  have g3 : ¬ 144 ≤ L := by omega
  have g5 : ¬ d < 20 := by omega
  have g6 : ¬ d < 63 := by omega
  go_wp2
  all_goals first | exact bodyPost_ret (v := .int .i64 0) (by simp [results, Try.results25, go_sem]) rfl ⟨rfl, rfl⟩ | exact bodyPost_end (v := .int .i64 0) (by simp [results, Try.results25, go_sem]) rfl ⟨rfl, rfl⟩
/-- The mode. -/
theorem mode_c (b : Nat) (m : M) (c : Int) (hc : m 8352 = c) (c0 : 0 ≤ c) (c1 : c < 256) (L : Int) (hL : m 8356 = L) (L0 : 0 ≤ L) (L1 : L < 256) (d : Int) (hd : m 8363 = d) (d0 : 0 ≤ d) (d1 : d < 256) (v : Int) (hv : modeV c L d = v) (w : World) (h : Has w b (encU m)) : Calls Try.prog 25 #[.pointer (some ⟨b, 0, none⟩)] w fun q_ w' => q_ = .returned (.int .i64 v) ∧ w' = w := by
  subst hv
  unfold modeV
  by_cases a : 128 ≤ c
  · have hz : decide (128 ≤ c) = true := by simpa using a
    rw [if_pos a]
    by_cases g : 144 ≤ L
    · rw [if_pos g]; exact mode_1 b m c hc c0 c1 L hL L0 L1 hz g w h
    · rw [if_neg g]
      by_cases g2 : d < 20
      · rw [if_pos g2]; exact mode_2 b m c hc c0 c1 L hL L0 L1 d hd d0 d1 hz (by omega) g2 w h
      · rw [if_neg g2]
        by_cases g3 : d < 63
        · rw [if_pos g3]; exact mode_3 b m c hc c0 c1 L hL L0 L1 d hd d0 d1 hz (by omega) (by omega) g3 w h
        · rw [if_neg g3]; exact mode_0 b m c hc c0 c1 L hL L0 L1 d hd d0 d1 hz (by omega) (by omega) w h
  · rw [if_neg a]; exact mode_off b m c hc c0 c1 (by simpa using a) w h
set_option maxHeartbeats 1000000 in
theorem oam_1 (a : Int) (a0 : 0 ≤ a) (a1 : a < 65536) (h1 : 65024 ≤ a) (h2 : a < 65184) (w : World) : Calls Try.prog 53 #[.int .u16 a] w fun q_ w' => q_ = .returned (.bool true) ∧ w' = w := by
  go_enter Try.func53, Try.ntmps53
  go_wp2
  all_goals exact bodyPost_ret (v := .bool true) (by simp [results, Try.results53, go_sem]) rfl ⟨rfl, rfl⟩
set_option maxHeartbeats 1000000 in
theorem oam_0 (a : Int) (a0 : 0 ≤ a) (a1 : a < 65536) (h1 : a < 65024) (w : World) : Calls Try.prog 53 #[.int .u16 a] w fun q_ w' => q_ = .returned (.bool false) ∧ w' = w := by
  have g : ¬ 65024 ≤ a := by omega
  go_enter Try.func53, Try.ntmps53
  go_wp2
  all_goals exact bodyPost_ret (v := .bool false) (by simp [results, Try.results53, go_sem]) rfl ⟨rfl, rfl⟩
set_option maxHeartbeats 1000000 in
theorem oam_2 (a : Int) (a0 : 0 ≤ a) (a1 : a < 65536) (h1 : 65184 ≤ a) (w : World) : Calls Try.prog 53 #[.int .u16 a] w fun q_ w' => q_ = .returned (.bool false) ∧ w' = w := by
  have g : 65024 ≤ a := by omega
  have g2 : ¬ a < 65184 := by omega
  go_enter Try.func53, Try.ntmps53
  go_wp2
  all_goals exact bodyPost_ret (v := .bool false) (by simp [results, Try.results53, go_sem]) rfl ⟨rfl, rfl⟩
set_option maxHeartbeats 1000000 in
theorem vid_1 (a : Int) (a0 : 0 ≤ a) (a1 : a < 65536) (h1 : 32768 ≤ a) (h2 : a < 40960) (w : World) : Calls Try.prog 54 #[.int .u16 a] w fun q_ w' => q_ = .returned (.bool true) ∧ w' = w := by
  go_enter Try.func54, Try.ntmps54
  go_wp2
  all_goals exact bodyPost_ret (v := .bool true) (by simp [results, Try.results54, go_sem]) rfl ⟨rfl, rfl⟩
set_option maxHeartbeats 1000000 in
theorem vid_0 (a : Int) (a0 : 0 ≤ a) (a1 : a < 65536) (h1 : a < 32768) (w : World) : Calls Try.prog 54 #[.int .u16 a] w fun q_ w' => q_ = .returned (.bool false) ∧ w' = w := by
  have g : ¬ 32768 ≤ a := by omega
  go_enter Try.func54, Try.ntmps54
  go_wp2
  all_goals exact bodyPost_ret (v := .bool false) (by simp [results, Try.results54, go_sem]) rfl ⟨rfl, rfl⟩
set_option maxHeartbeats 1000000 in
theorem vid_2 (a : Int) (a0 : 0 ≤ a) (a1 : a < 65536) (h1 : 40960 ≤ a) (w : World) : Calls Try.prog 54 #[.int .u16 a] w fun q_ w' => q_ = .returned (.bool false) ∧ w' = w := by
  have g : 32768 ≤ a := by omega
  have g2 : ¬ a < 40960 := by omega
  go_enter Try.func54, Try.ntmps54
  go_wp2
  all_goals exact bodyPost_ret (v := .bool false) (by simp [results, Try.results54, go_sem]) rfl ⟨rfl, rfl⟩
theorem oam_c (a : Int) (a0 : 0 ≤ a) (a1 : a < 65536) (z : Bool) (hz : (decide (65024 ≤ a) && decide (a < 65184)) = z) (w : World) : Calls Try.prog 53 #[.int .u16 a] w fun q_ w' => q_ = .returned (.bool z) ∧ w' = w := by
  subst hz
  by_cases h1 : 65024 ≤ a
  · by_cases h2 : a < 65184
    · simp only [h1, h2, decide_true, Bool.and_self]; exact oam_1 a a0 a1 h1 h2 w
    · simp only [h1, h2, decide_true, decide_false, Bool.and_false]; exact oam_2 a a0 a1 (by omega) w
  · simp only [h1, decide_false, Bool.false_and]; exact oam_0 a a0 a1 (by omega) w
theorem vid_c (a : Int) (a0 : 0 ≤ a) (a1 : a < 65536) (z : Bool) (hz : (decide (32768 ≤ a) && decide (a < 40960)) = z) (w : World) : Calls Try.prog 54 #[.int .u16 a] w fun q_ w' => q_ = .returned (.bool z) ∧ w' = w := by
  subst hz
  by_cases h1 : 32768 ≤ a
  · by_cases h2 : a < 40960
    · simp only [h1, h2, decide_true, Bool.and_self]; exact vid_1 a a0 a1 h1 h2 w
    · simp only [h1, h2, decide_true, decide_false, Bool.and_false]; exact vid_2 a a0 a1 (by omega) w
  · simp only [h1, decide_false, Bool.false_and]; exact vid_0 a a0 a1 (by omega) w
set_option maxHeartbeats 1000000 in
theorem reg_lo (a : Int) (a0 : 0 ≤ a) (a1 : a < 65536) (h1 : 65344 ≤ a) (h2 : a < 65350) (w : World) : Calls Try.prog 39 #[.int .u16 a] w fun q_ w' => q_ = .returned (.tuple #[.int .i64 (a - 65344), .bool true]) ∧ w' = w := by
  have hw : IntKind.i64.wrap (a - 65344) = a - 65344 := by rw [IntKind.wrap_i64]; omega
  have g : 0 ≤ a - 65344 := by omega
  have g2 : a - 65344 < 6 := by omega
  go_enter Try.func39, Try.ntmps39
  go_wp2
  all_goals exact bodyPost_ret (v := .tuple #[.int .i64 (a - 65344), .bool true]) (by simp [results, Try.results39, go_sem]) rfl ⟨rfl, rfl⟩
set_option maxHeartbeats 1000000 in
theorem reg_hi (a : Int) (a0 : 0 ≤ a) (a1 : a < 65536) (h1 : 65351 ≤ a) (h2 : a ≤ 65355) (w : World) : Calls Try.prog 39 #[.int .u16 a] w fun q_ w' => q_ = .returned (.tuple #[.int .i64 (a - 65345), .bool true]) ∧ w' = w := by
  have hw : IntKind.i64.wrap (a - 65344) = a - 65344 := by rw [IntKind.wrap_i64]; omega
  have g : 0 ≤ a - 65344 := by omega
  have g2 : ¬ a - 65344 < 6 := by omega
  have g3 : 6 < a - 65344 := by omega
  have g4 : a - 65344 ≤ 11 := by omega
  have hw2 : IntKind.i64.wrap (a - 65344 - 1) = a - 65345 := by rw [IntKind.wrap_i64]; omega
  go_enter Try.func39, Try.ntmps39
  go_wp2
  all_goals exact bodyPost_ret (v := .tuple #[.int .i64 (a - 65345), .bool true]) (by simp [results, Try.results39, go_sem]) rfl ⟨rfl, rfl⟩
set_option maxHeartbeats 1000000 in
theorem reg_n0 (a : Int) (a0 : 0 ≤ a) (a1 : a < 65536) (h1 : a < 65344) (w : World) : Calls Try.prog 39 #[.int .u16 a] w fun q_ w' => q_ = .returned (.tuple #[.int .i64 0, .bool false]) ∧ w' = w := by
  have hw : IntKind.i64.wrap (a - 65344) = a - 65344 := by rw [IntKind.wrap_i64]; omega
  have g : ¬ 0 ≤ a - 65344 := by omega
  have g3 : ¬ 6 < a - 65344 := by omega
  go_enter Try.func39, Try.ntmps39
  go_wp2
  all_goals exact bodyPost_ret (v := .tuple #[.int .i64 0, .bool false]) (by simp [results, Try.results39, go_sem]) rfl ⟨rfl, rfl⟩
set_option maxHeartbeats 1000000 in
theorem reg_n1  (w : World) : Calls Try.prog 39 #[.int .u16 65350] w fun q_ w' => q_ = .returned (.tuple #[.int .i64 0, .bool false]) ∧ w' = w := by
  go_enter Try.func39, Try.ntmps39
  go_wp2
  all_goals exact bodyPost_ret (v := .tuple #[.int .i64 0, .bool false]) (by simp [results, Try.results39, go_sem]) rfl ⟨rfl, rfl⟩
set_option maxHeartbeats 1000000 in
theorem reg_n2 (a : Int) (a0 : 0 ≤ a) (a1 : a < 65536) (h1 : 65355 < a) (w : World) : Calls Try.prog 39 #[.int .u16 a] w fun q_ w' => q_ = .returned (.tuple #[.int .i64 0, .bool false]) ∧ w' = w := by
  have hw : IntKind.i64.wrap (a - 65344) = a - 65344 := by rw [IntKind.wrap_i64]; omega
  have g : 0 ≤ a - 65344 := by omega
  have g2 : ¬ a - 65344 < 6 := by omega
  have g3 : 6 < a - 65344 := by omega
  have g4 : ¬ a - 65344 ≤ 11 := by omega
  go_enter Try.func39, Try.ntmps39
  go_wp2
  all_goals exact bodyPost_ret (v := .tuple #[.int .i64 0, .bool false]) (by simp [results, Try.results39, go_sem]) rfl ⟨rfl, rfl⟩
end Go.Proofs.Ytpfbodmadmneiaa
