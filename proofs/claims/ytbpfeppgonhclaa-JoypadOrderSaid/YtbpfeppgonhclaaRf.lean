/-
  The joypad of the document: for every joypad; no condition but that each number is a byte.
-/
import Derived.Test.YtbpfeppgonhclaaFn
import Derived.Deep.Cut
import Derived.BigQuiet
import Derived.Deep.LoopGhost
namespace Go.Proofs.Ytbpfeppgonhclaa
open Go.ChangeShapes Go.WideShapes Go.ChangeAt Go.RowKit
set_option linter.unusedVariables false
set_option linter.unusedSimpArgs false
set_option maxRecDepth 100000
theorem bit_0 (x : Int) (hx : 0 ≤ x) (hx2 : x < 256) (w : World) : Calls Try.prog 20 #[.int .u8 x, .int .i64 0] w fun q_ w' => q_ = .returned (.bool (bt x 1)) ∧ w = w' := bit_n x hx hx2 0 (by decide) w
theorem bit_1 (x : Int) (hx : 0 ≤ x) (hx2 : x < 256) (w : World) : Calls Try.prog 20 #[.int .u8 x, .int .i64 1] w fun q_ w' => q_ = .returned (.bool (bt x 2)) ∧ w = w' := bit_n x hx hx2 1 (by decide) w
theorem bit_2 (x : Int) (hx : 0 ≤ x) (hx2 : x < 256) (w : World) : Calls Try.prog 20 #[.int .u8 x, .int .i64 2] w fun q_ w' => q_ = .returned (.bool (bt x 4)) ∧ w = w' := bit_n x hx hx2 2 (by decide) w
theorem bit_3 (x : Int) (hx : 0 ≤ x) (hx2 : x < 256) (w : World) : Calls Try.prog 20 #[.int .u8 x, .int .i64 3] w fun q_ w' => q_ = .returned (.bool (bt x 8)) ∧ w = w' := bit_n x hx hx2 3 (by decide) w
theorem bit_4 (x : Int) (hx : 0 ≤ x) (hx2 : x < 256) (w : World) : Calls Try.prog 20 #[.int .u8 x, .int .i64 4] w fun q_ w' => q_ = .returned (.bool (bt x 16)) ∧ w = w' := bit_n x hx hx2 4 (by decide) w
theorem bit_5 (x : Int) (hx : 0 ≤ x) (hx2 : x < 256) (w : World) : Calls Try.prog 20 #[.int .u8 x, .int .i64 5] w fun q_ w' => q_ = .returned (.bool (bt x 32)) ∧ w = w' := bit_n x hx hx2 5 (by decide) w
theorem bit_6 (x : Int) (hx : 0 ≤ x) (hx2 : x < 256) (w : World) : Calls Try.prog 20 #[.int .u8 x, .int .i64 6] w fun q_ w' => q_ = .returned (.bool (bt x 64)) ∧ w = w' := bit_n x hx hx2 6 (by decide) w
theorem bit_7 (x : Int) (hx : 0 ≤ x) (hx2 : x < 256) (w : World) : Calls Try.prog 20 #[.int .u8 x, .int .i64 7] w fun q_ w' => q_ = .returned (.bool (bt x 128)) ∧ w = w' := bit_n x hx hx2 7 (by decide) w
set_option maxHeartbeats 2000000 in
theorem line_f (s d n : Int) (hn : 0 ≤ n) (hn2 : n < 4) (b4 b5 x y : Bool) (H1 : ∀ W, Calls Try.prog 20 #[.int .u8 s, .int .i64 4] W fun q_ w' => q_ = .returned (.bool b4) ∧ W = w') (H2 : ∀ W, Calls Try.prog 20 #[.int .u8 s, .int .i64 5] W fun q_ w' => q_ = .returned (.bool b5) ∧ W = w') (H3 : ∀ W, Calls Try.prog 20 #[.int .u8 d, .int .i64 n] W fun q_ w' => q_ = .returned (.bool x) ∧ W = w') (H4 : ∀ W, Calls Try.prog 20 #[.int .u8 d, .int .i64 (n + 4)] W fun q_ w' => q_ = .returned (.bool y) ∧ W = w') (w : World) : Calls Try.prog 21 #[.agg #[.int .u8 s, .int .u8 d], .int .i64 n] w fun q_ w' => q_ = .returned (.bool (!(!b4 && x) && !(!b5 && y))) ∧ Below w.heap.size w w' := by
  suffices hall : ∀ (n_ : Nat) (W0 : World), n_ ≤ W0.heap.size → Below n_ W0 w → Calls Try.prog 21 #[.agg #[.int .u8 s, .int .u8 d], .int .i64 n] w fun q_ w' => q_ = .returned (.bool (!(!b4 && x) && !(!b5 && y))) ∧ Below n_ W0 w' from hall _ _ (Nat.le_refl _) (Below.refl _ _)
  intro n_ W0 hn hB
  have HN := Lib.hid hn
  have BB := Lib.hid hB
  clear hn hB
  have K1 := Lib.hid H1
  have K2 := Lib.hid H2
  have K3 := Lib.hid H3
  have K4 := Lib.hid H4
  clear H1 H2 H3 H4
  go_enter Try.func21, Try.ntmps21
  have Q_ := own1 w (.cells #[.int .u8 s, .int .u8 d] 23)
  have B0 := Lib.hid (vian HN.out BB.out Q_)
  have P0 := Lib.hid (show Has (w.alloc (.cells #[.int .u8 s, .int .u8 d] 23)) w.heap.size #[.int .u8 s, .int .u8 d] by simpa using Has.new w #[.int .u8 s, .int .u8 d] 23)
  have LP := Lib.hid (show n_ ≤ w.heap.size + 0 from Nat.le_add_right_of_le (Nat.le_trans HN.out BB.out.size))
  simp only [Nat.add_zero] at LP
  clear Q_
  go_upto_region 1 with (fail)
  generalize (w.alloc (.cells #[.int .u8 s, .int .u8 d] 23)) = u0 at B0 P0 ⊢
  generalize w.heap.size = pb at P0 LP  ⊢
  obtain ⟨hc, hf⟩ := P0.out.out
  cases b4 <;> cases b5 <;> cases x <;> cases y
  all_goals
    go_wp2_with (first | (with_reducible refine (K1.out _).mono ?_; rintro q_ w' ⟨rfl, rfl⟩) | (with_reducible refine (K2.out _).mono ?_; rintro q_ w' ⟨rfl, rfl⟩) | (with_reducible refine (K3.out _).mono ?_; rintro q_ w' ⟨rfl, rfl⟩) | (with_reducible refine (K4.out _).mono ?_; rintro q_ w' ⟨rfl, rfl⟩))
    go_ret
    exact ⟨rfl, B0.out⟩
theorem line_0 (s d : Int) (hs : 0 ≤ s) (hs2 : s < 256) (hd : 0 ≤ d) (hd2 : d < 256) (w : World) : Calls Try.prog 21 #[.agg #[.int .u8 s, .int .u8 d], .int .i64 0] w fun q_ w' => q_ = .returned (.bool (lnk s d 0)) ∧ Below w.heap.size w w' := line_f s d 0 (by decide) (by decide) _ _ _ _ (bit_4 s hs hs2) (bit_5 s hs hs2) (bit_0 d hd hd2) (bit_4 d hd hd2) w
theorem line_1 (s d : Int) (hs : 0 ≤ s) (hs2 : s < 256) (hd : 0 ≤ d) (hd2 : d < 256) (w : World) : Calls Try.prog 21 #[.agg #[.int .u8 s, .int .u8 d], .int .i64 1] w fun q_ w' => q_ = .returned (.bool (lnk s d 1)) ∧ Below w.heap.size w w' := line_f s d 1 (by decide) (by decide) _ _ _ _ (bit_4 s hs hs2) (bit_5 s hs hs2) (bit_1 d hd hd2) (bit_5 d hd hd2) w
theorem line_2 (s d : Int) (hs : 0 ≤ s) (hs2 : s < 256) (hd : 0 ≤ d) (hd2 : d < 256) (w : World) : Calls Try.prog 21 #[.agg #[.int .u8 s, .int .u8 d], .int .i64 2] w fun q_ w' => q_ = .returned (.bool (lnk s d 2)) ∧ Below w.heap.size w w' := line_f s d 2 (by decide) (by decide) _ _ _ _ (bit_4 s hs hs2) (bit_5 s hs hs2) (bit_2 d hd hd2) (bit_6 d hd hd2) w
theorem line_3 (s d : Int) (hs : 0 ≤ s) (hs2 : s < 256) (hd : 0 ≤ d) (hd2 : d < 256) (w : World) : Calls Try.prog 21 #[.agg #[.int .u8 s, .int .u8 d], .int .i64 3] w fun q_ w' => q_ = .returned (.bool (lnk s d 3)) ∧ Below w.heap.size w w' := line_f s d 3 (by decide) (by decide) _ _ _ _ (bit_4 s hs hs2) (bit_5 s hs hs2) (bit_3 d hd hd2) (bit_7 d hd hd2) w
def pw : Nat → Int
  | 0 => 1
  | t + 1 => 2 * pw t
def psum (l : Nat → Bool) : Nat → Int
  | 0 => 0
  | t + 1 => psum l t + vB (l t) (pw t)
theorem psum4 (s d : Int) : psum (lnk s d) 4 = lnV s d := by
  show 0 + vB (lnk s d 0) 1 + vB (lnk s d 1) 2 + vB (lnk s d 2) 4 + vB (lnk s d 3) 8 = lnV s d
  rw [Int.zero_add]; rfl
theorem psum_next (l : Nat → Bool) (t : Nat) (o : Int) (b : Bool) (h : psum l t = o) (h2 : l t = b) : psum l (t + 1) = o + vB b (pw t) := by subst h h2; rfl
theorem psum_bd (l : Nat → Bool) (t : Nat) (ht : t ≤ 4) : 0 ≤ psum l t ∧ psum l t ≤ 15 := by
  have h : ∀ b k, (0 : Int) ≤ k → 0 ≤ vB b k ∧ vB b k ≤ k := vB_bd
  have a := h (l 0) 1 (by omega)
  have b := h (l 1) 2 (by omega)
  have c := h (l 2) 4 (by omega)
  have e := h (l 3) 8 (by omega)
  match t, ht with
  | 0, _ => simp [psum]
  | 1, _ => simp [psum, pw]; omega
  | 2, _ => simp [psum, pw]; omega
  | 3, _ => simp [psum, pw]; omega
  | 4, _ => simp [psum, pw]; omega
theorem sel_bits (s : Int) : selV s = vB (bt s 32) 32 + vB (bt s 16) 16 := by
  unfold selV vB bt
  rcases (by omega : s / 16 % 2 = 0 ∨ s / 16 % 2 = 1) with a | a <;> rcases (by omega : s / 32 % 2 = 0 ∨ s / 32 % 2 = 1) with b | b <;> simp [a, b] <;> omega
set_option maxHeartbeats 4000000 in
theorem rread_00 (s d : Int) (l : Nat → Bool) (H1 : ∀ W, Calls Try.prog 20 #[.int .u8 s, .int .i64 5] W fun q_ w' => q_ = .returned (.bool false) ∧ W = w') (H2 : ∀ W, Calls Try.prog 20 #[.int .u8 s, .int .i64 4] W fun q_ w' => q_ = .returned (.bool false) ∧ W = w') (L0 : ∀ W, Calls Try.prog 21 #[.agg #[.int .u8 s, .int .u8 d], .int .i64 0] W fun q_ w' => q_ = .returned (.bool (l 0)) ∧ Below W.heap.size W w') (L1 : ∀ W, Calls Try.prog 21 #[.agg #[.int .u8 s, .int .u8 d], .int .i64 1] W fun q_ w' => q_ = .returned (.bool (l 1)) ∧ Below W.heap.size W w') (L2 : ∀ W, Calls Try.prog 21 #[.agg #[.int .u8 s, .int .u8 d], .int .i64 2] W fun q_ w' => q_ = .returned (.bool (l 2)) ∧ Below W.heap.size W w') (L3 : ∀ W, Calls Try.prog 21 #[.agg #[.int .u8 s, .int .u8 d], .int .i64 3] W fun q_ w' => q_ = .returned (.bool (l 3)) ∧ Below W.heap.size W w') (w : World) : Calls Try.prog 14 #[.agg #[.int .u8 s, .int .u8 d]] w fun q_ w' => q_ = .returned (.int .u8 (192 + psum l 4)) ∧ Below w.heap.size w w' := by
  suffices hall : ∀ (n_ : Nat) (W0 : World), n_ ≤ W0.heap.size → Below n_ W0 w → Calls Try.prog 14 #[.agg #[.int .u8 s, .int .u8 d]] w fun q_ w' => q_ = .returned (.int .u8 (192 + psum l 4)) ∧ Below n_ W0 w' from hall _ _ (Nat.le_refl _) (Below.refl _ _)
  intro n_ W0 hn hB
  have HN := Lib.hid hn
  have BB := Lib.hid hB
  clear hn hB
  have K1 := Lib.hid H1
  have K2 := Lib.hid H2
  have M0 := Lib.hid L0
  have M1 := Lib.hid L1
  have M2 := Lib.hid L2
  have M3 := Lib.hid L3
  clear H1 H2 L0 L1 L2 L3
  go_enter Try.func14, Try.ntmps14
  have Q_ := own1 w (.cells #[.int .u8 s, .int .u8 d] 23)
  have B0 := Lib.hid (vian HN.out BB.out Q_)
  have P0 := Lib.hid (show Has (w.alloc (.cells #[.int .u8 s, .int .u8 d] 23)) w.heap.size #[.int .u8 s, .int .u8 d] by simpa using Has.new w #[.int .u8 s, .int .u8 d] 23)
  have LP := Lib.hid (show n_ ≤ w.heap.size + 0 from Nat.le_add_right_of_le (Nat.le_trans HN.out BB.out.size))
  simp only [Nat.add_zero] at LP
  clear Q_
  go_upto_region 1 with (fail)
  generalize (w.alloc (.cells #[.int .u8 s, .int .u8 d] 23)) = u0 at B0 P0 ⊢
  generalize w.heap.size = pb at P0 LP  ⊢
  obtain ⟨hc, hf⟩ := P0.out.out
  go_wp2_with fail
  with_reducible refine (K1.out _).mono ?_
  rintro q_ w' ⟨rfl, rfl⟩
  go_wp2_with fail
  with_reducible refine (K2.out _).mono ?_
  rintro q_ w' ⟨rfl, rfl⟩
  go_wp2_with fail
  clear hc hf
  go_loopg [3, 4, 5] 4 (fun g' o v i wr => ∃ t : Nat, t ≤ 4 ∧ g' + t = 4 ∧ i = .int .i64 t ∧ v = .int .i64 (pw t) ∧ o = .int .i64 (192 + psum l t) ∧ Below n_ W0 wr ∧ Has wr pb #[.int .u8 s, .int .u8 d])
  case atStart => exact ⟨0, by omega, by omega, rfl, rfl, by simp [psum], B0.out, P0.out⟩
  case round =>
    obtain ⟨t, ht, hg, rfl, hv, ho, hB, hP⟩ := hrel
    have TG := Lib.hid hg
    have PB := psum_bd l t ht
    have B1 := Lib.hid hB
    have P1 := Lib.hid hP
    clear hg hB hP B0 P0
    rcases (by omega : t = 0 ∨ t = 1 ∨ t = 2 ∨ t = 3 ∨ t = 4) with rfl | rfl | rfl | rfl | rfl
    · obtain ⟨o', ho'⟩ : ∃ o', psum l 0 = o' := ⟨_, rfl⟩
      have HO := Lib.hid ho'
      rw [ho'] at ho PB
      obtain ⟨b, hb'⟩ : ∃ b, l 0 = b := ⟨_, rfl⟩
      have HL := Lib.hid hb'
      have M := Lib.hid (hb' ▸ M0.out)
      rw [show pw 0 = 1 from rfl] at hv
      subst hv ho
      clear ho' hb' M0 M1 M2 M3
      obtain ⟨hc, hf⟩ := P1.out.out
      go_wp2_with fail
      with_reducible refine (M.out _).mono ?_
      rintro q_ w2 ⟨rfl, hb⟩
      clear hc hf
      have B2 := Lib.hid (vian HN.out B1.out hb)
      have P2 := Lib.hid (P1.out.below hb)
      clear hb
      cases b
      · go_wp2
        go_roundg (gk - 1)
        exact ⟨1, by omega, by have := TG.out; omega, by simp, by simp [pw], by rw [psum_next l 0 o' _ HO.out HL.out]; congr 1; have : vB false (pw 0) = 0 := rfl; omega, B2.out, P2.out⟩
        case measure => have := TG.out; omega
      · go_wp2
        go_roundg (gk - 1)
        exact ⟨1, by omega, by have := TG.out; omega, by simp, by simp [pw], by rw [psum_next l 0 o' _ HO.out HL.out]; congr 1; have : vB true (pw 0) = 1 := rfl; omega, B2.out, P2.out⟩
        case measure => have := TG.out; omega
    · obtain ⟨o', ho'⟩ : ∃ o', psum l 1 = o' := ⟨_, rfl⟩
      have HO := Lib.hid ho'
      rw [ho'] at ho PB
      obtain ⟨b, hb'⟩ : ∃ b, l 1 = b := ⟨_, rfl⟩
      have HL := Lib.hid hb'
      have M := Lib.hid (hb' ▸ M1.out)
      rw [show pw 1 = 2 from rfl] at hv
      subst hv ho
      clear ho' hb' M0 M1 M2 M3
      obtain ⟨hc, hf⟩ := P1.out.out
      go_wp2_with fail
      with_reducible refine (M.out _).mono ?_
      rintro q_ w2 ⟨rfl, hb⟩
      clear hc hf
      have B2 := Lib.hid (vian HN.out B1.out hb)
      have P2 := Lib.hid (P1.out.below hb)
      clear hb
      cases b
      · go_wp2
        go_roundg (gk - 1)
        exact ⟨2, by omega, by have := TG.out; omega, by simp, by simp [pw], by rw [psum_next l 1 o' _ HO.out HL.out]; congr 1; have : vB false (pw 1) = 0 := rfl; omega, B2.out, P2.out⟩
        case measure => have := TG.out; omega
      · go_wp2
        go_roundg (gk - 1)
        exact ⟨2, by omega, by have := TG.out; omega, by simp, by simp [pw], by rw [psum_next l 1 o' _ HO.out HL.out]; congr 1; have : vB true (pw 1) = 2 := rfl; omega, B2.out, P2.out⟩
        case measure => have := TG.out; omega
    · obtain ⟨o', ho'⟩ : ∃ o', psum l 2 = o' := ⟨_, rfl⟩
      have HO := Lib.hid ho'
      rw [ho'] at ho PB
      obtain ⟨b, hb'⟩ : ∃ b, l 2 = b := ⟨_, rfl⟩
      have HL := Lib.hid hb'
      have M := Lib.hid (hb' ▸ M2.out)
      rw [show pw 2 = 4 from rfl] at hv
      subst hv ho
      clear ho' hb' M0 M1 M2 M3
      obtain ⟨hc, hf⟩ := P1.out.out
      go_wp2_with fail
      with_reducible refine (M.out _).mono ?_
      rintro q_ w2 ⟨rfl, hb⟩
      clear hc hf
      have B2 := Lib.hid (vian HN.out B1.out hb)
      have P2 := Lib.hid (P1.out.below hb)
      clear hb
      cases b
      · go_wp2
        go_roundg (gk - 1)
        exact ⟨3, by omega, by have := TG.out; omega, by simp, by simp [pw], by rw [psum_next l 2 o' _ HO.out HL.out]; congr 1; have : vB false (pw 2) = 0 := rfl; omega, B2.out, P2.out⟩
        case measure => have := TG.out; omega
      · go_wp2
        go_roundg (gk - 1)
        exact ⟨3, by omega, by have := TG.out; omega, by simp, by simp [pw], by rw [psum_next l 2 o' _ HO.out HL.out]; congr 1; have : vB true (pw 2) = 4 := rfl; omega, B2.out, P2.out⟩
        case measure => have := TG.out; omega
    · obtain ⟨o', ho'⟩ : ∃ o', psum l 3 = o' := ⟨_, rfl⟩
      have HO := Lib.hid ho'
      rw [ho'] at ho PB
      obtain ⟨b, hb'⟩ : ∃ b, l 3 = b := ⟨_, rfl⟩
      have HL := Lib.hid hb'
      have M := Lib.hid (hb' ▸ M3.out)
      rw [show pw 3 = 8 from rfl] at hv
      subst hv ho
      clear ho' hb' M0 M1 M2 M3
      obtain ⟨hc, hf⟩ := P1.out.out
      go_wp2_with fail
      with_reducible refine (M.out _).mono ?_
      rintro q_ w2 ⟨rfl, hb⟩
      clear hc hf
      have B2 := Lib.hid (vian HN.out B1.out hb)
      have P2 := Lib.hid (P1.out.below hb)
      clear hb
      cases b
      · go_wp2
        go_roundg (gk - 1)
        exact ⟨4, by omega, by have := TG.out; omega, by simp, by simp [pw], by rw [psum_next l 3 o' _ HO.out HL.out]; congr 1; have : vB false (pw 3) = 0 := rfl; omega, B2.out, P2.out⟩
        case measure => have := TG.out; omega
      · go_wp2
        go_roundg (gk - 1)
        exact ⟨4, by omega, by have := TG.out; omega, by simp, by simp [pw], by rw [psum_next l 3 o' _ HO.out HL.out]; congr 1; have : vB true (pw 3) = 8 := rfl; omega, B2.out, P2.out⟩
        case measure => have := TG.out; omega
    · rw [show pw 4 = 16 from rfl] at hv
      obtain ⟨o', ho'⟩ : ∃ o', psum l 4 = o' := ⟨_, rfl⟩
      have HO := Lib.hid ho'
      rw [ho'] at ho PB
      subst hv ho
      clear ho'
      go_wp2
      go_ret
      exact ⟨by rw [HO.out]; rfl, B1.out⟩
set_option maxHeartbeats 4000000 in
theorem rread_01 (s d : Int) (l : Nat → Bool) (H1 : ∀ W, Calls Try.prog 20 #[.int .u8 s, .int .i64 5] W fun q_ w' => q_ = .returned (.bool false) ∧ W = w') (H2 : ∀ W, Calls Try.prog 20 #[.int .u8 s, .int .i64 4] W fun q_ w' => q_ = .returned (.bool true) ∧ W = w') (L0 : ∀ W, Calls Try.prog 21 #[.agg #[.int .u8 s, .int .u8 d], .int .i64 0] W fun q_ w' => q_ = .returned (.bool (l 0)) ∧ Below W.heap.size W w') (L1 : ∀ W, Calls Try.prog 21 #[.agg #[.int .u8 s, .int .u8 d], .int .i64 1] W fun q_ w' => q_ = .returned (.bool (l 1)) ∧ Below W.heap.size W w') (L2 : ∀ W, Calls Try.prog 21 #[.agg #[.int .u8 s, .int .u8 d], .int .i64 2] W fun q_ w' => q_ = .returned (.bool (l 2)) ∧ Below W.heap.size W w') (L3 : ∀ W, Calls Try.prog 21 #[.agg #[.int .u8 s, .int .u8 d], .int .i64 3] W fun q_ w' => q_ = .returned (.bool (l 3)) ∧ Below W.heap.size W w') (w : World) : Calls Try.prog 14 #[.agg #[.int .u8 s, .int .u8 d]] w fun q_ w' => q_ = .returned (.int .u8 (208 + psum l 4)) ∧ Below w.heap.size w w' := by
  suffices hall : ∀ (n_ : Nat) (W0 : World), n_ ≤ W0.heap.size → Below n_ W0 w → Calls Try.prog 14 #[.agg #[.int .u8 s, .int .u8 d]] w fun q_ w' => q_ = .returned (.int .u8 (208 + psum l 4)) ∧ Below n_ W0 w' from hall _ _ (Nat.le_refl _) (Below.refl _ _)
  intro n_ W0 hn hB
  have HN := Lib.hid hn
  have BB := Lib.hid hB
  clear hn hB
  have K1 := Lib.hid H1
  have K2 := Lib.hid H2
  have M0 := Lib.hid L0
  have M1 := Lib.hid L1
  have M2 := Lib.hid L2
  have M3 := Lib.hid L3
  clear H1 H2 L0 L1 L2 L3
  go_enter Try.func14, Try.ntmps14
  have Q_ := own1 w (.cells #[.int .u8 s, .int .u8 d] 23)
  have B0 := Lib.hid (vian HN.out BB.out Q_)
  have P0 := Lib.hid (show Has (w.alloc (.cells #[.int .u8 s, .int .u8 d] 23)) w.heap.size #[.int .u8 s, .int .u8 d] by simpa using Has.new w #[.int .u8 s, .int .u8 d] 23)
  have LP := Lib.hid (show n_ ≤ w.heap.size + 0 from Nat.le_add_right_of_le (Nat.le_trans HN.out BB.out.size))
  simp only [Nat.add_zero] at LP
  clear Q_
  go_upto_region 1 with (fail)
  generalize (w.alloc (.cells #[.int .u8 s, .int .u8 d] 23)) = u0 at B0 P0 ⊢
  generalize w.heap.size = pb at P0 LP  ⊢
  obtain ⟨hc, hf⟩ := P0.out.out
  go_wp2_with fail
  with_reducible refine (K1.out _).mono ?_
  rintro q_ w' ⟨rfl, rfl⟩
  go_wp2_with fail
  with_reducible refine (K2.out _).mono ?_
  rintro q_ w' ⟨rfl, rfl⟩
  go_wp2_with fail
  clear hc hf
  go_loopg [3, 4, 5] 4 (fun g' o v i wr => ∃ t : Nat, t ≤ 4 ∧ g' + t = 4 ∧ i = .int .i64 t ∧ v = .int .i64 (pw t) ∧ o = .int .i64 (208 + psum l t) ∧ Below n_ W0 wr ∧ Has wr pb #[.int .u8 s, .int .u8 d])
  case atStart => exact ⟨0, by omega, by omega, rfl, rfl, by simp [psum], B0.out, P0.out⟩
  case round =>
    obtain ⟨t, ht, hg, rfl, hv, ho, hB, hP⟩ := hrel
    have TG := Lib.hid hg
    have PB := psum_bd l t ht
    have B1 := Lib.hid hB
    have P1 := Lib.hid hP
    clear hg hB hP B0 P0
    rcases (by omega : t = 0 ∨ t = 1 ∨ t = 2 ∨ t = 3 ∨ t = 4) with rfl | rfl | rfl | rfl | rfl
    · obtain ⟨o', ho'⟩ : ∃ o', psum l 0 = o' := ⟨_, rfl⟩
      have HO := Lib.hid ho'
      rw [ho'] at ho PB
      obtain ⟨b, hb'⟩ : ∃ b, l 0 = b := ⟨_, rfl⟩
      have HL := Lib.hid hb'
      have M := Lib.hid (hb' ▸ M0.out)
      rw [show pw 0 = 1 from rfl] at hv
      subst hv ho
      clear ho' hb' M0 M1 M2 M3
      obtain ⟨hc, hf⟩ := P1.out.out
      go_wp2_with fail
      with_reducible refine (M.out _).mono ?_
      rintro q_ w2 ⟨rfl, hb⟩
      clear hc hf
      have B2 := Lib.hid (vian HN.out B1.out hb)
      have P2 := Lib.hid (P1.out.below hb)
      clear hb
      cases b
      · go_wp2
        go_roundg (gk - 1)
        exact ⟨1, by omega, by have := TG.out; omega, by simp, by simp [pw], by rw [psum_next l 0 o' _ HO.out HL.out]; congr 1; have : vB false (pw 0) = 0 := rfl; omega, B2.out, P2.out⟩
        case measure => have := TG.out; omega
      · go_wp2
        go_roundg (gk - 1)
        exact ⟨1, by omega, by have := TG.out; omega, by simp, by simp [pw], by rw [psum_next l 0 o' _ HO.out HL.out]; congr 1; have : vB true (pw 0) = 1 := rfl; omega, B2.out, P2.out⟩
        case measure => have := TG.out; omega
    · obtain ⟨o', ho'⟩ : ∃ o', psum l 1 = o' := ⟨_, rfl⟩
      have HO := Lib.hid ho'
      rw [ho'] at ho PB
      obtain ⟨b, hb'⟩ : ∃ b, l 1 = b := ⟨_, rfl⟩
      have HL := Lib.hid hb'
      have M := Lib.hid (hb' ▸ M1.out)
      rw [show pw 1 = 2 from rfl] at hv
      subst hv ho
      clear ho' hb' M0 M1 M2 M3
      obtain ⟨hc, hf⟩ := P1.out.out
      go_wp2_with fail
      with_reducible refine (M.out _).mono ?_
      rintro q_ w2 ⟨rfl, hb⟩
      clear hc hf
      have B2 := Lib.hid (vian HN.out B1.out hb)
      have P2 := Lib.hid (P1.out.below hb)
      clear hb
      cases b
      · go_wp2
        go_roundg (gk - 1)
        exact ⟨2, by omega, by have := TG.out; omega, by simp, by simp [pw], by rw [psum_next l 1 o' _ HO.out HL.out]; congr 1; have : vB false (pw 1) = 0 := rfl; omega, B2.out, P2.out⟩
        case measure => have := TG.out; omega
      · go_wp2
        go_roundg (gk - 1)
        exact ⟨2, by omega, by have := TG.out; omega, by simp, by simp [pw], by rw [psum_next l 1 o' _ HO.out HL.out]; congr 1; have : vB true (pw 1) = 2 := rfl; omega, B2.out, P2.out⟩
        case measure => have := TG.out; omega
    · obtain ⟨o', ho'⟩ : ∃ o', psum l 2 = o' := ⟨_, rfl⟩
      have HO := Lib.hid ho'
      rw [ho'] at ho PB
      obtain ⟨b, hb'⟩ : ∃ b, l 2 = b := ⟨_, rfl⟩
      have HL := Lib.hid hb'
      have M := Lib.hid (hb' ▸ M2.out)
      rw [show pw 2 = 4 from rfl] at hv
      subst hv ho
      clear ho' hb' M0 M1 M2 M3
      obtain ⟨hc, hf⟩ := P1.out.out
      go_wp2_with fail
      with_reducible refine (M.out _).mono ?_
      rintro q_ w2 ⟨rfl, hb⟩
      clear hc hf
      have B2 := Lib.hid (vian HN.out B1.out hb)
      have P2 := Lib.hid (P1.out.below hb)
      clear hb
      cases b
      · go_wp2
        go_roundg (gk - 1)
        exact ⟨3, by omega, by have := TG.out; omega, by simp, by simp [pw], by rw [psum_next l 2 o' _ HO.out HL.out]; congr 1; have : vB false (pw 2) = 0 := rfl; omega, B2.out, P2.out⟩
        case measure => have := TG.out; omega
      · go_wp2
        go_roundg (gk - 1)
        exact ⟨3, by omega, by have := TG.out; omega, by simp, by simp [pw], by rw [psum_next l 2 o' _ HO.out HL.out]; congr 1; have : vB true (pw 2) = 4 := rfl; omega, B2.out, P2.out⟩
        case measure => have := TG.out; omega
    · obtain ⟨o', ho'⟩ : ∃ o', psum l 3 = o' := ⟨_, rfl⟩
      have HO := Lib.hid ho'
      rw [ho'] at ho PB
      obtain ⟨b, hb'⟩ : ∃ b, l 3 = b := ⟨_, rfl⟩
      have HL := Lib.hid hb'
      have M := Lib.hid (hb' ▸ M3.out)
      rw [show pw 3 = 8 from rfl] at hv
      subst hv ho
      clear ho' hb' M0 M1 M2 M3
      obtain ⟨hc, hf⟩ := P1.out.out
      go_wp2_with fail
      with_reducible refine (M.out _).mono ?_
      rintro q_ w2 ⟨rfl, hb⟩
      clear hc hf
      have B2 := Lib.hid (vian HN.out B1.out hb)
      have P2 := Lib.hid (P1.out.below hb)
      clear hb
      cases b
      · go_wp2
        go_roundg (gk - 1)
        exact ⟨4, by omega, by have := TG.out; omega, by simp, by simp [pw], by rw [psum_next l 3 o' _ HO.out HL.out]; congr 1; have : vB false (pw 3) = 0 := rfl; omega, B2.out, P2.out⟩
        case measure => have := TG.out; omega
      · go_wp2
        go_roundg (gk - 1)
        exact ⟨4, by omega, by have := TG.out; omega, by simp, by simp [pw], by rw [psum_next l 3 o' _ HO.out HL.out]; congr 1; have : vB true (pw 3) = 8 := rfl; omega, B2.out, P2.out⟩
        case measure => have := TG.out; omega
    · rw [show pw 4 = 16 from rfl] at hv
      obtain ⟨o', ho'⟩ : ∃ o', psum l 4 = o' := ⟨_, rfl⟩
      have HO := Lib.hid ho'
      rw [ho'] at ho PB
      subst hv ho
      clear ho'
      go_wp2
      go_ret
      exact ⟨by rw [HO.out]; rfl, B1.out⟩
set_option maxHeartbeats 4000000 in
theorem rread_10 (s d : Int) (l : Nat → Bool) (H1 : ∀ W, Calls Try.prog 20 #[.int .u8 s, .int .i64 5] W fun q_ w' => q_ = .returned (.bool true) ∧ W = w') (H2 : ∀ W, Calls Try.prog 20 #[.int .u8 s, .int .i64 4] W fun q_ w' => q_ = .returned (.bool false) ∧ W = w') (L0 : ∀ W, Calls Try.prog 21 #[.agg #[.int .u8 s, .int .u8 d], .int .i64 0] W fun q_ w' => q_ = .returned (.bool (l 0)) ∧ Below W.heap.size W w') (L1 : ∀ W, Calls Try.prog 21 #[.agg #[.int .u8 s, .int .u8 d], .int .i64 1] W fun q_ w' => q_ = .returned (.bool (l 1)) ∧ Below W.heap.size W w') (L2 : ∀ W, Calls Try.prog 21 #[.agg #[.int .u8 s, .int .u8 d], .int .i64 2] W fun q_ w' => q_ = .returned (.bool (l 2)) ∧ Below W.heap.size W w') (L3 : ∀ W, Calls Try.prog 21 #[.agg #[.int .u8 s, .int .u8 d], .int .i64 3] W fun q_ w' => q_ = .returned (.bool (l 3)) ∧ Below W.heap.size W w') (w : World) : Calls Try.prog 14 #[.agg #[.int .u8 s, .int .u8 d]] w fun q_ w' => q_ = .returned (.int .u8 (224 + psum l 4)) ∧ Below w.heap.size w w' := by
  suffices hall : ∀ (n_ : Nat) (W0 : World), n_ ≤ W0.heap.size → Below n_ W0 w → Calls Try.prog 14 #[.agg #[.int .u8 s, .int .u8 d]] w fun q_ w' => q_ = .returned (.int .u8 (224 + psum l 4)) ∧ Below n_ W0 w' from hall _ _ (Nat.le_refl _) (Below.refl _ _)
  intro n_ W0 hn hB
  have HN := Lib.hid hn
  have BB := Lib.hid hB
  clear hn hB
  have K1 := Lib.hid H1
  have K2 := Lib.hid H2
  have M0 := Lib.hid L0
  have M1 := Lib.hid L1
  have M2 := Lib.hid L2
  have M3 := Lib.hid L3
  clear H1 H2 L0 L1 L2 L3
  go_enter Try.func14, Try.ntmps14
  have Q_ := own1 w (.cells #[.int .u8 s, .int .u8 d] 23)
  have B0 := Lib.hid (vian HN.out BB.out Q_)
  have P0 := Lib.hid (show Has (w.alloc (.cells #[.int .u8 s, .int .u8 d] 23)) w.heap.size #[.int .u8 s, .int .u8 d] by simpa using Has.new w #[.int .u8 s, .int .u8 d] 23)
  have LP := Lib.hid (show n_ ≤ w.heap.size + 0 from Nat.le_add_right_of_le (Nat.le_trans HN.out BB.out.size))
  simp only [Nat.add_zero] at LP
  clear Q_
  go_upto_region 1 with (fail)
  generalize (w.alloc (.cells #[.int .u8 s, .int .u8 d] 23)) = u0 at B0 P0 ⊢
  generalize w.heap.size = pb at P0 LP  ⊢
  obtain ⟨hc, hf⟩ := P0.out.out
  go_wp2_with fail
  with_reducible refine (K1.out _).mono ?_
  rintro q_ w' ⟨rfl, rfl⟩
  go_wp2_with fail
  with_reducible refine (K2.out _).mono ?_
  rintro q_ w' ⟨rfl, rfl⟩
  go_wp2_with fail
  clear hc hf
  go_loopg [3, 4, 5] 4 (fun g' o v i wr => ∃ t : Nat, t ≤ 4 ∧ g' + t = 4 ∧ i = .int .i64 t ∧ v = .int .i64 (pw t) ∧ o = .int .i64 (224 + psum l t) ∧ Below n_ W0 wr ∧ Has wr pb #[.int .u8 s, .int .u8 d])
  case atStart => exact ⟨0, by omega, by omega, rfl, rfl, by simp [psum], B0.out, P0.out⟩
  case round =>
    obtain ⟨t, ht, hg, rfl, hv, ho, hB, hP⟩ := hrel
    have TG := Lib.hid hg
    have PB := psum_bd l t ht
    have B1 := Lib.hid hB
    have P1 := Lib.hid hP
    clear hg hB hP B0 P0
    rcases (by omega : t = 0 ∨ t = 1 ∨ t = 2 ∨ t = 3 ∨ t = 4) with rfl | rfl | rfl | rfl | rfl
    · obtain ⟨o', ho'⟩ : ∃ o', psum l 0 = o' := ⟨_, rfl⟩
      have HO := Lib.hid ho'
      rw [ho'] at ho PB
      obtain ⟨b, hb'⟩ : ∃ b, l 0 = b := ⟨_, rfl⟩
      have HL := Lib.hid hb'
      have M := Lib.hid (hb' ▸ M0.out)
      rw [show pw 0 = 1 from rfl] at hv
      subst hv ho
      clear ho' hb' M0 M1 M2 M3
      obtain ⟨hc, hf⟩ := P1.out.out
      go_wp2_with fail
      with_reducible refine (M.out _).mono ?_
      rintro q_ w2 ⟨rfl, hb⟩
      clear hc hf
      have B2 := Lib.hid (vian HN.out B1.out hb)
      have P2 := Lib.hid (P1.out.below hb)
      clear hb
      cases b
      · go_wp2
        go_roundg (gk - 1)
        exact ⟨1, by omega, by have := TG.out; omega, by simp, by simp [pw], by rw [psum_next l 0 o' _ HO.out HL.out]; congr 1; have : vB false (pw 0) = 0 := rfl; omega, B2.out, P2.out⟩
        case measure => have := TG.out; omega
      · go_wp2
        go_roundg (gk - 1)
        exact ⟨1, by omega, by have := TG.out; omega, by simp, by simp [pw], by rw [psum_next l 0 o' _ HO.out HL.out]; congr 1; have : vB true (pw 0) = 1 := rfl; omega, B2.out, P2.out⟩
        case measure => have := TG.out; omega
    · obtain ⟨o', ho'⟩ : ∃ o', psum l 1 = o' := ⟨_, rfl⟩
      have HO := Lib.hid ho'
      rw [ho'] at ho PB
      obtain ⟨b, hb'⟩ : ∃ b, l 1 = b := ⟨_, rfl⟩
      have HL := Lib.hid hb'
      have M := Lib.hid (hb' ▸ M1.out)
      rw [show pw 1 = 2 from rfl] at hv
      subst hv ho
      clear ho' hb' M0 M1 M2 M3
      obtain ⟨hc, hf⟩ := P1.out.out
      go_wp2_with fail
      with_reducible refine (M.out _).mono ?_
      rintro q_ w2 ⟨rfl, hb⟩
      clear hc hf
      have B2 := Lib.hid (vian HN.out B1.out hb)
      have P2 := Lib.hid (P1.out.below hb)
      clear hb
      cases b
      · go_wp2
        go_roundg (gk - 1)
        exact ⟨2, by omega, by have := TG.out; omega, by simp, by simp [pw], by rw [psum_next l 1 o' _ HO.out HL.out]; congr 1; have : vB false (pw 1) = 0 := rfl; omega, B2.out, P2.out⟩
        case measure => have := TG.out; omega
      · go_wp2
        go_roundg (gk - 1)
        exact ⟨2, by omega, by have := TG.out; omega, by simp, by simp [pw], by rw [psum_next l 1 o' _ HO.out HL.out]; congr 1; have : vB true (pw 1) = 2 := rfl; omega, B2.out, P2.out⟩
        case measure => have := TG.out; omega
    · obtain ⟨o', ho'⟩ : ∃ o', psum l 2 = o' := ⟨_, rfl⟩
      have HO := Lib.hid ho'
      rw [ho'] at ho PB
      obtain ⟨b, hb'⟩ : ∃ b, l 2 = b := ⟨_, rfl⟩
      have HL := Lib.hid hb'
      have M := Lib.hid (hb' ▸ M2.out)
      rw [show pw 2 = 4 from rfl] at hv
      subst hv ho
      clear ho' hb' M0 M1 M2 M3
      obtain ⟨hc, hf⟩ := P1.out.out
      go_wp2_with fail
      with_reducible refine (M.out _).mono ?_
      rintro q_ w2 ⟨rfl, hb⟩
      clear hc hf
      have B2 := Lib.hid (vian HN.out B1.out hb)
      have P2 := Lib.hid (P1.out.below hb)
      clear hb
      cases b
      · go_wp2
        go_roundg (gk - 1)
        exact ⟨3, by omega, by have := TG.out; omega, by simp, by simp [pw], by rw [psum_next l 2 o' _ HO.out HL.out]; congr 1; have : vB false (pw 2) = 0 := rfl; omega, B2.out, P2.out⟩
        case measure => have := TG.out; omega
      · go_wp2
        go_roundg (gk - 1)
        exact ⟨3, by omega, by have := TG.out; omega, by simp, by simp [pw], by rw [psum_next l 2 o' _ HO.out HL.out]; congr 1; have : vB true (pw 2) = 4 := rfl; omega, B2.out, P2.out⟩
        case measure => have := TG.out; omega
    · obtain ⟨o', ho'⟩ : ∃ o', psum l 3 = o' := ⟨_, rfl⟩
      have HO := Lib.hid ho'
      rw [ho'] at ho PB
      obtain ⟨b, hb'⟩ : ∃ b, l 3 = b := ⟨_, rfl⟩
      have HL := Lib.hid hb'
      have M := Lib.hid (hb' ▸ M3.out)
      rw [show pw 3 = 8 from rfl] at hv
      subst hv ho
      clear ho' hb' M0 M1 M2 M3
      obtain ⟨hc, hf⟩ := P1.out.out
      go_wp2_with fail
      with_reducible refine (M.out _).mono ?_
      rintro q_ w2 ⟨rfl, hb⟩
      clear hc hf
      have B2 := Lib.hid (vian HN.out B1.out hb)
      have P2 := Lib.hid (P1.out.below hb)
      clear hb
      cases b
      · go_wp2
        go_roundg (gk - 1)
        exact ⟨4, by omega, by have := TG.out; omega, by simp, by simp [pw], by rw [psum_next l 3 o' _ HO.out HL.out]; congr 1; have : vB false (pw 3) = 0 := rfl; omega, B2.out, P2.out⟩
        case measure => have := TG.out; omega
      · go_wp2
        go_roundg (gk - 1)
        exact ⟨4, by omega, by have := TG.out; omega, by simp, by simp [pw], by rw [psum_next l 3 o' _ HO.out HL.out]; congr 1; have : vB true (pw 3) = 8 := rfl; omega, B2.out, P2.out⟩
        case measure => have := TG.out; omega
    · rw [show pw 4 = 16 from rfl] at hv
      obtain ⟨o', ho'⟩ : ∃ o', psum l 4 = o' := ⟨_, rfl⟩
      have HO := Lib.hid ho'
      rw [ho'] at ho PB
      subst hv ho
      clear ho'
      go_wp2
      go_ret
      exact ⟨by rw [HO.out]; rfl, B1.out⟩
set_option maxHeartbeats 4000000 in
theorem rread_11 (s d : Int) (l : Nat → Bool) (H1 : ∀ W, Calls Try.prog 20 #[.int .u8 s, .int .i64 5] W fun q_ w' => q_ = .returned (.bool true) ∧ W = w') (H2 : ∀ W, Calls Try.prog 20 #[.int .u8 s, .int .i64 4] W fun q_ w' => q_ = .returned (.bool true) ∧ W = w') (L0 : ∀ W, Calls Try.prog 21 #[.agg #[.int .u8 s, .int .u8 d], .int .i64 0] W fun q_ w' => q_ = .returned (.bool (l 0)) ∧ Below W.heap.size W w') (L1 : ∀ W, Calls Try.prog 21 #[.agg #[.int .u8 s, .int .u8 d], .int .i64 1] W fun q_ w' => q_ = .returned (.bool (l 1)) ∧ Below W.heap.size W w') (L2 : ∀ W, Calls Try.prog 21 #[.agg #[.int .u8 s, .int .u8 d], .int .i64 2] W fun q_ w' => q_ = .returned (.bool (l 2)) ∧ Below W.heap.size W w') (L3 : ∀ W, Calls Try.prog 21 #[.agg #[.int .u8 s, .int .u8 d], .int .i64 3] W fun q_ w' => q_ = .returned (.bool (l 3)) ∧ Below W.heap.size W w') (w : World) : Calls Try.prog 14 #[.agg #[.int .u8 s, .int .u8 d]] w fun q_ w' => q_ = .returned (.int .u8 (240 + psum l 4)) ∧ Below w.heap.size w w' := by
  suffices hall : ∀ (n_ : Nat) (W0 : World), n_ ≤ W0.heap.size → Below n_ W0 w → Calls Try.prog 14 #[.agg #[.int .u8 s, .int .u8 d]] w fun q_ w' => q_ = .returned (.int .u8 (240 + psum l 4)) ∧ Below n_ W0 w' from hall _ _ (Nat.le_refl _) (Below.refl _ _)
  intro n_ W0 hn hB
  have HN := Lib.hid hn
  have BB := Lib.hid hB
  clear hn hB
  have K1 := Lib.hid H1
  have K2 := Lib.hid H2
  have M0 := Lib.hid L0
  have M1 := Lib.hid L1
  have M2 := Lib.hid L2
  have M3 := Lib.hid L3
  clear H1 H2 L0 L1 L2 L3
  go_enter Try.func14, Try.ntmps14
  have Q_ := own1 w (.cells #[.int .u8 s, .int .u8 d] 23)
  have B0 := Lib.hid (vian HN.out BB.out Q_)
  have P0 := Lib.hid (show Has (w.alloc (.cells #[.int .u8 s, .int .u8 d] 23)) w.heap.size #[.int .u8 s, .int .u8 d] by simpa using Has.new w #[.int .u8 s, .int .u8 d] 23)
  have LP := Lib.hid (show n_ ≤ w.heap.size + 0 from Nat.le_add_right_of_le (Nat.le_trans HN.out BB.out.size))
  simp only [Nat.add_zero] at LP
  clear Q_
  go_upto_region 1 with (fail)
  generalize (w.alloc (.cells #[.int .u8 s, .int .u8 d] 23)) = u0 at B0 P0 ⊢
  generalize w.heap.size = pb at P0 LP  ⊢
  obtain ⟨hc, hf⟩ := P0.out.out
  go_wp2_with fail
  with_reducible refine (K1.out _).mono ?_
  rintro q_ w' ⟨rfl, rfl⟩
  go_wp2_with fail
  with_reducible refine (K2.out _).mono ?_
  rintro q_ w' ⟨rfl, rfl⟩
  go_wp2_with fail
  clear hc hf
  go_loopg [3, 4, 5] 4 (fun g' o v i wr => ∃ t : Nat, t ≤ 4 ∧ g' + t = 4 ∧ i = .int .i64 t ∧ v = .int .i64 (pw t) ∧ o = .int .i64 (240 + psum l t) ∧ Below n_ W0 wr ∧ Has wr pb #[.int .u8 s, .int .u8 d])
  case atStart => exact ⟨0, by omega, by omega, rfl, rfl, by simp [psum], B0.out, P0.out⟩
  case round =>
    obtain ⟨t, ht, hg, rfl, hv, ho, hB, hP⟩ := hrel
    have TG := Lib.hid hg
    have PB := psum_bd l t ht
    have B1 := Lib.hid hB
    have P1 := Lib.hid hP
    clear hg hB hP B0 P0
    rcases (by omega : t = 0 ∨ t = 1 ∨ t = 2 ∨ t = 3 ∨ t = 4) with rfl | rfl | rfl | rfl | rfl
    · obtain ⟨o', ho'⟩ : ∃ o', psum l 0 = o' := ⟨_, rfl⟩
      have HO := Lib.hid ho'
      rw [ho'] at ho PB
      obtain ⟨b, hb'⟩ : ∃ b, l 0 = b := ⟨_, rfl⟩
      have HL := Lib.hid hb'
      have M := Lib.hid (hb' ▸ M0.out)
      rw [show pw 0 = 1 from rfl] at hv
      subst hv ho
      clear ho' hb' M0 M1 M2 M3
      obtain ⟨hc, hf⟩ := P1.out.out
      go_wp2_with fail
      with_reducible refine (M.out _).mono ?_
      rintro q_ w2 ⟨rfl, hb⟩
      clear hc hf
      have B2 := Lib.hid (vian HN.out B1.out hb)
      have P2 := Lib.hid (P1.out.below hb)
      clear hb
      cases b
      · go_wp2
        go_roundg (gk - 1)
        exact ⟨1, by omega, by have := TG.out; omega, by simp, by simp [pw], by rw [psum_next l 0 o' _ HO.out HL.out]; congr 1; have : vB false (pw 0) = 0 := rfl; omega, B2.out, P2.out⟩
        case measure => have := TG.out; omega
      · go_wp2
        go_roundg (gk - 1)
        exact ⟨1, by omega, by have := TG.out; omega, by simp, by simp [pw], by rw [psum_next l 0 o' _ HO.out HL.out]; congr 1; have : vB true (pw 0) = 1 := rfl; omega, B2.out, P2.out⟩
        case measure => have := TG.out; omega
    · obtain ⟨o', ho'⟩ : ∃ o', psum l 1 = o' := ⟨_, rfl⟩
      have HO := Lib.hid ho'
      rw [ho'] at ho PB
      obtain ⟨b, hb'⟩ : ∃ b, l 1 = b := ⟨_, rfl⟩
      have HL := Lib.hid hb'
      have M := Lib.hid (hb' ▸ M1.out)
      rw [show pw 1 = 2 from rfl] at hv
      subst hv ho
      clear ho' hb' M0 M1 M2 M3
      obtain ⟨hc, hf⟩ := P1.out.out
      go_wp2_with fail
      with_reducible refine (M.out _).mono ?_
      rintro q_ w2 ⟨rfl, hb⟩
      clear hc hf
      have B2 := Lib.hid (vian HN.out B1.out hb)
      have P2 := Lib.hid (P1.out.below hb)
      clear hb
      cases b
      · go_wp2
        go_roundg (gk - 1)
        exact ⟨2, by omega, by have := TG.out; omega, by simp, by simp [pw], by rw [psum_next l 1 o' _ HO.out HL.out]; congr 1; have : vB false (pw 1) = 0 := rfl; omega, B2.out, P2.out⟩
        case measure => have := TG.out; omega
      · go_wp2
        go_roundg (gk - 1)
        exact ⟨2, by omega, by have := TG.out; omega, by simp, by simp [pw], by rw [psum_next l 1 o' _ HO.out HL.out]; congr 1; have : vB true (pw 1) = 2 := rfl; omega, B2.out, P2.out⟩
        case measure => have := TG.out; omega
    · obtain ⟨o', ho'⟩ : ∃ o', psum l 2 = o' := ⟨_, rfl⟩
      have HO := Lib.hid ho'
      rw [ho'] at ho PB
      obtain ⟨b, hb'⟩ : ∃ b, l 2 = b := ⟨_, rfl⟩
      have HL := Lib.hid hb'
      have M := Lib.hid (hb' ▸ M2.out)
      rw [show pw 2 = 4 from rfl] at hv
      subst hv ho
      clear ho' hb' M0 M1 M2 M3
      obtain ⟨hc, hf⟩ := P1.out.out
      go_wp2_with fail
      with_reducible refine (M.out _).mono ?_
      rintro q_ w2 ⟨rfl, hb⟩
      clear hc hf
      have B2 := Lib.hid (vian HN.out B1.out hb)
      have P2 := Lib.hid (P1.out.below hb)
      clear hb
      cases b
      · go_wp2
        go_roundg (gk - 1)
        exact ⟨3, by omega, by have := TG.out; omega, by simp, by simp [pw], by rw [psum_next l 2 o' _ HO.out HL.out]; congr 1; have : vB false (pw 2) = 0 := rfl; omega, B2.out, P2.out⟩
        case measure => have := TG.out; omega
      · go_wp2
        go_roundg (gk - 1)
        exact ⟨3, by omega, by have := TG.out; omega, by simp, by simp [pw], by rw [psum_next l 2 o' _ HO.out HL.out]; congr 1; have : vB true (pw 2) = 4 := rfl; omega, B2.out, P2.out⟩
        case measure => have := TG.out; omega
    · obtain ⟨o', ho'⟩ : ∃ o', psum l 3 = o' := ⟨_, rfl⟩
      have HO := Lib.hid ho'
      rw [ho'] at ho PB
      obtain ⟨b, hb'⟩ : ∃ b, l 3 = b := ⟨_, rfl⟩
      have HL := Lib.hid hb'
      have M := Lib.hid (hb' ▸ M3.out)
      rw [show pw 3 = 8 from rfl] at hv
      subst hv ho
      clear ho' hb' M0 M1 M2 M3
      obtain ⟨hc, hf⟩ := P1.out.out
      go_wp2_with fail
      with_reducible refine (M.out _).mono ?_
      rintro q_ w2 ⟨rfl, hb⟩
      clear hc hf
      have B2 := Lib.hid (vian HN.out B1.out hb)
      have P2 := Lib.hid (P1.out.below hb)
      clear hb
      cases b
      · go_wp2
        go_roundg (gk - 1)
        exact ⟨4, by omega, by have := TG.out; omega, by simp, by simp [pw], by rw [psum_next l 3 o' _ HO.out HL.out]; congr 1; have : vB false (pw 3) = 0 := rfl; omega, B2.out, P2.out⟩
        case measure => have := TG.out; omega
      · go_wp2
        go_roundg (gk - 1)
        exact ⟨4, by omega, by have := TG.out; omega, by simp, by simp [pw], by rw [psum_next l 3 o' _ HO.out HL.out]; congr 1; have : vB true (pw 3) = 8 := rfl; omega, B2.out, P2.out⟩
        case measure => have := TG.out; omega
    · rw [show pw 4 = 16 from rfl] at hv
      obtain ⟨o', ho'⟩ : ∃ o', psum l 4 = o' := ⟨_, rfl⟩
      have HO := Lib.hid ho'
      rw [ho'] at ho PB
      subst hv ho
      clear ho'
      go_wp2
      go_ret
      exact ⟨by rw [HO.out]; rfl, B1.out⟩
theorem rread_c (s d : Int) (hs : 0 ≤ s) (hs2 : s < 256) (hd : 0 ≤ d) (hd2 : d < 256) (w : World) : Calls Try.prog 14 #[.agg #[.int .u8 s, .int .u8 d]] w fun q_ w' => q_ = .returned (.int .u8 (rdV s d)) ∧ Below w.heap.size w w' := by
  have e := sel_bits s
  have e2 := psum4 s d
  cases h5 : bt s 32 <;> cases h4 : bt s 16
  · have f : rdV s d = 192 + psum (lnk s d) 4 := by rw [h5, h4, show vB false 32 = 0 from rfl, show vB false 16 = 0 from rfl] at e; unfold rdV; omega
    rw [f]
    exact rread_00 s d (lnk s d) (fun W => h5 ▸ bit_5 s hs hs2 W) (fun W => h4 ▸ bit_4 s hs hs2 W) (line_0 s d hs hs2 hd hd2) (line_1 s d hs hs2 hd hd2) (line_2 s d hs hs2 hd hd2) (line_3 s d hs hs2 hd hd2) w
  · have f : rdV s d = 208 + psum (lnk s d) 4 := by rw [h5, h4, show vB false 32 = 0 from rfl, show vB true 16 = 16 from rfl] at e; unfold rdV; omega
    rw [f]
    exact rread_01 s d (lnk s d) (fun W => h5 ▸ bit_5 s hs hs2 W) (fun W => h4 ▸ bit_4 s hs hs2 W) (line_0 s d hs hs2 hd hd2) (line_1 s d hs hs2 hd hd2) (line_2 s d hs hs2 hd hd2) (line_3 s d hs hs2 hd hd2) w
  · have f : rdV s d = 224 + psum (lnk s d) 4 := by rw [h5, h4, show vB true 32 = 32 from rfl, show vB false 16 = 0 from rfl] at e; unfold rdV; omega
    rw [f]
    exact rread_10 s d (lnk s d) (fun W => h5 ▸ bit_5 s hs hs2 W) (fun W => h4 ▸ bit_4 s hs hs2 W) (line_0 s d hs hs2 hd hd2) (line_1 s d hs hs2 hd hd2) (line_2 s d hs hs2 hd hd2) (line_3 s d hs hs2 hd hd2) w
  · have f : rdV s d = 240 + psum (lnk s d) 4 := by rw [h5, h4, show vB true 32 = 32 from rfl, show vB true 16 = 16 from rfl] at e; unfold rdV; omega
    rw [f]
    exact rread_11 s d (lnk s d) (fun W => h5 ▸ bit_5 s hs hs2 W) (fun W => h4 ▸ bit_4 s hs hs2 W) (line_0 s d hs hs2 hd hd2) (line_1 s d hs hs2 hd hd2) (line_2 s d hs hs2 hd hd2) (line_3 s d hs hs2 hd hd2) w
def anyB (l m : Nat → Bool) : Nat → Bool
  | 0 => false
  | t + 1 => anyB l m t || (l t && !m t)
theorem any_fl (s d x y : Int) : anyB (lnk s d) (lnk x y) 4 = flB s d x y := by
  show ((((false || (lnk s d 0 && !lnk x y 0)) || (lnk s d 1 && !lnk x y 1)) || (lnk s d 2 && !lnk x y 2)) || (lnk s d 3 && !lnk x y 3)) = flB s d x y
  rw [Bool.false_or]; rfl
theorem any_up (l m : Nat → Bool) (t : Nat) (h : anyB l m t = true) : ∀ k, anyB l m (t + k) = true
  | 0 => h
  | k + 1 => by show (anyB l m (t + k) || _) = true; rw [any_up l m t h k]; rfl
set_option maxHeartbeats 4000000 in
theorem rfalls_f (s d x y : Int) (l m : Nat → Bool) (L0 : ∀ W, Calls Try.prog 21 #[.agg #[.int .u8 s, .int .u8 d], .int .i64 0] W fun q_ w' => q_ = .returned (.bool (l 0)) ∧ Below W.heap.size W w') (R0 : ∀ W, Calls Try.prog 21 #[.agg #[.int .u8 x, .int .u8 y], .int .i64 0] W fun q_ w' => q_ = .returned (.bool (m 0)) ∧ Below W.heap.size W w') (L1 : ∀ W, Calls Try.prog 21 #[.agg #[.int .u8 s, .int .u8 d], .int .i64 1] W fun q_ w' => q_ = .returned (.bool (l 1)) ∧ Below W.heap.size W w') (R1 : ∀ W, Calls Try.prog 21 #[.agg #[.int .u8 x, .int .u8 y], .int .i64 1] W fun q_ w' => q_ = .returned (.bool (m 1)) ∧ Below W.heap.size W w') (L2 : ∀ W, Calls Try.prog 21 #[.agg #[.int .u8 s, .int .u8 d], .int .i64 2] W fun q_ w' => q_ = .returned (.bool (l 2)) ∧ Below W.heap.size W w') (R2 : ∀ W, Calls Try.prog 21 #[.agg #[.int .u8 x, .int .u8 y], .int .i64 2] W fun q_ w' => q_ = .returned (.bool (m 2)) ∧ Below W.heap.size W w') (L3 : ∀ W, Calls Try.prog 21 #[.agg #[.int .u8 s, .int .u8 d], .int .i64 3] W fun q_ w' => q_ = .returned (.bool (l 3)) ∧ Below W.heap.size W w') (R3 : ∀ W, Calls Try.prog 21 #[.agg #[.int .u8 x, .int .u8 y], .int .i64 3] W fun q_ w' => q_ = .returned (.bool (m 3)) ∧ Below W.heap.size W w') (w : World) : Calls Try.prog 15 #[.agg #[.int .u8 s, .int .u8 d], .agg #[.int .u8 x, .int .u8 y]] w fun q_ w' => q_ = .returned (.bool (anyB l m 4)) ∧ Below w.heap.size w w' := by
  suffices hall : ∀ (n_ : Nat) (W0 : World), n_ ≤ W0.heap.size → Below n_ W0 w → Calls Try.prog 15 #[.agg #[.int .u8 s, .int .u8 d], .agg #[.int .u8 x, .int .u8 y]] w fun q_ w' => q_ = .returned (.bool (anyB l m 4)) ∧ Below n_ W0 w' from hall _ _ (Nat.le_refl _) (Below.refl _ _)
  intro n_ W0 hn hB
  have HN := Lib.hid hn
  have BB := Lib.hid hB
  clear hn hB
  have M0 := Lib.hid L0
  have M1 := Lib.hid L1
  have M2 := Lib.hid L2
  have M3 := Lib.hid L3
  have N0 := Lib.hid R0
  have N1 := Lib.hid R1
  have N2 := Lib.hid R2
  have N3 := Lib.hid R3
  clear L0 L1 L2 L3 R0 R1 R2 R3
  go_enter Try.func15, Try.ntmps15
  have Q_ := own2 w (.cells #[.int .u8 s, .int .u8 d] 23) (.cells #[.int .u8 x, .int .u8 y] 23)
  have B0 := Lib.hid (vian HN.out BB.out Q_)
  have P0 := Lib.hid (show Has ((w.alloc (.cells #[.int .u8 s, .int .u8 d] 23)).alloc (.cells #[.int .u8 x, .int .u8 y] 23)) w.heap.size #[.int .u8 s, .int .u8 d] by simpa using (Has.new w #[.int .u8 s, .int .u8 d] 23).alloc (.cells #[.int .u8 x, .int .u8 y] 23))
  have LP := Lib.hid (show n_ ≤ w.heap.size + 0 from Nat.le_add_right_of_le (Nat.le_trans HN.out BB.out.size))
  have R0 := Lib.hid (show Has ((w.alloc (.cells #[.int .u8 s, .int .u8 d] 23)).alloc (.cells #[.int .u8 x, .int .u8 y] 23)) (w.heap.size + 1) #[.int .u8 x, .int .u8 y] by simpa using Has.new (w.alloc (.cells #[.int .u8 s, .int .u8 d] 23)) #[.int .u8 x, .int .u8 y] 23)
  have LR := Lib.hid (show n_ ≤ (w.heap.size + 1) from Nat.le_add_right_of_le (Nat.le_trans HN.out BB.out.size))
  have NPR := Lib.hid (show w.heap.size + 0 ≠ w.heap.size + 1 by omega)
  simp only [Nat.add_zero] at LP NPR
  clear Q_
  go_upto_region 1 with (fail)
  generalize ((w.alloc (.cells #[.int .u8 s, .int .u8 d] 23)).alloc (.cells #[.int .u8 x, .int .u8 y] 23)) = u0 at B0 P0 R0 ⊢
  generalize w.heap.size + 1 = rb at R0 LR NPR ⊢
  generalize w.heap.size = pb at P0 LP NPR ⊢
  go_wp2
  go_loopg [5] 4 (fun g' i wr => ∃ t : Nat, t ≤ 4 ∧ g' + t = 4 ∧ i = .int .i64 t ∧ anyB l m t = false ∧ Below n_ W0 wr ∧ Has wr pb #[.int .u8 s, .int .u8 d] ∧ Has wr rb #[.int .u8 x, .int .u8 y])
  case atStart => exact ⟨0, by omega, by omega, rfl, rfl, B0.out, P0.out, R0.out⟩
  case round =>
    obtain ⟨t, ht, hg, rfl, hA, hB, hP, hR⟩ := hrel
    have TG := Lib.hid hg
    have HA := Lib.hid hA
    have B1 := Lib.hid hB
    have P1 := Lib.hid hP
    have R1 := Lib.hid hR
    clear hg hB hP hR hA B0 P0 R0
    rcases (by omega : t = 0 ∨ t = 1 ∨ t = 2 ∨ t = 3 ∨ t = 4) with rfl | rfl | rfl | rfl | rfl
    · obtain ⟨b, hb'⟩ : ∃ b, l 0 = b := ⟨_, rfl⟩
      obtain ⟨c, hc'⟩ : ∃ c, m 0 = c := ⟨_, rfl⟩
      have HL := Lib.hid hb'
      have HM := Lib.hid hc'
      have M := Lib.hid (hb' ▸ M0.out)
      have N := Lib.hid (hc' ▸ N0.out)
      clear hb' hc' M0 M1 M2 M3 N0 N1 N2 N3
      obtain ⟨hc, hf⟩ := P1.out.out
      go_wp2_with fail
      with_reducible refine (M.out _).mono ?_
      rintro q_ w2 ⟨rfl, hb⟩
      clear hc hf
      have B2 := Lib.hid (vian HN.out B1.out hb)
      have P2 := Lib.hid (P1.out.below hb)
      have R2 := Lib.hid (R1.out.below hb)
      clear hb
      cases b
      · go_wp2
        go_roundg (gk - 1)
        exact ⟨1, by omega, by have := TG.out; omega, by simp, by show (anyB l m 0 || _) = false; rw [HA.out, HL.out]; rfl, B2.out, P2.out, R2.out⟩
        case measure => have := TG.out; omega
      · obtain ⟨hc, hf⟩ := R2.out.out
        go_wp2_with fail
        with_reducible refine (N.out _).mono ?_
        rintro q_ w3 ⟨rfl, hb⟩
        clear hc hf
        have B3 := Lib.hid (vian HN.out B2.out hb)
        have P3 := Lib.hid (P2.out.below hb)
        have R3 := Lib.hid (R2.out.below hb)
        clear hb
        cases c
        · go_wp2
          go_ret
          exact ⟨by rw [any_up l m 1 (by show (anyB l m 0 || _) = true; rw [HL.out, HM.out]; exact Bool.or_true _) 3]; rfl, B3.out⟩
        · go_wp2
          go_roundg (gk - 1)
          exact ⟨1, by omega, by have := TG.out; omega, by simp, by show (anyB l m 0 || _) = false; rw [HA.out, HL.out, HM.out]; rfl, B3.out, P3.out, R3.out⟩
          case measure => have := TG.out; omega
    · obtain ⟨b, hb'⟩ : ∃ b, l 1 = b := ⟨_, rfl⟩
      obtain ⟨c, hc'⟩ : ∃ c, m 1 = c := ⟨_, rfl⟩
      have HL := Lib.hid hb'
      have HM := Lib.hid hc'
      have M := Lib.hid (hb' ▸ M1.out)
      have N := Lib.hid (hc' ▸ N1.out)
      clear hb' hc' M0 M1 M2 M3 N0 N1 N2 N3
      obtain ⟨hc, hf⟩ := P1.out.out
      go_wp2_with fail
      with_reducible refine (M.out _).mono ?_
      rintro q_ w2 ⟨rfl, hb⟩
      clear hc hf
      have B2 := Lib.hid (vian HN.out B1.out hb)
      have P2 := Lib.hid (P1.out.below hb)
      have R2 := Lib.hid (R1.out.below hb)
      clear hb
      cases b
      · go_wp2
        go_roundg (gk - 1)
        exact ⟨2, by omega, by have := TG.out; omega, by simp, by show (anyB l m 1 || _) = false; rw [HA.out, HL.out]; rfl, B2.out, P2.out, R2.out⟩
        case measure => have := TG.out; omega
      · obtain ⟨hc, hf⟩ := R2.out.out
        go_wp2_with fail
        with_reducible refine (N.out _).mono ?_
        rintro q_ w3 ⟨rfl, hb⟩
        clear hc hf
        have B3 := Lib.hid (vian HN.out B2.out hb)
        have P3 := Lib.hid (P2.out.below hb)
        have R3 := Lib.hid (R2.out.below hb)
        clear hb
        cases c
        · go_wp2
          go_ret
          exact ⟨by rw [any_up l m 2 (by show (anyB l m 1 || _) = true; rw [HL.out, HM.out]; exact Bool.or_true _) 2]; rfl, B3.out⟩
        · go_wp2
          go_roundg (gk - 1)
          exact ⟨2, by omega, by have := TG.out; omega, by simp, by show (anyB l m 1 || _) = false; rw [HA.out, HL.out, HM.out]; rfl, B3.out, P3.out, R3.out⟩
          case measure => have := TG.out; omega
    · obtain ⟨b, hb'⟩ : ∃ b, l 2 = b := ⟨_, rfl⟩
      obtain ⟨c, hc'⟩ : ∃ c, m 2 = c := ⟨_, rfl⟩
      have HL := Lib.hid hb'
      have HM := Lib.hid hc'
      have M := Lib.hid (hb' ▸ M2.out)
      have N := Lib.hid (hc' ▸ N2.out)
      clear hb' hc' M0 M1 M2 M3 N0 N1 N2 N3
      obtain ⟨hc, hf⟩ := P1.out.out
      go_wp2_with fail
      with_reducible refine (M.out _).mono ?_
      rintro q_ w2 ⟨rfl, hb⟩
      clear hc hf
      have B2 := Lib.hid (vian HN.out B1.out hb)
      have P2 := Lib.hid (P1.out.below hb)
      have R2 := Lib.hid (R1.out.below hb)
      clear hb
      cases b
      · go_wp2
        go_roundg (gk - 1)
        exact ⟨3, by omega, by have := TG.out; omega, by simp, by show (anyB l m 2 || _) = false; rw [HA.out, HL.out]; rfl, B2.out, P2.out, R2.out⟩
        case measure => have := TG.out; omega
      · obtain ⟨hc, hf⟩ := R2.out.out
        go_wp2_with fail
        with_reducible refine (N.out _).mono ?_
        rintro q_ w3 ⟨rfl, hb⟩
        clear hc hf
        have B3 := Lib.hid (vian HN.out B2.out hb)
        have P3 := Lib.hid (P2.out.below hb)
        have R3 := Lib.hid (R2.out.below hb)
        clear hb
        cases c
        · go_wp2
          go_ret
          exact ⟨by rw [any_up l m 3 (by show (anyB l m 2 || _) = true; rw [HL.out, HM.out]; exact Bool.or_true _) 1]; rfl, B3.out⟩
        · go_wp2
          go_roundg (gk - 1)
          exact ⟨3, by omega, by have := TG.out; omega, by simp, by show (anyB l m 2 || _) = false; rw [HA.out, HL.out, HM.out]; rfl, B3.out, P3.out, R3.out⟩
          case measure => have := TG.out; omega
    · obtain ⟨b, hb'⟩ : ∃ b, l 3 = b := ⟨_, rfl⟩
      obtain ⟨c, hc'⟩ : ∃ c, m 3 = c := ⟨_, rfl⟩
      have HL := Lib.hid hb'
      have HM := Lib.hid hc'
      have M := Lib.hid (hb' ▸ M3.out)
      have N := Lib.hid (hc' ▸ N3.out)
      clear hb' hc' M0 M1 M2 M3 N0 N1 N2 N3
      obtain ⟨hc, hf⟩ := P1.out.out
      go_wp2_with fail
      with_reducible refine (M.out _).mono ?_
      rintro q_ w2 ⟨rfl, hb⟩
      clear hc hf
      have B2 := Lib.hid (vian HN.out B1.out hb)
      have P2 := Lib.hid (P1.out.below hb)
      have R2 := Lib.hid (R1.out.below hb)
      clear hb
      cases b
      · go_wp2
        go_roundg (gk - 1)
        exact ⟨4, by omega, by have := TG.out; omega, by simp, by show (anyB l m 3 || _) = false; rw [HA.out, HL.out]; rfl, B2.out, P2.out, R2.out⟩
        case measure => have := TG.out; omega
      · obtain ⟨hc, hf⟩ := R2.out.out
        go_wp2_with fail
        with_reducible refine (N.out _).mono ?_
        rintro q_ w3 ⟨rfl, hb⟩
        clear hc hf
        have B3 := Lib.hid (vian HN.out B2.out hb)
        have P3 := Lib.hid (P2.out.below hb)
        have R3 := Lib.hid (R2.out.below hb)
        clear hb
        cases c
        · go_wp2
          go_ret
          exact ⟨by rw [any_up l m 4 (by show (anyB l m 3 || _) = true; rw [HL.out, HM.out]; exact Bool.or_true _) 0]; rfl, B3.out⟩
        · go_wp2
          go_roundg (gk - 1)
          exact ⟨4, by omega, by have := TG.out; omega, by simp, by show (anyB l m 3 || _) = false; rw [HA.out, HL.out, HM.out]; rfl, B3.out, P3.out, R3.out⟩
          case measure => have := TG.out; omega
    · go_wp2
      go_ret
      exact ⟨by rw [HA.out]; rfl, B1.out⟩
theorem rfalls_c (s d : Int) (hs : 0 ≤ s) (hs2 : s < 256) (hd : 0 ≤ d) (hd2 : d < 256) (x y : Int) (hx : 0 ≤ x) (hx2 : x < 256) (hy : 0 ≤ y) (hy2 : y < 256) (w : World) : Calls Try.prog 15 #[.agg #[.int .u8 s, .int .u8 d], .agg #[.int .u8 x, .int .u8 y]] w fun q_ w' => q_ = .returned (.bool (flB s d x y)) ∧ Below w.heap.size w w' := by
  rw [← any_fl]
  exact rfalls_f s d x y (lnk s d) (lnk x y) (line_0 s d hs hs2 hd hd2) (line_0 x y hx hx2 hy hy2) (line_1 s d hs hs2 hd hd2) (line_1 x y hx hx2 hy hy2) (line_2 s d hs hs2 hd hd2) (line_2 x y hx hx2 hy hy2) (line_3 s d hs hs2 hd hd2) (line_3 x y hx hx2 hy hy2) w
set_option maxHeartbeats 1000000 in
theorem rwrite_c (s d x : Int) (hx : 0 ≤ x) (hx2 : x < 256) (w : World) : Calls Try.prog 12 #[.agg #[.int .u8 s, .int .u8 d], .int .u8 x] w fun q_ w' => q_ = .returned (.agg #[.int .u8 (selV x), .int .u8 d]) ∧ Below w.heap.size w w' := by
  have q1 : x / 16 % 4 * 16 = selV x := rfl
  have sb := sel_bd x
  go_enter Try.func12, Try.ntmps12
  go_wp2
  all_goals exact bodyPost_ret (v := .agg #[.int .u8 (selV x), .int .u8 d]) (by simp [results, Try.results12, go_sem]) rfl ⟨rfl, by first | exact Below.refl _ _ | exact own1 _ _ | exact own2 _ _ _ | exact own3 _ _ _ _ | exact own4 _ _ _ _ _ | exact below_drewN (Below.refl _ _) _⟩
end Go.Proofs.Ytbpfeppgonhclaa
