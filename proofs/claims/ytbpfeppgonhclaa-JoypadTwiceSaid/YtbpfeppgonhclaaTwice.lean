/-
  The walk through JoypadTwice: for every joypad and bytes; no condition but that each number is a byte.
-/
import Derived.Test.YtbpfeppgonhclaaAwk
import Derived.Deep.Cut
import Derived.Laws.StructEq
namespace Go.Proofs.Ytbpfeppgonhclaa
open Go.ChangeShapes Go.WideShapes Go.ChangeAt Go.RowKit
set_option linter.unusedVariables false
set_option linter.unusedSimpArgs false
set_option maxRecDepth 100000
set_option maxHeartbeats 2000000 in
theorem twice_walk (s d x y : Int) (hs : 0 ≤ s) (hs2 : s < 256) (hd : 0 ≤ d) (hd2 : d < 256) (hx : 0 ≤ x) (hx2 : x < 256) (hy : 0 ≤ y) (hy2 : y < 256) (w : World) : Calls Try.prog 8 #[.agg #[.int .u8 s, .int .u8 d], .int .u8 x, .int .u8 y] w fun q_ w' => q_ = .returned (.bool true) ∧ Below w.heap.size w w' := by
  suffices hall : ∀ (n_ : Nat) (W0 : World), n_ ≤ W0.heap.size → Below n_ W0 w → Calls Try.prog 8 #[.agg #[.int .u8 s, .int .u8 d], .int .u8 x, .int .u8 y] w fun q_ w' => q_ = .returned (.bool true) ∧ Below n_ W0 w' from hall _ _ (Nat.le_refl _) (Below.refl _ _)
  intro n_ W0 hn hB
  have HN := Lib.hid hn
  have BB := Lib.hid hB
  clear hn hB
  have AW := Lib.hid awake_c
  have hnot : ∀ (x : Bool) (w : World), (Op.unary .not (.bool x)).run Try.prog w = .ok (.bool (!x)) w := fun _ _ => rfl
  have sb := sel_bd y
  have f1 : flB s x s x = false := fl_self s x
  have f2 : flB (selV y) d y d = false := by rw [← fl_selV]; exact fl_self _ _
  have f3 : flB s x s 0 = false := fl_none s x
  have z1 := rd_and s 0
  rw [ln_zero] at z1
  have K1 := Lib.hid (fun W => press_c s d hs hs2 hd hd2 x hx hx2 W)
  have K2 := Lib.hid (fun W => press_c s x hs hs2 hx hx2 x hx hx2 W)
  have K3 := Lib.hid (fun W => write_c s d hs hs2 hd hd2 y hy hy2 W)
  have K4 := Lib.hid (fun W => write_c (selV y) d sb.1 (by omega) hd hd2 y hy hy2 W)
  have K5 := Lib.hid (fun W => press_c s x hs hs2 hx hx2 0 (by decide) (by decide) W)
  have K6 := Lib.hid (fun W => read_c s 0 hs hs2 (by decide) (by decide) W)
  rw [f1] at K2
  rw [f2] at K4
  rw [f3] at K5
  obtain ⟨k, hk⟩ : ∃ k, selV y = k := ⟨_, rfl⟩
  obtain ⟨g1, hg1⟩ : ∃ g, flB s d s x = g := ⟨_, rfl⟩
  obtain ⟨g2, hg2⟩ : ∃ g, flB s d y d = g := ⟨_, rfl⟩
  obtain ⟨r, hr⟩ : ∃ r, rdV s 0 = r := ⟨_, rfl⟩
  rw [hg1] at K1
  rw [hg2, hk] at K3
  rw [hk] at K4
  rw [hr] at K6 z1
  clear f1 f2 f3 sb hk hg1 hg2 hr
  go_enter Try.func8, Try.ntmps8
  have Q_ := own1 w (.cells #[.int .u8 s, .int .u8 d] 23)
  have B0 := Lib.hid (vian HN.out BB.out Q_)
  have V0 := Lib.hid (show Has (w.alloc (.cells #[.int .u8 s, .int .u8 d] 23)) w.heap.size #[.int .u8 s, .int .u8 d] by simpa using Has.new w #[.int .u8 s, .int .u8 d] 23)
  have LV := Lib.hid (show n_ ≤ w.heap.size + 0 from Nat.le_add_right_of_le (Nat.le_trans HN.out BB.out.size))
  simp only [Nat.add_zero] at LV
  clear Q_
  go_upto_region 1 with (fail)
  generalize (w.alloc (.cells #[.int .u8 s, .int .u8 d] 23)) = w0 at B0 V0 ⊢
  generalize w.heap.size = vb at V0 LV  ⊢
  go_wp2_with fail
  with_reducible refine (AW.out _).mono ?_
  rintro q_ w1 ⟨rfl, hb⟩
  have B1 := Lib.hid (vian HN.out B0.out hb)
  have V1 := Lib.hid (V0.out.below hb)
  clear hb B0 V0
  obtain ⟨hcV1, hfV1⟩ := V1.out.out
  have Q_ := own1 w1 (.cells #[.int .u8 s, .int .u8 d] 26)
  have B2 := Lib.hid (vian HN.out B1.out Q_)
  have V2 := Lib.hid (V1.out.below Q_)
  have P2 := Lib.hid (Has.new w1 #[.int .u8 s, .int .u8 d] 26)
  have LP := Lib.hid (show n_ ≤ w1.heap.size from Nat.le_trans HN.out B1.out.size)
  clear Q_
  go_upto_region 4 with (fail)
  generalize w1.alloc (.cells #[.int .u8 s, .int .u8 d] 26) = w2 at B2 V2 P2 ⊢
  generalize w1.heap.size = pb at P2 LP ⊢
  clear B1 V1
  clear hcV1 hfV1
  obtain ⟨hc0, hf0⟩ := P2.out.out
  go_wp2_with fail
  with_reducible refine (K1.out _).mono ?_
  rintro q_ w3 ⟨rfl, hb⟩
  clear hc0 hf0
  have B3 := Lib.hid (vian HN.out B2.out hb)
  have P3 := Lib.hid (P2.out.below hb)
  clear hb B2 P2
  have Q_ := own1 w3 (.cells #[.int .u8 s, .int .u8 x] 26)
  have B4 := Lib.hid (vian HN.out B3.out Q_)
  have P4 := Lib.hid (P3.out.below Q_)
  have A4 := Lib.hid (Has.new w3 #[.int .u8 s, .int .u8 x] 26)
  have LA := Lib.hid (show n_ ≤ w3.heap.size from Nat.le_trans HN.out B3.out.size)
  clear Q_
  go_upto_region 5 with (fail)
  generalize w3.alloc (.cells #[.int .u8 s, .int .u8 x] 26) = w4 at B4 P4 A4 ⊢
  generalize w3.heap.size = ab at A4 LA ⊢
  clear B3 P3
  obtain ⟨hc0, hf0⟩ := A4.out.out
  go_wp2_with fail
  with_reducible refine (K2.out _).mono ?_
  rintro q_ w5 ⟨rfl, hb⟩
  clear hc0 hf0
  have B5 := Lib.hid (vian HN.out B4.out hb)
  have P5 := Lib.hid (P4.out.below hb)
  have A5 := Lib.hid (A4.out.below hb)
  clear hb B4 P4 A4
  have Q_ := own1 w5 (.cells #[.int .u8 s, .int .u8 x] 26)
  have B6 := Lib.hid (vian HN.out B5.out Q_)
  have P6 := Lib.hid (P5.out.below Q_)
  have A6 := Lib.hid (A5.out.below Q_)
  have Z6 := Lib.hid (Has.new w5 #[.int .u8 s, .int .u8 x] 26)
  have LZ := Lib.hid (show n_ ≤ w5.heap.size from Nat.le_trans HN.out B5.out.size)
  clear Q_
  go_upto_region 6 with (fail)
  generalize w5.alloc (.cells #[.int .u8 s, .int .u8 x] 26) = w6 at B6 P6 A6 Z6 ⊢
  generalize w5.heap.size = zb at Z6 LZ ⊢
  clear B5 P5 A5
  obtain ⟨hc0, hf0⟩ := P6.out.out
  go_wp2_with fail
  with_reducible refine (K3.out _).mono ?_
  rintro q_ w7 ⟨rfl, hb⟩
  clear hc0 hf0
  have B7 := Lib.hid (vian HN.out B6.out hb)
  have P7 := Lib.hid (P6.out.below hb)
  have A7 := Lib.hid (A6.out.below hb)
  have Z7 := Lib.hid (Z6.out.below hb)
  clear hb B6 P6 A6 Z6
  have Q_ := own1 w7 (.cells #[.int .u8 k, .int .u8 d] 26)
  have B8 := Lib.hid (vian HN.out B7.out Q_)
  have P8 := Lib.hid (P7.out.below Q_)
  have A8 := Lib.hid (A7.out.below Q_)
  have Z8 := Lib.hid (Z7.out.below Q_)
  have D8 := Lib.hid (Has.new w7 #[.int .u8 k, .int .u8 d] 26)
  have LD := Lib.hid (show n_ ≤ w7.heap.size from Nat.le_trans HN.out B7.out.size)
  clear Q_
  go_upto_region 7 with (fail)
  generalize w7.alloc (.cells #[.int .u8 k, .int .u8 d] 26) = w8 at B8 P8 A8 Z8 D8 ⊢
  generalize w7.heap.size = cb at D8 LD ⊢
  clear B7 P7 A7 Z7
  obtain ⟨hc0, hf0⟩ := D8.out.out
  go_wp2_with fail
  with_reducible refine (K4.out _).mono ?_
  rintro q_ w9 ⟨rfl, hb⟩
  clear hc0 hf0
  have B9 := Lib.hid (vian HN.out B8.out hb)
  have P9 := Lib.hid (P8.out.below hb)
  have A9 := Lib.hid (A8.out.below hb)
  have Z9 := Lib.hid (Z8.out.below hb)
  have D9 := Lib.hid (D8.out.below hb)
  clear hb B8 P8 A8 Z8 D8
  have Q_ := own1 w9 (.cells #[.int .u8 k, .int .u8 d] 26)
  have B10 := Lib.hid (vian HN.out B9.out Q_)
  have P10 := Lib.hid (P9.out.below Q_)
  have A10 := Lib.hid (A9.out.below Q_)
  have Z10 := Lib.hid (Z9.out.below Q_)
  have D10 := Lib.hid (D9.out.below Q_)
  have E10 := Lib.hid (Has.new w9 #[.int .u8 k, .int .u8 d] 26)
  have LE := Lib.hid (show n_ ≤ w9.heap.size from Nat.le_trans HN.out B9.out.size)
  clear Q_
  go_upto_region 8 with (fail)
  generalize w9.alloc (.cells #[.int .u8 k, .int .u8 d] 26) = w10 at B10 P10 A10 Z10 D10 E10 ⊢
  generalize w9.heap.size = db at E10 LE ⊢
  clear B9 P9 A9 Z9 D9
  obtain ⟨hc0, hf0⟩ := A10.out.out
  go_wp2_with fail
  with_reducible refine (K5.out _).mono ?_
  rintro q_ w11 ⟨rfl, hb⟩
  clear hc0 hf0
  have B11 := Lib.hid (vian HN.out B10.out hb)
  have P11 := Lib.hid (P10.out.below hb)
  have A11 := Lib.hid (A10.out.below hb)
  have Z11 := Lib.hid (Z10.out.below hb)
  have D11 := Lib.hid (D10.out.below hb)
  have E11 := Lib.hid (E10.out.below hb)
  clear hb B10 P10 A10 Z10 D10 E10
  have Q_ := own1 w11 (.cells #[.int .u8 s, .int .u8 0] 26)
  have B12 := Lib.hid (vian HN.out B11.out Q_)
  have P12 := Lib.hid (P11.out.below Q_)
  have A12 := Lib.hid (A11.out.below Q_)
  have Z12 := Lib.hid (Z11.out.below Q_)
  have D12 := Lib.hid (D11.out.below Q_)
  have E12 := Lib.hid (E11.out.below Q_)
  have F12 := Lib.hid (Has.new w11 #[.int .u8 s, .int .u8 0] 26)
  have LF := Lib.hid (show n_ ≤ w11.heap.size from Nat.le_trans HN.out B11.out.size)
  clear Q_
  go_upto_region 9 with (fail)
  generalize w11.alloc (.cells #[.int .u8 s, .int .u8 0] 26) = w12 at B12 P12 A12 Z12 D12 E12 F12 ⊢
  generalize w11.heap.size = eb at F12 LF ⊢
  clear B11 P11 A11 Z11 D11 E11
  obtain ⟨hc0, hf0⟩ := P12.out.out
  obtain ⟨hc1, hf1⟩ := A12.out.out
  obtain ⟨hc2, hf2⟩ := Z12.out.out
  obtain ⟨hc3, hf3⟩ := D12.out.out
  obtain ⟨hc4, hf4⟩ := E12.out.out
  obtain ⟨hc5, hf5⟩ := F12.out.out
  go_wp2_with fail
  with_reducible refine (K6.out _).mono ?_
  rintro q_ w13 ⟨rfl, hb⟩
  clear hc0 hf0 hc1 hf1 hc2 hf2 hc3 hf3 hc4 hf4 hc5 hf5
  have B13 := Lib.hid (vian HN.out B12.out hb)
  have P13 := Lib.hid (P12.out.below hb)
  have A13 := Lib.hid (A12.out.below hb)
  have Z13 := Lib.hid (Z12.out.below hb)
  have D13 := Lib.hid (D12.out.below hb)
  have E13 := Lib.hid (E12.out.below hb)
  have F13 := Lib.hid (F12.out.below hb)
  clear hb B12 P12 A12 Z12 D12 E12 F12
  obtain ⟨hcP13, hfP13⟩ := P13.out.out
  obtain ⟨hcA13, hfA13⟩ := A13.out.out
  obtain ⟨hcZ13, hfZ13⟩ := Z13.out.out
  obtain ⟨hcD13, hfD13⟩ := D13.out.out
  obtain ⟨hcE13, hfE13⟩ := E13.out.out
  obtain ⟨hcF13, hfF13⟩ := F13.out.out
  go_wp2
  go_ret
  exact ⟨rfl, B13.out⟩
end Go.Proofs.Ytbpfeppgonhclaa
