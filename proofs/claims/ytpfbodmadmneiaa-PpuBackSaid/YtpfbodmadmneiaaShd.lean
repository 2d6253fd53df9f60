/-
  A dot's shade, as the program and the document tell it: for every look, dot and colour.
-/
import Derived.Test.YtpfbodmadmneiaaUpm
import Derived.Deep.Cut
import Derived.BigQuiet
import Derived.WalkSmall
namespace Go.Proofs.Ytpfbodmadmneiaa
open Go.ChangeShapes Go.WideShapes Go.ChangeAt Go.RowKit
set_option linter.unusedVariables false
set_option linter.unusedSimpArgs false
set_option maxRecDepth 100000
set_option maxHeartbeats 2000000 in
theorem dshade_z0 (c bk fi se : Int) (c0 : 0 ≤ c) (c1 : c < 256) (bk0 : 0 ≤ bk) (bk1 : bk < 256) (fi0 : 0 ≤ fi) (fi1 : fi < 256) (se0 : 0 ≤ se) (se1 : se < 256) (cl hw u : Int) (cl0 : 0 ≤ cl) (cl1 : cl < 256) (hw0 : 0 ≤ hw) (hw1 : hw < 256) (u0 : 0 ≤ u) (u1 : u < 256) (h7 : bit hw 7 = 0) (hc : cl = 0) (w : World) : Calls Try.prog 72 #[.agg #[.int .u8 c, .int .u8 bk, .int .u8 fi, .int .u8 se], .agg #[.int .u8 cl, .int .u8 hw], .int .u8 u] w fun q_ w' => q_ = .returned (.int .u8 (shadeV bk u)) ∧ Below w.heap.size w w' := by
  suffices hall : ∀ (n_ : Nat) (W0 : World), n_ ≤ W0.heap.size → Below n_ W0 w → Calls Try.prog 72 #[.agg #[.int .u8 c, .int .u8 bk, .int .u8 fi, .int .u8 se], .agg #[.int .u8 cl, .int .u8 hw], .int .u8 u] w fun q_ w' => q_ = .returned (.int .u8 (shadeV bk u)) ∧ Below n_ W0 w' from hall _ _ (Nat.le_refl _) (Below.refl _ _)
  intro n_ W0 hn hB
  have HN := Lib.hid hn
  have BB := Lib.hid hB
  clear hn hB
  have ea := an7 hw hw0 hw1
  have eb := an4 hw hw0 hw1
  have ec := an3k u u0 u1
  rw [h7] at ea
  rw [show (128 : Int) * 0 = 0 by decide] at ea
  clear eb
  have dc : (cl == 0) = true := by simp; exact hc
  have SH := Lib.hid (fun W => shade_c bk u bk0 bk1 u0 u1 W)
  generalize shadeV bk u = zz at SH ⊢
  clear h7
  have HC := Lib.hid hc
  clear hc
  go_enter Try.func72, Try.ntmps72
  have Q_ := own2 w (.cells #[.int .u8 c, .int .u8 bk, .int .u8 fi, .int .u8 se] 81) (.cells #[.int .u8 cl, .int .u8 hw] 94)
  have B0 := Lib.hid (vian HN.out BB.out Q_)
  have P0 := Lib.hid (show Has ((w.alloc (.cells #[.int .u8 c, .int .u8 bk, .int .u8 fi, .int .u8 se] 81)).alloc (.cells #[.int .u8 cl, .int .u8 hw] 94)) w.heap.size #[.int .u8 c, .int .u8 bk, .int .u8 fi, .int .u8 se] by simpa using (Has.new w #[.int .u8 c, .int .u8 bk, .int .u8 fi, .int .u8 se] 81).alloc (.cells #[.int .u8 cl, .int .u8 hw] 94))
  have LP := Lib.hid (show n_ ≤ w.heap.size + 0 from Nat.le_add_right_of_le (Nat.le_trans HN.out BB.out.size))
  have Q0 := Lib.hid (show Has ((w.alloc (.cells #[.int .u8 c, .int .u8 bk, .int .u8 fi, .int .u8 se] 81)).alloc (.cells #[.int .u8 cl, .int .u8 hw] 94)) (w.heap.size + 1) #[.int .u8 cl, .int .u8 hw] by simpa using Has.new (w.alloc (.cells #[.int .u8 c, .int .u8 bk, .int .u8 fi, .int .u8 se] 81)) #[.int .u8 cl, .int .u8 hw] 94)
  have LQ := Lib.hid (show n_ ≤ (w.heap.size + 1) from Nat.le_add_right_of_le (Nat.le_trans HN.out BB.out.size))
  have NPQ := Lib.hid (show w.heap.size + 0 ≠ w.heap.size + 1 by omega)
  simp only [Nat.add_zero] at LP NPQ
  clear Q_
  go_upto_region 1 with (fail)
  generalize ((w.alloc (.cells #[.int .u8 c, .int .u8 bk, .int .u8 fi, .int .u8 se] 81)).alloc (.cells #[.int .u8 cl, .int .u8 hw] 94)) = u0 at B0 P0 Q0 ⊢
  generalize w.heap.size + 1 = qb at Q0 LQ NPQ ⊢
  generalize w.heap.size = pb at P0 LP NPQ ⊢
  obtain ⟨hc0, hf0⟩ := P0.out.out
  obtain ⟨hc1, hf1⟩ := Q0.out.out
  go_wp2_with (fail)
  clear hc0 hf0 hc1 hf1
  with_reducible refine (SH.out _).mono ?_
  rintro q_ w' ⟨rfl, rfl⟩
  obtain ⟨hc0, hf0⟩ := P0.out.out
  obtain ⟨hc1, hf1⟩ := Q0.out.out
  go_wp2_with (fail)
  clear hc0 hf0 hc1 hf1
  go_ret
  exact ⟨rfl, B0.out⟩
set_option maxHeartbeats 2000000 in
theorem dshade_f0 (c bk fi se : Int) (c0 : 0 ≤ c) (c1 : c < 256) (bk0 : 0 ≤ bk) (bk1 : bk < 256) (fi0 : 0 ≤ fi) (fi1 : fi < 256) (se0 : 0 ≤ se) (se1 : se < 256) (cl hw u : Int) (cl0 : 0 ≤ cl) (cl1 : cl < 256) (hw0 : 0 ≤ hw) (hw1 : hw < 256) (u0 : 0 ≤ u) (u1 : u < 256) (h7 : bit hw 7 = 0) (hc : ¬ cl = 0) (h4 : bit hw 4 = 0) (w : World) : Calls Try.prog 72 #[.agg #[.int .u8 c, .int .u8 bk, .int .u8 fi, .int .u8 se], .agg #[.int .u8 cl, .int .u8 hw], .int .u8 u] w fun q_ w' => q_ = .returned (.int .u8 (shadeV fi cl)) ∧ Below w.heap.size w w' := by
  suffices hall : ∀ (n_ : Nat) (W0 : World), n_ ≤ W0.heap.size → Below n_ W0 w → Calls Try.prog 72 #[.agg #[.int .u8 c, .int .u8 bk, .int .u8 fi, .int .u8 se], .agg #[.int .u8 cl, .int .u8 hw], .int .u8 u] w fun q_ w' => q_ = .returned (.int .u8 (shadeV fi cl)) ∧ Below n_ W0 w' from hall _ _ (Nat.le_refl _) (Below.refl _ _)
  intro n_ W0 hn hB
  have HN := Lib.hid hn
  have BB := Lib.hid hB
  clear hn hB
  have ea := an7 hw hw0 hw1
  have eb := an4 hw hw0 hw1
  have ec := an3k u u0 u1
  rw [h7] at ea
  rw [show (128 : Int) * 0 = 0 by decide] at ea
  rw [h4] at eb
  rw [show (16 : Int) * 0 = 0 by decide] at eb
  have dc : (cl == 0) = false := by simp; exact hc
  have SH := Lib.hid (fun W => shade_c fi cl fi0 fi1 cl0 cl1 W)
  generalize shadeV fi cl = zz at SH ⊢
  clear h7 h4
  go_enter Try.func72, Try.ntmps72
  have Q_ := own2 w (.cells #[.int .u8 c, .int .u8 bk, .int .u8 fi, .int .u8 se] 81) (.cells #[.int .u8 cl, .int .u8 hw] 94)
  have B0 := Lib.hid (vian HN.out BB.out Q_)
  have P0 := Lib.hid (show Has ((w.alloc (.cells #[.int .u8 c, .int .u8 bk, .int .u8 fi, .int .u8 se] 81)).alloc (.cells #[.int .u8 cl, .int .u8 hw] 94)) w.heap.size #[.int .u8 c, .int .u8 bk, .int .u8 fi, .int .u8 se] by simpa using (Has.new w #[.int .u8 c, .int .u8 bk, .int .u8 fi, .int .u8 se] 81).alloc (.cells #[.int .u8 cl, .int .u8 hw] 94))
  have LP := Lib.hid (show n_ ≤ w.heap.size + 0 from Nat.le_add_right_of_le (Nat.le_trans HN.out BB.out.size))
  have Q0 := Lib.hid (show Has ((w.alloc (.cells #[.int .u8 c, .int .u8 bk, .int .u8 fi, .int .u8 se] 81)).alloc (.cells #[.int .u8 cl, .int .u8 hw] 94)) (w.heap.size + 1) #[.int .u8 cl, .int .u8 hw] by simpa using Has.new (w.alloc (.cells #[.int .u8 c, .int .u8 bk, .int .u8 fi, .int .u8 se] 81)) #[.int .u8 cl, .int .u8 hw] 94)
  have LQ := Lib.hid (show n_ ≤ (w.heap.size + 1) from Nat.le_add_right_of_le (Nat.le_trans HN.out BB.out.size))
  have NPQ := Lib.hid (show w.heap.size + 0 ≠ w.heap.size + 1 by omega)
  simp only [Nat.add_zero] at LP NPQ
  clear Q_
  go_upto_region 1 with (fail)
  generalize ((w.alloc (.cells #[.int .u8 c, .int .u8 bk, .int .u8 fi, .int .u8 se] 81)).alloc (.cells #[.int .u8 cl, .int .u8 hw] 94)) = u0 at B0 P0 Q0 ⊢
  generalize w.heap.size + 1 = qb at Q0 LQ NPQ ⊢
  generalize w.heap.size = pb at P0 LP NPQ ⊢
  obtain ⟨hc0, hf0⟩ := P0.out.out
  obtain ⟨hc1, hf1⟩ := Q0.out.out
  go_wp2_with (fail)
  clear hc0 hf0 hc1 hf1
  with_reducible refine (SH.out _).mono ?_
  rintro q_ w' ⟨rfl, rfl⟩
  obtain ⟨hc0, hf0⟩ := P0.out.out
  obtain ⟨hc1, hf1⟩ := Q0.out.out
  go_wp2_with (fail)
  clear hc0 hf0 hc1 hf1
  go_ret
  exact ⟨rfl, B0.out⟩
set_option maxHeartbeats 2000000 in
theorem dshade_s0 (c bk fi se : Int) (c0 : 0 ≤ c) (c1 : c < 256) (bk0 : 0 ≤ bk) (bk1 : bk < 256) (fi0 : 0 ≤ fi) (fi1 : fi < 256) (se0 : 0 ≤ se) (se1 : se < 256) (cl hw u : Int) (cl0 : 0 ≤ cl) (cl1 : cl < 256) (hw0 : 0 ≤ hw) (hw1 : hw < 256) (u0 : 0 ≤ u) (u1 : u < 256) (h7 : bit hw 7 = 0) (hc : ¬ cl = 0) (h4 : bit hw 4 = 1) (w : World) : Calls Try.prog 72 #[.agg #[.int .u8 c, .int .u8 bk, .int .u8 fi, .int .u8 se], .agg #[.int .u8 cl, .int .u8 hw], .int .u8 u] w fun q_ w' => q_ = .returned (.int .u8 (shadeV se cl)) ∧ Below w.heap.size w w' := by
  suffices hall : ∀ (n_ : Nat) (W0 : World), n_ ≤ W0.heap.size → Below n_ W0 w → Calls Try.prog 72 #[.agg #[.int .u8 c, .int .u8 bk, .int .u8 fi, .int .u8 se], .agg #[.int .u8 cl, .int .u8 hw], .int .u8 u] w fun q_ w' => q_ = .returned (.int .u8 (shadeV se cl)) ∧ Below n_ W0 w' from hall _ _ (Nat.le_refl _) (Below.refl _ _)
  intro n_ W0 hn hB
  have HN := Lib.hid hn
  have BB := Lib.hid hB
  clear hn hB
  have ea := an7 hw hw0 hw1
  have eb := an4 hw hw0 hw1
  have ec := an3k u u0 u1
  rw [h7] at ea
  rw [show (128 : Int) * 0 = 0 by decide] at ea
  rw [h4] at eb
  rw [show (16 : Int) * 1 = 16 by decide] at eb
  have dc : (cl == 0) = false := by simp; exact hc
  have SH := Lib.hid (fun W => shade_c se cl se0 se1 cl0 cl1 W)
  generalize shadeV se cl = zz at SH ⊢
  clear h7 h4
  go_enter Try.func72, Try.ntmps72
  have Q_ := own2 w (.cells #[.int .u8 c, .int .u8 bk, .int .u8 fi, .int .u8 se] 81) (.cells #[.int .u8 cl, .int .u8 hw] 94)
  have B0 := Lib.hid (vian HN.out BB.out Q_)
  have P0 := Lib.hid (show Has ((w.alloc (.cells #[.int .u8 c, .int .u8 bk, .int .u8 fi, .int .u8 se] 81)).alloc (.cells #[.int .u8 cl, .int .u8 hw] 94)) w.heap.size #[.int .u8 c, .int .u8 bk, .int .u8 fi, .int .u8 se] by simpa using (Has.new w #[.int .u8 c, .int .u8 bk, .int .u8 fi, .int .u8 se] 81).alloc (.cells #[.int .u8 cl, .int .u8 hw] 94))
  have LP := Lib.hid (show n_ ≤ w.heap.size + 0 from Nat.le_add_right_of_le (Nat.le_trans HN.out BB.out.size))
  have Q0 := Lib.hid (show Has ((w.alloc (.cells #[.int .u8 c, .int .u8 bk, .int .u8 fi, .int .u8 se] 81)).alloc (.cells #[.int .u8 cl, .int .u8 hw] 94)) (w.heap.size + 1) #[.int .u8 cl, .int .u8 hw] by simpa using Has.new (w.alloc (.cells #[.int .u8 c, .int .u8 bk, .int .u8 fi, .int .u8 se] 81)) #[.int .u8 cl, .int .u8 hw] 94)
  have LQ := Lib.hid (show n_ ≤ (w.heap.size + 1) from Nat.le_add_right_of_le (Nat.le_trans HN.out BB.out.size))
  have NPQ := Lib.hid (show w.heap.size + 0 ≠ w.heap.size + 1 by omega)
  simp only [Nat.add_zero] at LP NPQ
  clear Q_
  go_upto_region 1 with (fail)
  generalize ((w.alloc (.cells #[.int .u8 c, .int .u8 bk, .int .u8 fi, .int .u8 se] 81)).alloc (.cells #[.int .u8 cl, .int .u8 hw] 94)) = u0 at B0 P0 Q0 ⊢
  generalize w.heap.size + 1 = qb at Q0 LQ NPQ ⊢
  generalize w.heap.size = pb at P0 LP NPQ ⊢
  obtain ⟨hc0, hf0⟩ := P0.out.out
  obtain ⟨hc1, hf1⟩ := Q0.out.out
  go_wp2_with (fail)
  clear hc0 hf0 hc1 hf1
  with_reducible refine (SH.out _).mono ?_
  rintro q_ w' ⟨rfl, rfl⟩
  obtain ⟨hc0, hf0⟩ := P0.out.out
  obtain ⟨hc1, hf1⟩ := Q0.out.out
  go_wp2_with (fail)
  clear hc0 hf0 hc1 hf1
  go_ret
  exact ⟨rfl, B0.out⟩
set_option maxHeartbeats 2000000 in
theorem dshade_z10 (c bk fi se : Int) (c0 : 0 ≤ c) (c1 : c < 256) (bk0 : 0 ≤ bk) (bk1 : bk < 256) (fi0 : 0 ≤ fi) (fi1 : fi < 256) (se0 : 0 ≤ se) (se1 : se < 256) (cl hw u : Int) (cl0 : 0 ≤ cl) (cl1 : cl < 256) (hw0 : 0 ≤ hw) (hw1 : hw < 256) (u0 : 0 ≤ u) (u1 : u < 256) (h7 : bit hw 7 = 1) (h3 : u % 4 = 0) (hc : cl = 0) (w : World) : Calls Try.prog 72 #[.agg #[.int .u8 c, .int .u8 bk, .int .u8 fi, .int .u8 se], .agg #[.int .u8 cl, .int .u8 hw], .int .u8 u] w fun q_ w' => q_ = .returned (.int .u8 (shadeV bk u)) ∧ Below w.heap.size w w' := by
  suffices hall : ∀ (n_ : Nat) (W0 : World), n_ ≤ W0.heap.size → Below n_ W0 w → Calls Try.prog 72 #[.agg #[.int .u8 c, .int .u8 bk, .int .u8 fi, .int .u8 se], .agg #[.int .u8 cl, .int .u8 hw], .int .u8 u] w fun q_ w' => q_ = .returned (.int .u8 (shadeV bk u)) ∧ Below n_ W0 w' from hall _ _ (Nat.le_refl _) (Below.refl _ _)
  intro n_ W0 hn hB
  have HN := Lib.hid hn
  have BB := Lib.hid hB
  clear hn hB
  have ea := an7 hw hw0 hw1
  have eb := an4 hw hw0 hw1
  have ec := an3k u u0 u1
  rw [h7] at ea
  rw [show (128 : Int) * 1 = 128 by decide] at ea
  clear eb
  rw [h3] at ec
  have dc : (cl == 0) = true := by simp; exact hc
  have SH := Lib.hid (fun W => shade_c bk u bk0 bk1 u0 u1 W)
  generalize shadeV bk u = zz at SH ⊢
  clear h7 h3
  have HC := Lib.hid hc
  clear hc
  go_enter Try.func72, Try.ntmps72
  have Q_ := own2 w (.cells #[.int .u8 c, .int .u8 bk, .int .u8 fi, .int .u8 se] 81) (.cells #[.int .u8 cl, .int .u8 hw] 94)
  have B0 := Lib.hid (vian HN.out BB.out Q_)
  have P0 := Lib.hid (show Has ((w.alloc (.cells #[.int .u8 c, .int .u8 bk, .int .u8 fi, .int .u8 se] 81)).alloc (.cells #[.int .u8 cl, .int .u8 hw] 94)) w.heap.size #[.int .u8 c, .int .u8 bk, .int .u8 fi, .int .u8 se] by simpa using (Has.new w #[.int .u8 c, .int .u8 bk, .int .u8 fi, .int .u8 se] 81).alloc (.cells #[.int .u8 cl, .int .u8 hw] 94))
  have LP := Lib.hid (show n_ ≤ w.heap.size + 0 from Nat.le_add_right_of_le (Nat.le_trans HN.out BB.out.size))
  have Q0 := Lib.hid (show Has ((w.alloc (.cells #[.int .u8 c, .int .u8 bk, .int .u8 fi, .int .u8 se] 81)).alloc (.cells #[.int .u8 cl, .int .u8 hw] 94)) (w.heap.size + 1) #[.int .u8 cl, .int .u8 hw] by simpa using Has.new (w.alloc (.cells #[.int .u8 c, .int .u8 bk, .int .u8 fi, .int .u8 se] 81)) #[.int .u8 cl, .int .u8 hw] 94)
  have LQ := Lib.hid (show n_ ≤ (w.heap.size + 1) from Nat.le_add_right_of_le (Nat.le_trans HN.out BB.out.size))
  have NPQ := Lib.hid (show w.heap.size + 0 ≠ w.heap.size + 1 by omega)
  simp only [Nat.add_zero] at LP NPQ
  clear Q_
  go_upto_region 1 with (fail)
  generalize ((w.alloc (.cells #[.int .u8 c, .int .u8 bk, .int .u8 fi, .int .u8 se] 81)).alloc (.cells #[.int .u8 cl, .int .u8 hw] 94)) = u0 at B0 P0 Q0 ⊢
  generalize w.heap.size + 1 = qb at Q0 LQ NPQ ⊢
  generalize w.heap.size = pb at P0 LP NPQ ⊢
  obtain ⟨hc0, hf0⟩ := P0.out.out
  obtain ⟨hc1, hf1⟩ := Q0.out.out
  go_wp2_with (fail)
  clear hc0 hf0 hc1 hf1
  with_reducible refine (SH.out _).mono ?_
  rintro q_ w' ⟨rfl, rfl⟩
  obtain ⟨hc0, hf0⟩ := P0.out.out
  obtain ⟨hc1, hf1⟩ := Q0.out.out
  go_wp2_with (fail)
  clear hc0 hf0 hc1 hf1
  go_ret
  exact ⟨rfl, B0.out⟩
set_option maxHeartbeats 2000000 in
theorem dshade_f10 (c bk fi se : Int) (c0 : 0 ≤ c) (c1 : c < 256) (bk0 : 0 ≤ bk) (bk1 : bk < 256) (fi0 : 0 ≤ fi) (fi1 : fi < 256) (se0 : 0 ≤ se) (se1 : se < 256) (cl hw u : Int) (cl0 : 0 ≤ cl) (cl1 : cl < 256) (hw0 : 0 ≤ hw) (hw1 : hw < 256) (u0 : 0 ≤ u) (u1 : u < 256) (h7 : bit hw 7 = 1) (h3 : u % 4 = 0) (hc : ¬ cl = 0) (h4 : bit hw 4 = 0) (w : World) : Calls Try.prog 72 #[.agg #[.int .u8 c, .int .u8 bk, .int .u8 fi, .int .u8 se], .agg #[.int .u8 cl, .int .u8 hw], .int .u8 u] w fun q_ w' => q_ = .returned (.int .u8 (shadeV fi cl)) ∧ Below w.heap.size w w' := by
  suffices hall : ∀ (n_ : Nat) (W0 : World), n_ ≤ W0.heap.size → Below n_ W0 w → Calls Try.prog 72 #[.agg #[.int .u8 c, .int .u8 bk, .int .u8 fi, .int .u8 se], .agg #[.int .u8 cl, .int .u8 hw], .int .u8 u] w fun q_ w' => q_ = .returned (.int .u8 (shadeV fi cl)) ∧ Below n_ W0 w' from hall _ _ (Nat.le_refl _) (Below.refl _ _)
  intro n_ W0 hn hB
  have HN := Lib.hid hn
  have BB := Lib.hid hB
  clear hn hB
  have ea := an7 hw hw0 hw1
  have eb := an4 hw hw0 hw1
  have ec := an3k u u0 u1
  rw [h7] at ea
  rw [show (128 : Int) * 1 = 128 by decide] at ea
  rw [h4] at eb
  rw [show (16 : Int) * 0 = 0 by decide] at eb
  rw [h3] at ec
  have dc : (cl == 0) = false := by simp; exact hc
  have SH := Lib.hid (fun W => shade_c fi cl fi0 fi1 cl0 cl1 W)
  generalize shadeV fi cl = zz at SH ⊢
  clear h7 h4 h3
  go_enter Try.func72, Try.ntmps72
  have Q_ := own2 w (.cells #[.int .u8 c, .int .u8 bk, .int .u8 fi, .int .u8 se] 81) (.cells #[.int .u8 cl, .int .u8 hw] 94)
  have B0 := Lib.hid (vian HN.out BB.out Q_)
  have P0 := Lib.hid (show Has ((w.alloc (.cells #[.int .u8 c, .int .u8 bk, .int .u8 fi, .int .u8 se] 81)).alloc (.cells #[.int .u8 cl, .int .u8 hw] 94)) w.heap.size #[.int .u8 c, .int .u8 bk, .int .u8 fi, .int .u8 se] by simpa using (Has.new w #[.int .u8 c, .int .u8 bk, .int .u8 fi, .int .u8 se] 81).alloc (.cells #[.int .u8 cl, .int .u8 hw] 94))
  have LP := Lib.hid (show n_ ≤ w.heap.size + 0 from Nat.le_add_right_of_le (Nat.le_trans HN.out BB.out.size))
  have Q0 := Lib.hid (show Has ((w.alloc (.cells #[.int .u8 c, .int .u8 bk, .int .u8 fi, .int .u8 se] 81)).alloc (.cells #[.int .u8 cl, .int .u8 hw] 94)) (w.heap.size + 1) #[.int .u8 cl, .int .u8 hw] by simpa using Has.new (w.alloc (.cells #[.int .u8 c, .int .u8 bk, .int .u8 fi, .int .u8 se] 81)) #[.int .u8 cl, .int .u8 hw] 94)
  have LQ := Lib.hid (show n_ ≤ (w.heap.size + 1) from Nat.le_add_right_of_le (Nat.le_trans HN.out BB.out.size))
  have NPQ := Lib.hid (show w.heap.size + 0 ≠ w.heap.size + 1 by omega)
  simp only [Nat.add_zero] at LP NPQ
  clear Q_
  go_upto_region 1 with (fail)
  generalize ((w.alloc (.cells #[.int .u8 c, .int .u8 bk, .int .u8 fi, .int .u8 se] 81)).alloc (.cells #[.int .u8 cl, .int .u8 hw] 94)) = u0 at B0 P0 Q0 ⊢
  generalize w.heap.size + 1 = qb at Q0 LQ NPQ ⊢
  generalize w.heap.size = pb at P0 LP NPQ ⊢
  obtain ⟨hc0, hf0⟩ := P0.out.out
  obtain ⟨hc1, hf1⟩ := Q0.out.out
  go_wp2_with (fail)
  clear hc0 hf0 hc1 hf1
  with_reducible refine (SH.out _).mono ?_
  rintro q_ w' ⟨rfl, rfl⟩
  obtain ⟨hc0, hf0⟩ := P0.out.out
  obtain ⟨hc1, hf1⟩ := Q0.out.out
  go_wp2_with (fail)
  clear hc0 hf0 hc1 hf1
  go_ret
  exact ⟨rfl, B0.out⟩
set_option maxHeartbeats 2000000 in
theorem dshade_s10 (c bk fi se : Int) (c0 : 0 ≤ c) (c1 : c < 256) (bk0 : 0 ≤ bk) (bk1 : bk < 256) (fi0 : 0 ≤ fi) (fi1 : fi < 256) (se0 : 0 ≤ se) (se1 : se < 256) (cl hw u : Int) (cl0 : 0 ≤ cl) (cl1 : cl < 256) (hw0 : 0 ≤ hw) (hw1 : hw < 256) (u0 : 0 ≤ u) (u1 : u < 256) (h7 : bit hw 7 = 1) (h3 : u % 4 = 0) (hc : ¬ cl = 0) (h4 : bit hw 4 = 1) (w : World) : Calls Try.prog 72 #[.agg #[.int .u8 c, .int .u8 bk, .int .u8 fi, .int .u8 se], .agg #[.int .u8 cl, .int .u8 hw], .int .u8 u] w fun q_ w' => q_ = .returned (.int .u8 (shadeV se cl)) ∧ Below w.heap.size w w' := by
  suffices hall : ∀ (n_ : Nat) (W0 : World), n_ ≤ W0.heap.size → Below n_ W0 w → Calls Try.prog 72 #[.agg #[.int .u8 c, .int .u8 bk, .int .u8 fi, .int .u8 se], .agg #[.int .u8 cl, .int .u8 hw], .int .u8 u] w fun q_ w' => q_ = .returned (.int .u8 (shadeV se cl)) ∧ Below n_ W0 w' from hall _ _ (Nat.le_refl _) (Below.refl _ _)
  intro n_ W0 hn hB
  have HN := Lib.hid hn
  have BB := Lib.hid hB
  clear hn hB
  have ea := an7 hw hw0 hw1
  have eb := an4 hw hw0 hw1
  have ec := an3k u u0 u1
  rw [h7] at ea
  rw [show (128 : Int) * 1 = 128 by decide] at ea
  rw [h4] at eb
  rw [show (16 : Int) * 1 = 16 by decide] at eb
  rw [h3] at ec
  have dc : (cl == 0) = false := by simp; exact hc
  have SH := Lib.hid (fun W => shade_c se cl se0 se1 cl0 cl1 W)
  generalize shadeV se cl = zz at SH ⊢
  clear h7 h4 h3
  go_enter Try.func72, Try.ntmps72
  have Q_ := own2 w (.cells #[.int .u8 c, .int .u8 bk, .int .u8 fi, .int .u8 se] 81) (.cells #[.int .u8 cl, .int .u8 hw] 94)
  have B0 := Lib.hid (vian HN.out BB.out Q_)
  have P0 := Lib.hid (show Has ((w.alloc (.cells #[.int .u8 c, .int .u8 bk, .int .u8 fi, .int .u8 se] 81)).alloc (.cells #[.int .u8 cl, .int .u8 hw] 94)) w.heap.size #[.int .u8 c, .int .u8 bk, .int .u8 fi, .int .u8 se] by simpa using (Has.new w #[.int .u8 c, .int .u8 bk, .int .u8 fi, .int .u8 se] 81).alloc (.cells #[.int .u8 cl, .int .u8 hw] 94))
  have LP := Lib.hid (show n_ ≤ w.heap.size + 0 from Nat.le_add_right_of_le (Nat.le_trans HN.out BB.out.size))
  have Q0 := Lib.hid (show Has ((w.alloc (.cells #[.int .u8 c, .int .u8 bk, .int .u8 fi, .int .u8 se] 81)).alloc (.cells #[.int .u8 cl, .int .u8 hw] 94)) (w.heap.size + 1) #[.int .u8 cl, .int .u8 hw] by simpa using Has.new (w.alloc (.cells #[.int .u8 c, .int .u8 bk, .int .u8 fi, .int .u8 se] 81)) #[.int .u8 cl, .int .u8 hw] 94)
  have LQ := Lib.hid (show n_ ≤ (w.heap.size + 1) from Nat.le_add_right_of_le (Nat.le_trans HN.out BB.out.size))
  have NPQ := Lib.hid (show w.heap.size + 0 ≠ w.heap.size + 1 by omega)
  simp only [Nat.add_zero] at LP NPQ
  clear Q_
  go_upto_region 1 with (fail)
  generalize ((w.alloc (.cells #[.int .u8 c, .int .u8 bk, .int .u8 fi, .int .u8 se] 81)).alloc (.cells #[.int .u8 cl, .int .u8 hw] 94)) = u0 at B0 P0 Q0 ⊢
  generalize w.heap.size + 1 = qb at Q0 LQ NPQ ⊢
  generalize w.heap.size = pb at P0 LP NPQ ⊢
  obtain ⟨hc0, hf0⟩ := P0.out.out
  obtain ⟨hc1, hf1⟩ := Q0.out.out
  go_wp2_with (fail)
  clear hc0 hf0 hc1 hf1
  with_reducible refine (SH.out _).mono ?_
  rintro q_ w' ⟨rfl, rfl⟩
  obtain ⟨hc0, hf0⟩ := P0.out.out
  obtain ⟨hc1, hf1⟩ := Q0.out.out
  go_wp2_with (fail)
  clear hc0 hf0 hc1 hf1
  go_ret
  exact ⟨rfl, B0.out⟩
set_option maxHeartbeats 2000000 in
theorem dshade_z11 (c bk fi se : Int) (c0 : 0 ≤ c) (c1 : c < 256) (bk0 : 0 ≤ bk) (bk1 : bk < 256) (fi0 : 0 ≤ fi) (fi1 : fi < 256) (se0 : 0 ≤ se) (se1 : se < 256) (cl hw u : Int) (cl0 : 0 ≤ cl) (cl1 : cl < 256) (hw0 : 0 ≤ hw) (hw1 : hw < 256) (u0 : 0 ≤ u) (u1 : u < 256) (h7 : bit hw 7 = 1) (h3 : ¬ u % 4 = 0) (hc : cl = 0) (w : World) : Calls Try.prog 72 #[.agg #[.int .u8 c, .int .u8 bk, .int .u8 fi, .int .u8 se], .agg #[.int .u8 cl, .int .u8 hw], .int .u8 u] w fun q_ w' => q_ = .returned (.int .u8 (shadeV bk u)) ∧ Below w.heap.size w w' := by
  suffices hall : ∀ (n_ : Nat) (W0 : World), n_ ≤ W0.heap.size → Below n_ W0 w → Calls Try.prog 72 #[.agg #[.int .u8 c, .int .u8 bk, .int .u8 fi, .int .u8 se], .agg #[.int .u8 cl, .int .u8 hw], .int .u8 u] w fun q_ w' => q_ = .returned (.int .u8 (shadeV bk u)) ∧ Below n_ W0 w' from hall _ _ (Nat.le_refl _) (Below.refl _ _)
  intro n_ W0 hn hB
  have HN := Lib.hid hn
  have BB := Lib.hid hB
  clear hn hB
  have ea := an7 hw hw0 hw1
  have eb := an4 hw hw0 hw1
  have ec := an3k u u0 u1
  rw [h7] at ea
  rw [show (128 : Int) * 1 = 128 by decide] at ea
  clear eb
  obtain ⟨k4, hk4⟩ : ∃ q_, q_ = u % 4 := ⟨_, rfl⟩
  rw [← hk4] at ec h3
  have dk : (k4 != 0) = true := by simp; exact h3
  clear hk4
  have dc : (cl == 0) = true := by simp; exact hc
  have SH := Lib.hid (fun W => shade_c bk u bk0 bk1 u0 u1 W)
  generalize shadeV bk u = zz at SH ⊢
  clear h7 h3
  have HC := Lib.hid hc
  clear hc
  go_enter Try.func72, Try.ntmps72
  have Q_ := own2 w (.cells #[.int .u8 c, .int .u8 bk, .int .u8 fi, .int .u8 se] 81) (.cells #[.int .u8 cl, .int .u8 hw] 94)
  have B0 := Lib.hid (vian HN.out BB.out Q_)
  have P0 := Lib.hid (show Has ((w.alloc (.cells #[.int .u8 c, .int .u8 bk, .int .u8 fi, .int .u8 se] 81)).alloc (.cells #[.int .u8 cl, .int .u8 hw] 94)) w.heap.size #[.int .u8 c, .int .u8 bk, .int .u8 fi, .int .u8 se] by simpa using (Has.new w #[.int .u8 c, .int .u8 bk, .int .u8 fi, .int .u8 se] 81).alloc (.cells #[.int .u8 cl, .int .u8 hw] 94))
  have LP := Lib.hid (show n_ ≤ w.heap.size + 0 from Nat.le_add_right_of_le (Nat.le_trans HN.out BB.out.size))
  have Q0 := Lib.hid (show Has ((w.alloc (.cells #[.int .u8 c, .int .u8 bk, .int .u8 fi, .int .u8 se] 81)).alloc (.cells #[.int .u8 cl, .int .u8 hw] 94)) (w.heap.size + 1) #[.int .u8 cl, .int .u8 hw] by simpa using Has.new (w.alloc (.cells #[.int .u8 c, .int .u8 bk, .int .u8 fi, .int .u8 se] 81)) #[.int .u8 cl, .int .u8 hw] 94)
  have LQ := Lib.hid (show n_ ≤ (w.heap.size + 1) from Nat.le_add_right_of_le (Nat.le_trans HN.out BB.out.size))
  have NPQ := Lib.hid (show w.heap.size + 0 ≠ w.heap.size + 1 by omega)
  simp only [Nat.add_zero] at LP NPQ
  clear Q_
  go_upto_region 1 with (fail)
  generalize ((w.alloc (.cells #[.int .u8 c, .int .u8 bk, .int .u8 fi, .int .u8 se] 81)).alloc (.cells #[.int .u8 cl, .int .u8 hw] 94)) = u0 at B0 P0 Q0 ⊢
  generalize w.heap.size + 1 = qb at Q0 LQ NPQ ⊢
  generalize w.heap.size = pb at P0 LP NPQ ⊢
  obtain ⟨hc0, hf0⟩ := P0.out.out
  obtain ⟨hc1, hf1⟩ := Q0.out.out
  go_wp2_with (fail)
  clear hc0 hf0 hc1 hf1
  with_reducible refine (SH.out _).mono ?_
  rintro q_ w' ⟨rfl, rfl⟩
  obtain ⟨hc0, hf0⟩ := P0.out.out
  obtain ⟨hc1, hf1⟩ := Q0.out.out
  go_wp2_with (fail)
  clear hc0 hf0 hc1 hf1
  go_ret
  exact ⟨rfl, B0.out⟩
set_option maxHeartbeats 2000000 in
theorem dshade_h11 (c bk fi se : Int) (c0 : 0 ≤ c) (c1 : c < 256) (bk0 : 0 ≤ bk) (bk1 : bk < 256) (fi0 : 0 ≤ fi) (fi1 : fi < 256) (se0 : 0 ≤ se) (se1 : se < 256) (cl hw u : Int) (cl0 : 0 ≤ cl) (cl1 : cl < 256) (hw0 : 0 ≤ hw) (hw1 : hw < 256) (u0 : 0 ≤ u) (u1 : u < 256) (h7 : bit hw 7 = 1) (h3 : ¬ u % 4 = 0) (hc : ¬ cl = 0) (w : World) : Calls Try.prog 72 #[.agg #[.int .u8 c, .int .u8 bk, .int .u8 fi, .int .u8 se], .agg #[.int .u8 cl, .int .u8 hw], .int .u8 u] w fun q_ w' => q_ = .returned (.int .u8 (shadeV bk u)) ∧ Below w.heap.size w w' := by
  suffices hall : ∀ (n_ : Nat) (W0 : World), n_ ≤ W0.heap.size → Below n_ W0 w → Calls Try.prog 72 #[.agg #[.int .u8 c, .int .u8 bk, .int .u8 fi, .int .u8 se], .agg #[.int .u8 cl, .int .u8 hw], .int .u8 u] w fun q_ w' => q_ = .returned (.int .u8 (shadeV bk u)) ∧ Below n_ W0 w' from hall _ _ (Nat.le_refl _) (Below.refl _ _)
  intro n_ W0 hn hB
  have HN := Lib.hid hn
  have BB := Lib.hid hB
  clear hn hB
  have ea := an7 hw hw0 hw1
  have eb := an4 hw hw0 hw1
  have ec := an3k u u0 u1
  rw [h7] at ea
  rw [show (128 : Int) * 1 = 128 by decide] at ea
  clear eb
  obtain ⟨k4, hk4⟩ : ∃ q_, q_ = u % 4 := ⟨_, rfl⟩
  rw [← hk4] at ec h3
  have dk : (k4 != 0) = true := by simp; exact h3
  clear hk4
  have dc : (cl == 0) = false := by simp; exact hc
  have SH := Lib.hid (fun W => shade_c bk u bk0 bk1 u0 u1 W)
  generalize shadeV bk u = zz at SH ⊢
  clear h7 h3
  go_enter Try.func72, Try.ntmps72
  have Q_ := own2 w (.cells #[.int .u8 c, .int .u8 bk, .int .u8 fi, .int .u8 se] 81) (.cells #[.int .u8 cl, .int .u8 hw] 94)
  have B0 := Lib.hid (vian HN.out BB.out Q_)
  have P0 := Lib.hid (show Has ((w.alloc (.cells #[.int .u8 c, .int .u8 bk, .int .u8 fi, .int .u8 se] 81)).alloc (.cells #[.int .u8 cl, .int .u8 hw] 94)) w.heap.size #[.int .u8 c, .int .u8 bk, .int .u8 fi, .int .u8 se] by simpa using (Has.new w #[.int .u8 c, .int .u8 bk, .int .u8 fi, .int .u8 se] 81).alloc (.cells #[.int .u8 cl, .int .u8 hw] 94))
  have LP := Lib.hid (show n_ ≤ w.heap.size + 0 from Nat.le_add_right_of_le (Nat.le_trans HN.out BB.out.size))
  have Q0 := Lib.hid (show Has ((w.alloc (.cells #[.int .u8 c, .int .u8 bk, .int .u8 fi, .int .u8 se] 81)).alloc (.cells #[.int .u8 cl, .int .u8 hw] 94)) (w.heap.size + 1) #[.int .u8 cl, .int .u8 hw] by simpa using Has.new (w.alloc (.cells #[.int .u8 c, .int .u8 bk, .int .u8 fi, .int .u8 se] 81)) #[.int .u8 cl, .int .u8 hw] 94)
  have LQ := Lib.hid (show n_ ≤ (w.heap.size + 1) from Nat.le_add_right_of_le (Nat.le_trans HN.out BB.out.size))
  have NPQ := Lib.hid (show w.heap.size + 0 ≠ w.heap.size + 1 by omega)
  simp only [Nat.add_zero] at LP NPQ
  clear Q_
  go_upto_region 1 with (fail)
  generalize ((w.alloc (.cells #[.int .u8 c, .int .u8 bk, .int .u8 fi, .int .u8 se] 81)).alloc (.cells #[.int .u8 cl, .int .u8 hw] 94)) = u0 at B0 P0 Q0 ⊢
  generalize w.heap.size + 1 = qb at Q0 LQ NPQ ⊢
  generalize w.heap.size = pb at P0 LP NPQ ⊢
  obtain ⟨hc0, hf0⟩ := P0.out.out
  obtain ⟨hc1, hf1⟩ := Q0.out.out
  go_wp2_with (fail)
  clear hc0 hf0 hc1 hf1
  with_reducible refine (SH.out _).mono ?_
  rintro q_ w' ⟨rfl, rfl⟩
  obtain ⟨hc0, hf0⟩ := P0.out.out
  obtain ⟨hc1, hf1⟩ := Q0.out.out
  go_wp2_with (fail)
  clear hc0 hf0 hc1 hf1
  go_ret
  exact ⟨rfl, B0.out⟩
theorem dshade_c (c bk fi se : Int) (c0 : 0 ≤ c) (c1 : c < 256) (bk0 : 0 ≤ bk) (bk1 : bk < 256) (fi0 : 0 ≤ fi) (fi1 : fi < 256) (se0 : 0 ≤ se) (se1 : se < 256) (cl hw u : Int) (cl0 : 0 ≤ cl) (cl1 : cl < 256) (hw0 : 0 ≤ hw) (hw1 : hw < 256) (u0 : 0 ≤ u) (u1 : u < 256) (w : World) : Calls Try.prog 72 #[.agg #[.int .u8 c, .int .u8 bk, .int .u8 fi, .int .u8 se], .agg #[.int .u8 cl, .int .u8 hw], .int .u8 u] w fun q_ w' => q_ = .returned (.int .u8 (shadeAt bk fi se u cl hw)) ∧ Below w.heap.size w w' := by
  unfold shadeAt
  rcases bit_bd hw 7 with h7 | h7
  · by_cases hc : cl = 0
    · rw [if_pos (Or.inl hc)]; exact dshade_z0 c bk fi se c0 c1 bk0 bk1 fi0 fi1 se0 se1 cl hw u cl0 cl1 hw0 hw1 u0 u1 h7 hc w
    · rw [if_neg (by omega)]
      rcases bit_bd hw 4 with h4 | h4
      · rw [if_neg (by omega)]; exact dshade_f0 c bk fi se c0 c1 bk0 bk1 fi0 fi1 se0 se1 cl hw u cl0 cl1 hw0 hw1 u0 u1 h7 hc h4 w
      · rw [if_pos h4]; exact dshade_s0 c bk fi se c0 c1 bk0 bk1 fi0 fi1 se0 se1 cl hw u cl0 cl1 hw0 hw1 u0 u1 h7 hc h4 w
  · by_cases h3 : u % 4 = 0
    · by_cases hc : cl = 0
      · rw [if_pos (Or.inl hc)]; exact dshade_z10 c bk fi se c0 c1 bk0 bk1 fi0 fi1 se0 se1 cl hw u cl0 cl1 hw0 hw1 u0 u1 h7 h3 hc w
      · rw [if_neg (by omega)]
        rcases bit_bd hw 4 with h4 | h4
        · rw [if_neg (by omega)]; exact dshade_f10 c bk fi se c0 c1 bk0 bk1 fi0 fi1 se0 se1 cl hw u cl0 cl1 hw0 hw1 u0 u1 h7 h3 hc h4 w
        · rw [if_pos h4]; exact dshade_s10 c bk fi se c0 c1 bk0 bk1 fi0 fi1 se0 se1 cl hw u cl0 cl1 hw0 hw1 u0 u1 h7 h3 hc h4 w
    · rw [if_pos (Or.inr ⟨h7, h3⟩)]
      by_cases hc : cl = 0
      · exact dshade_z11 c bk fi se c0 c1 bk0 bk1 fi0 fi1 se0 se1 cl hw u cl0 cl1 hw0 hw1 u0 u1 h7 h3 hc w
      · exact dshade_h11 c bk fi se c0 c1 bk0 bk1 fi0 fi1 se0 se1 cl hw u cl0 cl1 hw0 hw1 u0 u1 h7 h3 hc w
end Go.Proofs.Ytpfbodmadmneiaa
