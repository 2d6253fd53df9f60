/-
  A number as bytes, as the document writes it: for every world; the number is less than 16384.
-/
import Derived.Test.YtklbhbappaibgaaNu
namespace Go.Proofs.Ytklbhbappaibgaa
open Go.ChangeShapes Go.WideShapes Go.ChangeAt Go.RowKit
set_option linter.unusedVariables false
set_option linter.unusedSimpArgs false
set_option maxRecDepth 100000
set_option maxHeartbeats 2000000 in
theorem num_c (n : Nat) : ∀ (hn : n < 16384) (w : World), Calls Try.prog 22 #[.int .i64 n] w (NumE (num n) w.heap.size w) := by
 induction n using Nat.strongRecOn with
 | _ n ih =>
  intro hn w
  by_cases hlt : n < 128
  ·have l0 : (n : Int) < 128 := by omega
   have m6 : (n : Int) % 256 = n := by omega
   have HE := Lib.hid (num_lo hlt)
   clear ih
   go_enter Try.func22, Try.ntmps22
   go_wp2
   go_ret
   exact ⟨_, rfl, by rw [HE.out]; exact new_own w n (by omega) _ rfl, own1 w _⟩
  ·have l0 : ¬ (n : Int) < 128 := by omega
   obtain ⟨r, hr⟩ : ∃ r, n % 128 = r := ⟨_, rfl⟩
   obtain ⟨d, hd⟩ : ∃ d, n / 128 = d := ⟨_, rfl⟩
   have HE := Lib.hid (show num n = [r + 128] ++ num d by rw [num_hi hlt, hr, hd]; rfl)
   have IH := Lib.hid (ih d (by omega) (by omega))
   have t1 : (n : Int).tmod 128 = r := by rw [Int.tmod_eq_emod_of_nonneg (by omega)]; omega
   have t2 : (n : Int).tdiv 128 = d := by rw [Int.tdiv_eq_ediv_of_nonneg (by omega)]; omega
   have t3 : (n : Int) % 128 = r := by omega
   have t4 : (n : Int) / 128 = d := by omega
   have r1 : (r : Int) < 128 := by omega
   have r6 : ((r : Int) + 128) % 256 = r + 128 := by omega
   have rw1 : IntKind.i64.wrap ((r : Int) + 128) = r + 128 := by rw [IntKind.wrap_i64]; omega
   have rw2 : IntKind.u8.wrap ((r : Int) + 128) = r + 128 := by rw [IntKind.wrap_u8]; omega
   have hr' := Lib.hid hr
   have hd' := Lib.hid hd
   clear ih hr hd
   go_enter Try.func22, Try.ntmps22
   go_wp2_with (fail)
   have O1 := Lib.hid (new_own w (r + 128) (by omega) ((r : Int) + 128) (by omega))
   have B1 := Lib.hid (own1 w (.cells #[.int .u8 ((r : Int) + 128)] 5))
   refine (IH.out _).mono ?_
   rintro q_ u2 ⟨v2, rfl, O2, B2⟩
   obtain ⟨v3, u3, hr, ho, hb⟩ := app_c (O1.out.below B2) O2.rd (Nat.le_trans B1.out.size B2.size) (by have := num_len2 (n := d) (by have := hd'.out; omega); simp; omega)
   obtain ⟨a2, c2, rfl⟩ := O2.slice
   have RUN := Lib.hid hr
   have OO := Lib.hid ho
   have BB := Lib.hid ((via B1.out B2).trans hb)
   clear O2 B2 hr ho hb
   go_wp2_with (at_builtin; refine wpList_append_run rfl _ _ _ (.slice (some ⟨w.heap.size, 0, none⟩) 1 1) (.slice a2 (num d).length c2) _ rfl rfl rfl RUN.out ?_)
   go_wp2
   go_ret
   exact ⟨_, rfl, by rw [HE.out]; exact OO.out, BB.out⟩
end Go.Proofs.Ytklbhbappaibgaa
