/-
  Numbers as bytes, as the program and the document write them: for every world; the numbers are less than 16384.
-/
import Derived.Test.YtklbhbappaibgaaFn
namespace Go.Proofs.Ytklbhbappaibgaa
open Go.ChangeShapes Go.WideShapes Go.ChangeAt Go.RowKit
set_option linter.unusedVariables false
set_option linter.unusedSimpArgs false
set_option maxRecDepth 100000
theorem byte_all128 {P : Int → Prop} (h : ∀ n : Fin 128, P (n.val : Int)) (a : Int) (h1 : 0 ≤ a) (h2 : a < 128) : P a := by
 have := h ⟨a.toNat, by omega⟩
 rwa [show ((a.toNat : Nat) : Int) = a by omega] at this
theorem new_own (w : World) (x : Nat) (hx : x < 256) (z : Int) (hz : z = x) : Ow (w.alloc (.cells #[.int .u8 z] 5)) w.heap.size (.slice (some ⟨w.heap.size, 0, none⟩) 1 1) [x] := by
 subst hz
 exact ⟨World.ownsRow_lit w #[.int .u8 (x : Int)] 1 (Nat.le_refl _) (by decide) rfl, By.one hx⟩
theorem or128 (m : Nat) : bits .or .i64 (bits .and .i64 (m : Int) 127) 128 = ((m % 128 + 128 : Nat) : Int) := by
 have h0 : bits .and .i64 (m : Int) 127 = (m : Int) % 128 := i64_and127 m
 have h := byte_all128 (P := fun a => bits .or .i64 a 128 = a + 128) (by decide +kernel) ((m : Int) % 128) (by omega) (by omega)
 rw [h0, h]; omega
def NumE (L : List Nat) (base : Nat) (w : World) (q_ : Ending) (w' : World) : Prop := ∃ v', q_ = .returned v' ∧ Ow w' base v' L ∧ Below base w w'
set_option maxHeartbeats 2000000 in
theorem an_c (v : Value) (L : List Nat) (base n : Nat) (hn : n < 16384) (hL : L.length < 800000) (w : World) (hbase : base ≤ w.heap.size) (h : Ow w base v L) : Calls Try.prog 19 #[v, .int .i64 n] w (NumE (L ++ num n) base w) := by
 have h1 := num_len2 hn
 have H0 := Lib.hid h
 have HB0 := Lib.hid hbase
 have h2 : (L ++ num n).length ≤ L.length + 2 := by simp; omega
 obtain ⟨T, hT⟩ : ∃ T, T = L ++ num n := ⟨_, rfl⟩
 rw [← hT] at h2 ⊢
 have HT := Lib.hid hT
 clear h hbase hT h1
 go_enter Try.func19, Try.ntmps19
 go_wp2
 go_loopg [0, 1] n (fun g' s i wr => ∃ (v' : Value) (M : List Nat) (m : Nat), s = v' ∧ i = .int .i64 m ∧ m ≤ n ∧ g' = m ∧ Hid (T = M ++ num m) ∧ Ow wr base v' M ∧ Below base w wr)
 case atStart => exact ⟨v, L, n, rfl, rfl, Nat.le_refl _, rfl, HT, H0.out, Below.refl _ _⟩
 case round =>
  obtain ⟨u3, hu⟩ : ∃ q_, q_ = wr := ⟨_, rfl⟩
  subst hu
  obtain ⟨v', M, m, rfl, rfl, hm, hg, HM, ho, hb⟩ := hrel
  have TG := Lib.hid hg
  have HB := Lib.hid hb
  have HO := Lib.hid ho
  have hbs : base ≤ u3.heap.size := Nat.le_trans HB0.out hb.size
  have hML : M.length < 900000 := by have := congrArg List.length HM.out; simp at this; omega
  obtain ⟨a', c', rfl⟩ := ho.slice
  obtain ⟨nM, hnM⟩ : ∃ q_, M.length = q_ := ⟨_, rfl⟩
  rw [hnM] at HO ⊢
  clear hg hb ho hnM
  by_cases hlt : m < 128
  ·have l0 : ¬ (127 : Int) < m := by omega
   have HE := Lib.hid (show T = M ++ [m] by rw [HM.out, num_lo hlt])
   obtain ⟨v2, u4, hr, ho, hb⟩ := app_1 m (by omega) _ (rfl : (m : Int) = m) HO.out hbs hML
   have RUN := Lib.hid hr
   have BB := Lib.hid (HB.out.trans hb)
   have OO := Lib.hid ho
   clear hr hb ho
   go_wp2_with (at_builtin; refine wpList_append_run rfl _ _ _ (.slice a' nM c') (.slice (some ⟨u3.heap.size, 0, none⟩) 1 1) _ rfl rfl rfl RUN.out ?_)
   go_wp2
   go_ret
   exact ⟨v2, rfl, by rw [HE.out]; exact OO.out, BB.out⟩
  ·have l0 : (127 : Int) < m := by omega
   have hor := or128 m
   obtain ⟨q, hq⟩ : ∃ q, m % 128 + 128 = q := ⟨_, rfl⟩
   rw [hq] at hor
   have q1 : q < 256 := by omega
   have q2 : (q : Int) < 256 := by omega
   have q6 : (q : Int) % 256 = q := by omega
   have HE := Lib.hid (show T = (M ++ [q]) ++ num (m / 128) by rw [HM.out, num_hi hlt, hq, List.append_assoc]; rfl)
   clear hq
   obtain ⟨v2, u4, hr, ho, hb⟩ := app_1 q q1 _ (rfl : (q : Int) = q) HO.out hbs hML
   have RUN := Lib.hid hr
   have BB := Lib.hid (HB.out.trans hb)
   have OO := Lib.hid ho
   clear hr hb ho
   go_wp2_with (at_builtin; refine wpList_append_run rfl _ _ _ (.slice a' nM c') (.slice (some ⟨u3.heap.size, 0, none⟩) 1 1) _ rfl rfl rfl RUN.out ?_)
   go_wp2
   go_roundg (m / 128)
   ·exact ⟨v2, M ++ [q], m / 128, rfl, by simp, by omega, rfl, HE, OO.out, BB.out⟩
   case measure => have := TG.out; omega
end Go.Proofs.Ytklbhbappaibgaa
