/-
  The law's own copy of some bytes, of which some are others: for every world in which they lie as told.
-/
import Derived.Test.YtklbhbappaibgaaFn
import Derived.StillTailTactics
namespace Go.Proofs.Ytklbhbappaibgaa
open Go.ChangeShapes Go.WideShapes Go.ChangeAt Go.RowKit
set_option linter.unusedVariables false
set_option linter.unusedSimpArgs false
set_option maxRecDepth 100000
theorem cells5 : Try.prog.cellsOf 5 = 1 := by kernel_rfl
theorem cells40 : Try.prog.cellsOf 40 = 1 := by kernel_rfl
theorem cells41 : Try.prog.cellsOf 41 = 2 := by kernel_rfl
/-- v is a slice of n pairs of words. -/
def Pa (w : World) (v : Value) (n : Nat) : Prop := ∃ (a : Option Addr) (c : Nat) (f g : Nat → Nat), v = .slice a n c ∧ (∀ j, f j < 65536) ∧ (∀ j, g j < 65536) ∧ (0 < n → ∃ b o, a = some ⟨b, o, none⟩ ∧ b < w.heap.size ∧ ∀ j, j < n → w.cell? ⟨b, o + j * 2, none⟩ = some (.int .u16 (f j : Nat)) ∧ w.cell? ⟨b, o + j * 2 + 1, none⟩ = some (.int .u16 (g j : Nat)))
theorem Pa.below {w w' : World} {v : Value} {n : Nat} (h : Pa w v n) (hb : Below w.heap.size w w') : Pa w' v n := by
 obtain ⟨a, c, f, g, h1, h2, h3, h4⟩ := h
 refine ⟨a, c, f, g, h1, h2, h3, fun h0 => ?_⟩
 obtain ⟨b, o, e, hl, hc⟩ := h4 h0
 exact ⟨b, o, e, Nat.lt_of_lt_of_le hl hb.size, fun j hj => ⟨(hb.cell (p := ⟨b, o + j * 2, none⟩) hl).trans (hc j hj).1, (hb.cell (p := ⟨b, o + j * 2 + 1, none⟩) hl).trans (hc j hj).2⟩⟩
/-- What the law's own copy hands back. -/
def ChE (n : Nat) (w : World) (q_ : Ending) (w' : World) : Prop := ∃ v' C, q_ = .returned v' ∧ C.length = n ∧ Ow w' w.heap.size v' C ∧ Below w.heap.size w w'
set_option maxHeartbeats 8000000 in
theorem changed_c (v1 v2 : Value) (L : List Nat) (n2 : Nat) (hm : L.length ≤ 16000) (hm2 : n2 ≤ 60) (w : World) (h1 : Rd w v1 L) (h2 : Pa w v2 n2) : Calls Try.prog 10 #[v1, v2] w (ChE L.length w) := by
 obtain ⟨v', w2, hr, ho, hb⟩ := app_c (own_mt w w.heap.size (Nat.le_refl _)) (h1.below (own1 w _)) (by simp) (by simp; omega)
 rw [List.nil_append] at ho
 obtain ⟨a1, n, c1, rfl, n1, hc1, hz1, by1, at1⟩ := h1.open
 obtain ⟨a2, c2, f, g, rfl, hf, hg, hp⟩ := h2
 obtain ⟨av, cv, rfl⟩ := ho.slice
 rw [n1] at hm hr ho ⊢
 have RUN := Lib.hid hr
 have N1 := Lib.hid n1
 have HP := Lib.hid hp
 have HF := Lib.hid hf
 have HG := Lib.hid hg
 have HO := Lib.hid ho
 have HB := Lib.hid (((Below.refl w.heap.size w).alloc (Nat.le_refl _) (.cells #[] 5)).trans hb)
 clear h1 hr ho hb n1 hp hf hg by1 at1 hz1 hc1
 go_enter Try.func10, Try.ntmps10
 go_upto_region 2 with (at_builtin; refine wpList_append_run rfl _ _ _ (.slice (some ⟨w.heap.size, 0, none⟩) 0 0) (.slice a1 n c1) _ rfl rfl rfl RUN.out ?_)
 go_wp2
 go_loopg [12] n2 (fun g' i wr => ∃ (t : Nat) (C : List Nat), t ≤ n2 ∧ g' + t = n2 ∧ i = .int .i64 t ∧ Hid (C.length = n) ∧ Ow wr w.heap.size (.slice av n cv) C ∧ Below w.heap.size w wr)
 case atStart => exact ⟨0, L, by omega, by omega, rfl, N1, HO.out, HB.out⟩
 case round =>
  obtain ⟨u3, hu⟩ : ∃ q_, q_ = wr := ⟨_, rfl⟩
  subst hu
  obtain ⟨t, C, ht, hg, rfl, HC, ho, hb⟩ := hrel
  have TG := Lib.hid hg
  have HO3 := Lib.hid ho
  have HB3 := Lib.hid hb
  clear hg ho hb
  by_cases hlt : t < n2
  case neg =>
   have l0 : ¬ (t : Int) < n2 := by omega
   go_wp2
   go_ret
   exact ⟨_, C, rfl, HC.out, HO3.out, HB3.out⟩
  have l0 : (t : Int) < n2 := by omega
  by_cases hn : 0 < n
  case neg =>
   obtain rfl : n = 0 := by omega
   go_wp2
   go_roundg (gk - 1)
   ·exact ⟨t + 1, C, by omega, by have := TG.out; omega, by simp, HC, HO3.out, HB3.out⟩
   case measure => have := TG.out; omega
  have hni : (0 : Int) < n := by omega
  have hn0 : ¬ n = 0 := by omega
  obtain ⟨b, o, rfl, lb, hc⟩ := HP.out (by omega)
  have bd := (Below.refl u3.heap.size u3).drew
  have HO4 := Lib.hid (HO3.out.below bd)
  have HB4 := Lib.hid (via HB3.out bd)
  have e1 : u3.drew.cell? ⟨b, o + t * 2, none⟩ = some (.int .u16 (f t : Nat)) := (HB4.out.cell (p := ⟨b, o + t * 2, none⟩) lb).trans (hc t hlt).1
  have e2 : u3.drew.cell? ⟨b, o + t * 2 + 1, none⟩ = some (.int .u16 (g t : Nat)) := (HB4.out.cell (p := ⟨b, o + t * 2 + 1, none⟩) lb).trans (hc t hlt).2
  have f1 := HF.out t
  have g1 := HG.out t
  clear hc bd
  generalize f t = x at e1 f1
  generalize g t = y at e2 g1
  obtain ⟨k, hk⟩ : ∃ q_, x % n = q_ := ⟨_, rfl⟩
  have kn : k < n := by rw [← hk]; exact Nat.mod_lt _ hn
  have t1 : (x : Int).tmod n = k := by rw [Int.tmod_eq_emod_of_nonneg (by omega), ← hk]; exact (Int.natCast_emod x n).symm
  obtain ⟨z, hz⟩ : ∃ q_, y % 256 = q_ := ⟨_, rfl⟩
  have zb : z < 256 := by omega
  have t0 : IntKind.i64.wrap (x : Int) = x := by rw [IntKind.wrap_i64]; omega
  have t2 : (y : Int) % 256 = z := by omega
  have t3 : IntKind.u8.wrap (y : Int) = z := by rw [IntKind.wrap_u8]; exact t2
  have ki : (k : Int) < n := by omega
  obtain ⟨p, hp⟩ := at_ex (L := C) (k := k) (by rw [HC.out]; exact kn)
  obtain ⟨gb, cg, eg, hge, _⟩ := HO4.out.full (by rw [HC.out]; exact hn)
  injection eg with e3 e4 e5
  subst e3; subst e5
  clear e4
  obtain ⟨q1, q2⟩ := HO4.out.cell hp
  have HS := Lib.hid (st_own HO4.out HC.out k z zb)
  have HC2 := Lib.hid (show (C.set k z).length = n by rw [List.length_set]; exact HC.out)
  clear hk hz hp
  go_upto_region 6 with (fail)
  go_still_tail 17, (by kernel_rfl)
  change wpList _ _ _ _ _ (World.drew u3)
  go_wp2
  go_roundg (gk - 1)
  ·exact ⟨t + 1, C.set k z, by omega, by have := TG.out; omega, by simp, HC2, HS.out.1, HB4.out.trans HS.out.2⟩
  case measure => have := TG.out; omega
end Go.Proofs.Ytklbhbappaibgaa
