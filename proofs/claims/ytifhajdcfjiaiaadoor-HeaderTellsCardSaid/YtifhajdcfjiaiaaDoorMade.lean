/-
  The document's own Kind and Made: for every world in which the program's bytes lie as told; no other condition.
-/
import Derived.Test.YtifhajdcfjiaiaaDoorTit
import Derived.Test.YtifhajdcfjiaiaaDoorPure2
import Derived.Laws.MakeOwn
import Derived.Deep.Cut
namespace Go.Proofs.YtifhajdcfjiaiaaDoor
open Go.ChangeShapes Go.WideShapes Go.ChangeAt Go.RowKit
set_option linter.unusedVariables false
set_option maxRecDepth 100000
set_option maxHeartbeats 1000000 in
theorem kind_0 (w : World) : Calls Tryd.prog 18 #[.int .u8 0] w fun e w' => e = .returned (.int .i64 (kindV 0)) ∧ w = w' := by
  go_enter Tryd.func18, Tryd.ntmps18
  go_wp2
  go_ret
  exact ⟨rfl, rfl⟩
set_option maxHeartbeats 1000000 in
theorem kind_8 (w : World) : Calls Tryd.prog 18 #[.int .u8 8] w fun e w' => e = .returned (.int .i64 (kindV 8)) ∧ w = w' := by
  go_enter Tryd.func18, Tryd.ntmps18
  go_wp2
  go_ret
  exact ⟨rfl, rfl⟩
set_option maxHeartbeats 1000000 in
theorem kind_9 (w : World) : Calls Tryd.prog 18 #[.int .u8 9] w fun e w' => e = .returned (.int .i64 (kindV 9)) ∧ w = w' := by
  go_enter Tryd.func18, Tryd.ntmps18
  go_wp2
  go_ret
  exact ⟨rfl, rfl⟩
set_option maxHeartbeats 1000000 in
theorem kind_1 (w : World) : Calls Tryd.prog 18 #[.int .u8 1] w fun e w' => e = .returned (.int .i64 (kindV 1)) ∧ w = w' := by
  go_enter Tryd.func18, Tryd.ntmps18
  go_wp2
  go_ret
  exact ⟨rfl, rfl⟩
set_option maxHeartbeats 1000000 in
theorem kind_2 (w : World) : Calls Tryd.prog 18 #[.int .u8 2] w fun e w' => e = .returned (.int .i64 (kindV 2)) ∧ w = w' := by
  go_enter Tryd.func18, Tryd.ntmps18
  go_wp2
  go_ret
  exact ⟨rfl, rfl⟩
set_option maxHeartbeats 1000000 in
theorem kind_3 (w : World) : Calls Tryd.prog 18 #[.int .u8 3] w fun e w' => e = .returned (.int .i64 (kindV 3)) ∧ w = w' := by
  go_enter Tryd.func18, Tryd.ntmps18
  go_wp2
  go_ret
  exact ⟨rfl, rfl⟩
set_option maxHeartbeats 1000000 in
theorem kind_5 (w : World) : Calls Tryd.prog 18 #[.int .u8 5] w fun e w' => e = .returned (.int .i64 (kindV 5)) ∧ w = w' := by
  go_enter Tryd.func18, Tryd.ntmps18
  go_wp2
  go_ret
  exact ⟨rfl, rfl⟩
set_option maxHeartbeats 1000000 in
theorem kind_6 (w : World) : Calls Tryd.prog 18 #[.int .u8 6] w fun e w' => e = .returned (.int .i64 (kindV 6)) ∧ w = w' := by
  go_enter Tryd.func18, Tryd.ntmps18
  go_wp2
  go_ret
  exact ⟨rfl, rfl⟩
set_option maxHeartbeats 1000000 in
theorem kind_15 (w : World) : Calls Tryd.prog 18 #[.int .u8 15] w fun e w' => e = .returned (.int .i64 (kindV 15)) ∧ w = w' := by
  go_enter Tryd.func18, Tryd.ntmps18
  go_wp2
  go_ret
  exact ⟨rfl, rfl⟩
set_option maxHeartbeats 1000000 in
theorem kind_16 (w : World) : Calls Tryd.prog 18 #[.int .u8 16] w fun e w' => e = .returned (.int .i64 (kindV 16)) ∧ w = w' := by
  go_enter Tryd.func18, Tryd.ntmps18
  go_wp2
  go_ret
  exact ⟨rfl, rfl⟩
set_option maxHeartbeats 1000000 in
theorem kind_17 (w : World) : Calls Tryd.prog 18 #[.int .u8 17] w fun e w' => e = .returned (.int .i64 (kindV 17)) ∧ w = w' := by
  go_enter Tryd.func18, Tryd.ntmps18
  go_wp2
  go_ret
  exact ⟨rfl, rfl⟩
set_option maxHeartbeats 1000000 in
theorem kind_18 (w : World) : Calls Tryd.prog 18 #[.int .u8 18] w fun e w' => e = .returned (.int .i64 (kindV 18)) ∧ w = w' := by
  go_enter Tryd.func18, Tryd.ntmps18
  go_wp2
  go_ret
  exact ⟨rfl, rfl⟩
set_option maxHeartbeats 1000000 in
theorem kind_19 (w : World) : Calls Tryd.prog 18 #[.int .u8 19] w fun e w' => e = .returned (.int .i64 (kindV 19)) ∧ w = w' := by
  go_enter Tryd.func18, Tryd.ntmps18
  go_wp2
  go_ret
  exact ⟨rfl, rfl⟩
set_option maxHeartbeats 1000000 in
theorem kind_25 (w : World) : Calls Tryd.prog 18 #[.int .u8 25] w fun e w' => e = .returned (.int .i64 (kindV 25)) ∧ w = w' := by
  go_enter Tryd.func18, Tryd.ntmps18
  go_wp2
  go_ret
  exact ⟨rfl, rfl⟩
set_option maxHeartbeats 1000000 in
theorem kind_26 (w : World) : Calls Tryd.prog 18 #[.int .u8 26] w fun e w' => e = .returned (.int .i64 (kindV 26)) ∧ w = w' := by
  go_enter Tryd.func18, Tryd.ntmps18
  go_wp2
  go_ret
  exact ⟨rfl, rfl⟩
set_option maxHeartbeats 1000000 in
theorem kind_27 (w : World) : Calls Tryd.prog 18 #[.int .u8 27] w fun e w' => e = .returned (.int .i64 (kindV 27)) ∧ w = w' := by
  go_enter Tryd.func18, Tryd.ntmps18
  go_wp2
  go_ret
  exact ⟨rfl, rfl⟩
set_option maxHeartbeats 1000000 in
theorem kind_28 (w : World) : Calls Tryd.prog 18 #[.int .u8 28] w fun e w' => e = .returned (.int .i64 (kindV 28)) ∧ w = w' := by
  go_enter Tryd.func18, Tryd.ntmps18
  go_wp2
  go_ret
  exact ⟨rfl, rfl⟩
set_option maxHeartbeats 1000000 in
theorem kind_29 (w : World) : Calls Tryd.prog 18 #[.int .u8 29] w fun e w' => e = .returned (.int .i64 (kindV 29)) ∧ w = w' := by
  go_enter Tryd.func18, Tryd.ntmps18
  go_wp2
  go_ret
  exact ⟨rfl, rfl⟩
set_option maxHeartbeats 1000000 in
theorem kind_30 (w : World) : Calls Tryd.prog 18 #[.int .u8 30] w fun e w' => e = .returned (.int .i64 (kindV 30)) ∧ w = w' := by
  go_enter Tryd.func18, Tryd.ntmps18
  go_wp2
  go_ret
  exact ⟨rfl, rfl⟩
set_option maxHeartbeats 1000000 in
theorem kind_no (x : Int) (w : World) (e0 : (x == 0) = false) (e8 : (x == 8) = false) (e9 : (x == 9) = false) (e1 : (x == 1) = false) (e2 : (x == 2) = false) (e3 : (x == 3) = false) (e5 : (x == 5) = false) (e6 : (x == 6) = false) (e15 : (x == 15) = false) (e16 : (x == 16) = false) (e17 : (x == 17) = false) (e18 : (x == 18) = false) (e19 : (x == 19) = false) (e25 : (x == 25) = false) (e26 : (x == 26) = false) (e27 : (x == 27) = false) (e28 : (x == 28) = false) (e29 : (x == 29) = false) (e30 : (x == 30) = false) (hk : kindV x = -1) : Calls Tryd.prog 18 #[.int .u8 x] w fun e w' => e = .returned (.int .i64 (kindV x)) ∧ w = w' := by
  have HK := Lib.hid hk
  clear hk
  go_enter Tryd.func18, Tryd.ntmps18
  go_wp2
  go_ret
  exact ⟨by rw [HK.out]; rfl, rfl⟩
theorem kind_c (x : Int) (w : World) : Calls Tryd.prog 18 #[.int .u8 x] w fun e w' => e = .returned (.int .i64 (kindV x)) ∧ w = w' := by
  by_cases e0 : x = 0
  · subst e0; exact kind_0 w
  by_cases e8 : x = 8
  · subst e8; exact kind_8 w
  by_cases e9 : x = 9
  · subst e9; exact kind_9 w
  by_cases e1 : x = 1
  · subst e1; exact kind_1 w
  by_cases e2 : x = 2
  · subst e2; exact kind_2 w
  by_cases e3 : x = 3
  · subst e3; exact kind_3 w
  by_cases e5 : x = 5
  · subst e5; exact kind_5 w
  by_cases e6 : x = 6
  · subst e6; exact kind_6 w
  by_cases e15 : x = 15
  · subst e15; exact kind_15 w
  by_cases e16 : x = 16
  · subst e16; exact kind_16 w
  by_cases e17 : x = 17
  · subst e17; exact kind_17 w
  by_cases e18 : x = 18
  · subst e18; exact kind_18 w
  by_cases e19 : x = 19
  · subst e19; exact kind_19 w
  by_cases e25 : x = 25
  · subst e25; exact kind_25 w
  by_cases e26 : x = 26
  · subst e26; exact kind_26 w
  by_cases e27 : x = 27
  · subst e27; exact kind_27 w
  by_cases e28 : x = 28
  · subst e28; exact kind_28 w
  by_cases e29 : x = 29
  · subst e29; exact kind_29 w
  by_cases e30 : x = 30
  · subst e30; exact kind_30 w
  exact kind_no x w (by simpa using e0) (by simpa using e8) (by simpa using e9) (by simpa using e1) (by simpa using e2) (by simpa using e3) (by simpa using e5) (by simpa using e6) (by simpa using e15) (by simpa using e16) (by simpa using e17) (by simpa using e18) (by simpa using e19) (by simpa using e25) (by simpa using e26) (by simpa using e27) (by simpa using e28) (by simpa using e29) (by simpa using e30) (by unfold kindV; rw [if_neg (by omega), if_neg (by omega), if_neg (by omega), if_neg (by omega), if_neg (by omega)])
def zeroM (n : Nat) : Array Value := madeCells (Value.int .u8 0).cells n
theorem zeroM_get (n a : Nat) (h : a < n) : (zeroM n)[a]? = some (.int .u8 0) := by
  unfold zeroM madeCells
  rw [Array.getElem?_map, Array.getElem?_range]
  rw [if_pos h]
  show some ((Value.int .u8 0).cells[a % 1]!) = _
  rw [Nat.mod_one]
  rfl
theorem mk_run (n : Nat) (hn : n < 2147483648) (w : World) : (Instr.makeSlice 24 (.int .i64 n) (.int .i64 n)).run Tryd.prog w = .ok (.slice (some ⟨w.heap.size, 0, none⟩) n n) (w.alloc (.cells (zeroM n) 5)) := by
  obtain ⟨i0, hi, hz0, hz1, hz2⟩ := info_parts infoB
  have h := run_make (P := Tryd.prog) w 24 5 i0 _ Tryd.underlying24 hi hz0 .i64 .i64 n n (by omega) (by omega) (by rw [hz2]; omega) (by omega)
  rw [hz1] at h
  simpa [zeroM] using h
theorem Own.zero (n : Nat) (w : World) : Own (w.alloc (.cells (zeroM n) 5)) w.heap.size n (fun _ => 0) := by
  have h := Has.new w (zeroM n) 5
  exact ⟨h.1, fun j hj => by rw [h.2.1 j, zeroM_get n j hj], h.2.2⟩
def MadeE (n : Nat) (f : Nat → Int) (w : World) (e : Ending) (w' : World) : Prop := e = .returned (.slice (some ⟨w.heap.size, 0, none⟩) n n) ∧ Own w' w.heap.size n f ∧ Below w.heap.size w w'
set_option maxHeartbeats 1000000 in
theorem made_c (k r : Int) (bn : Nat) (a : Option Addr) (pn pc : Nat) (p : Nat → Int) (w : World) (hk : 0 ≤ k ∧ k < 256) (hr : 0 ≤ r ∧ r < 256) (hb : bn < 256) (hpn : pn < 2147483648) (hp : okB p) (ha : 0 < pn → ∃ pb po, a = some ⟨pb, po, none⟩ ∧ pb < w.heap.size ∧ Rd w pb po pn p) :
    Calls Tryd.prog 17 #[.int .u8 k, .int .u8 bn, .int .u8 r, .slice a pn pc] w (MadeE (szN (bn % 9)) (made k (bn % 9 : Nat) r p (min pn 15000)) w) := by
  obtain ⟨q, hq⟩ : ∃ q, bn % 9 = q := ⟨_, rfl⟩
  rw [hq]
  have hq1 : (bn : Int) % 9 = q := by omega
  have hq2 : (bn : Int).tmod 9 = q := by rw [Int.tmod_eq_emod_of_nonneg (by omega)]; exact hq1
  have q9 : q ≤ 8 := by omega
  have HA := Lib.hid ha
  have HP := Lib.hid hp
  have HK := Lib.hid hk
  have HR := Lib.hid hr
  have h255 : (bn : Int) < 256 := by omega
  clear ha hp hk hr hq hb
  go_enter Tryd.func17, Tryd.ntmps17
  go_wp2
  go_loop [9, 10] (fun s i => ∃ j : Nat, j ≤ q ∧ i = .int .i64 j ∧ s = .int .i64 (szN j : Nat)) (fun _ i => q - (intOf i).toNat)
  case atStart => exact ⟨0, Nat.zero_le _, rfl, rfl⟩
  case round =>
    obtain ⟨j, hj, rfl, rfl⟩ := hrel
    have hs := szN_le j (by omega)
    have hs0 := szN_ge j
    by_cases hlt : j < q
    · have hI : (j : Int) < q := by omega
      have SS := Lib.hid (show szN (j + 1) = szN j * 2 from rfl)
      generalize szN j = s at hs hs0 SS ⊢
      go_wp2
      go_round
      case rel => exact ⟨j + 1, by omega, by go_num, by rw [SS.out]; go_num⟩
      case measure => simp [intOf]; omega
    · have e : j = q := by omega
      subst e
      have mk := mk_run (szN j) (by omega) w
      have O0 := Lib.hid (Own.zero (szN j) w)
      have B0 := Lib.hid (own1 w (.cells (zeroM (szN j)) 5))
      generalize hn : szN j = n at hs hs0 mk O0 B0 ⊢
      have HN := Lib.hid hn
      clear hn
      go_upto_region 7 with (fail)
      clear mk
      generalize w.alloc (.cells (zeroM n) 5) = w0 at O0 B0 ⊢
      generalize hg : w.heap.size = g at O0 ⊢
      have LG := Lib.hid (show w.heap.size ≤ g by omega)
      have HG := Lib.hid hg
      clear hg
      obtain ⟨m, hm⟩ : ∃ m, min pn 15000 = m := ⟨_, rfl⟩
      have m1 : m ≤ pn := by omega
      have m2 : m ≤ 15000 := by omega
      have HM := Lib.hid hm
      clear hm
      go_wp2
      go_loopg [12, 13] m (fun g' i x wr => ∃ t : Nat, t ≤ m ∧ g' + t = m ∧ i = .int .i64 t ∧ Below w.heap.size w wr ∧ Own wr g n (pf p t))
      case atStart => exact ⟨0, by omega, by omega, rfl, B0.out, O0.out⟩
      case round =>
        obtain ⟨t, ht, hgt, rfl, hB, hO⟩ := hrel
        have GG := Lib.hid hgt
        have BB := Lib.hid hB
        have OO := Lib.hid hO
        clear hgt hB hO O0 B0
        by_cases hlt : t < m
        · have l1 : (t : Int) < pn := by omega
          have l2 : (t : Int) < 15000 := by omega
          have l0 : (0 : Int) ≤ t := by omega
          obtain ⟨pb, po, rfl, hpb, hrd⟩ := HA.out (by omega)
          have hcl : wr.cell? ⟨pb, po + t, none⟩ = some (.int .u8 (p t)) := (hrd.below hpb BB.out) t (by omega)
          by_cases h4 : t < 4
          · have hp4 : plc t = 256 + t := if_pos h4
            have NX := OO.out.set (plc t) (by omega) (p t)
            have NX' := Lib.hid (show Own (wr.setCell ⟨g, 256 + t, none⟩ (.int .u8 (p t))) g n (pf p (t + 1)) by rw [← hp4]; exact NX)
            have BX := Lib.hid (BB.out.setCell (p := ⟨g, 256 + t, none⟩) LG.out (.int .u8 (p t)))
            have hm' := OO.out.mem (256 + t) (by omega)
            have hff := OO.out.free (256 + t)
            have hI : ¬ (260 : Int) ≤ 256 + t := by omega
            have hI2 : (256 : Int) + t < n := by omega
            have hT : ((256 : Int) + t).toNat = 256 + t := by omega
            clear NX hp4 hrd
            go_wp2
            go_roundg (gk - 1)
            exact ⟨t + 1, by omega, by have := GG.out; omega, by simp, BX.out, NX'.out⟩
            case measure => have := GG.out; omega
          · have hp4 : plc t = 332 + t := if_neg h4
            have NX := OO.out.set (plc t) (by omega) (p t)
            have NX' := Lib.hid (show Own (wr.setCell ⟨g, 332 + t, none⟩ (.int .u8 (p t))) g n (pf p (t + 1)) by rw [← hp4]; exact NX)
            have BX := Lib.hid (BB.out.setCell (p := ⟨g, 332 + t, none⟩) LG.out (.int .u8 (p t)))
            have hm' := OO.out.mem (332 + t) (by omega)
            have hff := OO.out.free (332 + t)
            have hI : (260 : Int) ≤ 256 + t := by omega
            have hI2 : (256 : Int) + t + 76 < n := by omega
            have hI3 : (256 : Int) + t + 76 = ((332 + t : Nat) : Int) := by omega
            clear NX hp4 hrd
            go_wp2
            go_roundg (gk - 1)
            exact ⟨t + 1, by omega, by have := GG.out; omega, by simp, BX.out, NX'.out⟩
            case measure => have := GG.out; omega
        · have et : t = m := by omega
          subst et
          have LAST : t = pn ∨ t = 15000 := by have := HM.out; omega
          have hend : ¬ ((t : Int) < pn) ∨ ((t : Int) < pn ∧ ¬ (t : Int) < 15000) := by have := HM.out; omega
          have c7 := OO.out.mem 327 (by omega)
          have c8 := OO.out.mem 328 (by omega)
          have c9 := OO.out.mem 329 (by omega)
          have hff := OO.out.free
          have i7 : (327 : Int) < n := by omega
          have i8 : (328 : Int) < n := by omega
          have i9 : (329 : Int) < n := by omega
          have i10 : (333 : Int) < n := by omega
          have O3 := Lib.hid (show Own (((wr.setCell ⟨g, 327, none⟩ (.int .u8 k)).setCell ⟨g, 328, none⟩ (.int .u8 j)).setCell ⟨g, 329, none⟩ (.int .u8 r)) g n (made0 k j r p t) from ((OO.out.set 327 (by omega) k).set 328 (by omega) j).set 329 (by omega) r)
          have B3 := Lib.hid (show Below w.heap.size w (((wr.setCell ⟨g, 327, none⟩ (.int .u8 k)).setCell ⟨g, 328, none⟩ (.int .u8 j)).setCell ⟨g, 329, none⟩ (.int .u8 r)) from ((BB.out.setCell (p := ⟨g, 327, none⟩) LG.out _).setCell (p := ⟨g, 328, none⟩) LG.out _).setCell (p := ⟨g, 329, none⟩) LG.out _)
          have M0 := Lib.hid (made0_ok (b := (j : Int)) t HK.out (by omega) HR.out HP.out)
          clear LAST
          rcases hend with hend | ⟨he1, he2⟩
          all_goals
            go_upto_region 15 with (fail)
            generalize (((wr.setCell ⟨g, 327, none⟩ (.int .u8 k)).setCell ⟨g, 328, none⟩ (.int .u8 j)).setCell ⟨g, 329, none⟩ (.int .u8 r)) = w3 at O3 B3 ⊢
            clear c7 c8 c9 hff
            go_wp2_with fail
            with_reducible refine (rcheck_l g 0 n n (made0 k j r p t) w3 (by omega) (by omega) (Nat.le_refl _) O3.out.rd M0.out).mono ?_
            rintro e w' ⟨rfl, rfl⟩
            have c3 := O3.out.mem 333 (by omega)
            have hff := O3.out.free
            have O4 := Lib.hid (show Own (w3.setCell ⟨g, 333, none⟩ (.int .u8 (chk (made0 k j r p t) 25))) g n (made k j r p t) from O3.out.set 333 (by omega) _)
            have B4 := Lib.hid (B3.out.setCell (p := ⟨g, 333, none⟩) LG.out (.int .u8 (chk (made0 k j r p t) 25)))
            generalize chk (made0 k j r p t) 25 = ck at O4 B4 ⊢
            generalize made0 k j r p t 333 = c333 at c3
            go_wp2
            go_ret
            have e1 := HG.out
            subst e1
            have e2 := HN.out
            subst e2
            rw [HM.out]
            exact ⟨rfl, O4.out, B4.out⟩
end Go.Proofs.YtifhajdcfjiaiaaDoor
