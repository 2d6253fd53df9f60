/-
 Go's insertion sort over at most ten numbers, with the program's comparison: the row stands for what it was, and is in order.
-/
import Derived.Test.YtpfbodmadmneiaaTz
import Derived.Test.YtpfbodmadmneiaaSrt
import Derived.Deep.Cut
import Derived.BigQuiet
import Derived.WalkSmall
import Derived.Deep.LoopGhost
namespace Go.Proofs.Ytpfbodmadmneiaa
open Go.ChangeShapes Go.WideShapes Go.ChangeAt Go.RowKit
set_option linter.unusedVariables false
set_option linter.unusedSimpArgs false
set_option maxRecDepth 100000
theorem swap_mid (A : M) (jp : Nat) : upd (upd A (jp + 1) (A jp)) jp (A (jp + 1)) = swapM A jp := rfl
theorem swap_mid2 (A : M) (jp : Nat) : upd (upd A jp (A (jp + 1))) (jp + 1) (A jp) = swapM A jp := by
 funext k
 unfold swapM upd
 by_cases h1 : k = jp
 ·subst h1; rw [if_neg (by omega), if_pos rfl, if_pos rfl]
 ·by_cases h2 : k = jp + 1
  ·subst h2; rw [if_pos rfl, if_neg (by omega), if_pos rfl]
  ·rw [if_neg h2, if_neg h1, if_neg h1, if_neg h2]
theorem RowG.at {w : World} {n c g : Nat} {f : M} (h : RowG w (.slice (some ⟨g, 0, none⟩) n c) n f g) (j : Nat) (hj : j < n) : w.cell? ⟨g, j, none⟩ = some (.int .i64 (f j)) := by
 obtain ⟨a1, c1, e, hc, h⟩ := h
 exact (h (by omega)).2.2.1 j hj
theorem RowG.free {w : World} {n c g : Nat} {f : M} (h : RowG w (.slice (some ⟨g, 0, none⟩) n c) n f g) (j : Nat) (hj : j < n) : w.frozen? ⟨g, j, none⟩ = false := by
 obtain ⟨a1, c1, e, hc, h⟩ := h
 exact (h (by omega)).2.2.2 j
set_option maxHeartbeats 8000000 in
theorem ins_c (ov : Value) (O : M) (cb : Nat) (S : M) (a : Option Addr) (n c g : Nat) (hn : n ≤ 10) (w : World) (hR : RowG w (.slice a n c) n S g) (hs : ∀ j, j < n → 0 ≤ S j ∧ S j < 40) (m : Nat) (hM : MemB m w ov O) (hmg : m ≤ g) (hg : m ≤ w.heap.size) (hcb : cb ≠ g) (hC : Has w cb #[ov]) :
  Calls Try.prog 99 #[.slice a n c, .int .i64 0, .int .i64 (n : Int), .func (.func 91) #[] #[.pointer (some ⟨cb, 0, none⟩)]] w (SortE (keyV O) S n a c g w (.tuple #[])) := by
 have R0 := Lib.hid hR
 have SM0 := Lib.hid (show Same (keyV O) S S n from ⟨hs, fun _ => rfl⟩)
 have MB := Lib.hid hM
 have GS := Lib.hid hg
 have MG := Lib.hid hmg
 have CN := Lib.hid hcb
 have CB := Lib.hid hC
 have K0 := Lib.hid (Keeps.refl g w)
 have U0 := Lib.hid (show Upto (keyV O) S 1 from fun k hk => by omega)
 have NN := Lib.hid hn
 clear hR hs hM hg hmg hcb hC
 go_enter Try.func99, Try.ntmps99
 go_wp2
 go_loopg [8] n (fun g1 vi wr => ∃ (i : Nat) (A : M), vi = .int .i64 (i : Int) ∧ 1 ≤ i ∧ g1 + i = n + 1 ∧ RowG wr (.slice a n c) n A g ∧ Same (keyV O) S A n ∧ Upto (keyV O) A i ∧ Keeps g w wr)
 case atStart => exact ⟨1, S, rfl, by omega, by omega, R0.out, SM0.out, U0.out, K0.out⟩
 case round =>
  obtain ⟨u1, hw5⟩ : ∃ q_, q_ = wr := ⟨_, rfl⟩
  subst hw5
  obtain ⟨i, A, rfl, hi, hg1, hR, hS, hU, hK⟩ := hrel
  have TG := Lib.hid hg1
  have R1 := Lib.hid hR
  have S1 := Lib.hid hS
  have U1 := Lib.hid hU
  have K1 := Lib.hid hK
  clear hg1 hR hS hU hK R0 SM0 K0 U0
  by_cases hlt : i < n
  ·have l1 : (i : Int) < n := by omega
   have l0 : (0 : Int) ≤ i := by omega
   have l2 : (i : Int) < 10 := by have := NN.out; omega
   go_wp2
   go_loopg [9] i (fun g2 vj wr2 => ∃ (j : Nat) (A2 : M), vj = .int .i64 (j : Int) ∧ j ≤ i ∧ g2 = j ∧ RowG wr2 (.slice a n c) n A2 g ∧ Same (keyV O) S A2 n ∧ Sink (keyV O) A2 i j ∧ Keeps g w wr2)
   case atStart => exact ⟨i, A, rfl, Nat.le_refl _, rfl, R1.out, S1.out, U1.out.sink, K1.out⟩
   case round =>
    obtain ⟨u2, hw6⟩ : ∃ q_, q_ = wr := ⟨_, rfl⟩
    subst hw6
    obtain ⟨j, B, rfl, hji, hg2, hR, hS, hU, hK⟩ := hrel
    have TG2 := Lib.hid hg2
    have R2 := Lib.hid hR
    have S2 := Lib.hid hS
    have U2 := Lib.hid hU
    have K2 := Lib.hid hK
    clear hg2 hR hS hU hK R1 S1 U1 K1
    have j9 : (j : Int) < 10 := by omega
    have j00 : (0 : Int) ≤ (j : Int) := by omega
    have jn : (j : Int) < (n : Int) := by omega
    by_cases hj : 0 < j
    ·have j0 : (0 : Int) < (j : Int) := by omega
     have dj : decide ((0 : Int) < (j : Int)) = true := decide_eq_true j0
     obtain ⟨jp, hjp⟩ : ∃ jp, jp = j - 1 := ⟨_, rfl⟩
     have ej : (j : Int) - 1 = (jp : Int) := by omega
     have ew : IntKind.i64.wrap (jp : Int) = (jp : Int) := by rw [IntKind.wrap_i64]; omega
     have p0 : (0 : Int) ≤ (jp : Int) := by omega
     have pn : (jp : Int) < (n : Int) := by omega
     have hj1 : j = jp + 1 := by omega
     have HJ := Lib.hid hj1
     obtain ⟨a1, c1, e1, hc1, hrow⟩ := R2.out
     injection e1 with ea eb ec
     subst ea ec
     obtain ⟨rfl, hgl, hcs, hfs⟩ := hrow (by omega)
     clear hrow hc1 eb hjp hj1
     have b1 := S2.out.bd j (by omega)
     have b2 := S2.out.bd jp (by omega)
     obtain ⟨p, hp⟩ := Int.eq_ofNat_of_zero_le b1.1
     obtain ⟨q, hq⟩ := Int.eq_ofNat_of_zero_le b2.1
     have k1 := hcs j (by omega)
     have k2 := hcs jp (by omega)
     rw [hp] at k1 b1
     rw [hq] at k2 b2
     have BP := Lib.hid hp
     have BQ := Lib.hid hq
     have LS := Lib.hid (fun W h1 h2 => less_c ov O cb p q (by omega) (by omega) W h1 h2)
     have hz := cmpV_neg (O (4 * p + 1)) (O (4 * q + 1))
     obtain ⟨z, hzz⟩ : ∃ q_, q_ = cmpV (O (4 * p + 1)) (O (4 * q + 1)) := ⟨_, rfl⟩
     rw [← hzz] at LS hz
     have ek : (z < 0 ↔ keyV O (B j) < keyV O (B jp)) := by rw [hz, hp, hq]; rfl
     have EK := Lib.hid ek
     clear hzz hz ek hp hq hcs hfs b1 b2
     by_cases hz0 : z < 0
     ·have dz : decide (z < 0) = true := decide_eq_true hz0
      go_upto_region 4 with (fail)
      have R3 := Lib.hid (show RowG u2.drew (.slice (some ⟨g, 0, none⟩) n c) n B g from R2.out)
      have K3 := Lib.hid K2.out.drew
      clear R2 K2
      have k3 := k1
      have k4 := k2
      clear k1 k2
      have k1 : u2.drew.cell? ⟨g, j, none⟩ = some (.int .i64 (p : Int)) := k3
      have k2 : u2.drew.cell? ⟨g, jp, none⟩ = some (.int .i64 (q : Int)) := k4
      clear k3 k4
      refine wp_region_held_drew (S := (fun w' => (w'.cell? ⟨g, j, none⟩ = some (.int .i64 (p : Int))) ∧ (w'.cell? ⟨g, jp, none⟩ = some (.int .i64 (q : Int))))) (by kernel_rfl) ⟨k1, k2⟩ (fun hHeld => ?_)
      generalize World.drew _ = u3 at hHeld R3 K3 k1 k2 ⊢
      refine tzz 0 ?_
      refine tzz 1 ?_
      refine tzz 2 ?_
      refine tzz 3 ?_
      refine tzz 4 ?_
      refine tzz 5 ?_
      refine tzz 6 ?_
      refine tzz 7 ?_
      refine tzz 8 ?_
      refine tzz 9 ?_
      refine tzz 10 ?_
      refine tzz 11 ?_
      refine tzz 12 ?_
      refine tzz 13 ?_
      refine wpAnyH_ready (rs := [14]) (by kernel_rfl) (by simp) ?_
      refine (acc rfl (fun K hK => ?_) AllReadyH.nil)
      ·skip
       go_simp
       with_reducible refine (LS.out _ (K3.out.has CN.out CB.out) ((K3.out.mem MB.out MG.out GS.out).le (Nat.le_trans GS.out K3.out.size))).mono ?_
       rintro q_ u4 ⟨rfl, hb⟩
       have K4 := Lib.hid (K3.out.trans (Keeps.of_below hb))
       have R4 := Lib.hid (R3.out.below hb)
       have k3 := (hb.cell (p := ⟨g, j, none⟩) (World.block_lt_of_cell? _ _ k1)).trans k1
       have k4 := (hb.cell (p := ⟨g, jp, none⟩) (World.block_lt_of_cell? _ _ k2)).trans k2
       clear hb k1 k2 K3 R3
       have k1 := k3
       have k2 := k4
       clear k3 k4
       refine hK.out _ _ ?s39 (fun hNew => ?r39)
       case s39 => exact ⟨k1, k2⟩
       clear hK K hHeld
       have hHeld := hNew
       clear hNew
       refine tzz 15 ?_
       refine tzz 16 ?_
       refine wpAnyH_done (by kernel_rfl) ?_ _
       clear hHeld
       go_upto_region 6 with (fail)
       have R5 := Lib.hid (show RowG u4.drew (.slice (some ⟨g, 0, none⟩) n c) n B g from R4.out)
       have K5 := Lib.hid K4.out.drew
       have k3 : u4.drew.cell? ⟨g, j, none⟩ = some (.int .i64 (p : Int)) := k1
       have k4 : u4.drew.cell? ⟨g, jp, none⟩ = some (.int .i64 (q : Int)) := k2
       clear k1 k2 R4 K4
       refine wp_region_held_drew (S := (fun w' => True)) (by kernel_rfl) trivial (fun hHeld => ?_)
       generalize World.drew _ = u5 at hHeld R5 K5 k3 k4 ⊢
       refine tzz 0 ?_
       refine tzz 1 ?_
       refine tzz 2 ?_
       refine tzz 3 ?_
       refine tzz 4 ?_
       refine tzz 5 ?_
       refine tzz 6 ?_
       refine tzz 7 ?_
       refine tzz 8 ?_
       refine tzz 10 ?_
       refine tzz 11 ?_
       refine tzz 12 ?_
       refine wpAnyH_ready (rs := [9, 13]) (by kernel_rfl) (by simp) ?_
       refine (acc rfl (fun K hK => ?_) (acc rfl (fun K hK => ?_) AllReadyH.nil))
       ·skip
        go_simp
        have R6 := R5
        have K6 := K5
        clear R5 K5
        refine hK.out _ _ ?s13 (fun hNew => ?r13)
        case s13 => exact trivial
        clear hK K hHeld
        have hHeld := hNew
        clear hNew
        refine wpAnyH_ready (rs := [13]) (by kernel_rfl) (by simp) ?_
        refine (acc rfl (fun K hK => ?_) AllReadyH.nil)
        ·skip
         go_simp
         have R7 := R6
         have K7 := K6
         clear R6 K6
         refine hK.out _ _ ?s14 (fun hNew => ?r14)
         case s14 => exact trivial
         clear hK K hHeld
         have hHeld := hNew
         clear hNew
         refine tzz 14 ?_
         refine wpAnyH_ready (rs := [15]) (by kernel_rfl) (by simp) ?_
         refine (acc rfl (fun K hK => ?_) AllReadyH.nil)
         ·skip
          have x1 := R7.out.at j (by omega)
          have x2 := R7.out.free j (by omega)
          go_simp
          clear x1 x2
          have R8 := Lib.hid (R7.out.set j (by omega) (q : Int))
          have K8 := Lib.hid (K7.out.setCell j (.int .i64 (q : Int)))
          clear R7 K7
          clear k3 k4
          refine hK.out _ _ ?s16 (fun hNew => ?r16)
          case s16 => exact trivial
          clear hK K hHeld
          have hHeld := hNew
          clear hNew
          generalize World.setCell _ _ _ = u8 at hHeld R8 K8 ⊢
          refine tzz 16 ?_
          refine wpAnyH_ready (rs := [17]) (by kernel_rfl) (by simp) ?_
          refine (acc rfl (fun K hK => ?_) AllReadyH.nil)
          ·skip
           have x1 := R8.out.at jp (by omega)
           have x2 := R8.out.free jp (by omega)
           go_simp
           clear x1 x2
           have R9 := Lib.hid (R8.out.set jp (by omega) (p : Int))
           have K9 := Lib.hid (K8.out.setCell jp (.int .i64 (p : Int)))
           clear R8 K8
           refine hK.out _ _ ?s18 (fun hNew => ?r18)
           case s18 => exact trivial
           clear hK K hHeld
           have hHeld := hNew
           clear hNew
           generalize World.setCell _ _ _ = u9 at hHeld R9 K9 ⊢
           refine wpAnyH_done (by kernel_rfl) ?_ _
           clear hHeld
           have es : upd (upd B j (q : Int)) jp (p : Int) = swapM B jp := by rw [← BP.out, ← BQ.out, HJ.out]; rfl
           rw [es] at R9
           clear es
           have hk := EK.out.1 hz0
           rw [HJ.out] at hk
           have S9 := Lib.hid (S2.out.swap jp (by omega) hk)
           have U9 := U2.out
           rw [HJ.out] at U9
           have V9 := Lib.hid (U9.swap (by omega) hk)
           clear hk U9 S2 U2 EK
           go_wp2
           go_roundg jp
           case measure => have := TG2.out; omega
           case rel => exact ⟨jp, swapM B jp, by first | rfl | (rw [ej]) | simp, by omega, rfl, R9.out, S9.out, V9.out, K9.out⟩
       ·skip
        go_simp
        have R6 := R5
        have K6 := K5
        clear R5 K5
        refine hK.out _ _ ?s19 (fun hNew => ?r19)
        case s19 => exact trivial
        clear hK K hHeld
        have hHeld := hNew
        clear hNew
        refine wpAnyH_ready (rs := [9]) (by kernel_rfl) (by simp) ?_
        refine (acc rfl (fun K hK => ?_) AllReadyH.nil)
        ·skip
         go_simp
         have R7 := R6
         have K7 := K6
         clear R6 K6
         refine hK.out _ _ ?s20 (fun hNew => ?r20)
         case s20 => exact trivial
         clear hK K hHeld
         have hHeld := hNew
         clear hNew
         refine tzz 14 ?_
         refine wpAnyH_ready (rs := [15]) (by kernel_rfl) (by simp) ?_
         refine (acc rfl (fun K hK => ?_) AllReadyH.nil)
         ·skip
          have x1 := R7.out.at j (by omega)
          have x2 := R7.out.free j (by omega)
          go_simp
          clear x1 x2
          have R8 := Lib.hid (R7.out.set j (by omega) (q : Int))
          have K8 := Lib.hid (K7.out.setCell j (.int .i64 (q : Int)))
          clear R7 K7
          clear k3 k4
          refine hK.out _ _ ?s22 (fun hNew => ?r22)
          case s22 => exact trivial
          clear hK K hHeld
          have hHeld := hNew
          clear hNew
          generalize World.setCell _ _ _ = u8 at hHeld R8 K8 ⊢
          refine tzz 16 ?_
          refine wpAnyH_ready (rs := [17]) (by kernel_rfl) (by simp) ?_
          refine (acc rfl (fun K hK => ?_) AllReadyH.nil)
          ·skip
           have x1 := R8.out.at jp (by omega)
           have x2 := R8.out.free jp (by omega)
           go_simp
           clear x1 x2
           have R9 := Lib.hid (R8.out.set jp (by omega) (p : Int))
           have K9 := Lib.hid (K8.out.setCell jp (.int .i64 (p : Int)))
           clear R8 K8
           refine hK.out _ _ ?s24 (fun hNew => ?r24)
           case s24 => exact trivial
           clear hK K hHeld
           have hHeld := hNew
           clear hNew
           generalize World.setCell _ _ _ = u9 at hHeld R9 K9 ⊢
           refine wpAnyH_done (by kernel_rfl) ?_ _
           clear hHeld
           have es : upd (upd B j (q : Int)) jp (p : Int) = swapM B jp := by rw [← BP.out, ← BQ.out, HJ.out]; rfl
           rw [es] at R9
           clear es
           have hk := EK.out.1 hz0
           rw [HJ.out] at hk
           have S9 := Lib.hid (S2.out.swap jp (by omega) hk)
           have U9 := U2.out
           rw [HJ.out] at U9
           have V9 := Lib.hid (U9.swap (by omega) hk)
           clear hk U9 S2 U2 EK
           go_wp2
           go_roundg jp
           case measure => have := TG2.out; omega
           case rel => exact ⟨jp, swapM B jp, by first | rfl | (rw [ej]) | simp, by omega, rfl, R9.out, S9.out, V9.out, K9.out⟩
     ·have dz : decide (z < 0) = false := decide_eq_false hz0
      have UD := Lib.hid (U2.out.done (fun k hk hh => hz0 (EK.out.2 (by rw [show k = jp by omega] at hh; exact hh))))
      clear U2
      go_upto_region 4 with (fail)
      have R3 := Lib.hid (show RowG u2.drew (.slice (some ⟨g, 0, none⟩) n c) n B g from R2.out)
      have K3 := Lib.hid K2.out.drew
      clear R2 K2
      have k3 := k1
      have k4 := k2
      clear k1 k2
      have k1 : u2.drew.cell? ⟨g, j, none⟩ = some (.int .i64 (p : Int)) := k3
      have k2 : u2.drew.cell? ⟨g, jp, none⟩ = some (.int .i64 (q : Int)) := k4
      clear k3 k4
      refine wp_region_held_drew (S := (fun w' => (w'.cell? ⟨g, j, none⟩ = some (.int .i64 (p : Int))) ∧ (w'.cell? ⟨g, jp, none⟩ = some (.int .i64 (q : Int))))) (by kernel_rfl) ⟨k1, k2⟩ (fun hHeld => ?_)
      generalize World.drew _ = u3 at hHeld R3 K3 k1 k2 ⊢
      refine tzz 0 ?_
      refine tzz 1 ?_
      refine tzz 2 ?_
      refine tzz 3 ?_
      refine tzz 4 ?_
      refine tzz 5 ?_
      refine tzz 6 ?_
      refine tzz 7 ?_
      refine tzz 8 ?_
      refine tzz 9 ?_
      refine tzz 10 ?_
      refine tzz 11 ?_
      refine tzz 12 ?_
      refine tzz 13 ?_
      refine wpAnyH_ready (rs := [14]) (by kernel_rfl) (by simp) ?_
      refine (acc rfl (fun K hK => ?_) AllReadyH.nil)
      ·skip
       go_simp
       with_reducible refine (LS.out _ (K3.out.has CN.out CB.out) ((K3.out.mem MB.out MG.out GS.out).le (Nat.le_trans GS.out K3.out.size))).mono ?_
       rintro q_ u4 ⟨rfl, hb⟩
       have K4 := Lib.hid (K3.out.trans (Keeps.of_below hb))
       have R4 := Lib.hid (R3.out.below hb)
       have k3 := (hb.cell (p := ⟨g, j, none⟩) (World.block_lt_of_cell? _ _ k1)).trans k1
       have k4 := (hb.cell (p := ⟨g, jp, none⟩) (World.block_lt_of_cell? _ _ k2)).trans k2
       clear hb k1 k2 K3 R3
       have k1 := k3
       have k2 := k4
       clear k3 k4
       refine hK.out _ _ ?s56 (fun hNew => ?r56)
       case s56 => exact ⟨k1, k2⟩
       clear hK K hHeld
       have hHeld := hNew
       clear hNew
       refine tzz 15 ?_
       refine tzz 16 ?_
       refine wpAnyH_done (by kernel_rfl) ?_ _
       clear hHeld
       go_wp2
       go_roundg (n + 1 - (i + 1))
       case measure => have := TG.out; omega
       case rel => exact ⟨i + 1, B, by simp, by omega, by have := TG.out; omega, R4.out, S2.out, UD.out, K4.out⟩
    ·have dj : ¬ (0 : Int) < (j : Int) := by omega
     have dj2 : decide ((0 : Int) < (j : Int)) = false := decide_eq_false dj
     have UD := Lib.hid (U2.out.done (fun k hk => by omega))
     clear U2
     go_upto_region 4 with (fail)
     have R3 := Lib.hid (show RowG u2.drew (.slice a n c) n B g from R2.out)
     have K3 := Lib.hid K2.out.drew
     clear R2 K2
     refine wp_region_held_drew (S := (fun w' => True)) (by kernel_rfl) trivial (fun hHeld => ?_)
     generalize World.drew _ = u3 at hHeld R3 K3  ⊢
     refine tzz 0 ?_
     refine tzz 1 ?_
     refine tzz 2 ?_
     refine tzz 3 ?_
     refine tuu 4 rfl ?_
     try simp only [Act.put, qqA, qqB, qqC]
     refine tuu 5 rfl ?_
     try simp only [Act.put, qqA, qqB, qqC]
     refine tuu 6 rfl ?_
     try simp only [Act.put, qqA, qqB, qqC]
     refine tuu 7 rfl ?_
     try simp only [Act.put, qqA, qqB, qqC]
     refine tuu 8 rfl ?_
     try simp only [Act.put, qqA, qqB, qqC]
     refine tuu 9 rfl ?_
     try simp only [Act.put, qqA, qqB, qqC]
     refine tuu 10 rfl ?_
     try simp only [Act.put, qqA, qqB, qqC]
     refine tuu 11 rfl ?_
     try simp only [Act.put, qqA, qqB, qqC]
     refine tuu 12 rfl ?_
     try simp only [Act.put, qqA, qqB, qqC]
     refine tuu 13 rfl ?_
     try simp only [Act.put, qqA, qqB, qqC]
     refine tuu 14 rfl ?_
     try simp only [Act.put, qqA, qqB, qqC]
     refine tuu 15 rfl ?_
     try simp only [Act.put, qqA, qqB, qqC]
     refine tzz 16 ?_
     refine wpAnyH_done (by kernel_rfl) ?_ _
     clear hHeld
     go_wp2
     go_roundg (n + 1 - (i + 1))
     case measure => have := TG.out; omega
     case rel => exact ⟨i + 1, B, by simp, by omega, by have := TG.out; omega, R3.out, S2.out, UD.out, K3.out⟩
  ·have l1 : ¬ (i : Int) < n := by omega
   have UD := Lib.hid (show Upto (keyV O) A n from fun k hk => U1.out k (by omega))
   go_wp2
   exact bodyPost_ret (v := .tuple #[]) (by simp [results, Try.results99, go_sem]) rfl (sortE_mk R1.out S1.out UD.out K1.out)
end Go.Proofs.Ytpfbodmadmneiaa
