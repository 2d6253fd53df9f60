/-
 The uppermost sprite at a place, as the document finds it: for every memory of at most 8192 bytes, every line.
-/
import Derived.Test.YtpfbodmadmneiaaTz
import Derived.Test.YtpfbodmadmneiaaShd
import Derived.Deep.Cut
import Derived.BigQuiet
import Derived.WalkSmall
import Derived.Deep.LoopGhost
namespace Go.Proofs.Ytpfbodmadmneiaa
open Go.ChangeShapes Go.WideShapes Go.ChangeAt Go.RowKit
set_option linter.unusedVariables false
set_option linter.unusedSimpArgs false
set_option maxRecDepth 100000
theorem RowG.drew {w : World} {v : Value} {n : Nat} {f : M} {g : Nat} (h : RowG w v n f g) : RowG w.drew v n f g := h
theorem best_zero (p : Int → Bool) (key : Int → Int) (A : M) : bestN p key A 0 = -1 := by unfold bestN; rfl
set_option maxHeartbeats 8000000 in
theorem upr_c (c bk fi se : Int) (c0 : 0 ≤ c) (c1 : c < 256) (bk0 : 0 ≤ bk) (bk1 : bk < 256) (fi0 : 0 ≤ fi) (fi1 : fi < 256) (se0 : 0 ≤ se) (se1 : se < 256) (vr ov : Value) (V O : M) (line : Int) (line0 : -9223372036854775808 ≤ line) (line1 : line ≤ 9223372036854775807) (x : Nat) (hx : x < 160) (S : M) (N : Nat) (a : Option Addr) (cp g : Nat) (hN : N ≤ 10) (hs : ∀ j, j < N → 0 ≤ S j ∧ S j < 40) (w : World) (hR : RowG w (.slice a N cp) N S g) (hM0 : Mem w vr V) (hM1 : Mem w ov O) : Calls Try.prog 62 #[.agg #[.int .u8 c, .int .u8 bk, .int .u8 fi, .int .u8 se], vr, ov, .slice a N cp, .int .i64 (x : Int), .int .i64 line] w fun q_ w' => q_ = .returned (.int .i64 (bestN (seesV V O c line x) (keyV O) S N)) ∧ Below w.heap.size w w' := by
 suffices hall : ∀ (n_ : Nat) (W0 : World), n_ ≤ W0.heap.size → Below n_ W0 w → MemB n_ W0 vr V → MemB n_ W0 ov O → Calls Try.prog 62 #[.agg #[.int .u8 c, .int .u8 bk, .int .u8 fi, .int .u8 se], vr, ov, .slice a N cp, .int .i64 (x : Int), .int .i64 line] w fun q_ w' => q_ = .returned (.int .i64 (bestN (seesV V O c line x) (keyV O) S N)) ∧ Below n_ W0 w' from hall _ _ (Nat.le_refl _) (Below.refl _ _) hM0 hM1
 clear hM0 hM1
 intro n_ W0 hn hB hM0 hM1
 have HN := Lib.hid hn
 have BB := Lib.hid hB
 clear hn hB
 have HM0 := Lib.hid hM0
 clear hM0
 have HM1 := Lib.hid hM1
 clear hM1
 have X0 := Lib.hid (hR.below (own1 w (.cells #[.int .u8 c, .int .u8 bk, .int .u8 fi, .int .u8 se] 74)))
 have HS := Lib.hid hs
 have NN := Lib.hid hN
 have OK := Lib.hid HM1.out.ok
 have DT := Lib.hid (fun (n : Nat) (hn : n < 40) W h1 h2 => dotr_c c bk fi se c0 c1 bk0 bk1 fi0 fi1 se0 se1 vr ov V O (n : Int) (x : Int) line (by omega) (by omega) (by omega) (by omega) line0 line1 W h1 h2)
 have AT := Lib.hid (fun (n : Nat) (hn : n < 40) W h => oat1_c ov O n hn W h)
 have BS := Lib.hid (fun t => best_step (seesV V O c line x) (keyV O) S t)
 have BI := Lib.hid (fun t h => best_in (seesV V O c line x) (keyV O) S t h)
 clear hR hs hN
 go_enter Try.func62, Try.ntmps62
 have Q_ := own1 w (.cells #[.int .u8 c, .int .u8 bk, .int .u8 fi, .int .u8 se] 74)
 have B0 := Lib.hid (vian HN.out BB.out Q_)
 have P0 := Lib.hid (show Has (w.alloc (.cells #[.int .u8 c, .int .u8 bk, .int .u8 fi, .int .u8 se] 74)) w.heap.size #[.int .u8 c, .int .u8 bk, .int .u8 fi, .int .u8 se] by simpa using Has.new w #[.int .u8 c, .int .u8 bk, .int .u8 fi, .int .u8 se] 74)
 have LP := Lib.hid (show n_ ≤ w.heap.size + 0 from Nat.le_add_right_of_le (Nat.le_trans HN.out BB.out.size))
 simp only [Nat.add_zero] at LP
 clear Q_
 go_upto_region 1 with (fail)
 generalize (w.alloc (.cells #[.int .u8 c, .int .u8 bk, .int .u8 fi, .int .u8 se] 74)) = u0 at B0 P0 X0 ⊢
 generalize w.heap.size = pb at P0 LP  ⊢
 go_wp2_with (fail)
 go_loopg [13, 19] N (fun g' bv i wr => ∃ (t : Nat) (b : Int), t ≤ N ∧ g' + t = N ∧ i = .int .i64 (t : Int) ∧ bv = .int .i64 b ∧ b = bestN (seesV V O c line x) (keyV O) S t ∧ Below n_ W0 wr ∧ Has wr pb #[.int .u8 c, .int .u8 bk, .int .u8 fi, .int .u8 se] ∧ RowG wr (.slice a N cp) N S g)
 case atStart => exact ⟨0, -1, by omega, by omega, rfl, rfl, (best_zero _ _ _).symm, B0.out, P0.out, X0.out⟩
 case round =>
  obtain ⟨u20, hw5⟩ : ∃ q_, q_ = wr := ⟨_, rfl⟩
  subst hw5
  obtain ⟨t, b, ht, hg, rfl, rfl, hbb, hB, hP, hX⟩ := hrel
  have TG := Lib.hid hg
  have HB := Lib.hid hbb
  have B20 := Lib.hid hB
  have P20 := Lib.hid hP
  have X20 := Lib.hid hX
  clear hg hbb hB hP hX B0 P0 X0
  by_cases hlt : t < N
  ·skip
   have l1 : (t : Int) < N := by omega
   have l0 : (0 : Int) ≤ t := by omega
   have l9 : (t : Int) < 10 := by have := NN.out; omega
   have hA := HS.out t hlt
   obtain ⟨an, han⟩ := Int.eq_ofNat_of_zero_le hA.1
   have a40 : an < 40 := by omega
   obtain ⟨a1, c1_, e1, hc1, hrow⟩ := X20.out
   injection e1 with ea eb ec
   subst ea ec
   obtain ⟨rfl, hgl, hcs, hfs⟩ := hrow (by omega)
   clear hcs hfs hrow hc1 eb hgl
   have HAN := Lib.hid han
   have DTA := Lib.hid (DT.out an a40)
   have ATA := Lib.hid (AT.out an a40)
   have bs := BS.out t
   have bi := BI.out t (fun j hj => (HS.out j (by omega)).1)
   rw [← HB.out, han] at bs
   rw [← HB.out] at bi
   have es : seesV V O c line x (an : Int) = decide (seeV V O c (an : Int) (x : Int) line ≠ 0) := rfl
   have ekn : keyV O (an : Int) = O (4 * an + 1) := rfl
   rw [es, ekn] at bs
   obtain ⟨d, hd⟩ : ∃ q_, q_ = seeV V O c (an : Int) (x : Int) line := ⟨_, rfl⟩
   rw [← hd] at bs DTA
   obtain ⟨z, hz⟩ : ∃ q_, q_ = decide (d ≠ 0) := ⟨_, rfl⟩
   rw [← hz] at bs DTA
   have BSS := Lib.hid bs
   have BII := Lib.hid bi
   clear bs bi es ekn hd hz hA han DT
   have hcell : u20.cell? ⟨g, t, none⟩ = some (.int .i64 (an : Int)) := by rw [← HAN.out]; exact X20.out.at t hlt
   obtain ⟨hc0, hf0⟩ := P20.out.out
   go_upto_region 5 with (fail)
   clear hc0 hf0
   clear hcell
   have B21 := Lib.hid B20.out.drew
   have P21 := Lib.hid P20.out.drew
   have X21 := Lib.hid X20.out.drew
   clear B20 P20 X20
   refine wp_region_held_drew (S := (fun w' => (∀ o, w'.cell? ⟨pb, o, none⟩ = (#[.int .u8 c, .int .u8 bk, .int .u8 fi, .int .u8 se])[o]?) ∧ (w'.cell? ⟨g, t, none⟩ = some (.int .i64 (an : Int))))) (by kernel_rfl) ⟨P21.out.2.1, by rw [← HAN.out]; exact X21.out.at t hlt⟩ (fun hHeld => ?_)
   generalize World.drew _ = u21 at hHeld B21 P21 X21 ⊢
   refine tzz 0 ?_
   refine tzz 1 ?_
   refine tzz 2 ?_
   refine tzz 3 ?_
   refine tzz 4 ?_
   refine tzz 5 ?_
   refine tzz 6 ?_
   refine tzz 7 ?_
   refine tzz 8 ?_
   refine wpAnyH_ready (rs := [9]) (by kernel_rfl) (by simp) ?_
   refine (acc rfl (fun K hK => ?_) AllReadyH.nil)
   ·skip
    go_simp
    with_reducible refine (DTA.out _ (HM0.out.at HN.out B21.out) (HM1.out.at HN.out B21.out)).mono ?_
    rintro q_ u22 ⟨rfl, hb⟩
    have B22 := Lib.hid (vian HN.out B21.out hb)
    have P22 := Lib.hid (P21.out.below hb)
    have X22 := Lib.hid (X21.out.below hb)
    clear hb
    clear B21 P21 X21
    refine hK.out _ _ ?s10 (fun hNew => ?r10)
    case s10 => exact ⟨P22.out.2.1, by rw [← HAN.out]; exact X22.out.at t hlt⟩
    clear hK K hHeld
    have hHeld := hNew
    clear hNew
    refine tzz 10 ?_
    refine tzz 11 ?_
    refine tzz 12 ?_
    refine tzz 13 ?_
    refine tzz 14 ?_
    refine wpAnyH_done (by kernel_rfl) ?_ _
    clear hHeld
    cases z
    ·skip
     have eb := Lib.hid (show b = bestN (seesV V O c line x) (keyV O) S (t + 1) from by rw [BSS.out]; exact (if_neg (by simp)).symm)
     obtain ⟨hc0, hf0⟩ := P22.out.out
     go_wp2_with (fail)
     clear hc0 hf0
     go_roundg (N - (t + 1))
     case measure => have := TG.out; omega
     case rel => exact ⟨t + 1, b, by omega, by have := TG.out; omega, by simp, rfl, eb.out, B22.out, P22.out, X22.out⟩
    ·skip
     have hcell : u22.cell? ⟨g, t, none⟩ = some (.int .i64 (an : Int)) := by rw [← HAN.out]; exact X22.out.at t hlt
     by_cases hb0 : b < 0
     ·skip
      have eb := Lib.hid (show (an : Int) = bestN (seesV V O c line x) (keyV O) S (t + 1) from by rw [BSS.out]; exact (if_pos ⟨rfl, Or.inl hb0⟩).symm)
      have db : decide (b < 0) = true := decide_eq_true hb0
      obtain ⟨hc0, hf0⟩ := P22.out.out
      go_wp2_with (fail)
      clear hc0 hf0
      go_roundg (N - (t + 1))
      case measure => have := TG.out; omega
      case rel => exact ⟨t + 1, (an : Int), by omega, by have := TG.out; omega, by simp, rfl, eb.out, B22.out, P22.out, X22.out⟩
     ·skip
      have bj := (BII.out (by omega)).2
      obtain ⟨bn, hbn⟩ := Int.eq_ofNat_of_zero_le (show 0 ≤ b by omega)
      subst hbn
      have b40 : bn < 40 := by obtain ⟨j, hj, e⟩ := bj; have := HS.out j (by omega); omega
      clear bj BII
      have ATB := Lib.hid (AT.out bn b40)
      have bss := BSS.out
      rw [show keyV O (bn : Int) = O (4 * bn + 1) from rfl] at bss
      have BST := Lib.hid bss
      clear bss BSS
      have q1 := OK.out (4 * an + 1)
      have q2 := OK.out (4 * bn + 1)
      obtain ⟨k1, hk1⟩ : ∃ q_, q_ = O (4 * an + 1) := ⟨_, rfl⟩
      obtain ⟨k2, hk2⟩ : ∃ q_, q_ = O (4 * bn + 1) := ⟨_, rfl⟩
      rw [← hk1] at ATA BST q1
      rw [← hk2] at ATB BST q2
      clear hk1 hk2
      have db : ¬ (bn : Int) < 0 := by omega
      by_cases hk : k1 < k2
      ·skip
       have eb := Lib.hid (show (an : Int) = bestN (seesV V O c line x) (keyV O) S (t + 1) from by rw [BST.out]; exact (if_pos ⟨rfl, Or.inr hk⟩).symm)
       obtain ⟨hc0, hf0⟩ := P22.out.out
       go_wp2_with (fail)
       clear hc0 hf0
       with_reducible refine (ATA.out _ (HM1.out.at HN.out B22.out)).mono ?_
       rintro q_ w' ⟨rfl, rfl⟩
       obtain ⟨hc0, hf0⟩ := P22.out.out
       go_wp2_with (fail)
       clear hc0 hf0
       with_reducible refine (ATB.out _ (HM1.out.at HN.out B22.out)).mono ?_
       rintro q_ w' ⟨rfl, rfl⟩
       go_wp2_with (fail)
       go_roundg (N - (t + 1))
       case measure => have := TG.out; omega
       case rel => exact ⟨t + 1, (an : Int), by omega, by have := TG.out; omega, by simp, rfl, eb.out, B22.out, P22.out, X22.out⟩
      ·skip
       have eb := Lib.hid (show (bn : Int) = bestN (seesV V O c line x) (keyV O) S (t + 1) from by rw [BST.out]; exact (if_neg (by omega)).symm)
       obtain ⟨hc0, hf0⟩ := P22.out.out
       go_wp2_with (fail)
       clear hc0 hf0
       with_reducible refine (ATA.out _ (HM1.out.at HN.out B22.out)).mono ?_
       rintro q_ w' ⟨rfl, rfl⟩
       obtain ⟨hc0, hf0⟩ := P22.out.out
       go_wp2_with (fail)
       clear hc0 hf0
       with_reducible refine (ATB.out _ (HM1.out.at HN.out B22.out)).mono ?_
       rintro q_ w' ⟨rfl, rfl⟩
       go_wp2_with (fail)
       go_roundg (N - (t + 1))
       case measure => have := TG.out; omega
       case rel => exact ⟨t + 1, (bn : Int), by omega, by have := TG.out; omega, by simp, rfl, eb.out, B22.out, P22.out, X22.out⟩
  ·skip
   have te : t = N := by omega
   subst te
   have l1 : ¬ (t : Int) < t := by omega
   go_wp2_with (fail)
   exact bodyPost_ret (v := .int .i64 b) (by simp [results, Try.results62, go_sem]) rfl ⟨by rw [HB.out], B20.out⟩
end Go.Proofs.Ytpfbodmadmneiaa
