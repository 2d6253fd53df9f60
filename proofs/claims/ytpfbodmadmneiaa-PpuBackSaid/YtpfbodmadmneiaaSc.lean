/-
 The sprites of a line, as the program scans them: for every sprite memory of at most 8192 bytes, every line.
-/
import Derived.Test.YtpfbodmadmneiaaTz
import Derived.Test.YtpfbodmadmneiaaRow
import Derived.Deep.Cut
import Derived.BigQuiet
import Derived.WalkSmall
import Derived.Deep.LoopGhost
import Derived.OwnWalk
import Derived.Laws.AppendOwn
import Derived.Laws.OwnMore
namespace Go.Proofs.Ytpfbodmadmneiaa
open Go.ChangeShapes Go.WideShapes Go.ChangeAt Go.RowKit
set_option linter.unusedVariables false
set_option linter.unusedSimpArgs false
set_option maxRecDepth 100000
theorem frozen_of {B : Nat} {w w' : World} (hb : Below B w w') {b : Nat} (h : b < B) (o : Nat) : w'.frozen? ⟨b, o, none⟩ = w.frozen? ⟨b, o, none⟩ := (cell_block (hb.block b h) o).2
theorem has_base {B : Nat} {w w' : World} (hb : Below B w w') {b : Nat} (h : b < B) {A : Array Value} (k : Has w b A) : Has w' b A :=
 ⟨Nat.lt_of_lt_of_le k.1 hb.size, fun o => (hb.cell (p := ⟨b, o, none⟩) h).trans (k.2.1 o), fun o => (frozen_of hb h o).trans (k.2.2 o)⟩
set_option maxHeartbeats 8000000 in
theorem scan_c (c bk fi se : Int) (c0 : 0 ≤ c) (c1 : c < 256) (bk0 : 0 ≤ bk) (bk1 : bk < 256) (fi0 : 0 ≤ fi) (fi1 : fi < 256) (se0 : 0 ≤ se) (se1 : se < 256) (ov : Value) (O : M) (line : Int) (line0 : -9223372036854775808 ≤ line) (line1 : line ≤ 9223372036854775807) (w : World) (hM0 : Mem w ov O) : Calls Try.prog 80 #[.agg #[.int .u8 c, .int .u8 bk, .int .u8 fi, .int .u8 se], ov, .int .i64 line] w  (RowE (scN c O line 40).1 (scN c O line 40).2 w.heap.size w) := by
 suffices hall : ∀ (n_ : Nat) (W0 : World), n_ ≤ W0.heap.size → Below n_ W0 w → MemB n_ W0 ov O → Calls Try.prog 80 #[.agg #[.int .u8 c, .int .u8 bk, .int .u8 fi, .int .u8 se], ov, .int .i64 line] w  (RowE (scN c O line 40).1 (scN c O line 40).2 n_ W0) from hall _ _ (Nat.le_refl _) (Below.refl _ _) hM0
 clear hM0
 intro n_ W0 hn hB hM0
 have HN := Lib.hid hn
 have BB := Lib.hid hB
 clear hn hB
 have HM0 := Lib.hid hM0
 clear hM0
 have ok := HM0.out.ok
 have SP := Lib.hid (fun (t : Nat) (ht : t < 40) W h => spr_c ov O t ht W h)
 have IL := Lib.hid (fun (t : Nat) W => (show Calls Try.prog 93 #[.agg #[.int .u8 c, .int .u8 bk, .int .u8 fi, .int .u8 se], .agg #[.int .u8 (O (4 * t)), .int .u8 (O (4 * t + 1)), .int .u8 (O (4 * t + 2)), .int .u8 (O (4 * t + 3))], .int .i64 line] W fun q_ w' => q_ = .returned (.bool (inV c O t line)) ∧ Below W.heap.size W w' from inl_c c bk fi se c0 c1 bk0 bk1 fi0 fi1 se0 se1 _ _ _ _ (ok _).1 (ok _).2 (ok _).1 (ok _).2 (ok _).1 (ok _).2 (ok _).1 (ok _).2 line line0 line1 W))
 clear ok
 go_enter Try.func80, Try.ntmps80
 have Q_ := own1 w (.cells #[.int .u8 c, .int .u8 bk, .int .u8 fi, .int .u8 se] 81)
 have B0 := Lib.hid (vian HN.out BB.out Q_)
 have P0 := Lib.hid (show Has (w.alloc (.cells #[.int .u8 c, .int .u8 bk, .int .u8 fi, .int .u8 se] 81)) w.heap.size #[.int .u8 c, .int .u8 bk, .int .u8 fi, .int .u8 se] by simpa using Has.new w #[.int .u8 c, .int .u8 bk, .int .u8 fi, .int .u8 se] 81)
 have LP := Lib.hid (show n_ ≤ w.heap.size + 0 from Nat.le_add_right_of_le (Nat.le_trans HN.out BB.out.size))
 simp only [Nat.add_zero] at LP
 clear Q_
 go_upto_region 1 with (fail)
 generalize (w.alloc (.cells #[.int .u8 c, .int .u8 bk, .int .u8 fi, .int .u8 se] 81)) = u0 at B0 P0 ⊢
 generalize w.heap.size = pb at P0 LP  ⊢
 obtain ⟨n3, V3, hn3, b3, m0, gP, z3, q3⟩ : ∃ (n3 : Nat) (V3 : World), n3 ≤ V3.heap.size ∧ Below n3 V3 u0 ∧ MemB n3 V3 ov O ∧ pb < n3 ∧ (∀ w', Below n3 V3 w' → Below n_ W0 w') ∧ n_ ≤ n3 := ⟨u0.heap.size, u0, Nat.le_refl _, Below.refl _ _, HM0.out.at HN.out B0.out, P0.out.1, fun w' h => vian HN.out B0.out h, Nat.le_trans HN.out B0.out.size⟩
 clear B0 HN HM0
 have HN := Lib.hid hn3
 have B0 := Lib.hid b3
 have ZF := Lib.hid z3
 have QF := Lib.hid q3
 have HM0 := Lib.hid m0
 clear hn3 b3 z3 q3 m0
 have GP := Lib.hid gP
 clear LP gP
 have R0 := Lib.hid (World.ownsRow_nil u0 n3 3 1)
 go_wp2_with (fail)
 go_loopg [7, 9] 40 (fun g' v i wr => ∃ (t N : Nat) (F : M), t ≤ 40 ∧ g' + t = 40 ∧ i = .int .i64 t ∧ scN c O line t = (N, F) ∧ wr.ownsRow n3 3 1 v N (il F N) ∧ Below n3 V3 wr ∧ Has wr pb #[.int .u8 c, .int .u8 bk, .int .u8 fi, .int .u8 se])
 case atStart => exact ⟨0, 0, zeroM, by omega, by omega, rfl, sc_zero c O line, R0.out, B0.out, P0.out⟩
 case round =>
  obtain ⟨u20, hw5⟩ : ∃ q_, q_ = wr := ⟨_, rfl⟩
  subst hw5
  obtain ⟨t, N, F, ht, hg, rfl, hs, hR, hB, hP⟩ := hrel
  have HS := Lib.hid hs
  clear hs
  obtain ⟨a, cp, rfl⟩ := own_slice hR
  have TG := Lib.hid hg
  have B20 := Lib.hid hB
  have P20 := Lib.hid hP
  have R20 := Lib.hid hR
  clear hg hB hP hR B0 P0 R0
  have LE := Lib.hid (show N ≤ 10 by have := (sc_le c O line t).1; rw [HS.out] at this; exact this)
  by_cases hlt : t < 40
  ·skip
   have l1 : (t : Int) < 40 := by omega
   have l0 : (0 : Int) ≤ t := by omega
   have SPT := Lib.hid (SP.out t hlt)
   have ILT := Lib.hid (IL.out t)
   by_cases h10 : N = 10
   ·skip
    have e40 := sc_full c O line t (by omega) (by rw [HS.out]; exact h10)
    rw [HS.out] at e40
    have HE := Lib.hid e40
    have d1 : ((N : Int) == 10) = true := by simp; omega
    have H10 := Lib.hid h10
    clear h10 e40 SPT ILT SP IL LE
    go_wp2_with (fail)
    obtain ⟨g, hr, hg⟩ := own_row R20.out
    have he := HE.out
    exact bodyPost_ret (v := .slice a N cp) (by simp [results, Try.results80, go_sem]) rfl (by rw [he]; exact rowE_mk hr (Nat.le_trans QF.out hg) (ZF.out _ B20.out))
   ·skip
    have N10 : N < 10 := by have := LE.out; omega
    have HY := Lib.hid (show inV c O t line = true → scN c O line (t + 1) = (N + 1, upd F N (t : Int)) from fun h => by have := sc_yes c O line t (by rw [HS.out]; exact N10) h; rw [HS.out] at this; exact this)
    have HZ := Lib.hid (show ¬ inV c O t line = true → scN c O line (t + 1) = (N, F) from fun h => by have := sc_no c O line t (fun hh => h hh.2); rw [HS.out] at this; exact this)
    have d1 : ((N : Int) == 10) = false := by simp; omega
    obtain ⟨z, hz⟩ : ∃ q_, q_ = inV c O t line := ⟨_, rfl⟩
    rw [← hz] at ILT HY HZ
    clear hz SP IL LE h10
    obtain ⟨hc0, hf0⟩ := P20.out.out
    go_upto_region 6 with (fail)
    clear hc0 hf0
    have B21 := Lib.hid B20.out.drew
    have P21 := Lib.hid P20.out.drew
    have R21 := Lib.hid R20.out.drew
    clear B20 P20 R20
    refine wp_region_held_drew (S := (fun w' => (∀ o, w'.cell? ⟨pb, o, none⟩ = (#[.int .u8 c, .int .u8 bk, .int .u8 fi, .int .u8 se])[o]?))) (by kernel_rfl) P21.out.2.1 (fun hHeld => ?_)
    generalize World.drew _ = u21 at hHeld B21 P21 R21 ⊢
    refine tzz 0 ?_
    refine tzz 1 ?_
    refine tzz 2 ?_
    refine tzz 4 ?_
    refine wpAnyH_ready (rs := [3]) (by kernel_rfl) (by simp) ?_
    refine (acc rfl (fun K hK => ?_) AllReadyH.nil)
    ·skip
     go_simp
     with_reducible refine (SPT.out _ (HM0.out.at HN.out B21.out)).mono ?_
     rintro q_ u22 ⟨rfl, hb⟩
     have B22 := Lib.hid (vian HN.out B21.out hb)
     have P22 := Lib.hid (P21.out.below hb)
     have R22 := Lib.hid (R21.out.below hb)
     clear hb
     clear B21 P21 R21
     refine hK.out _ _ ?s5 (fun hNew => ?r5)
     case s5 => exact P22.out.2.1
     clear hK K hHeld
     have hHeld := hNew
     clear hNew
     refine wpAnyH_ready (rs := [5]) (by kernel_rfl) (by simp) ?_
     refine (acc rfl (fun K hK => ?_) AllReadyH.nil)
     ·skip
      go_simp
      with_reducible refine (ILT.out _).mono ?_
      rintro q_ u23 ⟨rfl, hb⟩
      have B23 := Lib.hid (vian HN.out B22.out hb)
      have P23 := Lib.hid (P22.out.below hb)
      have R23 := Lib.hid (R22.out.below hb)
      clear hb
      clear B22 P22 R22
      refine hK.out _ _ ?s6 (fun hNew => ?r6)
      case s6 => exact P23.out.2.1
      clear hK K hHeld
      have hHeld := hNew
      clear hNew
      refine wpAnyH_done (by kernel_rfl) ?_ _
      clear hHeld
      cases z
      ·skip
       have ez := Lib.hid (HZ.out (by simp))
       go_wp2
       go_roundg (40 - (t + 1))
       case measure => have := TG.out; omega
       case rel => exact ⟨t + 1, N, F, by omega, by have := TG.out; omega, by simp, ez.out, R23.out, B23.out, P23.out⟩
      ·skip
       have ez := Lib.hid (HY.out rfl)
       obtain ⟨v', w3, hrun, ho, hb⟩ := app_c (t : Int) R23.out (Nat.le_trans HN.out B23.out.size) (by omega)
       have RUN := Lib.hid hrun
       have O3 := Lib.hid ho
       have B3 := Lib.hid (B23.out.trans hb)
       have P3 := Lib.hid (has_base hb GP.out P23.out)
       clear hrun ho hb
       go_wp2_with (at_builtin; refine wpList_append_run rfl _ _ _ _ _ _ rfl rfl rfl RUN.out ?_)
       go_wp2
       go_roundg (40 - (t + 1))
       case measure => have := TG.out; omega
       case rel => exact ⟨t + 1, N + 1, upd F N (t : Int), by omega, by have := TG.out; omega, by simp, ez.out, O3.out, B3.out, P3.out⟩
  ·skip
   have te : t = 40 := by omega
   subst te
   clear SP IL LE
   have HE := Lib.hid HS.out
   have l1 : ¬ ((40 : Nat) : Int) < 40 := by omega
   go_wp2_with (fail)
   obtain ⟨g, hr, hg⟩ := own_row R20.out
   have he := HE.out
   exact bodyPost_ret (v := .slice a N cp) (by simp [results, Try.results80, go_sem]) rfl (by rw [he]; exact rowE_mk hr (Nat.le_trans QF.out hg) (ZF.out _ B20.out))
end Go.Proofs.Ytpfbodmadmneiaa
