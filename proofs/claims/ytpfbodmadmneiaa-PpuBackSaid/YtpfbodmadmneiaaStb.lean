/-
  Go's stable sort over at most ten numbers, and what the program hands it: for every sprite memory of at most 8192 bytes.
-/
import Derived.Test.YtpfbodmadmneiaaIns
import Derived.Deep.Cut
import Derived.BigQuiet
import Derived.WalkSmall
import Derived.Deep.LoopGhost
namespace Go.Proofs.Ytpfbodmadmneiaa
open Go.ChangeShapes Go.WideShapes Go.ChangeAt Go.RowKit
set_option linter.unusedVariables false
set_option linter.unusedSimpArgs false
set_option maxRecDepth 100000
theorem SortE.tup {key : Int → Int} {S : M} {n c g : Nat} {a : Option Addr} {w : World} {v v2 : Value} {e : Ending} {w' : World} (h : SortE key S n a c g w v e w') : SortE key S n a c g w v2 (.returned v2) w' := ⟨rfl, h.2⟩
set_option maxHeartbeats 2000000 in
theorem stb_c (ov : Value) (O : M) (cb : Nat) (S : M) (a : Option Addr) (n c g : Nat) (hn : n ≤ 10) (w : World) (hR : RowG w (.slice a n c) n S g) (hs : ∀ j, j < n → 0 ≤ S j ∧ S j < 40) (m : Nat) (hM : MemB m w ov O) (hmg : m ≤ g) (hg : m ≤ w.heap.size) (hcb : cb ≠ g) (hC : Has w cb #[ov]) :
    Calls Try.prog 96 #[.slice a n c, .int .i64 (n : Int), .func (.func 91) #[] #[.pointer (some ⟨cb, 0, none⟩)]] w (SortE (keyV O) S n a c g w (.tuple #[])) := by
  have IN := Lib.hid (ins_c ov O cb S a n c g hn w hR hs m hM hmg hg hcb hC)
  have n10 : (n : Int) ≤ 10 := by omega
  have n20 : ¬ (20 : Int) ≤ n := by omega
  have n21 : ¬ (20 : Int) < n := by omega
  clear hR hs hM hg hmg hcb hC
  go_enter Try.func96, Try.ntmps96
  go_wp2
  go_loopg [7, 8] 1 (fun g1 s7 s8 wr => s7 = .int .i64 0 ∧ s8 = .int .i64 20 ∧ w = wr)
  case atStart => exact ⟨rfl, rfl, rfl⟩
  case round =>
    obtain ⟨rfl, rfl, rfl⟩ := hrel
    go_wp2_with (fail)
    with_reducible refine IN.out.mono ?_
    rintro q_ u1 h1
    have E1 := Lib.hid h1
    obtain ⟨rfl, _⟩ := h1
    go_wp2
    go_loopg [6] 1 (fun g1 s6 wr => s6 = .int .i64 20 ∧ u1 = wr)
    case atStart => exact ⟨rfl, rfl⟩
    case round =>
      obtain ⟨rfl, rfl⟩ := hrel
      go_wp2
      exact bodyPost_ret (v := .tuple #[]) (by simp [results, Try.results96, go_sem]) rfl E1.out
set_option maxHeartbeats 2000000 in
theorem srt_c (ov : Value) (O : M) (cb : Nat) (S : M) (a : Option Addr) (n c g : Nat) (hn : n ≤ 10) (w : World) (hR : RowG w (.slice a n c) n S g) (hs : ∀ j, j < n → 0 ≤ S j ∧ S j < 40) (m : Nat) (hM : MemB m w ov O) (hmg : m ≤ g) (hg : m ≤ w.heap.size) (hcb : cb ≠ g) (hC : Has w cb #[ov]) :
    Calls Try.prog 90 #[.slice a n c, .func (.func 91) #[] #[.pointer (some ⟨cb, 0, none⟩)]] w (SortE (keyV O) S n a c g w (.tuple #[])) := by
  have IN := Lib.hid (stb_c ov O cb S a n c g hn w hR hs m hM hmg hg hcb hC)
  clear hR hs hM hg hmg hcb hC
  go_enter Try.func90, Try.ntmps90
  go_wp2_with (fail)
  with_reducible refine IN.out.mono ?_
  rintro q_ u1 h1
  have E1 := Lib.hid h1
  obtain ⟨rfl, _⟩ := h1
  go_wp2
  exact bodyPost_ret (v := .tuple #[]) (by simp [results, Try.results90, go_sem]) rfl E1.out
set_option maxHeartbeats 2000000 in
theorem upf_c (ov : Value) (O : M) (S : M) (a : Option Addr) (n c g : Nat) (hn : n ≤ 10) (w : World) (hR : RowG w (.slice a n c) n S g) (hs : ∀ j, j < n → 0 ≤ S j ∧ S j < 40) (m : Nat) (hM : MemB m w ov O) (hmg : m ≤ g) (hms : m ≤ w.heap.size) (hg : w.heap.size ≠ g) :
    Calls Try.prog 79 #[ov, .slice a n c] w (SortE (keyV O) S n a c g w (.slice a n c)) := by
  obtain ⟨oa, ol, oc, eov, _⟩ := id hM
  subst eov
  obtain ⟨ov, hov⟩ : ∃ q_, q_ = Value.slice oa ol oc := ⟨_, rfl⟩
  rw [← hov] at hM
  have R0 := Lib.hid (hR.below (own1 w (.cells #[ov] 31)))
  have C0 := Lib.hid (Has.new w #[ov] 31)
  have M0 := Lib.hid (show MemB m (w.alloc (.cells #[ov] 31)) ov O from (Keeps.of_below (b := g) (own1 w (.cells #[ov] 31))).mem hM hmg hms)
  have K0 := Lib.hid (show Keeps g w (w.alloc (.cells #[ov] 31)) from Keeps.of_below (own1 w _))
  have G0 := Lib.hid (show m ≤ (w.alloc (.cells #[ov] 31)).heap.size from Nat.le_trans hms (own1 w (.cells #[ov] 31)).size)
  have N0 := Lib.hid hg
  have HS := Lib.hid hs
  have MG := Lib.hid hmg
  clear hR hM hs hg hms hmg
  subst hov
  go_enter Try.func79, Try.ntmps79
  go_upto_region 1 with (fail)
  generalize w.alloc (.cells #[Value.slice oa ol oc] 31) = u0 at R0 C0 M0 K0 G0 ⊢
  generalize w.heap.size = cb at C0 N0 ⊢
  have IN := Lib.hid (srt_c (.slice oa ol oc) O cb S a n c g hn u0 R0.out HS.out m M0.out MG.out G0.out N0.out C0.out)
  clear R0 HS M0 G0 N0 C0
  go_wp2_with (fail)
  with_reducible refine IN.out.mono ?_
  rintro q_ u1 h1
  have E1 := Lib.hid h1.2
  obtain ⟨rfl, _⟩ := h1
  go_wp2
  obtain ⟨A, h1, h2, h3, h4⟩ := E1.out
  exact bodyPost_ret (v := .slice a n c) (by simp [results, Try.results79, go_sem]) rfl (sortE_mk h1 h2 h3 (K0.out.trans h4))
end Go.Proofs.Ytpfbodmadmneiaa
