/-
  The law's own filled: 65536 bytes out of a few, for every world; its condition: the bytes lie there as told, and are fewer than 2^62.
-/
import Derived.Test.YtngdogldgcgnjaaGreatL1
import Derived.Deep.LoopGhost
import Derived.Deep.Cut
namespace Go.Proofs.YtngdogldgcgnjaaGreat
open Go.ChangeShapes Go.WideShapes Go.ChangeAt Go.RowKit
set_option linter.unusedVariables false
set_option maxRecDepth 100000
/-- What lies at the place a of 65536 bytes filled out of n bytes f. -/
def fillV (n : Nat) (f : Nat → Int) (a : Nat) : Int := if n = 0 then 0 else f ((a + a / 256) % n)
/-- The block M bears 65536 bytes, the first k of them filled. -/
structure Fi (w : World) (M n : Nat) (f : Nat → Int) (k : Nat) : Prop where
  lt : M < w.heap.size
  mem : ∀ a : Nat, a < 65536 → w.cell? ⟨M, a, none⟩ = some (.int .u8 (if a < k then fillV n f a else 0))
  free : ∀ a, w.frozen? ⟨M, a, none⟩ = false
theorem Fi.zero (w : World) (n : Nat) (f : Nat → Int) : Fi (w.alloc (.cells zeroM 5)) w.heap.size n f 0 := by
  have h := Has.new w zeroM 5
  exact ⟨h.1, fun a ha => by rw [h.2.1 a, zeroM_get a ha]; simp, h.2.2⟩
theorem Fi.next {w : World} {M n k : Nat} {f : Nat → Int} (h : Fi w M n f k) (hk : k < 65536) : Fi (w.setCell ⟨M, k, none⟩ (.int .u8 (fillV n f k))) M n f (k + 1) := by
  refine ⟨by simpa using h.lt, fun a ha => ?_, fun a => by simpa [go_sem] using h.free a⟩
  by_cases e : k = a
  · subst e
    rw [World.cell?_setCell_same w _ _ (h.mem k hk), if_pos (by omega)]
  · rw [World.cell?_setCell_other w _ _ _ (by intro h; injection h; contradiction), h.mem a ha]
    by_cases h2 : a < k
    · rw [if_pos h2, if_pos (by omega)]
    · rw [if_neg h2, if_neg (by omega)]
theorem Fi.skip {w : World} {M k : Nat} {f : Nat → Int} (h : Fi w M 0 f k) : Fi w M 0 f (k + 1) :=
  ⟨h.lt, fun a ha => by rw [h.mem a ha]; simp [fillV], h.free⟩
set_option maxHeartbeats 2000000 in
theorem filled_some (b o n c : Nat) (f : Nat → Int) (w : World) (n0 : 0 < n) (n1 : n < 4611686018427387904) (hb : b < w.heap.size) (hm : ∀ j, j < n → w.cell? ⟨b, o + j, none⟩ = some (.int .u8 (f j))) :
    Calls Tryz.prog 12 #[.slice (some ⟨b, o, none⟩) n c] w fun e w' => e = .returned (.slice (some ⟨w.heap.size, 0, none⟩) 65536 65536) ∧ Below w.heap.size w w' ∧ Fi w' w.heap.size n f 65536 := by
  have hmk := mk_run
  have HM := Lib.hid hm
  have HB := Lib.hid hb
  clear hm hb
  go_enter Tryz.func12, Tryz.ntmps12
  go_upto_region 2 with (fail)
  clear hmk
  have F0 := Lib.hid (Fi.zero w n f)
  have B0 := Lib.hid (own1 w (.cells zeroM 5))
  generalize w.alloc (.cells zeroM 5) = w0 at F0 B0 ⊢
  generalize hM : w.heap.size = M at F0 ⊢
  go_wp2
  go_loopg [8] 65536 (fun g i wr => ∃ k : Nat, k ≤ 65536 ∧ g + k = 65536 ∧ i = .int .i64 k ∧ Below w.heap.size w wr ∧ Fi wr M n f k)
  case atStart => exact ⟨0, by omega, rfl, rfl, B0.out, F0.out⟩
  case round =>
    obtain ⟨k, hk, hg, rfl, hB, hT⟩ := hrel
    have GG := Lib.hid hg
    clear hg
    have BB := Lib.hid hB
    have FF := Lib.hid hT
    clear hB hT F0 B0
    by_cases hlt : k < 65536
    · have h0 : (0 : Int) ≤ k := by omega
      have h1 : (k : Int) < 65536 := by omega
      have hn : (0 : Int) < n := by omega
      have HK := Lib.hid hk
      have HL := Lib.hid hlt
      have N1 := Lib.hid n1
      have hn1 : (n : Int) < 4611686018427387904 := by omega
      clear hk hlt n1
      go_upto_region 6 with (fail)
      have hne : ¬ (n : Int) = 0 := by omega
      obtain ⟨q, hq0⟩ : ∃ q : Nat, (k + k / 256) % n = q := ⟨_, rfl⟩
      have hq : ((k : Int) + (k : Int) / 256) % (n : Int) = (q : Int) := by rw [← hq0, Int.natCast_emod, Int.natCast_add, Int.natCast_ediv]; rfl
      have hq2 : ((k : Int) + (k : Int) / 256).tmod (n : Int) = (q : Int) := by rw [Int.tmod_eq_emod_of_nonneg (by omega)]; exact hq
      have hq3 : (k : Int).tdiv 256 = (k : Int) / 256 := Int.tdiv_eq_ediv_of_nonneg h0
      have hqn : (q : Int) < n := by have := Nat.mod_lt (k + k / 256) n0; omega
      have Q0 := Lib.hid hq0
      have hr : wr.cell? ⟨b, o + q, none⟩ = some (.int .u8 (f q)) := by
        rw [BB.out.cell (p := ⟨b, o + q, none⟩) HB.out]; exact HM.out q (by omega)
      have hmm := FF.out.mem k HL.out
      have hff := FF.out.free k
      have KI := Lib.hid h1
      clear hq0
      go_upto_region 7 with (fail)
      have e : f q = fillV n f k := by unfold fillV; rw [if_neg (by omega), Q0.out]
      rw [e]
      have FN := Lib.hid (FF.out.next HL.out)
      have BN := Lib.hid (BB.out.setCell (p := ⟨M, k, none⟩) (by show w.heap.size ≤ M; omega) (.int .u8 (fillV n f k)))
      generalize World.setCell wr ⟨M, k, none⟩ (.int .u8 (fillV n f k)) = ws at FN BN ⊢
      clear hmm hff hr e hq hq2 hq3 FF BB
      go_wp2
      go_roundg (gk - 1)
      exact ⟨k + 1, by have := HL.out; omega, by have := GG.out; have := HL.out; omega, by simp, BN.out, FN.out⟩
      case measure => have := GG.out; have := HL.out; omega
    · have e : k = 65536 := by omega
      subst e
      go_wp2
      go_ret
      subst hM
      exact ⟨rfl, BB.out, FF.out⟩
set_option maxHeartbeats 2000000 in
theorem filled_none (a : Option Addr) (c : Nat) (f : Nat → Int) (w : World) :
    Calls Tryz.prog 12 #[.slice a 0 c] w fun e w' => e = .returned (.slice (some ⟨w.heap.size, 0, none⟩) 65536 65536) ∧ Below w.heap.size w w' ∧ Fi w' w.heap.size 0 f 65536 := by
  have hmk := mk_run
  go_enter Tryz.func12, Tryz.ntmps12
  go_upto_region 2 with (fail)
  clear hmk
  have F0 := Lib.hid (Fi.zero w 0 f)
  have B0 := Lib.hid (own1 w (.cells zeroM 5))
  generalize w.alloc (.cells zeroM 5) = w0 at F0 B0 ⊢
  generalize hM : w.heap.size = M at F0 ⊢
  go_wp2
  go_loopg [8] 65536 (fun g i wr => ∃ k : Nat, k ≤ 65536 ∧ g + k = 65536 ∧ i = .int .i64 k ∧ Below w.heap.size w wr ∧ Fi wr M 0 f k)
  case atStart => exact ⟨0, by omega, rfl, rfl, B0.out, F0.out⟩
  case round =>
    obtain ⟨k, hk, hg, rfl, hB, hT⟩ := hrel
    have GG := Lib.hid hg
    have BB := Lib.hid hB
    have FF := Lib.hid hT
    clear hB hT F0 B0 hg
    by_cases hlt : k < 65536
    · have h0 : (0 : Int) ≤ k := by omega
      have h1 : (k : Int) < 65536 := by omega
      have HL := Lib.hid hlt
      clear hk hlt
      go_wp2
      go_roundg (gk - 1)
      exact ⟨k + 1, by have := HL.out; omega, by have := GG.out; have := HL.out; omega, by simp, BB.out, FF.out.skip⟩
      case measure => have := GG.out; have := HL.out; omega
    · have e : k = 65536 := by omega
      subst e
      go_wp2
      go_ret
      subst hM
      exact ⟨rfl, BB.out, FF.out⟩
end Go.Proofs.YtngdogldgcgnjaaGreat
