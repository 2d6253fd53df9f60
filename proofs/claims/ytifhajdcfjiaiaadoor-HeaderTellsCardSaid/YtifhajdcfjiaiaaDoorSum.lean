/-
  The two sums of a header, as the program and as the document reckon them: for every world in which the bytes lie as told; their condition: fewer than 2^31 bytes.
-/
import Derived.Test.YtifhajdcfjiaiaaDoorBase
import Derived.Test.YtifhajdcfjiaiaaDoorPure
import Derived.Deep.QuietTactic
import Derived.BigQuiet
import Derived.LoopN
namespace Go.Proofs.YtifhajdcfjiaiaaDoor
open Go.ChangeShapes Go.WideShapes Go.ChangeAt Go.RowKit
set_option linter.unusedVariables false
set_option maxRecDepth 100000
/-- From the place o of the block b on lie n bytes f. -/
def Rd (w : World) (b o n : Nat) (f : Nat → Int) : Prop := ∀ j, j < n → w.cell? ⟨b, o + j, none⟩ = some (.int .u8 (f j))
theorem tot_shift (f : Nat → Int) (a : Nat) : ∀ k, tot (fun j => f (a + j)) 0 k = tot f a k
  | 0 => rfl
  | k + 1 => by unfold tot; rw [tot_shift f a k, Nat.zero_add]
set_option maxHeartbeats 1000000 in
theorem total_c (b o n c : Nat) (f : Nat → Int) (w : World) (hn : n < 2147483648) (h : Rd w b o n f) (ok : okB f) :
    Calls Tryd.prog 21 #[.slice (some ⟨b, o, none⟩) n c] w fun e w' => e = .returned (.int .u16 (tot f 0 n)) ∧ w = w' := by
  have H := Lib.hid h
  have OK := Lib.hid ok
  clear h ok
  go_enter Tryd.func21, Tryd.ntmps21
  go_wp2
  go_loop [3, 8] (fun s i => ∃ k : Nat, k ≤ n ∧ i = .int .i64 k ∧ s = .int .u16 (tot f 0 k)) (fun _ i => n - (intOf i).toNat)
  case atStart => exact ⟨0, Nat.zero_le _, rfl, rfl⟩
  case round =>
    obtain ⟨k, hk, rfl, rfl⟩ := hrel
    have tb := tot_bd f 0 k
    have fb := OK.out k
    by_cases hlt : k < n
    · have hc := H.out k hlt
      have TS := Lib.hid (show tot f 0 (k + 1) = (tot f 0 k + f k) % 65536 by show (tot f 0 k + f (0 + k)) % 65536 = _; rw [Nat.zero_add])
      generalize tot f 0 k = s at tb TS ⊢
      generalize f k = x at fb hc TS ⊢
      go_wp2
      go_round
      case rel => exact ⟨k + 1, by omega, by go_num, by rw [TS.out]; rfl⟩
      case measure => simp [intOf]; omega
    · have e : k = n := by omega
      subst e
      go_wp2
      go_ret
      exact ⟨rfl, rfl⟩
set_option maxHeartbeats 1000000 in
theorem total_0 (a : Option Addr) (c : Nat) (w : World) : Calls Tryd.prog 21 #[.slice a 0 c] w fun e w' => e = .returned (.int .u16 0) ∧ w = w' := by
  go_enter Tryd.func21, Tryd.ntmps21
  go_wp2
  refine wp_loop_rounds 1 ?_
  rw [rounds_succ]
  go_wp2
  go_ret
  exact ⟨rfl, rfl⟩
theorem Rd.part {w : World} {b o n : Nat} {f : Nat → Int} (h : Rd w b o n f) (a m : Nat) (hm : a + m ≤ n) : Rd w b (o + a) m (fun j => f (a + j)) := fun j hj => by
  have := h (a + j) (by omega)
  rwa [show o + (a + j) = o + a + j by omega] at this
theorem Rd.below {w w' : World} {b o n : Nat} {f : Nat → Int} (h : Rd w b o n f) (hl : b < w.heap.size) (hb : Below w.heap.size w w') : Rd w' b o n f := fun j hj => (hb.cell (p := ⟨b, o + j, none⟩) hl).trans (h j hj)
theorem Rd.congr {w : World} {b o n : Nat} {f g : Nat → Int} (h : Rd w b o n f) (e : ∀ j, j < n → f j = g j) : Rd w b o n g := fun j hj => by rw [h j hj, e j hj]
set_option maxHeartbeats 1000000 in
theorem check_s (a : Option Addr) (n c : Nat) (w : World) (hn : n < 336) : Calls Tryd.prog 13 #[.slice a n c] w fun e w' => e = .returned (.int .u8 0) ∧ w = w' := by
  go_enter Tryd.func13, Tryd.ntmps13
  go_wp2
  go_ret
  exact ⟨rfl, rfl⟩
set_option maxHeartbeats 1000000 in
theorem check_l (b o n c : Nat) (f : Nat → Int) (w : World) (h0 : 336 ≤ n) (hn : n < 2147483648) (hc : n ≤ c) (h : Rd w b o n f) (ok : okB f) :
    Calls Tryd.prog 13 #[.slice (some ⟨b, o, none⟩) n c] w fun e w' => e = .returned (.int .u8 (chk f 25)) ∧ w = w' := by
  have H := Lib.hid h
  have OK := Lib.hid ok
  clear h ok
  go_enter Tryd.func13, Tryd.ntmps13
  go_wp2
  go_loop [3, 12] (fun s i => ∃ k : Nat, k ≤ 25 ∧ i = .int .i64 k ∧ s = .int .u8 (chk f k)) (fun _ i => 25 - (intOf i).toNat)
  case atStart => exact ⟨0, Nat.zero_le _, rfl, rfl⟩
  case round =>
    obtain ⟨k, hk, rfl, rfl⟩ := hrel
    have tb := chk_bd f k
    have fb := OK.out (308 + k)
    by_cases hlt : k < 25
    · have hcl := H.out (308 + k) (by omega)
      rw [← Nat.add_assoc] at hcl
      have TS := Lib.hid (show chk f (k + 1) = (chk f k - f (308 + k) - 1) % 256 from rfl)
      generalize chk f k = s at tb TS ⊢
      generalize f (308 + k) = x at fb hcl TS ⊢
      go_wp2
      go_round
      case rel => exact ⟨k + 1, by omega, by go_num, by rw [TS.out]; congr 1; omega⟩
      case measure => simp [intOf]; omega
    · have e : k = 25 := by omega
      subst e
      go_wp2
      go_ret
      exact ⟨rfl, rfl⟩
set_option maxHeartbeats 1000000 in
theorem rcheck_s (a : Option Addr) (n c : Nat) (w : World) (hn : n < 336) : Calls Tryd.prog 14 #[.slice a n c] w fun e w' => e = .returned (.int .u8 0) ∧ w = w' := by
  go_enter Tryd.func14, Tryd.ntmps14
  go_wp2
  go_ret
  exact ⟨rfl, rfl⟩
set_option maxHeartbeats 1000000 in
theorem rcheck_l (b o n c : Nat) (f : Nat → Int) (w : World) (h0 : 336 ≤ n) (hn : n < 2147483648) (hc : n ≤ c) (h : Rd w b o n f) (ok : okB f) :
    Calls Tryd.prog 14 #[.slice (some ⟨b, o, none⟩) n c] w fun e w' => e = .returned (.int .u8 (chk f 25)) ∧ w = w' := by
  have H := Lib.hid h
  have OK := Lib.hid ok
  clear h ok
  go_enter Tryd.func14, Tryd.ntmps14
  go_wp2
  go_loop [3, 4] (fun s i => ∃ k : Nat, k ≤ 25 ∧ i = .int .i64 (308 + k : Nat) ∧ s = .int .i64 (chk f k)) (fun _ i => 333 - (intOf i).toNat)
  case atStart => exact ⟨0, Nat.zero_le _, rfl, rfl⟩
  case round =>
    obtain ⟨k, hk, rfl, rfl⟩ := hrel
    have tb := chk_bd f k
    have fb := OK.out (308 + k)
    by_cases hlt : k < 25
    · have hcl := H.out (308 + k) (by omega)
      have TS := Lib.hid (show chk f (k + 1) = (chk f k - f (308 + k) - 1) % 256 from rfl)
      generalize chk f k = s at tb TS ⊢
      generalize f (308 + k) = x at fb hcl TS ⊢
      obtain ⟨q, hq⟩ : ∃ q, q = 308 + k := ⟨_, rfl⟩
      have HQ := Lib.hid hq
      have q0 : q ≤ 332 := by omega
      rw [← hq] at hcl ⊢
      clear hq
      go_wp2
      go_round
      case rel => exact ⟨k + 1, by omega, by rw [HQ.out]; go_num, by rw [TS.out]; congr 1; omega⟩
      case measure => simp [intOf]; omega
    · have e : k = 25 := by omega
      subst e
      go_wp2
      go_ret
      exact ⟨rfl, rfl⟩
set_option maxHeartbeats 1000000 in
theorem rsum_s (a : Option Addr) (n c : Nat) (w : World) (hn : n < 336) : Calls Tryd.prog 16 #[.slice a n c] w fun e w' => e = .returned (.int .u16 0) ∧ w = w' := by
  go_enter Tryd.func16, Tryd.ntmps16
  go_wp2
  go_ret
  exact ⟨rfl, rfl⟩
set_option maxHeartbeats 1000000 in
theorem rsum_l (b o n c : Nat) (f : Nat → Int) (w : World) (h0 : 336 ≤ n) (hn : n < 2147483648) (hc : n ≤ c) (h : Rd w b o n f) (ok : okB f) :
    Calls Tryd.prog 16 #[.slice (some ⟨b, o, none⟩) n c] w fun e w' => e = .returned (.int .u16 (sumV n f)) ∧ w = w' := by
  have H := Lib.hid h
  have OK := Lib.hid ok
  clear h ok
  go_enter Tryd.func16, Tryd.ntmps16
  go_wp2
  go_loop [3, 10] (fun s i => ∃ k : Nat, k ≤ n ∧ i = .int .i64 k ∧ s = .int .i64 (rs f k)) (fun _ i => n - (intOf i).toNat)
  case atStart => exact ⟨0, Nat.zero_le _, rfl, rfl⟩
  case round =>
    obtain ⟨k, hk, rfl, rfl⟩ := hrel
    have tb := rs_bd f k
    have fb := OK.out k
    by_cases hlt : k < n
    · have hcl := H.out k hlt
      by_cases hs : k = 334 ∨ k = 335
      · have TS := Lib.hid (show rs f (k + 1) = rs f k from if_pos hs)
        rcases hs with rfl | rfl
        · go_wp2
          go_round
          case rel => exact ⟨335, by omega, rfl, by rw [TS.out]⟩
          case measure => simp [intOf]; omega
        · go_wp2
          go_round
          case rel => exact ⟨336, by omega, rfl, by rw [TS.out]⟩
          case measure => simp [intOf]; omega
      · have TS := Lib.hid (show rs f (k + 1) = (rs f k + f k) % 65536 from if_neg hs)
        generalize rs f k = s at tb TS ⊢
        generalize f k = x at fb hcl TS ⊢
        have e1 : ((k : Int) != 334) = true := by simp; omega
        have e2 : ((k : Int) != 335) = true := by simp; omega
        clear hs
        go_wp2
        go_round
        case rel => exact ⟨k + 1, by omega, by go_num, by rw [TS.out]⟩
        case measure => simp [intOf]; omega
    · have e : k = n := by omega
      subst e
      have RS := Lib.hid (rs_sum k f h0)
      go_wp2
      go_ret
      exact ⟨by rw [← RS.out]; rfl, rfl⟩
theorem sum_fit (n : Nat) (f : Nat → Int) (h : 336 ≤ n) : sumV n f = (tot f 0 334 + tot f 336 (n - 336)) % 65536 := if_neg (by omega)
set_option maxHeartbeats 1000000 in
theorem sum_s (a : Option Addr) (n c : Nat) (w : World) (hn : n < 336) : Calls Tryd.prog 15 #[.slice a n c] w fun e w' => e = .returned (.int .u16 0) ∧ w = w' := by
  go_enter Tryd.func15, Tryd.ntmps15
  go_wp2
  go_ret
  exact ⟨rfl, rfl⟩
theorem Rd.drewN {w : World} {b o n : Nat} {f : Nat → Int} (h : Rd w b o n f) (q : Nat) : Rd (w.drewN q) b o n f := fun j hj => by
  have := h j hj
  simpa [go_sem] using this
theorem flip {P : Program} {g : FuncId} {args : Array Value} {w : World} {v : Ending} (h : Calls P g args w fun e w' => e = v ∧ w = w') : Calls P g args w fun e w' => e = v ∧ w' = w := h.mono fun _ _ h => ⟨h.1, h.2.symm⟩
/-- total, wherever its bytes lie. -/
theorem total_any (a : Option Addr) (b o n c : Nat) (f : Nat → Int) (w : World) (hn : n < 2147483648) (h : Rd w b o n f) (ok : okB f) (ha : 0 < n → a = some ⟨b, o, none⟩) :
    Calls Tryd.prog 21 #[.slice a n c] w fun e w' => e = .returned (.int .u16 (tot f 0 n)) ∧ w = w' := by
  rcases Nat.eq_zero_or_pos n with rfl | h0
  · exact total_0 a c w
  · rw [ha h0]; exact total_c b o n c f w hn h ok
set_option maxHeartbeats 1000000 in
theorem sum_l (b o n c : Nat) (f : Nat → Int) (w : World) (h0 : 336 ≤ n) (hn : n < 2147483648) (hc : n ≤ c) (h : Rd w b o n f) (ok : okB f) :
    Calls Tryd.prog 15 #[.slice (some ⟨b, o, none⟩) n c] w fun e w' => e = .returned (.int .u16 (sumV n f)) ∧ ∃ q, w' = w.drewN q := by
  have H1 := Lib.hid (fun q : Nat => flip (total_c b o 334 c f (w.drewN q) (by omega) (fun j hj => (h.drewN q) j (by omega)) ok))
  have H2 := Lib.hid (fun (q : Nat) (a : Option Addr) (c' : Nat) (ha : 0 < n - 336 → a = some ⟨b, o + 336, none⟩) => flip (total_any a b (o + 336) (n - 336) c' (fun j => f (336 + j)) (w.drewN q) (by omega) ((h.drewN q).part 336 (n - 336) (by omega)) (fun j => ok _) ha))
  have SF := Lib.hid (sum_fit n f h0)
  have TS := Lib.hid (tot_shift f 336 (n - 336))
  have b1 := tot_bd f 0 334
  have b2 := tot_bd (fun j => f (336 + j)) 0 (n - 336)
  have Z := Lib.hid (show n = 336 → tot (fun j => f (336 + j)) 0 (n - 336) = 0 from fun e => by subst e; rfl)
  generalize tot f 0 334 = s1 at H1 SF b1
  generalize tot (fun j => f (336 + j)) 0 (n - 336) = s2 at H2 TS b2 Z
  generalize sumV n f = s3 at SF ⊢
  have E := Lib.hid (show s3 = (s1 + s2) % 65536 by rw [SF.out, TS.out])
  clear h ok SF TS
  go_enter Tryd.func15, Tryd.ntmps15
  go_wp2
  by_cases e : c = 336
  · have hcl : ((c : Int) = 336) := by omega
    subst e
    have en : n = 336 := by omega
    have z := Z.out en
    subst z
    go_quiet ((go_at_call 21; first | with_reducible exact Calls.quiet_of_same (H1.out _) | with_reducible exact Calls.quiet_of_same (flip (total_0 _ _ _))))
    go_wp2
    go_ret
    exact ⟨by rw [E.out]; first | rfl | (rw [show (s1 + 0) % 65536 = s1 by omega]; rfl), _, rfl⟩
  · have hcl : ¬ ((c : Int) = 336) := by omega
    go_quiet ((go_at_call 21; first | with_reducible exact Calls.quiet_of_same (H1.out _) | with_reducible exact Calls.quiet_of_same (H2.out _ _ _ (fun _ => rfl))))
    go_wp2
    go_ret
    exact ⟨by rw [E.out]; first | rfl | (rw [show (s1 + 0) % 65536 = s1 by omega]; rfl), _, rfl⟩
end Go.Proofs.YtifhajdcfjiaiaaDoor
