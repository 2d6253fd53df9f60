/-
  Which interrupts there are, on the document's own memory: for every world; the memory is there.
-/
import Derived.Test.YtngdogldgcgnjaaGreatZ31
import Derived.Deep.Cut
import Derived.Deep.LoopGhost
import Derived.BigQuiet
import Derived.WalkSmall
import Derived.LoopN
import Derived.StillTailTactics
set_option maxRecDepth 100000
set_option maxHeartbeats 8000000
namespace Go.Proofs.YtngdogldgcgnjaaGreat
open Go.ChangeShapes Go.WideShapes Go.ChangeAt Go.RowKit
open Reg
set_option linter.unusedVariables false
section
variable {w : World} {P R M tb n : Nat} {v : Value} {y : Sy}
def pq (X Y t : Int) : Int := if X / t % 2 = 1 then (if Y / t % 2 = 1 then t else 0) else 0
def pl (X Y : Int) : Nat → Int
 | 0 => 0
 | 1 => pq X Y 1
 | 2 => pq X Y 1 + pq X Y 2
 | 3 => pq X Y 1 + pq X Y 2 + pq X Y 4
 | 4 => pq X Y 1 + pq X Y 2 + pq X Y 4 + pq X Y 8
 | _ => pq X Y 1 + pq X Y 2 + pq X Y 4 + pq X Y 8 + pq X Y 16
theorem pl_low : ∀ a b : Fin 32, pl a.val b.val 5 = ((a.val &&& b.val : Nat) : Int) := by decide +kernel
theorem pl_mod (X Y : Int) (x0 : 0 ≤ X) (y0 : 0 ≤ Y) : pl X Y 5 = pl (X % 32) (Y % 32) 5 := by
 show pq X Y 1 + pq X Y 2 + pq X Y 4 + pq X Y 8 + pq X Y 16 = pq (X % 32) (Y % 32) 1 + pq (X % 32) (Y % 32) 2 + pq (X % 32) (Y % 32) 4 + pq (X % 32) (Y % 32) 8 + pq (X % 32) (Y % 32) 16
 unfold pq
 rw [show X % 32 / 1 % 2 = X / 1 % 2 by omega, show X % 32 / 2 % 2 = X / 2 % 2 by omega, show X % 32 / 4 % 2 = X / 4 % 2 by omega, show X % 32 / 8 % 2 = X / 8 % 2 by omega, show X % 32 / 16 % 2 = X / 16 % 2 by omega,
  show Y % 32 / 1 % 2 = Y / 1 % 2 by omega, show Y % 32 / 2 % 2 = Y / 2 % 2 by omega, show Y % 32 / 4 % 2 = Y / 4 % 2 by omega, show Y % 32 / 8 % 2 = Y / 8 % 2 by omega, show Y % 32 / 16 % 2 = Y / 16 % 2 by omega]
theorem m31 (z : Int) (h0 : 0 ≤ z) (h1 : z < 256) : bits .and .u8 z 31 = z % 32 := byte_all (P := fun z => bits .and .u8 z 31 = z % 32) (by decide +kernel) z h0 h1
theorem pl_eq (X Y : Int) (x0 : 0 ≤ X) (x1 : X < 256) (y0 : 0 ≤ Y) (y1 : Y < 256) : pl X Y 5 = bits .and .u8 (bits .and .u8 X Y) 31 := by
 have hb := bits_b .and X Y; rw [m31 _ hb.1 hb.2, u8_and X Y x0 x1 y0 y1, pl_mod X Y x0 y0]
 have h := pl_low ⟨X.toNat % 32, by omega⟩ ⟨Y.toNat % 32, by omega⟩
 dsimp only at h
 rw [show ((X.toNat % 32 : Nat) : Int) = X % 32 by omega, show ((Y.toNat % 32 : Nat) : Int) = Y % 32 by omega] at h
 rw [h, ← Nat.and_mod_two_pow (n := 5) (a := X.toNat) (b := Y.toNat)]
 rfl
def TT (k : Nat) (t : Int) : Prop := (k = 0 ∧ t = 1) ∨ (k = 1 ∧ t = 2) ∨ (k = 2 ∧ t = 4) ∨ (k = 3 ∧ t = 8) ∨ (k = 4 ∧ t = 16) ∨ (k = 5 ∧ t = 32)
theorem pq_b (X Y t : Int) (h : 0 ≤ t) : 0 ≤ pq X Y t ∧ pq X Y t ≤ t := by unfold pq; split <;> (try split) <;> omega
theorem pl_b (X Y : Int) : ∀ k : Nat, 0 ≤ pl X Y k ∧ pl X Y k ≤ (match k with | 0 => 0 | 1 => 1 | 2 => 3 | 3 => 7 | 4 => 15 | _ => 31)
 | 0 => ⟨Int.le_refl _, Int.le_refl _⟩
 | 1 => by have a := pq_b X Y 1 (by omega); show 0 ≤ pq X Y 1 ∧ pq X Y 1 ≤ 1; omega
 | 2 => by have a := pq_b X Y 1 (by omega); have b := pq_b X Y 2 (by omega); show 0 ≤ pq X Y 1 + pq X Y 2 ∧ pq X Y 1 + pq X Y 2 ≤ 3; omega
 | 3 => by have a := pq_b X Y 1 (by omega); have b := pq_b X Y 2 (by omega); have c := pq_b X Y 4 (by omega); show 0 ≤ pq X Y 1 + pq X Y 2 + pq X Y 4 ∧ pq X Y 1 + pq X Y 2 + pq X Y 4 ≤ 7; omega
 | 4 => by have a := pq_b X Y 1 (by omega); have b := pq_b X Y 2 (by omega); have c := pq_b X Y 4 (by omega); have d := pq_b X Y 8 (by omega); show 0 ≤ pq X Y 1 + pq X Y 2 + pq X Y 4 + pq X Y 8 ∧ pq X Y 1 + pq X Y 2 + pq X Y 4 + pq X Y 8 ≤ 15; omega
 | k + 5 => by have a := pq_b X Y 1 (by omega); have b := pq_b X Y 2 (by omega); have c := pq_b X Y 4 (by omega); have d := pq_b X Y 8 (by omega); have e := pq_b X Y 16 (by omega); show 0 ≤ pq X Y 1 + pq X Y 2 + pq X Y 4 + pq X Y 8 + pq X Y 16 ∧ pq X Y 1 + pq X Y 2 + pq X Y 4 + pq X Y 8 + pq X Y 16 ≤ 31; omega
theorem mpend_p (h0 : Sys noD memC w P R M tb v y n) : Calls Tryz.prog 20 #[.pointer (some ⟨R, 0, none⟩)] w (PE noD memC P R M tb v w (.int .u8 (pend y.m)) y n) := by
 obtain ⟨q, hR⟩ := h0.bus.ram; have hc0 : w.cell? ⟨R, 0, none⟩ = some (.slice (some ⟨M, 0, none⟩) 65536 65536) := hR.2.1 0; have h1 : w.cell? ⟨M, 65295, none⟩ = some (.int .u8 (y.m 65295)) := h0.bus.mem 65295 (by decide); have h2 : w.cell? ⟨M, 65535, none⟩ = some (.int .u8 (y.m 65535)) := h0.bus.mem 65535 (by decide); have ox := h0.okm 65295; have oy := h0.okm 65535
 have E := Lib.hid (show pl (y.m 65295) (y.m 65535) 5 = pend y.m from pl_eq _ _ ox.1 ox.2 oy.1 oy.2)
 generalize y.m 65295 = X at h1 ox E; generalize y.m 65535 = Y at h2 oy E; obtain ⟨x0, x1⟩ := ox; obtain ⟨y0, y1⟩ := oy; have H0 := Lib.hid h0; clear hR h0; go_enter Tryz.func20, Tryz.ntmps20; go_wp2
 go_quiet (fail)
 have SQ := Lib.hid (H0.out.below (below_drewN (Below.refl _ _) nq))
 have MQ := Lib.hid (show PM P R M tb v w v (w.drewN nq) from PM.of (below_drewN (Below.refl _ _) nq))
 generalize w.drewN nq = w1 at SQ MQ ⊢; clear hc0 h1 h2 H0; go_wp2
 go_loopg [5, 6] 5 (fun g' o b wr => ∃ (k : Nat) (s t : Int), g' + k = 5 ∧ TT k t ∧ o = .int .i64 s ∧ b = .int .i64 t ∧ s = pl X Y k ∧ (0 ≤ s ∧ s ≤ 31) ∧ wr = w1)
 case atStart => exact ⟨0, 0, 1, by omega, Or.inl ⟨rfl, rfl⟩, rfl, rfl, rfl, by omega, rfl⟩
 case round =>
  obtain ⟨k, s, t, hg, ht, rfl, rfl, hs, hsb, rfl⟩ := hrel; have HS := Lib.hid hs; have TG := Lib.hid hg; obtain ⟨s0, s1⟩ := hsb; clear hs hg
  rcases ht with ⟨rfl, rfl⟩ | ⟨rfl, rfl⟩ | ⟨rfl, rfl⟩ | ⟨rfl, rfl⟩ | ⟨rfl, rfl⟩ | ⟨rfl, rfl⟩
  ·skip
   rcases (by omega : X % 2 = 0 ∨ X % 2 = 1) with g1 | g1
   ·go_wp2
    go_roundg (gk - 1)
    refine ⟨1, s, 2, by have := TG.out; omega, by unfold TT; omega, by simp, by simp, ?_, ?_, rfl⟩
    ·have e2 : pl X Y 1 = pl X Y 0 + pq X Y 1 := by show pq X Y 1 = 0 + pq X Y 1; omega
     have e3 : pq X Y 1 = 0 := by unfold pq; rw [if_neg (by omega)]
     rw [e2, e3, ← HS.out]; omega
    ·have e := HS.out
     have b := pl_b X Y 0; rw [← e] at b; have b2 : s ≤ 0 := b.2
     omega
    case measure => have := TG.out; omega
   ·rcases (by omega : Y % 2 = 0 ∨ Y % 2 = 1) with g2 | g2
    ·go_wp2
     go_roundg (gk - 1)
     refine ⟨1, s, 2, by have := TG.out; omega, by unfold TT; omega, by simp, by simp, ?_, ?_, rfl⟩
     ·have e2 : pl X Y 1 = pl X Y 0 + pq X Y 1 := by show pq X Y 1 = 0 + pq X Y 1; omega
      have e3 : pq X Y 1 = 0 := by unfold pq; rw [if_pos (by omega), if_neg (by omega)]
      rw [e2, e3, ← HS.out]; omega
     ·have e := HS.out
      have b := pl_b X Y 0; rw [← e] at b; have b2 : s ≤ 0 := b.2
      omega
     case measure => have := TG.out; omega
    ·go_wp2
     go_roundg (gk - 1)
     refine ⟨1, s + 1, 2, by have := TG.out; omega, by unfold TT; omega, by simp, by simp, ?_, ?_, rfl⟩
     ·have e2 : pl X Y 1 = pl X Y 0 + pq X Y 1 := by show pq X Y 1 = 0 + pq X Y 1; omega
      have e3 : pq X Y 1 = 1 := by unfold pq; rw [if_pos (by omega), if_pos (by omega)]
      rw [e2, e3, ← HS.out]
     ·have e := HS.out
      have b := pl_b X Y 0; rw [← e] at b; have b2 : s ≤ 0 := b.2
      omega
     case measure => have := TG.out; omega
  ·skip
   rcases (by omega : X / 2 % 2 = 0 ∨ X / 2 % 2 = 1) with g1 | g1
   ·go_wp2
    go_roundg (gk - 1)
    refine ⟨2, s, 4, by have := TG.out; omega, by unfold TT; omega, by simp, by simp, ?_, ?_, rfl⟩
    ·have e2 : pl X Y 2 = pl X Y 1 + pq X Y 2 := by rfl
     have e3 : pq X Y 2 = 0 := by unfold pq; rw [if_neg (by omega)]
     rw [e2, e3, ← HS.out]; omega
    ·have e := HS.out
     have b := pl_b X Y 1; rw [← e] at b; have b2 : s ≤ 1 := b.2
     omega
    case measure => have := TG.out; omega
   ·rcases (by omega : Y / 2 % 2 = 0 ∨ Y / 2 % 2 = 1) with g2 | g2
    ·go_wp2
     go_roundg (gk - 1)
     refine ⟨2, s, 4, by have := TG.out; omega, by unfold TT; omega, by simp, by simp, ?_, ?_, rfl⟩
     ·have e2 : pl X Y 2 = pl X Y 1 + pq X Y 2 := by rfl
      have e3 : pq X Y 2 = 0 := by unfold pq; rw [if_pos (by omega), if_neg (by omega)]
      rw [e2, e3, ← HS.out]; omega
     ·have e := HS.out
      have b := pl_b X Y 1; rw [← e] at b; have b2 : s ≤ 1 := b.2
      omega
     case measure => have := TG.out; omega
    ·go_wp2
     go_roundg (gk - 1)
     refine ⟨2, s + 2, 4, by have := TG.out; omega, by unfold TT; omega, by simp, by simp, ?_, ?_, rfl⟩
     ·have e2 : pl X Y 2 = pl X Y 1 + pq X Y 2 := by rfl
      have e3 : pq X Y 2 = 2 := by unfold pq; rw [if_pos (by omega), if_pos (by omega)]
      rw [e2, e3, ← HS.out]
     ·have e := HS.out
      have b := pl_b X Y 1; rw [← e] at b; have b2 : s ≤ 1 := b.2
      omega
     case measure => have := TG.out; omega
  ·skip
   rcases (by omega : X / 4 % 2 = 0 ∨ X / 4 % 2 = 1) with g1 | g1
   ·go_wp2
    go_roundg (gk - 1)
    refine ⟨3, s, 8, by have := TG.out; omega, by unfold TT; omega, by simp, by simp, ?_, ?_, rfl⟩
    ·have e2 : pl X Y 3 = pl X Y 2 + pq X Y 4 := by rfl
     have e3 : pq X Y 4 = 0 := by unfold pq; rw [if_neg (by omega)]
     rw [e2, e3, ← HS.out]; omega
    ·have e := HS.out
     have b := pl_b X Y 2; rw [← e] at b; have b2 : s ≤ 3 := b.2
     omega
    case measure => have := TG.out; omega
   ·rcases (by omega : Y / 4 % 2 = 0 ∨ Y / 4 % 2 = 1) with g2 | g2
    ·go_wp2
     go_roundg (gk - 1)
     refine ⟨3, s, 8, by have := TG.out; omega, by unfold TT; omega, by simp, by simp, ?_, ?_, rfl⟩
     ·have e2 : pl X Y 3 = pl X Y 2 + pq X Y 4 := by rfl
      have e3 : pq X Y 4 = 0 := by unfold pq; rw [if_pos (by omega), if_neg (by omega)]
      rw [e2, e3, ← HS.out]; omega
     ·have e := HS.out
      have b := pl_b X Y 2; rw [← e] at b; have b2 : s ≤ 3 := b.2
      omega
     case measure => have := TG.out; omega
    ·go_wp2
     go_roundg (gk - 1)
     refine ⟨3, s + 4, 8, by have := TG.out; omega, by unfold TT; omega, by simp, by simp, ?_, ?_, rfl⟩
     ·have e2 : pl X Y 3 = pl X Y 2 + pq X Y 4 := by rfl
      have e3 : pq X Y 4 = 4 := by unfold pq; rw [if_pos (by omega), if_pos (by omega)]
      rw [e2, e3, ← HS.out]
     ·have e := HS.out
      have b := pl_b X Y 2; rw [← e] at b; have b2 : s ≤ 3 := b.2
      omega
     case measure => have := TG.out; omega
  ·skip
   rcases (by omega : X / 8 % 2 = 0 ∨ X / 8 % 2 = 1) with g1 | g1
   ·go_wp2
    go_roundg (gk - 1)
    refine ⟨4, s, 16, by have := TG.out; omega, by unfold TT; omega, by simp, by simp, ?_, ?_, rfl⟩
    ·have e2 : pl X Y 4 = pl X Y 3 + pq X Y 8 := by rfl
     have e3 : pq X Y 8 = 0 := by unfold pq; rw [if_neg (by omega)]
     rw [e2, e3, ← HS.out]; omega
    ·have e := HS.out
     have b := pl_b X Y 3; rw [← e] at b; have b2 : s ≤ 7 := b.2
     omega
    case measure => have := TG.out; omega
   ·rcases (by omega : Y / 8 % 2 = 0 ∨ Y / 8 % 2 = 1) with g2 | g2
    ·go_wp2
     go_roundg (gk - 1)
     refine ⟨4, s, 16, by have := TG.out; omega, by unfold TT; omega, by simp, by simp, ?_, ?_, rfl⟩
     ·have e2 : pl X Y 4 = pl X Y 3 + pq X Y 8 := by rfl
      have e3 : pq X Y 8 = 0 := by unfold pq; rw [if_pos (by omega), if_neg (by omega)]
      rw [e2, e3, ← HS.out]; omega
     ·have e := HS.out
      have b := pl_b X Y 3; rw [← e] at b; have b2 : s ≤ 7 := b.2
      omega
     case measure => have := TG.out; omega
    ·go_wp2
     go_roundg (gk - 1)
     refine ⟨4, s + 8, 16, by have := TG.out; omega, by unfold TT; omega, by simp, by simp, ?_, ?_, rfl⟩
     ·have e2 : pl X Y 4 = pl X Y 3 + pq X Y 8 := by rfl
      have e3 : pq X Y 8 = 8 := by unfold pq; rw [if_pos (by omega), if_pos (by omega)]
      rw [e2, e3, ← HS.out]
     ·have e := HS.out
      have b := pl_b X Y 3; rw [← e] at b; have b2 : s ≤ 7 := b.2
      omega
     case measure => have := TG.out; omega
  ·skip
   rcases (by omega : X / 16 % 2 = 0 ∨ X / 16 % 2 = 1) with g1 | g1
   ·go_wp2
    go_roundg (gk - 1)
    refine ⟨5, s, 32, by have := TG.out; omega, by unfold TT; omega, by simp, by simp, ?_, ?_, rfl⟩
    ·have e2 : pl X Y 5 = pl X Y 4 + pq X Y 16 := by rfl
     have e3 : pq X Y 16 = 0 := by unfold pq; rw [if_neg (by omega)]
     rw [e2, e3, ← HS.out]; omega
    ·have e := HS.out
     have b := pl_b X Y 4; rw [← e] at b; have b2 : s ≤ 15 := b.2
     omega
    case measure => have := TG.out; omega
   ·rcases (by omega : Y / 16 % 2 = 0 ∨ Y / 16 % 2 = 1) with g2 | g2
    ·go_wp2
     go_roundg (gk - 1)
     refine ⟨5, s, 32, by have := TG.out; omega, by unfold TT; omega, by simp, by simp, ?_, ?_, rfl⟩
     ·have e2 : pl X Y 5 = pl X Y 4 + pq X Y 16 := by rfl
      have e3 : pq X Y 16 = 0 := by unfold pq; rw [if_pos (by omega), if_neg (by omega)]
      rw [e2, e3, ← HS.out]; omega
     ·have e := HS.out
      have b := pl_b X Y 4; rw [← e] at b; have b2 : s ≤ 15 := b.2
      omega
     case measure => have := TG.out; omega
    ·go_wp2
     go_roundg (gk - 1)
     refine ⟨5, s + 16, 32, by have := TG.out; omega, by unfold TT; omega, by simp, by simp, ?_, ?_, rfl⟩
     ·have e2 : pl X Y 5 = pl X Y 4 + pq X Y 16 := by rfl
      have e3 : pq X Y 16 = 16 := by unfold pq; rw [if_pos (by omega), if_pos (by omega)]
      rw [e2, e3, ← HS.out]
     ·have e := HS.out
      have b := pl_b X Y 4; rw [← e] at b; have b2 : s ≤ 15 := b.2
      omega
     case measure => have := TG.out; omega
  ·go_wp2
   go_ret
   refine ⟨?_, v, SQ.out, MQ.out⟩
   rw [← E.out, ← HS.out]
   rfl
theorem Bus.setq {m : Int → Int} {acc : List Ac} (h : Bus memC w R M tb v m acc n) (x : Int) : Bus memC (w.setCell ⟨R, 3, none⟩ (.int .i64 x)) R M tb v m acc n ∧ BM R M tb v w v (w.setCell ⟨R, 3, none⟩ (.int .i64 x)) := by
 have hO : Off (fun k => k = R) w (w.setCell ⟨R, 3, none⟩ (.int .i64 x)) := Off.setCell w R 3 _ rfl
 obtain ⟨q, hq⟩ := h.ram; have h3 := hq.set 3 (.int .i64 x) (by show 3 < 6; decide)
 exact ⟨⟨⟨x, h3⟩, fun a ha => (hO.cell (p := ⟨M, a, none⟩) h.mlt (fun e => h.rm e.symm)).trans (h.mem a ha), fun a => (hO.frozen (p := ⟨M, a, none⟩) h.mlt (fun e => h.rm e.symm)).trans (h.free a), Nat.lt_of_lt_of_le h.mlt hO.size, owns_off h.own hO (fun k hk => (h.vr k hk).1), h.tab.off hO (fun e => h.rt e.symm), h.rm, h.rt, h.mt, h.vr, h.okm, h.len⟩, hO.mono (fun k _ hk => .inl hk), fun _ h => .inl h⟩
theorem upd_same (m : Int → Int) (a x : Int) (h : x = m a) : upd m a x = m := by
 funext k; unfold upd; split
 ·rename_i e; rw [e, h]
 ·rfl
theorem mack_0_0 (h0 : Sys noD memC w P R M tb v y n) (g : y.m 65295 % 2 = 0) : Calls Tryz.prog 22 #[.pointer (some ⟨R, 0, none⟩), .int .i64 0] w (PE noD memC P R M tb v w (.tuple #[]) (setM (ackM 0 y.m) y) n) := by
 obtain ⟨q, hR⟩ := h0.bus.ram; have hc0 : w.cell? ⟨R, 0, none⟩ = some (.slice (some ⟨M, 0, none⟩) 65536 65536) := hR.2.1 0; have hc3 : w.cell? ⟨R, 3, none⟩ = some (.int .i64 q) := hR.2.1 3; have hf3 := hR.2.2 3; have ox := h0.okm 65295; have Q := Lib.hid (h0.bus.setq 0); have H0 := Lib.hid h0; clear hR h0; go_enter Tryz.func22, Tryz.ntmps22; go_upto_region 1 with (fail); generalize w.setCell ⟨R, 3, none⟩ (.int .i64 0) = w1 at Q ⊢; clear hc0 hc3 hf3; obtain ⟨q1, hR1⟩ := Q.out.1.ram; have hc0 : w1.cell? ⟨R, 0, none⟩ = some (.slice (some ⟨M, 0, none⟩) 65536 65536) := hR1.2.1 0; have h1 : w1.cell? ⟨M, 65295, none⟩ = some (.int .u8 (y.m 65295)) := Q.out.1.mem 65295 (by decide); clear hR1
 have hcl : clr (y.m 65295) 0 = y.m 65295 := by unfold clr; rw [if_neg (by show ¬ (y.m 65295 / (2 : Int) ^ 0 % 2 = 1); rw [show (2 : Int) ^ 0 = 1 from rfl]; omega)]
 have HCL := Lib.hid hcl; obtain ⟨o0, o1⟩ := ox; clear hcl; go_wp2
 refine wp_loop_rounds 6 ?_
 rw [rounds_succ]; go_wp2
 go_end0
 have q := H0.out.setBus Q.out.1 Q.out.2
 refine ⟨rfl, v, ?_, q.2⟩
 have e : setM (ackM 0 y.m) y = { y with m := y.m, acc := y.acc } := by unfold setM ackM; rw [upd_same _ _ _ HCL.out]
 rw [e]
 exact q.1
theorem mack_0_1 (h0 : Sys noD memC w P R M tb v y n) (g : y.m 65295 % 2 = 1) : Calls Tryz.prog 22 #[.pointer (some ⟨R, 0, none⟩), .int .i64 0] w (PE noD memC P R M tb v w (.tuple #[]) (setM (ackM 0 y.m) y) n) := by
 obtain ⟨q, hR⟩ := h0.bus.ram; have hc0 : w.cell? ⟨R, 0, none⟩ = some (.slice (some ⟨M, 0, none⟩) 65536 65536) := hR.2.1 0; have hc3 : w.cell? ⟨R, 3, none⟩ = some (.int .i64 q) := hR.2.1 3; have hf3 := hR.2.2 3; have ox := h0.okm 65295; have Q := Lib.hid (h0.bus.setq 0); have H0 := Lib.hid h0; clear hR h0; go_enter Tryz.func22, Tryz.ntmps22; go_upto_region 1 with (fail); generalize w.setCell ⟨R, 3, none⟩ (.int .i64 0) = w1 at Q ⊢; clear hc0 hc3 hf3; obtain ⟨q1, hR1⟩ := Q.out.1.ram; have hc0 : w1.cell? ⟨R, 0, none⟩ = some (.slice (some ⟨M, 0, none⟩) 65536 65536) := hR1.2.1 0; have h1 : w1.cell? ⟨M, 65295, none⟩ = some (.int .u8 (y.m 65295)) := Q.out.1.mem 65295 (by decide); clear hR1
 have hcl : clr (y.m 65295) 0 = y.m 65295 - 1 := by unfold clr; rw [if_pos (by show y.m 65295 / (2 : Int) ^ 0 % 2 = 1; rw [show (2 : Int) ^ 0 = 1 from rfl]; omega)]; rfl
 obtain ⟨z, hz⟩ : ∃ q_, y.m 65295 - 1 = q_ := ⟨_, rfl⟩
 have z0 : 0 ≤ z ∧ z < 256 := by omega
 have HP := Lib.hid (Q.out.1.drew.poke 65295 (by decide) z z0.1 z0.2); have HCL := Lib.hid (hcl.trans hz); have ZB := Lib.hid z0; obtain ⟨o0, o1⟩ := ox; clear hcl; go_wp2
 refine wp_loop_rounds 6 ?_
 rw [rounds_succ]; go_wp2; have hf : w1.frozen? ⟨M, 65295, none⟩ = false := Q.out.1.free 65295; have e1 : IntKind.i64.wrap (y.m 65295) = y.m 65295 := IntWalk.i64_in _ (by omega)
 have e2 : IntKind.i64.wrap (y.m 65295 - 1) = z := by rw [hz]; have := ZB.out; exact IntWalk.i64_in _ (by omega)
 have e3 : IntKind.u8.wrap z = z := IntWalk.u8_in _ (by have := ZB.out; omega)
 have D := Lib.hid (show BM R M tb v w v w1.drew from Q.out.2.trans (BM.of (Below.refl _ _).drew))
 go_still_tail 15, (by kernel_rfl)
 change wpList _ _ _ _ _ w1.drew
 have h1' : w1.drew.cell? ⟨M, 65295, none⟩ = some (.int .u8 (y.m 65295)) := h1; have hf' : w1.drew.frozen? ⟨M, 65295, none⟩ = false := hf; clear h1 hf hc0; generalize w1.drew = w2 at HP D h1' hf' ⊢; go_wp2
 go_end0
 have q := H0.out.setBus HP.out.1 (D.out.trans HP.out.2)
 refine ⟨rfl, v, ?_, q.2⟩
 have e : setM (ackM 0 y.m) y = { y with m := upd y.m 65295 z, acc := y.acc } := by unfold setM ackM; rw [HCL.out]
 rw [e]
 exact q.1
theorem mack_1_0 (h0 : Sys noD memC w P R M tb v y n) (g : y.m 65295 / 2 % 2 = 0) : Calls Tryz.prog 22 #[.pointer (some ⟨R, 0, none⟩), .int .i64 1] w (PE noD memC P R M tb v w (.tuple #[]) (setM (ackM 1 y.m) y) n) := by
 obtain ⟨q, hR⟩ := h0.bus.ram; have hc0 : w.cell? ⟨R, 0, none⟩ = some (.slice (some ⟨M, 0, none⟩) 65536 65536) := hR.2.1 0; have hc3 : w.cell? ⟨R, 3, none⟩ = some (.int .i64 q) := hR.2.1 3; have hf3 := hR.2.2 3; have ox := h0.okm 65295; have Q := Lib.hid (h0.bus.setq 1); have H0 := Lib.hid h0; clear hR h0; go_enter Tryz.func22, Tryz.ntmps22; go_upto_region 1 with (fail); generalize w.setCell ⟨R, 3, none⟩ (.int .i64 1) = w1 at Q ⊢; clear hc0 hc3 hf3; obtain ⟨q1, hR1⟩ := Q.out.1.ram; have hc0 : w1.cell? ⟨R, 0, none⟩ = some (.slice (some ⟨M, 0, none⟩) 65536 65536) := hR1.2.1 0; have h1 : w1.cell? ⟨M, 65295, none⟩ = some (.int .u8 (y.m 65295)) := Q.out.1.mem 65295 (by decide); clear hR1
 have hcl : clr (y.m 65295) 1 = y.m 65295 := by unfold clr; rw [if_neg (by show ¬ (y.m 65295 / (2 : Int) ^ 1 % 2 = 1); rw [show (2 : Int) ^ 1 = 2 from rfl]; omega)]
 have HCL := Lib.hid hcl; obtain ⟨o0, o1⟩ := ox; clear hcl; go_wp2
 refine wp_loop_rounds 6 ?_
 rw [rounds_succ]; go_wp2; rw [rounds_succ]; go_wp2
 go_end0
 have q := H0.out.setBus Q.out.1 Q.out.2
 refine ⟨rfl, v, ?_, q.2⟩
 have e : setM (ackM 1 y.m) y = { y with m := y.m, acc := y.acc } := by unfold setM ackM; rw [upd_same _ _ _ HCL.out]
 rw [e]
 exact q.1
theorem mack_1_1 (h0 : Sys noD memC w P R M tb v y n) (g : y.m 65295 / 2 % 2 = 1) : Calls Tryz.prog 22 #[.pointer (some ⟨R, 0, none⟩), .int .i64 1] w (PE noD memC P R M tb v w (.tuple #[]) (setM (ackM 1 y.m) y) n) := by
 obtain ⟨q, hR⟩ := h0.bus.ram; have hc0 : w.cell? ⟨R, 0, none⟩ = some (.slice (some ⟨M, 0, none⟩) 65536 65536) := hR.2.1 0; have hc3 : w.cell? ⟨R, 3, none⟩ = some (.int .i64 q) := hR.2.1 3; have hf3 := hR.2.2 3; have ox := h0.okm 65295; have Q := Lib.hid (h0.bus.setq 1); have H0 := Lib.hid h0; clear hR h0; go_enter Tryz.func22, Tryz.ntmps22; go_upto_region 1 with (fail); generalize w.setCell ⟨R, 3, none⟩ (.int .i64 1) = w1 at Q ⊢; clear hc0 hc3 hf3; obtain ⟨q1, hR1⟩ := Q.out.1.ram; have hc0 : w1.cell? ⟨R, 0, none⟩ = some (.slice (some ⟨M, 0, none⟩) 65536 65536) := hR1.2.1 0; have h1 : w1.cell? ⟨M, 65295, none⟩ = some (.int .u8 (y.m 65295)) := Q.out.1.mem 65295 (by decide); clear hR1
 have hcl : clr (y.m 65295) 1 = y.m 65295 - 2 := by unfold clr; rw [if_pos (by show y.m 65295 / (2 : Int) ^ 1 % 2 = 1; rw [show (2 : Int) ^ 1 = 2 from rfl]; omega)]; rfl
 obtain ⟨z, hz⟩ : ∃ q_, y.m 65295 - 2 = q_ := ⟨_, rfl⟩
 have z0 : 0 ≤ z ∧ z < 256 := by omega
 have HP := Lib.hid (Q.out.1.drew.poke 65295 (by decide) z z0.1 z0.2); have HCL := Lib.hid (hcl.trans hz); have ZB := Lib.hid z0; obtain ⟨o0, o1⟩ := ox; clear hcl; go_wp2
 refine wp_loop_rounds 6 ?_
 rw [rounds_succ]; go_wp2; rw [rounds_succ]; go_wp2; have hf : w1.frozen? ⟨M, 65295, none⟩ = false := Q.out.1.free 65295; have e1 : IntKind.i64.wrap (y.m 65295) = y.m 65295 := IntWalk.i64_in _ (by omega)
 have e2 : IntKind.i64.wrap (y.m 65295 - 2) = z := by rw [hz]; have := ZB.out; exact IntWalk.i64_in _ (by omega)
 have e3 : IntKind.u8.wrap z = z := IntWalk.u8_in _ (by have := ZB.out; omega)
 have D := Lib.hid (show BM R M tb v w v w1.drew from Q.out.2.trans (BM.of (Below.refl _ _).drew))
 go_still_tail 15, (by kernel_rfl)
 change wpList _ _ _ _ _ w1.drew
 have h1' : w1.drew.cell? ⟨M, 65295, none⟩ = some (.int .u8 (y.m 65295)) := h1; have hf' : w1.drew.frozen? ⟨M, 65295, none⟩ = false := hf; clear h1 hf hc0; generalize w1.drew = w2 at HP D h1' hf' ⊢; go_wp2
 go_end0
 have q := H0.out.setBus HP.out.1 (D.out.trans HP.out.2)
 refine ⟨rfl, v, ?_, q.2⟩
 have e : setM (ackM 1 y.m) y = { y with m := upd y.m 65295 z, acc := y.acc } := by unfold setM ackM; rw [HCL.out]
 rw [e]
 exact q.1
theorem mack_2_0 (h0 : Sys noD memC w P R M tb v y n) (g : y.m 65295 / 4 % 2 = 0) : Calls Tryz.prog 22 #[.pointer (some ⟨R, 0, none⟩), .int .i64 2] w (PE noD memC P R M tb v w (.tuple #[]) (setM (ackM 2 y.m) y) n) := by
 obtain ⟨q, hR⟩ := h0.bus.ram; have hc0 : w.cell? ⟨R, 0, none⟩ = some (.slice (some ⟨M, 0, none⟩) 65536 65536) := hR.2.1 0; have hc3 : w.cell? ⟨R, 3, none⟩ = some (.int .i64 q) := hR.2.1 3; have hf3 := hR.2.2 3; have ox := h0.okm 65295; have Q := Lib.hid (h0.bus.setq 2); have H0 := Lib.hid h0; clear hR h0; go_enter Tryz.func22, Tryz.ntmps22; go_upto_region 1 with (fail); generalize w.setCell ⟨R, 3, none⟩ (.int .i64 2) = w1 at Q ⊢; clear hc0 hc3 hf3; obtain ⟨q1, hR1⟩ := Q.out.1.ram; have hc0 : w1.cell? ⟨R, 0, none⟩ = some (.slice (some ⟨M, 0, none⟩) 65536 65536) := hR1.2.1 0; have h1 : w1.cell? ⟨M, 65295, none⟩ = some (.int .u8 (y.m 65295)) := Q.out.1.mem 65295 (by decide); clear hR1
 have hcl : clr (y.m 65295) 2 = y.m 65295 := by unfold clr; rw [if_neg (by show ¬ (y.m 65295 / (2 : Int) ^ 2 % 2 = 1); rw [show (2 : Int) ^ 2 = 4 from rfl]; omega)]
 have HCL := Lib.hid hcl; obtain ⟨o0, o1⟩ := ox; clear hcl; go_wp2
 refine wp_loop_rounds 6 ?_
 rw [rounds_succ]; go_wp2; rw [rounds_succ]; go_wp2; rw [rounds_succ]; go_wp2
 go_end0
 have q := H0.out.setBus Q.out.1 Q.out.2
 refine ⟨rfl, v, ?_, q.2⟩
 have e : setM (ackM 2 y.m) y = { y with m := y.m, acc := y.acc } := by unfold setM ackM; rw [upd_same _ _ _ HCL.out]
 rw [e]
 exact q.1
theorem mack_2_1 (h0 : Sys noD memC w P R M tb v y n) (g : y.m 65295 / 4 % 2 = 1) : Calls Tryz.prog 22 #[.pointer (some ⟨R, 0, none⟩), .int .i64 2] w (PE noD memC P R M tb v w (.tuple #[]) (setM (ackM 2 y.m) y) n) := by
 obtain ⟨q, hR⟩ := h0.bus.ram; have hc0 : w.cell? ⟨R, 0, none⟩ = some (.slice (some ⟨M, 0, none⟩) 65536 65536) := hR.2.1 0; have hc3 : w.cell? ⟨R, 3, none⟩ = some (.int .i64 q) := hR.2.1 3; have hf3 := hR.2.2 3; have ox := h0.okm 65295; have Q := Lib.hid (h0.bus.setq 2); have H0 := Lib.hid h0; clear hR h0; go_enter Tryz.func22, Tryz.ntmps22; go_upto_region 1 with (fail); generalize w.setCell ⟨R, 3, none⟩ (.int .i64 2) = w1 at Q ⊢; clear hc0 hc3 hf3; obtain ⟨q1, hR1⟩ := Q.out.1.ram; have hc0 : w1.cell? ⟨R, 0, none⟩ = some (.slice (some ⟨M, 0, none⟩) 65536 65536) := hR1.2.1 0; have h1 : w1.cell? ⟨M, 65295, none⟩ = some (.int .u8 (y.m 65295)) := Q.out.1.mem 65295 (by decide); clear hR1
 have hcl : clr (y.m 65295) 2 = y.m 65295 - 4 := by unfold clr; rw [if_pos (by show y.m 65295 / (2 : Int) ^ 2 % 2 = 1; rw [show (2 : Int) ^ 2 = 4 from rfl]; omega)]; rfl
 obtain ⟨z, hz⟩ : ∃ q_, y.m 65295 - 4 = q_ := ⟨_, rfl⟩
 have z0 : 0 ≤ z ∧ z < 256 := by omega
 have HP := Lib.hid (Q.out.1.drew.poke 65295 (by decide) z z0.1 z0.2); have HCL := Lib.hid (hcl.trans hz); have ZB := Lib.hid z0; obtain ⟨o0, o1⟩ := ox; clear hcl; go_wp2
 refine wp_loop_rounds 6 ?_
 rw [rounds_succ]; go_wp2; rw [rounds_succ]; go_wp2; rw [rounds_succ]; go_wp2; have hf : w1.frozen? ⟨M, 65295, none⟩ = false := Q.out.1.free 65295; have e1 : IntKind.i64.wrap (y.m 65295) = y.m 65295 := IntWalk.i64_in _ (by omega)
 have e2 : IntKind.i64.wrap (y.m 65295 - 4) = z := by rw [hz]; have := ZB.out; exact IntWalk.i64_in _ (by omega)
 have e3 : IntKind.u8.wrap z = z := IntWalk.u8_in _ (by have := ZB.out; omega)
 have D := Lib.hid (show BM R M tb v w v w1.drew from Q.out.2.trans (BM.of (Below.refl _ _).drew))
 go_still_tail 15, (by kernel_rfl)
 change wpList _ _ _ _ _ w1.drew
 have h1' : w1.drew.cell? ⟨M, 65295, none⟩ = some (.int .u8 (y.m 65295)) := h1; have hf' : w1.drew.frozen? ⟨M, 65295, none⟩ = false := hf; clear h1 hf hc0; generalize w1.drew = w2 at HP D h1' hf' ⊢; go_wp2
 go_end0
 have q := H0.out.setBus HP.out.1 (D.out.trans HP.out.2)
 refine ⟨rfl, v, ?_, q.2⟩
 have e : setM (ackM 2 y.m) y = { y with m := upd y.m 65295 z, acc := y.acc } := by unfold setM ackM; rw [HCL.out]
 rw [e]
 exact q.1
theorem mack_3_0 (h0 : Sys noD memC w P R M tb v y n) (g : y.m 65295 / 8 % 2 = 0) : Calls Tryz.prog 22 #[.pointer (some ⟨R, 0, none⟩), .int .i64 3] w (PE noD memC P R M tb v w (.tuple #[]) (setM (ackM 3 y.m) y) n) := by
 obtain ⟨q, hR⟩ := h0.bus.ram; have hc0 : w.cell? ⟨R, 0, none⟩ = some (.slice (some ⟨M, 0, none⟩) 65536 65536) := hR.2.1 0; have hc3 : w.cell? ⟨R, 3, none⟩ = some (.int .i64 q) := hR.2.1 3; have hf3 := hR.2.2 3; have ox := h0.okm 65295; have Q := Lib.hid (h0.bus.setq 3); have H0 := Lib.hid h0; clear hR h0; go_enter Tryz.func22, Tryz.ntmps22; go_upto_region 1 with (fail); generalize w.setCell ⟨R, 3, none⟩ (.int .i64 3) = w1 at Q ⊢; clear hc0 hc3 hf3; obtain ⟨q1, hR1⟩ := Q.out.1.ram; have hc0 : w1.cell? ⟨R, 0, none⟩ = some (.slice (some ⟨M, 0, none⟩) 65536 65536) := hR1.2.1 0; have h1 : w1.cell? ⟨M, 65295, none⟩ = some (.int .u8 (y.m 65295)) := Q.out.1.mem 65295 (by decide); clear hR1
 have hcl : clr (y.m 65295) 3 = y.m 65295 := by unfold clr; rw [if_neg (by show ¬ (y.m 65295 / (2 : Int) ^ 3 % 2 = 1); rw [show (2 : Int) ^ 3 = 8 from rfl]; omega)]
 have HCL := Lib.hid hcl; obtain ⟨o0, o1⟩ := ox; clear hcl; go_wp2
 refine wp_loop_rounds 6 ?_
 rw [rounds_succ]; go_wp2; rw [rounds_succ]; go_wp2; rw [rounds_succ]; go_wp2; rw [rounds_succ]; go_wp2
 go_end0
 have q := H0.out.setBus Q.out.1 Q.out.2
 refine ⟨rfl, v, ?_, q.2⟩
 have e : setM (ackM 3 y.m) y = { y with m := y.m, acc := y.acc } := by unfold setM ackM; rw [upd_same _ _ _ HCL.out]
 rw [e]
 exact q.1
theorem mack_3_1 (h0 : Sys noD memC w P R M tb v y n) (g : y.m 65295 / 8 % 2 = 1) : Calls Tryz.prog 22 #[.pointer (some ⟨R, 0, none⟩), .int .i64 3] w (PE noD memC P R M tb v w (.tuple #[]) (setM (ackM 3 y.m) y) n) := by
 obtain ⟨q, hR⟩ := h0.bus.ram; have hc0 : w.cell? ⟨R, 0, none⟩ = some (.slice (some ⟨M, 0, none⟩) 65536 65536) := hR.2.1 0; have hc3 : w.cell? ⟨R, 3, none⟩ = some (.int .i64 q) := hR.2.1 3; have hf3 := hR.2.2 3; have ox := h0.okm 65295; have Q := Lib.hid (h0.bus.setq 3); have H0 := Lib.hid h0; clear hR h0; go_enter Tryz.func22, Tryz.ntmps22; go_upto_region 1 with (fail); generalize w.setCell ⟨R, 3, none⟩ (.int .i64 3) = w1 at Q ⊢; clear hc0 hc3 hf3; obtain ⟨q1, hR1⟩ := Q.out.1.ram; have hc0 : w1.cell? ⟨R, 0, none⟩ = some (.slice (some ⟨M, 0, none⟩) 65536 65536) := hR1.2.1 0; have h1 : w1.cell? ⟨M, 65295, none⟩ = some (.int .u8 (y.m 65295)) := Q.out.1.mem 65295 (by decide); clear hR1
 have hcl : clr (y.m 65295) 3 = y.m 65295 - 8 := by unfold clr; rw [if_pos (by show y.m 65295 / (2 : Int) ^ 3 % 2 = 1; rw [show (2 : Int) ^ 3 = 8 from rfl]; omega)]; rfl
 obtain ⟨z, hz⟩ : ∃ q_, y.m 65295 - 8 = q_ := ⟨_, rfl⟩
 have z0 : 0 ≤ z ∧ z < 256 := by omega
 have HP := Lib.hid (Q.out.1.drew.poke 65295 (by decide) z z0.1 z0.2); have HCL := Lib.hid (hcl.trans hz); have ZB := Lib.hid z0; obtain ⟨o0, o1⟩ := ox; clear hcl; go_wp2
 refine wp_loop_rounds 6 ?_
 rw [rounds_succ]; go_wp2; rw [rounds_succ]; go_wp2; rw [rounds_succ]; go_wp2; rw [rounds_succ]; go_wp2; have hf : w1.frozen? ⟨M, 65295, none⟩ = false := Q.out.1.free 65295; have e1 : IntKind.i64.wrap (y.m 65295) = y.m 65295 := IntWalk.i64_in _ (by omega)
 have e2 : IntKind.i64.wrap (y.m 65295 - 8) = z := by rw [hz]; have := ZB.out; exact IntWalk.i64_in _ (by omega)
 have e3 : IntKind.u8.wrap z = z := IntWalk.u8_in _ (by have := ZB.out; omega)
 have D := Lib.hid (show BM R M tb v w v w1.drew from Q.out.2.trans (BM.of (Below.refl _ _).drew))
 go_still_tail 15, (by kernel_rfl)
 change wpList _ _ _ _ _ w1.drew
 have h1' : w1.drew.cell? ⟨M, 65295, none⟩ = some (.int .u8 (y.m 65295)) := h1; have hf' : w1.drew.frozen? ⟨M, 65295, none⟩ = false := hf; clear h1 hf hc0; generalize w1.drew = w2 at HP D h1' hf' ⊢; go_wp2
 go_end0
 have q := H0.out.setBus HP.out.1 (D.out.trans HP.out.2)
 refine ⟨rfl, v, ?_, q.2⟩
 have e : setM (ackM 3 y.m) y = { y with m := upd y.m 65295 z, acc := y.acc } := by unfold setM ackM; rw [HCL.out]
 rw [e]
 exact q.1
theorem mack_4_0 (h0 : Sys noD memC w P R M tb v y n) (g : y.m 65295 / 16 % 2 = 0) : Calls Tryz.prog 22 #[.pointer (some ⟨R, 0, none⟩), .int .i64 4] w (PE noD memC P R M tb v w (.tuple #[]) (setM (ackM 4 y.m) y) n) := by
 obtain ⟨q, hR⟩ := h0.bus.ram; have hc0 : w.cell? ⟨R, 0, none⟩ = some (.slice (some ⟨M, 0, none⟩) 65536 65536) := hR.2.1 0; have hc3 : w.cell? ⟨R, 3, none⟩ = some (.int .i64 q) := hR.2.1 3; have hf3 := hR.2.2 3; have ox := h0.okm 65295; have Q := Lib.hid (h0.bus.setq 4); have H0 := Lib.hid h0; clear hR h0; go_enter Tryz.func22, Tryz.ntmps22; go_upto_region 1 with (fail); generalize w.setCell ⟨R, 3, none⟩ (.int .i64 4) = w1 at Q ⊢; clear hc0 hc3 hf3; obtain ⟨q1, hR1⟩ := Q.out.1.ram; have hc0 : w1.cell? ⟨R, 0, none⟩ = some (.slice (some ⟨M, 0, none⟩) 65536 65536) := hR1.2.1 0; have h1 : w1.cell? ⟨M, 65295, none⟩ = some (.int .u8 (y.m 65295)) := Q.out.1.mem 65295 (by decide); clear hR1
 have hcl : clr (y.m 65295) 4 = y.m 65295 := by unfold clr; rw [if_neg (by show ¬ (y.m 65295 / (2 : Int) ^ 4 % 2 = 1); rw [show (2 : Int) ^ 4 = 16 from rfl]; omega)]
 have HCL := Lib.hid hcl; obtain ⟨o0, o1⟩ := ox; clear hcl; go_wp2
 refine wp_loop_rounds 6 ?_
 rw [rounds_succ]; go_wp2; rw [rounds_succ]; go_wp2; rw [rounds_succ]; go_wp2; rw [rounds_succ]; go_wp2; rw [rounds_succ]; go_wp2
 go_end0
 have q := H0.out.setBus Q.out.1 Q.out.2
 refine ⟨rfl, v, ?_, q.2⟩
 have e : setM (ackM 4 y.m) y = { y with m := y.m, acc := y.acc } := by unfold setM ackM; rw [upd_same _ _ _ HCL.out]
 rw [e]
 exact q.1
theorem mack_4_1 (h0 : Sys noD memC w P R M tb v y n) (g : y.m 65295 / 16 % 2 = 1) : Calls Tryz.prog 22 #[.pointer (some ⟨R, 0, none⟩), .int .i64 4] w (PE noD memC P R M tb v w (.tuple #[]) (setM (ackM 4 y.m) y) n) := by
 obtain ⟨q, hR⟩ := h0.bus.ram; have hc0 : w.cell? ⟨R, 0, none⟩ = some (.slice (some ⟨M, 0, none⟩) 65536 65536) := hR.2.1 0; have hc3 : w.cell? ⟨R, 3, none⟩ = some (.int .i64 q) := hR.2.1 3; have hf3 := hR.2.2 3; have ox := h0.okm 65295; have Q := Lib.hid (h0.bus.setq 4); have H0 := Lib.hid h0; clear hR h0; go_enter Tryz.func22, Tryz.ntmps22; go_upto_region 1 with (fail); generalize w.setCell ⟨R, 3, none⟩ (.int .i64 4) = w1 at Q ⊢; clear hc0 hc3 hf3; obtain ⟨q1, hR1⟩ := Q.out.1.ram; have hc0 : w1.cell? ⟨R, 0, none⟩ = some (.slice (some ⟨M, 0, none⟩) 65536 65536) := hR1.2.1 0; have h1 : w1.cell? ⟨M, 65295, none⟩ = some (.int .u8 (y.m 65295)) := Q.out.1.mem 65295 (by decide); clear hR1
 have hcl : clr (y.m 65295) 4 = y.m 65295 - 16 := by unfold clr; rw [if_pos (by show y.m 65295 / (2 : Int) ^ 4 % 2 = 1; rw [show (2 : Int) ^ 4 = 16 from rfl]; omega)]; rfl
 obtain ⟨z, hz⟩ : ∃ q_, y.m 65295 - 16 = q_ := ⟨_, rfl⟩
 have z0 : 0 ≤ z ∧ z < 256 := by omega
 have HP := Lib.hid (Q.out.1.drew.poke 65295 (by decide) z z0.1 z0.2); have HCL := Lib.hid (hcl.trans hz); have ZB := Lib.hid z0; obtain ⟨o0, o1⟩ := ox; clear hcl; go_wp2
 refine wp_loop_rounds 6 ?_
 rw [rounds_succ]; go_wp2; rw [rounds_succ]; go_wp2; rw [rounds_succ]; go_wp2; rw [rounds_succ]; go_wp2; rw [rounds_succ]; go_wp2; have hf : w1.frozen? ⟨M, 65295, none⟩ = false := Q.out.1.free 65295; have e1 : IntKind.i64.wrap (y.m 65295) = y.m 65295 := IntWalk.i64_in _ (by omega)
 have e2 : IntKind.i64.wrap (y.m 65295 - 16) = z := by rw [hz]; have := ZB.out; exact IntWalk.i64_in _ (by omega)
 have e3 : IntKind.u8.wrap z = z := IntWalk.u8_in _ (by have := ZB.out; omega)
 have D := Lib.hid (show BM R M tb v w v w1.drew from Q.out.2.trans (BM.of (Below.refl _ _).drew))
 go_still_tail 15, (by kernel_rfl)
 change wpList _ _ _ _ _ w1.drew
 have h1' : w1.drew.cell? ⟨M, 65295, none⟩ = some (.int .u8 (y.m 65295)) := h1; have hf' : w1.drew.frozen? ⟨M, 65295, none⟩ = false := hf; clear h1 hf hc0; generalize w1.drew = w2 at HP D h1' hf' ⊢; go_wp2
 go_end0
 have q := H0.out.setBus HP.out.1 (D.out.trans HP.out.2)
 refine ⟨rfl, v, ?_, q.2⟩
 have e : setM (ackM 4 y.m) y = { y with m := upd y.m 65295 z, acc := y.acc } := by unfold setM ackM; rw [HCL.out]
 rw [e]
 exact q.1
theorem mack_p (h0 : Sys noD memC w P R M tb v y n) (k : Nat) (hk : k < 5) : Calls Tryz.prog 22 #[.pointer (some ⟨R, 0, none⟩), .int .i64 k] w (PE noD memC P R M tb v w (.tuple #[]) (setM (ackM k y.m) y) n) := by
 have ox := h0.okm 65295
 rcases (by omega : k = 0 ∨ k = 1 ∨ k = 2 ∨ k = 3 ∨ k = 4) with rfl | rfl | rfl | rfl | rfl
 ·rcases (by omega : y.m 65295 % 2 = 0 ∨ y.m 65295 % 2 = 1) with g | g
  ·exact mack_0_0 h0 g
  ·exact mack_0_1 h0 g
 ·rcases (by omega : y.m 65295 / 2 % 2 = 0 ∨ y.m 65295 / 2 % 2 = 1) with g | g
  ·exact mack_1_0 h0 g
  ·exact mack_1_1 h0 g
 ·rcases (by omega : y.m 65295 / 4 % 2 = 0 ∨ y.m 65295 / 4 % 2 = 1) with g | g
  ·exact mack_2_0 h0 g
  ·exact mack_2_1 h0 g
 ·rcases (by omega : y.m 65295 / 8 % 2 = 0 ∨ y.m 65295 / 8 % 2 = 1) with g | g
  ·exact mack_3_0 h0 g
  ·exact mack_3_1 h0 g
 ·rcases (by omega : y.m 65295 / 16 % 2 = 0 ∨ y.m 65295 / 16 % 2 = 1) with g | g
  ·exact mack_4_0 h0 g
  ·exact mack_4_1 h0 g
end
end Go.Proofs.YtngdogldgcgnjaaGreat
