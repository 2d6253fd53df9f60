/-
  What (*Table).fill does: it fills the table, and touches nothing else: for every world; the table is there.
-/
import Derived.Test.YtngdogldgcgnjaaGreatTab
import Derived.Deep.LoopGhost
namespace Go.Proofs.YtngdogldgcgnjaaGreat
open Go.ChangeShapes Go.WideShapes Go.ChangeAt Go.RowKit

/-- What stays while a round calls. -/
def FRest (b c : Nat) (w0 w : World) : Prop := (∃ d m kp kf, Tab w b d m kp kf) ∧ But b w0 w ∧ c < w.heap.size ∧ b < c
theorem FS.below {w0 W w2 : World} {b c : Nat} {A : Array Value} (h : (∀ o, W.cell? ⟨c, o, none⟩ = A[o]?) ∧ FRest b c w0 W) (hb : Below W.heap.size W w2) :
  (∀ o, w2.cell? ⟨c, o, none⟩ = A[o]?) ∧ FRest b c w0 w2 := by
 obtain ⟨hc, _⟩ := bcell hb
 obtain ⟨h0, ⟨d, m, kp, kf, h1⟩, h2, h3, h4⟩ := h
 exact ⟨fun o => (hc _ o h3).trans (h0 o), ⟨d, m, kp, kf, h1.below hb⟩, h2.trans (But.of hb), Nat.lt_of_lt_of_le h3 hb.size, h4⟩
theorem FS.new {w0 w1 : World} {b : Nat} (A : Array Value) (t : TypeId) {d m : Int} {kp kf : Nat} (hT : Tab w1 b d m kp kf) (hB : But b w0 w1) :
  (∀ o, (w1.alloc (.cells A t)).drew.cell? ⟨w1.heap.size, o, none⟩ = A[o]?) ∧ FRest b w1.heap.size w0 (w1.alloc (.cells A t)).drew :=
 ⟨(Has.new w1 A t).drew.2.1, ⟨d, m, kp, kf, hT.below ((own1 w1 _).drew)⟩, hB.trans (But.of (own1 w1 _).drew), by simp, hT.lt⟩
theorem FS.setCells {w0 W : World} {b c o : Nat} {A : Array Value} {vs : List Value} {d m : Int} {kp kf : Nat} (h : (∀ o, W.cell? ⟨c, o, none⟩ = A[o]?) ∧ FRest b c w0 W) (hT : Tab (W.setCells b o vs) b d m kp kf) :
  (∀ x, (W.setCells b o vs).cell? ⟨c, x, none⟩ = A[x]?) ∧ FRest b c w0 (W.setCells b o vs) := by
 obtain ⟨h0, _, h2, h3, h4⟩ := h
 exact ⟨fun x => ((But.setCells b vs o W).cell (p := ⟨c, x, none⟩) h3 (by show c ≠ b; omega)).trans (h0 x), ⟨d, m, kp, kf, hT⟩, h2.trans (But.setCells b vs o W), Nat.lt_of_lt_of_le h3 (setCells_size _ _ _ _), h4⟩
theorem nest5 (w : World) (b o : Nat) (v0 v1 v2 v3 v4 : Value) :
  ((((w.setCell ⟨b, o, none⟩ v0).setCell ⟨b, o + 1, none⟩ v1).setCell ⟨b, o + 2, none⟩ v2).setCell ⟨b, o + 3, none⟩ v3).setCell ⟨b, o + 4, none⟩ v4 = w.setCells b o [v0, v1, v2, v3, v4] := rfl
theorem Tab.cell {w : World} {b : Nat} {d m : Int} {kp kf : Nat} (h : Tab w b d m kp kf) (o : Nat) (ho : o < 2563) : ∃ v, w.cell? ⟨b, o, none⟩ = .some v := Option.isSome_iff_exists.1 (h.some o ho)
theorem Tab.setP' {w : World} {b : Nat} {d m : Int} {k kf : Nat} {r : OpV} (h : Tab w b d m k kf) (hk : k < 256) (hr : plT k = r) : Tab (w.setCells b (3 + k * 5) [.int .i64 r.k, .int .i64 r.x, .int .i64 r.y, .int .i64 r.s, .int .u16 r.n]) b d m (k + 1) kf := hr ▸ h.setP hk
theorem Tab.setF' {w : World} {b : Nat} {d m : Int} {kp k : Nat} {r : OpV} (h : Tab w b d m kp k) (hk : k < 256) (hkp : kp ≤ 256) (hr : pfT k = r) : Tab (w.setCells b (1283 + k * 5) [.int .i64 r.k, .int .i64 r.x, .int .i64 r.y, .int .i64 r.s, .int .u16 r.n]) b d m kp (k + 1) := hr ▸ h.setF hk hkp
theorem FS.drew {w0 W : World} {b c : Nat} {A : Array Value} (h : (∀ o, W.cell? ⟨c, o, none⟩ = A[o]?) ∧ FRest b c w0 W) :
  (∀ o, W.drew.cell? ⟨c, o, none⟩ = A[o]?) ∧ FRest b c w0 W.drew := FS.below h (Below.refl _ _).drew
/-- The digits of k. -/
structure Dgs (k : Nat) (x y z p q : Int) : Prop where
 x : (k : Int) / 64 = x
 y : (k : Int) / 8 % 8 = y
 z : (k : Int) % 8 = z
 p : (k : Int) / 8 % 8 / 2 = p
 q : (k : Int) / 8 % 8 % 2 = q
theorem dg_k (k : Nat) (hk : k < 256) {x y z p q : Int} (h : Dgs k x y z p q) (w : World) : Calls Tryz.prog 102 #[.int .i64 k] w fun e w' =>
  e = .returned (.agg #[.int .i64 x, .int .i64 y, .int .i64 z, .int .i64 p, .int .i64 q]) ∧ Below w.heap.size w w' := by
 obtain ⟨rfl, rfl, rfl, rfl, rfl⟩ := h
 exact digits_c k (by omega) (by omega) w
theorem pl_k (k : Nat) (hk : k < 256) {x y z p q : Int} (h : Dgs k x y z p q) (r : OpV) (hr : plT k = r) (w : World) : Calls Tryz.prog 103 #[.agg #[.int .i64 x, .int .i64 y, .int .i64 z, .int .i64 p, .int .i64 q]] w fun e w' =>
  e = .returned (.agg #[.int .i64 (r).k, .int .i64 (r).x, .int .i64 (r).y, .int .i64 (r).s, .int .u16 (r).n]) ∧ Below w.heap.size w w' := by
 obtain ⟨rfl, rfl, rfl, rfl, rfl⟩ := h
 exact pl_c _ _ _ _ _ r hr (by omega) (by omega) (by omega) (by omega) (by omega) (by omega) (by omega) (by omega) w
theorem pf_k (k : Nat) (hk : k < 256) {x y z p q : Int} (h : Dgs k x y z p q) (r : OpV) (hr : pfT k = r) (w : World) : Calls Tryz.prog 104 #[.agg #[.int .i64 x, .int .i64 y, .int .i64 z, .int .i64 p, .int .i64 q]] w fun e w' =>
  e = .returned (.agg #[.int .i64 (r).k, .int .i64 (r).x, .int .i64 (r).y, .int .i64 (r).s, .int .u16 (r).n]) ∧ Below w.heap.size w w' := by
 obtain ⟨rfl, rfl, rfl, rfl, rfl⟩ := h
 exact pref_c_h _ _ _ _ _ r hr (by omega) (by omega) w
set_option maxRecDepth 100000 in
set_option maxHeartbeats 2000000 in
theorem fill_c (b : Nat) (m : Int) (w : World) (T0 : Tab w b 0 m 0 0) : Calls Tryz.prog 85 #[.pointer (some ⟨b, 0, none⟩)] w fun e w' =>
  e = .returned (.tuple #[]) ∧ But b w w' ∧ Tab w' b 0 m 256 256 := by
 have HT := Lib.hid T0
 clear T0
 go_enter Tryz.func85, Tryz.ntmps85
 go_wp2
 go_loopg [4] 256 (fun g i wr => ∃ k : Nat, k ≤ 256 ∧ g = 256 - k ∧ i = .int .i64 k ∧ But b w wr ∧ Tab wr b 0 m k k)
 case atStart => exact ⟨0, by omega, rfl, rfl, But.refl _ _, HT.out⟩
 case round =>
  obtain ⟨k, hk, rfl, rfl, hB, hT⟩ := hrel
  have HB := Lib.hid hB
  have HW := Lib.hid hT
  clear hB hT HT
  by_cases hlt : k < 256
  ·have h0 : (0 : Int) ≤ k := by omega
   have h1 : (k : Int) < 256 := by omega
   obtain ⟨r4, hr40⟩ : ∃ r, plT k = r := ⟨_, rfl⟩
   obtain ⟨r5, hr50⟩ : ∃ r, pfT k = r := ⟨_, rfl⟩
   have hr4 := Lib.hid hr40
   have hr5 := Lib.hid hr50
   clear hr40 hr50
   obtain ⟨x, y, z, p, q, hd⟩ : ∃ x y z p q, Dgs k x y z p q := ⟨_, _, _, _, _, rfl, rfl, rfl, rfl, rfl⟩
   go_wp2_with (go_at_call 102; (with_reducible refine (dg_k k hlt hd _).mono ?_); rintro e w1 ⟨rfl, hb⟩)
   have HW2 := Lib.hid (HW.out.below hb)
   have HB2 := Lib.hid (HB.out.trans (But.of hb))
   clear HW HB hb
   have HS := Lib.hid (FS.new #[.int .i64 x, .int .i64 y, .int .i64 z, .int .i64 p, .int .i64 q] 153 HW2.out HB2.out)
   have HW := Lib.hid (HW2.out.below ((own1 w1 (.cells #[.int .i64 x, .int .i64 y, .int .i64 z, .int .i64 p, .int .i64 q] 153)).drew))
   clear HW2 HB2
   refine wp_region_held_drew (S := (fun w' => (∀ o, w'.cell? ⟨w1.heap.size, o, none⟩ = #[Value.int .i64 x, .int .i64 y, .int .i64 z, .int .i64 p, .int .i64 q][o]?) ∧ FRest b w1.heap.size w w')) (by kernel_rfl) HS.out (fun hHeld => ?_)
   clear HS
   generalize (w1.alloc (.cells #[.int .i64 x, .int .i64 y, .int .i64 z, .int .i64 p, .int .i64 q] 153)).drew = V40 at hHeld HW ⊢
   generalize w1.heap.size = c at hHeld HW ⊢
   clear w1
   refine tk 0 rfl (v := ?v401) ?y401 ?z401
   case y401 => (intro w hSw; (try dsimp only at hSw); go_simp) <;> with_reducible rfl
   try simp only [Act.put, qqA, qqB, qqC]
   refine tk 1 rfl (v := ?v402) ?y402 ?z402
   case y402 => (intro w hSw; (try dsimp only at hSw); go_simp) <;> with_reducible rfl
   try simp only [Act.put, qqA, qqB, qqC]
   refine tk 2 rfl (v := ?v403) ?y403 ?z403
   case y403 => (intro w hSw; (try dsimp only at hSw); go_simp) <;> with_reducible rfl
   try simp only [Act.put, qqA, qqB, qqC]
   refine tk 4 rfl (v := ?v404) ?y404 ?z404
   case y404 => (intro w hSw; (try dsimp only at hSw); go_simp) <;> with_reducible rfl
   try simp only [Act.put, qqA, qqB, qqC]
   refine tk 5 rfl (v := ?v405) ?y405 ?z405
   case y405 => (intro w hSw; (try dsimp only at hSw); go_simp) <;> with_reducible rfl
   try simp only [Act.put, qqA, qqB, qqC]
   refine wpAnyH_ready (rs := [3]) (by kernel_rfl) (by simp) ?_
   refine (ac rfl (fun K hK => ?_) AllReadyH.nil)
   ·go_simp
    go_wp2_with (go_at_call 103; (with_reducible refine (pl_k k hlt hd r4 hr4.out _).mono ?_); rintro e V41 ⟨rfl, hb⟩)
    refine hK.out _ _ ?s406 (fun hNew => ?r406)
    case s406 => exact FS.below hHeld hb
    clear hK K
    have HW2 := Lib.hid (HW.out.below hb)
    clear HW
    have HW := HW2
    clear HW2
    clear hb
    clear hHeld
    have hHeld := hNew
    clear hNew
    refine tk 6 rfl (v := ?v407) ?y407 ?z407
    case y407 => (intro w hSw; (try dsimp only at hSw); go_simp) <;> with_reducible rfl
    try simp only [Act.put, qqA, qqB, qqC]
    refine wpAnyH_ready (rs := [7]) (by kernel_rfl) (by simp) ?_
    refine (ac rfl (fun K hK => ?_) AllReadyH.nil)
    ·obtain ⟨x0, g0⟩ := HW.out.cell (3 + k * 5) (by omega)
     obtain ⟨x1, g1⟩ := HW.out.cell (3 + k * 5 + 1) (by omega)
     obtain ⟨x2, g2⟩ := HW.out.cell (3 + k * 5 + 2) (by omega)
     obtain ⟨x3, g3⟩ := HW.out.cell (3 + k * 5 + 3) (by omega)
     obtain ⟨x4, g4⟩ := HW.out.cell (3 + k * 5 + 4) (by omega)
     have hf := HW.out.free
     go_simp
     clear g0 g1 g2 g3 g4 hf
     rw [nest5]
     have TT := Lib.hid (HW.out.setP' hlt hr4.out)
     refine hK.out _ _ ?s408 (fun hNew => ?r408)
     case s408 => exact FS.setCells hHeld TT.out
     clear hK K
     clear HW
     have HW := TT
     clear TT
     clear hHeld
     have hHeld := hNew
     clear hNew
     refine wpAnyH_done (by kernel_rfl) ?_ _
     generalize V41.setCells b (3 + k * 5) [.int .i64 r4.k, .int .i64 r4.x, .int .i64 r4.y, .int .i64 r4.s, .int .u16 r4.n] = W5 at hHeld HW ⊢
     go_wp2_with fail
     refine wp_region_held_drew (S := (fun w' => (∀ o, w'.cell? ⟨c, o, none⟩ = #[Value.int .i64 x, .int .i64 y, .int .i64 z, .int .i64 p, .int .i64 q][o]?) ∧ FRest b c w w')) (by kernel_rfl) (FS.drew hHeld) (fun hNew => ?_)
     clear hHeld
     have hHeld := hNew
     clear hNew
     have HW2 := Lib.hid (HW.out.below (Below.refl _ _).drew)
     clear HW
     have HW := HW2
     clear HW2
     generalize W5.drew = V50 at hHeld HW ⊢
     
     refine tk 0 rfl (v := ?v501) ?y501 ?z501
     case y501 => (intro w hSw; (try dsimp only at hSw); go_simp) <;> with_reducible rfl
     try simp only [Act.put, qqA, qqB, qqC]
     refine tk 1 rfl (v := ?v502) ?y502 ?z502
     case y502 => (intro w hSw; (try dsimp only at hSw); go_simp) <;> with_reducible rfl
     try simp only [Act.put, qqA, qqB, qqC]
     refine tk 2 rfl (v := ?v503) ?y503 ?z503
     case y503 => (intro w hSw; (try dsimp only at hSw); go_simp) <;> with_reducible rfl
     try simp only [Act.put, qqA, qqB, qqC]
     refine tk 4 rfl (v := ?v504) ?y504 ?z504
     case y504 => (intro w hSw; (try dsimp only at hSw); go_simp) <;> with_reducible rfl
     try simp only [Act.put, qqA, qqB, qqC]
     refine tk 5 rfl (v := ?v505) ?y505 ?z505
     case y505 => (intro w hSw; (try dsimp only at hSw); go_simp) <;> with_reducible rfl
     try simp only [Act.put, qqA, qqB, qqC]
     refine wpAnyH_ready (rs := [3]) (by kernel_rfl) (by simp) ?_
     refine (ac rfl (fun K hK => ?_) AllReadyH.nil)
     ·go_simp
      go_wp2_with (go_at_call 104; (with_reducible refine (pf_k k hlt hd r5 hr5.out _).mono ?_); rintro e V51 ⟨rfl, hb⟩)
      refine hK.out _ _ ?s506 (fun hNew => ?r506)
      case s506 => exact FS.below hHeld hb
      clear hK K
      have HW2 := Lib.hid (HW.out.below hb)
      clear HW
      have HW := HW2
      clear HW2
      clear hb
      clear hHeld
      have hHeld := hNew
      clear hNew
      refine tk 6 rfl (v := ?v507) ?y507 ?z507
      case y507 => (intro w hSw; (try dsimp only at hSw); go_simp) <;> with_reducible rfl
      try simp only [Act.put, qqA, qqB, qqC]
      refine wpAnyH_ready (rs := [7]) (by kernel_rfl) (by simp) ?_
      refine (ac rfl (fun K hK => ?_) AllReadyH.nil)
      ·obtain ⟨x0, g0⟩ := HW.out.cell (1283 + k * 5) (by omega)
       obtain ⟨x1, g1⟩ := HW.out.cell (1283 + k * 5 + 1) (by omega)
       obtain ⟨x2, g2⟩ := HW.out.cell (1283 + k * 5 + 2) (by omega)
       obtain ⟨x3, g3⟩ := HW.out.cell (1283 + k * 5 + 3) (by omega)
       obtain ⟨x4, g4⟩ := HW.out.cell (1283 + k * 5 + 4) (by omega)
       have hf := HW.out.free
       go_simp
       clear g0 g1 g2 g3 g4 hf
       rw [nest5]
       have TT := Lib.hid (HW.out.setF' hlt (by omega) hr5.out)
       refine hK.out _ _ ?s508 (fun hNew => ?r508)
       case s508 => exact FS.setCells hHeld TT.out
       clear hK K
       clear HW
       have HW := TT
       clear TT
       clear hHeld
       have hHeld := hNew
       clear hNew
       refine wpAnyH_done (by kernel_rfl) ?_ _
       go_wp2
       go_roundg (256 - (k + 1))
       case measure => omega
       case rel => exact ⟨k + 1, by omega, rfl, by go_num, hHeld.2.2.1, HW.out⟩
  ·obtain rfl : k = 256 := by omega
   go_wp2
   exact bodyPost_end (results_none rfl _ _ _) rfl ⟨rfl, HB.out, HW.out⟩
end Go.Proofs.YtngdogldgcgnjaaGreat
