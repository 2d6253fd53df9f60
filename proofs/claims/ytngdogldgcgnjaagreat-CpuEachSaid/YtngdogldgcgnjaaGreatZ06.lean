/-
  What (*Table).fill does: it fills the table, and touches nothing else: for every world; the table is there.
  (Some texts in one.)
-/
import Derived.Test.YtngdogldgcgnjaaGreatZ05
import Derived.Deep.LoopGhost
import Derived.Tactics2
import Derived.Defers
import Derived.Laws.Pointers
import Derived.Laws.LoneSync
import Derived.RegionTactic
import Derived.RegionCalls
import Derived.ChangeAlike
set_option maxRecDepth 100000
set_option maxHeartbeats 8000000
namespace Go.Proofs.YtngdogldgcgnjaaGreat
open Go.ChangeShapes Go.WideShapes Go.ChangeAt Go.RowKit
def FRest (b c : Nat) (w0 w : World) : Prop := (∃ d m kp kf, Tab w b d m kp kf) ∧ But b w0 w ∧ c < w.heap.size ∧ b < c
theorem FS.below {w0 W w2 : World} {b c : Nat} {A : Array Value} (h : (∀ o, W.cell? ⟨c, o, none⟩ = A[o]?) ∧ FRest b c w0 W) (hb : Below W.heap.size W w2) :
  (∀ o, w2.cell? ⟨c, o, none⟩ = A[o]?) ∧ FRest b c w0 w2 := by
 obtain ⟨hc, _⟩ := bcell hb; obtain ⟨h0, ⟨d, m, kp, kf, h1⟩, h2, h3, h4⟩ := h
 exact ⟨fun o => (hc _ o h3).trans (h0 o), ⟨d, m, kp, kf, h1.below hb⟩, h2.trans (But.of hb), Nat.lt_of_lt_of_le h3 hb.size, h4⟩
theorem FS.new {w0 w1 : World} {b : Nat} (A : Array Value) (t : TypeId) {d m : Int} {kp kf : Nat} (hT : Tab w1 b d m kp kf) (hB : But b w0 w1) :
  (∀ o, (w1.alloc (.cells A t)).drew.cell? ⟨w1.heap.size, o, none⟩ = A[o]?) ∧ FRest b w1.heap.size w0 (w1.alloc (.cells A t)).drew :=
 ⟨(Has.new w1 A t).drew.2.1, ⟨d, m, kp, kf, hT.below ((own1 w1 _).drew)⟩, hB.trans (But.of (own1 w1 _).drew), by simp, hT.lt⟩
theorem FS.setCells {w0 W : World} {b c o : Nat} {A : Array Value} {vs : List Value} {d m : Int} {kp kf : Nat} (h : (∀ o, W.cell? ⟨c, o, none⟩ = A[o]?) ∧ FRest b c w0 W) (hT : Tab (W.setCells b o vs) b d m kp kf) :
  (∀ x, (W.setCells b o vs).cell? ⟨c, x, none⟩ = A[x]?) ∧ FRest b c w0 (W.setCells b o vs) := by
 obtain ⟨h0, _, h2, h3, h4⟩ := h
 exact ⟨fun x => ((But.setCells b vs o W).cell (p := ⟨c, x, none⟩) h3 (by show c ≠ b; omega)).trans (h0 x), ⟨d, m, kp, kf, hT⟩, h2.trans (But.setCells b vs o W), Nat.lt_of_lt_of_le h3 (setCells_size _ _ _ _), h4⟩
theorem nest5 (w : World) (b o : Nat) (v0 v1 v2 v3 v4 : Value) :
  ((((w.setCell ⟨b, o, none⟩ v0).setCell ⟨b, o + 1, none⟩ v1).setCell ⟨b, o + 2, none⟩ v2).setCell ⟨b, o + 3, none⟩ v3).setCell ⟨b, o + 4, none⟩ v4 = w.setCells b o [v0, v1, v2, v3, v4] := rfl
theorem Tab.cell {w : World} {b : Nat} {d m : Int} {kp kf : Nat} (h : Tab w b d m kp kf) (o : Nat) (ho : o < 2563) : ∃ v, w.cell? ⟨b, o, none⟩ = .some v := Option.isSome_iff_exists.1 (h.some o ho)
theorem Tab.setP' {w : World} {b : Nat} {d m : Int} {k kf : Nat} {r : OpV} (h : Tab w b d m k kf) (hk : k < 256) (hr : plT k = r) : Tab (w.setCells b (3 + k * 5) [.int .i64 r.k, .int .i64 r.x, .int .i64 r.y, .int .i64 r.s, .int .u16 r.n]) b d m (k + 1) kf := hr ▸ h.setP hk
theorem Tab.setF' {w : World} {b : Nat} {d m : Int} {kp k : Nat} {r : OpV} (h : Tab w b d m kp k) (hk : k < 256) (hkp : kp ≤ 256) (hr : pfT k = r) : Tab (w.setCells b (1283 + k * 5) [.int .i64 r.k, .int .i64 r.x, .int .i64 r.y, .int .i64 r.s, .int .u16 r.n]) b d m kp (k + 1) := hr ▸ h.setF hk hkp
theorem FS.drew {w0 W : World} {b c : Nat} {A : Array Value} (h : (∀ o, W.cell? ⟨c, o, none⟩ = A[o]?) ∧ FRest b c w0 W) :
  (∀ o, W.drew.cell? ⟨c, o, none⟩ = A[o]?) ∧ FRest b c w0 W.drew := FS.below h (Below.refl _ _).drew
structure Dgs (k : Nat) (x y z p q : Int) : Prop where
 x : (k : Int) / 64 = x
 y : (k : Int) / 8 % 8 = y
 z : (k : Int) % 8 = z
 p : (k : Int) / 8 % 8 / 2 = p
 q : (k : Int) / 8 % 8 % 2 = q
theorem dg_k (k : Nat) (hk : k < 256) {x y z p q : Int} (h : Dgs k x y z p q) (w : World) : Calls Tryz.prog 102 #[.int .i64 k] w fun e w' =>
  e = .returned (.agg #[.int .i64 x, .int .i64 y, .int .i64 z, .int .i64 p, .int .i64 q]) ∧ Below w.heap.size w w' := by
 obtain ⟨rfl, rfl, rfl, rfl, rfl⟩ := h
 exact digits_c k (by omega) (by omega) w
theorem pl_k (k : Nat) (hk : k < 256) {x y z p q : Int} (h : Dgs k x y z p q) (r : OpV) (hr : plT k = r) (w : World) : Calls Tryz.prog 103 #[.agg #[.int .i64 x, .int .i64 y, .int .i64 z, .int .i64 p, .int .i64 q]] w fun e w' =>
  e = .returned (.agg #[.int .i64 (r).k, .int .i64 (r).x, .int .i64 (r).y, .int .i64 (r).s, .int .u16 (r).n]) ∧ Below w.heap.size w w' := by
 obtain ⟨rfl, rfl, rfl, rfl, rfl⟩ := h
 exact pl_c _ _ _ _ _ r hr (by omega) (by omega) (by omega) (by omega) (by omega) (by omega) (by omega) (by omega) w
theorem pf_k (k : Nat) (hk : k < 256) {x y z p q : Int} (h : Dgs k x y z p q) (r : OpV) (hr : pfT k = r) (w : World) : Calls Tryz.prog 104 #[.agg #[.int .i64 x, .int .i64 y, .int .i64 z, .int .i64 p, .int .i64 q]] w fun e w' =>
  e = .returned (.agg #[.int .i64 (r).k, .int .i64 (r).x, .int .i64 (r).y, .int .i64 (r).s, .int .u16 (r).n]) ∧ Below w.heap.size w w' := by
 obtain ⟨rfl, rfl, rfl, rfl, rfl⟩ := h
 exact pref_c_h _ _ _ _ _ r hr (by omega) (by omega) w
theorem fill_c (b : Nat) (m : Int) (w : World) (T0 : Tab w b 0 m 0 0) : Calls Tryz.prog 85 #[.pointer (some ⟨b, 0, none⟩)] w fun e w' =>
  e = .returned (.tuple #[]) ∧ But b w w' ∧ Tab w' b 0 m 256 256 := by
 have HT := Lib.hid T0; clear T0; go_enter Tryz.func85, Tryz.ntmps85; go_wp2
 go_loopg [4] 256 (fun g i wr => ∃ k : Nat, k ≤ 256 ∧ g = 256 - k ∧ i = .int .i64 k ∧ But b w wr ∧ Tab wr b 0 m k k)
 case atStart => exact ⟨0, by omega, rfl, rfl, But.refl _ _, HT.out⟩
 case round =>
  obtain ⟨k, hk, rfl, rfl, hB, hT⟩ := hrel; have HB := Lib.hid hB; have HW := Lib.hid hT; clear hB hT HT
  by_cases hlt : k < 256
  ·have h0 : (0 : Int) ≤ k := by omega
   have h1 : (k : Int) < 256 := by omega
   obtain ⟨r4, hr40⟩ : ∃ r, plT k = r := ⟨_, rfl⟩; obtain ⟨r5, hr50⟩ : ∃ r, pfT k = r := ⟨_, rfl⟩; have hr4 := Lib.hid hr40; have hr5 := Lib.hid hr50; clear hr40 hr50; obtain ⟨x, y, z, p, q, hd⟩ : ∃ x y z p q, Dgs k x y z p q := ⟨_, _, _, _, _, rfl, rfl, rfl, rfl, rfl⟩
   go_wp2_with (go_at_call 102; (with_reducible refine (dg_k k hlt hd _).mono ?_); rintro e w1 ⟨rfl, hb⟩)
   have HW2 := Lib.hid (HW.out.below hb); have HB2 := Lib.hid (HB.out.trans (But.of hb)); clear HW HB hb; have HS := Lib.hid (FS.new #[.int .i64 x, .int .i64 y, .int .i64 z, .int .i64 p, .int .i64 q] 153 HW2.out HB2.out); have HW := Lib.hid (HW2.out.below ((own1 w1 (.cells #[.int .i64 x, .int .i64 y, .int .i64 z, .int .i64 p, .int .i64 q] 153)).drew)); clear HW2 HB2
   refine wp_region_held_drew (S := (fun w' => (∀ o, w'.cell? ⟨w1.heap.size, o, none⟩ = #[Value.int .i64 x, .int .i64 y, .int .i64 z, .int .i64 p, .int .i64 q][o]?) ∧ FRest b w1.heap.size w w')) (by kernel_rfl) HS.out (fun hHeld => ?_)
   clear HS; generalize (w1.alloc (.cells #[.int .i64 x, .int .i64 y, .int .i64 z, .int .i64 p, .int .i64 q] 153)).drew = V40 at hHeld HW ⊢; generalize w1.heap.size = c at hHeld HW ⊢; clear w1; refine tz 0 ?_; refine tz 1 ?_; refine tz 2 ?_; refine tz 4 ?_; refine tz 5 ?_
   refine wpAnyH_ready (rs := [3]) (by kernel_rfl) (by simp) ?_
   refine (ac rfl (fun K hK => ?_) AllReadyH.nil)
   ·go_simp
    go_wp2_with (go_at_call 103; (with_reducible refine (pl_k k hlt hd r4 hr4.out _).mono ?_); rintro e V41 ⟨rfl, hb⟩)
    refine hK.out _ _ ?s406 (fun hNew => ?r406)
    case s406 => exact FS.below hHeld hb
    clear hK K; have HW2 := Lib.hid (HW.out.below hb); clear HW; have HW := HW2; clear HW2; clear hb; clear hHeld; have hHeld := hNew; clear hNew; refine tz 6 ?_
    refine wpAnyH_ready (rs := [7]) (by kernel_rfl) (by simp) ?_
    refine (ac rfl (fun K hK => ?_) AllReadyH.nil)
    ·obtain ⟨x0, g0⟩ := HW.out.cell (3 + k * 5) (by omega)
     obtain ⟨x1, g1⟩ := HW.out.cell (3 + k * 5 + 1) (by omega); obtain ⟨x2, g2⟩ := HW.out.cell (3 + k * 5 + 2) (by omega); obtain ⟨x3, g3⟩ := HW.out.cell (3 + k * 5 + 3) (by omega); obtain ⟨x4, g4⟩ := HW.out.cell (3 + k * 5 + 4) (by omega); have hf := HW.out.free; go_simp; clear g0 g1 g2 g3 g4 hf; rw [nest5]; have TT := Lib.hid (HW.out.setP' hlt hr4.out)
     refine hK.out _ _ ?s408 (fun hNew => ?r408)
     case s408 => exact FS.setCells hHeld TT.out
     clear hK K; clear HW; have HW := TT; clear TT; clear hHeld; have hHeld := hNew; clear hNew
     refine wpAnyH_done (by kernel_rfl) ?_ _
     generalize V41.setCells b (3 + k * 5) [.int .i64 r4.k, .int .i64 r4.x, .int .i64 r4.y, .int .i64 r4.s, .int .u16 r4.n] = W5 at hHeld HW ⊢; go_wp2_with fail
     refine wp_region_held_drew (S := (fun w' => (∀ o, w'.cell? ⟨c, o, none⟩ = #[Value.int .i64 x, .int .i64 y, .int .i64 z, .int .i64 p, .int .i64 q][o]?) ∧ FRest b c w w')) (by kernel_rfl) (FS.drew hHeld) (fun hNew => ?_)
     clear hHeld; have hHeld := hNew; clear hNew; have HW2 := Lib.hid (HW.out.below (Below.refl _ _).drew); clear HW; have HW := HW2; clear HW2; generalize W5.drew = V50 at hHeld HW ⊢
     
     refine tz 0 ?_; refine tz 1 ?_; refine tz 2 ?_; refine tz 4 ?_; refine tz 5 ?_
     refine wpAnyH_ready (rs := [3]) (by kernel_rfl) (by simp) ?_
     refine (ac rfl (fun K hK => ?_) AllReadyH.nil)
     ·go_simp
      go_wp2_with (go_at_call 104; (with_reducible refine (pf_k k hlt hd r5 hr5.out _).mono ?_); rintro e V51 ⟨rfl, hb⟩)
      refine hK.out _ _ ?s506 (fun hNew => ?r506)
      case s506 => exact FS.below hHeld hb
      clear hK K; have HW2 := Lib.hid (HW.out.below hb); clear HW; have HW := HW2; clear HW2; clear hb; clear hHeld; have hHeld := hNew; clear hNew; refine tz 6 ?_
      refine wpAnyH_ready (rs := [7]) (by kernel_rfl) (by simp) ?_
      refine (ac rfl (fun K hK => ?_) AllReadyH.nil)
      ·obtain ⟨x0, g0⟩ := HW.out.cell (1283 + k * 5) (by omega)
       obtain ⟨x1, g1⟩ := HW.out.cell (1283 + k * 5 + 1) (by omega); obtain ⟨x2, g2⟩ := HW.out.cell (1283 + k * 5 + 2) (by omega); obtain ⟨x3, g3⟩ := HW.out.cell (1283 + k * 5 + 3) (by omega); obtain ⟨x4, g4⟩ := HW.out.cell (1283 + k * 5 + 4) (by omega); have hf := HW.out.free; go_simp; clear g0 g1 g2 g3 g4 hf; rw [nest5]; have TT := Lib.hid (HW.out.setF' hlt (by omega) hr5.out)
       refine hK.out _ _ ?s508 (fun hNew => ?r508)
       case s508 => exact FS.setCells hHeld TT.out
       clear hK K; clear HW; have HW := TT; clear TT; clear hHeld; have hHeld := hNew; clear hNew
       refine wpAnyH_done (by kernel_rfl) ?_ _
       go_wp2
       go_roundg (256 - (k + 1))
       case measure => omega
       case rel => exact ⟨k + 1, by omega, rfl, by go_num, hHeld.2.2.1, HW.out⟩
  ·obtain rfl : k = 256 := by omega
   go_wp2
   exact bodyPost_end (results_none rfl _ _ _) rfl ⟨rfl, HB.out, HW.out⟩
end Go.Proofs.YtngdogldgcgnjaaGreat
namespace Go.Proofs.YtngdogldgcgnjaaGreat
open Go.ChangeShapes Go.WideShapes Go.ChangeAt Go.RowKit
theorem disable (w : World) : (callFunc 142 #[]).run Tryz.prog w = .ok (.value (.tuple #[])) w := run_call_mark0 Tryz.func142 (by kernel_rfl) (by kernel_rfl) (by kernel_rfl) .disable (by kernel_rfl) w
theorem enable (w : World) : (callFunc 144 #[]).run Tryz.prog w = .ok (.value (.tuple #[])) w := run_call_mark0 Tryz.func144 (by kernel_rfl) (by kernel_rfl) (by kernel_rfl) .enable (by kernel_rfl) w
theorem acquire (a : Addr) (w : World) : (callFunc 145 #[.pointer (some a)]).run Tryz.prog w = .ok (.value (.tuple #[])) w := run_call_marked Tryz.func145 (by kernel_rfl) (by kernel_rfl) (by kernel_rfl) .acquire (by kernel_rfl) a w
theorem releaseMerge (a : Addr) (w : World) : (callFunc 147 #[.pointer (some a)]).run Tryz.prog w = .ok (.value (.tuple #[])) w := run_call_marked Tryz.func147 (by kernel_rfl) (by kernel_rfl) (by kernel_rfl) .releaseMerge (by kernel_rfl) a w
theorem store_d (a : Addr) (x : Value) (u : FrameMode) (w : World) (hc : w.cell? a = some x) (hz : w.frozen? a = false) :
  CallsD Tryz.prog 124 #[.pointer (some a), .bool true] u w fun e u' w' => u' = u ∧ (e = .returned (.tuple #[]) ∧ w' = w.drew.setCell a (.int .u32 1)) := by
 have hc' : w.drew.cell? a = some x := by go_simp
 have hz' : w.drew.frozen? a = false := by go_simp
 have hst := run_call_store (P := Tryz.prog) Tryz.func130 (by kernel_rfl) (by kernel_rfl) (by kernel_rfl) (by kernel_rfl) (k := .u32) (y := 1) hc' hz'
 go_enter_d Tryz.func124, Tryz.ntmps124
 go_wp2
 go_region_calls
 all_goals (go_end0; exact ⟨rfl, rfl⟩)
theorem unlock_d (a : Addr) (u : FrameMode) (w : World) (hc : w.cell? a = some (.int .i32 1)) (hz : w.frozen? a = false) :
  CallsD Tryz.prog 123 #[.pointer (some a)] u w fun e u' w' => u' = u ∧ (e = .returned (.tuple #[]) ∧ w' = w.setCell a (.int .i32 0)) := by
 have hd := disable; have he := enable; have hr := releaseMerge; have hadd := run_call_add (P := Tryz.prog) Tryz.func148 (by kernel_rfl) (by kernel_rfl) (by kernel_rfl) .i32 (by kernel_rfl) (y := -1) (s := 0) hc hz (by simp [go_sem]; rfl); have hcv := run_convert_to_unsafe (P := Tryz.prog) (src := 174) (dst := 178) Tryz.underlying174 Tryz.underlying178 (by kernel_rfl) hc
 go_enter_d Tryz.func123, Tryz.ntmps123
 go_wp2
 go_end0
 go_wp2
 go_end0
 exact ⟨rfl, rfl⟩
theorem lock_f (a : Addr) (w : World) (hc : w.cell? a = some (.int .i32 0)) (hz : w.frozen? a = false) :
  Calls Tryz.prog 122 #[.pointer (some a)] w fun e w' => e = .returned (.tuple #[]) ∧ w' = w.setCell a (.int .i32 1) := by
 have hd := disable; have he := enable; have ha := acquire; have hcas := run_call_cas_hit (P := Tryz.prog) Tryz.func143 (by kernel_rfl) (by kernel_rfl) (by kernel_rfl) .i32 (by kernel_rfl) (y := 1) hc hz; have hc' : (w.setCell a (.int .i32 1)).cell? a = some (.int .i32 1) := World.cell?_setCell_same w a _ hc; have hcv := run_convert_to_unsafe (P := Tryz.prog) (src := 174) (dst := 178) Tryz.underlying174 Tryz.underlying178 (by kernel_rfl) hc'; go_enter Tryz.func122, Tryz.ntmps122; go_wp2
 first | go_end0 | (simp only [Exit.inBlock, Exit.then]; refine bodyPost_ret (results_none rfl _ _ _) rfl ?_) | refine bodyPost_ret (results_none rfl _ _ _) rfl ?_
 go_wp2
 go_end0
 exact ⟨rfl, rfl⟩
theorem load_c (a : Addr) (d : Int) (t : Bool) (ht : (d != 0) = t) (w : World) (hc : w.cell? a = some (.int .u32 d)) :
  Calls Tryz.prog 100 #[.pointer (some a)] w fun e w' => e = .returned (.bool t) ∧ w = w' := by
 have hl := run_call_load (P := Tryz.prog) Tryz.func121 (by kernel_rfl) (by kernel_rfl) (by kernel_rfl) .u32 (by kernel_rfl) hc; go_enter Tryz.func100, Tryz.ntmps100; go_wp2; go_ret
 exact ⟨rfl, rfl⟩
theorem slow_c (b : Nat) (w : World) (T0 : Tab w b 0 0 0 0) : Calls Tryz.prog 101 #[.pointer (some ⟨b, 0, none⟩), .func (.func 85) #[.pointer (some ⟨b, 0, none⟩)] #[]] w fun e w' =>
  e = .returned (.tuple #[]) ∧ But b w w' ∧ Tab w' b 1 0 256 256 := by
 have T1 := Lib.hid (T0.setLock 1); have B1 := Lib.hid (But.setCell b w 1 (.int .i32 1)); have l0 := T0.lock; have l1 := T0.free 1; clear T0
 have hnot := nt
 go_enter_defers Tryz.func101, Tryz.ntmps101
 go_wp2_with (go_at_call 122; refine (lock_f ⟨b, 1, none⟩ _ l0 l1).mono ?_; rintro e w' ⟨rfl, rfl⟩)
 clear l0 l1; generalize w.setCell ⟨b, 1, none⟩ (.int .i32 1) = V at T1 B1 ⊢; have hw := T1.out.word
 go_wp2_with (go_at_call 100; (with_reducible refine (load_c _ 0 false rfl _ hw).mono ?_); rintro e w' ⟨rfl, rfl⟩)
 refine (fill_c b 1 V T1.out).mono ?_
 rintro e V2 ⟨rfl, hB2, hT2⟩; have T2 := Lib.hid hT2; have B2 := Lib.hid (B1.out.trans hB2); clear hT2 hB2 T1 B1 hw; go_wp2
 refine leaves_cons (f := 124) (args := #[.pointer (some ⟨b, 0, none⟩), .bool true]) (by simp) (by simp [go_sem]) ?_
 refine (store_d ⟨b, 0, none⟩ (.int .u32 0) .returning _ T2.out.word (T2.out.free 0)).mono ?_
 rintro e u' w'' ⟨rfl, rfl, rfl⟩; have T3 := (T2.out.below (Below.refl _ _).drew).setWord 1; have B3 := (B2.out.drew).trans (But.setCell b V2.drew 0 (.int .u32 1))
 refine leaves_cons (f := 123) (args := #[.pointer (some ⟨b, 1, none⟩)]) (by simp [settle]) (by simp [go_sem]) ?_
 refine (unlock_d ⟨b, 1, none⟩ _ _ T3.lock (T3.free 1)).mono ?_
 rintro e u' w'' ⟨rfl, rfl, rfl⟩; have T4 := T3.setLock 0; have B4 := B3.trans (But.setCell b _ 1 (.int .i32 0))
 exact ⟨_, results_none rfl _ _ _, rfl, B4, T4⟩
theorem fst_c (b : Nat) (w : World) (T0 : Tab w b 0 0 0 0) : Calls Tryz.prog 84 #[.pointer (some ⟨b, 0, none⟩), .func (.func 85) #[.pointer (some ⟨b, 0, none⟩)] #[]] w fun e w' =>
  e = .returned (.tuple #[]) ∧ But b w w' ∧ Tab w' b 1 0 256 256 := by
 have hw := T0.word; have H0 := Lib.hid T0; clear T0
 have hnot := nt
 go_enter Tryz.func84, Tryz.ntmps84
 go_wp2_with (go_at_call 100; (with_reducible refine (load_c _ 0 false rfl _ hw).mono ?_); rintro e w' ⟨rfl, rfl⟩)
 refine (slow_c b _ H0.out).mono ?_
 rintro e V2 ⟨rfl, hB2, hT2⟩; have T2 := Lib.hid hT2; have B2 := Lib.hid hB2; clear hT2 hB2; go_wp2
 go_end0
 exact ⟨rfl, B2.out, T2.out⟩
theorem snd_c (b : Nat) (w : World) (T0 : Tab w b 1 0 256 256) (v : Value) : Calls Tryz.prog 84 #[.pointer (some ⟨b, 0, none⟩), v] w fun e w' =>
  e = .returned (.tuple #[]) ∧ w = w' := by
 have hw := T0.word; clear T0
 have hnot := nt
 go_enter Tryz.func84, Tryz.ntmps84
 go_wp2_with (go_at_call 100; (with_reducible refine (load_c _ 1 true rfl _ hw).mono ?_); rintro e w' ⟨rfl, rfl⟩)
 go_end0
 exact ⟨rfl, rfl⟩
def TabAny (w : World) (b : Nat) : Prop := Tab w b 0 0 0 0 ∨ Tab w b 1 0 256 256
theorem do_c (b : Nat) (w : World) (T0 : TabAny w b) : Calls Tryz.prog 84 #[.pointer (some ⟨b, 0, none⟩), .func (.func 85) #[.pointer (some ⟨b, 0, none⟩)] #[]] w fun e w' =>
  e = .returned (.tuple #[]) ∧ But b w w' ∧ Tab w' b 1 0 256 256 := by
 rcases T0 with h | h
 ·exact fst_c b w h
 ·exact (snd_c b w h _).mono fun e w' ⟨h1, h2⟩ => ⟨h1, h2 ▸ But.refl _ _, h2 ▸ h⟩
end Go.Proofs.YtngdogldgcgnjaaGreat
namespace Go.Proofs.YtngdogldgcgnjaaGreat
open Go.ChangeShapes Go.WideShapes Go.ChangeAt Go.RowKit
theorem zc_size : Tryz.zeroCells81.size = 2563 := by kernel_rfl
theorem zc_0 : Tryz.zeroCells81[0]? = some (.int .u32 0) := by kernel_rfl
theorem zc_1 : Tryz.zeroCells81[1]? = some (.int .i32 0) := by kernel_rfl
theorem Tab.new (w : World) (t : TypeId) : Tab (w.alloc (.cells Tryz.zeroCells81 t)) w.heap.size 0 0 0 0 := by
 have h := Has.new w Tryz.zeroCells81 t
 refine ⟨h.1, fun o ho => ?_, h.2.2, (h.2.1 0).trans zc_0, (h.2.1 1).trans zc_1, fun i j hi => absurd hi (by omega), fun i j hi => absurd hi (by omega)⟩
 rw [h.2.1 o, Array.getElem?_eq_getElem (by rw [zc_size]; exact ho)]
 rfl
theorem new_c (w : World) : Calls Tryz.prog 11 #[] w fun e w' => e = .returned (.pointer (some ⟨w.heap.size, 0, none⟩)) ∧ w.alloc (.cells Tryz.zeroCells81 81) = w' := by
 go_enter Tryz.func11, Tryz.ntmps11; go_wp2; go_ret
 exact ⟨rfl, rfl⟩
end Go.Proofs.YtngdogldgcgnjaaGreat
