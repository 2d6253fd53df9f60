/-
  What (*sync.Once).Do does to a table, new or filled, in one goroutine: for every world; the table is there. (Some texts in one.)
-/
import Derived.Test.YtngdogldgcgnjaaGreatFill
import Derived.Tactics2
import Derived.Defers
import Derived.Laws.Pointers
import Derived.Laws.LoneSync
import Derived.RegionTactic
import Derived.RegionCalls
import Derived.ChangeAlike
namespace Go.Proofs.YtngdogldgcgnjaaGreat
open Go.ChangeShapes Go.WideShapes Go.ChangeAt Go.RowKit

theorem disable (w : World) : (callFunc 142 #[]).run Tryz.prog w = .ok (.value (.tuple #[])) w := run_call_mark0 Tryz.func142 (by kernel_rfl) (by kernel_rfl) (by kernel_rfl) .disable (by kernel_rfl) w
theorem enable (w : World) : (callFunc 144 #[]).run Tryz.prog w = .ok (.value (.tuple #[])) w := run_call_mark0 Tryz.func144 (by kernel_rfl) (by kernel_rfl) (by kernel_rfl) .enable (by kernel_rfl) w
theorem acquire (a : Addr) (w : World) : (callFunc 145 #[.pointer (some a)]).run Tryz.prog w = .ok (.value (.tuple #[])) w := run_call_marked Tryz.func145 (by kernel_rfl) (by kernel_rfl) (by kernel_rfl) .acquire (by kernel_rfl) a w
theorem releaseMerge (a : Addr) (w : World) : (callFunc 147 #[.pointer (some a)]).run Tryz.prog w = .ok (.value (.tuple #[])) w := run_call_marked Tryz.func147 (by kernel_rfl) (by kernel_rfl) (by kernel_rfl) .releaseMerge (by kernel_rfl) a w

set_option maxRecDepth 100000 in
set_option maxHeartbeats 1600000 in
theorem store_d (a : Addr) (x : Value) (u : FrameMode) (w : World) (hc : w.cell? a = some x) (hz : w.frozen? a = false) :
  CallsD Tryz.prog 124 #[.pointer (some a), .bool true] u w fun e u' w' => u' = u ∧ (e = .returned (.tuple #[]) ∧ w' = w.drew.setCell a (.int .u32 1)) := by
 have hc' : w.drew.cell? a = some x := by go_simp
 have hz' : w.drew.frozen? a = false := by go_simp
 have hst := run_call_store (P := Tryz.prog) Tryz.func130 (by kernel_rfl) (by kernel_rfl) (by kernel_rfl) (by kernel_rfl) (k := .u32) (y := 1) hc' hz'
 go_enter_d Tryz.func124, Tryz.ntmps124
 go_wp2
 go_region_calls
 all_goals (go_end0; exact ⟨rfl, rfl⟩)
set_option maxRecDepth 100000 in
set_option maxHeartbeats 1600000 in
theorem unlock_d (a : Addr) (u : FrameMode) (w : World) (hc : w.cell? a = some (.int .i32 1)) (hz : w.frozen? a = false) :
  CallsD Tryz.prog 123 #[.pointer (some a)] u w fun e u' w' => u' = u ∧ (e = .returned (.tuple #[]) ∧ w' = w.setCell a (.int .i32 0)) := by
 have hd := disable
 have he := enable
 have hr := releaseMerge
 have hadd := run_call_add (P := Tryz.prog) Tryz.func148 (by kernel_rfl) (by kernel_rfl) (by kernel_rfl) .i32 (by kernel_rfl) (y := -1) (s := 0) hc hz (by simp [go_sem]; rfl)
 have hcv := run_convert_to_unsafe (P := Tryz.prog) (src := 174) (dst := 178) Tryz.underlying174 Tryz.underlying178 (by kernel_rfl) hc
 go_enter_d Tryz.func123, Tryz.ntmps123
 go_wp2
 go_end0
 go_wp2
 go_end0
 exact ⟨rfl, rfl⟩
set_option maxRecDepth 100000 in
set_option maxHeartbeats 1600000 in
theorem lock_f (a : Addr) (w : World) (hc : w.cell? a = some (.int .i32 0)) (hz : w.frozen? a = false) :
  Calls Tryz.prog 122 #[.pointer (some a)] w fun e w' => e = .returned (.tuple #[]) ∧ w' = w.setCell a (.int .i32 1) := by
 have hd := disable
 have he := enable
 have ha := acquire
 have hcas := run_call_cas_hit (P := Tryz.prog) Tryz.func143 (by kernel_rfl) (by kernel_rfl) (by kernel_rfl) .i32 (by kernel_rfl) (y := 1) hc hz
 have hc' : (w.setCell a (.int .i32 1)).cell? a = some (.int .i32 1) := World.cell?_setCell_same w a _ hc
 have hcv := run_convert_to_unsafe (P := Tryz.prog) (src := 174) (dst := 178) Tryz.underlying174 Tryz.underlying178 (by kernel_rfl) hc'
 go_enter Tryz.func122, Tryz.ntmps122
 go_wp2
 first | go_end0 | (simp only [Exit.inBlock, Exit.then]; refine bodyPost_ret (results_none rfl _ _ _) rfl ?_) | refine bodyPost_ret (results_none rfl _ _ _) rfl ?_
 go_wp2
 go_end0
 exact ⟨rfl, rfl⟩
set_option maxRecDepth 100000 in
set_option maxHeartbeats 1600000 in
/-- The atomic word, read. -/
theorem load_c (a : Addr) (d : Int) (t : Bool) (ht : (d != 0) = t) (w : World) (hc : w.cell? a = some (.int .u32 d)) :
  Calls Tryz.prog 100 #[.pointer (some a)] w fun e w' => e = .returned (.bool t) ∧ w = w' := by
 have hl := run_call_load (P := Tryz.prog) Tryz.func121 (by kernel_rfl) (by kernel_rfl) (by kernel_rfl) .u32 (by kernel_rfl) hc
 go_enter Tryz.func100, Tryz.ntmps100
 go_wp2
 go_ret
 exact ⟨rfl, rfl⟩
set_option maxRecDepth 100000 in
set_option maxHeartbeats 1600000 in
theorem slow_c (b : Nat) (w : World) (T0 : Tab w b 0 0 0 0) : Calls Tryz.prog 101 #[.pointer (some ⟨b, 0, none⟩), .func (.func 85) #[.pointer (some ⟨b, 0, none⟩)] #[]] w fun e w' =>
  e = .returned (.tuple #[]) ∧ But b w w' ∧ Tab w' b 1 0 256 256 := by
 have T1 := Lib.hid (T0.setLock 1)
 have B1 := Lib.hid (But.setCell b w 1 (.int .i32 1))
 have l0 := T0.lock
 have l1 := T0.free 1
 clear T0
 have hnot : ∀ (x : Bool) (w : World), (Op.unary .not (.bool x)).run Tryz.prog w = .ok (.bool (!x)) w := fun _ _ => rfl
 go_enter_defers Tryz.func101, Tryz.ntmps101
 go_wp2_with (go_at_call 122; refine (lock_f ⟨b, 1, none⟩ _ l0 l1).mono ?_; rintro e w' ⟨rfl, rfl⟩)
 clear l0 l1
 generalize w.setCell ⟨b, 1, none⟩ (.int .i32 1) = V at T1 B1 ⊢
 have hw := T1.out.word
 go_wp2_with (go_at_call 100; (with_reducible refine (load_c _ 0 false rfl _ hw).mono ?_); rintro e w' ⟨rfl, rfl⟩)
 refine (fill_c b 1 V T1.out).mono ?_
 rintro e V2 ⟨rfl, hB2, hT2⟩
 have T2 := Lib.hid hT2
 have B2 := Lib.hid (B1.out.trans hB2)
 clear hT2 hB2 T1 B1 hw
 go_wp2
 refine leaves_cons (f := 124) (args := #[.pointer (some ⟨b, 0, none⟩), .bool true]) (by simp) (by simp [go_sem]) ?_
 refine (store_d ⟨b, 0, none⟩ (.int .u32 0) .returning _ T2.out.word (T2.out.free 0)).mono ?_
 rintro e u' w'' ⟨rfl, rfl, rfl⟩
 have T3 := (T2.out.below (Below.refl _ _).drew).setWord 1
 have B3 := (B2.out.drew).trans (But.setCell b V2.drew 0 (.int .u32 1))
 refine leaves_cons (f := 123) (args := #[.pointer (some ⟨b, 1, none⟩)]) (by simp [settle]) (by simp [go_sem]) ?_
 refine (unlock_d ⟨b, 1, none⟩ _ _ T3.lock (T3.free 1)).mono ?_
 rintro e u' w'' ⟨rfl, rfl, rfl⟩
 have T4 := T3.setLock 0
 have B4 := B3.trans (But.setCell b _ 1 (.int .i32 0))
 exact ⟨_, results_none rfl _ _ _, rfl, B4, T4⟩
theorem fst_c (b : Nat) (w : World) (T0 : Tab w b 0 0 0 0) : Calls Tryz.prog 84 #[.pointer (some ⟨b, 0, none⟩), .func (.func 85) #[.pointer (some ⟨b, 0, none⟩)] #[]] w fun e w' =>
  e = .returned (.tuple #[]) ∧ But b w w' ∧ Tab w' b 1 0 256 256 := by
 have hw := T0.word
 have H0 := Lib.hid T0
 clear T0
 have hnot : ∀ (x : Bool) (w : World), (Op.unary .not (.bool x)).run Tryz.prog w = .ok (.bool (!x)) w := fun _ _ => rfl
 go_enter Tryz.func84, Tryz.ntmps84
 go_wp2_with (go_at_call 100; (with_reducible refine (load_c _ 0 false rfl _ hw).mono ?_); rintro e w' ⟨rfl, rfl⟩)
 refine (slow_c b _ H0.out).mono ?_
 rintro e V2 ⟨rfl, hB2, hT2⟩
 have T2 := Lib.hid hT2
 have B2 := Lib.hid hB2
 clear hT2 hB2
 go_wp2
 go_end0
 exact ⟨rfl, B2.out, T2.out⟩
theorem snd_c (b : Nat) (w : World) (T0 : Tab w b 1 0 256 256) (v : Value) : Calls Tryz.prog 84 #[.pointer (some ⟨b, 0, none⟩), v] w fun e w' =>
  e = .returned (.tuple #[]) ∧ w = w' := by
 have hw := T0.word
 clear T0
 have hnot : ∀ (x : Bool) (w : World), (Op.unary .not (.bool x)).run Tryz.prog w = .ok (.bool (!x)) w := fun _ _ => rfl
 go_enter Tryz.func84, Tryz.ntmps84
 go_wp2_with (go_at_call 100; (with_reducible refine (load_c _ 1 true rfl _ hw).mono ?_); rintro e w' ⟨rfl, rfl⟩)
 go_end0
 exact ⟨rfl, rfl⟩
/-- A table, new or filled. -/
def TabAny (w : World) (b : Nat) : Prop := Tab w b 0 0 0 0 ∨ Tab w b 1 0 256 256
theorem do_c (b : Nat) (w : World) (T0 : TabAny w b) : Calls Tryz.prog 84 #[.pointer (some ⟨b, 0, none⟩), .func (.func 85) #[.pointer (some ⟨b, 0, none⟩)] #[]] w fun e w' =>
  e = .returned (.tuple #[]) ∧ But b w w' ∧ Tab w' b 1 0 256 256 := by
 rcases T0 with h | h
 ·exact fst_c b w h
 ·exact (snd_c b w h _).mono fun e w' ⟨h1, h2⟩ => ⟨h1, h2 ▸ But.refl _ _, h2 ▸ h⟩
end Go.Proofs.YtngdogldgcgnjaaGreat
namespace Go.Proofs.YtngdogldgcgnjaaGreat
open Go.ChangeShapes Go.WideShapes Go.ChangeAt Go.RowKit

theorem zc_size : Tryz.zeroCells81.size = 2563 := by kernel_rfl
theorem zc_0 : Tryz.zeroCells81[0]? = some (.int .u32 0) := by kernel_rfl
theorem zc_1 : Tryz.zeroCells81[1]? = some (.int .i32 0) := by kernel_rfl
theorem Tab.new (w : World) (t : TypeId) : Tab (w.alloc (.cells Tryz.zeroCells81 t)) w.heap.size 0 0 0 0 := by
 have h := Has.new w Tryz.zeroCells81 t
 refine ⟨h.1, fun o ho => ?_, h.2.2, (h.2.1 0).trans zc_0, (h.2.1 1).trans zc_1, fun i j hi => absurd hi (by omega), fun i j hi => absurd hi (by omega)⟩
 rw [h.2.1 o, Array.getElem?_eq_getElem (by rw [zc_size]; exact ho)]
 rfl
theorem new_c (w : World) : Calls Tryz.prog 11 #[] w fun e w' => e = .returned (.pointer (some ⟨w.heap.size, 0, none⟩)) ∧ w.alloc (.cells Tryz.zeroCells81 81) = w' := by
 go_enter Tryz.func11, Tryz.ntmps11
 go_wp2
 go_ret
 exact ⟨rfl, rfl⟩
end Go.Proofs.YtngdogldgcgnjaaGreat
