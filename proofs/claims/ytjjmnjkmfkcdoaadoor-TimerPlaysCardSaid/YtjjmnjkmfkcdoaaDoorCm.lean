/-
  The program's closure: made, and called; for every timer; no condition but that each number fits, and that the table lies as it is laid.
-/
import Derived.Test.YtjjmnjkmfkcdoaaDoorRt
import Derived.Deep.Cut
namespace Go.Proofs.YtjjmnjkmfkcdoaaDoor
open Go.ChangeShapes Go.WideShapes Go.ChangeAt Go.RowKit
set_option linter.unusedVariables false
set_option linter.unusedSimpArgs false
set_option maxRecDepth 100000
/-- The two variables that a closure holds: what the signal was, and where the timer is. -/
def Clo (w : World) (bb qb pb : Nat) (s : Bool) : Prop := Has w bb #[.bool s] ∧ Has w qb #[.pointer (some ⟨pb, 0, none⟩)]
theorem Clo.below {w w' : World} {bb qb pb : Nat} {s : Bool} (h : Clo w bb qb pb s) (hb : Below w.heap.size w w') : Clo w' bb qb pb s := ⟨h.1.below hb, h.2.below hb⟩
def Made (w : World) (pb : Nat) (s : Bool) (q_ : Ending) (w' : World) : Prop := ∃ bb qb : Nat, q_ = .returned (.func (.func 20) #[] #[.pointer (some ⟨bb, 0, none⟩), .pointer (some ⟨qb, 0, none⟩)]) ∧ Clo w' bb qb pb s ∧ w.heap.size ≤ bb ∧ w.heap.size ≤ qb ∧ Below w.heap.size w w'
set_option maxHeartbeats 2000000 in
theorem made_c (c a m k : Int) (o : Bool) (pb : Nat) (s : Bool) (hc0 : 0 ≤ c) (hc1 : c < 65536) (hk0 : 0 ≤ k) (hk1 : k < 256) (hs : sigV c k = s) (w : World) (hP : Has w pb #[.int .u16 c, .int .u8 a, .int .u8 m, .int .u8 k, .bool o]) (hG : Glob w) : Calls Tryd.prog 17 #[.pointer (some ⟨pb, 0, none⟩)] w (Made w pb s) := by
  have C1 := Lib.hid (fun W hW hG' => sg_c c a m k o pb s hc0 hc1 hk0 hk1 hs W hW hG')
  clear hs hc0 hc1 hk0 hk1
  have P0 := Lib.hid (hP.alloc (.cells #[.pointer (some ⟨pb, 0, none⟩)] 47))
  have Q0 := Lib.hid (Has.new w #[.pointer (some ⟨pb, 0, none⟩)] 47)
  have G0 := Lib.hid (hG.alloc (.cells #[.pointer (some ⟨pb, 0, none⟩)] 47))
  have B0 := Lib.hid (own1 w (.cells #[.pointer (some ⟨pb, 0, none⟩)] 47))
  have LQ := Lib.hid (Nat.le_refl w.heap.size)
  clear hP hG
  go_enter Tryd.func17, Tryd.ntmps17
  go_upto_region 1 with (fail)
  generalize w.alloc (.cells #[.pointer (some ⟨pb, 0, none⟩)] 47) = w0 at P0 Q0 G0 B0 ⊢
  generalize hqb : w.heap.size = qb at Q0 ⊢
  replace hqb := Lib.hid hqb
  obtain ⟨hc, hf⟩ := Q0.out.out
  go_wp2_with fail
  with_reducible refine (C1.out _ P0.out G0.out).mono ?_
  rintro q_ w1 ⟨rfl, hb⟩
  clear hc hf
  have Q1 := Lib.hid (Q0.out.below hb)
  have hs1 := hb.size
  have B1 := Lib.hid (vian (hqb.out ▸ Nat.le_refl _) B0.out hb)
  have Q2 := Lib.hid (Q1.out.alloc (.cells #[.bool s] 4))
  have S2 := Lib.hid (Has.new w1 #[.bool s] 4)
  have B2 := Lib.hid (vian (hqb.out ▸ Nat.le_refl _) B1.out (own1 w1 (.cells #[.bool s] 4)))
  have L2 := Lib.hid B1.out.size
  clear hb hs1
  go_wp2
  refine bodyPost_ret (v := .func (.func 20) #[] #[.pointer (some ⟨w1.heap.size, 0, none⟩), .pointer (some ⟨qb, 0, none⟩)]) (by simp [results, Tryd.results17, go_sem]) rfl ⟨w1.heap.size, qb, rfl, ⟨S2.out, Q2.out⟩, ?_, ?_, ?_⟩
  · exact hqb.out ▸ L2.out
  · exact hqb.out ▸ Nat.le_refl _
  · exact hqb.out ▸ B2.out
end Go.Proofs.YtjjmnjkmfkcdoaaDoor
