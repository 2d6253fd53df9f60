/-
  What Encode of package regs, and of the document, return, for every set of registers: twelve bytes in memory of their own; no condition but that each argument fits its kind.
-/
import Derived.Test.YtiolfmmekcahaaaFrame
namespace Go.Proofs.Ytiolfmmekcahaaa
open Go.ChangeShapes Go.WideShapes Go.ChangeAt Go.RowKit

def encA (r : RR) : Array Value := #[.int .u8 r.a, .int .u8 (r.f / 16 * 16), .int .u8 r.b, .int .u8 r.c, .int .u8 r.d, .int .u8 r.e, .int .u8 r.h, .int .u8 r.l, .int .u8 (r.sp % 256), .int .u8 (r.sp / 256), .int .u8 (r.pc % 256), .int .u8 (r.pc / 256)]

set_option maxHeartbeats 1000000 in
theorem enc_c (r : RR) (ok : r.ok) (w : World) :
    Calls Try.prog 20 #[.agg #[.int .u8 r.a, .int .u8 r.f, .int .u8 r.b, .int .u8 r.c, .int .u8 r.d, .int .u8 r.e, .int .u8 r.h, .int .u8 r.l, .int .u16 r.sp, .int .u16 r.pc]] w fun e w' => e = .returned (.slice (some ⟨w.heap.size + 1, 0, none⟩) 12 12) ∧ w' = (w.alloc (.cells #[Value.int .u8 r.a, Value.int .u8 r.f, Value.int .u8 r.b, Value.int .u8 r.c, Value.int .u8 r.d, Value.int .u8 r.e, Value.int .u8 r.h, Value.int .u8 r.l, Value.int .u16 r.sp, Value.int .u16 r.pc] 26)).alloc (.cells (encA r) 5) := by
  obtain ⟨⟨a1, a2⟩, ⟨f1, f2⟩, ⟨b1, b2⟩, ⟨c1, c2⟩, ⟨d1, d2⟩, ⟨e1, e2⟩, ⟨h1, h2⟩, ⟨l1, l2⟩, ⟨s1, s2⟩, ⟨p1, p2⟩⟩ := ok
  have E4 := low4 r.f f1 f2
  go_enter Try.func20, Try.ntmps20
  go_wp2
  go_ret
  exact ⟨rfl, rfl⟩

set_option maxHeartbeats 1000000 in
theorem enc_r (r : RR) (ok : r.ok) (w : World) :
    Calls Try.prog 24 #[.agg #[.int .u8 r.a, .int .u8 r.f, .int .u8 r.b, .int .u8 r.c, .int .u8 r.d, .int .u8 r.e, .int .u8 r.h, .int .u8 r.l, .int .u16 r.sp, .int .u16 r.pc]] w fun e w' => e = .returned (.slice (some ⟨w.heap.size + 1, 0, none⟩) 12 12) ∧ w' = (w.alloc (.cells #[Value.int .u8 r.a, Value.int .u8 r.f, Value.int .u8 r.b, Value.int .u8 r.c, Value.int .u8 r.d, Value.int .u8 r.e, Value.int .u8 r.h, Value.int .u8 r.l, Value.int .u16 r.sp, Value.int .u16 r.pc] 24)).alloc (.cells (encA r) 5) := by
  obtain ⟨⟨a1, a2⟩, ⟨f1, f2⟩, ⟨b1, b2⟩, ⟨c1, c2⟩, ⟨d1, d2⟩, ⟨e1, e2⟩, ⟨h1, h2⟩, ⟨l1, l2⟩, ⟨s1, s2⟩, ⟨p1, p2⟩⟩ := ok
  have E5 := Lib.hid (show IntKind.u16.wrap (r.sp.tdiv 256) % 256 = r.sp / 256 by rw [IntKind.wrap_u16, Int.tdiv_eq_ediv_of_nonneg s1]; omega)
  have E6 := Lib.hid (show IntKind.u16.wrap (r.pc.tdiv 256) % 256 = r.pc / 256 by rw [IntKind.wrap_u16, Int.tdiv_eq_ediv_of_nonneg p1]; omega)
  go_enter Try.func24, Try.ntmps24
  go_wp2
  go_ret
  rw [E5.out, E6.out]
  exact ⟨rfl, rfl⟩

/-- Twelve bytes in a block of their own; nothing that was there has changed. -/
def EncPost (r : RR) (w : World) (e : Ending) (w' : World) : Prop :=
  ∃ b, e = .returned (.slice (some ⟨b, 0, none⟩) 12 12) ∧ w.heap.size ≤ b ∧ Has w' b (encA r) ∧ Below w.heap.size w w'
theorem enc_cp (r : RR) (ok : r.ok) (w : World) : Calls Try.prog 20 #[.agg #[.int .u8 r.a, .int .u8 r.f, .int .u8 r.b, .int .u8 r.c, .int .u8 r.d, .int .u8 r.e, .int .u8 r.h, .int .u8 r.l, .int .u16 r.sp, .int .u16 r.pc]] w (EncPost r w) :=
  (enc_c r ok w).mono fun _ w' ⟨he, hw⟩ => ⟨w.heap.size + 1, he, by omega, by
    have h := Has.new (w.alloc (.cells #[Value.int .u8 r.a, Value.int .u8 r.f, Value.int .u8 r.b, Value.int .u8 r.c, Value.int .u8 r.d, Value.int .u8 r.e, Value.int .u8 r.h, Value.int .u8 r.l, Value.int .u16 r.sp, Value.int .u16 r.pc] 26)) (encA r) 5
    rw [hw]; simpa using h, by rw [hw]; exact ((Below.refl _ _).alloc (Nat.le_refl _) _).alloc (by simp) _⟩
theorem enc_rp (r : RR) (ok : r.ok) (w : World) : Calls Try.prog 24 #[.agg #[.int .u8 r.a, .int .u8 r.f, .int .u8 r.b, .int .u8 r.c, .int .u8 r.d, .int .u8 r.e, .int .u8 r.h, .int .u8 r.l, .int .u16 r.sp, .int .u16 r.pc]] w (EncPost r w) :=
  (enc_r r ok w).mono fun _ w' ⟨he, hw⟩ => ⟨w.heap.size + 1, he, by omega, by
    have h := Has.new (w.alloc (.cells #[Value.int .u8 r.a, Value.int .u8 r.f, Value.int .u8 r.b, Value.int .u8 r.c, Value.int .u8 r.d, Value.int .u8 r.e, Value.int .u8 r.h, Value.int .u8 r.l, Value.int .u16 r.sp, Value.int .u16 r.pc] 24)) (encA r) 5
    rw [hw]; simpa using h, by rw [hw]; exact ((Below.refl _ _).alloc (Nat.le_refl _) _).alloc (by simp) _⟩
end Go.Proofs.Ytiolfmmekcahaaa
