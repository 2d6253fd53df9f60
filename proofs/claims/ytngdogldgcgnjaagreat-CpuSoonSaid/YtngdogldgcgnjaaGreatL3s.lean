/-
  The walk through CpuSoon: it returns true, for every input and every world; no condition.
-/
import Derived.Test.YtngdogldgcgnjaaGreatL3a
import Derived.Test.YtngdogldgcgnjaaGreatL3b
import Derived.Test.YtngdogldgcgnjaaGreatL3c
import Derived.Test.YtngdogldgcgnjaaGreatL3d
namespace Go.Proofs.YtngdogldgcgnjaaGreat
open Go.ChangeShapes Go.WideShapes Go.ChangeAt Go.RowKit
namespace cpuSoon
theorem walk (s : St) (ok : s.r.ok) (a : Int) (a0 : 0 ≤ a) (a1 : a < 256) (w : World) : Calls Tryz.prog 7 #[.agg #[.int .u8 s.r.a, .int .u8 s.r.f, .int .u8 s.r.b, .int .u8 s.r.c, .int .u8 s.r.d, .int .u8 s.r.e, .int .u8 s.r.h, .int .u8 s.r.l, .int .u16 s.r.sp, .int .u16 s.r.pc, .bool s.ime, .bool s.soon, .bool s.halt, .bool s.stop], .int .u8 a] w fun e w' => e = .returned (.bool true) ∧ Below w.heap.size w w' := by
  have h : a % 4 = 0 ∨ a % 4 = 1 ∨ a % 4 = 2 ∨ a % 4 = 3 := by omega
  rcases h with h | h | h | h
  · exact soon_0 s ok a a0 a1 h w
  · exact soon_1 s ok a a0 a1 h w
  · exact soon_2 s ok a a0 a1 h w
  · exact soon_3 s ok a a0 a1 h w
end cpuSoon
end Go.Proofs.YtngdogldgcgnjaaGreat
