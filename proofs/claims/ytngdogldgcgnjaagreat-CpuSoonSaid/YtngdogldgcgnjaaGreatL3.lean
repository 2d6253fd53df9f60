/-
  What three steps make of the four codes of CpuSoon; no condition.
-/
import Derived.Test.YtngdogldgcgnjaaGreatL2
namespace Go.Proofs.YtngdogldgcgnjaaGreat
open Go.ChangeShapes Go.WideShapes Go.ChangeAt Go.RowKit
open Reg
set_option linter.unusedVariables false
set_option maxRecDepth 100000
section
def soonY0 (s : St) : Sy := ⟨⟨{ s.r with sp := 53248, pc := 256 }, false, false, false, false⟩, upd (upd (upd (upd (upd (upd (upd (upd (fun _ => 0) 65295 1) 65535 1) 256 251) 257 0) 258 0) 53249 2) 512 0) 513 0, []⟩
def soonY1 (s : St) : Sy := ⟨⟨{ s.r with sp := 53248, pc := 256 }, false, false, false, false⟩, upd (upd (upd (upd (upd (upd (upd (upd (fun _ => 0) 65295 1) 65535 1) 256 251) 257 243) 258 0) 53249 2) 512 0) 513 0, []⟩
def soonY2 (s : St) : Sy := ⟨⟨{ s.r with sp := 53248, pc := 256 }, false, false, false, false⟩, upd (upd (upd (upd (upd (upd (upd (upd (fun _ => 0) 65295 1) 65535 1) 256 217) 257 0) 258 0) 53249 2) 512 0) 513 0, []⟩
def soonY3 (s : St) : Sy := ⟨⟨{ s.r with sp := 53248, pc := 256 }, false, false, false, false⟩, upd (upd (upd (upd (upd (upd (upd (upd (fun _ => 0) 65295 1) 65535 1) 256 251) 257 251) 258 0) 53249 2) 512 0) 513 0, []⟩
theorem soonP0 (s : St) {y0 y1 y2 y3 : Sy} {D0 D1 D2 : DidV} (h0 : y0 = soonY0 s) (h1 : y1 = stepS ⟨y0.s, y0.m, y0.acc⟩) (h2 : y2 = stepS ⟨y1.s, y1.m, y1.acc⟩) (h3 : y3 = stepS ⟨y2.s, y2.m, y2.acc⟩)
    (d0 : D0 = stepD ⟨y0.s, y0.m, y0.acc⟩) (d1 : D1 = stepD ⟨y1.s, y1.m, y1.acc⟩) (d2 : D2 = stepD ⟨y2.s, y2.m, y2.acc⟩) : D0.what = 1 ∧ D1.what = 1 ∧ D2.what = 2 ∧ y3.s.ime = false ∧ y3.s.r.pc = 64 := by
  subst d0 d1 d2 h3 h2 h1 h0
  exact ⟨by kernel_rfl, by kernel_rfl, by kernel_rfl, by kernel_rfl, by kernel_rfl⟩
theorem soonP1 (s : St) {y0 y1 y2 y3 : Sy} {D0 D1 D2 : DidV} (h0 : y0 = soonY1 s) (h1 : y1 = stepS ⟨y0.s, y0.m, y0.acc⟩) (h2 : y2 = stepS ⟨y1.s, y1.m, y1.acc⟩) (h3 : y3 = stepS ⟨y2.s, y2.m, y2.acc⟩)
    (d0 : D0 = stepD ⟨y0.s, y0.m, y0.acc⟩) (d1 : D1 = stepD ⟨y1.s, y1.m, y1.acc⟩) (d2 : D2 = stepD ⟨y2.s, y2.m, y2.acc⟩) : D0.what = 1 ∧ D1.what = 1 ∧ D2.what = 1 ∧ y3.s.ime = false ∧ y3.s.r.pc = 259 := by
  subst d0 d1 d2 h3 h2 h1 h0
  exact ⟨by kernel_rfl, by kernel_rfl, by kernel_rfl, by kernel_rfl, by kernel_rfl⟩
theorem soonP2 (s : St) {y0 y1 y2 y3 : Sy} {D0 D1 D2 : DidV} (h0 : y0 = soonY2 s) (h1 : y1 = stepS ⟨y0.s, y0.m, y0.acc⟩) (h2 : y2 = stepS ⟨y1.s, y1.m, y1.acc⟩) (h3 : y3 = stepS ⟨y2.s, y2.m, y2.acc⟩)
    (d0 : D0 = stepD ⟨y0.s, y0.m, y0.acc⟩) (d1 : D1 = stepD ⟨y1.s, y1.m, y1.acc⟩) (d2 : D2 = stepD ⟨y2.s, y2.m, y2.acc⟩) : D0.what = 1 ∧ D1.what = 2 ∧ D2.what = 1 ∧ y3.s.ime = false ∧ y3.s.r.pc = 65 := by
  subst d0 d1 d2 h3 h2 h1 h0
  exact ⟨by kernel_rfl, by kernel_rfl, by kernel_rfl, by kernel_rfl, by kernel_rfl⟩
theorem soonP3 (s : St) {y0 y1 y2 y3 : Sy} {D0 D1 D2 : DidV} (h0 : y0 = soonY3 s) (h1 : y1 = stepS ⟨y0.s, y0.m, y0.acc⟩) (h2 : y2 = stepS ⟨y1.s, y1.m, y1.acc⟩) (h3 : y3 = stepS ⟨y2.s, y2.m, y2.acc⟩)
    (d0 : D0 = stepD ⟨y0.s, y0.m, y0.acc⟩) (d1 : D1 = stepD ⟨y1.s, y1.m, y1.acc⟩) (d2 : D2 = stepD ⟨y2.s, y2.m, y2.acc⟩) : D0.what = 1 ∧ D1.what = 1 ∧ D2.what = 2 ∧ y3.s.ime = false ∧ y3.s.r.pc = 64 := by
  subst d0 d1 d2 h3 h2 h1 h0
  exact ⟨by kernel_rfl, by kernel_rfl, by kernel_rfl, by kernel_rfl, by kernel_rfl⟩
end
end Go.Proofs.YtngdogldgcgnjaaGreat
