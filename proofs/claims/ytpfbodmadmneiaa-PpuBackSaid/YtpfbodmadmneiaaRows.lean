/-
  No cell of these rows narrows 'for every input' (looked for: loops, veiled, ifaces, maps, wideKeys, modest, calm, conditions, laid).
  DERIVED. THE GIVEN ROWS OF THIS SEAT. 7 by the template 'for every input the law returns true; each argument reads behind the call as it read before'; 0 by the template 'total and deterministic' (their statements: YtpfbodmadmneiaaTotals.lean).
  GIVEN WITH THE SEED: the statements are not yours to turn. If you find one false, say at which input.
  Laid BY PROGRAM, IN A SANDBOX (cutbox-rows.mjs): the forced cells as the released guide's own fill.sh prints them over the translation 13a5399884182d3f… (all of the seat's roots in one cut). By AI agents, Wed Nov 11 2026. No macro, syntax, notation, axiom, sorry.
-/
import Derived.Test.YtpfbodmadmneiaaChecked
import GoSem.Claim
import GoSem.ClaimJoined
import GoSem.ClaimMapViews
import Derived.JoinedTies
import Derived.KernelRfl
namespace Go.Proofs.Ytpfbodmadmneiaa
/- THE CELL 'sum', in the pinned program and in every row, IS THE sha256 OF THE DUMP (.gsa) THAT YtpfbodmadmneiaaProg.lean LOADS. Nothing in Lean hashes anything: it is a label: what it is worth is what the hold of that sum in a sandbox is worth. -/
noncomputable def Try.pinned : Pinned := { name := "ytpfbodmadmneiaa", sum := "13a5399884182d3f48e105b62fd7a8dcd10f4ab010d0275febfbe252abd6fca1", checked := Try.checked }
namespace Rows
def none {H : Type} : Left H := { results := [], args := [] }

/-- 'retrogradelaw15.PpuPlays': WHATEVER THE INPUT: true; the input reads as it did. -/
def ppuPlaysSpec : ChangeSpec := { name := "ppuPlays", fn := fun _ => fun
  | [d] => { results := [.lit (.bool true)], args := [d] }
  | _ => none }
def ppuPlaysRow : OpenClaim := { program := "ytpfbodmadmneiaa", sum := "13a5399884182d3f48e105b62fd7a8dcd10f4ab010d0275febfbe252abd6fca1", func := "retrograde/retrogradelaw15.PpuPlays", spec := "ppuPlays", unfollowed := true, recurses := true, apart := false }
def PpuPlaysSaid : Prop := ppuPlaysRow.holds Try.pinned (OpenSpec.ofChange ppuPlaysSpec)

/-- ITS FALSE NEIGHBOUR: 'it returns false'. Refute it at one input. -/
def ppuPlaysWrong : ChangeSpec := { name := "ppuPlays", fn := fun _ => fun
  | [d] => { results := [.lit (.bool false)], args := [d] }
  | _ => none }
def PpuPlaysWrongFalsely : Prop := ppuPlaysRow.holds Try.pinned (OpenSpec.ofChange ppuPlaysWrong)

/-- 'retrogradelaw15.PpuBack': WHATEVER THE INPUT: true; the input reads as it did. -/
def ppuBackSpec : ChangeSpec := { name := "ppuBack", fn := fun _ => fun
  | [d1, d2] => { results := [.lit (.bool true)], args := [d1, d2] }
  | _ => none }
def ppuBackRow : OpenClaim := { program := "ytpfbodmadmneiaa", sum := "13a5399884182d3f48e105b62fd7a8dcd10f4ab010d0275febfbe252abd6fca1", func := "retrograde/retrogradelaw15.PpuBack", spec := "ppuBack", unfollowed := true, recurses := true, apart := false }
def PpuBackSaid : Prop := ppuBackRow.holds Try.pinned (OpenSpec.ofChange ppuBackSpec)

/-- ITS FALSE NEIGHBOUR: 'it returns false'. Refute it at one input. -/
def ppuBackWrong : ChangeSpec := { name := "ppuBack", fn := fun _ => fun
  | [d1, d2] => { results := [.lit (.bool false)], args := [d1, d2] }
  | _ => none }
def PpuBackWrongFalsely : Prop := ppuBackRow.holds Try.pinned (OpenSpec.ofChange ppuBackWrong)

/-- 'retrogradelaw15.PpuBytes': WHATEVER THE INPUT: true; the input reads as it did. -/
def ppuBytesSpec : ChangeSpec := { name := "ppuBytes", fn := fun _ => fun
  | [d1, d2, d3, d4] => { results := [.lit (.bool true)], args := [d1, d2, d3, d4] }
  | _ => none }
def ppuBytesRow : OpenClaim := { program := "ytpfbodmadmneiaa", sum := "13a5399884182d3f48e105b62fd7a8dcd10f4ab010d0275febfbe252abd6fca1", func := "retrograde/retrogradelaw15.PpuBytes", spec := "ppuBytes", unfollowed := true, recurses := true, apart := false }
def PpuBytesSaid : Prop := ppuBytesRow.holds Try.pinned (OpenSpec.ofChange ppuBytesSpec)

/-- ITS FALSE NEIGHBOUR: 'it returns false'. Refute it at one input. -/
def ppuBytesWrong : ChangeSpec := { name := "ppuBytes", fn := fun _ => fun
  | [d1, d2, d3, d4] => { results := [.lit (.bool false)], args := [d1, d2, d3, d4] }
  | _ => none }
def PpuBytesWrongFalsely : Prop := ppuBytesRow.holds Try.pinned (OpenSpec.ofChange ppuBytesWrong)

/-- 'retrogradelaw15.PpuFrames': WHATEVER THE INPUT: true; the input reads as it did. -/
def ppuFramesSpec : ChangeSpec := { name := "ppuFrames", fn := fun _ => fun
  | [d1, d2] => { results := [.lit (.bool true)], args := [d1, d2] }
  | _ => none }
def ppuFramesRow : OpenClaim := { program := "ytpfbodmadmneiaa", sum := "13a5399884182d3f48e105b62fd7a8dcd10f4ab010d0275febfbe252abd6fca1", func := "retrograde/retrogradelaw15.PpuFrames", spec := "ppuFrames", unfollowed := true, recurses := true, apart := false }
def PpuFramesSaid : Prop := ppuFramesRow.holds Try.pinned (OpenSpec.ofChange ppuFramesSpec)

/-- ITS FALSE NEIGHBOUR: 'it returns false'. Refute it at one input. -/
def ppuFramesWrong : ChangeSpec := { name := "ppuFrames", fn := fun _ => fun
  | [d1, d2] => { results := [.lit (.bool false)], args := [d1, d2] }
  | _ => none }
def PpuFramesWrongFalsely : Prop := ppuFramesRow.holds Try.pinned (OpenSpec.ofChange ppuFramesWrong)

/-- 'retrogradelaw15.PpuShut': WHATEVER THE INPUT: true; the input reads as it did. -/
def ppuShutSpec : ChangeSpec := { name := "ppuShut", fn := fun _ => fun
  | [d1, d2, d3] => { results := [.lit (.bool true)], args := [d1, d2, d3] }
  | _ => none }
def ppuShutRow : OpenClaim := { program := "ytpfbodmadmneiaa", sum := "13a5399884182d3f48e105b62fd7a8dcd10f4ab010d0275febfbe252abd6fca1", func := "retrograde/retrogradelaw15.PpuShut", spec := "ppuShut", unfollowed := true, recurses := true, apart := false }
def PpuShutSaid : Prop := ppuShutRow.holds Try.pinned (OpenSpec.ofChange ppuShutSpec)

/-- ITS FALSE NEIGHBOUR: 'it returns false'. Refute it at one input. -/
def ppuShutWrong : ChangeSpec := { name := "ppuShut", fn := fun _ => fun
  | [d1, d2, d3] => { results := [.lit (.bool false)], args := [d1, d2, d3] }
  | _ => none }
def PpuShutWrongFalsely : Prop := ppuShutRow.holds Try.pinned (OpenSpec.ofChange ppuShutWrong)

/-- 'retrogradelaw15.PpuAsks': WHATEVER THE INPUT: true; the input reads as it did. -/
def ppuAsksSpec : ChangeSpec := { name := "ppuAsks", fn := fun _ => fun
  | [d1, d2] => { results := [.lit (.bool true)], args := [d1, d2] }
  | _ => none }
def ppuAsksRow : OpenClaim := { program := "ytpfbodmadmneiaa", sum := "13a5399884182d3f48e105b62fd7a8dcd10f4ab010d0275febfbe252abd6fca1", func := "retrograde/retrogradelaw15.PpuAsks", spec := "ppuAsks", unfollowed := true, recurses := true, apart := false }
def PpuAsksSaid : Prop := ppuAsksRow.holds Try.pinned (OpenSpec.ofChange ppuAsksSpec)

/-- ITS FALSE NEIGHBOUR: 'it returns false'. Refute it at one input. -/
def ppuAsksWrong : ChangeSpec := { name := "ppuAsks", fn := fun _ => fun
  | [d1, d2] => { results := [.lit (.bool false)], args := [d1, d2] }
  | _ => none }
def PpuAsksWrongFalsely : Prop := ppuAsksRow.holds Try.pinned (OpenSpec.ofChange ppuAsksWrong)

/-- 'retrogradelaw15.PpuOff': WHATEVER THE INPUT: true; the input reads as it did. -/
def ppuOffSpec : ChangeSpec := { name := "ppuOff", fn := fun _ => fun
  | [d1, d2, d3, d4] => { results := [.lit (.bool true)], args := [d1, d2, d3, d4] }
  | _ => none }
def ppuOffRow : OpenClaim := { program := "ytpfbodmadmneiaa", sum := "13a5399884182d3f48e105b62fd7a8dcd10f4ab010d0275febfbe252abd6fca1", func := "retrograde/retrogradelaw15.PpuOff", spec := "ppuOff", unfollowed := true, recurses := true, apart := false }
def PpuOffSaid : Prop := ppuOffRow.holds Try.pinned (OpenSpec.ofChange ppuOffSpec)

/-- ITS FALSE NEIGHBOUR: 'it returns false'. Refute it at one input. -/
def ppuOffWrong : ChangeSpec := { name := "ppuOff", fn := fun _ => fun
  | [d1, d2, d3, d4] => { results := [.lit (.bool false)], args := [d1, d2, d3, d4] }
  | _ => none }
def PpuOffWrongFalsely : Prop := ppuOffRow.holds Try.pinned (OpenSpec.ofChange ppuOffWrong)

/- THE SECOND FORM. 'bulk': how many values and letters a reading holds, each counted each time it is reached (what is shared counts as often as it is met; a slice's spare places count too). A statement '..UptoSaid' is the law's where the arguments, and the package variables that the reading takes, are together of bulk at most 1048576: NARROWER than '..Said'. Prove '..Said' where nothing that the law and all that it calls make is longer than what came in: it says more and counts as full. Else prove '..UptoSaid'. A law counts once. -/
mutual
def uptoBulk {H : Type} : DataW H → Nat
  | .lit (.string bytes) => bytes.length + 1
  | .lit _ => 1
  | .nil => 1
  | .ptr d => uptoBulk d + 1
  | .slice elems spare => uptoBulkAll elems + uptoBulkAll spare + 1
  | .agg parts => uptoBulkAll parts + 1
  | .iface _ d => uptoBulk d + 1
  | .map entries => uptoBulkEntries entries + 1
  | .held _ => 1
def uptoBulkAll {H : Type} : List (DataW H) → Nat
  | [] => 0
  | d :: r => uptoBulk d + uptoBulkAll r
def uptoBulkEntries {H : Type} : List (Lit × DataW H) → Nat
  | [] => 0
  | x :: r => uptoBulkEntry x + uptoBulkEntries r
def uptoBulkEntry {H : Type} : Lit × DataW H → Nat
  | (.string bytes, d) => bytes.length + uptoBulk d + 1
  | (_, d) => uptoBulk d + 1
 end
def uptoSmall : (H : Type) → List (DataW H) → Bool := fun _ ds => decide (uptoBulkAll ds ≤ 1048576)
def OpenSpec.upto (s : _root_.Go.ChangeSpec) : _root_.Go.OpenSpec := { _root_.Go.OpenSpec.ofChange s with cond := some uptoSmall }

/-- 'retrogradelaw15.PpuPlays', WHERE WHAT IT READS IS OF BULK AT MOST 1048576: true; the input reads as it did. -/
def ppuPlaysUptoRow : OpenClaim := { program := "ytpfbodmadmneiaa", sum := "13a5399884182d3f48e105b62fd7a8dcd10f4ab010d0275febfbe252abd6fca1", func := "retrograde/retrogradelaw15.PpuPlays", spec := "ppuPlays", unfollowed := true, recurses := true, apart := false, narrowed := true }
def PpuPlaysUptoSaid : Prop := ppuPlaysUptoRow.holds Try.pinned (OpenSpec.upto ppuPlaysSpec)

/-- 'retrogradelaw15.PpuBack', WHERE WHAT IT READS IS OF BULK AT MOST 1048576: true; the input reads as it did. -/
def ppuBackUptoRow : OpenClaim := { program := "ytpfbodmadmneiaa", sum := "13a5399884182d3f48e105b62fd7a8dcd10f4ab010d0275febfbe252abd6fca1", func := "retrograde/retrogradelaw15.PpuBack", spec := "ppuBack", unfollowed := true, recurses := true, apart := false, narrowed := true }
def PpuBackUptoSaid : Prop := ppuBackUptoRow.holds Try.pinned (OpenSpec.upto ppuBackSpec)

/-- 'retrogradelaw15.PpuBytes', WHERE WHAT IT READS IS OF BULK AT MOST 1048576: true; the input reads as it did. -/
def ppuBytesUptoRow : OpenClaim := { program := "ytpfbodmadmneiaa", sum := "13a5399884182d3f48e105b62fd7a8dcd10f4ab010d0275febfbe252abd6fca1", func := "retrograde/retrogradelaw15.PpuBytes", spec := "ppuBytes", unfollowed := true, recurses := true, apart := false, narrowed := true }
def PpuBytesUptoSaid : Prop := ppuBytesUptoRow.holds Try.pinned (OpenSpec.upto ppuBytesSpec)

/-- 'retrogradelaw15.PpuFrames', WHERE WHAT IT READS IS OF BULK AT MOST 1048576: true; the input reads as it did. -/
def ppuFramesUptoRow : OpenClaim := { program := "ytpfbodmadmneiaa", sum := "13a5399884182d3f48e105b62fd7a8dcd10f4ab010d0275febfbe252abd6fca1", func := "retrograde/retrogradelaw15.PpuFrames", spec := "ppuFrames", unfollowed := true, recurses := true, apart := false, narrowed := true }
def PpuFramesUptoSaid : Prop := ppuFramesUptoRow.holds Try.pinned (OpenSpec.upto ppuFramesSpec)

/-- 'retrogradelaw15.PpuShut', WHERE WHAT IT READS IS OF BULK AT MOST 1048576: true; the input reads as it did. -/
def ppuShutUptoRow : OpenClaim := { program := "ytpfbodmadmneiaa", sum := "13a5399884182d3f48e105b62fd7a8dcd10f4ab010d0275febfbe252abd6fca1", func := "retrograde/retrogradelaw15.PpuShut", spec := "ppuShut", unfollowed := true, recurses := true, apart := false, narrowed := true }
def PpuShutUptoSaid : Prop := ppuShutUptoRow.holds Try.pinned (OpenSpec.upto ppuShutSpec)

/-- 'retrogradelaw15.PpuAsks', WHERE WHAT IT READS IS OF BULK AT MOST 1048576: true; the input reads as it did. -/
def ppuAsksUptoRow : OpenClaim := { program := "ytpfbodmadmneiaa", sum := "13a5399884182d3f48e105b62fd7a8dcd10f4ab010d0275febfbe252abd6fca1", func := "retrograde/retrogradelaw15.PpuAsks", spec := "ppuAsks", unfollowed := true, recurses := true, apart := false, narrowed := true }
def PpuAsksUptoSaid : Prop := ppuAsksUptoRow.holds Try.pinned (OpenSpec.upto ppuAsksSpec)

/-- 'retrogradelaw15.PpuOff', WHERE WHAT IT READS IS OF BULK AT MOST 1048576: true; the input reads as it did. -/
def ppuOffUptoRow : OpenClaim := { program := "ytpfbodmadmneiaa", sum := "13a5399884182d3f48e105b62fd7a8dcd10f4ab010d0275febfbe252abd6fca1", func := "retrograde/retrogradelaw15.PpuOff", spec := "ppuOff", unfollowed := true, recurses := true, apart := false, narrowed := true }
def PpuOffUptoSaid : Prop := ppuOffUptoRow.holds Try.pinned (OpenSpec.upto ppuOffSpec)

end Rows
end Go.Proofs.Ytpfbodmadmneiaa
