/-
  NARROWER THAN 'FOR EVERY INPUT', by the rows' own cells (each row's printed sentence says how): SoundHolds: laid · SoundLengths: laid · SoundOff: laid · SoundReads: laid · SoundLevels: laid.
  DERIVED. THE GIVEN ROWS OF THIS SEAT. 5 by the template 'for every input the law returns true; each argument reads behind the call as it read before'; 0 by the template 'total and deterministic' (their statements: YtonmnpadmphbdaaDoorTotals.lean).
  GIVEN WITH THE SEED: the statements are not yours to turn. If you find one false, say at which input.
  Laid BY PROGRAM, IN A SANDBOX (cutbox-rows.mjs): the forced cells as the released guide's own fill.sh prints them over the translation 1c78fd4c2e861918… (all of the seat's roots in one cut). By AI agents, Wed Nov 11 2026. No macro, syntax, notation, axiom, sorry.
-/
import Derived.Test.YtonmnpadmphbdaaDoorChecked
import GoSem.Claim
import GoSem.ClaimJoined
import GoSem.ClaimMapViews
import Derived.JoinedTies
import Derived.KernelRfl
namespace Go.Proofs.YtonmnpadmphbdaaDoor
/- THE CELL 'sum', in the pinned program and in every row, IS THE sha256 OF THE DUMP (.gsa) THAT YtonmnpadmphbdaaDoorProg.lean LOADS. Nothing in Lean hashes anything: it is a label: what it is worth is what the hold of that sum in a sandbox is worth. -/
noncomputable def Tryd.pinned : Pinned := { name := "ytonmnpadmphbdaadoor", sum := "1c78fd4c2e86191881501050d736886149b3d8ea66b59c930be1bdb8444f4794", checked := Tryd.checked }
namespace Rows
def none {H : Type} : Left H := { results := [], args := [] }

/- WHAT THE LISTED PACKAGE-LEVEL VARIABLES READ AS WHEN THE CALL BEGINS. Each datum BY PROGRAM (the guide's laid-datum.mjs) off the statement by which the dump's own 'gosem.cut.vars' lays the variable. In a bare row this is a premise. The card (YtonmnpadmphbdaaDoorCards.lean) ties it to the program's text. -/
def laid_retrograde_sound_readMasks {H : Type} : DataW H := .agg [.lit (.int .u8 128), .lit (.int .u8 63), .lit (.int .u8 0), .lit (.int .u8 255), .lit (.int .u8 191), .lit (.int .u8 255), .lit (.int .u8 63), .lit (.int .u8 0), .lit (.int .u8 255), .lit (.int .u8 191), .lit (.int .u8 127), .lit (.int .u8 255), .lit (.int .u8 159), .lit (.int .u8 255), .lit (.int .u8 191), .lit (.int .u8 255), .lit (.int .u8 255), .lit (.int .u8 0), .lit (.int .u8 0), .lit (.int .u8 191), .lit (.int .u8 0), .lit (.int .u8 0), .lit (.int .u8 112), .lit (.int .u8 255), .lit (.int .u8 255), .lit (.int .u8 255), .lit (.int .u8 255), .lit (.int .u8 255), .lit (.int .u8 255), .lit (.int .u8 255), .lit (.int .u8 255), .lit (.int .u8 255), .lit (.int .u8 0), .lit (.int .u8 0), .lit (.int .u8 0), .lit (.int .u8 0), .lit (.int .u8 0), .lit (.int .u8 0), .lit (.int .u8 0), .lit (.int .u8 0), .lit (.int .u8 0), .lit (.int .u8 0), .lit (.int .u8 0), .lit (.int .u8 0), .lit (.int .u8 0), .lit (.int .u8 0), .lit (.int .u8 0), .lit (.int .u8 0)]

/-- 'retrogradelaw12.SoundHolds': WHATEVER THE INPUT: true; the input reads as it did. -/
def soundHoldsSpec : ChangeSpec := { name := "soundHolds", fn := fun _ => fun
  | [d] => { results := [.lit (.bool true)], args := [d] }
  | _ => none }
def soundHoldsRow : OpenClaim := { program := "ytonmnpadmphbdaadoor", sum := "1c78fd4c2e86191881501050d736886149b3d8ea66b59c930be1bdb8444f4794", func := "retrograde/retrogradelaw12.SoundHolds", spec := "soundHolds", named := ["retrograde/sound.readMasks"], apart := false, laid := [("retrograde/sound.readMasks", laid_retrograde_sound_readMasks)] }
def SoundHoldsSaid : Prop := soundHoldsRow.holds Tryd.pinned (OpenSpec.ofChange soundHoldsSpec)

/-- ITS FALSE NEIGHBOUR: 'it returns false'. Refute it at one input. -/
def soundHoldsWrong : ChangeSpec := { name := "soundHolds", fn := fun _ => fun
  | [d] => { results := [.lit (.bool false)], args := [d] }
  | _ => none }
def SoundHoldsWrongFalsely : Prop := soundHoldsRow.holds Tryd.pinned (OpenSpec.ofChange soundHoldsWrong)

/-- 'retrogradelaw12.SoundLengths': WHATEVER THE INPUT: true; the input reads as it did. -/
def soundLengthsSpec : ChangeSpec := { name := "soundLengths", fn := fun _ => fun
  | [d1, d2, d3] => { results := [.lit (.bool true)], args := [d1, d2, d3] }
  | _ => none }
def soundLengthsRow : OpenClaim := { program := "ytonmnpadmphbdaadoor", sum := "1c78fd4c2e86191881501050d736886149b3d8ea66b59c930be1bdb8444f4794", func := "retrograde/retrogradelaw12.SoundLengths", spec := "soundLengths", named := ["retrograde/sound.readMasks"], apart := false, laid := [("retrograde/sound.readMasks", laid_retrograde_sound_readMasks)] }
def SoundLengthsSaid : Prop := soundLengthsRow.holds Tryd.pinned (OpenSpec.ofChange soundLengthsSpec)

/-- ITS FALSE NEIGHBOUR: 'it returns false'. Refute it at one input. -/
def soundLengthsWrong : ChangeSpec := { name := "soundLengths", fn := fun _ => fun
  | [d1, d2, d3] => { results := [.lit (.bool false)], args := [d1, d2, d3] }
  | _ => none }
def SoundLengthsWrongFalsely : Prop := soundLengthsRow.holds Tryd.pinned (OpenSpec.ofChange soundLengthsWrong)

/-- 'retrogradelaw12.SoundOff': WHATEVER THE INPUT: true; the input reads as it did. -/
def soundOffSpec : ChangeSpec := { name := "soundOff", fn := fun _ => fun
  | [d1, d2, d3] => { results := [.lit (.bool true)], args := [d1, d2, d3] }
  | _ => none }
def soundOffRow : OpenClaim := { program := "ytonmnpadmphbdaadoor", sum := "1c78fd4c2e86191881501050d736886149b3d8ea66b59c930be1bdb8444f4794", func := "retrograde/retrogradelaw12.SoundOff", spec := "soundOff", named := ["retrograde/sound.readMasks"], apart := false, laid := [("retrograde/sound.readMasks", laid_retrograde_sound_readMasks)] }
def SoundOffSaid : Prop := soundOffRow.holds Tryd.pinned (OpenSpec.ofChange soundOffSpec)

/-- ITS FALSE NEIGHBOUR: 'it returns false'. Refute it at one input. -/
def soundOffWrong : ChangeSpec := { name := "soundOff", fn := fun _ => fun
  | [d1, d2, d3] => { results := [.lit (.bool false)], args := [d1, d2, d3] }
  | _ => none }
def SoundOffWrongFalsely : Prop := soundOffRow.holds Tryd.pinned (OpenSpec.ofChange soundOffWrong)

/-- 'retrogradelaw12.SoundReads': WHATEVER THE INPUT: true; the input reads as it did. -/
def soundReadsSpec : ChangeSpec := { name := "soundReads", fn := fun _ => fun
  | [d1, d2, d3] => { results := [.lit (.bool true)], args := [d1, d2, d3] }
  | _ => none }
def soundReadsRow : OpenClaim := { program := "ytonmnpadmphbdaadoor", sum := "1c78fd4c2e86191881501050d736886149b3d8ea66b59c930be1bdb8444f4794", func := "retrograde/retrogradelaw12.SoundReads", spec := "soundReads", named := ["retrograde/sound.readMasks"], apart := false, laid := [("retrograde/sound.readMasks", laid_retrograde_sound_readMasks)] }
def SoundReadsSaid : Prop := soundReadsRow.holds Tryd.pinned (OpenSpec.ofChange soundReadsSpec)

/-- ITS FALSE NEIGHBOUR: 'it returns false'. Refute it at one input. -/
def soundReadsWrong : ChangeSpec := { name := "soundReads", fn := fun _ => fun
  | [d1, d2, d3] => { results := [.lit (.bool false)], args := [d1, d2, d3] }
  | _ => none }
def SoundReadsWrongFalsely : Prop := soundReadsRow.holds Tryd.pinned (OpenSpec.ofChange soundReadsWrong)

/-- 'retrogradelaw12.SoundLevels': WHATEVER THE INPUT: true; the input reads as it did. -/
def soundLevelsSpec : ChangeSpec := { name := "soundLevels", fn := fun _ => fun
  | [d1, d2, d3] => { results := [.lit (.bool true)], args := [d1, d2, d3] }
  | _ => none }
def soundLevelsRow : OpenClaim := { program := "ytonmnpadmphbdaadoor", sum := "1c78fd4c2e86191881501050d736886149b3d8ea66b59c930be1bdb8444f4794", func := "retrograde/retrogradelaw12.SoundLevels", spec := "soundLevels", named := ["retrograde/sound.readMasks"], apart := false, laid := [("retrograde/sound.readMasks", laid_retrograde_sound_readMasks)] }
def SoundLevelsSaid : Prop := soundLevelsRow.holds Tryd.pinned (OpenSpec.ofChange soundLevelsSpec)

/-- ITS FALSE NEIGHBOUR: 'it returns false'. Refute it at one input. -/
def soundLevelsWrong : ChangeSpec := { name := "soundLevels", fn := fun _ => fun
  | [d1, d2, d3] => { results := [.lit (.bool false)], args := [d1, d2, d3] }
  | _ => none }
def SoundLevelsWrongFalsely : Prop := soundLevelsRow.holds Tryd.pinned (OpenSpec.ofChange soundLevelsWrong)

/- THE SECOND FORM. 'bulk': how many values and letters a reading holds, each counted each time it is reached (what is shared counts as often as it is met; a slice's spare places count too). A statement '..UptoSaid' is the law's where the arguments, and the package variables that the reading takes, are together of bulk at most 1048576: NARROWER than '..Said'. Prove '..Said' where nothing that the law and all that it calls make is longer than what came in: it says more and counts as full. Else prove '..UptoSaid'. A law counts once. -/
mutual
def uptoBulk {H : Type} : DataW H → Nat
  | .lit (.string bytes) => bytes.length + 1
  | .lit _ => 1
  | .nil => 1
  | .ptr d => uptoBulk d + 1
  | .slice elems spare => uptoBulkAll elems + uptoBulkAll spare + 1
  | .agg parts => uptoBulkAll parts + 1
  | .iface _ d => uptoBulk d + 1
  | .map entries => uptoBulkEntries entries + 1
  | .held _ => 1
def uptoBulkAll {H : Type} : List (DataW H) → Nat
  | [] => 0
  | d :: r => uptoBulk d + uptoBulkAll r
def uptoBulkEntries {H : Type} : List (Lit × DataW H) → Nat
  | [] => 0
  | x :: r => uptoBulkEntry x + uptoBulkEntries r
def uptoBulkEntry {H : Type} : Lit × DataW H → Nat
  | (.string bytes, d) => bytes.length + uptoBulk d + 1
  | (_, d) => uptoBulk d + 1
 end
def uptoSmall : (H : Type) → List (DataW H) → Bool := fun _ ds => decide (uptoBulkAll ds ≤ 1048576)
def OpenSpec.upto (s : _root_.Go.ChangeSpec) : _root_.Go.OpenSpec := { _root_.Go.OpenSpec.ofChange s with cond := some uptoSmall }

/-- 'retrogradelaw12.SoundHolds', WHERE WHAT IT READS IS OF BULK AT MOST 1048576: true; the input reads as it did. -/
def soundHoldsUptoRow : OpenClaim := { program := "ytonmnpadmphbdaadoor", sum := "1c78fd4c2e86191881501050d736886149b3d8ea66b59c930be1bdb8444f4794", func := "retrograde/retrogradelaw12.SoundHolds", spec := "soundHolds", named := ["retrograde/sound.readMasks"], apart := false, laid := [("retrograde/sound.readMasks", laid_retrograde_sound_readMasks)], narrowed := true }
def SoundHoldsUptoSaid : Prop := soundHoldsUptoRow.holds Tryd.pinned (OpenSpec.upto soundHoldsSpec)

/-- 'retrogradelaw12.SoundLengths', WHERE WHAT IT READS IS OF BULK AT MOST 1048576: true; the input reads as it did. -/
def soundLengthsUptoRow : OpenClaim := { program := "ytonmnpadmphbdaadoor", sum := "1c78fd4c2e86191881501050d736886149b3d8ea66b59c930be1bdb8444f4794", func := "retrograde/retrogradelaw12.SoundLengths", spec := "soundLengths", named := ["retrograde/sound.readMasks"], apart := false, laid := [("retrograde/sound.readMasks", laid_retrograde_sound_readMasks)], narrowed := true }
def SoundLengthsUptoSaid : Prop := soundLengthsUptoRow.holds Tryd.pinned (OpenSpec.upto soundLengthsSpec)

/-- 'retrogradelaw12.SoundOff', WHERE WHAT IT READS IS OF BULK AT MOST 1048576: true; the input reads as it did. -/
def soundOffUptoRow : OpenClaim := { program := "ytonmnpadmphbdaadoor", sum := "1c78fd4c2e86191881501050d736886149b3d8ea66b59c930be1bdb8444f4794", func := "retrograde/retrogradelaw12.SoundOff", spec := "soundOff", named := ["retrograde/sound.readMasks"], apart := false, laid := [("retrograde/sound.readMasks", laid_retrograde_sound_readMasks)], narrowed := true }
def SoundOffUptoSaid : Prop := soundOffUptoRow.holds Tryd.pinned (OpenSpec.upto soundOffSpec)

/-- 'retrogradelaw12.SoundReads', WHERE WHAT IT READS IS OF BULK AT MOST 1048576: true; the input reads as it did. -/
def soundReadsUptoRow : OpenClaim := { program := "ytonmnpadmphbdaadoor", sum := "1c78fd4c2e86191881501050d736886149b3d8ea66b59c930be1bdb8444f4794", func := "retrograde/retrogradelaw12.SoundReads", spec := "soundReads", named := ["retrograde/sound.readMasks"], apart := false, laid := [("retrograde/sound.readMasks", laid_retrograde_sound_readMasks)], narrowed := true }
def SoundReadsUptoSaid : Prop := soundReadsUptoRow.holds Tryd.pinned (OpenSpec.upto soundReadsSpec)

/-- 'retrogradelaw12.SoundLevels', WHERE WHAT IT READS IS OF BULK AT MOST 1048576: true; the input reads as it did. -/
def soundLevelsUptoRow : OpenClaim := { program := "ytonmnpadmphbdaadoor", sum := "1c78fd4c2e86191881501050d736886149b3d8ea66b59c930be1bdb8444f4794", func := "retrograde/retrogradelaw12.SoundLevels", spec := "soundLevels", named := ["retrograde/sound.readMasks"], apart := false, laid := [("retrograde/sound.readMasks", laid_retrograde_sound_readMasks)], narrowed := true }
def SoundLevelsUptoSaid : Prop := soundLevelsUptoRow.holds Tryd.pinned (OpenSpec.upto soundLevelsSpec)

end Rows
end Go.Proofs.YtonmnpadmphbdaaDoor
