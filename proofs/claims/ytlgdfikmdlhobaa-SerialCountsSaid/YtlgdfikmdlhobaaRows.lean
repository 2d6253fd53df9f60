/-
  No cell of these rows narrows 'for every input' (looked for: loops, veiled, ifaces, maps, wideKeys, modest, calm, conditions, laid).
  DERIVED. THE GIVEN ROWS OF THIS SEAT. 5 by the template 'for every input the law returns true; each argument reads behind the call as it read before'; 0 by the template 'total and deterministic' (their statements: YtlgdfikmdlhobaaTotals.lean).
  GIVEN WITH THE SEED: the statements are not yours to turn. If you find one false, say at which input.
  Laid BY PROGRAM, IN A SANDBOX (cutbox-rows.mjs): the forced cells as the released guide's own fill.sh prints them over the translation 7303ec3f649c77a0… (all of the seat's roots in one cut). By AI agents, Wed Nov 11 2026. No macro, syntax, notation, axiom, sorry.
-/
import Derived.Test.YtlgdfikmdlhobaaChecked
import GoSem.Claim
import GoSem.ClaimJoined
import GoSem.ClaimMapViews
import Derived.JoinedTies
import Derived.KernelRfl
namespace Go.Proofs.Ytlgdfikmdlhobaa
/- THE CELL 'sum', in the pinned program and in every row, IS THE sha256 OF THE DUMP (.gsa) THAT YtlgdfikmdlhobaaProg.lean LOADS. Nothing in Lean hashes anything: it is a label: what it is worth is what the hold of that sum in a sandbox is worth. -/
noncomputable def Try.pinned : Pinned := { name := "ytlgdfikmdlhobaa", sum := "7303ec3f649c77a0f5aa64d30e2d737d87b63f7789830d8f2173dcc7668f65d0", checked := Try.checked }
namespace Rows
def none {H : Type} : Left H := { results := [], args := [] }

/-- 'retrogradelaw10.SerialPlays': WHATEVER THE INPUT: true; the input reads as it did. -/
def serialPlaysSpec : ChangeSpec := { name := "serialPlays", fn := fun _ => fun
  | [d] => { results := [.lit (.bool true)], args := [d] }
  | _ => none }
def serialPlaysRow : OpenClaim := { program := "ytlgdfikmdlhobaa", sum := "7303ec3f649c77a0f5aa64d30e2d737d87b63f7789830d8f2173dcc7668f65d0", func := "retrograde/retrogradelaw10.SerialPlays", spec := "serialPlays", apart := false }
def SerialPlaysSaid : Prop := serialPlaysRow.holds Try.pinned (OpenSpec.ofChange serialPlaysSpec)

/-- ITS FALSE NEIGHBOUR: 'it returns false'. Refute it at one input. -/
def serialPlaysWrong : ChangeSpec := { name := "serialPlays", fn := fun _ => fun
  | [d] => { results := [.lit (.bool false)], args := [d] }
  | _ => none }
def SerialPlaysWrongFalsely : Prop := serialPlaysRow.holds Try.pinned (OpenSpec.ofChange serialPlaysWrong)

/-- 'retrogradelaw10.SerialAny': WHATEVER THE INPUT: true; the input reads as it did. -/
def serialAnySpec : ChangeSpec := { name := "serialAny", fn := fun _ => fun
  | [d1, d2, d3] => { results := [.lit (.bool true)], args := [d1, d2, d3] }
  | _ => none }
def serialAnyRow : OpenClaim := { program := "ytlgdfikmdlhobaa", sum := "7303ec3f649c77a0f5aa64d30e2d737d87b63f7789830d8f2173dcc7668f65d0", func := "retrograde/retrogradelaw10.SerialAny", spec := "serialAny", apart := false }
def SerialAnySaid : Prop := serialAnyRow.holds Try.pinned (OpenSpec.ofChange serialAnySpec)

/-- ITS FALSE NEIGHBOUR: 'it returns false'. Refute it at one input. -/
def serialAnyWrong : ChangeSpec := { name := "serialAny", fn := fun _ => fun
  | [d1, d2, d3] => { results := [.lit (.bool false)], args := [d1, d2, d3] }
  | _ => none }
def SerialAnyWrongFalsely : Prop := serialAnyRow.holds Try.pinned (OpenSpec.ofChange serialAnyWrong)

/-- 'retrogradelaw10.SerialSends': WHATEVER THE INPUT: true; the input reads as it did. -/
def serialSendsSpec : ChangeSpec := { name := "serialSends", fn := fun _ => fun
  | [d1, d2] => { results := [.lit (.bool true)], args := [d1, d2] }
  | _ => none }
def serialSendsRow : OpenClaim := { program := "ytlgdfikmdlhobaa", sum := "7303ec3f649c77a0f5aa64d30e2d737d87b63f7789830d8f2173dcc7668f65d0", func := "retrograde/retrogradelaw10.SerialSends", spec := "serialSends", apart := false }
def SerialSendsSaid : Prop := serialSendsRow.holds Try.pinned (OpenSpec.ofChange serialSendsSpec)

/-- ITS FALSE NEIGHBOUR: 'it returns false'. Refute it at one input. -/
def serialSendsWrong : ChangeSpec := { name := "serialSends", fn := fun _ => fun
  | [d1, d2] => { results := [.lit (.bool false)], args := [d1, d2] }
  | _ => none }
def SerialSendsWrongFalsely : Prop := serialSendsRow.holds Try.pinned (OpenSpec.ofChange serialSendsWrong)

/-- 'retrogradelaw10.SerialWaits': WHATEVER THE INPUT: true; the input reads as it did. -/
def serialWaitsSpec : ChangeSpec := { name := "serialWaits", fn := fun _ => fun
  | [d1, d2, d3, d4] => { results := [.lit (.bool true)], args := [d1, d2, d3, d4] }
  | _ => none }
def serialWaitsRow : OpenClaim := { program := "ytlgdfikmdlhobaa", sum := "7303ec3f649c77a0f5aa64d30e2d737d87b63f7789830d8f2173dcc7668f65d0", func := "retrograde/retrogradelaw10.SerialWaits", spec := "serialWaits", apart := false }
def SerialWaitsSaid : Prop := serialWaitsRow.holds Try.pinned (OpenSpec.ofChange serialWaitsSpec)

/-- ITS FALSE NEIGHBOUR: 'it returns false'. Refute it at one input. -/
def serialWaitsWrong : ChangeSpec := { name := "serialWaits", fn := fun _ => fun
  | [d1, d2, d3, d4] => { results := [.lit (.bool false)], args := [d1, d2, d3, d4] }
  | _ => none }
def SerialWaitsWrongFalsely : Prop := serialWaitsRow.holds Try.pinned (OpenSpec.ofChange serialWaitsWrong)

/-- 'retrogradelaw10.SerialCounts': WHATEVER THE INPUT: true; the input reads as it did. -/
def serialCountsSpec : ChangeSpec := { name := "serialCounts", fn := fun _ => fun
  | [d1, d2] => { results := [.lit (.bool true)], args := [d1, d2] }
  | _ => none }
def serialCountsRow : OpenClaim := { program := "ytlgdfikmdlhobaa", sum := "7303ec3f649c77a0f5aa64d30e2d737d87b63f7789830d8f2173dcc7668f65d0", func := "retrograde/retrogradelaw10.SerialCounts", spec := "serialCounts", apart := false }
def SerialCountsSaid : Prop := serialCountsRow.holds Try.pinned (OpenSpec.ofChange serialCountsSpec)

/-- ITS FALSE NEIGHBOUR: 'it returns false'. Refute it at one input. -/
def serialCountsWrong : ChangeSpec := { name := "serialCounts", fn := fun _ => fun
  | [d1, d2] => { results := [.lit (.bool false)], args := [d1, d2] }
  | _ => none }
def SerialCountsWrongFalsely : Prop := serialCountsRow.holds Try.pinned (OpenSpec.ofChange serialCountsWrong)

/- THE SECOND FORM. 'bulk': how many values and letters a reading holds, each counted each time it is reached (what is shared counts as often as it is met; a slice's spare places count too). A statement '..UptoSaid' is the law's where the arguments, and the package variables that the reading takes, are together of bulk at most 1048576: NARROWER than '..Said'. Prove '..Said' where nothing that the law and all that it calls make is longer than what came in: it says more and counts as full. Else prove '..UptoSaid'. A law counts once. -/
mutual
def uptoBulk {H : Type} : DataW H → Nat
  | .lit (.string bytes) => bytes.length + 1
  | .lit _ => 1
  | .nil => 1
  | .ptr d => uptoBulk d + 1
  | .slice elems spare => uptoBulkAll elems + uptoBulkAll spare + 1
  | .agg parts => uptoBulkAll parts + 1
  | .iface _ d => uptoBulk d + 1
  | .map entries => uptoBulkEntries entries + 1
  | .held _ => 1
def uptoBulkAll {H : Type} : List (DataW H) → Nat
  | [] => 0
  | d :: r => uptoBulk d + uptoBulkAll r
def uptoBulkEntries {H : Type} : List (Lit × DataW H) → Nat
  | [] => 0
  | x :: r => uptoBulkEntry x + uptoBulkEntries r
def uptoBulkEntry {H : Type} : Lit × DataW H → Nat
  | (.string bytes, d) => bytes.length + uptoBulk d + 1
  | (_, d) => uptoBulk d + 1
 end
def uptoSmall : (H : Type) → List (DataW H) → Bool := fun _ ds => decide (uptoBulkAll ds ≤ 1048576)
def OpenSpec.upto (s : _root_.Go.ChangeSpec) : _root_.Go.OpenSpec := { _root_.Go.OpenSpec.ofChange s with cond := some uptoSmall }

/-- 'retrogradelaw10.SerialPlays', WHERE WHAT IT READS IS OF BULK AT MOST 1048576: true; the input reads as it did. -/
def serialPlaysUptoRow : OpenClaim := { program := "ytlgdfikmdlhobaa", sum := "7303ec3f649c77a0f5aa64d30e2d737d87b63f7789830d8f2173dcc7668f65d0", func := "retrograde/retrogradelaw10.SerialPlays", spec := "serialPlays", apart := false, narrowed := true }
def SerialPlaysUptoSaid : Prop := serialPlaysUptoRow.holds Try.pinned (OpenSpec.upto serialPlaysSpec)

/-- 'retrogradelaw10.SerialAny', WHERE WHAT IT READS IS OF BULK AT MOST 1048576: true; the input reads as it did. -/
def serialAnyUptoRow : OpenClaim := { program := "ytlgdfikmdlhobaa", sum := "7303ec3f649c77a0f5aa64d30e2d737d87b63f7789830d8f2173dcc7668f65d0", func := "retrograde/retrogradelaw10.SerialAny", spec := "serialAny", apart := false, narrowed := true }
def SerialAnyUptoSaid : Prop := serialAnyUptoRow.holds Try.pinned (OpenSpec.upto serialAnySpec)

/-- 'retrogradelaw10.SerialSends', WHERE WHAT IT READS IS OF BULK AT MOST 1048576: true; the input reads as it did. -/
def serialSendsUptoRow : OpenClaim := { program := "ytlgdfikmdlhobaa", sum := "7303ec3f649c77a0f5aa64d30e2d737d87b63f7789830d8f2173dcc7668f65d0", func := "retrograde/retrogradelaw10.SerialSends", spec := "serialSends", apart := false, narrowed := true }
def SerialSendsUptoSaid : Prop := serialSendsUptoRow.holds Try.pinned (OpenSpec.upto serialSendsSpec)

/-- 'retrogradelaw10.SerialWaits', WHERE WHAT IT READS IS OF BULK AT MOST 1048576: true; the input reads as it did. -/
def serialWaitsUptoRow : OpenClaim := { program := "ytlgdfikmdlhobaa", sum := "7303ec3f649c77a0f5aa64d30e2d737d87b63f7789830d8f2173dcc7668f65d0", func := "retrograde/retrogradelaw10.SerialWaits", spec := "serialWaits", apart := false, narrowed := true }
def SerialWaitsUptoSaid : Prop := serialWaitsUptoRow.holds Try.pinned (OpenSpec.upto serialWaitsSpec)

/-- 'retrogradelaw10.SerialCounts', WHERE WHAT IT READS IS OF BULK AT MOST 1048576: true; the input reads as it did. -/
def serialCountsUptoRow : OpenClaim := { program := "ytlgdfikmdlhobaa", sum := "7303ec3f649c77a0f5aa64d30e2d737d87b63f7789830d8f2173dcc7668f65d0", func := "retrograde/retrogradelaw10.SerialCounts", spec := "serialCounts", apart := false, narrowed := true }
def SerialCountsUptoSaid : Prop := serialCountsUptoRow.holds Try.pinned (OpenSpec.upto serialCountsSpec)

end Rows
end Go.Proofs.Ytlgdfikmdlhobaa
