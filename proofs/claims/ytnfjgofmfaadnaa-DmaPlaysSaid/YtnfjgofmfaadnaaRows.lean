/-
  No cell of these rows narrows 'for every input' (looked for: loops, veiled, ifaces, maps, wideKeys, modest, calm, conditions, laid).
  DERIVED. THE GIVEN ROWS OF THIS SEAT. 5 by the template 'for every input the law returns true; each argument reads behind the call as it read before'; 0 by the template 'total and deterministic' (their statements: YtnfjgofmfaadnaaTotals.lean).
  GIVEN WITH THE SEED: the statements are not yours to turn. If you find one false, say at which input.
  Laid BY PROGRAM, IN A SANDBOX (cutbox-rows.mjs): the forced cells as the released guide's own fill.sh prints them over the translation 2ae9fe22145a58f3… (all of the seat's roots in one cut). By AI agents, Wed Nov 11 2026. No macro, syntax, notation, axiom, sorry.
-/
import Derived.Test.YtnfjgofmfaadnaaChecked
import GoSem.Claim
import GoSem.ClaimJoined
import GoSem.ClaimMapViews
import Derived.JoinedTies
import Derived.KernelRfl
namespace Go.Proofs.Ytnfjgofmfaadnaa
/- THE CELL 'sum', in the pinned program and in every row, IS THE sha256 OF THE DUMP (.gsa) THAT YtnfjgofmfaadnaaProg.lean LOADS. Nothing in Lean hashes anything: it is a label: what it is worth is what the hold of that sum in a sandbox is worth. -/
noncomputable def Try.pinned : Pinned := { name := "ytnfjgofmfaadnaa", sum := "2ae9fe22145a58f3efe1ab5fe3ab0bd50549f79cb22903a7f86f1e0e3f5b62ae", checked := Try.checked }
namespace Rows
def none {H : Type} : Left H := { results := [], args := [] }

/-- 'retrogradelaw11.DmaPlays': WHATEVER THE INPUT: true; the input reads as it did. -/
def dmaPlaysSpec : ChangeSpec := { name := "dmaPlays", fn := fun _ => fun
  | [d1, d2] => { results := [.lit (.bool true)], args := [d1, d2] }
  | _ => none }
def dmaPlaysRow : OpenClaim := { program := "ytnfjgofmfaadnaa", sum := "2ae9fe22145a58f3efe1ab5fe3ab0bd50549f79cb22903a7f86f1e0e3f5b62ae", func := "retrograde/retrogradelaw11.DmaPlays", spec := "dmaPlays", apart := false }
def DmaPlaysSaid : Prop := dmaPlaysRow.holds Try.pinned (OpenSpec.ofChange dmaPlaysSpec)

/-- ITS FALSE NEIGHBOUR: 'it returns false'. Refute it at one input. -/
def dmaPlaysWrong : ChangeSpec := { name := "dmaPlays", fn := fun _ => fun
  | [d1, d2] => { results := [.lit (.bool false)], args := [d1, d2] }
  | _ => none }
def DmaPlaysWrongFalsely : Prop := dmaPlaysRow.holds Try.pinned (OpenSpec.ofChange dmaPlaysWrong)

/-- 'retrogradelaw11.DmaCopies': WHATEVER THE INPUT: true; the input reads as it did. -/
def dmaCopiesSpec : ChangeSpec := { name := "dmaCopies", fn := fun _ => fun
  | [d1, d2, d3] => { results := [.lit (.bool true)], args := [d1, d2, d3] }
  | _ => none }
def dmaCopiesRow : OpenClaim := { program := "ytnfjgofmfaadnaa", sum := "2ae9fe22145a58f3efe1ab5fe3ab0bd50549f79cb22903a7f86f1e0e3f5b62ae", func := "retrograde/retrogradelaw11.DmaCopies", spec := "dmaCopies", apart := false }
def DmaCopiesSaid : Prop := dmaCopiesRow.holds Try.pinned (OpenSpec.ofChange dmaCopiesSpec)

/-- ITS FALSE NEIGHBOUR: 'it returns false'. Refute it at one input. -/
def dmaCopiesWrong : ChangeSpec := { name := "dmaCopies", fn := fun _ => fun
  | [d1, d2, d3] => { results := [.lit (.bool false)], args := [d1, d2, d3] }
  | _ => none }
def DmaCopiesWrongFalsely : Prop := dmaCopiesRow.holds Try.pinned (OpenSpec.ofChange dmaCopiesWrong)

/-- 'retrogradelaw11.DmaLets': WHATEVER THE INPUT: true; the input reads as it did. -/
def dmaLetsSpec : ChangeSpec := { name := "dmaLets", fn := fun _ => fun
  | [d1, d2, d3] => { results := [.lit (.bool true)], args := [d1, d2, d3] }
  | _ => none }
def dmaLetsRow : OpenClaim := { program := "ytnfjgofmfaadnaa", sum := "2ae9fe22145a58f3efe1ab5fe3ab0bd50549f79cb22903a7f86f1e0e3f5b62ae", func := "retrograde/retrogradelaw11.DmaLets", spec := "dmaLets", apart := false }
def DmaLetsSaid : Prop := dmaLetsRow.holds Try.pinned (OpenSpec.ofChange dmaLetsSpec)

/-- ITS FALSE NEIGHBOUR: 'it returns false'. Refute it at one input. -/
def dmaLetsWrong : ChangeSpec := { name := "dmaLets", fn := fun _ => fun
  | [d1, d2, d3] => { results := [.lit (.bool false)], args := [d1, d2, d3] }
  | _ => none }
def DmaLetsWrongFalsely : Prop := dmaLetsRow.holds Try.pinned (OpenSpec.ofChange dmaLetsWrong)

/-- 'retrogradelaw11.DmaAny': WHATEVER THE INPUT: true; the input reads as it did. -/
def dmaAnySpec : ChangeSpec := { name := "dmaAny", fn := fun _ => fun
  | [d1, d2, d3] => { results := [.lit (.bool true)], args := [d1, d2, d3] }
  | _ => none }
def dmaAnyRow : OpenClaim := { program := "ytnfjgofmfaadnaa", sum := "2ae9fe22145a58f3efe1ab5fe3ab0bd50549f79cb22903a7f86f1e0e3f5b62ae", func := "retrograde/retrogradelaw11.DmaAny", spec := "dmaAny", apart := false }
def DmaAnySaid : Prop := dmaAnyRow.holds Try.pinned (OpenSpec.ofChange dmaAnySpec)

/-- ITS FALSE NEIGHBOUR: 'it returns false'. Refute it at one input. -/
def dmaAnyWrong : ChangeSpec := { name := "dmaAny", fn := fun _ => fun
  | [d1, d2, d3] => { results := [.lit (.bool false)], args := [d1, d2, d3] }
  | _ => none }
def DmaAnyWrongFalsely : Prop := dmaAnyRow.holds Try.pinned (OpenSpec.ofChange dmaAnyWrong)

/-- 'retrogradelaw11.DmaLeft': WHATEVER THE INPUT: true; the input reads as it did. -/
def dmaLeftSpec : ChangeSpec := { name := "dmaLeft", fn := fun _ => fun
  | [d1, d2, d3] => { results := [.lit (.bool true)], args := [d1, d2, d3] }
  | _ => none }
def dmaLeftRow : OpenClaim := { program := "ytnfjgofmfaadnaa", sum := "2ae9fe22145a58f3efe1ab5fe3ab0bd50549f79cb22903a7f86f1e0e3f5b62ae", func := "retrograde/retrogradelaw11.DmaLeft", spec := "dmaLeft", apart := false }
def DmaLeftSaid : Prop := dmaLeftRow.holds Try.pinned (OpenSpec.ofChange dmaLeftSpec)

/-- ITS FALSE NEIGHBOUR: 'it returns false'. Refute it at one input. -/
def dmaLeftWrong : ChangeSpec := { name := "dmaLeft", fn := fun _ => fun
  | [d1, d2, d3] => { results := [.lit (.bool false)], args := [d1, d2, d3] }
  | _ => none }
def DmaLeftWrongFalsely : Prop := dmaLeftRow.holds Try.pinned (OpenSpec.ofChange dmaLeftWrong)

/- THE SECOND FORM. 'bulk': how many values and letters a reading holds, each counted each time it is reached (what is shared counts as often as it is met; a slice's spare places count too). A statement '..UptoSaid' is the law's where the arguments, and the package variables that the reading takes, are together of bulk at most 1048576: NARROWER than '..Said'. Prove '..Said' where nothing that the law and all that it calls make is longer than what came in: it says more and counts as full. Else prove '..UptoSaid'. A law counts once. -/
mutual
def uptoBulk {H : Type} : DataW H → Nat
  | .lit (.string bytes) => bytes.length + 1
  | .lit _ => 1
  | .nil => 1
  | .ptr d => uptoBulk d + 1
  | .slice elems spare => uptoBulkAll elems + uptoBulkAll spare + 1
  | .agg parts => uptoBulkAll parts + 1
  | .iface _ d => uptoBulk d + 1
  | .map entries => uptoBulkEntries entries + 1
  | .held _ => 1
def uptoBulkAll {H : Type} : List (DataW H) → Nat
  | [] => 0
  | d :: r => uptoBulk d + uptoBulkAll r
def uptoBulkEntries {H : Type} : List (Lit × DataW H) → Nat
  | [] => 0
  | x :: r => uptoBulkEntry x + uptoBulkEntries r
def uptoBulkEntry {H : Type} : Lit × DataW H → Nat
  | (.string bytes, d) => bytes.length + uptoBulk d + 1
  | (_, d) => uptoBulk d + 1
 end
def uptoSmall : (H : Type) → List (DataW H) → Bool := fun _ ds => decide (uptoBulkAll ds ≤ 1048576)
def OpenSpec.upto (s : _root_.Go.ChangeSpec) : _root_.Go.OpenSpec := { _root_.Go.OpenSpec.ofChange s with cond := some uptoSmall }

/-- 'retrogradelaw11.DmaPlays', WHERE WHAT IT READS IS OF BULK AT MOST 1048576: true; the input reads as it did. -/
def dmaPlaysUptoRow : OpenClaim := { program := "ytnfjgofmfaadnaa", sum := "2ae9fe22145a58f3efe1ab5fe3ab0bd50549f79cb22903a7f86f1e0e3f5b62ae", func := "retrograde/retrogradelaw11.DmaPlays", spec := "dmaPlays", apart := false, narrowed := true }
def DmaPlaysUptoSaid : Prop := dmaPlaysUptoRow.holds Try.pinned (OpenSpec.upto dmaPlaysSpec)

/-- 'retrogradelaw11.DmaCopies', WHERE WHAT IT READS IS OF BULK AT MOST 1048576: true; the input reads as it did. -/
def dmaCopiesUptoRow : OpenClaim := { program := "ytnfjgofmfaadnaa", sum := "2ae9fe22145a58f3efe1ab5fe3ab0bd50549f79cb22903a7f86f1e0e3f5b62ae", func := "retrograde/retrogradelaw11.DmaCopies", spec := "dmaCopies", apart := false, narrowed := true }
def DmaCopiesUptoSaid : Prop := dmaCopiesUptoRow.holds Try.pinned (OpenSpec.upto dmaCopiesSpec)

/-- 'retrogradelaw11.DmaLets', WHERE WHAT IT READS IS OF BULK AT MOST 1048576: true; the input reads as it did. -/
def dmaLetsUptoRow : OpenClaim := { program := "ytnfjgofmfaadnaa", sum := "2ae9fe22145a58f3efe1ab5fe3ab0bd50549f79cb22903a7f86f1e0e3f5b62ae", func := "retrograde/retrogradelaw11.DmaLets", spec := "dmaLets", apart := false, narrowed := true }
def DmaLetsUptoSaid : Prop := dmaLetsUptoRow.holds Try.pinned (OpenSpec.upto dmaLetsSpec)

/-- 'retrogradelaw11.DmaAny', WHERE WHAT IT READS IS OF BULK AT MOST 1048576: true; the input reads as it did. -/
def dmaAnyUptoRow : OpenClaim := { program := "ytnfjgofmfaadnaa", sum := "2ae9fe22145a58f3efe1ab5fe3ab0bd50549f79cb22903a7f86f1e0e3f5b62ae", func := "retrograde/retrogradelaw11.DmaAny", spec := "dmaAny", apart := false, narrowed := true }
def DmaAnyUptoSaid : Prop := dmaAnyUptoRow.holds Try.pinned (OpenSpec.upto dmaAnySpec)

/-- 'retrogradelaw11.DmaLeft', WHERE WHAT IT READS IS OF BULK AT MOST 1048576: true; the input reads as it did. -/
def dmaLeftUptoRow : OpenClaim := { program := "ytnfjgofmfaadnaa", sum := "2ae9fe22145a58f3efe1ab5fe3ab0bd50549f79cb22903a7f86f1e0e3f5b62ae", func := "retrograde/retrogradelaw11.DmaLeft", spec := "dmaLeft", apart := false, narrowed := true }
def DmaLeftUptoSaid : Prop := dmaLeftUptoRow.holds Try.pinned (OpenSpec.upto dmaLeftSpec)

end Rows
end Go.Proofs.Ytnfjgofmfaadnaa
