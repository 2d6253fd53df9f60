/-
  No cell of these rows narrows 'for every input' (looked for: loops, veiled, ifaces, maps, wideKeys, modest, calm, conditions, laid).
  DERIVED. THE GIVEN ROWS OF THIS SEAT. 6 by the template 'for every input the law returns true; each argument reads behind the call as it read before'; 0 by the template 'total and deterministic' (their statements: YtklbhbappaibgaaTotals.lean).
  GIVEN WITH THE SEED: the statements are not yours to turn. If you find one false, say at which input.
  Laid BY PROGRAM, IN A SANDBOX (cutbox-rows.mjs): the forced cells as the released guide's own fill.sh prints them over the translation cf696846e3b008ff… (all of the seat's roots in one cut). By AI agents, Wed Nov 11 2026. No macro, syntax, notation, axiom, sorry.
-/
import Derived.Test.YtklbhbappaibgaaChecked
import GoSem.Claim
import GoSem.ClaimJoined
import GoSem.ClaimMapViews
import Derived.JoinedTies
import Derived.KernelRfl
namespace Go.Proofs.Ytklbhbappaibgaa
/- THE CELL 'sum', in the pinned program and in every row, IS THE sha256 OF THE DUMP (.gsa) THAT YtklbhbappaibgaaProg.lean LOADS. Nothing in Lean hashes anything: it is a label: what it is worth is what the hold of that sum in a sandbox is worth. -/
noncomputable def Try.pinned : Pinned := { name := "ytklbhbappaibgaa", sum := "cf696846e3b008fffbc004a235e818de4968de0db87bbf40c5f9917e912a9fa5", checked := Try.checked }
namespace Rows
def none {H : Type} : Left H := { results := [], args := [] }

/-- 'retrogradelaw17.SnapTells': WHATEVER THE INPUT: true; the input reads as it did. -/
def snapTellsSpec : ChangeSpec := { name := "snapTells", fn := fun _ => fun
  | [d1, d2, d3, d4] => { results := [.lit (.bool true)], args := [d1, d2, d3, d4] }
  | _ => none }
def snapTellsRow : OpenClaim := { program := "ytklbhbappaibgaa", sum := "cf696846e3b008fffbc004a235e818de4968de0db87bbf40c5f9917e912a9fa5", func := "retrograde/retrogradelaw17.SnapTells", spec := "snapTells", recurses := true, apart := false }
def SnapTellsSaid : Prop := snapTellsRow.holds Try.pinned (OpenSpec.ofChange snapTellsSpec)

/-- ITS FALSE NEIGHBOUR: 'it returns false'. Refute it at one input. -/
def snapTellsWrong : ChangeSpec := { name := "snapTells", fn := fun _ => fun
  | [d1, d2, d3, d4] => { results := [.lit (.bool false)], args := [d1, d2, d3, d4] }
  | _ => none }
def SnapTellsWrongFalsely : Prop := snapTellsRow.holds Try.pinned (OpenSpec.ofChange snapTellsWrong)

/-- 'retrogradelaw17.SnapBack': WHATEVER THE INPUT: true; the input reads as it did. -/
def snapBackSpec : ChangeSpec := { name := "snapBack", fn := fun _ => fun
  | [d1, d2] => { results := [.lit (.bool true)], args := [d1, d2] }
  | _ => none }
def snapBackRow : OpenClaim := { program := "ytklbhbappaibgaa", sum := "cf696846e3b008fffbc004a235e818de4968de0db87bbf40c5f9917e912a9fa5", func := "retrograde/retrogradelaw17.SnapBack", spec := "snapBack", apart := false }
def SnapBackSaid : Prop := snapBackRow.holds Try.pinned (OpenSpec.ofChange snapBackSpec)

/-- ITS FALSE NEIGHBOUR: 'it returns false'. Refute it at one input. -/
def snapBackWrong : ChangeSpec := { name := "snapBack", fn := fun _ => fun
  | [d1, d2] => { results := [.lit (.bool false)], args := [d1, d2] }
  | _ => none }
def SnapBackWrongFalsely : Prop := snapBackRow.holds Try.pinned (OpenSpec.ofChange snapBackWrong)

/-- 'retrogradelaw17.SnapSpoilt': WHATEVER THE INPUT: true; the input reads as it did. -/
def snapSpoiltSpec : ChangeSpec := { name := "snapSpoilt", fn := fun _ => fun
  | [d1, d2, d3, d4, d5] => { results := [.lit (.bool true)], args := [d1, d2, d3, d4, d5] }
  | _ => none }
def snapSpoiltRow : OpenClaim := { program := "ytklbhbappaibgaa", sum := "cf696846e3b008fffbc004a235e818de4968de0db87bbf40c5f9917e912a9fa5", func := "retrograde/retrogradelaw17.SnapSpoilt", spec := "snapSpoilt", apart := false }
def SnapSpoiltSaid : Prop := snapSpoiltRow.holds Try.pinned (OpenSpec.ofChange snapSpoiltSpec)

/-- ITS FALSE NEIGHBOUR: 'it returns false'. Refute it at one input. -/
def snapSpoiltWrong : ChangeSpec := { name := "snapSpoilt", fn := fun _ => fun
  | [d1, d2, d3, d4, d5] => { results := [.lit (.bool false)], args := [d1, d2, d3, d4, d5] }
  | _ => none }
def SnapSpoiltWrongFalsely : Prop := snapSpoiltRow.holds Try.pinned (OpenSpec.ofChange snapSpoiltWrong)

/-- 'retrogradelaw17.SnapSmall': WHATEVER THE INPUT: true; the input reads as it did. -/
def snapSmallSpec : ChangeSpec := { name := "snapSmall", fn := fun _ => fun
  | [d1, d2] => { results := [.lit (.bool true)], args := [d1, d2] }
  | _ => none }
def snapSmallRow : OpenClaim := { program := "ytklbhbappaibgaa", sum := "cf696846e3b008fffbc004a235e818de4968de0db87bbf40c5f9917e912a9fa5", func := "retrograde/retrogradelaw17.SnapSmall", spec := "snapSmall", apart := false }
def SnapSmallSaid : Prop := snapSmallRow.holds Try.pinned (OpenSpec.ofChange snapSmallSpec)

/-- ITS FALSE NEIGHBOUR: 'it returns false'. Refute it at one input. -/
def snapSmallWrong : ChangeSpec := { name := "snapSmall", fn := fun _ => fun
  | [d1, d2] => { results := [.lit (.bool false)], args := [d1, d2] }
  | _ => none }
def SnapSmallWrongFalsely : Prop := snapSmallRow.holds Try.pinned (OpenSpec.ofChange snapSmallWrong)

/-- 'retrogradelaw17.SnapHash': WHATEVER THE INPUT: true; the input reads as it did. -/
def snapHashSpec : ChangeSpec := { name := "snapHash", fn := fun _ => fun
  | [d1, d2, d3] => { results := [.lit (.bool true)], args := [d1, d2, d3] }
  | _ => none }
def snapHashRow : OpenClaim := { program := "ytklbhbappaibgaa", sum := "cf696846e3b008fffbc004a235e818de4968de0db87bbf40c5f9917e912a9fa5", func := "retrograde/retrogradelaw17.SnapHash", spec := "snapHash", apart := false }
def SnapHashSaid : Prop := snapHashRow.holds Try.pinned (OpenSpec.ofChange snapHashSpec)

/-- ITS FALSE NEIGHBOUR: 'it returns false'. Refute it at one input. -/
def snapHashWrong : ChangeSpec := { name := "snapHash", fn := fun _ => fun
  | [d1, d2, d3] => { results := [.lit (.bool false)], args := [d1, d2, d3] }
  | _ => none }
def SnapHashWrongFalsely : Prop := snapHashRow.holds Try.pinned (OpenSpec.ofChange snapHashWrong)

/-- 'retrogradelaw17.SnapApart': WHATEVER THE INPUT: true; the input reads as it did. -/
def snapApartSpec : ChangeSpec := { name := "snapApart", fn := fun _ => fun
  | [d1, d2, d3] => { results := [.lit (.bool true)], args := [d1, d2, d3] }
  | _ => none }
def snapApartRow : OpenClaim := { program := "ytklbhbappaibgaa", sum := "cf696846e3b008fffbc004a235e818de4968de0db87bbf40c5f9917e912a9fa5", func := "retrograde/retrogradelaw17.SnapApart", spec := "snapApart", apart := false }
def SnapApartSaid : Prop := snapApartRow.holds Try.pinned (OpenSpec.ofChange snapApartSpec)

/-- ITS FALSE NEIGHBOUR: 'it returns false'. Refute it at one input. -/
def snapApartWrong : ChangeSpec := { name := "snapApart", fn := fun _ => fun
  | [d1, d2, d3] => { results := [.lit (.bool false)], args := [d1, d2, d3] }
  | _ => none }
def SnapApartWrongFalsely : Prop := snapApartRow.holds Try.pinned (OpenSpec.ofChange snapApartWrong)

/- THE SECOND FORM. 'bulk': how many values and letters a reading holds, each counted each time it is reached (what is shared counts as often as it is met; a slice's spare places count too). A statement '..UptoSaid' is the law's where the arguments, and the package variables that the reading takes, are together of bulk at most 1048576: NARROWER than '..Said'. Prove '..Said' where nothing that the law and all that it calls make is longer than what came in: it says more and counts as full. Else prove '..UptoSaid'. A law counts once. -/
mutual
def uptoBulk {H : Type} : DataW H → Nat
  | .lit (.string bytes) => bytes.length + 1
  | .lit _ => 1
  | .nil => 1
  | .ptr d => uptoBulk d + 1
  | .slice elems spare => uptoBulkAll elems + uptoBulkAll spare + 1
  | .agg parts => uptoBulkAll parts + 1
  | .iface _ d => uptoBulk d + 1
  | .map entries => uptoBulkEntries entries + 1
  | .held _ => 1
def uptoBulkAll {H : Type} : List (DataW H) → Nat
  | [] => 0
  | d :: r => uptoBulk d + uptoBulkAll r
def uptoBulkEntries {H : Type} : List (Lit × DataW H) → Nat
  | [] => 0
  | x :: r => uptoBulkEntry x + uptoBulkEntries r
def uptoBulkEntry {H : Type} : Lit × DataW H → Nat
  | (.string bytes, d) => bytes.length + uptoBulk d + 1
  | (_, d) => uptoBulk d + 1
 end
def uptoSmall : (H : Type) → List (DataW H) → Bool := fun _ ds => decide (uptoBulkAll ds ≤ 1048576)
def OpenSpec.upto (s : _root_.Go.ChangeSpec) : _root_.Go.OpenSpec := { _root_.Go.OpenSpec.ofChange s with cond := some uptoSmall }

/-- 'retrogradelaw17.SnapTells', WHERE WHAT IT READS IS OF BULK AT MOST 1048576: true; the input reads as it did. -/
def snapTellsUptoRow : OpenClaim := { program := "ytklbhbappaibgaa", sum := "cf696846e3b008fffbc004a235e818de4968de0db87bbf40c5f9917e912a9fa5", func := "retrograde/retrogradelaw17.SnapTells", spec := "snapTells", recurses := true, apart := false, narrowed := true }
def SnapTellsUptoSaid : Prop := snapTellsUptoRow.holds Try.pinned (OpenSpec.upto snapTellsSpec)

/-- 'retrogradelaw17.SnapBack', WHERE WHAT IT READS IS OF BULK AT MOST 1048576: true; the input reads as it did. -/
def snapBackUptoRow : OpenClaim := { program := "ytklbhbappaibgaa", sum := "cf696846e3b008fffbc004a235e818de4968de0db87bbf40c5f9917e912a9fa5", func := "retrograde/retrogradelaw17.SnapBack", spec := "snapBack", apart := false, narrowed := true }
def SnapBackUptoSaid : Prop := snapBackUptoRow.holds Try.pinned (OpenSpec.upto snapBackSpec)

/-- 'retrogradelaw17.SnapSpoilt', WHERE WHAT IT READS IS OF BULK AT MOST 1048576: true; the input reads as it did. -/
def snapSpoiltUptoRow : OpenClaim := { program := "ytklbhbappaibgaa", sum := "cf696846e3b008fffbc004a235e818de4968de0db87bbf40c5f9917e912a9fa5", func := "retrograde/retrogradelaw17.SnapSpoilt", spec := "snapSpoilt", apart := false, narrowed := true }
def SnapSpoiltUptoSaid : Prop := snapSpoiltUptoRow.holds Try.pinned (OpenSpec.upto snapSpoiltSpec)

/-- 'retrogradelaw17.SnapSmall', WHERE WHAT IT READS IS OF BULK AT MOST 1048576: true; the input reads as it did. -/
def snapSmallUptoRow : OpenClaim := { program := "ytklbhbappaibgaa", sum := "cf696846e3b008fffbc004a235e818de4968de0db87bbf40c5f9917e912a9fa5", func := "retrograde/retrogradelaw17.SnapSmall", spec := "snapSmall", apart := false, narrowed := true }
def SnapSmallUptoSaid : Prop := snapSmallUptoRow.holds Try.pinned (OpenSpec.upto snapSmallSpec)

/-- 'retrogradelaw17.SnapHash', WHERE WHAT IT READS IS OF BULK AT MOST 1048576: true; the input reads as it did. -/
def snapHashUptoRow : OpenClaim := { program := "ytklbhbappaibgaa", sum := "cf696846e3b008fffbc004a235e818de4968de0db87bbf40c5f9917e912a9fa5", func := "retrograde/retrogradelaw17.SnapHash", spec := "snapHash", apart := false, narrowed := true }
def SnapHashUptoSaid : Prop := snapHashUptoRow.holds Try.pinned (OpenSpec.upto snapHashSpec)

/-- 'retrogradelaw17.SnapApart', WHERE WHAT IT READS IS OF BULK AT MOST 1048576: true; the input reads as it did. -/
def snapApartUptoRow : OpenClaim := { program := "ytklbhbappaibgaa", sum := "cf696846e3b008fffbc004a235e818de4968de0db87bbf40c5f9917e912a9fa5", func := "retrograde/retrogradelaw17.SnapApart", spec := "snapApart", apart := false, narrowed := true }
def SnapApartUptoSaid : Prop := snapApartUptoRow.holds Try.pinned (OpenSpec.upto snapApartSpec)

end Rows
end Go.Proofs.Ytklbhbappaibgaa
