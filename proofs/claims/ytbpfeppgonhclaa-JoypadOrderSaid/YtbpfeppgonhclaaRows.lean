/-
  No cell of these rows narrows 'for every input' (looked for: loops, veiled, ifaces, maps, wideKeys, modest, calm, conditions, laid).
  DERIVED. THE GIVEN ROWS OF THIS SEAT. 6 by the template 'for every input the law returns true; each argument reads behind the call as it read before'; 0 by the template 'total and deterministic' (their statements: YtbpfeppgonhclaaTotals.lean).
  GIVEN WITH THE SEED: the statements are not yours to turn. If you find one false, say at which input.
  Laid BY PROGRAM, IN A SANDBOX (cutbox-rows.mjs): the forced cells as the released guide's own fill.sh prints them over the translation 1acd573e02f26472… (all of the seat's roots in one cut). By AI agents, Wed Nov 11 2026. No macro, syntax, notation, axiom, sorry.
-/
import Derived.Test.YtbpfeppgonhclaaChecked
import GoSem.Claim
import GoSem.ClaimJoined
import GoSem.ClaimMapViews
import Derived.JoinedTies
import Derived.KernelRfl
namespace Go.Proofs.Ytbpfeppgonhclaa
/- THE CELL 'sum', in the pinned program and in every row, IS THE sha256 OF THE DUMP (.gsa) THAT YtbpfeppgonhclaaProg.lean LOADS. Nothing in Lean hashes anything: it is a label: what it is worth is what the hold of that sum in a sandbox is worth. -/
noncomputable def Try.pinned : Pinned := { name := "ytbpfeppgonhclaa", sum := "1acd573e02f264721e8b077dbbf4d3b7c5369ec49373962f4799bbee7a5b2b6c", checked := Try.checked }
namespace Rows
def none {H : Type} : Left H := { results := [], args := [] }

/-- 'retrogradelaw09.JoypadPlays': WHATEVER THE INPUT: true; the input reads as it did. -/
def joypadPlaysSpec : ChangeSpec := { name := "joypadPlays", fn := fun _ => fun
  | [d1, d2] => { results := [.lit (.bool true)], args := [d1, d2] }
  | _ => none }
def joypadPlaysRow : OpenClaim := { program := "ytbpfeppgonhclaa", sum := "1acd573e02f264721e8b077dbbf4d3b7c5369ec49373962f4799bbee7a5b2b6c", func := "retrograde/retrogradelaw09.JoypadPlays", spec := "joypadPlays", apart := false }
def JoypadPlaysSaid : Prop := joypadPlaysRow.holds Try.pinned (OpenSpec.ofChange joypadPlaysSpec)

/-- ITS FALSE NEIGHBOUR: 'it returns false'. Refute it at one input. -/
def joypadPlaysWrong : ChangeSpec := { name := "joypadPlays", fn := fun _ => fun
  | [d1, d2] => { results := [.lit (.bool false)], args := [d1, d2] }
  | _ => none }
def JoypadPlaysWrongFalsely : Prop := joypadPlaysRow.holds Try.pinned (OpenSpec.ofChange joypadPlaysWrong)

/-- 'retrogradelaw09.JoypadLines': WHATEVER THE INPUT: true; the input reads as it did. -/
def joypadLinesSpec : ChangeSpec := { name := "joypadLines", fn := fun _ => fun
  | [d] => { results := [.lit (.bool true)], args := [d] }
  | _ => none }
def joypadLinesRow : OpenClaim := { program := "ytbpfeppgonhclaa", sum := "1acd573e02f264721e8b077dbbf4d3b7c5369ec49373962f4799bbee7a5b2b6c", func := "retrograde/retrogradelaw09.JoypadLines", spec := "joypadLines", apart := false }
def JoypadLinesSaid : Prop := joypadLinesRow.holds Try.pinned (OpenSpec.ofChange joypadLinesSpec)

/-- ITS FALSE NEIGHBOUR: 'it returns false'. Refute it at one input. -/
def joypadLinesWrong : ChangeSpec := { name := "joypadLines", fn := fun _ => fun
  | [d] => { results := [.lit (.bool false)], args := [d] }
  | _ => none }
def JoypadLinesWrongFalsely : Prop := joypadLinesRow.holds Try.pinned (OpenSpec.ofChange joypadLinesWrong)

/-- 'retrogradelaw09.JoypadFalls': WHATEVER THE INPUT: true; the input reads as it did. -/
def joypadFallsSpec : ChangeSpec := { name := "joypadFalls", fn := fun _ => fun
  | [d1, d2, d3] => { results := [.lit (.bool true)], args := [d1, d2, d3] }
  | _ => none }
def joypadFallsRow : OpenClaim := { program := "ytbpfeppgonhclaa", sum := "1acd573e02f264721e8b077dbbf4d3b7c5369ec49373962f4799bbee7a5b2b6c", func := "retrograde/retrogradelaw09.JoypadFalls", spec := "joypadFalls", apart := false }
def JoypadFallsSaid : Prop := joypadFallsRow.holds Try.pinned (OpenSpec.ofChange joypadFallsSpec)

/-- ITS FALSE NEIGHBOUR: 'it returns false'. Refute it at one input. -/
def joypadFallsWrong : ChangeSpec := { name := "joypadFalls", fn := fun _ => fun
  | [d1, d2, d3] => { results := [.lit (.bool false)], args := [d1, d2, d3] }
  | _ => none }
def JoypadFallsWrongFalsely : Prop := joypadFallsRow.holds Try.pinned (OpenSpec.ofChange joypadFallsWrong)

/-- 'retrogradelaw09.JoypadPlans': WHATEVER THE INPUT: true; the input reads as it did. -/
def joypadPlansSpec : ChangeSpec := { name := "joypadPlans", fn := fun _ => fun
  | [d1, d2] => { results := [.lit (.bool true)], args := [d1, d2] }
  | _ => none }
def joypadPlansRow : OpenClaim := { program := "ytbpfeppgonhclaa", sum := "1acd573e02f264721e8b077dbbf4d3b7c5369ec49373962f4799bbee7a5b2b6c", func := "retrograde/retrogradelaw09.JoypadPlans", spec := "joypadPlans", apart := false }
def JoypadPlansSaid : Prop := joypadPlansRow.holds Try.pinned (OpenSpec.ofChange joypadPlansSpec)

/-- ITS FALSE NEIGHBOUR: 'it returns false'. Refute it at one input. -/
def joypadPlansWrong : ChangeSpec := { name := "joypadPlans", fn := fun _ => fun
  | [d1, d2] => { results := [.lit (.bool false)], args := [d1, d2] }
  | _ => none }
def JoypadPlansWrongFalsely : Prop := joypadPlansRow.holds Try.pinned (OpenSpec.ofChange joypadPlansWrong)

/-- 'retrogradelaw09.JoypadOrder': WHATEVER THE INPUT: true; the input reads as it did. -/
def joypadOrderSpec : ChangeSpec := { name := "joypadOrder", fn := fun _ => fun
  | [d1, d2, d3, d4] => { results := [.lit (.bool true)], args := [d1, d2, d3, d4] }
  | _ => none }
def joypadOrderRow : OpenClaim := { program := "ytbpfeppgonhclaa", sum := "1acd573e02f264721e8b077dbbf4d3b7c5369ec49373962f4799bbee7a5b2b6c", func := "retrograde/retrogradelaw09.JoypadOrder", spec := "joypadOrder", apart := false }
def JoypadOrderSaid : Prop := joypadOrderRow.holds Try.pinned (OpenSpec.ofChange joypadOrderSpec)

/-- ITS FALSE NEIGHBOUR: 'it returns false'. Refute it at one input. -/
def joypadOrderWrong : ChangeSpec := { name := "joypadOrder", fn := fun _ => fun
  | [d1, d2, d3, d4] => { results := [.lit (.bool false)], args := [d1, d2, d3, d4] }
  | _ => none }
def JoypadOrderWrongFalsely : Prop := joypadOrderRow.holds Try.pinned (OpenSpec.ofChange joypadOrderWrong)

/-- 'retrogradelaw09.JoypadTwice': WHATEVER THE INPUT: true; the input reads as it did. -/
def joypadTwiceSpec : ChangeSpec := { name := "joypadTwice", fn := fun _ => fun
  | [d1, d2, d3] => { results := [.lit (.bool true)], args := [d1, d2, d3] }
  | _ => none }
def joypadTwiceRow : OpenClaim := { program := "ytbpfeppgonhclaa", sum := "1acd573e02f264721e8b077dbbf4d3b7c5369ec49373962f4799bbee7a5b2b6c", func := "retrograde/retrogradelaw09.JoypadTwice", spec := "joypadTwice", apart := false }
def JoypadTwiceSaid : Prop := joypadTwiceRow.holds Try.pinned (OpenSpec.ofChange joypadTwiceSpec)

/-- ITS FALSE NEIGHBOUR: 'it returns false'. Refute it at one input. -/
def joypadTwiceWrong : ChangeSpec := { name := "joypadTwice", fn := fun _ => fun
  | [d1, d2, d3] => { results := [.lit (.bool false)], args := [d1, d2, d3] }
  | _ => none }
def JoypadTwiceWrongFalsely : Prop := joypadTwiceRow.holds Try.pinned (OpenSpec.ofChange joypadTwiceWrong)

/- THE SECOND FORM. 'bulk': how many values and letters a reading holds, each counted each time it is reached (what is shared counts as often as it is met; a slice's spare places count too). A statement '..UptoSaid' is the law's where the arguments, and the package variables that the reading takes, are together of bulk at most 1048576: NARROWER than '..Said'. Prove '..Said' where nothing that the law and all that it calls make is longer than what came in: it says more and counts as full. Else prove '..UptoSaid'. A law counts once. -/
mutual
def uptoBulk {H : Type} : DataW H → Nat
  | .lit (.string bytes) => bytes.length + 1
  | .lit _ => 1
  | .nil => 1
  | .ptr d => uptoBulk d + 1
  | .slice elems spare => uptoBulkAll elems + uptoBulkAll spare + 1
  | .agg parts => uptoBulkAll parts + 1
  | .iface _ d => uptoBulk d + 1
  | .map entries => uptoBulkEntries entries + 1
  | .held _ => 1
def uptoBulkAll {H : Type} : List (DataW H) → Nat
  | [] => 0
  | d :: r => uptoBulk d + uptoBulkAll r
def uptoBulkEntries {H : Type} : List (Lit × DataW H) → Nat
  | [] => 0
  | x :: r => uptoBulkEntry x + uptoBulkEntries r
def uptoBulkEntry {H : Type} : Lit × DataW H → Nat
  | (.string bytes, d) => bytes.length + uptoBulk d + 1
  | (_, d) => uptoBulk d + 1
 end
def uptoSmall : (H : Type) → List (DataW H) → Bool := fun _ ds => decide (uptoBulkAll ds ≤ 1048576)
def OpenSpec.upto (s : _root_.Go.ChangeSpec) : _root_.Go.OpenSpec := { _root_.Go.OpenSpec.ofChange s with cond := some uptoSmall }

/-- 'retrogradelaw09.JoypadPlays', WHERE WHAT IT READS IS OF BULK AT MOST 1048576: true; the input reads as it did. -/
def joypadPlaysUptoRow : OpenClaim := { program := "ytbpfeppgonhclaa", sum := "1acd573e02f264721e8b077dbbf4d3b7c5369ec49373962f4799bbee7a5b2b6c", func := "retrograde/retrogradelaw09.JoypadPlays", spec := "joypadPlays", apart := false, narrowed := true }
def JoypadPlaysUptoSaid : Prop := joypadPlaysUptoRow.holds Try.pinned (OpenSpec.upto joypadPlaysSpec)

/-- 'retrogradelaw09.JoypadLines', WHERE WHAT IT READS IS OF BULK AT MOST 1048576: true; the input reads as it did. -/
def joypadLinesUptoRow : OpenClaim := { program := "ytbpfeppgonhclaa", sum := "1acd573e02f264721e8b077dbbf4d3b7c5369ec49373962f4799bbee7a5b2b6c", func := "retrograde/retrogradelaw09.JoypadLines", spec := "joypadLines", apart := false, narrowed := true }
def JoypadLinesUptoSaid : Prop := joypadLinesUptoRow.holds Try.pinned (OpenSpec.upto joypadLinesSpec)

/-- 'retrogradelaw09.JoypadFalls', WHERE WHAT IT READS IS OF BULK AT MOST 1048576: true; the input reads as it did. -/
def joypadFallsUptoRow : OpenClaim := { program := "ytbpfeppgonhclaa", sum := "1acd573e02f264721e8b077dbbf4d3b7c5369ec49373962f4799bbee7a5b2b6c", func := "retrograde/retrogradelaw09.JoypadFalls", spec := "joypadFalls", apart := false, narrowed := true }
def JoypadFallsUptoSaid : Prop := joypadFallsUptoRow.holds Try.pinned (OpenSpec.upto joypadFallsSpec)

/-- 'retrogradelaw09.JoypadPlans', WHERE WHAT IT READS IS OF BULK AT MOST 1048576: true; the input reads as it did. -/
def joypadPlansUptoRow : OpenClaim := { program := "ytbpfeppgonhclaa", sum := "1acd573e02f264721e8b077dbbf4d3b7c5369ec49373962f4799bbee7a5b2b6c", func := "retrograde/retrogradelaw09.JoypadPlans", spec := "joypadPlans", apart := false, narrowed := true }
def JoypadPlansUptoSaid : Prop := joypadPlansUptoRow.holds Try.pinned (OpenSpec.upto joypadPlansSpec)

/-- 'retrogradelaw09.JoypadOrder', WHERE WHAT IT READS IS OF BULK AT MOST 1048576: true; the input reads as it did. -/
def joypadOrderUptoRow : OpenClaim := { program := "ytbpfeppgonhclaa", sum := "1acd573e02f264721e8b077dbbf4d3b7c5369ec49373962f4799bbee7a5b2b6c", func := "retrograde/retrogradelaw09.JoypadOrder", spec := "joypadOrder", apart := false, narrowed := true }
def JoypadOrderUptoSaid : Prop := joypadOrderUptoRow.holds Try.pinned (OpenSpec.upto joypadOrderSpec)

/-- 'retrogradelaw09.JoypadTwice', WHERE WHAT IT READS IS OF BULK AT MOST 1048576: true; the input reads as it did. -/
def joypadTwiceUptoRow : OpenClaim := { program := "ytbpfeppgonhclaa", sum := "1acd573e02f264721e8b077dbbf4d3b7c5369ec49373962f4799bbee7a5b2b6c", func := "retrograde/retrogradelaw09.JoypadTwice", spec := "joypadTwice", apart := false, narrowed := true }
def JoypadTwiceUptoSaid : Prop := joypadTwiceUptoRow.holds Try.pinned (OpenSpec.upto joypadTwiceSpec)

end Rows
end Go.Proofs.Ytbpfeppgonhclaa
