/-
  No cell of these rows narrows 'for every input' (looked for: loops, veiled, ifaces, maps, wideKeys, modest, calm, conditions, laid).
  DERIVED. THE GIVEN ROWS OF THIS SEAT. 6 by the template 'for every input the law returns true; each argument reads behind the call as it read before'; 0 by the template 'total and deterministic' (their statements: YtgoagcombkamkaaTotals.lean).
  GIVEN WITH THE SEED: the statements are not yours to turn. If you find one false, say at which input.
  Laid BY PROGRAM, IN A SANDBOX (cutbox-rows.mjs): the forced cells as the released guide's own fill.sh prints them over the translation 78f1a629c78da688… (all of the seat's roots in one cut). By AI agents, Wed Nov 11 2026. No macro, syntax, notation, axiom, sorry.
-/
import Derived.Test.YtgoagcombkamkaaChecked
import GoSem.Claim
import GoSem.ClaimJoined
import GoSem.ClaimMapViews
import Derived.JoinedTies
import Derived.KernelRfl
namespace Go.Proofs.Ytgoagcombkamkaa
/- THE CELL 'sum', in the pinned program and in every row, IS THE sha256 OF THE DUMP (.gsa) THAT YtgoagcombkamkaaProg.lean LOADS. Nothing in Lean hashes anything: it is a label: what it is worth is what the hold of that sum in a sandbox is worth. -/
noncomputable def Try.pinned : Pinned := { name := "ytgoagcombkamkaa", sum := "78f1a629c78da688be4137a12c3159d54b1a6943da601c24388bd89bc2f0074d", checked := Try.checked }
namespace Rows
def none {H : Type} : Left H := { results := [], args := [] }

/-- 'retrogradelaw13.TilesDots': WHATEVER THE INPUT: true; the input reads as it did. -/
def tilesDotsSpec : ChangeSpec := { name := "tilesDots", fn := fun _ => fun
  | [d1, d2, d3, d4, d5, d6] => { results := [.lit (.bool true)], args := [d1, d2, d3, d4, d5, d6] }
  | _ => none }
def tilesDotsRow : OpenClaim := { program := "ytgoagcombkamkaa", sum := "78f1a629c78da688be4137a12c3159d54b1a6943da601c24388bd89bc2f0074d", func := "retrograde/retrogradelaw13.TilesDots", spec := "tilesDots", apart := false }
def TilesDotsSaid : Prop := tilesDotsRow.holds Try.pinned (OpenSpec.ofChange tilesDotsSpec)

/-- ITS FALSE NEIGHBOUR: 'it returns false'. Refute it at one input. -/
def tilesDotsWrong : ChangeSpec := { name := "tilesDots", fn := fun _ => fun
  | [d1, d2, d3, d4, d5, d6] => { results := [.lit (.bool false)], args := [d1, d2, d3, d4, d5, d6] }
  | _ => none }
def TilesDotsWrongFalsely : Prop := tilesDotsRow.holds Try.pinned (OpenSpec.ofChange tilesDotsWrong)

/-- 'retrogradelaw13.TilesPlaces': WHATEVER THE INPUT: true; the input reads as it did. -/
def tilesPlacesSpec : ChangeSpec := { name := "tilesPlaces", fn := fun _ => fun
  | [d1, d2, d3, d4] => { results := [.lit (.bool true)], args := [d1, d2, d3, d4] }
  | _ => none }
def tilesPlacesRow : OpenClaim := { program := "ytgoagcombkamkaa", sum := "78f1a629c78da688be4137a12c3159d54b1a6943da601c24388bd89bc2f0074d", func := "retrograde/retrogradelaw13.TilesPlaces", spec := "tilesPlaces", apart := false }
def TilesPlacesSaid : Prop := tilesPlacesRow.holds Try.pinned (OpenSpec.ofChange tilesPlacesSpec)

/-- ITS FALSE NEIGHBOUR: 'it returns false'. Refute it at one input. -/
def tilesPlacesWrong : ChangeSpec := { name := "tilesPlaces", fn := fun _ => fun
  | [d1, d2, d3, d4] => { results := [.lit (.bool false)], args := [d1, d2, d3, d4] }
  | _ => none }
def TilesPlacesWrongFalsely : Prop := tilesPlacesRow.holds Try.pinned (OpenSpec.ofChange tilesPlacesWrong)

/-- 'retrogradelaw13.TilesLines': WHATEVER THE INPUT: true; the input reads as it did. -/
def tilesLinesSpec : ChangeSpec := { name := "tilesLines", fn := fun _ => fun
  | [d1, d2, d3, d4] => { results := [.lit (.bool true)], args := [d1, d2, d3, d4] }
  | _ => none }
def tilesLinesRow : OpenClaim := { program := "ytgoagcombkamkaa", sum := "78f1a629c78da688be4137a12c3159d54b1a6943da601c24388bd89bc2f0074d", func := "retrograde/retrogradelaw13.TilesLines", spec := "tilesLines", apart := false }
def TilesLinesSaid : Prop := tilesLinesRow.holds Try.pinned (OpenSpec.ofChange tilesLinesSpec)

/-- ITS FALSE NEIGHBOUR: 'it returns false'. Refute it at one input. -/
def tilesLinesWrong : ChangeSpec := { name := "tilesLines", fn := fun _ => fun
  | [d1, d2, d3, d4] => { results := [.lit (.bool false)], args := [d1, d2, d3, d4] }
  | _ => none }
def TilesLinesWrongFalsely : Prop := tilesLinesRow.holds Try.pinned (OpenSpec.ofChange tilesLinesWrong)

/-- 'retrogradelaw13.TilesScroll': WHATEVER THE INPUT: true; the input reads as it did. -/
def tilesScrollSpec : ChangeSpec := { name := "tilesScroll", fn := fun _ => fun
  | [d1, d2, d3, d4, d5] => { results := [.lit (.bool true)], args := [d1, d2, d3, d4, d5] }
  | _ => none }
def tilesScrollRow : OpenClaim := { program := "ytgoagcombkamkaa", sum := "78f1a629c78da688be4137a12c3159d54b1a6943da601c24388bd89bc2f0074d", func := "retrograde/retrogradelaw13.TilesScroll", spec := "tilesScroll", apart := false }
def TilesScrollSaid : Prop := tilesScrollRow.holds Try.pinned (OpenSpec.ofChange tilesScrollSpec)

/-- ITS FALSE NEIGHBOUR: 'it returns false'. Refute it at one input. -/
def tilesScrollWrong : ChangeSpec := { name := "tilesScroll", fn := fun _ => fun
  | [d1, d2, d3, d4, d5] => { results := [.lit (.bool false)], args := [d1, d2, d3, d4, d5] }
  | _ => none }
def TilesScrollWrongFalsely : Prop := tilesScrollRow.holds Try.pinned (OpenSpec.ofChange tilesScrollWrong)

/-- 'retrogradelaw13.TilesSplit': WHATEVER THE INPUT: true; the input reads as it did. -/
def tilesSplitSpec : ChangeSpec := { name := "tilesSplit", fn := fun _ => fun
  | [d1, d2, d3, d4] => { results := [.lit (.bool true)], args := [d1, d2, d3, d4] }
  | _ => none }
def tilesSplitRow : OpenClaim := { program := "ytgoagcombkamkaa", sum := "78f1a629c78da688be4137a12c3159d54b1a6943da601c24388bd89bc2f0074d", func := "retrograde/retrogradelaw13.TilesSplit", spec := "tilesSplit", apart := false }
def TilesSplitSaid : Prop := tilesSplitRow.holds Try.pinned (OpenSpec.ofChange tilesSplitSpec)

/-- ITS FALSE NEIGHBOUR: 'it returns false'. Refute it at one input. -/
def tilesSplitWrong : ChangeSpec := { name := "tilesSplit", fn := fun _ => fun
  | [d1, d2, d3, d4] => { results := [.lit (.bool false)], args := [d1, d2, d3, d4] }
  | _ => none }
def TilesSplitWrongFalsely : Prop := tilesSplitRow.holds Try.pinned (OpenSpec.ofChange tilesSplitWrong)

/-- 'retrogradelaw13.TilesShades': WHATEVER THE INPUT: true; the input reads as it did. -/
def tilesShadesSpec : ChangeSpec := { name := "tilesShades", fn := fun _ => fun
  | [d1, d2] => { results := [.lit (.bool true)], args := [d1, d2] }
  | _ => none }
def tilesShadesRow : OpenClaim := { program := "ytgoagcombkamkaa", sum := "78f1a629c78da688be4137a12c3159d54b1a6943da601c24388bd89bc2f0074d", func := "retrograde/retrogradelaw13.TilesShades", spec := "tilesShades", apart := false }
def TilesShadesSaid : Prop := tilesShadesRow.holds Try.pinned (OpenSpec.ofChange tilesShadesSpec)

/-- ITS FALSE NEIGHBOUR: 'it returns false'. Refute it at one input. -/
def tilesShadesWrong : ChangeSpec := { name := "tilesShades", fn := fun _ => fun
  | [d1, d2] => { results := [.lit (.bool false)], args := [d1, d2] }
  | _ => none }
def TilesShadesWrongFalsely : Prop := tilesShadesRow.holds Try.pinned (OpenSpec.ofChange tilesShadesWrong)

/- THE SECOND FORM. 'bulk': how many values and letters a reading holds, each counted each time it is reached (what is shared counts as often as it is met; a slice's spare places count too). A statement '..UptoSaid' is the law's where the arguments, and the package variables that the reading takes, are together of bulk at most 1048576: NARROWER than '..Said'. Prove '..Said' where nothing that the law and all that it calls make is longer than what came in: it says more and counts as full. Else prove '..UptoSaid'. A law counts once. -/
mutual
def uptoBulk {H : Type} : DataW H → Nat
  | .lit (.string bytes) => bytes.length + 1
  | .lit _ => 1
  | .nil => 1
  | .ptr d => uptoBulk d + 1
  | .slice elems spare => uptoBulkAll elems + uptoBulkAll spare + 1
  | .agg parts => uptoBulkAll parts + 1
  | .iface _ d => uptoBulk d + 1
  | .map entries => uptoBulkEntries entries + 1
  | .held _ => 1
def uptoBulkAll {H : Type} : List (DataW H) → Nat
  | [] => 0
  | d :: r => uptoBulk d + uptoBulkAll r
def uptoBulkEntries {H : Type} : List (Lit × DataW H) → Nat
  | [] => 0
  | x :: r => uptoBulkEntry x + uptoBulkEntries r
def uptoBulkEntry {H : Type} : Lit × DataW H → Nat
  | (.string bytes, d) => bytes.length + uptoBulk d + 1
  | (_, d) => uptoBulk d + 1
 end
def uptoSmall : (H : Type) → List (DataW H) → Bool := fun _ ds => decide (uptoBulkAll ds ≤ 1048576)
def OpenSpec.upto (s : _root_.Go.ChangeSpec) : _root_.Go.OpenSpec := { _root_.Go.OpenSpec.ofChange s with cond := some uptoSmall }

/-- 'retrogradelaw13.TilesDots', WHERE WHAT IT READS IS OF BULK AT MOST 1048576: true; the input reads as it did. -/
def tilesDotsUptoRow : OpenClaim := { program := "ytgoagcombkamkaa", sum := "78f1a629c78da688be4137a12c3159d54b1a6943da601c24388bd89bc2f0074d", func := "retrograde/retrogradelaw13.TilesDots", spec := "tilesDots", apart := false, narrowed := true }
def TilesDotsUptoSaid : Prop := tilesDotsUptoRow.holds Try.pinned (OpenSpec.upto tilesDotsSpec)

/-- 'retrogradelaw13.TilesPlaces', WHERE WHAT IT READS IS OF BULK AT MOST 1048576: true; the input reads as it did. -/
def tilesPlacesUptoRow : OpenClaim := { program := "ytgoagcombkamkaa", sum := "78f1a629c78da688be4137a12c3159d54b1a6943da601c24388bd89bc2f0074d", func := "retrograde/retrogradelaw13.TilesPlaces", spec := "tilesPlaces", apart := false, narrowed := true }
def TilesPlacesUptoSaid : Prop := tilesPlacesUptoRow.holds Try.pinned (OpenSpec.upto tilesPlacesSpec)

/-- 'retrogradelaw13.TilesLines', WHERE WHAT IT READS IS OF BULK AT MOST 1048576: true; the input reads as it did. -/
def tilesLinesUptoRow : OpenClaim := { program := "ytgoagcombkamkaa", sum := "78f1a629c78da688be4137a12c3159d54b1a6943da601c24388bd89bc2f0074d", func := "retrograde/retrogradelaw13.TilesLines", spec := "tilesLines", apart := false, narrowed := true }
def TilesLinesUptoSaid : Prop := tilesLinesUptoRow.holds Try.pinned (OpenSpec.upto tilesLinesSpec)

/-- 'retrogradelaw13.TilesScroll', WHERE WHAT IT READS IS OF BULK AT MOST 1048576: true; the input reads as it did. -/
def tilesScrollUptoRow : OpenClaim := { program := "ytgoagcombkamkaa", sum := "78f1a629c78da688be4137a12c3159d54b1a6943da601c24388bd89bc2f0074d", func := "retrograde/retrogradelaw13.TilesScroll", spec := "tilesScroll", apart := false, narrowed := true }
def TilesScrollUptoSaid : Prop := tilesScrollUptoRow.holds Try.pinned (OpenSpec.upto tilesScrollSpec)

/-- 'retrogradelaw13.TilesSplit', WHERE WHAT IT READS IS OF BULK AT MOST 1048576: true; the input reads as it did. -/
def tilesSplitUptoRow : OpenClaim := { program := "ytgoagcombkamkaa", sum := "78f1a629c78da688be4137a12c3159d54b1a6943da601c24388bd89bc2f0074d", func := "retrograde/retrogradelaw13.TilesSplit", spec := "tilesSplit", apart := false, narrowed := true }
def TilesSplitUptoSaid : Prop := tilesSplitUptoRow.holds Try.pinned (OpenSpec.upto tilesSplitSpec)

/-- 'retrogradelaw13.TilesShades', WHERE WHAT IT READS IS OF BULK AT MOST 1048576: true; the input reads as it did. -/
def tilesShadesUptoRow : OpenClaim := { program := "ytgoagcombkamkaa", sum := "78f1a629c78da688be4137a12c3159d54b1a6943da601c24388bd89bc2f0074d", func := "retrograde/retrogradelaw13.TilesShades", spec := "tilesShades", apart := false, narrowed := true }
def TilesShadesUptoSaid : Prop := tilesShadesUptoRow.holds Try.pinned (OpenSpec.upto tilesShadesSpec)

end Rows
end Go.Proofs.Ytgoagcombkamkaa
