/-
  No cell of these rows narrows 'for every input' (looked for: loops, veiled, ifaces, maps, wideKeys, modest, calm, conditions, laid).
  DERIVED. THE GIVEN ROWS OF THIS SEAT. 6 by the template 'for every input the law returns true; each argument reads behind the call as it read before'; 0 by the template 'total and deterministic' (their statements: YtiekojnhkemjlaaTotals.lean).
  GIVEN WITH THE SEED: the statements are not yours to turn. If you find one false, say at which input.
  Laid BY PROGRAM, IN A SANDBOX (cutbox-rows.mjs): the forced cells as the released guide's own fill.sh prints them over the translation 22c38c0321a6e008… (all of the seat's roots in one cut). By AI agents, Wed Nov 11 2026. No macro, syntax, notation, axiom, sorry.
-/
import Derived.Test.YtiekojnhkemjlaaChecked
import GoSem.Claim
import GoSem.ClaimJoined
import GoSem.ClaimMapViews
import Derived.JoinedTies
import Derived.KernelRfl
namespace Go.Proofs.Ytiekojnhkemjlaa
/- THE CELL 'sum', in the pinned program and in every row, IS THE sha256 OF THE DUMP (.gsa) THAT YtiekojnhkemjlaaProg.lean LOADS. Nothing in Lean hashes anything: it is a label: what it is worth is what the hold of that sum in a sandbox is worth. -/
noncomputable def Try.pinned : Pinned := { name := "ytiekojnhkemjlaa", sum := "22c38c0321a6e0085a266163df9b7464510bca2d265a2e869c2e5f13866fe8e8", checked := Try.checked }
namespace Rows
def none {H : Type} : Left H := { results := [], args := [] }

/-- 'retrogradelaw14.SpritesScan': WHATEVER THE INPUT: true; the input reads as it did. -/
def spritesScanSpec : ChangeSpec := { name := "spritesScan", fn := fun _ => fun
  | [d1, d2, d3, d4, d5, d6] => { results := [.lit (.bool true)], args := [d1, d2, d3, d4, d5, d6] }
  | _ => none }
def spritesScanRow : OpenClaim := { program := "ytiekojnhkemjlaa", sum := "22c38c0321a6e0085a266163df9b7464510bca2d265a2e869c2e5f13866fe8e8", func := "retrograde/retrogradelaw14.SpritesScan", spec := "spritesScan", apart := false }
def SpritesScanSaid : Prop := spritesScanRow.holds Try.pinned (OpenSpec.ofChange spritesScanSpec)

/-- ITS FALSE NEIGHBOUR: 'it returns false'. Refute it at one input. -/
def spritesScanWrong : ChangeSpec := { name := "spritesScan", fn := fun _ => fun
  | [d1, d2, d3, d4, d5, d6] => { results := [.lit (.bool false)], args := [d1, d2, d3, d4, d5, d6] }
  | _ => none }
def SpritesScanWrongFalsely : Prop := spritesScanRow.holds Try.pinned (OpenSpec.ofChange spritesScanWrong)

/-- 'retrogradelaw14.SpritesLines': WHATEVER THE INPUT: true; the input reads as it did. -/
def spritesLinesSpec : ChangeSpec := { name := "spritesLines", fn := fun _ => fun
  | [d1, d2, d3, d4, d5] => { results := [.lit (.bool true)], args := [d1, d2, d3, d4, d5] }
  | _ => none }
def spritesLinesRow : OpenClaim := { program := "ytiekojnhkemjlaa", sum := "22c38c0321a6e0085a266163df9b7464510bca2d265a2e869c2e5f13866fe8e8", func := "retrograde/retrogradelaw14.SpritesLines", spec := "spritesLines", unfollowed := true, recurses := true, apart := false }
def SpritesLinesSaid : Prop := spritesLinesRow.holds Try.pinned (OpenSpec.ofChange spritesLinesSpec)

/-- ITS FALSE NEIGHBOUR: 'it returns false'. Refute it at one input. -/
def spritesLinesWrong : ChangeSpec := { name := "spritesLines", fn := fun _ => fun
  | [d1, d2, d3, d4, d5] => { results := [.lit (.bool false)], args := [d1, d2, d3, d4, d5] }
  | _ => none }
def SpritesLinesWrongFalsely : Prop := spritesLinesRow.holds Try.pinned (OpenSpec.ofChange spritesLinesWrong)

/-- 'retrogradelaw14.SpritesTen': WHATEVER THE INPUT: true; the input reads as it did. -/
def spritesTenSpec : ChangeSpec := { name := "spritesTen", fn := fun _ => fun
  | [d1, d2, d3] => { results := [.lit (.bool true)], args := [d1, d2, d3] }
  | _ => none }
def spritesTenRow : OpenClaim := { program := "ytiekojnhkemjlaa", sum := "22c38c0321a6e0085a266163df9b7464510bca2d265a2e869c2e5f13866fe8e8", func := "retrograde/retrogradelaw14.SpritesTen", spec := "spritesTen", apart := false }
def SpritesTenSaid : Prop := spritesTenRow.holds Try.pinned (OpenSpec.ofChange spritesTenSpec)

/-- ITS FALSE NEIGHBOUR: 'it returns false'. Refute it at one input. -/
def spritesTenWrong : ChangeSpec := { name := "spritesTen", fn := fun _ => fun
  | [d1, d2, d3] => { results := [.lit (.bool false)], args := [d1, d2, d3] }
  | _ => none }
def SpritesTenWrongFalsely : Prop := spritesTenRow.holds Try.pinned (OpenSpec.ofChange spritesTenWrong)

/-- 'retrogradelaw14.SpritesNone': WHATEVER THE INPUT: true; the input reads as it did. -/
def spritesNoneSpec : ChangeSpec := { name := "spritesNone", fn := fun _ => fun
  | [d1, d2, d3, d4, d5] => { results := [.lit (.bool true)], args := [d1, d2, d3, d4, d5] }
  | _ => none }
def spritesNoneRow : OpenClaim := { program := "ytiekojnhkemjlaa", sum := "22c38c0321a6e0085a266163df9b7464510bca2d265a2e869c2e5f13866fe8e8", func := "retrograde/retrogradelaw14.SpritesNone", spec := "spritesNone", unfollowed := true, recurses := true, apart := false }
def SpritesNoneSaid : Prop := spritesNoneRow.holds Try.pinned (OpenSpec.ofChange spritesNoneSpec)

/-- ITS FALSE NEIGHBOUR: 'it returns false'. Refute it at one input. -/
def spritesNoneWrong : ChangeSpec := { name := "spritesNone", fn := fun _ => fun
  | [d1, d2, d3, d4, d5] => { results := [.lit (.bool false)], args := [d1, d2, d3, d4, d5] }
  | _ => none }
def SpritesNoneWrongFalsely : Prop := spritesNoneRow.holds Try.pinned (OpenSpec.ofChange spritesNoneWrong)

/-- 'retrogradelaw14.SpritesTurns': WHATEVER THE INPUT: true; the input reads as it did. -/
def spritesTurnsSpec : ChangeSpec := { name := "spritesTurns", fn := fun _ => fun
  | [d1, d2, d3, d4, d5, d6, d7, d8] => { results := [.lit (.bool true)], args := [d1, d2, d3, d4, d5, d6, d7, d8] }
  | _ => none }
def spritesTurnsRow : OpenClaim := { program := "ytiekojnhkemjlaa", sum := "22c38c0321a6e0085a266163df9b7464510bca2d265a2e869c2e5f13866fe8e8", func := "retrograde/retrogradelaw14.SpritesTurns", spec := "spritesTurns", apart := false }
def SpritesTurnsSaid : Prop := spritesTurnsRow.holds Try.pinned (OpenSpec.ofChange spritesTurnsSpec)

/-- ITS FALSE NEIGHBOUR: 'it returns false'. Refute it at one input. -/
def spritesTurnsWrong : ChangeSpec := { name := "spritesTurns", fn := fun _ => fun
  | [d1, d2, d3, d4, d5, d6, d7, d8] => { results := [.lit (.bool false)], args := [d1, d2, d3, d4, d5, d6, d7, d8] }
  | _ => none }
def SpritesTurnsWrongFalsely : Prop := spritesTurnsRow.holds Try.pinned (OpenSpec.ofChange spritesTurnsWrong)

/-- 'retrogradelaw14.SpritesLeft': WHATEVER THE INPUT: true; the input reads as it did. -/
def spritesLeftSpec : ChangeSpec := { name := "spritesLeft", fn := fun _ => fun
  | [d1, d2, d3, d4, d5, d6, d7, d8, d9] => { results := [.lit (.bool true)], args := [d1, d2, d3, d4, d5, d6, d7, d8, d9] }
  | _ => none }
def spritesLeftRow : OpenClaim := { program := "ytiekojnhkemjlaa", sum := "22c38c0321a6e0085a266163df9b7464510bca2d265a2e869c2e5f13866fe8e8", func := "retrograde/retrogradelaw14.SpritesLeft", spec := "spritesLeft", unfollowed := true, recurses := true, apart := false }
def SpritesLeftSaid : Prop := spritesLeftRow.holds Try.pinned (OpenSpec.ofChange spritesLeftSpec)

/-- ITS FALSE NEIGHBOUR: 'it returns false'. Refute it at one input. -/
def spritesLeftWrong : ChangeSpec := { name := "spritesLeft", fn := fun _ => fun
  | [d1, d2, d3, d4, d5, d6, d7, d8, d9] => { results := [.lit (.bool false)], args := [d1, d2, d3, d4, d5, d6, d7, d8, d9] }
  | _ => none }
def SpritesLeftWrongFalsely : Prop := spritesLeftRow.holds Try.pinned (OpenSpec.ofChange spritesLeftWrong)

/- THE SECOND FORM. 'bulk': how many values and letters a reading holds, each counted each time it is reached (what is shared counts as often as it is met; a slice's spare places count too). A statement '..UptoSaid' is the law's where the arguments, and the package variables that the reading takes, are together of bulk at most 1048576: NARROWER than '..Said'. Prove '..Said' where nothing that the law and all that it calls make is longer than what came in: it says more and counts as full. Else prove '..UptoSaid'. A law counts once. -/
mutual
def uptoBulk {H : Type} : DataW H → Nat
  | .lit (.string bytes) => bytes.length + 1
  | .lit _ => 1
  | .nil => 1
  | .ptr d => uptoBulk d + 1
  | .slice elems spare => uptoBulkAll elems + uptoBulkAll spare + 1
  | .agg parts => uptoBulkAll parts + 1
  | .iface _ d => uptoBulk d + 1
  | .map entries => uptoBulkEntries entries + 1
  | .held _ => 1
def uptoBulkAll {H : Type} : List (DataW H) → Nat
  | [] => 0
  | d :: r => uptoBulk d + uptoBulkAll r
def uptoBulkEntries {H : Type} : List (Lit × DataW H) → Nat
  | [] => 0
  | x :: r => uptoBulkEntry x + uptoBulkEntries r
def uptoBulkEntry {H : Type} : Lit × DataW H → Nat
  | (.string bytes, d) => bytes.length + uptoBulk d + 1
  | (_, d) => uptoBulk d + 1
 end
def uptoSmall : (H : Type) → List (DataW H) → Bool := fun _ ds => decide (uptoBulkAll ds ≤ 1048576)
def OpenSpec.upto (s : _root_.Go.ChangeSpec) : _root_.Go.OpenSpec := { _root_.Go.OpenSpec.ofChange s with cond := some uptoSmall }

/-- 'retrogradelaw14.SpritesScan', WHERE WHAT IT READS IS OF BULK AT MOST 1048576: true; the input reads as it did. -/
def spritesScanUptoRow : OpenClaim := { program := "ytiekojnhkemjlaa", sum := "22c38c0321a6e0085a266163df9b7464510bca2d265a2e869c2e5f13866fe8e8", func := "retrograde/retrogradelaw14.SpritesScan", spec := "spritesScan", apart := false, narrowed := true }
def SpritesScanUptoSaid : Prop := spritesScanUptoRow.holds Try.pinned (OpenSpec.upto spritesScanSpec)

/-- 'retrogradelaw14.SpritesLines', WHERE WHAT IT READS IS OF BULK AT MOST 1048576: true; the input reads as it did. -/
def spritesLinesUptoRow : OpenClaim := { program := "ytiekojnhkemjlaa", sum := "22c38c0321a6e0085a266163df9b7464510bca2d265a2e869c2e5f13866fe8e8", func := "retrograde/retrogradelaw14.SpritesLines", spec := "spritesLines", unfollowed := true, recurses := true, apart := false, narrowed := true }
def SpritesLinesUptoSaid : Prop := spritesLinesUptoRow.holds Try.pinned (OpenSpec.upto spritesLinesSpec)

/-- 'retrogradelaw14.SpritesTen', WHERE WHAT IT READS IS OF BULK AT MOST 1048576: true; the input reads as it did. -/
def spritesTenUptoRow : OpenClaim := { program := "ytiekojnhkemjlaa", sum := "22c38c0321a6e0085a266163df9b7464510bca2d265a2e869c2e5f13866fe8e8", func := "retrograde/retrogradelaw14.SpritesTen", spec := "spritesTen", apart := false, narrowed := true }
def SpritesTenUptoSaid : Prop := spritesTenUptoRow.holds Try.pinned (OpenSpec.upto spritesTenSpec)

/-- 'retrogradelaw14.SpritesNone', WHERE WHAT IT READS IS OF BULK AT MOST 1048576: true; the input reads as it did. -/
def spritesNoneUptoRow : OpenClaim := { program := "ytiekojnhkemjlaa", sum := "22c38c0321a6e0085a266163df9b7464510bca2d265a2e869c2e5f13866fe8e8", func := "retrograde/retrogradelaw14.SpritesNone", spec := "spritesNone", unfollowed := true, recurses := true, apart := false, narrowed := true }
def SpritesNoneUptoSaid : Prop := spritesNoneUptoRow.holds Try.pinned (OpenSpec.upto spritesNoneSpec)

/-- 'retrogradelaw14.SpritesTurns', WHERE WHAT IT READS IS OF BULK AT MOST 1048576: true; the input reads as it did. -/
def spritesTurnsUptoRow : OpenClaim := { program := "ytiekojnhkemjlaa", sum := "22c38c0321a6e0085a266163df9b7464510bca2d265a2e869c2e5f13866fe8e8", func := "retrograde/retrogradelaw14.SpritesTurns", spec := "spritesTurns", apart := false, narrowed := true }
def SpritesTurnsUptoSaid : Prop := spritesTurnsUptoRow.holds Try.pinned (OpenSpec.upto spritesTurnsSpec)

/-- 'retrogradelaw14.SpritesLeft', WHERE WHAT IT READS IS OF BULK AT MOST 1048576: true; the input reads as it did. -/
def spritesLeftUptoRow : OpenClaim := { program := "ytiekojnhkemjlaa", sum := "22c38c0321a6e0085a266163df9b7464510bca2d265a2e869c2e5f13866fe8e8", func := "retrograde/retrogradelaw14.SpritesLeft", spec := "spritesLeft", unfollowed := true, recurses := true, apart := false, narrowed := true }
def SpritesLeftUptoSaid : Prop := spritesLeftUptoRow.holds Try.pinned (OpenSpec.upto spritesLeftSpec)

end Rows
end Go.Proofs.Ytiekojnhkemjlaa
