/-
  No cell of these rows narrows 'for every input' (looked for: loops, veiled, ifaces, maps, wideKeys, modest, calm, conditions, laid).
  DERIVED. THE GIVEN ROWS OF THIS SEAT. 6 by the template 'for every input the law returns true; each argument reads behind the call as it read before'; 0 by the template 'total and deterministic' (their statements: YtafmmffgenolaaaTotals.lean).
  GIVEN WITH THE SEED: the statements are not yours to turn. If you find one false, say at which input.
  Laid BY PROGRAM, IN A SANDBOX (cutbox-rows.mjs): the forced cells as the released guide's own fill.sh prints them over the translation be0c514d74f6758f… (all of the seat's roots in one cut). By AI agents, Wed Nov 11 2026. No macro, syntax, notation, axiom, sorry.
-/
import Derived.Test.YtafmmffgenolaaaChecked
import GoSem.Claim
import GoSem.ClaimJoined
import GoSem.ClaimMapViews
import Derived.JoinedTies
import Derived.KernelRfl
namespace Go.Proofs.Ytafmmffgenolaaa
/- THE CELL 'sum', in the pinned program and in every row, IS THE sha256 OF THE DUMP (.gsa) THAT YtafmmffgenolaaaProg.lean LOADS. Nothing in Lean hashes anything: it is a label: what it is worth is what the hold of that sum in a sandbox is worth. -/
noncomputable def Try.pinned : Pinned := { name := "ytafmmffgenolaaa", sum := "be0c514d74f6758f0f5c2cedbd4638a5f6a4394fa47084aaee0fd2cd74139efa", checked := Try.checked }
namespace Rows
def none {H : Type} : Left H := { results := [], args := [] }

/-- 'retrogradelaw06.MbcPlays': WHATEVER THE INPUT: true; the input reads as it did. -/
def mbcPlaysSpec : ChangeSpec := { name := "mbcPlays", fn := fun _ => fun
  | [d1, d2, d3, d4, d5] => { results := [.lit (.bool true)], args := [d1, d2, d3, d4, d5] }
  | _ => none }
def mbcPlaysRow : OpenClaim := { program := "ytafmmffgenolaaa", sum := "be0c514d74f6758f0f5c2cedbd4638a5f6a4394fa47084aaee0fd2cd74139efa", func := "retrograde/retrogradelaw06.MbcPlays", spec := "mbcPlays", apart := false }
def MbcPlaysSaid : Prop := mbcPlaysRow.holds Try.pinned (OpenSpec.ofChange mbcPlaysSpec)

/-- ITS FALSE NEIGHBOUR: 'it returns false'. Refute it at one input. -/
def mbcPlaysWrong : ChangeSpec := { name := "mbcPlays", fn := fun _ => fun
  | [d1, d2, d3, d4, d5] => { results := [.lit (.bool false)], args := [d1, d2, d3, d4, d5] }
  | _ => none }
def MbcPlaysWrongFalsely : Prop := mbcPlaysRow.holds Try.pinned (OpenSpec.ofChange mbcPlaysWrong)

/-- 'retrogradelaw06.MbcThere': WHATEVER THE INPUT: true; the input reads as it did. -/
def mbcThereSpec : ChangeSpec := { name := "mbcThere", fn := fun _ => fun
  | [d1, d2, d3, d4, d5, d6] => { results := [.lit (.bool true)], args := [d1, d2, d3, d4, d5, d6] }
  | _ => none }
def mbcThereRow : OpenClaim := { program := "ytafmmffgenolaaa", sum := "be0c514d74f6758f0f5c2cedbd4638a5f6a4394fa47084aaee0fd2cd74139efa", func := "retrograde/retrogradelaw06.MbcThere", spec := "mbcThere", apart := false }
def MbcThereSaid : Prop := mbcThereRow.holds Try.pinned (OpenSpec.ofChange mbcThereSpec)

/-- ITS FALSE NEIGHBOUR: 'it returns false'. Refute it at one input. -/
def mbcThereWrong : ChangeSpec := { name := "mbcThere", fn := fun _ => fun
  | [d1, d2, d3, d4, d5, d6] => { results := [.lit (.bool false)], args := [d1, d2, d3, d4, d5, d6] }
  | _ => none }
def MbcThereWrongFalsely : Prop := mbcThereRow.holds Try.pinned (OpenSpec.ofChange mbcThereWrong)

/-- 'retrogradelaw06.MbcOff': WHATEVER THE INPUT: true; the input reads as it did. -/
def mbcOffSpec : ChangeSpec := { name := "mbcOff", fn := fun _ => fun
  | [d1, d2, d3, d4] => { results := [.lit (.bool true)], args := [d1, d2, d3, d4] }
  | _ => none }
def mbcOffRow : OpenClaim := { program := "ytafmmffgenolaaa", sum := "be0c514d74f6758f0f5c2cedbd4638a5f6a4394fa47084aaee0fd2cd74139efa", func := "retrograde/retrogradelaw06.MbcOff", spec := "mbcOff", apart := false }
def MbcOffSaid : Prop := mbcOffRow.holds Try.pinned (OpenSpec.ofChange mbcOffSpec)

/-- ITS FALSE NEIGHBOUR: 'it returns false'. Refute it at one input. -/
def mbcOffWrong : ChangeSpec := { name := "mbcOff", fn := fun _ => fun
  | [d1, d2, d3, d4] => { results := [.lit (.bool false)], args := [d1, d2, d3, d4] }
  | _ => none }
def MbcOffWrongFalsely : Prop := mbcOffRow.holds Try.pinned (OpenSpec.ofChange mbcOffWrong)

/-- 'retrogradelaw06.MbcBanks': WHATEVER THE INPUT: true; the input reads as it did. -/
def mbcBanksSpec : ChangeSpec := { name := "mbcBanks", fn := fun _ => fun
  | [d1, d2] => { results := [.lit (.bool true)], args := [d1, d2] }
  | _ => none }
def mbcBanksRow : OpenClaim := { program := "ytafmmffgenolaaa", sum := "be0c514d74f6758f0f5c2cedbd4638a5f6a4394fa47084aaee0fd2cd74139efa", func := "retrograde/retrogradelaw06.MbcBanks", spec := "mbcBanks", apart := false }
def MbcBanksSaid : Prop := mbcBanksRow.holds Try.pinned (OpenSpec.ofChange mbcBanksSpec)

/-- ITS FALSE NEIGHBOUR: 'it returns false'. Refute it at one input. -/
def mbcBanksWrong : ChangeSpec := { name := "mbcBanks", fn := fun _ => fun
  | [d1, d2] => { results := [.lit (.bool false)], args := [d1, d2] }
  | _ => none }
def MbcBanksWrongFalsely : Prop := mbcBanksRow.holds Try.pinned (OpenSpec.ofChange mbcBanksWrong)

/-- 'retrogradelaw06.MbcHolds': WHATEVER THE INPUT: true; the input reads as it did. -/
def mbcHoldsSpec : ChangeSpec := { name := "mbcHolds", fn := fun _ => fun
  | [d1, d2] => { results := [.lit (.bool true)], args := [d1, d2] }
  | _ => none }
def mbcHoldsRow : OpenClaim := { program := "ytafmmffgenolaaa", sum := "be0c514d74f6758f0f5c2cedbd4638a5f6a4394fa47084aaee0fd2cd74139efa", func := "retrograde/retrogradelaw06.MbcHolds", spec := "mbcHolds", apart := false }
def MbcHoldsSaid : Prop := mbcHoldsRow.holds Try.pinned (OpenSpec.ofChange mbcHoldsSpec)

/-- ITS FALSE NEIGHBOUR: 'it returns false'. Refute it at one input. -/
def mbcHoldsWrong : ChangeSpec := { name := "mbcHolds", fn := fun _ => fun
  | [d1, d2] => { results := [.lit (.bool false)], args := [d1, d2] }
  | _ => none }
def MbcHoldsWrongFalsely : Prop := mbcHoldsRow.holds Try.pinned (OpenSpec.ofChange mbcHoldsWrong)

/-- 'retrogradelaw06.MbcAlone': WHATEVER THE INPUT: true; the input reads as it did. -/
def mbcAloneSpec : ChangeSpec := { name := "mbcAlone", fn := fun _ => fun
  | [d1, d2, d3, d4, d5] => { results := [.lit (.bool true)], args := [d1, d2, d3, d4, d5] }
  | _ => none }
def mbcAloneRow : OpenClaim := { program := "ytafmmffgenolaaa", sum := "be0c514d74f6758f0f5c2cedbd4638a5f6a4394fa47084aaee0fd2cd74139efa", func := "retrograde/retrogradelaw06.MbcAlone", spec := "mbcAlone", apart := false }
def MbcAloneSaid : Prop := mbcAloneRow.holds Try.pinned (OpenSpec.ofChange mbcAloneSpec)

/-- ITS FALSE NEIGHBOUR: 'it returns false'. Refute it at one input. -/
def mbcAloneWrong : ChangeSpec := { name := "mbcAlone", fn := fun _ => fun
  | [d1, d2, d3, d4, d5] => { results := [.lit (.bool false)], args := [d1, d2, d3, d4, d5] }
  | _ => none }
def MbcAloneWrongFalsely : Prop := mbcAloneRow.holds Try.pinned (OpenSpec.ofChange mbcAloneWrong)

/- THE SECOND FORM. 'bulk': how many values and letters a reading holds, each counted each time it is reached (what is shared counts as often as it is met; a slice's spare places count too). A statement '..UptoSaid' is the law's where the arguments, and the package variables that the reading takes, are together of bulk at most 1048576: NARROWER than '..Said'. Prove '..Said' where nothing that the law and all that it calls make is longer than what came in: it says more and counts as full. Else prove '..UptoSaid'. A law counts once. -/
mutual
def uptoBulk {H : Type} : DataW H → Nat
  | .lit (.string bytes) => bytes.length + 1
  | .lit _ => 1
  | .nil => 1
  | .ptr d => uptoBulk d + 1
  | .slice elems spare => uptoBulkAll elems + uptoBulkAll spare + 1
  | .agg parts => uptoBulkAll parts + 1
  | .iface _ d => uptoBulk d + 1
  | .map entries => uptoBulkEntries entries + 1
  | .held _ => 1
def uptoBulkAll {H : Type} : List (DataW H) → Nat
  | [] => 0
  | d :: r => uptoBulk d + uptoBulkAll r
def uptoBulkEntries {H : Type} : List (Lit × DataW H) → Nat
  | [] => 0
  | x :: r => uptoBulkEntry x + uptoBulkEntries r
def uptoBulkEntry {H : Type} : Lit × DataW H → Nat
  | (.string bytes, d) => bytes.length + uptoBulk d + 1
  | (_, d) => uptoBulk d + 1
 end
def uptoSmall : (H : Type) → List (DataW H) → Bool := fun _ ds => decide (uptoBulkAll ds ≤ 1048576)
def OpenSpec.upto (s : _root_.Go.ChangeSpec) : _root_.Go.OpenSpec := { _root_.Go.OpenSpec.ofChange s with cond := some uptoSmall }

/-- 'retrogradelaw06.MbcPlays', WHERE WHAT IT READS IS OF BULK AT MOST 1048576: true; the input reads as it did. -/
def mbcPlaysUptoRow : OpenClaim := { program := "ytafmmffgenolaaa", sum := "be0c514d74f6758f0f5c2cedbd4638a5f6a4394fa47084aaee0fd2cd74139efa", func := "retrograde/retrogradelaw06.MbcPlays", spec := "mbcPlays", apart := false, narrowed := true }
def MbcPlaysUptoSaid : Prop := mbcPlaysUptoRow.holds Try.pinned (OpenSpec.upto mbcPlaysSpec)

/-- 'retrogradelaw06.MbcThere', WHERE WHAT IT READS IS OF BULK AT MOST 1048576: true; the input reads as it did. -/
def mbcThereUptoRow : OpenClaim := { program := "ytafmmffgenolaaa", sum := "be0c514d74f6758f0f5c2cedbd4638a5f6a4394fa47084aaee0fd2cd74139efa", func := "retrograde/retrogradelaw06.MbcThere", spec := "mbcThere", apart := false, narrowed := true }
def MbcThereUptoSaid : Prop := mbcThereUptoRow.holds Try.pinned (OpenSpec.upto mbcThereSpec)

/-- 'retrogradelaw06.MbcOff', WHERE WHAT IT READS IS OF BULK AT MOST 1048576: true; the input reads as it did. -/
def mbcOffUptoRow : OpenClaim := { program := "ytafmmffgenolaaa", sum := "be0c514d74f6758f0f5c2cedbd4638a5f6a4394fa47084aaee0fd2cd74139efa", func := "retrograde/retrogradelaw06.MbcOff", spec := "mbcOff", apart := false, narrowed := true }
def MbcOffUptoSaid : Prop := mbcOffUptoRow.holds Try.pinned (OpenSpec.upto mbcOffSpec)

/-- 'retrogradelaw06.MbcBanks', WHERE WHAT IT READS IS OF BULK AT MOST 1048576: true; the input reads as it did. -/
def mbcBanksUptoRow : OpenClaim := { program := "ytafmmffgenolaaa", sum := "be0c514d74f6758f0f5c2cedbd4638a5f6a4394fa47084aaee0fd2cd74139efa", func := "retrograde/retrogradelaw06.MbcBanks", spec := "mbcBanks", apart := false, narrowed := true }
def MbcBanksUptoSaid : Prop := mbcBanksUptoRow.holds Try.pinned (OpenSpec.upto mbcBanksSpec)

/-- 'retrogradelaw06.MbcHolds', WHERE WHAT IT READS IS OF BULK AT MOST 1048576: true; the input reads as it did. -/
def mbcHoldsUptoRow : OpenClaim := { program := "ytafmmffgenolaaa", sum := "be0c514d74f6758f0f5c2cedbd4638a5f6a4394fa47084aaee0fd2cd74139efa", func := "retrograde/retrogradelaw06.MbcHolds", spec := "mbcHolds", apart := false, narrowed := true }
def MbcHoldsUptoSaid : Prop := mbcHoldsUptoRow.holds Try.pinned (OpenSpec.upto mbcHoldsSpec)

/-- 'retrogradelaw06.MbcAlone', WHERE WHAT IT READS IS OF BULK AT MOST 1048576: true; the input reads as it did. -/
def mbcAloneUptoRow : OpenClaim := { program := "ytafmmffgenolaaa", sum := "be0c514d74f6758f0f5c2cedbd4638a5f6a4394fa47084aaee0fd2cd74139efa", func := "retrograde/retrogradelaw06.MbcAlone", spec := "mbcAlone", apart := false, narrowed := true }
def MbcAloneUptoSaid : Prop := mbcAloneUptoRow.holds Try.pinned (OpenSpec.upto mbcAloneSpec)

end Rows
end Go.Proofs.Ytafmmffgenolaaa
