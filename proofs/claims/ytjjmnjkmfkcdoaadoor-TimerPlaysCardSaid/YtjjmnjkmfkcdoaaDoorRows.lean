/-
  NARROWER THAN 'FOR EVERY INPUT', by the rows' own cells (each row's printed sentence says how): TimerPlays: laid · TimerCounts: laid · TimerOver: laid · TimerSets: laid · TimerReads: laid · TimerDivides: laid.
  DERIVED. THE GIVEN ROWS OF THIS SEAT. 6 by the template 'for every input the law returns true; each argument reads behind the call as it read before'; 0 by the template 'total and deterministic' (their statements: YtjjmnjkmfkcdoaaDoorTotals.lean).
  GIVEN WITH THE SEED: the statements are not yours to turn. If you find one false, say at which input.
  Laid BY PROGRAM, IN A SANDBOX (cutbox-rows.mjs): the forced cells as the released guide's own fill.sh prints them over the translation 36b8dd1d30afa142… (all of the seat's roots in one cut). By AI agents, Wed Nov 11 2026. No macro, syntax, notation, axiom, sorry.
-/
import Derived.Test.YtjjmnjkmfkcdoaaDoorChecked
import GoSem.Claim
import GoSem.ClaimJoined
import GoSem.ClaimMapViews
import Derived.JoinedTies
import Derived.KernelRfl
namespace Go.Proofs.YtjjmnjkmfkcdoaaDoor
/- THE CELL 'sum', in the pinned program and in every row, IS THE sha256 OF THE DUMP (.gsa) THAT YtjjmnjkmfkcdoaaDoorProg.lean LOADS. Nothing in Lean hashes anything: it is a label: what it is worth is what the hold of that sum in a sandbox is worth. -/
noncomputable def Tryd.pinned : Pinned := { name := "ytjjmnjkmfkcdoaadoor", sum := "36b8dd1d30afa1420bf61064189717c6480376326c8edbdee2506118804e3ee5", checked := Tryd.checked }
namespace Rows
def none {H : Type} : Left H := { results := [], args := [] }

/- WHAT THE LISTED PACKAGE-LEVEL VARIABLES READ AS WHEN THE CALL BEGINS. Each datum BY PROGRAM (the guide's laid-datum.mjs) off the statement by which the dump's own 'gosem.cut.vars' lays the variable. In a bare row this is a premise. The card (YtjjmnjkmfkcdoaaDoorCards.lean) ties it to the program's text. -/
def laid_retrograde_timer_signalBits {H : Type} : DataW H := .agg [.lit (.int .u16 512), .lit (.int .u16 8), .lit (.int .u16 32), .lit (.int .u16 128)]

/-- 'retrogradelaw08.TimerPlays': WHATEVER THE INPUT: true; the input reads as it did. -/
def timerPlaysSpec : ChangeSpec := { name := "timerPlays", fn := fun _ => fun
  | [d1, d2] => { results := [.lit (.bool true)], args := [d1, d2] }
  | _ => none }
def timerPlaysRow : OpenClaim := { program := "ytjjmnjkmfkcdoaadoor", sum := "36b8dd1d30afa1420bf61064189717c6480376326c8edbdee2506118804e3ee5", func := "retrograde/retrogradelaw08.TimerPlays", spec := "timerPlays", unfollowed := true, recurses := true, named := ["retrograde/timer.signalBits"], apart := false, laid := [("retrograde/timer.signalBits", laid_retrograde_timer_signalBits)] }
def TimerPlaysSaid : Prop := timerPlaysRow.holds Tryd.pinned (OpenSpec.ofChange timerPlaysSpec)

/-- ITS FALSE NEIGHBOUR: 'it returns false'. Refute it at one input. -/
def timerPlaysWrong : ChangeSpec := { name := "timerPlays", fn := fun _ => fun
  | [d1, d2] => { results := [.lit (.bool false)], args := [d1, d2] }
  | _ => none }
def TimerPlaysWrongFalsely : Prop := timerPlaysRow.holds Tryd.pinned (OpenSpec.ofChange timerPlaysWrong)

/-- 'retrogradelaw08.TimerCounts': WHATEVER THE INPUT: true; the input reads as it did. -/
def timerCountsSpec : ChangeSpec := { name := "timerCounts", fn := fun _ => fun
  | [d1, d2, d3] => { results := [.lit (.bool true)], args := [d1, d2, d3] }
  | _ => none }
def timerCountsRow : OpenClaim := { program := "ytjjmnjkmfkcdoaadoor", sum := "36b8dd1d30afa1420bf61064189717c6480376326c8edbdee2506118804e3ee5", func := "retrograde/retrogradelaw08.TimerCounts", spec := "timerCounts", unfollowed := true, recurses := true, named := ["retrograde/timer.signalBits"], apart := false, laid := [("retrograde/timer.signalBits", laid_retrograde_timer_signalBits)] }
def TimerCountsSaid : Prop := timerCountsRow.holds Tryd.pinned (OpenSpec.ofChange timerCountsSpec)

/-- ITS FALSE NEIGHBOUR: 'it returns false'. Refute it at one input. -/
def timerCountsWrong : ChangeSpec := { name := "timerCounts", fn := fun _ => fun
  | [d1, d2, d3] => { results := [.lit (.bool false)], args := [d1, d2, d3] }
  | _ => none }
def TimerCountsWrongFalsely : Prop := timerCountsRow.holds Tryd.pinned (OpenSpec.ofChange timerCountsWrong)

/-- 'retrogradelaw08.TimerOver': WHATEVER THE INPUT: true; the input reads as it did. -/
def timerOverSpec : ChangeSpec := { name := "timerOver", fn := fun _ => fun
  | [d1, d2, d3, d4] => { results := [.lit (.bool true)], args := [d1, d2, d3, d4] }
  | _ => none }
def timerOverRow : OpenClaim := { program := "ytjjmnjkmfkcdoaadoor", sum := "36b8dd1d30afa1420bf61064189717c6480376326c8edbdee2506118804e3ee5", func := "retrograde/retrogradelaw08.TimerOver", spec := "timerOver", unfollowed := true, recurses := true, named := ["retrograde/timer.signalBits"], apart := false, laid := [("retrograde/timer.signalBits", laid_retrograde_timer_signalBits)] }
def TimerOverSaid : Prop := timerOverRow.holds Tryd.pinned (OpenSpec.ofChange timerOverSpec)

/-- ITS FALSE NEIGHBOUR: 'it returns false'. Refute it at one input. -/
def timerOverWrong : ChangeSpec := { name := "timerOver", fn := fun _ => fun
  | [d1, d2, d3, d4] => { results := [.lit (.bool false)], args := [d1, d2, d3, d4] }
  | _ => none }
def TimerOverWrongFalsely : Prop := timerOverRow.holds Tryd.pinned (OpenSpec.ofChange timerOverWrong)

/-- 'retrogradelaw08.TimerSets': WHATEVER THE INPUT: true; the input reads as it did. -/
def timerSetsSpec : ChangeSpec := { name := "timerSets", fn := fun _ => fun
  | [d1, d2] => { results := [.lit (.bool true)], args := [d1, d2] }
  | _ => none }
def timerSetsRow : OpenClaim := { program := "ytjjmnjkmfkcdoaadoor", sum := "36b8dd1d30afa1420bf61064189717c6480376326c8edbdee2506118804e3ee5", func := "retrograde/retrogradelaw08.TimerSets", spec := "timerSets", unfollowed := true, recurses := true, named := ["retrograde/timer.signalBits"], apart := false, laid := [("retrograde/timer.signalBits", laid_retrograde_timer_signalBits)] }
def TimerSetsSaid : Prop := timerSetsRow.holds Tryd.pinned (OpenSpec.ofChange timerSetsSpec)

/-- ITS FALSE NEIGHBOUR: 'it returns false'. Refute it at one input. -/
def timerSetsWrong : ChangeSpec := { name := "timerSets", fn := fun _ => fun
  | [d1, d2] => { results := [.lit (.bool false)], args := [d1, d2] }
  | _ => none }
def TimerSetsWrongFalsely : Prop := timerSetsRow.holds Tryd.pinned (OpenSpec.ofChange timerSetsWrong)

/-- 'retrogradelaw08.TimerReads': WHATEVER THE INPUT: true; the input reads as it did. -/
def timerReadsSpec : ChangeSpec := { name := "timerReads", fn := fun _ => fun
  | [d1, d2, d3, d4] => { results := [.lit (.bool true)], args := [d1, d2, d3, d4] }
  | _ => none }
def timerReadsRow : OpenClaim := { program := "ytjjmnjkmfkcdoaadoor", sum := "36b8dd1d30afa1420bf61064189717c6480376326c8edbdee2506118804e3ee5", func := "retrograde/retrogradelaw08.TimerReads", spec := "timerReads", unfollowed := true, recurses := true, named := ["retrograde/timer.signalBits"], apart := false, laid := [("retrograde/timer.signalBits", laid_retrograde_timer_signalBits)] }
def TimerReadsSaid : Prop := timerReadsRow.holds Tryd.pinned (OpenSpec.ofChange timerReadsSpec)

/-- ITS FALSE NEIGHBOUR: 'it returns false'. Refute it at one input. -/
def timerReadsWrong : ChangeSpec := { name := "timerReads", fn := fun _ => fun
  | [d1, d2, d3, d4] => { results := [.lit (.bool false)], args := [d1, d2, d3, d4] }
  | _ => none }
def TimerReadsWrongFalsely : Prop := timerReadsRow.holds Tryd.pinned (OpenSpec.ofChange timerReadsWrong)

/-- 'retrogradelaw08.TimerDivides': WHATEVER THE INPUT: true; the input reads as it did. -/
def timerDividesSpec : ChangeSpec := { name := "timerDivides", fn := fun _ => fun
  | [d1, d2] => { results := [.lit (.bool true)], args := [d1, d2] }
  | _ => none }
def timerDividesRow : OpenClaim := { program := "ytjjmnjkmfkcdoaadoor", sum := "36b8dd1d30afa1420bf61064189717c6480376326c8edbdee2506118804e3ee5", func := "retrograde/retrogradelaw08.TimerDivides", spec := "timerDivides", unfollowed := true, recurses := true, named := ["retrograde/timer.signalBits"], apart := false, laid := [("retrograde/timer.signalBits", laid_retrograde_timer_signalBits)] }
def TimerDividesSaid : Prop := timerDividesRow.holds Tryd.pinned (OpenSpec.ofChange timerDividesSpec)

/-- ITS FALSE NEIGHBOUR: 'it returns false'. Refute it at one input. -/
def timerDividesWrong : ChangeSpec := { name := "timerDivides", fn := fun _ => fun
  | [d1, d2] => { results := [.lit (.bool false)], args := [d1, d2] }
  | _ => none }
def TimerDividesWrongFalsely : Prop := timerDividesRow.holds Tryd.pinned (OpenSpec.ofChange timerDividesWrong)

/- THE SECOND FORM. 'bulk': how many values and letters a reading holds, each counted each time it is reached (what is shared counts as often as it is met; a slice's spare places count too). A statement '..UptoSaid' is the law's where the arguments, and the package variables that the reading takes, are together of bulk at most 1048576: NARROWER than '..Said'. Prove '..Said' where nothing that the law and all that it calls make is longer than what came in: it says more and counts as full. Else prove '..UptoSaid'. A law counts once. -/
mutual
def uptoBulk {H : Type} : DataW H → Nat
  | .lit (.string bytes) => bytes.length + 1
  | .lit _ => 1
  | .nil => 1
  | .ptr d => uptoBulk d + 1
  | .slice elems spare => uptoBulkAll elems + uptoBulkAll spare + 1
  | .agg parts => uptoBulkAll parts + 1
  | .iface _ d => uptoBulk d + 1
  | .map entries => uptoBulkEntries entries + 1
  | .held _ => 1
def uptoBulkAll {H : Type} : List (DataW H) → Nat
  | [] => 0
  | d :: r => uptoBulk d + uptoBulkAll r
def uptoBulkEntries {H : Type} : List (Lit × DataW H) → Nat
  | [] => 0
  | x :: r => uptoBulkEntry x + uptoBulkEntries r
def uptoBulkEntry {H : Type} : Lit × DataW H → Nat
  | (.string bytes, d) => bytes.length + uptoBulk d + 1
  | (_, d) => uptoBulk d + 1
 end
def uptoSmall : (H : Type) → List (DataW H) → Bool := fun _ ds => decide (uptoBulkAll ds ≤ 1048576)
def OpenSpec.upto (s : _root_.Go.ChangeSpec) : _root_.Go.OpenSpec := { _root_.Go.OpenSpec.ofChange s with cond := some uptoSmall }

/-- 'retrogradelaw08.TimerPlays', WHERE WHAT IT READS IS OF BULK AT MOST 1048576: true; the input reads as it did. -/
def timerPlaysUptoRow : OpenClaim := { program := "ytjjmnjkmfkcdoaadoor", sum := "36b8dd1d30afa1420bf61064189717c6480376326c8edbdee2506118804e3ee5", func := "retrograde/retrogradelaw08.TimerPlays", spec := "timerPlays", unfollowed := true, recurses := true, named := ["retrograde/timer.signalBits"], apart := false, laid := [("retrograde/timer.signalBits", laid_retrograde_timer_signalBits)], narrowed := true }
def TimerPlaysUptoSaid : Prop := timerPlaysUptoRow.holds Tryd.pinned (OpenSpec.upto timerPlaysSpec)

/-- 'retrogradelaw08.TimerCounts', WHERE WHAT IT READS IS OF BULK AT MOST 1048576: true; the input reads as it did. -/
def timerCountsUptoRow : OpenClaim := { program := "ytjjmnjkmfkcdoaadoor", sum := "36b8dd1d30afa1420bf61064189717c6480376326c8edbdee2506118804e3ee5", func := "retrograde/retrogradelaw08.TimerCounts", spec := "timerCounts", unfollowed := true, recurses := true, named := ["retrograde/timer.signalBits"], apart := false, laid := [("retrograde/timer.signalBits", laid_retrograde_timer_signalBits)], narrowed := true }
def TimerCountsUptoSaid : Prop := timerCountsUptoRow.holds Tryd.pinned (OpenSpec.upto timerCountsSpec)

/-- 'retrogradelaw08.TimerOver', WHERE WHAT IT READS IS OF BULK AT MOST 1048576: true; the input reads as it did. -/
def timerOverUptoRow : OpenClaim := { program := "ytjjmnjkmfkcdoaadoor", sum := "36b8dd1d30afa1420bf61064189717c6480376326c8edbdee2506118804e3ee5", func := "retrograde/retrogradelaw08.TimerOver", spec := "timerOver", unfollowed := true, recurses := true, named := ["retrograde/timer.signalBits"], apart := false, laid := [("retrograde/timer.signalBits", laid_retrograde_timer_signalBits)], narrowed := true }
def TimerOverUptoSaid : Prop := timerOverUptoRow.holds Tryd.pinned (OpenSpec.upto timerOverSpec)

/-- 'retrogradelaw08.TimerSets', WHERE WHAT IT READS IS OF BULK AT MOST 1048576: true; the input reads as it did. -/
def timerSetsUptoRow : OpenClaim := { program := "ytjjmnjkmfkcdoaadoor", sum := "36b8dd1d30afa1420bf61064189717c6480376326c8edbdee2506118804e3ee5", func := "retrograde/retrogradelaw08.TimerSets", spec := "timerSets", unfollowed := true, recurses := true, named := ["retrograde/timer.signalBits"], apart := false, laid := [("retrograde/timer.signalBits", laid_retrograde_timer_signalBits)], narrowed := true }
def TimerSetsUptoSaid : Prop := timerSetsUptoRow.holds Tryd.pinned (OpenSpec.upto timerSetsSpec)

/-- 'retrogradelaw08.TimerReads', WHERE WHAT IT READS IS OF BULK AT MOST 1048576: true; the input reads as it did. -/
def timerReadsUptoRow : OpenClaim := { program := "ytjjmnjkmfkcdoaadoor", sum := "36b8dd1d30afa1420bf61064189717c6480376326c8edbdee2506118804e3ee5", func := "retrograde/retrogradelaw08.TimerReads", spec := "timerReads", unfollowed := true, recurses := true, named := ["retrograde/timer.signalBits"], apart := false, laid := [("retrograde/timer.signalBits", laid_retrograde_timer_signalBits)], narrowed := true }
def TimerReadsUptoSaid : Prop := timerReadsUptoRow.holds Tryd.pinned (OpenSpec.upto timerReadsSpec)

/-- 'retrogradelaw08.TimerDivides', WHERE WHAT IT READS IS OF BULK AT MOST 1048576: true; the input reads as it did. -/
def timerDividesUptoRow : OpenClaim := { program := "ytjjmnjkmfkcdoaadoor", sum := "36b8dd1d30afa1420bf61064189717c6480376326c8edbdee2506118804e3ee5", func := "retrograde/retrogradelaw08.TimerDivides", spec := "timerDivides", unfollowed := true, recurses := true, named := ["retrograde/timer.signalBits"], apart := false, laid := [("retrograde/timer.signalBits", laid_retrograde_timer_signalBits)], narrowed := true }
def TimerDividesUptoSaid : Prop := timerDividesUptoRow.holds Tryd.pinned (OpenSpec.upto timerDividesSpec)

end Rows
end Go.Proofs.YtjjmnjkmfkcdoaaDoor
