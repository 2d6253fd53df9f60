/-
  DERIVED. GIVEN WITH THE SEED: THE CARDS: each row of YtjjmnjkmfkcdoaaDoorRows.lean that lists a variable, with what it lists TIED to the program's text (the seventh form; the later family's looks); each row that meets fmt, with fmt's text TOLD by the authors' own Lean function (tested against real Go, not proved from fmt's source: count such statements apart). THE CARD IS WHAT COUNTS. Prove the row's statement (the work); the ties are given (YtjjmnjkmfkcdoaaDoorTie.lean); close each card by the builder's one call (the guide's Derived/Test/ToyasCard.lean, 'card_holds'). Laid BY PROGRAM, IN A SANDBOX (cutbox-door.mjs). By AI agents, Wed Nov 11 2026. No macro, syntax, notation, axiom, sorry.
-/
import Derived.Test.YtjjmnjkmfkcdoaaDoorRows
import GoSem.ClaimSeven
namespace Go.Proofs.YtjjmnjkmfkcdoaaDoor
namespace Rows

/-- THE TIED CARD OF 'retrogradelaw08.TimerPlays'. -/
def timerPlaysCard : Claim7 := { stood := { row := timerPlaysRow, standIns := [], harness := (true, "c7346f5006f492e420156f36c173f06129e682bbb520479ee78bc8cc869ff93d"), looks := false }, kinds := [], alts := [], laidByText := true, laidKinds := [.data], laidTests := true, laidLooks := .later }
def TimerPlaysCardSaid : Prop := Claim7.holds Tryd.pinned (.plain (OpenSpec.ofChange timerPlaysSpec)) timerPlaysCard

/-- THE TIED CARD OF 'retrogradelaw08.TimerCounts'. -/
def timerCountsCard : Claim7 := { stood := { row := timerCountsRow, standIns := [], harness := (true, "c7346f5006f492e420156f36c173f06129e682bbb520479ee78bc8cc869ff93d"), looks := false }, kinds := [], alts := [], laidByText := true, laidKinds := [.data], laidTests := true, laidLooks := .later }
def TimerCountsCardSaid : Prop := Claim7.holds Tryd.pinned (.plain (OpenSpec.ofChange timerCountsSpec)) timerCountsCard

/-- THE TIED CARD OF 'retrogradelaw08.TimerOver'. -/
def timerOverCard : Claim7 := { stood := { row := timerOverRow, standIns := [], harness := (true, "c7346f5006f492e420156f36c173f06129e682bbb520479ee78bc8cc869ff93d"), looks := false }, kinds := [], alts := [], laidByText := true, laidKinds := [.data], laidTests := true, laidLooks := .later }
def TimerOverCardSaid : Prop := Claim7.holds Tryd.pinned (.plain (OpenSpec.ofChange timerOverSpec)) timerOverCard

/-- THE TIED CARD OF 'retrogradelaw08.TimerSets'. -/
def timerSetsCard : Claim7 := { stood := { row := timerSetsRow, standIns := [], harness := (true, "c7346f5006f492e420156f36c173f06129e682bbb520479ee78bc8cc869ff93d"), looks := false }, kinds := [], alts := [], laidByText := true, laidKinds := [.data], laidTests := true, laidLooks := .later }
def TimerSetsCardSaid : Prop := Claim7.holds Tryd.pinned (.plain (OpenSpec.ofChange timerSetsSpec)) timerSetsCard

/-- THE TIED CARD OF 'retrogradelaw08.TimerReads'. -/
def timerReadsCard : Claim7 := { stood := { row := timerReadsRow, standIns := [], harness := (true, "c7346f5006f492e420156f36c173f06129e682bbb520479ee78bc8cc869ff93d"), looks := false }, kinds := [], alts := [], laidByText := true, laidKinds := [.data], laidTests := true, laidLooks := .later }
def TimerReadsCardSaid : Prop := Claim7.holds Tryd.pinned (.plain (OpenSpec.ofChange timerReadsSpec)) timerReadsCard

/-- THE TIED CARD OF 'retrogradelaw08.TimerDivides'. -/
def timerDividesCard : Claim7 := { stood := { row := timerDividesRow, standIns := [], harness := (true, "c7346f5006f492e420156f36c173f06129e682bbb520479ee78bc8cc869ff93d"), looks := false }, kinds := [], alts := [], laidByText := true, laidKinds := [.data], laidTests := true, laidLooks := .later }
def TimerDividesCardSaid : Prop := Claim7.holds Tryd.pinned (.plain (OpenSpec.ofChange timerDividesSpec)) timerDividesCard

/-- THE SECOND FORM's CARD OF 'retrogradelaw08.TimerPlays'. -/
def timerPlaysUptoCard : Claim7 := { stood := { row := timerPlaysUptoRow, standIns := [], harness := (true, "c7346f5006f492e420156f36c173f06129e682bbb520479ee78bc8cc869ff93d"), looks := false }, kinds := [], alts := [], laidByText := true, laidKinds := [.data], laidTests := true, laidLooks := .later }
def TimerPlaysUptoCardSaid : Prop := Claim7.holds Tryd.pinned (.plain (OpenSpec.upto timerPlaysSpec)) timerPlaysUptoCard

/-- THE SECOND FORM's CARD OF 'retrogradelaw08.TimerCounts'. -/
def timerCountsUptoCard : Claim7 := { stood := { row := timerCountsUptoRow, standIns := [], harness := (true, "c7346f5006f492e420156f36c173f06129e682bbb520479ee78bc8cc869ff93d"), looks := false }, kinds := [], alts := [], laidByText := true, laidKinds := [.data], laidTests := true, laidLooks := .later }
def TimerCountsUptoCardSaid : Prop := Claim7.holds Tryd.pinned (.plain (OpenSpec.upto timerCountsSpec)) timerCountsUptoCard

/-- THE SECOND FORM's CARD OF 'retrogradelaw08.TimerOver'. -/
def timerOverUptoCard : Claim7 := { stood := { row := timerOverUptoRow, standIns := [], harness := (true, "c7346f5006f492e420156f36c173f06129e682bbb520479ee78bc8cc869ff93d"), looks := false }, kinds := [], alts := [], laidByText := true, laidKinds := [.data], laidTests := true, laidLooks := .later }
def TimerOverUptoCardSaid : Prop := Claim7.holds Tryd.pinned (.plain (OpenSpec.upto timerOverSpec)) timerOverUptoCard

/-- THE SECOND FORM's CARD OF 'retrogradelaw08.TimerSets'. -/
def timerSetsUptoCard : Claim7 := { stood := { row := timerSetsUptoRow, standIns := [], harness := (true, "c7346f5006f492e420156f36c173f06129e682bbb520479ee78bc8cc869ff93d"), looks := false }, kinds := [], alts := [], laidByText := true, laidKinds := [.data], laidTests := true, laidLooks := .later }
def TimerSetsUptoCardSaid : Prop := Claim7.holds Tryd.pinned (.plain (OpenSpec.upto timerSetsSpec)) timerSetsUptoCard

/-- THE SECOND FORM's CARD OF 'retrogradelaw08.TimerReads'. -/
def timerReadsUptoCard : Claim7 := { stood := { row := timerReadsUptoRow, standIns := [], harness := (true, "c7346f5006f492e420156f36c173f06129e682bbb520479ee78bc8cc869ff93d"), looks := false }, kinds := [], alts := [], laidByText := true, laidKinds := [.data], laidTests := true, laidLooks := .later }
def TimerReadsUptoCardSaid : Prop := Claim7.holds Tryd.pinned (.plain (OpenSpec.upto timerReadsSpec)) timerReadsUptoCard

/-- THE SECOND FORM's CARD OF 'retrogradelaw08.TimerDivides'. -/
def timerDividesUptoCard : Claim7 := { stood := { row := timerDividesUptoRow, standIns := [], harness := (true, "c7346f5006f492e420156f36c173f06129e682bbb520479ee78bc8cc869ff93d"), looks := false }, kinds := [], alts := [], laidByText := true, laidKinds := [.data], laidTests := true, laidLooks := .later }
def TimerDividesUptoCardSaid : Prop := Claim7.holds Tryd.pinned (.plain (OpenSpec.upto timerDividesSpec)) timerDividesUptoCard
end Rows
end Go.Proofs.YtjjmnjkmfkcdoaaDoor
