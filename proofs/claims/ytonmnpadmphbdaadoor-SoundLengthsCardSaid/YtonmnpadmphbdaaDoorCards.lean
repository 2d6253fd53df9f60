/-
  DERIVED. GIVEN WITH THE SEED: THE CARDS: each row of YtonmnpadmphbdaaDoorRows.lean that lists a variable, with what it lists TIED to the program's text (the seventh form; the later family's looks); each row that meets fmt, with fmt's text TOLD by the authors' own Lean function (tested against real Go, not proved from fmt's source: count such statements apart). THE CARD IS WHAT COUNTS. Prove the row's statement (the work); the ties are given (YtonmnpadmphbdaaDoorTie.lean); close each card by the builder's one call (the guide's Derived/Test/ToyasCard.lean, 'card_holds'). Laid BY PROGRAM, IN A SANDBOX (cutbox-door.mjs). By AI agents, Wed Nov 11 2026. No macro, syntax, notation, axiom, sorry.
-/
import Derived.Test.YtonmnpadmphbdaaDoorRows
import GoSem.ClaimSeven
namespace Go.Proofs.YtonmnpadmphbdaaDoor
namespace Rows

/-- THE TIED CARD OF 'retrogradelaw12.SoundHolds'. -/
def soundHoldsCard : Claim7 := { stood := { row := soundHoldsRow, standIns := [], harness := (true, "87a7bab72a749c2e9e390b0356be564e5ef64f68fd4d5ab867f4fcd6dceb6b0f"), looks := false }, kinds := [], alts := [], laidByText := true, laidKinds := [.data], laidTests := true, laidLooks := .later }
def SoundHoldsCardSaid : Prop := Claim7.holds Tryd.pinned (.plain (OpenSpec.ofChange soundHoldsSpec)) soundHoldsCard

/-- THE TIED CARD OF 'retrogradelaw12.SoundLengths'. -/
def soundLengthsCard : Claim7 := { stood := { row := soundLengthsRow, standIns := [], harness := (true, "87a7bab72a749c2e9e390b0356be564e5ef64f68fd4d5ab867f4fcd6dceb6b0f"), looks := false }, kinds := [], alts := [], laidByText := true, laidKinds := [.data], laidTests := true, laidLooks := .later }
def SoundLengthsCardSaid : Prop := Claim7.holds Tryd.pinned (.plain (OpenSpec.ofChange soundLengthsSpec)) soundLengthsCard

/-- THE TIED CARD OF 'retrogradelaw12.SoundOff'. -/
def soundOffCard : Claim7 := { stood := { row := soundOffRow, standIns := [], harness := (true, "87a7bab72a749c2e9e390b0356be564e5ef64f68fd4d5ab867f4fcd6dceb6b0f"), looks := false }, kinds := [], alts := [], laidByText := true, laidKinds := [.data], laidTests := true, laidLooks := .later }
def SoundOffCardSaid : Prop := Claim7.holds Tryd.pinned (.plain (OpenSpec.ofChange soundOffSpec)) soundOffCard

/-- THE TIED CARD OF 'retrogradelaw12.SoundReads'. -/
def soundReadsCard : Claim7 := { stood := { row := soundReadsRow, standIns := [], harness := (true, "87a7bab72a749c2e9e390b0356be564e5ef64f68fd4d5ab867f4fcd6dceb6b0f"), looks := false }, kinds := [], alts := [], laidByText := true, laidKinds := [.data], laidTests := true, laidLooks := .later }
def SoundReadsCardSaid : Prop := Claim7.holds Tryd.pinned (.plain (OpenSpec.ofChange soundReadsSpec)) soundReadsCard

/-- THE TIED CARD OF 'retrogradelaw12.SoundLevels'. -/
def soundLevelsCard : Claim7 := { stood := { row := soundLevelsRow, standIns := [], harness := (true, "87a7bab72a749c2e9e390b0356be564e5ef64f68fd4d5ab867f4fcd6dceb6b0f"), looks := false }, kinds := [], alts := [], laidByText := true, laidKinds := [.data], laidTests := true, laidLooks := .later }
def SoundLevelsCardSaid : Prop := Claim7.holds Tryd.pinned (.plain (OpenSpec.ofChange soundLevelsSpec)) soundLevelsCard

/-- THE SECOND FORM's CARD OF 'retrogradelaw12.SoundHolds'. -/
def soundHoldsUptoCard : Claim7 := { stood := { row := soundHoldsUptoRow, standIns := [], harness := (true, "87a7bab72a749c2e9e390b0356be564e5ef64f68fd4d5ab867f4fcd6dceb6b0f"), looks := false }, kinds := [], alts := [], laidByText := true, laidKinds := [.data], laidTests := true, laidLooks := .later }
def SoundHoldsUptoCardSaid : Prop := Claim7.holds Tryd.pinned (.plain (OpenSpec.upto soundHoldsSpec)) soundHoldsUptoCard

/-- THE SECOND FORM's CARD OF 'retrogradelaw12.SoundLengths'. -/
def soundLengthsUptoCard : Claim7 := { stood := { row := soundLengthsUptoRow, standIns := [], harness := (true, "87a7bab72a749c2e9e390b0356be564e5ef64f68fd4d5ab867f4fcd6dceb6b0f"), looks := false }, kinds := [], alts := [], laidByText := true, laidKinds := [.data], laidTests := true, laidLooks := .later }
def SoundLengthsUptoCardSaid : Prop := Claim7.holds Tryd.pinned (.plain (OpenSpec.upto soundLengthsSpec)) soundLengthsUptoCard

/-- THE SECOND FORM's CARD OF 'retrogradelaw12.SoundOff'. -/
def soundOffUptoCard : Claim7 := { stood := { row := soundOffUptoRow, standIns := [], harness := (true, "87a7bab72a749c2e9e390b0356be564e5ef64f68fd4d5ab867f4fcd6dceb6b0f"), looks := false }, kinds := [], alts := [], laidByText := true, laidKinds := [.data], laidTests := true, laidLooks := .later }
def SoundOffUptoCardSaid : Prop := Claim7.holds Tryd.pinned (.plain (OpenSpec.upto soundOffSpec)) soundOffUptoCard

/-- THE SECOND FORM's CARD OF 'retrogradelaw12.SoundReads'. -/
def soundReadsUptoCard : Claim7 := { stood := { row := soundReadsUptoRow, standIns := [], harness := (true, "87a7bab72a749c2e9e390b0356be564e5ef64f68fd4d5ab867f4fcd6dceb6b0f"), looks := false }, kinds := [], alts := [], laidByText := true, laidKinds := [.data], laidTests := true, laidLooks := .later }
def SoundReadsUptoCardSaid : Prop := Claim7.holds Tryd.pinned (.plain (OpenSpec.upto soundReadsSpec)) soundReadsUptoCard

/-- THE SECOND FORM's CARD OF 'retrogradelaw12.SoundLevels'. -/
def soundLevelsUptoCard : Claim7 := { stood := { row := soundLevelsUptoRow, standIns := [], harness := (true, "87a7bab72a749c2e9e390b0356be564e5ef64f68fd4d5ab867f4fcd6dceb6b0f"), looks := false }, kinds := [], alts := [], laidByText := true, laidKinds := [.data], laidTests := true, laidLooks := .later }
def SoundLevelsUptoCardSaid : Prop := Claim7.holds Tryd.pinned (.plain (OpenSpec.upto soundLevelsSpec)) soundLevelsUptoCard
end Rows
end Go.Proofs.YtonmnpadmphbdaaDoor
