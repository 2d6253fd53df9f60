/-
  DERIVED. GIVEN WITH THE SEED: THE CARDS: each row of YtaggebfcfebomaaDoorRows.lean that lists a variable, with what it lists TIED to the program's text (the seventh form; the later family's looks); each row that meets fmt, with fmt's text TOLD by the authors' own Lean function (tested against real Go, not proved from fmt's source: count such statements apart). THE CARD IS WHAT COUNTS. Prove the row's statement (the work); the ties are given (YtaggebfcfebomaaDoorTie.lean); close each card by the builder's one call (the guide's Derived/Test/ToyasCard.lean, 'card_holds'). Laid BY PROGRAM, IN A SANDBOX (cutbox-door.mjs). By AI agents, Wed Nov 11 2026. No macro, syntax, notation, axiom, sorry.
-/
import Derived.Test.YtaggebfcfebomaaDoorRows
import GoSem.ClaimSeven
namespace Go.Proofs.YtaggebfcfebomaaDoor
namespace Rows

/-- THE TIED CARD OF 'retrogradelaw03.OpsDecode'. -/
def opsDecodeCard : Claim7 := { stood := { row := opsDecodeRow, standIns := [], harness := (true, "4968e4d1090e909e219a30e6bafac4a76c997be689b1841ba1a1a276f185d893"), looks := false }, kinds := [], alts := [], laidByText := true, laidKinds := [.data, .data, .data], laidTests := true, laidLooks := .later }
def OpsDecodeCardSaid : Prop := Claim7.holds Tryd.pinned (.plain (OpenSpec.ofChange opsDecodeSpec)) opsDecodeCard

/-- THE TIED CARD OF 'retrogradelaw03.OpsText'. -/
def opsTextCard : Claim7 := { stood := { row := opsTextRow, standIns := [], harness := (true, "4968e4d1090e909e219a30e6bafac4a76c997be689b1841ba1a1a276f185d893"), looks := false }, kinds := [], alts := [], laidByText := true, laidKinds := [.data, .data, .data], laidTests := true, laidLooks := .later }
def OpsTextCardSaid : Prop := Claim7.holds Tryd.pinned (.plain (OpenSpec.ofChange opsTextSpec)) opsTextCard

/-- THE TIED CARD OF 'retrogradelaw03.OpsSizes'. -/
def opsSizesCard : Claim7 := { stood := { row := opsSizesRow, standIns := [], harness := (true, "4968e4d1090e909e219a30e6bafac4a76c997be689b1841ba1a1a276f185d893"), looks := false }, kinds := [], alts := [], laidByText := true, laidKinds := [.data, .data, .data], laidTests := true, laidLooks := .later }
def OpsSizesCardSaid : Prop := Claim7.holds Tryd.pinned (.plain (OpenSpec.ofChange opsSizesSpec)) opsSizesCard

/-- THE TIED CARD OF 'retrogradelaw03.OpsApart'. -/
def opsApartCard : Claim7 := { stood := { row := opsApartRow, standIns := [], harness := (true, "4968e4d1090e909e219a30e6bafac4a76c997be689b1841ba1a1a276f185d893"), looks := false }, kinds := [], alts := [], laidByText := true, laidKinds := [.data, .data, .data], laidTests := true, laidLooks := .later }
def OpsApartCardSaid : Prop := Claim7.holds Tryd.pinned (.plain (OpenSpec.ofChange opsApartSpec)) opsApartCard

/-- THE TIED CARD OF 'retrogradelaw03.OpsNil'. -/
def opsNilCard : Claim7 := { stood := { row := opsNilRow, standIns := [], harness := (true, "4968e4d1090e909e219a30e6bafac4a76c997be689b1841ba1a1a276f185d893"), looks := false }, kinds := [], alts := [], laidByText := true, laidKinds := [.data, .data, .data], laidTests := true, laidLooks := .later }
def OpsNilCardSaid : Prop := Claim7.holds Tryd.pinned (.plain (OpenSpec.ofChange opsNilSpec)) opsNilCard

/-- THE TIED CARD OF 'retrogradelaw03.OpsWords'. -/
def opsWordsCard : Claim7 := { stood := { row := opsWordsRow, standIns := [], harness := (true, "4968e4d1090e909e219a30e6bafac4a76c997be689b1841ba1a1a276f185d893"), looks := false }, kinds := [], alts := [], laidByText := true, laidKinds := [.data, .data, .data], laidTests := true, laidLooks := .later }
def OpsWordsCardSaid : Prop := Claim7.holds Tryd.pinned (.plain (OpenSpec.ofChange opsWordsSpec)) opsWordsCard

/-- THE SECOND FORM's CARD OF 'retrogradelaw03.OpsDecode'. -/
def opsDecodeUptoCard : Claim7 := { stood := { row := opsDecodeUptoRow, standIns := [], harness := (true, "4968e4d1090e909e219a30e6bafac4a76c997be689b1841ba1a1a276f185d893"), looks := false }, kinds := [], alts := [], laidByText := true, laidKinds := [.data, .data, .data], laidTests := true, laidLooks := .later }
def OpsDecodeUptoCardSaid : Prop := Claim7.holds Tryd.pinned (.plain (OpenSpec.upto opsDecodeSpec)) opsDecodeUptoCard

/-- THE SECOND FORM's CARD OF 'retrogradelaw03.OpsText'. -/
def opsTextUptoCard : Claim7 := { stood := { row := opsTextUptoRow, standIns := [], harness := (true, "4968e4d1090e909e219a30e6bafac4a76c997be689b1841ba1a1a276f185d893"), looks := false }, kinds := [], alts := [], laidByText := true, laidKinds := [.data, .data, .data], laidTests := true, laidLooks := .later }
def OpsTextUptoCardSaid : Prop := Claim7.holds Tryd.pinned (.plain (OpenSpec.upto opsTextSpec)) opsTextUptoCard

/-- THE SECOND FORM's CARD OF 'retrogradelaw03.OpsSizes'. -/
def opsSizesUptoCard : Claim7 := { stood := { row := opsSizesUptoRow, standIns := [], harness := (true, "4968e4d1090e909e219a30e6bafac4a76c997be689b1841ba1a1a276f185d893"), looks := false }, kinds := [], alts := [], laidByText := true, laidKinds := [.data, .data, .data], laidTests := true, laidLooks := .later }
def OpsSizesUptoCardSaid : Prop := Claim7.holds Tryd.pinned (.plain (OpenSpec.upto opsSizesSpec)) opsSizesUptoCard

/-- THE SECOND FORM's CARD OF 'retrogradelaw03.OpsApart'. -/
def opsApartUptoCard : Claim7 := { stood := { row := opsApartUptoRow, standIns := [], harness := (true, "4968e4d1090e909e219a30e6bafac4a76c997be689b1841ba1a1a276f185d893"), looks := false }, kinds := [], alts := [], laidByText := true, laidKinds := [.data, .data, .data], laidTests := true, laidLooks := .later }
def OpsApartUptoCardSaid : Prop := Claim7.holds Tryd.pinned (.plain (OpenSpec.upto opsApartSpec)) opsApartUptoCard

/-- THE SECOND FORM's CARD OF 'retrogradelaw03.OpsNil'. -/
def opsNilUptoCard : Claim7 := { stood := { row := opsNilUptoRow, standIns := [], harness := (true, "4968e4d1090e909e219a30e6bafac4a76c997be689b1841ba1a1a276f185d893"), looks := false }, kinds := [], alts := [], laidByText := true, laidKinds := [.data, .data, .data], laidTests := true, laidLooks := .later }
def OpsNilUptoCardSaid : Prop := Claim7.holds Tryd.pinned (.plain (OpenSpec.upto opsNilSpec)) opsNilUptoCard

/-- THE SECOND FORM's CARD OF 'retrogradelaw03.OpsWords'. -/
def opsWordsUptoCard : Claim7 := { stood := { row := opsWordsUptoRow, standIns := [], harness := (true, "4968e4d1090e909e219a30e6bafac4a76c997be689b1841ba1a1a276f185d893"), looks := false }, kinds := [], alts := [], laidByText := true, laidKinds := [.data, .data, .data], laidTests := true, laidLooks := .later }
def OpsWordsUptoCardSaid : Prop := Claim7.holds Tryd.pinned (.plain (OpenSpec.upto opsWordsSpec)) opsWordsUptoCard
end Rows
end Go.Proofs.YtaggebfcfebomaaDoor
