/-
  DERIVED. GIVEN WITH THE SEED: THE CARDS: each row of YtifhajdcfjiaiaaDoorRows.lean that lists a variable, with what it lists TIED to the program's text (the seventh form; the later family's looks); each row that meets fmt, with fmt's text TOLD by the authors' own Lean function (tested against real Go, not proved from fmt's source: count such statements apart). THE CARD IS WHAT COUNTS. Prove the row's statement (the work); the ties are given (YtifhajdcfjiaiaaDoorTie.lean); close each card by the builder's one call (the guide's Derived/Test/ToyasCard.lean, 'card_holds'). Laid BY PROGRAM, IN A SANDBOX (cutbox-door.mjs). By AI agents, Wed Nov 11 2026. No macro, syntax, notation, axiom, sorry.
-/
import Derived.Test.YtifhajdcfjiaiaaDoorRows
import GoSem.ClaimSeven
namespace Go.Proofs.YtifhajdcfjiaiaaDoor
namespace Rows

/-- THE TIED CARD OF 'retrogradelaw05.HeaderTells'. -/
def headerTellsCard : Claim7 := { stood := { row := headerTellsRow, standIns := [], harness := (true, "1a6d924639c250714004bb964947c81807e36c740ccd1016d94cf1f3991a7cdd"), looks := false }, kinds := [], alts := [], laidByText := true, laidKinds := [.data, .data], laidTests := true, laidLooks := .later }
def HeaderTellsCardSaid : Prop := Claim7.holds Tryd.pinned (.plain (OpenSpec.ofChange headerTellsSpec)) headerTellsCard

/-- THE TIED CARD OF 'retrogradelaw05.HeaderBytes'. -/
def headerBytesCard : Claim7 := { stood := { row := headerBytesRow, standIns := [], harness := (true, "1a6d924639c250714004bb964947c81807e36c740ccd1016d94cf1f3991a7cdd"), looks := false }, kinds := [], alts := [], laidByText := true, laidKinds := [.data, .data], laidTests := true, laidLooks := .later }
def HeaderBytesCardSaid : Prop := Claim7.holds Tryd.pinned (.plain (OpenSpec.ofChange headerBytesSpec)) headerBytesCard

/-- THE TIED CARD OF 'retrogradelaw05.HeaderSums'. -/
def headerSumsCard : Claim7 := { stood := { row := headerSumsRow, standIns := [], harness := (true, "1a6d924639c250714004bb964947c81807e36c740ccd1016d94cf1f3991a7cdd"), looks := false }, kinds := [], alts := [], laidByText := true, laidKinds := [.data, .data], laidTests := true, laidLooks := .later }
def HeaderSumsCardSaid : Prop := Claim7.holds Tryd.pinned (.plain (OpenSpec.ofChange headerSumsSpec)) headerSumsCard

/-- THE TIED CARD OF 'retrogradelaw05.HeaderRest'. -/
def headerRestCard : Claim7 := { stood := { row := headerRestRow, standIns := [], harness := (true, "1a6d924639c250714004bb964947c81807e36c740ccd1016d94cf1f3991a7cdd"), looks := false }, kinds := [], alts := [], laidByText := true, laidKinds := [.data, .data], laidTests := true, laidLooks := .later }
def HeaderRestCardSaid : Prop := Claim7.holds Tryd.pinned (.plain (OpenSpec.ofChange headerRestSpec)) headerRestCard

/-- THE TIED CARD OF 'retrogradelaw05.HeaderWhole'. -/
def headerWholeCard : Claim7 := { stood := { row := headerWholeRow, standIns := [], harness := (true, "1a6d924639c250714004bb964947c81807e36c740ccd1016d94cf1f3991a7cdd"), looks := false }, kinds := [], alts := [], laidByText := true, laidKinds := [.data, .data], laidTests := true, laidLooks := .later }
def HeaderWholeCardSaid : Prop := Claim7.holds Tryd.pinned (.plain (OpenSpec.ofChange headerWholeSpec)) headerWholeCard

/-- THE TIED CARD OF 'retrogradelaw05.HeaderShort'. -/
def headerShortCard : Claim7 := { stood := { row := headerShortRow, standIns := [], harness := (true, "1a6d924639c250714004bb964947c81807e36c740ccd1016d94cf1f3991a7cdd"), looks := false }, kinds := [], alts := [], laidByText := true, laidKinds := [.data, .data], laidTests := true, laidLooks := .later }
def HeaderShortCardSaid : Prop := Claim7.holds Tryd.pinned (.plain (OpenSpec.ofChange headerShortSpec)) headerShortCard

/-- THE SECOND FORM's CARD OF 'retrogradelaw05.HeaderTells'. -/
def headerTellsUptoCard : Claim7 := { stood := { row := headerTellsUptoRow, standIns := [], harness := (true, "1a6d924639c250714004bb964947c81807e36c740ccd1016d94cf1f3991a7cdd"), looks := false }, kinds := [], alts := [], laidByText := true, laidKinds := [.data, .data], laidTests := true, laidLooks := .later }
def HeaderTellsUptoCardSaid : Prop := Claim7.holds Tryd.pinned (.plain (OpenSpec.upto headerTellsSpec)) headerTellsUptoCard

/-- THE SECOND FORM's CARD OF 'retrogradelaw05.HeaderBytes'. -/
def headerBytesUptoCard : Claim7 := { stood := { row := headerBytesUptoRow, standIns := [], harness := (true, "1a6d924639c250714004bb964947c81807e36c740ccd1016d94cf1f3991a7cdd"), looks := false }, kinds := [], alts := [], laidByText := true, laidKinds := [.data, .data], laidTests := true, laidLooks := .later }
def HeaderBytesUptoCardSaid : Prop := Claim7.holds Tryd.pinned (.plain (OpenSpec.upto headerBytesSpec)) headerBytesUptoCard

/-- THE SECOND FORM's CARD OF 'retrogradelaw05.HeaderSums'. -/
def headerSumsUptoCard : Claim7 := { stood := { row := headerSumsUptoRow, standIns := [], harness := (true, "1a6d924639c250714004bb964947c81807e36c740ccd1016d94cf1f3991a7cdd"), looks := false }, kinds := [], alts := [], laidByText := true, laidKinds := [.data, .data], laidTests := true, laidLooks := .later }
def HeaderSumsUptoCardSaid : Prop := Claim7.holds Tryd.pinned (.plain (OpenSpec.upto headerSumsSpec)) headerSumsUptoCard

/-- THE SECOND FORM's CARD OF 'retrogradelaw05.HeaderRest'. -/
def headerRestUptoCard : Claim7 := { stood := { row := headerRestUptoRow, standIns := [], harness := (true, "1a6d924639c250714004bb964947c81807e36c740ccd1016d94cf1f3991a7cdd"), looks := false }, kinds := [], alts := [], laidByText := true, laidKinds := [.data, .data], laidTests := true, laidLooks := .later }
def HeaderRestUptoCardSaid : Prop := Claim7.holds Tryd.pinned (.plain (OpenSpec.upto headerRestSpec)) headerRestUptoCard

/-- THE SECOND FORM's CARD OF 'retrogradelaw05.HeaderWhole'. -/
def headerWholeUptoCard : Claim7 := { stood := { row := headerWholeUptoRow, standIns := [], harness := (true, "1a6d924639c250714004bb964947c81807e36c740ccd1016d94cf1f3991a7cdd"), looks := false }, kinds := [], alts := [], laidByText := true, laidKinds := [.data, .data], laidTests := true, laidLooks := .later }
def HeaderWholeUptoCardSaid : Prop := Claim7.holds Tryd.pinned (.plain (OpenSpec.upto headerWholeSpec)) headerWholeUptoCard

/-- THE SECOND FORM's CARD OF 'retrogradelaw05.HeaderShort'. -/
def headerShortUptoCard : Claim7 := { stood := { row := headerShortUptoRow, standIns := [], harness := (true, "1a6d924639c250714004bb964947c81807e36c740ccd1016d94cf1f3991a7cdd"), looks := false }, kinds := [], alts := [], laidByText := true, laidKinds := [.data, .data], laidTests := true, laidLooks := .later }
def HeaderShortUptoCardSaid : Prop := Claim7.holds Tryd.pinned (.plain (OpenSpec.upto headerShortSpec)) headerShortUptoCard
end Rows
end Go.Proofs.YtifhajdcfjiaiaaDoor
