/-
  DERIVED. GIVEN WITH THE SEED: THE CARDS: each row of YtmmcakeedejbnacDoorRows.lean that lists a variable, with what it lists TIED to the program's text (the seventh form; the later family's looks); each row that meets fmt, with fmt's text TOLD by the authors' own Lean function (tested against real Go, not proved from fmt's source: count such statements apart). THE CARD IS WHAT COUNTS. Prove the row's statement (the work); the ties are given (YtmmcakeedejbnacDoorTie.lean); close each card by the builder's one call (the guide's Derived/Test/ToyasCard.lean, 'card_holds'). Laid BY PROGRAM, IN A SANDBOX (cutbox-door.mjs). By AI agents, Wed Nov 11 2026. No macro, syntax, notation, axiom, sorry.
-/
import Derived.Test.YtmmcakeedejbnacDoorRows
import GoSem.ClaimSeven
namespace Go.Proofs.YtmmcakeedejbnacDoor
namespace Rows

/-- THE TIED CARD OF 'pneumatictop.TopNumbersSpans'. -/
def topNumbersSpansCard : Claim7 := { stood := { row := topNumbersSpansRow, standIns := [], harness := (true, "6c252487fdc9a96c066fb72b55e0c8001d2b75a7d638eda534f3906e5bf0de0e"), looks := false }, kinds := [], alts := [], laidByText := true, laidKinds := [.data, .pinned], laidTests := true, laidLooks := .later }
def TopNumbersSpansCardSaid : Prop := Claim7.holds Tryd.pinned (.plain (OpenSpec.ofChange topNumbersSpansSpec)) topNumbersSpansCard

/-- THE TIED CARD OF 'pneumatictop.TopNumbersSeries'. -/
def topNumbersSeriesCard : Claim7 := { stood := { row := topNumbersSeriesRow, standIns := [], harness := (true, "6c252487fdc9a96c066fb72b55e0c8001d2b75a7d638eda534f3906e5bf0de0e"), looks := false }, kinds := [], alts := [], laidByText := true, laidKinds := [.data, .data, .data, .data, .pinned], laidTests := true, laidLooks := .later }
def TopNumbersSeriesCardSaid : Prop := Claim7.holds Tryd.pinned (.plain (OpenSpec.ofChange topNumbersSeriesSpec)) topNumbersSeriesCard

/-- THE SECOND FORM's CARD OF 'pneumatictop.TopNumbersSpans'. -/
def topNumbersSpansUptoCard : Claim7 := { stood := { row := topNumbersSpansUptoRow, standIns := [], harness := (true, "6c252487fdc9a96c066fb72b55e0c8001d2b75a7d638eda534f3906e5bf0de0e"), looks := false }, kinds := [], alts := [], laidByText := true, laidKinds := [.data, .pinned], laidTests := true, laidLooks := .later }
def TopNumbersSpansUptoCardSaid : Prop := Claim7.holds Tryd.pinned (.plain (OpenSpec.upto topNumbersSpansSpec)) topNumbersSpansUptoCard

/-- THE SECOND FORM's CARD OF 'pneumatictop.TopNumbersSeries'. -/
def topNumbersSeriesUptoCard : Claim7 := { stood := { row := topNumbersSeriesUptoRow, standIns := [], harness := (true, "6c252487fdc9a96c066fb72b55e0c8001d2b75a7d638eda534f3906e5bf0de0e"), looks := false }, kinds := [], alts := [], laidByText := true, laidKinds := [.data, .data, .data, .data, .pinned], laidTests := true, laidLooks := .later }
def TopNumbersSeriesUptoCardSaid : Prop := Claim7.holds Tryd.pinned (.plain (OpenSpec.upto topNumbersSeriesSpec)) topNumbersSeriesUptoCard
end Rows
end Go.Proofs.YtmmcakeedejbnacDoor
