/-
  DERIVED. GIVEN WITH THE SEED: THE CARDS: each row of YtldclpdmcopgnaaGreatDoorRows.lean that lists a variable, with what it lists TIED to the program's text (the seventh form; the later family's looks); each row that meets fmt, with fmt's text TOLD by the authors' own Lean function (tested against real Go, not proved from fmt's source: count such statements apart). THE CARD IS WHAT COUNTS. Prove the row's statement (the work); the ties are given (YtldclpdmcopgnaaGreatDoorTie.lean); close each card by the builder's one call (the guide's Derived/Test/ToyasCard.lean, 'card_holds'). Laid BY PROGRAM, IN A SANDBOX (cutbox-door.mjs). By AI agents, Wed Nov 11 2026. No macro, syntax, notation, axiom, sorry.
-/
import Derived.Test.YtldclpdmcopgnaaGreatDoorRows
import GoSem.ClaimSeven
namespace Go.Proofs.YtldclpdmcopgnaaGreatDoor
namespace Rows

/-- THE TIED CARD OF 'pneumaticlaw02.EnclosureChecks'. -/
def enclosureChecksCard : Claim7 := { stood := { row := enclosureChecksRow, standIns := [], harness := (true, "8c0afa6c9c2dfbf5bc03827b7983449686b7fb9ceba95898b248ac08472d3a7f"), looks := false }, kinds := [], alts := [], laidByText := true, laidKinds := [.data, .pinned], laidTests := true, laidLooks := .later }
def EnclosureChecksCardSaid : Prop := Claim7.holds Tryz.pinned (.plain (OpenSpec.ofChange enclosureChecksSpec)) enclosureChecksCard

/-- THE TIED CARD OF 'pneumaticlaw02.EnclosureCompares'. -/
def enclosureComparesCard : Claim7 := { stood := { row := enclosureComparesRow, standIns := [], harness := (true, "8c0afa6c9c2dfbf5bc03827b7983449686b7fb9ceba95898b248ac08472d3a7f"), looks := false }, kinds := [], alts := [], laidByText := true, laidKinds := [.data, .pinned], laidTests := true, laidLooks := .later }
def EnclosureComparesCardSaid : Prop := Claim7.holds Tryz.pinned (.plain (OpenSpec.ofChange enclosureComparesSpec)) enclosureComparesCard

/-- THE TIED CARD OF 'pneumaticlaw02.EnclosureComputes'. -/
def enclosureComputesCard : Claim7 := { stood := { row := enclosureComputesRow, standIns := [], harness := (true, "8c0afa6c9c2dfbf5bc03827b7983449686b7fb9ceba95898b248ac08472d3a7f"), looks := false }, kinds := [], alts := [], laidByText := true, laidKinds := [.data, .pinned], laidTests := true, laidLooks := .later }
def EnclosureComputesCardSaid : Prop := Claim7.holds Tryz.pinned (.plain (OpenSpec.ofChange enclosureComputesSpec)) enclosureComputesCard

/-- THE TIED CARD OF 'pneumaticlaw02.EnclosureSquares'. -/
def enclosureSquaresCard : Claim7 := { stood := { row := enclosureSquaresRow, standIns := [], harness := (true, "8c0afa6c9c2dfbf5bc03827b7983449686b7fb9ceba95898b248ac08472d3a7f"), looks := false }, kinds := [], alts := [], laidByText := true, laidKinds := [.data, .pinned], laidTests := true, laidLooks := .later }
def EnclosureSquaresCardSaid : Prop := Claim7.holds Tryz.pinned (.plain (OpenSpec.ofChange enclosureSquaresSpec)) enclosureSquaresCard

/-- THE TIED CARD OF 'pneumaticlaw02.EnclosureEncloses'. -/
def enclosureEnclosesCard : Claim7 := { stood := { row := enclosureEnclosesRow, standIns := [], harness := (true, "8c0afa6c9c2dfbf5bc03827b7983449686b7fb9ceba95898b248ac08472d3a7f"), looks := false }, kinds := [], alts := [], laidByText := true, laidKinds := [.data, .pinned], laidTests := true, laidLooks := .later }
def EnclosureEnclosesCardSaid : Prop := Claim7.holds Tryz.pinned (.plain (OpenSpec.ofChange enclosureEnclosesSpec)) enclosureEnclosesCard

/-- THE TIED CARD OF 'pneumaticlaw02.EnclosureNarrows'. -/
def enclosureNarrowsCard : Claim7 := { stood := { row := enclosureNarrowsRow, standIns := [], harness := (true, "8c0afa6c9c2dfbf5bc03827b7983449686b7fb9ceba95898b248ac08472d3a7f"), looks := false }, kinds := [], alts := [], laidByText := true, laidKinds := [.data, .pinned], laidTests := true, laidLooks := .later }
def EnclosureNarrowsCardSaid : Prop := Claim7.holds Tryz.pinned (.plain (OpenSpec.ofChange enclosureNarrowsSpec)) enclosureNarrowsCard

/-- THE TIED CARD OF 'pneumaticlaw02.EnclosureMeets'. -/
def enclosureMeetsCard : Claim7 := { stood := { row := enclosureMeetsRow, standIns := [], harness := (true, "8c0afa6c9c2dfbf5bc03827b7983449686b7fb9ceba95898b248ac08472d3a7f"), looks := false }, kinds := [], alts := [], laidByText := true, laidKinds := [.data, .pinned], laidTests := true, laidLooks := .later }
def EnclosureMeetsCardSaid : Prop := Claim7.holds Tryz.pinned (.plain (OpenSpec.ofChange enclosureMeetsSpec)) enclosureMeetsCard

/-- THE TIED CARD OF 'pneumaticlaw02.EnclosureSelf'. -/
def enclosureSelfCard : Claim7 := { stood := { row := enclosureSelfRow, standIns := [], harness := (true, "8c0afa6c9c2dfbf5bc03827b7983449686b7fb9ceba95898b248ac08472d3a7f"), looks := false }, kinds := [], alts := [], laidByText := true, laidKinds := [.data, .pinned], laidTests := true, laidLooks := .later }
def EnclosureSelfCardSaid : Prop := Claim7.holds Tryz.pinned (.plain (OpenSpec.ofChange enclosureSelfSpec)) enclosureSelfCard

/-- THE SECOND FORM's CARD OF 'pneumaticlaw02.EnclosureChecks'. -/
def enclosureChecksUptoCard : Claim7 := { stood := { row := enclosureChecksUptoRow, standIns := [], harness := (true, "8c0afa6c9c2dfbf5bc03827b7983449686b7fb9ceba95898b248ac08472d3a7f"), looks := false }, kinds := [], alts := [], laidByText := true, laidKinds := [.data, .pinned], laidTests := true, laidLooks := .later }
def EnclosureChecksUptoCardSaid : Prop := Claim7.holds Tryz.pinned (.plain (OpenSpec.upto enclosureChecksSpec)) enclosureChecksUptoCard

/-- THE SECOND FORM's CARD OF 'pneumaticlaw02.EnclosureCompares'. -/
def enclosureComparesUptoCard : Claim7 := { stood := { row := enclosureComparesUptoRow, standIns := [], harness := (true, "8c0afa6c9c2dfbf5bc03827b7983449686b7fb9ceba95898b248ac08472d3a7f"), looks := false }, kinds := [], alts := [], laidByText := true, laidKinds := [.data, .pinned], laidTests := true, laidLooks := .later }
def EnclosureComparesUptoCardSaid : Prop := Claim7.holds Tryz.pinned (.plain (OpenSpec.upto enclosureComparesSpec)) enclosureComparesUptoCard

/-- THE SECOND FORM's CARD OF 'pneumaticlaw02.EnclosureComputes'. -/
def enclosureComputesUptoCard : Claim7 := { stood := { row := enclosureComputesUptoRow, standIns := [], harness := (true, "8c0afa6c9c2dfbf5bc03827b7983449686b7fb9ceba95898b248ac08472d3a7f"), looks := false }, kinds := [], alts := [], laidByText := true, laidKinds := [.data, .pinned], laidTests := true, laidLooks := .later }
def EnclosureComputesUptoCardSaid : Prop := Claim7.holds Tryz.pinned (.plain (OpenSpec.upto enclosureComputesSpec)) enclosureComputesUptoCard

/-- THE SECOND FORM's CARD OF 'pneumaticlaw02.EnclosureSquares'. -/
def enclosureSquaresUptoCard : Claim7 := { stood := { row := enclosureSquaresUptoRow, standIns := [], harness := (true, "8c0afa6c9c2dfbf5bc03827b7983449686b7fb9ceba95898b248ac08472d3a7f"), looks := false }, kinds := [], alts := [], laidByText := true, laidKinds := [.data, .pinned], laidTests := true, laidLooks := .later }
def EnclosureSquaresUptoCardSaid : Prop := Claim7.holds Tryz.pinned (.plain (OpenSpec.upto enclosureSquaresSpec)) enclosureSquaresUptoCard

/-- THE SECOND FORM's CARD OF 'pneumaticlaw02.EnclosureEncloses'. -/
def enclosureEnclosesUptoCard : Claim7 := { stood := { row := enclosureEnclosesUptoRow, standIns := [], harness := (true, "8c0afa6c9c2dfbf5bc03827b7983449686b7fb9ceba95898b248ac08472d3a7f"), looks := false }, kinds := [], alts := [], laidByText := true, laidKinds := [.data, .pinned], laidTests := true, laidLooks := .later }
def EnclosureEnclosesUptoCardSaid : Prop := Claim7.holds Tryz.pinned (.plain (OpenSpec.upto enclosureEnclosesSpec)) enclosureEnclosesUptoCard

/-- THE SECOND FORM's CARD OF 'pneumaticlaw02.EnclosureNarrows'. -/
def enclosureNarrowsUptoCard : Claim7 := { stood := { row := enclosureNarrowsUptoRow, standIns := [], harness := (true, "8c0afa6c9c2dfbf5bc03827b7983449686b7fb9ceba95898b248ac08472d3a7f"), looks := false }, kinds := [], alts := [], laidByText := true, laidKinds := [.data, .pinned], laidTests := true, laidLooks := .later }
def EnclosureNarrowsUptoCardSaid : Prop := Claim7.holds Tryz.pinned (.plain (OpenSpec.upto enclosureNarrowsSpec)) enclosureNarrowsUptoCard

/-- THE SECOND FORM's CARD OF 'pneumaticlaw02.EnclosureMeets'. -/
def enclosureMeetsUptoCard : Claim7 := { stood := { row := enclosureMeetsUptoRow, standIns := [], harness := (true, "8c0afa6c9c2dfbf5bc03827b7983449686b7fb9ceba95898b248ac08472d3a7f"), looks := false }, kinds := [], alts := [], laidByText := true, laidKinds := [.data, .pinned], laidTests := true, laidLooks := .later }
def EnclosureMeetsUptoCardSaid : Prop := Claim7.holds Tryz.pinned (.plain (OpenSpec.upto enclosureMeetsSpec)) enclosureMeetsUptoCard

/-- THE SECOND FORM's CARD OF 'pneumaticlaw02.EnclosureSelf'. -/
def enclosureSelfUptoCard : Claim7 := { stood := { row := enclosureSelfUptoRow, standIns := [], harness := (true, "8c0afa6c9c2dfbf5bc03827b7983449686b7fb9ceba95898b248ac08472d3a7f"), looks := false }, kinds := [], alts := [], laidByText := true, laidKinds := [.data, .pinned], laidTests := true, laidLooks := .later }
def EnclosureSelfUptoCardSaid : Prop := Claim7.holds Tryz.pinned (.plain (OpenSpec.upto enclosureSelfSpec)) enclosureSelfUptoCard
end Rows
end Go.Proofs.YtldclpdmcopgnaaGreatDoor
