/-
  DERIVED. GIVEN WITH THE SEED: THE CARDS: each row of YtahjdmdgkkienaaGreatDoorRows.lean that lists a variable, with what it lists TIED to the program's text (the seventh form; the later family's looks); each row that meets fmt, with fmt's text TOLD by the authors' own Lean function (tested against real Go, not proved from fmt's source: count such statements apart). THE CARD IS WHAT COUNTS. Prove the row's statement (the work); the ties are given (YtahjdmdgkkienaaGreatDoorTie.lean); close each card by the builder's one call (the guide's Derived/Test/ToyasCard.lean, 'card_holds'). Laid BY PROGRAM, IN A SANDBOX (cutbox-door.mjs). By AI agents, Wed Nov 11 2026. No macro, syntax, notation, axiom, sorry.
-/
import Derived.Test.YtahjdmdgkkienaaGreatDoorRows
import GoSem.ClaimSeven
namespace Go.Proofs.YtahjdmdgkkienaaGreatDoor
namespace Rows

/-- THE TIED CARD OF 'pneumaticlaw08.HazardTables'. -/
def hazardTablesCard : Claim7 := { stood := { row := hazardTablesRow, standIns := [], harness := (true, "a61efd8849625d4f5834c55f879357c63e1e2a3009dfbde0f84127e4f29eeb89"), looks := false }, kinds := [], alts := [], laidByText := true, laidKinds := [.data, .data, .data, .data], laidTests := true, laidLooks := .later }
def HazardTablesCardSaid : Prop := Claim7.holds Tryz.pinned (.plain (OpenSpec.ofChange hazardTablesSpec)) hazardTablesCard

/-- THE TIED CARD OF 'pneumaticlaw08.HazardFinds'. -/
def hazardFindsCard : Claim7 := { stood := { row := hazardFindsRow, standIns := [], harness := (true, "a61efd8849625d4f5834c55f879357c63e1e2a3009dfbde0f84127e4f29eeb89"), looks := false }, kinds := [], alts := [], laidByText := true, laidKinds := [.data, .data, .data, .data], laidTests := true, laidLooks := .later }
def HazardFindsCardSaid : Prop := Claim7.holds Tryz.pinned (.plain (OpenSpec.ofChange hazardFindsSpec)) hazardFindsCard

/-- THE SECOND FORM's CARD OF 'pneumaticlaw08.HazardTables'. -/
def hazardTablesUptoCard : Claim7 := { stood := { row := hazardTablesUptoRow, standIns := [], harness := (true, "a61efd8849625d4f5834c55f879357c63e1e2a3009dfbde0f84127e4f29eeb89"), looks := false }, kinds := [], alts := [], laidByText := true, laidKinds := [.data, .data, .data, .data], laidTests := true, laidLooks := .later }
def HazardTablesUptoCardSaid : Prop := Claim7.holds Tryz.pinned (.plain (OpenSpec.upto hazardTablesSpec)) hazardTablesUptoCard

/-- THE SECOND FORM's CARD OF 'pneumaticlaw08.HazardFinds'. -/
def hazardFindsUptoCard : Claim7 := { stood := { row := hazardFindsUptoRow, standIns := [], harness := (true, "a61efd8849625d4f5834c55f879357c63e1e2a3009dfbde0f84127e4f29eeb89"), looks := false }, kinds := [], alts := [], laidByText := true, laidKinds := [.data, .data, .data, .data], laidTests := true, laidLooks := .later }
def HazardFindsUptoCardSaid : Prop := Claim7.holds Tryz.pinned (.plain (OpenSpec.upto hazardFindsSpec)) hazardFindsUptoCard
end Rows
end Go.Proofs.YtahjdmdgkkienaaGreatDoor
