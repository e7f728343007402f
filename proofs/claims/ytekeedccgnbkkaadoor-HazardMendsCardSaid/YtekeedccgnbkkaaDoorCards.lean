/-
  DERIVED. GIVEN WITH THE SEED: THE CARDS: each row of YtekeedccgnbkkaaDoorRows.lean that lists a variable, with what it lists TIED to the program's text (the seventh form; the later family's looks); each row that meets fmt, with fmt's text TOLD by the authors' own Lean function (tested against real Go, not proved from fmt's source: count such statements apart). THE CARD IS WHAT COUNTS. Prove the row's statement (the work); the ties are given (YtekeedccgnbkkaaDoorTie.lean); close each card by the builder's one call (the guide's Derived/Test/ToyasCard.lean, 'card_holds'). Laid BY PROGRAM, IN A SANDBOX (cutbox-door.mjs). By AI agents, Wed Nov 11 2026. No macro, syntax, notation, axiom, sorry.
-/
import Derived.Test.YtekeedccgnbkkaaDoorRows
import GoSem.ClaimSeven
namespace Go.Proofs.YtekeedccgnbkkaaDoor
namespace Rows

/-- THE TIED CARD OF 'pneumaticlaw08.HazardSteady'. -/
def hazardSteadyCard : Claim7 := { stood := { row := hazardSteadyRow, standIns := [], harness := (true, "273334b37ce848dbf2ab805d6f742c2dfe6546196827f83d53a1b3190071be06"), looks := false }, kinds := [], alts := [], laidByText := true, laidKinds := [.data, .data, .data, .data], laidTests := true, laidLooks := .later }
def HazardSteadyCardSaid : Prop := Claim7.holds Tryd.pinned (.plain (OpenSpec.ofChange hazardSteadySpec)) hazardSteadyCard

/-- THE TIED CARD OF 'pneumaticlaw08.HazardMends'. -/
def hazardMendsCard : Claim7 := { stood := { row := hazardMendsRow, standIns := [], harness := (true, "273334b37ce848dbf2ab805d6f742c2dfe6546196827f83d53a1b3190071be06"), looks := false }, kinds := [], alts := [], laidByText := true, laidKinds := [.data, .data, .data, .data], laidTests := true, laidLooks := .later }
def HazardMendsCardSaid : Prop := Claim7.holds Tryd.pinned (.plain (OpenSpec.ofChange hazardMendsSpec)) hazardMendsCard

/-- THE TIED CARD OF 'pneumaticlaw08.HazardNotices'. -/
def hazardNoticesCard : Claim7 := { stood := { row := hazardNoticesRow, standIns := [], harness := (true, "273334b37ce848dbf2ab805d6f742c2dfe6546196827f83d53a1b3190071be06"), looks := false }, kinds := [], alts := [], laidByText := true, laidKinds := [.data, .data, .data, .data], laidTests := true, laidLooks := .later }
def HazardNoticesCardSaid : Prop := Claim7.holds Tryd.pinned (.plain (OpenSpec.ofChange hazardNoticesSpec)) hazardNoticesCard

/-- THE SECOND FORM's CARD OF 'pneumaticlaw08.HazardSteady'. -/
def hazardSteadyUptoCard : Claim7 := { stood := { row := hazardSteadyUptoRow, standIns := [], harness := (true, "273334b37ce848dbf2ab805d6f742c2dfe6546196827f83d53a1b3190071be06"), looks := false }, kinds := [], alts := [], laidByText := true, laidKinds := [.data, .data, .data, .data], laidTests := true, laidLooks := .later }
def HazardSteadyUptoCardSaid : Prop := Claim7.holds Tryd.pinned (.plain (OpenSpec.upto hazardSteadySpec)) hazardSteadyUptoCard

/-- THE SECOND FORM's CARD OF 'pneumaticlaw08.HazardMends'. -/
def hazardMendsUptoCard : Claim7 := { stood := { row := hazardMendsUptoRow, standIns := [], harness := (true, "273334b37ce848dbf2ab805d6f742c2dfe6546196827f83d53a1b3190071be06"), looks := false }, kinds := [], alts := [], laidByText := true, laidKinds := [.data, .data, .data, .data], laidTests := true, laidLooks := .later }
def HazardMendsUptoCardSaid : Prop := Claim7.holds Tryd.pinned (.plain (OpenSpec.upto hazardMendsSpec)) hazardMendsUptoCard

/-- THE SECOND FORM's CARD OF 'pneumaticlaw08.HazardNotices'. -/
def hazardNoticesUptoCard : Claim7 := { stood := { row := hazardNoticesUptoRow, standIns := [], harness := (true, "273334b37ce848dbf2ab805d6f742c2dfe6546196827f83d53a1b3190071be06"), looks := false }, kinds := [], alts := [], laidByText := true, laidKinds := [.data, .data, .data, .data], laidTests := true, laidLooks := .later }
def HazardNoticesUptoCardSaid : Prop := Claim7.holds Tryd.pinned (.plain (OpenSpec.upto hazardNoticesSpec)) hazardNoticesUptoCard
end Rows
end Go.Proofs.YtekeedccgnbkkaaDoor
