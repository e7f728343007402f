/-
  DERIVED. GIVEN WITH THE SEED: THE CARDS: each row of YthjkcncfppndkaaDoorRows.lean that lists a variable, with what it lists TIED to the program's text (the seventh form; the later family's looks); each row that meets fmt, with fmt's text TOLD by the authors' own Lean function (tested against real Go, not proved from fmt's source: count such statements apart). THE CARD IS WHAT COUNTS. Prove the row's statement (the work); the ties are given (YthjkcncfppndkaaDoorTie.lean); close each card by the builder's one call (the guide's Derived/Test/ToyasCard.lean, 'card_holds'). Laid BY PROGRAM, IN A SANDBOX (cutbox-door.mjs). By AI agents, Wed Nov 11 2026. No macro, syntax, notation, axiom, sorry.
-/
import Derived.Test.YthjkcncfppndkaaDoorRows
import GoSem.ClaimSeven
namespace Go.Proofs.YthjkcncfppndkaaDoor
namespace Rows

/-- THE TIED CARD OF 'pneumaticlaw20.PartNames'. -/
def partNamesCard : Claim7 := { stood := { row := partNamesRow, standIns := [], harness := (true, "4027cc85870a02283760c89ba324b1bc34dda8402cfb0aee3438bb268a9f0e79"), looks := false }, kinds := [], alts := [], laidByText := true, laidKinds := [.data, .data], laidTests := true, laidLooks := .later }
def PartNamesCardSaid : Prop := Claim7.holds Tryd.pinned (.plain (OpenSpec.ofChange partNamesSpec)) partNamesCard

/-- THE TIED CARD OF 'pneumaticlaw20.PartPorts'. -/
def partPortsCard : Claim7 := { stood := { row := partPortsRow, standIns := [], harness := (true, "4027cc85870a02283760c89ba324b1bc34dda8402cfb0aee3438bb268a9f0e79"), looks := false }, kinds := [], alts := [], laidByText := true, laidKinds := [.data, .data], laidTests := true, laidLooks := .later }
def PartPortsCardSaid : Prop := Claim7.holds Tryd.pinned (.plain (OpenSpec.ofChange partPortsSpec)) partPortsCard

/-- THE TIED CARD OF 'pneumaticlaw20.PartPasses'. -/
def partPassesCard : Claim7 := { stood := { row := partPassesRow, standIns := [], harness := (true, "4027cc85870a02283760c89ba324b1bc34dda8402cfb0aee3438bb268a9f0e79"), looks := false }, kinds := [], alts := [], laidByText := true, laidKinds := [.data, .data], laidTests := true, laidLooks := .later }
def PartPassesCardSaid : Prop := Claim7.holds Tryd.pinned (.plain (OpenSpec.ofChange partPassesSpec)) partPassesCard

/-- THE TIED CARD OF 'pneumaticlaw20.PartMoves'. -/
def partMovesCard : Claim7 := { stood := { row := partMovesRow, standIns := [], harness := (true, "4027cc85870a02283760c89ba324b1bc34dda8402cfb0aee3438bb268a9f0e79"), looks := false }, kinds := [], alts := [], laidByText := true, laidKinds := [.data, .data], laidTests := true, laidLooks := .later }
def PartMovesCardSaid : Prop := Claim7.holds Tryd.pinned (.plain (OpenSpec.ofChange partMovesSpec)) partMovesCard

/-- THE TIED CARD OF 'pneumaticlaw20.PartReads'. -/
def partReadsCard : Claim7 := { stood := { row := partReadsRow, standIns := [], harness := (true, "4027cc85870a02283760c89ba324b1bc34dda8402cfb0aee3438bb268a9f0e79"), looks := false }, kinds := [], alts := [], laidByText := true, laidKinds := [.data, .data], laidTests := true, laidLooks := .later }
def PartReadsCardSaid : Prop := Claim7.holds Tryd.pinned (.plain (OpenSpec.ofChange partReadsSpec)) partReadsCard

/-- THE TIED CARD OF 'pneumaticlaw20.PartFlows'. -/
def partFlowsCard : Claim7 := { stood := { row := partFlowsRow, standIns := [], harness := (true, "4027cc85870a02283760c89ba324b1bc34dda8402cfb0aee3438bb268a9f0e79"), looks := false }, kinds := [], alts := [], laidByText := true, laidKinds := [.data, .data], laidTests := true, laidLooks := .later }
def PartFlowsCardSaid : Prop := Claim7.holds Tryd.pinned (.plain (OpenSpec.ofChange partFlowsSpec)) partFlowsCard

/-- THE TIED CARD OF 'pneumaticlaw20.PartSettles'. -/
def partSettlesCard : Claim7 := { stood := { row := partSettlesRow, standIns := [], harness := (true, "4027cc85870a02283760c89ba324b1bc34dda8402cfb0aee3438bb268a9f0e79"), looks := false }, kinds := [], alts := [], laidByText := true, laidKinds := [.data, .data], laidTests := true, laidLooks := .later }
def PartSettlesCardSaid : Prop := Claim7.holds Tryd.pinned (.plain (OpenSpec.ofChange partSettlesSpec)) partSettlesCard

/-- THE SECOND FORM's CARD OF 'pneumaticlaw20.PartNames'. -/
def partNamesUptoCard : Claim7 := { stood := { row := partNamesUptoRow, standIns := [], harness := (true, "4027cc85870a02283760c89ba324b1bc34dda8402cfb0aee3438bb268a9f0e79"), looks := false }, kinds := [], alts := [], laidByText := true, laidKinds := [.data, .data], laidTests := true, laidLooks := .later }
def PartNamesUptoCardSaid : Prop := Claim7.holds Tryd.pinned (.plain (OpenSpec.upto partNamesSpec)) partNamesUptoCard

/-- THE SECOND FORM's CARD OF 'pneumaticlaw20.PartPorts'. -/
def partPortsUptoCard : Claim7 := { stood := { row := partPortsUptoRow, standIns := [], harness := (true, "4027cc85870a02283760c89ba324b1bc34dda8402cfb0aee3438bb268a9f0e79"), looks := false }, kinds := [], alts := [], laidByText := true, laidKinds := [.data, .data], laidTests := true, laidLooks := .later }
def PartPortsUptoCardSaid : Prop := Claim7.holds Tryd.pinned (.plain (OpenSpec.upto partPortsSpec)) partPortsUptoCard

/-- THE SECOND FORM's CARD OF 'pneumaticlaw20.PartPasses'. -/
def partPassesUptoCard : Claim7 := { stood := { row := partPassesUptoRow, standIns := [], harness := (true, "4027cc85870a02283760c89ba324b1bc34dda8402cfb0aee3438bb268a9f0e79"), looks := false }, kinds := [], alts := [], laidByText := true, laidKinds := [.data, .data], laidTests := true, laidLooks := .later }
def PartPassesUptoCardSaid : Prop := Claim7.holds Tryd.pinned (.plain (OpenSpec.upto partPassesSpec)) partPassesUptoCard

/-- THE SECOND FORM's CARD OF 'pneumaticlaw20.PartMoves'. -/
def partMovesUptoCard : Claim7 := { stood := { row := partMovesUptoRow, standIns := [], harness := (true, "4027cc85870a02283760c89ba324b1bc34dda8402cfb0aee3438bb268a9f0e79"), looks := false }, kinds := [], alts := [], laidByText := true, laidKinds := [.data, .data], laidTests := true, laidLooks := .later }
def PartMovesUptoCardSaid : Prop := Claim7.holds Tryd.pinned (.plain (OpenSpec.upto partMovesSpec)) partMovesUptoCard

/-- THE SECOND FORM's CARD OF 'pneumaticlaw20.PartReads'. -/
def partReadsUptoCard : Claim7 := { stood := { row := partReadsUptoRow, standIns := [], harness := (true, "4027cc85870a02283760c89ba324b1bc34dda8402cfb0aee3438bb268a9f0e79"), looks := false }, kinds := [], alts := [], laidByText := true, laidKinds := [.data, .data], laidTests := true, laidLooks := .later }
def PartReadsUptoCardSaid : Prop := Claim7.holds Tryd.pinned (.plain (OpenSpec.upto partReadsSpec)) partReadsUptoCard

/-- THE SECOND FORM's CARD OF 'pneumaticlaw20.PartFlows'. -/
def partFlowsUptoCard : Claim7 := { stood := { row := partFlowsUptoRow, standIns := [], harness := (true, "4027cc85870a02283760c89ba324b1bc34dda8402cfb0aee3438bb268a9f0e79"), looks := false }, kinds := [], alts := [], laidByText := true, laidKinds := [.data, .data], laidTests := true, laidLooks := .later }
def PartFlowsUptoCardSaid : Prop := Claim7.holds Tryd.pinned (.plain (OpenSpec.upto partFlowsSpec)) partFlowsUptoCard

/-- THE SECOND FORM's CARD OF 'pneumaticlaw20.PartSettles'. -/
def partSettlesUptoCard : Claim7 := { stood := { row := partSettlesUptoRow, standIns := [], harness := (true, "4027cc85870a02283760c89ba324b1bc34dda8402cfb0aee3438bb268a9f0e79"), looks := false }, kinds := [], alts := [], laidByText := true, laidKinds := [.data, .data], laidTests := true, laidLooks := .later }
def PartSettlesUptoCardSaid : Prop := Claim7.holds Tryd.pinned (.plain (OpenSpec.upto partSettlesSpec)) partSettlesUptoCard
end Rows
end Go.Proofs.YthjkcncfppndkaaDoor
