/-
  DERIVED. GIVEN WITH THE SEED: THE CARDS: each row of YtjpbccpleflkhaaGreatDoorRows.lean that lists a variable, with what it lists TIED to the program's text (the seventh form; the later family's looks); each row that meets fmt, with fmt's text TOLD by the authors' own Lean function (tested against real Go, not proved from fmt's source: count such statements apart). THE CARD IS WHAT COUNTS. Prove the row's statement (the work); the ties are given (YtjpbccpleflkhaaGreatDoorTie.lean); close each card by the builder's one call (the guide's Derived/Test/ToyasCard.lean, 'card_holds'). Laid BY PROGRAM, IN A SANDBOX (cutbox-door.mjs). By AI agents, Wed Nov 11 2026. No macro, syntax, notation, axiom, sorry.
-/
import Derived.Test.YtjpbccpleflkhaaGreatDoorRows
import GoSem.ClaimSeven
namespace Go.Proofs.YtjpbccpleflkhaaGreatDoor
namespace Rows

/-- THE TIED CARD OF 'pneumaticlaw14.SequenceTexts'. -/
def sequenceTextsCard : Claim7 := { stood := { row := sequenceTextsRow, standIns := [], harness := (true, "b1dbb7a6a15d6965bc91408175fff504e5f948319df7bcdfbfab6ddeed35f3e7"), looks := true }, kinds := [], alts := [], laidByText := true, laidKinds := [.data, .data, .data, .sentinel, .sentinel], laidTests := true, laidLooks := .later }
def SequenceTextsCardSaid : Prop := Claim7.holds Tryz.pinned (.plain (OpenSpec.ofChange sequenceTextsSpec)) sequenceTextsCard

/-- THE SECOND FORM's CARD OF 'pneumaticlaw14.SequenceTexts'. -/
def sequenceTextsUptoCard : Claim7 := { stood := { row := sequenceTextsUptoRow, standIns := [], harness := (true, "b1dbb7a6a15d6965bc91408175fff504e5f948319df7bcdfbfab6ddeed35f3e7"), looks := true }, kinds := [], alts := [], laidByText := true, laidKinds := [.data, .data, .data, .sentinel, .sentinel], laidTests := true, laidLooks := .later }
def SequenceTextsUptoCardSaid : Prop := Claim7.holds Tryz.pinned (.plain (OpenSpec.upto sequenceTextsSpec)) sequenceTextsUptoCard
end Rows
end Go.Proofs.YtjpbccpleflkhaaGreatDoor
