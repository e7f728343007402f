/-
  DERIVED. GIVEN WITH THE SEED: THE CARDS: each row of YtabflijfbjdpgaaDoorRows.lean that lists a variable, with what it lists TIED to the program's text (the seventh form; the later family's looks); each row that meets fmt, with fmt's text TOLD by the authors' own Lean function (tested against real Go, not proved from fmt's source: count such statements apart). THE CARD IS WHAT COUNTS. Prove the row's statement (the work); the ties are given (YtabflijfbjdpgaaDoorTie.lean); close each card by the builder's one call (the guide's Derived/Test/ToyasCard.lean, 'card_holds'). Laid BY PROGRAM, IN A SANDBOX (cutbox-door.mjs). By AI agents, Wed Nov 11 2026. No macro, syntax, notation, axiom, sorry.
-/
import Derived.Test.YtabflijfbjdpgaaDoorRows
import GoSem.ClaimSeven
namespace Go.Proofs.YtabflijfbjdpgaaDoor
namespace Rows

/-- THE TIED CARD OF 'pneumaticlaw06.ImplicantPoints'. -/
def implicantPointsCard : Claim7 := { stood := { row := implicantPointsRow, standIns := [], harness := (true, "4d309e2b937e418eea320586a06f60bae1313586c4dea5bd5d08e836607de131"), looks := false }, kinds := [], alts := [], laidByText := true, laidKinds := [.data], laidTests := true, laidLooks := .later }
def ImplicantPointsCardSaid : Prop := Claim7.holds Tryd.pinned (.plain (OpenSpec.ofChange implicantPointsSpec)) implicantPointsCard

/-- THE TIED CARD OF 'pneumaticlaw06.ImplicantPairs'. -/
def implicantPairsCard : Claim7 := { stood := { row := implicantPairsRow, standIns := [], harness := (true, "4d309e2b937e418eea320586a06f60bae1313586c4dea5bd5d08e836607de131"), looks := false }, kinds := [], alts := [], laidByText := true, laidKinds := [.data], laidTests := true, laidLooks := .later }
def ImplicantPairsCardSaid : Prop := Claim7.holds Tryd.pinned (.plain (OpenSpec.ofChange implicantPairsSpec)) implicantPairsCard

/-- THE TIED CARD OF 'pneumaticlaw06.ImplicantTexts'. -/
def implicantTextsCard : Claim7 := { stood := { row := implicantTextsRow, standIns := [], harness := (true, "4d309e2b937e418eea320586a06f60bae1313586c4dea5bd5d08e836607de131"), looks := false }, kinds := [], alts := [], laidByText := true, laidKinds := [.data], laidTests := true, laidLooks := .later }
def ImplicantTextsCardSaid : Prop := Claim7.holds Tryd.pinned (.plain (OpenSpec.ofChange implicantTextsSpec)) implicantTextsCard

/-- THE TIED CARD OF 'pneumaticlaw06.ImplicantImplies'. -/
def implicantImpliesCard : Claim7 := { stood := { row := implicantImpliesRow, standIns := [], harness := (true, "4d309e2b937e418eea320586a06f60bae1313586c4dea5bd5d08e836607de131"), looks := false }, kinds := [], alts := [], laidByText := true, laidKinds := [.data], laidTests := true, laidLooks := .later }
def ImplicantImpliesCardSaid : Prop := Claim7.holds Tryd.pinned (.plain (OpenSpec.ofChange implicantImpliesSpec)) implicantImpliesCard

/-- THE TIED CARD OF 'pneumaticlaw06.ImplicantPrimes'. -/
def implicantPrimesCard : Claim7 := { stood := { row := implicantPrimesRow, standIns := [], harness := (true, "4d309e2b937e418eea320586a06f60bae1313586c4dea5bd5d08e836607de131"), looks := false }, kinds := [], alts := [], laidByText := true, laidKinds := [.data], laidTests := true, laidLooks := .later }
def ImplicantPrimesCardSaid : Prop := Claim7.holds Tryd.pinned (.plain (OpenSpec.ofChange implicantPrimesSpec)) implicantPrimesCard

/-- THE TIED CARD OF 'pneumaticlaw06.ImplicantMeets'. -/
def implicantMeetsCard : Claim7 := { stood := { row := implicantMeetsRow, standIns := [], harness := (true, "4d309e2b937e418eea320586a06f60bae1313586c4dea5bd5d08e836607de131"), looks := false }, kinds := [], alts := [], laidByText := true, laidKinds := [.data], laidTests := true, laidLooks := .later }
def ImplicantMeetsCardSaid : Prop := Claim7.holds Tryd.pinned (.plain (OpenSpec.ofChange implicantMeetsSpec)) implicantMeetsCard

/-- THE TIED CARD OF 'pneumaticlaw06.ImplicantCovers'. -/
def implicantCoversCard : Claim7 := { stood := { row := implicantCoversRow, standIns := [], harness := (true, "4d309e2b937e418eea320586a06f60bae1313586c4dea5bd5d08e836607de131"), looks := false }, kinds := [], alts := [], laidByText := true, laidKinds := [.data], laidTests := true, laidLooks := .later }
def ImplicantCoversCardSaid : Prop := Claim7.holds Tryd.pinned (.plain (OpenSpec.ofChange implicantCoversSpec)) implicantCoversCard

/-- THE TIED CARD OF 'pneumaticlaw06.ImplicantGrows'. -/
def implicantGrowsCard : Claim7 := { stood := { row := implicantGrowsRow, standIns := [], harness := (true, "4d309e2b937e418eea320586a06f60bae1313586c4dea5bd5d08e836607de131"), looks := false }, kinds := [], alts := [], laidByText := true, laidKinds := [.data], laidTests := true, laidLooks := .later }
def ImplicantGrowsCardSaid : Prop := Claim7.holds Tryd.pinned (.plain (OpenSpec.ofChange implicantGrowsSpec)) implicantGrowsCard

/-- THE SECOND FORM's CARD OF 'pneumaticlaw06.ImplicantPoints'. -/
def implicantPointsUptoCard : Claim7 := { stood := { row := implicantPointsUptoRow, standIns := [], harness := (true, "4d309e2b937e418eea320586a06f60bae1313586c4dea5bd5d08e836607de131"), looks := false }, kinds := [], alts := [], laidByText := true, laidKinds := [.data], laidTests := true, laidLooks := .later }
def ImplicantPointsUptoCardSaid : Prop := Claim7.holds Tryd.pinned (.plain (OpenSpec.upto implicantPointsSpec)) implicantPointsUptoCard

/-- THE SECOND FORM's CARD OF 'pneumaticlaw06.ImplicantPairs'. -/
def implicantPairsUptoCard : Claim7 := { stood := { row := implicantPairsUptoRow, standIns := [], harness := (true, "4d309e2b937e418eea320586a06f60bae1313586c4dea5bd5d08e836607de131"), looks := false }, kinds := [], alts := [], laidByText := true, laidKinds := [.data], laidTests := true, laidLooks := .later }
def ImplicantPairsUptoCardSaid : Prop := Claim7.holds Tryd.pinned (.plain (OpenSpec.upto implicantPairsSpec)) implicantPairsUptoCard

/-- THE SECOND FORM's CARD OF 'pneumaticlaw06.ImplicantTexts'. -/
def implicantTextsUptoCard : Claim7 := { stood := { row := implicantTextsUptoRow, standIns := [], harness := (true, "4d309e2b937e418eea320586a06f60bae1313586c4dea5bd5d08e836607de131"), looks := false }, kinds := [], alts := [], laidByText := true, laidKinds := [.data], laidTests := true, laidLooks := .later }
def ImplicantTextsUptoCardSaid : Prop := Claim7.holds Tryd.pinned (.plain (OpenSpec.upto implicantTextsSpec)) implicantTextsUptoCard

/-- THE SECOND FORM's CARD OF 'pneumaticlaw06.ImplicantImplies'. -/
def implicantImpliesUptoCard : Claim7 := { stood := { row := implicantImpliesUptoRow, standIns := [], harness := (true, "4d309e2b937e418eea320586a06f60bae1313586c4dea5bd5d08e836607de131"), looks := false }, kinds := [], alts := [], laidByText := true, laidKinds := [.data], laidTests := true, laidLooks := .later }
def ImplicantImpliesUptoCardSaid : Prop := Claim7.holds Tryd.pinned (.plain (OpenSpec.upto implicantImpliesSpec)) implicantImpliesUptoCard

/-- THE SECOND FORM's CARD OF 'pneumaticlaw06.ImplicantPrimes'. -/
def implicantPrimesUptoCard : Claim7 := { stood := { row := implicantPrimesUptoRow, standIns := [], harness := (true, "4d309e2b937e418eea320586a06f60bae1313586c4dea5bd5d08e836607de131"), looks := false }, kinds := [], alts := [], laidByText := true, laidKinds := [.data], laidTests := true, laidLooks := .later }
def ImplicantPrimesUptoCardSaid : Prop := Claim7.holds Tryd.pinned (.plain (OpenSpec.upto implicantPrimesSpec)) implicantPrimesUptoCard

/-- THE SECOND FORM's CARD OF 'pneumaticlaw06.ImplicantMeets'. -/
def implicantMeetsUptoCard : Claim7 := { stood := { row := implicantMeetsUptoRow, standIns := [], harness := (true, "4d309e2b937e418eea320586a06f60bae1313586c4dea5bd5d08e836607de131"), looks := false }, kinds := [], alts := [], laidByText := true, laidKinds := [.data], laidTests := true, laidLooks := .later }
def ImplicantMeetsUptoCardSaid : Prop := Claim7.holds Tryd.pinned (.plain (OpenSpec.upto implicantMeetsSpec)) implicantMeetsUptoCard

/-- THE SECOND FORM's CARD OF 'pneumaticlaw06.ImplicantCovers'. -/
def implicantCoversUptoCard : Claim7 := { stood := { row := implicantCoversUptoRow, standIns := [], harness := (true, "4d309e2b937e418eea320586a06f60bae1313586c4dea5bd5d08e836607de131"), looks := false }, kinds := [], alts := [], laidByText := true, laidKinds := [.data], laidTests := true, laidLooks := .later }
def ImplicantCoversUptoCardSaid : Prop := Claim7.holds Tryd.pinned (.plain (OpenSpec.upto implicantCoversSpec)) implicantCoversUptoCard

/-- THE SECOND FORM's CARD OF 'pneumaticlaw06.ImplicantGrows'. -/
def implicantGrowsUptoCard : Claim7 := { stood := { row := implicantGrowsUptoRow, standIns := [], harness := (true, "4d309e2b937e418eea320586a06f60bae1313586c4dea5bd5d08e836607de131"), looks := false }, kinds := [], alts := [], laidByText := true, laidKinds := [.data], laidTests := true, laidLooks := .later }
def ImplicantGrowsUptoCardSaid : Prop := Claim7.holds Tryd.pinned (.plain (OpenSpec.upto implicantGrowsSpec)) implicantGrowsUptoCard
end Rows
end Go.Proofs.YtabflijfbjdpgaaDoor
