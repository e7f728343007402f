/-
  NARROWER THAN 'FOR EVERY INPUT', by the rows' own cells (each row's printed sentence says how): ImplicantPoints: laid · ImplicantPairs: laid · ImplicantTexts: laid · ImplicantImplies: laid · ImplicantPrimes: laid · ImplicantMeets: laid · ImplicantCovers: laid · ImplicantGrows: laid.
  DERIVED. THE GIVEN ROWS OF THIS SEAT. 8 by the template 'for every input the law returns true; each argument reads behind the call as it read before'; 0 by the template 'total and deterministic' (their statements: YtabflijfbjdpgaaDoorTotals.lean).
  GIVEN WITH THE SEED: the statements are not yours to turn. If you find one false, say at which input.
  Laid BY PROGRAM, IN A SANDBOX (cutbox-rows.mjs): the forced cells as the released guide's own fill.sh prints them over the translation 306d49bbcd613150… (all of the seat's roots in one cut). By AI agents, Wed Nov 11 2026. No macro, syntax, notation, axiom, sorry.
-/
import Derived.Test.YtabflijfbjdpgaaDoorChecked
import GoSem.Claim
import GoSem.ClaimJoined
import GoSem.ClaimMapViews
import Derived.JoinedTies
import Derived.KernelRfl
namespace Go.Proofs.YtabflijfbjdpgaaDoor
/- THE CELL 'sum', in the pinned program and in every row, IS THE sha256 OF THE DUMP (.gsa) THAT YtabflijfbjdpgaaDoorProg.lean LOADS. Nothing in Lean hashes anything: it is a label: what it is worth is what the hold of that sum in a sandbox is worth. -/
noncomputable def Tryd.pinned : Pinned := { name := "ytabflijfbjdpgaadoor", sum := "306d49bbcd6131500fe30d20802d82c22a3965d9f7b13ea806e6e7342d9b756e", checked := Tryd.checked }
namespace Rows
def none {H : Type} : Left H := { results := [], args := [] }

/- WHAT THE LISTED PACKAGE-LEVEL VARIABLES READ AS WHEN THE CALL BEGINS. Each datum BY PROGRAM (the guide's laid-datum.mjs) off the statement by which the dump's own 'gosem.cut.vars' lays the variable. In a bare row this is a premise. The card (YtabflijfbjdpgaaDoorCards.lean) ties it to the program's text. -/
def laid_pneumatic_truth_columns {H : Type} : DataW H := .agg [.lit (.int .u64 12297829382473034410), .lit (.int .u64 14757395258967641292), .lit (.int .u64 17361641481138401520), .lit (.int .u64 18374966859414961920), .lit (.int .u64 18446462603027742720), .lit (.int .u64 18446744069414584320)]

/-- 'pneumaticlaw06.ImplicantPoints': WHATEVER THE INPUT: true; the input reads as it did. -/
def implicantPointsSpec : ChangeSpec := { name := "implicantPoints", fn := fun _ => fun
  | [d1, d2, d3] => { results := [.lit (.bool true)], args := [d1, d2, d3] }
  | _ => none }
def implicantPointsRow : OpenClaim := { program := "ytabflijfbjdpgaadoor", sum := "306d49bbcd6131500fe30d20802d82c22a3965d9f7b13ea806e6e7342d9b756e", func := "pneumatic/pneumaticlaw06.ImplicantPoints", spec := "implicantPoints", inPlace := ["internal/bytealg.MakeNoZero"], unfollowed := true, recurses := true, named := ["pneumatic/truth.columns"], apart := false, laid := [("pneumatic/truth.columns", laid_pneumatic_truth_columns)] }
def ImplicantPointsSaid : Prop := implicantPointsRow.holds Tryd.pinned (OpenSpec.ofChange implicantPointsSpec)

/-- ITS FALSE NEIGHBOUR: 'it returns false'. Refute it at one input. -/
def implicantPointsWrong : ChangeSpec := { name := "implicantPoints", fn := fun _ => fun
  | [d1, d2, d3] => { results := [.lit (.bool false)], args := [d1, d2, d3] }
  | _ => none }
def ImplicantPointsWrongFalsely : Prop := implicantPointsRow.holds Tryd.pinned (OpenSpec.ofChange implicantPointsWrong)

/-- 'pneumaticlaw06.ImplicantPairs': WHATEVER THE INPUT: true; the input reads as it did. -/
def implicantPairsSpec : ChangeSpec := { name := "implicantPairs", fn := fun _ => fun
  | [d1, d2, d3] => { results := [.lit (.bool true)], args := [d1, d2, d3] }
  | _ => none }
def implicantPairsRow : OpenClaim := { program := "ytabflijfbjdpgaadoor", sum := "306d49bbcd6131500fe30d20802d82c22a3965d9f7b13ea806e6e7342d9b756e", func := "pneumatic/pneumaticlaw06.ImplicantPairs", spec := "implicantPairs", inPlace := ["internal/bytealg.MakeNoZero"], unfollowed := true, recurses := true, named := ["pneumatic/truth.columns"], apart := false, laid := [("pneumatic/truth.columns", laid_pneumatic_truth_columns)] }
def ImplicantPairsSaid : Prop := implicantPairsRow.holds Tryd.pinned (OpenSpec.ofChange implicantPairsSpec)

/-- ITS FALSE NEIGHBOUR: 'it returns false'. Refute it at one input. -/
def implicantPairsWrong : ChangeSpec := { name := "implicantPairs", fn := fun _ => fun
  | [d1, d2, d3] => { results := [.lit (.bool false)], args := [d1, d2, d3] }
  | _ => none }
def ImplicantPairsWrongFalsely : Prop := implicantPairsRow.holds Tryd.pinned (OpenSpec.ofChange implicantPairsWrong)

/-- 'pneumaticlaw06.ImplicantTexts': WHATEVER THE INPUT: true; the input reads as it did. -/
def implicantTextsSpec : ChangeSpec := { name := "implicantTexts", fn := fun _ => fun
  | [d1, d2, d3] => { results := [.lit (.bool true)], args := [d1, d2, d3] }
  | _ => none }
def implicantTextsRow : OpenClaim := { program := "ytabflijfbjdpgaadoor", sum := "306d49bbcd6131500fe30d20802d82c22a3965d9f7b13ea806e6e7342d9b756e", func := "pneumatic/pneumaticlaw06.ImplicantTexts", spec := "implicantTexts", inPlace := ["internal/bytealg.MakeNoZero"], unfollowed := true, recurses := true, named := ["pneumatic/truth.columns"], apart := false, laid := [("pneumatic/truth.columns", laid_pneumatic_truth_columns)] }
def ImplicantTextsSaid : Prop := implicantTextsRow.holds Tryd.pinned (OpenSpec.ofChange implicantTextsSpec)

/-- ITS FALSE NEIGHBOUR: 'it returns false'. Refute it at one input. -/
def implicantTextsWrong : ChangeSpec := { name := "implicantTexts", fn := fun _ => fun
  | [d1, d2, d3] => { results := [.lit (.bool false)], args := [d1, d2, d3] }
  | _ => none }
def ImplicantTextsWrongFalsely : Prop := implicantTextsRow.holds Tryd.pinned (OpenSpec.ofChange implicantTextsWrong)

/-- 'pneumaticlaw06.ImplicantImplies': WHATEVER THE INPUT: true; the input reads as it did. -/
def implicantImpliesSpec : ChangeSpec := { name := "implicantImplies", fn := fun _ => fun
  | [d1, d2] => { results := [.lit (.bool true)], args := [d1, d2] }
  | _ => none }
def implicantImpliesRow : OpenClaim := { program := "ytabflijfbjdpgaadoor", sum := "306d49bbcd6131500fe30d20802d82c22a3965d9f7b13ea806e6e7342d9b756e", func := "pneumatic/pneumaticlaw06.ImplicantImplies", spec := "implicantImplies", inPlace := ["internal/bytealg.MakeNoZero"], unfollowed := true, recurses := true, named := ["pneumatic/truth.columns"], apart := false, laid := [("pneumatic/truth.columns", laid_pneumatic_truth_columns)] }
def ImplicantImpliesSaid : Prop := implicantImpliesRow.holds Tryd.pinned (OpenSpec.ofChange implicantImpliesSpec)

/-- ITS FALSE NEIGHBOUR: 'it returns false'. Refute it at one input. -/
def implicantImpliesWrong : ChangeSpec := { name := "implicantImplies", fn := fun _ => fun
  | [d1, d2] => { results := [.lit (.bool false)], args := [d1, d2] }
  | _ => none }
def ImplicantImpliesWrongFalsely : Prop := implicantImpliesRow.holds Tryd.pinned (OpenSpec.ofChange implicantImpliesWrong)

/-- 'pneumaticlaw06.ImplicantPrimes': WHATEVER THE INPUT: true; the input reads as it did. -/
def implicantPrimesSpec : ChangeSpec := { name := "implicantPrimes", fn := fun _ => fun
  | [d] => { results := [.lit (.bool true)], args := [d] }
  | _ => none }
def implicantPrimesRow : OpenClaim := { program := "ytabflijfbjdpgaadoor", sum := "306d49bbcd6131500fe30d20802d82c22a3965d9f7b13ea806e6e7342d9b756e", func := "pneumatic/pneumaticlaw06.ImplicantPrimes", spec := "implicantPrimes", inPlace := ["internal/bytealg.MakeNoZero"], unfollowed := true, recurses := true, named := ["pneumatic/truth.columns"], apart := false, laid := [("pneumatic/truth.columns", laid_pneumatic_truth_columns)] }
def ImplicantPrimesSaid : Prop := implicantPrimesRow.holds Tryd.pinned (OpenSpec.ofChange implicantPrimesSpec)

/-- ITS FALSE NEIGHBOUR: 'it returns false'. Refute it at one input. -/
def implicantPrimesWrong : ChangeSpec := { name := "implicantPrimes", fn := fun _ => fun
  | [d] => { results := [.lit (.bool false)], args := [d] }
  | _ => none }
def ImplicantPrimesWrongFalsely : Prop := implicantPrimesRow.holds Tryd.pinned (OpenSpec.ofChange implicantPrimesWrong)

/-- 'pneumaticlaw06.ImplicantMeets': WHATEVER THE INPUT: true; the input reads as it did. -/
def implicantMeetsSpec : ChangeSpec := { name := "implicantMeets", fn := fun _ => fun
  | [d1, d2, d3] => { results := [.lit (.bool true)], args := [d1, d2, d3] }
  | _ => none }
def implicantMeetsRow : OpenClaim := { program := "ytabflijfbjdpgaadoor", sum := "306d49bbcd6131500fe30d20802d82c22a3965d9f7b13ea806e6e7342d9b756e", func := "pneumatic/pneumaticlaw06.ImplicantMeets", spec := "implicantMeets", inPlace := ["internal/bytealg.MakeNoZero"], unfollowed := true, recurses := true, named := ["pneumatic/truth.columns"], apart := false, laid := [("pneumatic/truth.columns", laid_pneumatic_truth_columns)] }
def ImplicantMeetsSaid : Prop := implicantMeetsRow.holds Tryd.pinned (OpenSpec.ofChange implicantMeetsSpec)

/-- ITS FALSE NEIGHBOUR: 'it returns false'. Refute it at one input. -/
def implicantMeetsWrong : ChangeSpec := { name := "implicantMeets", fn := fun _ => fun
  | [d1, d2, d3] => { results := [.lit (.bool false)], args := [d1, d2, d3] }
  | _ => none }
def ImplicantMeetsWrongFalsely : Prop := implicantMeetsRow.holds Tryd.pinned (OpenSpec.ofChange implicantMeetsWrong)

/-- 'pneumaticlaw06.ImplicantCovers': WHATEVER THE INPUT: true; the input reads as it did. -/
def implicantCoversSpec : ChangeSpec := { name := "implicantCovers", fn := fun _ => fun
  | [d] => { results := [.lit (.bool true)], args := [d] }
  | _ => none }
def implicantCoversRow : OpenClaim := { program := "ytabflijfbjdpgaadoor", sum := "306d49bbcd6131500fe30d20802d82c22a3965d9f7b13ea806e6e7342d9b756e", func := "pneumatic/pneumaticlaw06.ImplicantCovers", spec := "implicantCovers", inPlace := ["internal/bytealg.MakeNoZero"], unfollowed := true, recurses := true, named := ["pneumatic/truth.columns"], apart := false, laid := [("pneumatic/truth.columns", laid_pneumatic_truth_columns)] }
def ImplicantCoversSaid : Prop := implicantCoversRow.holds Tryd.pinned (OpenSpec.ofChange implicantCoversSpec)

/-- ITS FALSE NEIGHBOUR: 'it returns false'. Refute it at one input. -/
def implicantCoversWrong : ChangeSpec := { name := "implicantCovers", fn := fun _ => fun
  | [d] => { results := [.lit (.bool false)], args := [d] }
  | _ => none }
def ImplicantCoversWrongFalsely : Prop := implicantCoversRow.holds Tryd.pinned (OpenSpec.ofChange implicantCoversWrong)

/-- 'pneumaticlaw06.ImplicantGrows': WHATEVER THE INPUT: true; the input reads as it did. -/
def implicantGrowsSpec : ChangeSpec := { name := "implicantGrows", fn := fun _ => fun
  | [d1, d2] => { results := [.lit (.bool true)], args := [d1, d2] }
  | _ => none }
def implicantGrowsRow : OpenClaim := { program := "ytabflijfbjdpgaadoor", sum := "306d49bbcd6131500fe30d20802d82c22a3965d9f7b13ea806e6e7342d9b756e", func := "pneumatic/pneumaticlaw06.ImplicantGrows", spec := "implicantGrows", inPlace := ["internal/bytealg.MakeNoZero"], unfollowed := true, recurses := true, named := ["pneumatic/truth.columns"], apart := false, laid := [("pneumatic/truth.columns", laid_pneumatic_truth_columns)] }
def ImplicantGrowsSaid : Prop := implicantGrowsRow.holds Tryd.pinned (OpenSpec.ofChange implicantGrowsSpec)

/-- ITS FALSE NEIGHBOUR: 'it returns false'. Refute it at one input. -/
def implicantGrowsWrong : ChangeSpec := { name := "implicantGrows", fn := fun _ => fun
  | [d1, d2] => { results := [.lit (.bool false)], args := [d1, d2] }
  | _ => none }
def ImplicantGrowsWrongFalsely : Prop := implicantGrowsRow.holds Tryd.pinned (OpenSpec.ofChange implicantGrowsWrong)

/- THE SECOND FORM. 'bulk': how many values and letters a reading holds, each counted each time it is reached (what is shared counts as often as it is met; a slice's spare places count too). A statement '..UptoSaid' is the law's where the arguments, and the package variables that the reading takes, are together of bulk at most 1048576: NARROWER than '..Said'. Prove '..Said' where nothing that the law and all that it calls make is longer than what came in: it says more and counts as full. Else prove '..UptoSaid'. A law counts once. -/
mutual
def uptoBulk {H : Type} : DataW H → Nat
  | .lit (.string bytes) => bytes.length + 1
  | .lit _ => 1
  | .nil => 1
  | .ptr d => uptoBulk d + 1
  | .slice elems spare => uptoBulkAll elems + uptoBulkAll spare + 1
  | .agg parts => uptoBulkAll parts + 1
  | .iface _ d => uptoBulk d + 1
  | .map entries => uptoBulkEntries entries + 1
  | .held _ => 1
def uptoBulkAll {H : Type} : List (DataW H) → Nat
  | [] => 0
  | d :: r => uptoBulk d + uptoBulkAll r
def uptoBulkEntries {H : Type} : List (Lit × DataW H) → Nat
  | [] => 0
  | x :: r => uptoBulkEntry x + uptoBulkEntries r
def uptoBulkEntry {H : Type} : Lit × DataW H → Nat
  | (.string bytes, d) => bytes.length + uptoBulk d + 1
  | (_, d) => uptoBulk d + 1
 end
def uptoSmall : (H : Type) → List (DataW H) → Bool := fun _ ds => decide (uptoBulkAll ds ≤ 1048576)
def OpenSpec.upto (s : _root_.Go.ChangeSpec) : _root_.Go.OpenSpec := { _root_.Go.OpenSpec.ofChange s with cond := some uptoSmall }

/-- 'pneumaticlaw06.ImplicantPoints', WHERE WHAT IT READS IS OF BULK AT MOST 1048576: true; the input reads as it did. -/
def implicantPointsUptoRow : OpenClaim := { program := "ytabflijfbjdpgaadoor", sum := "306d49bbcd6131500fe30d20802d82c22a3965d9f7b13ea806e6e7342d9b756e", func := "pneumatic/pneumaticlaw06.ImplicantPoints", spec := "implicantPoints", inPlace := ["internal/bytealg.MakeNoZero"], unfollowed := true, recurses := true, named := ["pneumatic/truth.columns"], apart := false, laid := [("pneumatic/truth.columns", laid_pneumatic_truth_columns)], narrowed := true }
def ImplicantPointsUptoSaid : Prop := implicantPointsUptoRow.holds Tryd.pinned (OpenSpec.upto implicantPointsSpec)

/-- 'pneumaticlaw06.ImplicantPairs', WHERE WHAT IT READS IS OF BULK AT MOST 1048576: true; the input reads as it did. -/
def implicantPairsUptoRow : OpenClaim := { program := "ytabflijfbjdpgaadoor", sum := "306d49bbcd6131500fe30d20802d82c22a3965d9f7b13ea806e6e7342d9b756e", func := "pneumatic/pneumaticlaw06.ImplicantPairs", spec := "implicantPairs", inPlace := ["internal/bytealg.MakeNoZero"], unfollowed := true, recurses := true, named := ["pneumatic/truth.columns"], apart := false, laid := [("pneumatic/truth.columns", laid_pneumatic_truth_columns)], narrowed := true }
def ImplicantPairsUptoSaid : Prop := implicantPairsUptoRow.holds Tryd.pinned (OpenSpec.upto implicantPairsSpec)

/-- 'pneumaticlaw06.ImplicantTexts', WHERE WHAT IT READS IS OF BULK AT MOST 1048576: true; the input reads as it did. -/
def implicantTextsUptoRow : OpenClaim := { program := "ytabflijfbjdpgaadoor", sum := "306d49bbcd6131500fe30d20802d82c22a3965d9f7b13ea806e6e7342d9b756e", func := "pneumatic/pneumaticlaw06.ImplicantTexts", spec := "implicantTexts", inPlace := ["internal/bytealg.MakeNoZero"], unfollowed := true, recurses := true, named := ["pneumatic/truth.columns"], apart := false, laid := [("pneumatic/truth.columns", laid_pneumatic_truth_columns)], narrowed := true }
def ImplicantTextsUptoSaid : Prop := implicantTextsUptoRow.holds Tryd.pinned (OpenSpec.upto implicantTextsSpec)

/-- 'pneumaticlaw06.ImplicantImplies', WHERE WHAT IT READS IS OF BULK AT MOST 1048576: true; the input reads as it did. -/
def implicantImpliesUptoRow : OpenClaim := { program := "ytabflijfbjdpgaadoor", sum := "306d49bbcd6131500fe30d20802d82c22a3965d9f7b13ea806e6e7342d9b756e", func := "pneumatic/pneumaticlaw06.ImplicantImplies", spec := "implicantImplies", inPlace := ["internal/bytealg.MakeNoZero"], unfollowed := true, recurses := true, named := ["pneumatic/truth.columns"], apart := false, laid := [("pneumatic/truth.columns", laid_pneumatic_truth_columns)], narrowed := true }
def ImplicantImpliesUptoSaid : Prop := implicantImpliesUptoRow.holds Tryd.pinned (OpenSpec.upto implicantImpliesSpec)

/-- 'pneumaticlaw06.ImplicantPrimes', WHERE WHAT IT READS IS OF BULK AT MOST 1048576: true; the input reads as it did. -/
def implicantPrimesUptoRow : OpenClaim := { program := "ytabflijfbjdpgaadoor", sum := "306d49bbcd6131500fe30d20802d82c22a3965d9f7b13ea806e6e7342d9b756e", func := "pneumatic/pneumaticlaw06.ImplicantPrimes", spec := "implicantPrimes", inPlace := ["internal/bytealg.MakeNoZero"], unfollowed := true, recurses := true, named := ["pneumatic/truth.columns"], apart := false, laid := [("pneumatic/truth.columns", laid_pneumatic_truth_columns)], narrowed := true }
def ImplicantPrimesUptoSaid : Prop := implicantPrimesUptoRow.holds Tryd.pinned (OpenSpec.upto implicantPrimesSpec)

/-- 'pneumaticlaw06.ImplicantMeets', WHERE WHAT IT READS IS OF BULK AT MOST 1048576: true; the input reads as it did. -/
def implicantMeetsUptoRow : OpenClaim := { program := "ytabflijfbjdpgaadoor", sum := "306d49bbcd6131500fe30d20802d82c22a3965d9f7b13ea806e6e7342d9b756e", func := "pneumatic/pneumaticlaw06.ImplicantMeets", spec := "implicantMeets", inPlace := ["internal/bytealg.MakeNoZero"], unfollowed := true, recurses := true, named := ["pneumatic/truth.columns"], apart := false, laid := [("pneumatic/truth.columns", laid_pneumatic_truth_columns)], narrowed := true }
def ImplicantMeetsUptoSaid : Prop := implicantMeetsUptoRow.holds Tryd.pinned (OpenSpec.upto implicantMeetsSpec)

/-- 'pneumaticlaw06.ImplicantCovers', WHERE WHAT IT READS IS OF BULK AT MOST 1048576: true; the input reads as it did. -/
def implicantCoversUptoRow : OpenClaim := { program := "ytabflijfbjdpgaadoor", sum := "306d49bbcd6131500fe30d20802d82c22a3965d9f7b13ea806e6e7342d9b756e", func := "pneumatic/pneumaticlaw06.ImplicantCovers", spec := "implicantCovers", inPlace := ["internal/bytealg.MakeNoZero"], unfollowed := true, recurses := true, named := ["pneumatic/truth.columns"], apart := false, laid := [("pneumatic/truth.columns", laid_pneumatic_truth_columns)], narrowed := true }
def ImplicantCoversUptoSaid : Prop := implicantCoversUptoRow.holds Tryd.pinned (OpenSpec.upto implicantCoversSpec)

/-- 'pneumaticlaw06.ImplicantGrows', WHERE WHAT IT READS IS OF BULK AT MOST 1048576: true; the input reads as it did. -/
def implicantGrowsUptoRow : OpenClaim := { program := "ytabflijfbjdpgaadoor", sum := "306d49bbcd6131500fe30d20802d82c22a3965d9f7b13ea806e6e7342d9b756e", func := "pneumatic/pneumaticlaw06.ImplicantGrows", spec := "implicantGrows", inPlace := ["internal/bytealg.MakeNoZero"], unfollowed := true, recurses := true, named := ["pneumatic/truth.columns"], apart := false, laid := [("pneumatic/truth.columns", laid_pneumatic_truth_columns)], narrowed := true }
def ImplicantGrowsUptoSaid : Prop := implicantGrowsUptoRow.holds Tryd.pinned (OpenSpec.upto implicantGrowsSpec)

end Rows
end Go.Proofs.YtabflijfbjdpgaaDoor
