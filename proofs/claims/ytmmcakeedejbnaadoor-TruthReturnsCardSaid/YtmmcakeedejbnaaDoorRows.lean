/-
  NARROWER THAN 'FOR EVERY INPUT', by the rows' own cells (each row's printed sentence says how): TruthMakes: laid · TruthJoins: laid · TruthDepends: laid · TruthRenames: laid · TruthTexts: laid · TruthAlgebra: laid · TruthSplits: laid · TruthReturns: laid.
  DERIVED. THE GIVEN ROWS OF THIS SEAT. 8 by the template 'for every input the law returns true; each argument reads behind the call as it read before'; 0 by the template 'total and deterministic' (their statements: YtmmcakeedejbnaaDoorTotals.lean).
  GIVEN WITH THE SEED: the statements are not yours to turn. If you find one false, say at which input.
  Laid BY PROGRAM, IN A SANDBOX (cutbox-rows.mjs): the forced cells as the released guide's own fill.sh prints them over the translation 4879514b6314b8a7… (all of the seat's roots in one cut). By AI agents, Wed Nov 11 2026. No macro, syntax, notation, axiom, sorry.
-/
import Derived.Test.YtmmcakeedejbnaaDoorChecked
import GoSem.Claim
import GoSem.ClaimJoined
import GoSem.ClaimMapViews
import Derived.JoinedTies
import Derived.KernelRfl
namespace Go.Proofs.YtmmcakeedejbnaaDoor
/- THE CELL 'sum', in the pinned program and in every row, IS THE sha256 OF THE DUMP (.gsa) THAT YtmmcakeedejbnaaDoorProg.lean LOADS. Nothing in Lean hashes anything: it is a label: what it is worth is what the hold of that sum in a sandbox is worth. -/
noncomputable def Tryd.pinned : Pinned := { name := "ytmmcakeedejbnaadoor", sum := "4879514b6314b8a7905ff6418a266eeac450cba1d12d6df4ec4e84f409b7ed0d", checked := Tryd.checked }
namespace Rows
def none {H : Type} : Left H := { results := [], args := [] }

/- WHAT THE LISTED PACKAGE-LEVEL VARIABLES READ AS WHEN THE CALL BEGINS. Each datum BY PROGRAM (the guide's laid-datum.mjs) off the statement by which the dump's own 'gosem.cut.vars' lays the variable. In a bare row this is a premise. The card (YtmmcakeedejbnaaDoorCards.lean) ties it to the program's text. -/
def laid_math_bits_deBruijn32tab {H : Type} : DataW H := .agg [.lit (.int .u8 0), .lit (.int .u8 1), .lit (.int .u8 28), .lit (.int .u8 2), .lit (.int .u8 29), .lit (.int .u8 14), .lit (.int .u8 24), .lit (.int .u8 3), .lit (.int .u8 30), .lit (.int .u8 22), .lit (.int .u8 20), .lit (.int .u8 15), .lit (.int .u8 25), .lit (.int .u8 17), .lit (.int .u8 4), .lit (.int .u8 8), .lit (.int .u8 31), .lit (.int .u8 27), .lit (.int .u8 13), .lit (.int .u8 23), .lit (.int .u8 21), .lit (.int .u8 19), .lit (.int .u8 16), .lit (.int .u8 7), .lit (.int .u8 26), .lit (.int .u8 12), .lit (.int .u8 18), .lit (.int .u8 6), .lit (.int .u8 11), .lit (.int .u8 5), .lit (.int .u8 10), .lit (.int .u8 9)]
def laid_math_bits_deBruijn64tab {H : Type} : DataW H := .agg [.lit (.int .u8 0), .lit (.int .u8 1), .lit (.int .u8 56), .lit (.int .u8 2), .lit (.int .u8 57), .lit (.int .u8 49), .lit (.int .u8 28), .lit (.int .u8 3), .lit (.int .u8 61), .lit (.int .u8 58), .lit (.int .u8 42), .lit (.int .u8 50), .lit (.int .u8 38), .lit (.int .u8 29), .lit (.int .u8 17), .lit (.int .u8 4), .lit (.int .u8 62), .lit (.int .u8 47), .lit (.int .u8 59), .lit (.int .u8 36), .lit (.int .u8 45), .lit (.int .u8 43), .lit (.int .u8 51), .lit (.int .u8 22), .lit (.int .u8 53), .lit (.int .u8 39), .lit (.int .u8 33), .lit (.int .u8 30), .lit (.int .u8 24), .lit (.int .u8 18), .lit (.int .u8 12), .lit (.int .u8 5), .lit (.int .u8 63), .lit (.int .u8 55), .lit (.int .u8 48), .lit (.int .u8 27), .lit (.int .u8 60), .lit (.int .u8 41), .lit (.int .u8 37), .lit (.int .u8 16), .lit (.int .u8 46), .lit (.int .u8 35), .lit (.int .u8 44), .lit (.int .u8 21), .lit (.int .u8 52), .lit (.int .u8 32), .lit (.int .u8 23), .lit (.int .u8 11), .lit (.int .u8 54), .lit (.int .u8 26), .lit (.int .u8 40), .lit (.int .u8 15), .lit (.int .u8 34), .lit (.int .u8 20), .lit (.int .u8 31), .lit (.int .u8 10), .lit (.int .u8 25), .lit (.int .u8 14), .lit (.int .u8 19), .lit (.int .u8 9), .lit (.int .u8 13), .lit (.int .u8 8), .lit (.int .u8 7), .lit (.int .u8 6)]
def laid_pneumatic_truth_columns {H : Type} : DataW H := .agg [.lit (.int .u64 12297829382473034410), .lit (.int .u64 14757395258967641292), .lit (.int .u64 17361641481138401520), .lit (.int .u64 18374966859414961920), .lit (.int .u64 18446462603027742720), .lit (.int .u64 18446744069414584320)]

/-- 'pneumaticlaw04.TruthMakes': WHATEVER THE INPUT: true; the input reads as it did. -/
def truthMakesSpec : ChangeSpec := { name := "truthMakes", fn := fun _ => fun
  | [d1, d2, d3] => { results := [.lit (.bool true)], args := [d1, d2, d3] }
  | _ => none }
def truthMakesRow : OpenClaim := { program := "ytmmcakeedejbnaadoor", sum := "4879514b6314b8a7905ff6418a266eeac450cba1d12d6df4ec4e84f409b7ed0d", func := "pneumatic/pneumaticlaw04.TruthMakes", spec := "truthMakes", inPlace := ["internal/bytealg.MakeNoZero"], unfollowed := true, recurses := true, named := ["pneumatic/truth.columns", "math/bits.deBruijn64tab", "math/bits.deBruijn32tab"], apart := false, laid := [("math/bits.deBruijn32tab", laid_math_bits_deBruijn32tab), ("math/bits.deBruijn64tab", laid_math_bits_deBruijn64tab), ("pneumatic/truth.columns", laid_pneumatic_truth_columns)] }
def TruthMakesSaid : Prop := truthMakesRow.holds Tryd.pinned (OpenSpec.ofChange truthMakesSpec)

/-- ITS FALSE NEIGHBOUR: 'it returns false'. Refute it at one input. -/
def truthMakesWrong : ChangeSpec := { name := "truthMakes", fn := fun _ => fun
  | [d1, d2, d3] => { results := [.lit (.bool false)], args := [d1, d2, d3] }
  | _ => none }
def TruthMakesWrongFalsely : Prop := truthMakesRow.holds Tryd.pinned (OpenSpec.ofChange truthMakesWrong)

/-- 'pneumaticlaw04.TruthJoins': WHATEVER THE INPUT: true; the input reads as it did. -/
def truthJoinsSpec : ChangeSpec := { name := "truthJoins", fn := fun _ => fun
  | [d1, d2] => { results := [.lit (.bool true)], args := [d1, d2] }
  | _ => none }
def truthJoinsRow : OpenClaim := { program := "ytmmcakeedejbnaadoor", sum := "4879514b6314b8a7905ff6418a266eeac450cba1d12d6df4ec4e84f409b7ed0d", func := "pneumatic/pneumaticlaw04.TruthJoins", spec := "truthJoins", inPlace := ["internal/bytealg.MakeNoZero"], unfollowed := true, recurses := true, named := ["pneumatic/truth.columns", "math/bits.deBruijn64tab", "math/bits.deBruijn32tab"], apart := false, laid := [("math/bits.deBruijn32tab", laid_math_bits_deBruijn32tab), ("math/bits.deBruijn64tab", laid_math_bits_deBruijn64tab), ("pneumatic/truth.columns", laid_pneumatic_truth_columns)] }
def TruthJoinsSaid : Prop := truthJoinsRow.holds Tryd.pinned (OpenSpec.ofChange truthJoinsSpec)

/-- ITS FALSE NEIGHBOUR: 'it returns false'. Refute it at one input. -/
def truthJoinsWrong : ChangeSpec := { name := "truthJoins", fn := fun _ => fun
  | [d1, d2] => { results := [.lit (.bool false)], args := [d1, d2] }
  | _ => none }
def TruthJoinsWrongFalsely : Prop := truthJoinsRow.holds Tryd.pinned (OpenSpec.ofChange truthJoinsWrong)

/-- 'pneumaticlaw04.TruthDepends': WHATEVER THE INPUT: true; the input reads as it did. -/
def truthDependsSpec : ChangeSpec := { name := "truthDepends", fn := fun _ => fun
  | [d1, d2, d3] => { results := [.lit (.bool true)], args := [d1, d2, d3] }
  | _ => none }
def truthDependsRow : OpenClaim := { program := "ytmmcakeedejbnaadoor", sum := "4879514b6314b8a7905ff6418a266eeac450cba1d12d6df4ec4e84f409b7ed0d", func := "pneumatic/pneumaticlaw04.TruthDepends", spec := "truthDepends", inPlace := ["internal/bytealg.MakeNoZero"], unfollowed := true, recurses := true, named := ["pneumatic/truth.columns", "math/bits.deBruijn64tab", "math/bits.deBruijn32tab"], apart := false, laid := [("math/bits.deBruijn32tab", laid_math_bits_deBruijn32tab), ("math/bits.deBruijn64tab", laid_math_bits_deBruijn64tab), ("pneumatic/truth.columns", laid_pneumatic_truth_columns)] }
def TruthDependsSaid : Prop := truthDependsRow.holds Tryd.pinned (OpenSpec.ofChange truthDependsSpec)

/-- ITS FALSE NEIGHBOUR: 'it returns false'. Refute it at one input. -/
def truthDependsWrong : ChangeSpec := { name := "truthDepends", fn := fun _ => fun
  | [d1, d2, d3] => { results := [.lit (.bool false)], args := [d1, d2, d3] }
  | _ => none }
def TruthDependsWrongFalsely : Prop := truthDependsRow.holds Tryd.pinned (OpenSpec.ofChange truthDependsWrong)

/-- 'pneumaticlaw04.TruthRenames': WHATEVER THE INPUT: true; the input reads as it did. -/
def truthRenamesSpec : ChangeSpec := { name := "truthRenames", fn := fun _ => fun
  | [d1, d2] => { results := [.lit (.bool true)], args := [d1, d2] }
  | _ => none }
def truthRenamesRow : OpenClaim := { program := "ytmmcakeedejbnaadoor", sum := "4879514b6314b8a7905ff6418a266eeac450cba1d12d6df4ec4e84f409b7ed0d", func := "pneumatic/pneumaticlaw04.TruthRenames", spec := "truthRenames", inPlace := ["internal/bytealg.MakeNoZero"], unfollowed := true, recurses := true, named := ["pneumatic/truth.columns", "math/bits.deBruijn64tab", "math/bits.deBruijn32tab"], apart := false, laid := [("math/bits.deBruijn32tab", laid_math_bits_deBruijn32tab), ("math/bits.deBruijn64tab", laid_math_bits_deBruijn64tab), ("pneumatic/truth.columns", laid_pneumatic_truth_columns)] }
def TruthRenamesSaid : Prop := truthRenamesRow.holds Tryd.pinned (OpenSpec.ofChange truthRenamesSpec)

/-- ITS FALSE NEIGHBOUR: 'it returns false'. Refute it at one input. -/
def truthRenamesWrong : ChangeSpec := { name := "truthRenames", fn := fun _ => fun
  | [d1, d2] => { results := [.lit (.bool false)], args := [d1, d2] }
  | _ => none }
def TruthRenamesWrongFalsely : Prop := truthRenamesRow.holds Tryd.pinned (OpenSpec.ofChange truthRenamesWrong)

/-- 'pneumaticlaw04.TruthTexts': WHATEVER THE INPUT: true; the input reads as it did. -/
def truthTextsSpec : ChangeSpec := { name := "truthTexts", fn := fun _ => fun
  | [d1, d2] => { results := [.lit (.bool true)], args := [d1, d2] }
  | _ => none }
def truthTextsRow : OpenClaim := { program := "ytmmcakeedejbnaadoor", sum := "4879514b6314b8a7905ff6418a266eeac450cba1d12d6df4ec4e84f409b7ed0d", func := "pneumatic/pneumaticlaw04.TruthTexts", spec := "truthTexts", inPlace := ["internal/bytealg.MakeNoZero"], unfollowed := true, recurses := true, named := ["pneumatic/truth.columns", "math/bits.deBruijn64tab", "math/bits.deBruijn32tab"], apart := false, laid := [("math/bits.deBruijn32tab", laid_math_bits_deBruijn32tab), ("math/bits.deBruijn64tab", laid_math_bits_deBruijn64tab), ("pneumatic/truth.columns", laid_pneumatic_truth_columns)] }
def TruthTextsSaid : Prop := truthTextsRow.holds Tryd.pinned (OpenSpec.ofChange truthTextsSpec)

/-- ITS FALSE NEIGHBOUR: 'it returns false'. Refute it at one input. -/
def truthTextsWrong : ChangeSpec := { name := "truthTexts", fn := fun _ => fun
  | [d1, d2] => { results := [.lit (.bool false)], args := [d1, d2] }
  | _ => none }
def TruthTextsWrongFalsely : Prop := truthTextsRow.holds Tryd.pinned (OpenSpec.ofChange truthTextsWrong)

/-- 'pneumaticlaw04.TruthAlgebra': WHATEVER THE INPUT: true; the input reads as it did. -/
def truthAlgebraSpec : ChangeSpec := { name := "truthAlgebra", fn := fun _ => fun
  | [d1, d2, d3] => { results := [.lit (.bool true)], args := [d1, d2, d3] }
  | _ => none }
def truthAlgebraRow : OpenClaim := { program := "ytmmcakeedejbnaadoor", sum := "4879514b6314b8a7905ff6418a266eeac450cba1d12d6df4ec4e84f409b7ed0d", func := "pneumatic/pneumaticlaw04.TruthAlgebra", spec := "truthAlgebra", inPlace := ["internal/bytealg.MakeNoZero"], unfollowed := true, recurses := true, named := ["pneumatic/truth.columns", "math/bits.deBruijn64tab", "math/bits.deBruijn32tab"], apart := false, laid := [("math/bits.deBruijn32tab", laid_math_bits_deBruijn32tab), ("math/bits.deBruijn64tab", laid_math_bits_deBruijn64tab), ("pneumatic/truth.columns", laid_pneumatic_truth_columns)] }
def TruthAlgebraSaid : Prop := truthAlgebraRow.holds Tryd.pinned (OpenSpec.ofChange truthAlgebraSpec)

/-- ITS FALSE NEIGHBOUR: 'it returns false'. Refute it at one input. -/
def truthAlgebraWrong : ChangeSpec := { name := "truthAlgebra", fn := fun _ => fun
  | [d1, d2, d3] => { results := [.lit (.bool false)], args := [d1, d2, d3] }
  | _ => none }
def TruthAlgebraWrongFalsely : Prop := truthAlgebraRow.holds Tryd.pinned (OpenSpec.ofChange truthAlgebraWrong)

/-- 'pneumaticlaw04.TruthSplits': WHATEVER THE INPUT: true; the input reads as it did. -/
def truthSplitsSpec : ChangeSpec := { name := "truthSplits", fn := fun _ => fun
  | [d1, d2] => { results := [.lit (.bool true)], args := [d1, d2] }
  | _ => none }
def truthSplitsRow : OpenClaim := { program := "ytmmcakeedejbnaadoor", sum := "4879514b6314b8a7905ff6418a266eeac450cba1d12d6df4ec4e84f409b7ed0d", func := "pneumatic/pneumaticlaw04.TruthSplits", spec := "truthSplits", inPlace := ["internal/bytealg.MakeNoZero"], unfollowed := true, recurses := true, named := ["pneumatic/truth.columns", "math/bits.deBruijn64tab", "math/bits.deBruijn32tab"], apart := false, laid := [("math/bits.deBruijn32tab", laid_math_bits_deBruijn32tab), ("math/bits.deBruijn64tab", laid_math_bits_deBruijn64tab), ("pneumatic/truth.columns", laid_pneumatic_truth_columns)] }
def TruthSplitsSaid : Prop := truthSplitsRow.holds Tryd.pinned (OpenSpec.ofChange truthSplitsSpec)

/-- ITS FALSE NEIGHBOUR: 'it returns false'. Refute it at one input. -/
def truthSplitsWrong : ChangeSpec := { name := "truthSplits", fn := fun _ => fun
  | [d1, d2] => { results := [.lit (.bool false)], args := [d1, d2] }
  | _ => none }
def TruthSplitsWrongFalsely : Prop := truthSplitsRow.holds Tryd.pinned (OpenSpec.ofChange truthSplitsWrong)

/-- 'pneumaticlaw04.TruthReturns': WHATEVER THE INPUT: true; the input reads as it did. -/
def truthReturnsSpec : ChangeSpec := { name := "truthReturns", fn := fun _ => fun
  | [d1, d2] => { results := [.lit (.bool true)], args := [d1, d2] }
  | _ => none }
def truthReturnsRow : OpenClaim := { program := "ytmmcakeedejbnaadoor", sum := "4879514b6314b8a7905ff6418a266eeac450cba1d12d6df4ec4e84f409b7ed0d", func := "pneumatic/pneumaticlaw04.TruthReturns", spec := "truthReturns", inPlace := ["internal/bytealg.MakeNoZero"], unfollowed := true, recurses := true, named := ["pneumatic/truth.columns", "math/bits.deBruijn64tab", "math/bits.deBruijn32tab"], apart := false, laid := [("math/bits.deBruijn32tab", laid_math_bits_deBruijn32tab), ("math/bits.deBruijn64tab", laid_math_bits_deBruijn64tab), ("pneumatic/truth.columns", laid_pneumatic_truth_columns)] }
def TruthReturnsSaid : Prop := truthReturnsRow.holds Tryd.pinned (OpenSpec.ofChange truthReturnsSpec)

/-- ITS FALSE NEIGHBOUR: 'it returns false'. Refute it at one input. -/
def truthReturnsWrong : ChangeSpec := { name := "truthReturns", fn := fun _ => fun
  | [d1, d2] => { results := [.lit (.bool false)], args := [d1, d2] }
  | _ => none }
def TruthReturnsWrongFalsely : Prop := truthReturnsRow.holds Tryd.pinned (OpenSpec.ofChange truthReturnsWrong)

/- THE SECOND FORM. 'bulk': how many values and letters a reading holds, each counted each time it is reached (what is shared counts as often as it is met; a slice's spare places count too). A statement '..UptoSaid' is the law's where the arguments, and the package variables that the reading takes, are together of bulk at most 1048576: NARROWER than '..Said'. Prove '..Said' where nothing that the law and all that it calls make is longer than what came in: it says more and counts as full. Else prove '..UptoSaid'. A law counts once. -/
mutual
def uptoBulk {H : Type} : DataW H → Nat
  | .lit (.string bytes) => bytes.length + 1
  | .lit _ => 1
  | .nil => 1
  | .ptr d => uptoBulk d + 1
  | .slice elems spare => uptoBulkAll elems + uptoBulkAll spare + 1
  | .agg parts => uptoBulkAll parts + 1
  | .iface _ d => uptoBulk d + 1
  | .map entries => uptoBulkEntries entries + 1
  | .held _ => 1
def uptoBulkAll {H : Type} : List (DataW H) → Nat
  | [] => 0
  | d :: r => uptoBulk d + uptoBulkAll r
def uptoBulkEntries {H : Type} : List (Lit × DataW H) → Nat
  | [] => 0
  | x :: r => uptoBulkEntry x + uptoBulkEntries r
def uptoBulkEntry {H : Type} : Lit × DataW H → Nat
  | (.string bytes, d) => bytes.length + uptoBulk d + 1
  | (_, d) => uptoBulk d + 1
 end
def uptoSmall : (H : Type) → List (DataW H) → Bool := fun _ ds => decide (uptoBulkAll ds ≤ 1048576)
def OpenSpec.upto (s : _root_.Go.ChangeSpec) : _root_.Go.OpenSpec := { _root_.Go.OpenSpec.ofChange s with cond := some uptoSmall }

/-- 'pneumaticlaw04.TruthMakes', WHERE WHAT IT READS IS OF BULK AT MOST 1048576: true; the input reads as it did. -/
def truthMakesUptoRow : OpenClaim := { program := "ytmmcakeedejbnaadoor", sum := "4879514b6314b8a7905ff6418a266eeac450cba1d12d6df4ec4e84f409b7ed0d", func := "pneumatic/pneumaticlaw04.TruthMakes", spec := "truthMakes", inPlace := ["internal/bytealg.MakeNoZero"], unfollowed := true, recurses := true, named := ["pneumatic/truth.columns", "math/bits.deBruijn64tab", "math/bits.deBruijn32tab"], apart := false, laid := [("math/bits.deBruijn32tab", laid_math_bits_deBruijn32tab), ("math/bits.deBruijn64tab", laid_math_bits_deBruijn64tab), ("pneumatic/truth.columns", laid_pneumatic_truth_columns)], narrowed := true }
def TruthMakesUptoSaid : Prop := truthMakesUptoRow.holds Tryd.pinned (OpenSpec.upto truthMakesSpec)

/-- 'pneumaticlaw04.TruthJoins', WHERE WHAT IT READS IS OF BULK AT MOST 1048576: true; the input reads as it did. -/
def truthJoinsUptoRow : OpenClaim := { program := "ytmmcakeedejbnaadoor", sum := "4879514b6314b8a7905ff6418a266eeac450cba1d12d6df4ec4e84f409b7ed0d", func := "pneumatic/pneumaticlaw04.TruthJoins", spec := "truthJoins", inPlace := ["internal/bytealg.MakeNoZero"], unfollowed := true, recurses := true, named := ["pneumatic/truth.columns", "math/bits.deBruijn64tab", "math/bits.deBruijn32tab"], apart := false, laid := [("math/bits.deBruijn32tab", laid_math_bits_deBruijn32tab), ("math/bits.deBruijn64tab", laid_math_bits_deBruijn64tab), ("pneumatic/truth.columns", laid_pneumatic_truth_columns)], narrowed := true }
def TruthJoinsUptoSaid : Prop := truthJoinsUptoRow.holds Tryd.pinned (OpenSpec.upto truthJoinsSpec)

/-- 'pneumaticlaw04.TruthDepends', WHERE WHAT IT READS IS OF BULK AT MOST 1048576: true; the input reads as it did. -/
def truthDependsUptoRow : OpenClaim := { program := "ytmmcakeedejbnaadoor", sum := "4879514b6314b8a7905ff6418a266eeac450cba1d12d6df4ec4e84f409b7ed0d", func := "pneumatic/pneumaticlaw04.TruthDepends", spec := "truthDepends", inPlace := ["internal/bytealg.MakeNoZero"], unfollowed := true, recurses := true, named := ["pneumatic/truth.columns", "math/bits.deBruijn64tab", "math/bits.deBruijn32tab"], apart := false, laid := [("math/bits.deBruijn32tab", laid_math_bits_deBruijn32tab), ("math/bits.deBruijn64tab", laid_math_bits_deBruijn64tab), ("pneumatic/truth.columns", laid_pneumatic_truth_columns)], narrowed := true }
def TruthDependsUptoSaid : Prop := truthDependsUptoRow.holds Tryd.pinned (OpenSpec.upto truthDependsSpec)

/-- 'pneumaticlaw04.TruthRenames', WHERE WHAT IT READS IS OF BULK AT MOST 1048576: true; the input reads as it did. -/
def truthRenamesUptoRow : OpenClaim := { program := "ytmmcakeedejbnaadoor", sum := "4879514b6314b8a7905ff6418a266eeac450cba1d12d6df4ec4e84f409b7ed0d", func := "pneumatic/pneumaticlaw04.TruthRenames", spec := "truthRenames", inPlace := ["internal/bytealg.MakeNoZero"], unfollowed := true, recurses := true, named := ["pneumatic/truth.columns", "math/bits.deBruijn64tab", "math/bits.deBruijn32tab"], apart := false, laid := [("math/bits.deBruijn32tab", laid_math_bits_deBruijn32tab), ("math/bits.deBruijn64tab", laid_math_bits_deBruijn64tab), ("pneumatic/truth.columns", laid_pneumatic_truth_columns)], narrowed := true }
def TruthRenamesUptoSaid : Prop := truthRenamesUptoRow.holds Tryd.pinned (OpenSpec.upto truthRenamesSpec)

/-- 'pneumaticlaw04.TruthTexts', WHERE WHAT IT READS IS OF BULK AT MOST 1048576: true; the input reads as it did. -/
def truthTextsUptoRow : OpenClaim := { program := "ytmmcakeedejbnaadoor", sum := "4879514b6314b8a7905ff6418a266eeac450cba1d12d6df4ec4e84f409b7ed0d", func := "pneumatic/pneumaticlaw04.TruthTexts", spec := "truthTexts", inPlace := ["internal/bytealg.MakeNoZero"], unfollowed := true, recurses := true, named := ["pneumatic/truth.columns", "math/bits.deBruijn64tab", "math/bits.deBruijn32tab"], apart := false, laid := [("math/bits.deBruijn32tab", laid_math_bits_deBruijn32tab), ("math/bits.deBruijn64tab", laid_math_bits_deBruijn64tab), ("pneumatic/truth.columns", laid_pneumatic_truth_columns)], narrowed := true }
def TruthTextsUptoSaid : Prop := truthTextsUptoRow.holds Tryd.pinned (OpenSpec.upto truthTextsSpec)

/-- 'pneumaticlaw04.TruthAlgebra', WHERE WHAT IT READS IS OF BULK AT MOST 1048576: true; the input reads as it did. -/
def truthAlgebraUptoRow : OpenClaim := { program := "ytmmcakeedejbnaadoor", sum := "4879514b6314b8a7905ff6418a266eeac450cba1d12d6df4ec4e84f409b7ed0d", func := "pneumatic/pneumaticlaw04.TruthAlgebra", spec := "truthAlgebra", inPlace := ["internal/bytealg.MakeNoZero"], unfollowed := true, recurses := true, named := ["pneumatic/truth.columns", "math/bits.deBruijn64tab", "math/bits.deBruijn32tab"], apart := false, laid := [("math/bits.deBruijn32tab", laid_math_bits_deBruijn32tab), ("math/bits.deBruijn64tab", laid_math_bits_deBruijn64tab), ("pneumatic/truth.columns", laid_pneumatic_truth_columns)], narrowed := true }
def TruthAlgebraUptoSaid : Prop := truthAlgebraUptoRow.holds Tryd.pinned (OpenSpec.upto truthAlgebraSpec)

/-- 'pneumaticlaw04.TruthSplits', WHERE WHAT IT READS IS OF BULK AT MOST 1048576: true; the input reads as it did. -/
def truthSplitsUptoRow : OpenClaim := { program := "ytmmcakeedejbnaadoor", sum := "4879514b6314b8a7905ff6418a266eeac450cba1d12d6df4ec4e84f409b7ed0d", func := "pneumatic/pneumaticlaw04.TruthSplits", spec := "truthSplits", inPlace := ["internal/bytealg.MakeNoZero"], unfollowed := true, recurses := true, named := ["pneumatic/truth.columns", "math/bits.deBruijn64tab", "math/bits.deBruijn32tab"], apart := false, laid := [("math/bits.deBruijn32tab", laid_math_bits_deBruijn32tab), ("math/bits.deBruijn64tab", laid_math_bits_deBruijn64tab), ("pneumatic/truth.columns", laid_pneumatic_truth_columns)], narrowed := true }
def TruthSplitsUptoSaid : Prop := truthSplitsUptoRow.holds Tryd.pinned (OpenSpec.upto truthSplitsSpec)

/-- 'pneumaticlaw04.TruthReturns', WHERE WHAT IT READS IS OF BULK AT MOST 1048576: true; the input reads as it did. -/
def truthReturnsUptoRow : OpenClaim := { program := "ytmmcakeedejbnaadoor", sum := "4879514b6314b8a7905ff6418a266eeac450cba1d12d6df4ec4e84f409b7ed0d", func := "pneumatic/pneumaticlaw04.TruthReturns", spec := "truthReturns", inPlace := ["internal/bytealg.MakeNoZero"], unfollowed := true, recurses := true, named := ["pneumatic/truth.columns", "math/bits.deBruijn64tab", "math/bits.deBruijn32tab"], apart := false, laid := [("math/bits.deBruijn32tab", laid_math_bits_deBruijn32tab), ("math/bits.deBruijn64tab", laid_math_bits_deBruijn64tab), ("pneumatic/truth.columns", laid_pneumatic_truth_columns)], narrowed := true }
def TruthReturnsUptoSaid : Prop := truthReturnsUptoRow.holds Tryd.pinned (OpenSpec.upto truthReturnsSpec)

end Rows
end Go.Proofs.YtmmcakeedejbnaaDoor
