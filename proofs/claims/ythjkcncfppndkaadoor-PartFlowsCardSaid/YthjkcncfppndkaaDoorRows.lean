/-
  NARROWER THAN 'FOR EVERY INPUT', by the rows' own cells (each row's printed sentence says how): PartNames: laid · PartPorts: laid · PartPasses: laid · PartMoves: laid · PartReads: laid · PartFlows: laid · PartSettles: laid.
  DERIVED. THE GIVEN ROWS OF THIS SEAT. 7 by the template 'for every input the law returns true; each argument reads behind the call as it read before'; 0 by the template 'total and deterministic' (their statements: YthjkcncfppndkaaDoorTotals.lean).
  GIVEN WITH THE SEED: the statements are not yours to turn. If you find one false, say at which input.
  Laid BY PROGRAM, IN A SANDBOX (cutbox-rows.mjs): the forced cells as the released guide's own fill.sh prints them over the translation 7cb5c3dc26897ab5… (all of the seat's roots in one cut). By AI agents, Wed Nov 11 2026. No macro, syntax, notation, axiom, sorry.
-/
import Derived.Test.YthjkcncfppndkaaDoorChecked
import GoSem.Claim
import GoSem.ClaimJoined
import GoSem.ClaimMapViews
import Derived.JoinedTies
import Derived.KernelRfl
namespace Go.Proofs.YthjkcncfppndkaaDoor
/- THE CELL 'sum', in the pinned program and in every row, IS THE sha256 OF THE DUMP (.gsa) THAT YthjkcncfppndkaaDoorProg.lean LOADS. Nothing in Lean hashes anything: it is a label: what it is worth is what the hold of that sum in a sandbox is worth. -/
noncomputable def Tryd.pinned : Pinned := { name := "ythjkcncfppndkaadoor", sum := "7cb5c3dc26897ab5b3c9debe4a4b411be10bb7502cc05bec5428c67ca863339c", checked := Tryd.checked }
namespace Rows
def none {H : Type} : Left H := { results := [], args := [] }

/- WHAT THE LISTED PACKAGE-LEVEL VARIABLES READ AS WHEN THE CALL BEGINS. Each datum BY PROGRAM (the guide's laid-datum.mjs) off the statement by which the dump's own 'gosem.cut.vars' lays the variable. In a bare row this is a premise. The card (YthjkcncfppndkaaDoorCards.lean) ties it to the program's text. -/
def laid_pneumatic_lexer_members {H : Type} : DataW H := .agg [.lit (.string []), .lit (.string [32, 10]), .lit (.string [43, 45, 42, 47, 40, 41, 91, 93, 123, 125, 60, 62, 61, 44, 59, 58, 124, 38, 33, 35, 46]), .lit (.string [48, 49, 50, 51, 52, 53, 54, 55, 56, 57]), .lit (.string [95]), .lit (.string [65, 66, 67, 68, 69, 70, 71, 72, 73, 74, 75, 76, 77, 78, 79, 80, 81, 82, 83, 84, 85, 86, 87, 88, 89, 90, 97, 98, 99, 100, 101, 102, 103, 104, 105, 106, 107, 108, 109, 110, 111, 112, 113, 114, 115, 116, 117, 118, 119, 120, 121, 122])]
def laid_pneumatic_lexer_goesOn {H : Type} : DataW H := .agg [.agg [.lit (.bool false), .lit (.bool false), .lit (.bool false), .lit (.bool false), .lit (.bool false), .lit (.bool false)], .agg [.lit (.bool false), .lit (.bool true), .lit (.bool false), .lit (.bool false), .lit (.bool false), .lit (.bool false)], .agg [.lit (.bool false), .lit (.bool false), .lit (.bool false), .lit (.bool false), .lit (.bool false), .lit (.bool false)], .agg [.lit (.bool false), .lit (.bool false), .lit (.bool false), .lit (.bool true), .lit (.bool false), .lit (.bool false)], .agg [.lit (.bool false), .lit (.bool false), .lit (.bool false), .lit (.bool false), .lit (.bool false), .lit (.bool false)], .agg [.lit (.bool false), .lit (.bool false), .lit (.bool false), .lit (.bool true), .lit (.bool true), .lit (.bool true)]]

/-- 'pneumaticlaw20.PartNames': WHATEVER THE INPUT: true; the input reads as it did. -/
def partNamesSpec : ChangeSpec := { name := "partNames", fn := fun _ => fun
  | [d1, d2, d3] => { results := [.lit (.bool true)], args := [d1, d2, d3] }
  | _ => none }
def partNamesRow : OpenClaim := { program := "ythjkcncfppndkaadoor", sum := "7cb5c3dc26897ab5b3c9debe4a4b411be10bb7502cc05bec5428c67ca863339c", func := "pneumatic/pneumaticlaw20.PartNames", spec := "partNames", inPlace := ["internal/bytealg.IndexByteString"], unfollowed := true, recurses := true, named := ["pneumatic/lexer.members", "pneumatic/lexer.goesOn"], apart := false, laid := [("pneumatic/lexer.members", laid_pneumatic_lexer_members), ("pneumatic/lexer.goesOn", laid_pneumatic_lexer_goesOn)] }
def PartNamesSaid : Prop := partNamesRow.holds Tryd.pinned (OpenSpec.ofChange partNamesSpec)

/-- ITS FALSE NEIGHBOUR: 'it returns false'. Refute it at one input. -/
def partNamesWrong : ChangeSpec := { name := "partNames", fn := fun _ => fun
  | [d1, d2, d3] => { results := [.lit (.bool false)], args := [d1, d2, d3] }
  | _ => none }
def PartNamesWrongFalsely : Prop := partNamesRow.holds Tryd.pinned (OpenSpec.ofChange partNamesWrong)

/-- 'pneumaticlaw20.PartPorts': WHATEVER THE INPUT: true; the input reads as it did. -/
def partPortsSpec : ChangeSpec := { name := "partPorts", fn := fun _ => fun
  | [d1, d2] => { results := [.lit (.bool true)], args := [d1, d2] }
  | _ => none }
def partPortsRow : OpenClaim := { program := "ythjkcncfppndkaadoor", sum := "7cb5c3dc26897ab5b3c9debe4a4b411be10bb7502cc05bec5428c67ca863339c", func := "pneumatic/pneumaticlaw20.PartPorts", spec := "partPorts", inPlace := ["internal/bytealg.IndexByteString"], unfollowed := true, recurses := true, named := ["pneumatic/lexer.members", "pneumatic/lexer.goesOn"], apart := false, laid := [("pneumatic/lexer.members", laid_pneumatic_lexer_members), ("pneumatic/lexer.goesOn", laid_pneumatic_lexer_goesOn)] }
def PartPortsSaid : Prop := partPortsRow.holds Tryd.pinned (OpenSpec.ofChange partPortsSpec)

/-- ITS FALSE NEIGHBOUR: 'it returns false'. Refute it at one input. -/
def partPortsWrong : ChangeSpec := { name := "partPorts", fn := fun _ => fun
  | [d1, d2] => { results := [.lit (.bool false)], args := [d1, d2] }
  | _ => none }
def PartPortsWrongFalsely : Prop := partPortsRow.holds Tryd.pinned (OpenSpec.ofChange partPortsWrong)

/-- 'pneumaticlaw20.PartPasses': WHATEVER THE INPUT: true; the input reads as it did. -/
def partPassesSpec : ChangeSpec := { name := "partPasses", fn := fun _ => fun
  | [d1, d2] => { results := [.lit (.bool true)], args := [d1, d2] }
  | _ => none }
def partPassesRow : OpenClaim := { program := "ythjkcncfppndkaadoor", sum := "7cb5c3dc26897ab5b3c9debe4a4b411be10bb7502cc05bec5428c67ca863339c", func := "pneumatic/pneumaticlaw20.PartPasses", spec := "partPasses", inPlace := ["internal/bytealg.IndexByteString"], unfollowed := true, recurses := true, named := ["pneumatic/lexer.members", "pneumatic/lexer.goesOn"], apart := false, laid := [("pneumatic/lexer.members", laid_pneumatic_lexer_members), ("pneumatic/lexer.goesOn", laid_pneumatic_lexer_goesOn)] }
def PartPassesSaid : Prop := partPassesRow.holds Tryd.pinned (OpenSpec.ofChange partPassesSpec)

/-- ITS FALSE NEIGHBOUR: 'it returns false'. Refute it at one input. -/
def partPassesWrong : ChangeSpec := { name := "partPasses", fn := fun _ => fun
  | [d1, d2] => { results := [.lit (.bool false)], args := [d1, d2] }
  | _ => none }
def PartPassesWrongFalsely : Prop := partPassesRow.holds Tryd.pinned (OpenSpec.ofChange partPassesWrong)

/-- 'pneumaticlaw20.PartMoves': WHATEVER THE INPUT: true; the input reads as it did. -/
def partMovesSpec : ChangeSpec := { name := "partMoves", fn := fun _ => fun
  | [d1, d2, d3] => { results := [.lit (.bool true)], args := [d1, d2, d3] }
  | _ => none }
def partMovesRow : OpenClaim := { program := "ythjkcncfppndkaadoor", sum := "7cb5c3dc26897ab5b3c9debe4a4b411be10bb7502cc05bec5428c67ca863339c", func := "pneumatic/pneumaticlaw20.PartMoves", spec := "partMoves", inPlace := ["internal/bytealg.IndexByteString"], unfollowed := true, recurses := true, named := ["pneumatic/lexer.members", "pneumatic/lexer.goesOn"], apart := false, laid := [("pneumatic/lexer.members", laid_pneumatic_lexer_members), ("pneumatic/lexer.goesOn", laid_pneumatic_lexer_goesOn)] }
def PartMovesSaid : Prop := partMovesRow.holds Tryd.pinned (OpenSpec.ofChange partMovesSpec)

/-- ITS FALSE NEIGHBOUR: 'it returns false'. Refute it at one input. -/
def partMovesWrong : ChangeSpec := { name := "partMoves", fn := fun _ => fun
  | [d1, d2, d3] => { results := [.lit (.bool false)], args := [d1, d2, d3] }
  | _ => none }
def PartMovesWrongFalsely : Prop := partMovesRow.holds Tryd.pinned (OpenSpec.ofChange partMovesWrong)

/-- 'pneumaticlaw20.PartReads': WHATEVER THE INPUT: true; the input reads as it did. -/
def partReadsSpec : ChangeSpec := { name := "partReads", fn := fun _ => fun
  | [d1, d2, d3] => { results := [.lit (.bool true)], args := [d1, d2, d3] }
  | _ => none }
def partReadsRow : OpenClaim := { program := "ythjkcncfppndkaadoor", sum := "7cb5c3dc26897ab5b3c9debe4a4b411be10bb7502cc05bec5428c67ca863339c", func := "pneumatic/pneumaticlaw20.PartReads", spec := "partReads", inPlace := ["internal/bytealg.IndexByteString"], unfollowed := true, recurses := true, named := ["pneumatic/lexer.members", "pneumatic/lexer.goesOn"], apart := false, laid := [("pneumatic/lexer.members", laid_pneumatic_lexer_members), ("pneumatic/lexer.goesOn", laid_pneumatic_lexer_goesOn)] }
def PartReadsSaid : Prop := partReadsRow.holds Tryd.pinned (OpenSpec.ofChange partReadsSpec)

/-- ITS FALSE NEIGHBOUR: 'it returns false'. Refute it at one input. -/
def partReadsWrong : ChangeSpec := { name := "partReads", fn := fun _ => fun
  | [d1, d2, d3] => { results := [.lit (.bool false)], args := [d1, d2, d3] }
  | _ => none }
def PartReadsWrongFalsely : Prop := partReadsRow.holds Tryd.pinned (OpenSpec.ofChange partReadsWrong)

/-- 'pneumaticlaw20.PartFlows': WHATEVER THE INPUT: true; the input reads as it did. -/
def partFlowsSpec : ChangeSpec := { name := "partFlows", fn := fun _ => fun
  | [d1, d2] => { results := [.lit (.bool true)], args := [d1, d2] }
  | _ => none }
def partFlowsRow : OpenClaim := { program := "ythjkcncfppndkaadoor", sum := "7cb5c3dc26897ab5b3c9debe4a4b411be10bb7502cc05bec5428c67ca863339c", func := "pneumatic/pneumaticlaw20.PartFlows", spec := "partFlows", inPlace := ["internal/bytealg.IndexByteString"], unfollowed := true, recurses := true, named := ["pneumatic/lexer.members", "pneumatic/lexer.goesOn"], apart := false, laid := [("pneumatic/lexer.members", laid_pneumatic_lexer_members), ("pneumatic/lexer.goesOn", laid_pneumatic_lexer_goesOn)] }
def PartFlowsSaid : Prop := partFlowsRow.holds Tryd.pinned (OpenSpec.ofChange partFlowsSpec)

/-- ITS FALSE NEIGHBOUR: 'it returns false'. Refute it at one input. -/
def partFlowsWrong : ChangeSpec := { name := "partFlows", fn := fun _ => fun
  | [d1, d2] => { results := [.lit (.bool false)], args := [d1, d2] }
  | _ => none }
def PartFlowsWrongFalsely : Prop := partFlowsRow.holds Tryd.pinned (OpenSpec.ofChange partFlowsWrong)

/-- 'pneumaticlaw20.PartSettles': WHATEVER THE INPUT: true; the input reads as it did. -/
def partSettlesSpec : ChangeSpec := { name := "partSettles", fn := fun _ => fun
  | [d1, d2, d3] => { results := [.lit (.bool true)], args := [d1, d2, d3] }
  | _ => none }
def partSettlesRow : OpenClaim := { program := "ythjkcncfppndkaadoor", sum := "7cb5c3dc26897ab5b3c9debe4a4b411be10bb7502cc05bec5428c67ca863339c", func := "pneumatic/pneumaticlaw20.PartSettles", spec := "partSettles", inPlace := ["internal/bytealg.IndexByteString"], unfollowed := true, recurses := true, named := ["pneumatic/lexer.members", "pneumatic/lexer.goesOn"], apart := false, laid := [("pneumatic/lexer.members", laid_pneumatic_lexer_members), ("pneumatic/lexer.goesOn", laid_pneumatic_lexer_goesOn)] }
def PartSettlesSaid : Prop := partSettlesRow.holds Tryd.pinned (OpenSpec.ofChange partSettlesSpec)

/-- ITS FALSE NEIGHBOUR: 'it returns false'. Refute it at one input. -/
def partSettlesWrong : ChangeSpec := { name := "partSettles", fn := fun _ => fun
  | [d1, d2, d3] => { results := [.lit (.bool false)], args := [d1, d2, d3] }
  | _ => none }
def PartSettlesWrongFalsely : Prop := partSettlesRow.holds Tryd.pinned (OpenSpec.ofChange partSettlesWrong)

/- THE SECOND FORM. 'bulk': how many values and letters a reading holds, each counted each time it is reached (what is shared counts as often as it is met; a slice's spare places count too). A statement '..UptoSaid' is the law's where the arguments, and the package variables that the reading takes, are together of bulk at most 1048576: NARROWER than '..Said'. Prove '..Said' where nothing that the law and all that it calls make is longer than what came in: it says more and counts as full. Else prove '..UptoSaid'. A law counts once. -/
mutual
def uptoBulk {H : Type} : DataW H → Nat
  | .lit (.string bytes) => bytes.length + 1
  | .lit _ => 1
  | .nil => 1
  | .ptr d => uptoBulk d + 1
  | .slice elems spare => uptoBulkAll elems + uptoBulkAll spare + 1
  | .agg parts => uptoBulkAll parts + 1
  | .iface _ d => uptoBulk d + 1
  | .map entries => uptoBulkEntries entries + 1
  | .held _ => 1
def uptoBulkAll {H : Type} : List (DataW H) → Nat
  | [] => 0
  | d :: r => uptoBulk d + uptoBulkAll r
def uptoBulkEntries {H : Type} : List (Lit × DataW H) → Nat
  | [] => 0
  | x :: r => uptoBulkEntry x + uptoBulkEntries r
def uptoBulkEntry {H : Type} : Lit × DataW H → Nat
  | (.string bytes, d) => bytes.length + uptoBulk d + 1
  | (_, d) => uptoBulk d + 1
 end
def uptoSmall : (H : Type) → List (DataW H) → Bool := fun _ ds => decide (uptoBulkAll ds ≤ 1048576)
def OpenSpec.upto (s : _root_.Go.ChangeSpec) : _root_.Go.OpenSpec := { _root_.Go.OpenSpec.ofChange s with cond := some uptoSmall }

/-- 'pneumaticlaw20.PartNames', WHERE WHAT IT READS IS OF BULK AT MOST 1048576: true; the input reads as it did. -/
def partNamesUptoRow : OpenClaim := { program := "ythjkcncfppndkaadoor", sum := "7cb5c3dc26897ab5b3c9debe4a4b411be10bb7502cc05bec5428c67ca863339c", func := "pneumatic/pneumaticlaw20.PartNames", spec := "partNames", inPlace := ["internal/bytealg.IndexByteString"], unfollowed := true, recurses := true, named := ["pneumatic/lexer.members", "pneumatic/lexer.goesOn"], apart := false, laid := [("pneumatic/lexer.members", laid_pneumatic_lexer_members), ("pneumatic/lexer.goesOn", laid_pneumatic_lexer_goesOn)], narrowed := true }
def PartNamesUptoSaid : Prop := partNamesUptoRow.holds Tryd.pinned (OpenSpec.upto partNamesSpec)

/-- 'pneumaticlaw20.PartPorts', WHERE WHAT IT READS IS OF BULK AT MOST 1048576: true; the input reads as it did. -/
def partPortsUptoRow : OpenClaim := { program := "ythjkcncfppndkaadoor", sum := "7cb5c3dc26897ab5b3c9debe4a4b411be10bb7502cc05bec5428c67ca863339c", func := "pneumatic/pneumaticlaw20.PartPorts", spec := "partPorts", inPlace := ["internal/bytealg.IndexByteString"], unfollowed := true, recurses := true, named := ["pneumatic/lexer.members", "pneumatic/lexer.goesOn"], apart := false, laid := [("pneumatic/lexer.members", laid_pneumatic_lexer_members), ("pneumatic/lexer.goesOn", laid_pneumatic_lexer_goesOn)], narrowed := true }
def PartPortsUptoSaid : Prop := partPortsUptoRow.holds Tryd.pinned (OpenSpec.upto partPortsSpec)

/-- 'pneumaticlaw20.PartPasses', WHERE WHAT IT READS IS OF BULK AT MOST 1048576: true; the input reads as it did. -/
def partPassesUptoRow : OpenClaim := { program := "ythjkcncfppndkaadoor", sum := "7cb5c3dc26897ab5b3c9debe4a4b411be10bb7502cc05bec5428c67ca863339c", func := "pneumatic/pneumaticlaw20.PartPasses", spec := "partPasses", inPlace := ["internal/bytealg.IndexByteString"], unfollowed := true, recurses := true, named := ["pneumatic/lexer.members", "pneumatic/lexer.goesOn"], apart := false, laid := [("pneumatic/lexer.members", laid_pneumatic_lexer_members), ("pneumatic/lexer.goesOn", laid_pneumatic_lexer_goesOn)], narrowed := true }
def PartPassesUptoSaid : Prop := partPassesUptoRow.holds Tryd.pinned (OpenSpec.upto partPassesSpec)

/-- 'pneumaticlaw20.PartMoves', WHERE WHAT IT READS IS OF BULK AT MOST 1048576: true; the input reads as it did. -/
def partMovesUptoRow : OpenClaim := { program := "ythjkcncfppndkaadoor", sum := "7cb5c3dc26897ab5b3c9debe4a4b411be10bb7502cc05bec5428c67ca863339c", func := "pneumatic/pneumaticlaw20.PartMoves", spec := "partMoves", inPlace := ["internal/bytealg.IndexByteString"], unfollowed := true, recurses := true, named := ["pneumatic/lexer.members", "pneumatic/lexer.goesOn"], apart := false, laid := [("pneumatic/lexer.members", laid_pneumatic_lexer_members), ("pneumatic/lexer.goesOn", laid_pneumatic_lexer_goesOn)], narrowed := true }
def PartMovesUptoSaid : Prop := partMovesUptoRow.holds Tryd.pinned (OpenSpec.upto partMovesSpec)

/-- 'pneumaticlaw20.PartReads', WHERE WHAT IT READS IS OF BULK AT MOST 1048576: true; the input reads as it did. -/
def partReadsUptoRow : OpenClaim := { program := "ythjkcncfppndkaadoor", sum := "7cb5c3dc26897ab5b3c9debe4a4b411be10bb7502cc05bec5428c67ca863339c", func := "pneumatic/pneumaticlaw20.PartReads", spec := "partReads", inPlace := ["internal/bytealg.IndexByteString"], unfollowed := true, recurses := true, named := ["pneumatic/lexer.members", "pneumatic/lexer.goesOn"], apart := false, laid := [("pneumatic/lexer.members", laid_pneumatic_lexer_members), ("pneumatic/lexer.goesOn", laid_pneumatic_lexer_goesOn)], narrowed := true }
def PartReadsUptoSaid : Prop := partReadsUptoRow.holds Tryd.pinned (OpenSpec.upto partReadsSpec)

/-- 'pneumaticlaw20.PartFlows', WHERE WHAT IT READS IS OF BULK AT MOST 1048576: true; the input reads as it did. -/
def partFlowsUptoRow : OpenClaim := { program := "ythjkcncfppndkaadoor", sum := "7cb5c3dc26897ab5b3c9debe4a4b411be10bb7502cc05bec5428c67ca863339c", func := "pneumatic/pneumaticlaw20.PartFlows", spec := "partFlows", inPlace := ["internal/bytealg.IndexByteString"], unfollowed := true, recurses := true, named := ["pneumatic/lexer.members", "pneumatic/lexer.goesOn"], apart := false, laid := [("pneumatic/lexer.members", laid_pneumatic_lexer_members), ("pneumatic/lexer.goesOn", laid_pneumatic_lexer_goesOn)], narrowed := true }
def PartFlowsUptoSaid : Prop := partFlowsUptoRow.holds Tryd.pinned (OpenSpec.upto partFlowsSpec)

/-- 'pneumaticlaw20.PartSettles', WHERE WHAT IT READS IS OF BULK AT MOST 1048576: true; the input reads as it did. -/
def partSettlesUptoRow : OpenClaim := { program := "ythjkcncfppndkaadoor", sum := "7cb5c3dc26897ab5b3c9debe4a4b411be10bb7502cc05bec5428c67ca863339c", func := "pneumatic/pneumaticlaw20.PartSettles", spec := "partSettles", inPlace := ["internal/bytealg.IndexByteString"], unfollowed := true, recurses := true, named := ["pneumatic/lexer.members", "pneumatic/lexer.goesOn"], apart := false, laid := [("pneumatic/lexer.members", laid_pneumatic_lexer_members), ("pneumatic/lexer.goesOn", laid_pneumatic_lexer_goesOn)], narrowed := true }
def PartSettlesUptoSaid : Prop := partSettlesUptoRow.holds Tryd.pinned (OpenSpec.upto partSettlesSpec)

end Rows
end Go.Proofs.YthjkcncfppndkaaDoor
