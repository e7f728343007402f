/-
  NARROWER THAN 'FOR EVERY INPUT', by the rows' own cells (each row's printed sentence says how): EnclosureChecks: laid · EnclosureCompares: laid · EnclosureComputes: laid · EnclosureSquares: laid · EnclosureEncloses: laid · EnclosureNarrows: laid · EnclosureMeets: laid · EnclosureSelf: laid.
  DERIVED. THE GIVEN ROWS OF THIS SEAT. 8 by the template 'for every input the law returns true; each argument reads behind the call as it read before'; 0 by the template 'total and deterministic' (their statements: YtldclpdmcopgnaaGreatDoorTotals.lean).
  GIVEN WITH THE SEED: the statements are not yours to turn. If you find one false, say at which input.
  Laid BY PROGRAM, IN A SANDBOX (cutbox-rows.mjs): the forced cells as the released guide's own fill.sh prints them over the translation 43fb602b860a2c7c… (all of the seat's roots in one cut). By AI agents, Wed Nov 11 2026. No macro, syntax, notation, axiom, sorry.
-/
import Derived.Test.YtldclpdmcopgnaaGreatDoorChecked
import GoSem.PinnedTables
import GoSem.Claim
import GoSem.ClaimJoined
import GoSem.ClaimMapViews
import Derived.JoinedTies
import Derived.KernelRfl
namespace Go.Proofs.YtldclpdmcopgnaaGreatDoor
/- THE CELL 'sum', in the pinned program and in every row, IS THE sha256 OF THE DUMP (.gsa) THAT YtldclpdmcopgnaaGreatDoorProg.lean LOADS. Nothing in Lean hashes anything: it is a label: what it is worth is what the hold of that sum in a sandbox is worth. -/
noncomputable def Tryz.pinned : Pinned := { name := "ytldclpdmcopgnaagreatdoor", sum := "43fb602b860a2c7cefa0096216ac0d076d5abf612d89bc0f9fa8f5b4154dface", checked := Tryz.checked }
namespace Rows
def none {H : Type} : Left H := { results := [], args := [] }

/- WHAT THE LISTED PACKAGE-LEVEL VARIABLES READ AS WHEN THE CALL BEGINS. Each datum BY PROGRAM (the guide's laid-datum.mjs) off the statement by which the dump's own 'gosem.cut.vars' lays the variable. In a bare row this is a premise. The card (YtldclpdmcopgnaaGreatDoorCards.lean) ties it to the program's text. -/
def laid_unicode_utf8_acceptRanges {H : Type} : DataW H := .agg [.agg [.lit (.int .u8 128), .lit (.int .u8 191)], .agg [.lit (.int .u8 160), .lit (.int .u8 191)], .agg [.lit (.int .u8 128), .lit (.int .u8 159)], .agg [.lit (.int .u8 144), .lit (.int .u8 191)], .agg [.lit (.int .u8 128), .lit (.int .u8 143)], .agg [.lit (.int .u8 0), .lit (.int .u8 0)], .agg [.lit (.int .u8 0), .lit (.int .u8 0)], .agg [.lit (.int .u8 0), .lit (.int .u8 0)], .agg [.lit (.int .u8 0), .lit (.int .u8 0)], .agg [.lit (.int .u8 0), .lit (.int .u8 0)], .agg [.lit (.int .u8 0), .lit (.int .u8 0)], .agg [.lit (.int .u8 0), .lit (.int .u8 0)], .agg [.lit (.int .u8 0), .lit (.int .u8 0)], .agg [.lit (.int .u8 0), .lit (.int .u8 0)], .agg [.lit (.int .u8 0), .lit (.int .u8 0)], .agg [.lit (.int .u8 0), .lit (.int .u8 0)]]
/-- One of Go's own tables, pinned by name: the form's constant. -/
def laid_unicode_utf8_first : DataW Unit := Go.Pinned.utf8First

/-- 'pneumaticlaw02.EnclosureChecks': WHATEVER THE INPUT: true; the input reads as it did. -/
def enclosureChecksSpec : ChangeSpec := { name := "enclosureChecks", fn := fun _ => fun
  | [d1, d2] => { results := [.lit (.bool true)], args := [d1, d2] }
  | _ => none }
def enclosureChecksRow : OpenClaim := { program := "ytldclpdmcopgnaagreatdoor", sum := "43fb602b860a2c7cefa0096216ac0d076d5abf612d89bc0f9fa8f5b4154dface", func := "pneumatic/pneumaticlaw02.EnclosureChecks", spec := "enclosureChecks", inPlace := ["internal/bytealg.IndexByteString", "internal/bytealg.IndexString"], unfollowed := true, recurses := true, named := ["internal/bytealg.MaxLen", "unicode/utf8.first", "unicode/utf8.acceptRanges"], apart := false, laid := [("unicode/utf8.acceptRanges", laid_unicode_utf8_acceptRanges), ("unicode/utf8.first", laid_unicode_utf8_first)] }
def EnclosureChecksSaid : Prop := enclosureChecksRow.holds Tryz.pinned (OpenSpec.ofChange enclosureChecksSpec)

/-- ITS FALSE NEIGHBOUR: 'it returns false'. Refute it at one input. -/
def enclosureChecksWrong : ChangeSpec := { name := "enclosureChecks", fn := fun _ => fun
  | [d1, d2] => { results := [.lit (.bool false)], args := [d1, d2] }
  | _ => none }
def EnclosureChecksWrongFalsely : Prop := enclosureChecksRow.holds Tryz.pinned (OpenSpec.ofChange enclosureChecksWrong)

/-- 'pneumaticlaw02.EnclosureCompares': WHATEVER THE INPUT: true; the input reads as it did. -/
def enclosureComparesSpec : ChangeSpec := { name := "enclosureCompares", fn := fun _ => fun
  | [d1, d2] => { results := [.lit (.bool true)], args := [d1, d2] }
  | _ => none }
def enclosureComparesRow : OpenClaim := { program := "ytldclpdmcopgnaagreatdoor", sum := "43fb602b860a2c7cefa0096216ac0d076d5abf612d89bc0f9fa8f5b4154dface", func := "pneumatic/pneumaticlaw02.EnclosureCompares", spec := "enclosureCompares", inPlace := ["internal/bytealg.IndexByteString", "internal/bytealg.IndexString"], unfollowed := true, recurses := true, named := ["internal/bytealg.MaxLen", "unicode/utf8.first", "unicode/utf8.acceptRanges"], apart := false, laid := [("unicode/utf8.acceptRanges", laid_unicode_utf8_acceptRanges), ("unicode/utf8.first", laid_unicode_utf8_first)] }
def EnclosureComparesSaid : Prop := enclosureComparesRow.holds Tryz.pinned (OpenSpec.ofChange enclosureComparesSpec)

/-- ITS FALSE NEIGHBOUR: 'it returns false'. Refute it at one input. -/
def enclosureComparesWrong : ChangeSpec := { name := "enclosureCompares", fn := fun _ => fun
  | [d1, d2] => { results := [.lit (.bool false)], args := [d1, d2] }
  | _ => none }
def EnclosureComparesWrongFalsely : Prop := enclosureComparesRow.holds Tryz.pinned (OpenSpec.ofChange enclosureComparesWrong)

/-- 'pneumaticlaw02.EnclosureComputes': WHATEVER THE INPUT: true; the input reads as it did. -/
def enclosureComputesSpec : ChangeSpec := { name := "enclosureComputes", fn := fun _ => fun
  | [d1, d2] => { results := [.lit (.bool true)], args := [d1, d2] }
  | _ => none }
def enclosureComputesRow : OpenClaim := { program := "ytldclpdmcopgnaagreatdoor", sum := "43fb602b860a2c7cefa0096216ac0d076d5abf612d89bc0f9fa8f5b4154dface", func := "pneumatic/pneumaticlaw02.EnclosureComputes", spec := "enclosureComputes", inPlace := ["internal/bytealg.IndexByteString", "internal/bytealg.IndexString"], unfollowed := true, recurses := true, named := ["internal/bytealg.MaxLen", "unicode/utf8.first", "unicode/utf8.acceptRanges"], apart := false, laid := [("unicode/utf8.acceptRanges", laid_unicode_utf8_acceptRanges), ("unicode/utf8.first", laid_unicode_utf8_first)] }
def EnclosureComputesSaid : Prop := enclosureComputesRow.holds Tryz.pinned (OpenSpec.ofChange enclosureComputesSpec)

/-- ITS FALSE NEIGHBOUR: 'it returns false'. Refute it at one input. -/
def enclosureComputesWrong : ChangeSpec := { name := "enclosureComputes", fn := fun _ => fun
  | [d1, d2] => { results := [.lit (.bool false)], args := [d1, d2] }
  | _ => none }
def EnclosureComputesWrongFalsely : Prop := enclosureComputesRow.holds Tryz.pinned (OpenSpec.ofChange enclosureComputesWrong)

/-- 'pneumaticlaw02.EnclosureSquares': WHATEVER THE INPUT: true; the input reads as it did. -/
def enclosureSquaresSpec : ChangeSpec := { name := "enclosureSquares", fn := fun _ => fun
  | [d] => { results := [.lit (.bool true)], args := [d] }
  | _ => none }
def enclosureSquaresRow : OpenClaim := { program := "ytldclpdmcopgnaagreatdoor", sum := "43fb602b860a2c7cefa0096216ac0d076d5abf612d89bc0f9fa8f5b4154dface", func := "pneumatic/pneumaticlaw02.EnclosureSquares", spec := "enclosureSquares", inPlace := ["internal/bytealg.IndexByteString", "internal/bytealg.IndexString"], unfollowed := true, recurses := true, named := ["internal/bytealg.MaxLen", "unicode/utf8.first", "unicode/utf8.acceptRanges"], apart := false, laid := [("unicode/utf8.acceptRanges", laid_unicode_utf8_acceptRanges), ("unicode/utf8.first", laid_unicode_utf8_first)] }
def EnclosureSquaresSaid : Prop := enclosureSquaresRow.holds Tryz.pinned (OpenSpec.ofChange enclosureSquaresSpec)

/-- ITS FALSE NEIGHBOUR: 'it returns false'. Refute it at one input. -/
def enclosureSquaresWrong : ChangeSpec := { name := "enclosureSquares", fn := fun _ => fun
  | [d] => { results := [.lit (.bool false)], args := [d] }
  | _ => none }
def EnclosureSquaresWrongFalsely : Prop := enclosureSquaresRow.holds Tryz.pinned (OpenSpec.ofChange enclosureSquaresWrong)

/-- 'pneumaticlaw02.EnclosureEncloses': WHATEVER THE INPUT: true; the input reads as it did. -/
def enclosureEnclosesSpec : ChangeSpec := { name := "enclosureEncloses", fn := fun _ => fun
  | [d1, d2, d3] => { results := [.lit (.bool true)], args := [d1, d2, d3] }
  | _ => none }
def enclosureEnclosesRow : OpenClaim := { program := "ytldclpdmcopgnaagreatdoor", sum := "43fb602b860a2c7cefa0096216ac0d076d5abf612d89bc0f9fa8f5b4154dface", func := "pneumatic/pneumaticlaw02.EnclosureEncloses", spec := "enclosureEncloses", inPlace := ["internal/bytealg.IndexByteString", "internal/bytealg.IndexString"], unfollowed := true, recurses := true, named := ["internal/bytealg.MaxLen", "unicode/utf8.first", "unicode/utf8.acceptRanges"], apart := false, laid := [("unicode/utf8.acceptRanges", laid_unicode_utf8_acceptRanges), ("unicode/utf8.first", laid_unicode_utf8_first)] }
def EnclosureEnclosesSaid : Prop := enclosureEnclosesRow.holds Tryz.pinned (OpenSpec.ofChange enclosureEnclosesSpec)

/-- ITS FALSE NEIGHBOUR: 'it returns false'. Refute it at one input. -/
def enclosureEnclosesWrong : ChangeSpec := { name := "enclosureEncloses", fn := fun _ => fun
  | [d1, d2, d3] => { results := [.lit (.bool false)], args := [d1, d2, d3] }
  | _ => none }
def EnclosureEnclosesWrongFalsely : Prop := enclosureEnclosesRow.holds Tryz.pinned (OpenSpec.ofChange enclosureEnclosesWrong)

/-- 'pneumaticlaw02.EnclosureNarrows': WHATEVER THE INPUT: true; the input reads as it did. -/
def enclosureNarrowsSpec : ChangeSpec := { name := "enclosureNarrows", fn := fun _ => fun
  | [d1, d2, d3] => { results := [.lit (.bool true)], args := [d1, d2, d3] }
  | _ => none }
def enclosureNarrowsRow : OpenClaim := { program := "ytldclpdmcopgnaagreatdoor", sum := "43fb602b860a2c7cefa0096216ac0d076d5abf612d89bc0f9fa8f5b4154dface", func := "pneumatic/pneumaticlaw02.EnclosureNarrows", spec := "enclosureNarrows", inPlace := ["internal/bytealg.IndexByteString", "internal/bytealg.IndexString"], unfollowed := true, recurses := true, named := ["internal/bytealg.MaxLen", "unicode/utf8.first", "unicode/utf8.acceptRanges"], apart := false, laid := [("unicode/utf8.acceptRanges", laid_unicode_utf8_acceptRanges), ("unicode/utf8.first", laid_unicode_utf8_first)] }
def EnclosureNarrowsSaid : Prop := enclosureNarrowsRow.holds Tryz.pinned (OpenSpec.ofChange enclosureNarrowsSpec)

/-- ITS FALSE NEIGHBOUR: 'it returns false'. Refute it at one input. -/
def enclosureNarrowsWrong : ChangeSpec := { name := "enclosureNarrows", fn := fun _ => fun
  | [d1, d2, d3] => { results := [.lit (.bool false)], args := [d1, d2, d3] }
  | _ => none }
def EnclosureNarrowsWrongFalsely : Prop := enclosureNarrowsRow.holds Tryz.pinned (OpenSpec.ofChange enclosureNarrowsWrong)

/-- 'pneumaticlaw02.EnclosureMeets': WHATEVER THE INPUT: true; the input reads as it did. -/
def enclosureMeetsSpec : ChangeSpec := { name := "enclosureMeets", fn := fun _ => fun
  | [d1, d2] => { results := [.lit (.bool true)], args := [d1, d2] }
  | _ => none }
def enclosureMeetsRow : OpenClaim := { program := "ytldclpdmcopgnaagreatdoor", sum := "43fb602b860a2c7cefa0096216ac0d076d5abf612d89bc0f9fa8f5b4154dface", func := "pneumatic/pneumaticlaw02.EnclosureMeets", spec := "enclosureMeets", inPlace := ["internal/bytealg.IndexByteString", "internal/bytealg.IndexString"], unfollowed := true, recurses := true, named := ["internal/bytealg.MaxLen", "unicode/utf8.first", "unicode/utf8.acceptRanges"], apart := false, laid := [("unicode/utf8.acceptRanges", laid_unicode_utf8_acceptRanges), ("unicode/utf8.first", laid_unicode_utf8_first)] }
def EnclosureMeetsSaid : Prop := enclosureMeetsRow.holds Tryz.pinned (OpenSpec.ofChange enclosureMeetsSpec)

/-- ITS FALSE NEIGHBOUR: 'it returns false'. Refute it at one input. -/
def enclosureMeetsWrong : ChangeSpec := { name := "enclosureMeets", fn := fun _ => fun
  | [d1, d2] => { results := [.lit (.bool false)], args := [d1, d2] }
  | _ => none }
def EnclosureMeetsWrongFalsely : Prop := enclosureMeetsRow.holds Tryz.pinned (OpenSpec.ofChange enclosureMeetsWrong)

/-- 'pneumaticlaw02.EnclosureSelf': WHATEVER THE INPUT: true; the input reads as it did. -/
def enclosureSelfSpec : ChangeSpec := { name := "enclosureSelf", fn := fun _ => fun
  | [d1, d2] => { results := [.lit (.bool true)], args := [d1, d2] }
  | _ => none }
def enclosureSelfRow : OpenClaim := { program := "ytldclpdmcopgnaagreatdoor", sum := "43fb602b860a2c7cefa0096216ac0d076d5abf612d89bc0f9fa8f5b4154dface", func := "pneumatic/pneumaticlaw02.EnclosureSelf", spec := "enclosureSelf", inPlace := ["internal/bytealg.IndexByteString", "internal/bytealg.IndexString"], unfollowed := true, recurses := true, named := ["internal/bytealg.MaxLen", "unicode/utf8.first", "unicode/utf8.acceptRanges"], apart := false, laid := [("unicode/utf8.acceptRanges", laid_unicode_utf8_acceptRanges), ("unicode/utf8.first", laid_unicode_utf8_first)] }
def EnclosureSelfSaid : Prop := enclosureSelfRow.holds Tryz.pinned (OpenSpec.ofChange enclosureSelfSpec)

/-- ITS FALSE NEIGHBOUR: 'it returns false'. Refute it at one input. -/
def enclosureSelfWrong : ChangeSpec := { name := "enclosureSelf", fn := fun _ => fun
  | [d1, d2] => { results := [.lit (.bool false)], args := [d1, d2] }
  | _ => none }
def EnclosureSelfWrongFalsely : Prop := enclosureSelfRow.holds Tryz.pinned (OpenSpec.ofChange enclosureSelfWrong)

/- THE SECOND FORM. 'bulk': how many values and letters a reading holds, each counted each time it is reached (what is shared counts as often as it is met; a slice's spare places count too). A statement '..UptoSaid' is the law's where the arguments, and the package variables that the reading takes, are together of bulk at most 1048576: NARROWER than '..Said'. Prove '..Said' where nothing that the law and all that it calls make is longer than what came in: it says more and counts as full. Else prove '..UptoSaid'. A law counts once. -/
mutual
def uptoBulk {H : Type} : DataW H → Nat
  | .lit (.string bytes) => bytes.length + 1
  | .lit _ => 1
  | .nil => 1
  | .ptr d => uptoBulk d + 1
  | .slice elems spare => uptoBulkAll elems + uptoBulkAll spare + 1
  | .agg parts => uptoBulkAll parts + 1
  | .iface _ d => uptoBulk d + 1
  | .map entries => uptoBulkEntries entries + 1
  | .held _ => 1
def uptoBulkAll {H : Type} : List (DataW H) → Nat
  | [] => 0
  | d :: r => uptoBulk d + uptoBulkAll r
def uptoBulkEntries {H : Type} : List (Lit × DataW H) → Nat
  | [] => 0
  | x :: r => uptoBulkEntry x + uptoBulkEntries r
def uptoBulkEntry {H : Type} : Lit × DataW H → Nat
  | (.string bytes, d) => bytes.length + uptoBulk d + 1
  | (_, d) => uptoBulk d + 1
 end
def uptoSmall : (H : Type) → List (DataW H) → Bool := fun _ ds => decide (uptoBulkAll ds ≤ 1048576)
def OpenSpec.upto (s : _root_.Go.ChangeSpec) : _root_.Go.OpenSpec := { _root_.Go.OpenSpec.ofChange s with cond := some uptoSmall }

/-- 'pneumaticlaw02.EnclosureChecks', WHERE WHAT IT READS IS OF BULK AT MOST 1048576: true; the input reads as it did. -/
def enclosureChecksUptoRow : OpenClaim := { program := "ytldclpdmcopgnaagreatdoor", sum := "43fb602b860a2c7cefa0096216ac0d076d5abf612d89bc0f9fa8f5b4154dface", func := "pneumatic/pneumaticlaw02.EnclosureChecks", spec := "enclosureChecks", inPlace := ["internal/bytealg.IndexByteString", "internal/bytealg.IndexString"], unfollowed := true, recurses := true, named := ["internal/bytealg.MaxLen", "unicode/utf8.first", "unicode/utf8.acceptRanges"], apart := false, laid := [("unicode/utf8.acceptRanges", laid_unicode_utf8_acceptRanges), ("unicode/utf8.first", laid_unicode_utf8_first)], narrowed := true }
def EnclosureChecksUptoSaid : Prop := enclosureChecksUptoRow.holds Tryz.pinned (OpenSpec.upto enclosureChecksSpec)

/-- 'pneumaticlaw02.EnclosureCompares', WHERE WHAT IT READS IS OF BULK AT MOST 1048576: true; the input reads as it did. -/
def enclosureComparesUptoRow : OpenClaim := { program := "ytldclpdmcopgnaagreatdoor", sum := "43fb602b860a2c7cefa0096216ac0d076d5abf612d89bc0f9fa8f5b4154dface", func := "pneumatic/pneumaticlaw02.EnclosureCompares", spec := "enclosureCompares", inPlace := ["internal/bytealg.IndexByteString", "internal/bytealg.IndexString"], unfollowed := true, recurses := true, named := ["internal/bytealg.MaxLen", "unicode/utf8.first", "unicode/utf8.acceptRanges"], apart := false, laid := [("unicode/utf8.acceptRanges", laid_unicode_utf8_acceptRanges), ("unicode/utf8.first", laid_unicode_utf8_first)], narrowed := true }
def EnclosureComparesUptoSaid : Prop := enclosureComparesUptoRow.holds Tryz.pinned (OpenSpec.upto enclosureComparesSpec)

/-- 'pneumaticlaw02.EnclosureComputes', WHERE WHAT IT READS IS OF BULK AT MOST 1048576: true; the input reads as it did. -/
def enclosureComputesUptoRow : OpenClaim := { program := "ytldclpdmcopgnaagreatdoor", sum := "43fb602b860a2c7cefa0096216ac0d076d5abf612d89bc0f9fa8f5b4154dface", func := "pneumatic/pneumaticlaw02.EnclosureComputes", spec := "enclosureComputes", inPlace := ["internal/bytealg.IndexByteString", "internal/bytealg.IndexString"], unfollowed := true, recurses := true, named := ["internal/bytealg.MaxLen", "unicode/utf8.first", "unicode/utf8.acceptRanges"], apart := false, laid := [("unicode/utf8.acceptRanges", laid_unicode_utf8_acceptRanges), ("unicode/utf8.first", laid_unicode_utf8_first)], narrowed := true }
def EnclosureComputesUptoSaid : Prop := enclosureComputesUptoRow.holds Tryz.pinned (OpenSpec.upto enclosureComputesSpec)

/-- 'pneumaticlaw02.EnclosureSquares', WHERE WHAT IT READS IS OF BULK AT MOST 1048576: true; the input reads as it did. -/
def enclosureSquaresUptoRow : OpenClaim := { program := "ytldclpdmcopgnaagreatdoor", sum := "43fb602b860a2c7cefa0096216ac0d076d5abf612d89bc0f9fa8f5b4154dface", func := "pneumatic/pneumaticlaw02.EnclosureSquares", spec := "enclosureSquares", inPlace := ["internal/bytealg.IndexByteString", "internal/bytealg.IndexString"], unfollowed := true, recurses := true, named := ["internal/bytealg.MaxLen", "unicode/utf8.first", "unicode/utf8.acceptRanges"], apart := false, laid := [("unicode/utf8.acceptRanges", laid_unicode_utf8_acceptRanges), ("unicode/utf8.first", laid_unicode_utf8_first)], narrowed := true }
def EnclosureSquaresUptoSaid : Prop := enclosureSquaresUptoRow.holds Tryz.pinned (OpenSpec.upto enclosureSquaresSpec)

/-- 'pneumaticlaw02.EnclosureEncloses', WHERE WHAT IT READS IS OF BULK AT MOST 1048576: true; the input reads as it did. -/
def enclosureEnclosesUptoRow : OpenClaim := { program := "ytldclpdmcopgnaagreatdoor", sum := "43fb602b860a2c7cefa0096216ac0d076d5abf612d89bc0f9fa8f5b4154dface", func := "pneumatic/pneumaticlaw02.EnclosureEncloses", spec := "enclosureEncloses", inPlace := ["internal/bytealg.IndexByteString", "internal/bytealg.IndexString"], unfollowed := true, recurses := true, named := ["internal/bytealg.MaxLen", "unicode/utf8.first", "unicode/utf8.acceptRanges"], apart := false, laid := [("unicode/utf8.acceptRanges", laid_unicode_utf8_acceptRanges), ("unicode/utf8.first", laid_unicode_utf8_first)], narrowed := true }
def EnclosureEnclosesUptoSaid : Prop := enclosureEnclosesUptoRow.holds Tryz.pinned (OpenSpec.upto enclosureEnclosesSpec)

/-- 'pneumaticlaw02.EnclosureNarrows', WHERE WHAT IT READS IS OF BULK AT MOST 1048576: true; the input reads as it did. -/
def enclosureNarrowsUptoRow : OpenClaim := { program := "ytldclpdmcopgnaagreatdoor", sum := "43fb602b860a2c7cefa0096216ac0d076d5abf612d89bc0f9fa8f5b4154dface", func := "pneumatic/pneumaticlaw02.EnclosureNarrows", spec := "enclosureNarrows", inPlace := ["internal/bytealg.IndexByteString", "internal/bytealg.IndexString"], unfollowed := true, recurses := true, named := ["internal/bytealg.MaxLen", "unicode/utf8.first", "unicode/utf8.acceptRanges"], apart := false, laid := [("unicode/utf8.acceptRanges", laid_unicode_utf8_acceptRanges), ("unicode/utf8.first", laid_unicode_utf8_first)], narrowed := true }
def EnclosureNarrowsUptoSaid : Prop := enclosureNarrowsUptoRow.holds Tryz.pinned (OpenSpec.upto enclosureNarrowsSpec)

/-- 'pneumaticlaw02.EnclosureMeets', WHERE WHAT IT READS IS OF BULK AT MOST 1048576: true; the input reads as it did. -/
def enclosureMeetsUptoRow : OpenClaim := { program := "ytldclpdmcopgnaagreatdoor", sum := "43fb602b860a2c7cefa0096216ac0d076d5abf612d89bc0f9fa8f5b4154dface", func := "pneumatic/pneumaticlaw02.EnclosureMeets", spec := "enclosureMeets", inPlace := ["internal/bytealg.IndexByteString", "internal/bytealg.IndexString"], unfollowed := true, recurses := true, named := ["internal/bytealg.MaxLen", "unicode/utf8.first", "unicode/utf8.acceptRanges"], apart := false, laid := [("unicode/utf8.acceptRanges", laid_unicode_utf8_acceptRanges), ("unicode/utf8.first", laid_unicode_utf8_first)], narrowed := true }
def EnclosureMeetsUptoSaid : Prop := enclosureMeetsUptoRow.holds Tryz.pinned (OpenSpec.upto enclosureMeetsSpec)

/-- 'pneumaticlaw02.EnclosureSelf', WHERE WHAT IT READS IS OF BULK AT MOST 1048576: true; the input reads as it did. -/
def enclosureSelfUptoRow : OpenClaim := { program := "ytldclpdmcopgnaagreatdoor", sum := "43fb602b860a2c7cefa0096216ac0d076d5abf612d89bc0f9fa8f5b4154dface", func := "pneumatic/pneumaticlaw02.EnclosureSelf", spec := "enclosureSelf", inPlace := ["internal/bytealg.IndexByteString", "internal/bytealg.IndexString"], unfollowed := true, recurses := true, named := ["internal/bytealg.MaxLen", "unicode/utf8.first", "unicode/utf8.acceptRanges"], apart := false, laid := [("unicode/utf8.acceptRanges", laid_unicode_utf8_acceptRanges), ("unicode/utf8.first", laid_unicode_utf8_first)], narrowed := true }
def EnclosureSelfUptoSaid : Prop := enclosureSelfUptoRow.holds Tryz.pinned (OpenSpec.upto enclosureSelfSpec)

end Rows
end Go.Proofs.YtldclpdmcopgnaaGreatDoor
