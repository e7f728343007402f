/-
  No cell of these rows narrows 'for every input' (looked for: loops, veiled, ifaces, maps, wideKeys, modest, calm, conditions, laid).
  DERIVED. THE GIVEN ROWS OF THIS SEAT. 4 by the template 'for every input the law returns true; each argument reads behind the call as it read before'; 0 by the template 'total and deterministic' (their statements: YtkemicfaiipidaaTotals.lean).
  GIVEN WITH THE SEED: the statements are not yours to turn. If you find one false, say at which input.
  Laid BY PROGRAM, IN A SANDBOX (cutbox-rows.mjs): the forced cells as the released guide's own fill.sh prints them over the translation 4c8a9dc5590758dd… (all of the seat's roots in one cut). By AI agents, Wed Nov 11 2026. No macro, syntax, notation, axiom, sorry.
-/
import Derived.Test.YtkemicfaiipidaaChecked
import GoSem.Claim
import GoSem.ClaimJoined
import GoSem.ClaimMapViews
import Derived.JoinedTies
import Derived.KernelRfl
namespace Go.Proofs.Ytkemicfaiipidaa
/- THE CELL 'sum', in the pinned program and in every row, IS THE sha256 OF THE DUMP (.gsa) THAT YtkemicfaiipidaaProg.lean LOADS. Nothing in Lean hashes anything: it is a label: what it is worth is what the hold of that sum in a sandbox is worth. -/
noncomputable def Try.pinned : Pinned := { name := "ytkemicfaiipidaa", sum := "4c8a9dc5590758ddc3197c9e3822de365700cfdbf83ff094d4adb12f5782fe0a", checked := Try.checked }
namespace Rows
def none {H : Type} : Left H := { results := [], args := [] }

/-- 'pneumaticlaw11.BoundsChanges': WHATEVER THE INPUT: true; the input reads as it did. -/
def boundsChangesSpec : ChangeSpec := { name := "boundsChanges", fn := fun _ => fun
  | [d1, d2] => { results := [.lit (.bool true)], args := [d1, d2] }
  | _ => none }
def boundsChangesRow : OpenClaim := { program := "ytkemicfaiipidaa", sum := "4c8a9dc5590758ddc3197c9e3822de365700cfdbf83ff094d4adb12f5782fe0a", func := "pneumatic/pneumaticlaw11.BoundsChanges", spec := "boundsChanges", unfollowed := true, recurses := true, apart := false }
def BoundsChangesSaid : Prop := boundsChangesRow.holds Try.pinned (OpenSpec.ofChange boundsChangesSpec)

/-- ITS FALSE NEIGHBOUR: 'it returns false'. Refute it at one input. -/
def boundsChangesWrong : ChangeSpec := { name := "boundsChanges", fn := fun _ => fun
  | [d1, d2] => { results := [.lit (.bool false)], args := [d1, d2] }
  | _ => none }
def BoundsChangesWrongFalsely : Prop := boundsChangesRow.holds Try.pinned (OpenSpec.ofChange boundsChangesWrong)

/-- 'pneumaticlaw11.BoundsWitnesses': WHATEVER THE INPUT: true; the input reads as it did. -/
def boundsWitnessesSpec : ChangeSpec := { name := "boundsWitnesses", fn := fun _ => fun
  | [d1, d2] => { results := [.lit (.bool true)], args := [d1, d2] }
  | _ => none }
def boundsWitnessesRow : OpenClaim := { program := "ytkemicfaiipidaa", sum := "4c8a9dc5590758ddc3197c9e3822de365700cfdbf83ff094d4adb12f5782fe0a", func := "pneumatic/pneumaticlaw11.BoundsWitnesses", spec := "boundsWitnesses", unfollowed := true, recurses := true, apart := false }
def BoundsWitnessesSaid : Prop := boundsWitnessesRow.holds Try.pinned (OpenSpec.ofChange boundsWitnessesSpec)

/-- ITS FALSE NEIGHBOUR: 'it returns false'. Refute it at one input. -/
def boundsWitnessesWrong : ChangeSpec := { name := "boundsWitnesses", fn := fun _ => fun
  | [d1, d2] => { results := [.lit (.bool false)], args := [d1, d2] }
  | _ => none }
def BoundsWitnessesWrongFalsely : Prop := boundsWitnessesRow.holds Try.pinned (OpenSpec.ofChange boundsWitnessesWrong)

/-- 'pneumaticlaw11.BoundsKeep': WHATEVER THE INPUT: true; the input reads as it did. -/
def boundsKeepSpec : ChangeSpec := { name := "boundsKeep", fn := fun _ => fun
  | [d1, d2, d3] => { results := [.lit (.bool true)], args := [d1, d2, d3] }
  | _ => none }
def boundsKeepRow : OpenClaim := { program := "ytkemicfaiipidaa", sum := "4c8a9dc5590758ddc3197c9e3822de365700cfdbf83ff094d4adb12f5782fe0a", func := "pneumatic/pneumaticlaw11.BoundsKeep", spec := "boundsKeep", unfollowed := true, recurses := true, apart := false }
def BoundsKeepSaid : Prop := boundsKeepRow.holds Try.pinned (OpenSpec.ofChange boundsKeepSpec)

/-- ITS FALSE NEIGHBOUR: 'it returns false'. Refute it at one input. -/
def boundsKeepWrong : ChangeSpec := { name := "boundsKeep", fn := fun _ => fun
  | [d1, d2, d3] => { results := [.lit (.bool false)], args := [d1, d2, d3] }
  | _ => none }
def BoundsKeepWrongFalsely : Prop := boundsKeepRow.holds Try.pinned (OpenSpec.ofChange boundsKeepWrong)

/-- 'pneumaticlaw11.BoundsDrops': WHATEVER THE INPUT: true; the input reads as it did. -/
def boundsDropsSpec : ChangeSpec := { name := "boundsDrops", fn := fun _ => fun
  | [d1, d2] => { results := [.lit (.bool true)], args := [d1, d2] }
  | _ => none }
def boundsDropsRow : OpenClaim := { program := "ytkemicfaiipidaa", sum := "4c8a9dc5590758ddc3197c9e3822de365700cfdbf83ff094d4adb12f5782fe0a", func := "pneumatic/pneumaticlaw11.BoundsDrops", spec := "boundsDrops", unfollowed := true, recurses := true, apart := false }
def BoundsDropsSaid : Prop := boundsDropsRow.holds Try.pinned (OpenSpec.ofChange boundsDropsSpec)

/-- ITS FALSE NEIGHBOUR: 'it returns false'. Refute it at one input. -/
def boundsDropsWrong : ChangeSpec := { name := "boundsDrops", fn := fun _ => fun
  | [d1, d2] => { results := [.lit (.bool false)], args := [d1, d2] }
  | _ => none }
def BoundsDropsWrongFalsely : Prop := boundsDropsRow.holds Try.pinned (OpenSpec.ofChange boundsDropsWrong)

/- THE SECOND FORM. 'bulk': how many values and letters a reading holds, each counted each time it is reached (what is shared counts as often as it is met; a slice's spare places count too). A statement '..UptoSaid' is the law's where the arguments, and the package variables that the reading takes, are together of bulk at most 1048576: NARROWER than '..Said'. Prove '..Said' where nothing that the law and all that it calls make is longer than what came in: it says more and counts as full. Else prove '..UptoSaid'. A law counts once. -/
mutual
def uptoBulk {H : Type} : DataW H → Nat
  | .lit (.string bytes) => bytes.length + 1
  | .lit _ => 1
  | .nil => 1
  | .ptr d => uptoBulk d + 1
  | .slice elems spare => uptoBulkAll elems + uptoBulkAll spare + 1
  | .agg parts => uptoBulkAll parts + 1
  | .iface _ d => uptoBulk d + 1
  | .map entries => uptoBulkEntries entries + 1
  | .held _ => 1
def uptoBulkAll {H : Type} : List (DataW H) → Nat
  | [] => 0
  | d :: r => uptoBulk d + uptoBulkAll r
def uptoBulkEntries {H : Type} : List (Lit × DataW H) → Nat
  | [] => 0
  | x :: r => uptoBulkEntry x + uptoBulkEntries r
def uptoBulkEntry {H : Type} : Lit × DataW H → Nat
  | (.string bytes, d) => bytes.length + uptoBulk d + 1
  | (_, d) => uptoBulk d + 1
 end
def uptoSmall : (H : Type) → List (DataW H) → Bool := fun _ ds => decide (uptoBulkAll ds ≤ 1048576)
def OpenSpec.upto (s : _root_.Go.ChangeSpec) : _root_.Go.OpenSpec := { _root_.Go.OpenSpec.ofChange s with cond := some uptoSmall }

/-- 'pneumaticlaw11.BoundsChanges', WHERE WHAT IT READS IS OF BULK AT MOST 1048576: true; the input reads as it did. -/
def boundsChangesUptoRow : OpenClaim := { program := "ytkemicfaiipidaa", sum := "4c8a9dc5590758ddc3197c9e3822de365700cfdbf83ff094d4adb12f5782fe0a", func := "pneumatic/pneumaticlaw11.BoundsChanges", spec := "boundsChanges", unfollowed := true, recurses := true, apart := false, narrowed := true }
def BoundsChangesUptoSaid : Prop := boundsChangesUptoRow.holds Try.pinned (OpenSpec.upto boundsChangesSpec)

/-- 'pneumaticlaw11.BoundsWitnesses', WHERE WHAT IT READS IS OF BULK AT MOST 1048576: true; the input reads as it did. -/
def boundsWitnessesUptoRow : OpenClaim := { program := "ytkemicfaiipidaa", sum := "4c8a9dc5590758ddc3197c9e3822de365700cfdbf83ff094d4adb12f5782fe0a", func := "pneumatic/pneumaticlaw11.BoundsWitnesses", spec := "boundsWitnesses", unfollowed := true, recurses := true, apart := false, narrowed := true }
def BoundsWitnessesUptoSaid : Prop := boundsWitnessesUptoRow.holds Try.pinned (OpenSpec.upto boundsWitnessesSpec)

/-- 'pneumaticlaw11.BoundsKeep', WHERE WHAT IT READS IS OF BULK AT MOST 1048576: true; the input reads as it did. -/
def boundsKeepUptoRow : OpenClaim := { program := "ytkemicfaiipidaa", sum := "4c8a9dc5590758ddc3197c9e3822de365700cfdbf83ff094d4adb12f5782fe0a", func := "pneumatic/pneumaticlaw11.BoundsKeep", spec := "boundsKeep", unfollowed := true, recurses := true, apart := false, narrowed := true }
def BoundsKeepUptoSaid : Prop := boundsKeepUptoRow.holds Try.pinned (OpenSpec.upto boundsKeepSpec)

/-- 'pneumaticlaw11.BoundsDrops', WHERE WHAT IT READS IS OF BULK AT MOST 1048576: true; the input reads as it did. -/
def boundsDropsUptoRow : OpenClaim := { program := "ytkemicfaiipidaa", sum := "4c8a9dc5590758ddc3197c9e3822de365700cfdbf83ff094d4adb12f5782fe0a", func := "pneumatic/pneumaticlaw11.BoundsDrops", spec := "boundsDrops", unfollowed := true, recurses := true, apart := false, narrowed := true }
def BoundsDropsUptoSaid : Prop := boundsDropsUptoRow.holds Try.pinned (OpenSpec.upto boundsDropsSpec)

end Rows
end Go.Proofs.Ytkemicfaiipidaa
