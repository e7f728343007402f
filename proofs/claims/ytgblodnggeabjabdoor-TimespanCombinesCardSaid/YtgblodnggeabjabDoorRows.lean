/-
  NARROWER THAN 'FOR EVERY INPUT', by the rows' own cells (each row's printed sentence says how): TimespanAdds: laid · TimespanOrders: laid · TimespanMeets: laid · TimespanSums: laid · TimespanTexts: laid · TimespanCombines: laid · TimespanAgrees: laid · TimespanReads: laid.
  DERIVED. THE GIVEN ROWS OF THIS SEAT. 8 by the template 'for every input the law returns true; each argument reads behind the call as it read before'; 0 by the template 'total and deterministic' (their statements: YtgblodnggeabjabDoorTotals.lean).
  GIVEN WITH THE SEED: the statements are not yours to turn. If you find one false, say at which input.
  Laid BY PROGRAM, IN A SANDBOX (cutbox-rows.mjs): the forced cells as the released guide's own fill.sh prints them over the translation 450624f8e5bd33f7… (all of the seat's roots in one cut). By AI agents, Wed Nov 11 2026. No macro, syntax, notation, axiom, sorry.
-/
import Derived.Test.YtgblodnggeabjabDoorChecked
import GoSem.Claim
import GoSem.ClaimJoined
import GoSem.ClaimMapViews
import Derived.JoinedTies
import Derived.KernelRfl
namespace Go.Proofs.YtgblodnggeabjabDoor
/- THE CELL 'sum', in the pinned program and in every row, IS THE sha256 OF THE DUMP (.gsa) THAT YtgblodnggeabjabDoorProg.lean LOADS. Nothing in Lean hashes anything: it is a label: what it is worth is what the hold of that sum in a sandbox is worth. -/
noncomputable def Tryd.pinned : Pinned := { name := "ytgblodnggeabjabdoor", sum := "450624f8e5bd33f7996ad0d164a5b8523de50e3cf9ac4f2a836865be9753cdee", checked := Tryd.checked }
namespace Rows
def none {H : Type} : Left H := { results := [], args := [] }

/- WHAT THE LISTED PACKAGE-LEVEL VARIABLES READ AS WHEN THE CALL BEGINS. Each datum BY PROGRAM (the guide's laid-datum.mjs) off the statement by which the dump's own 'gosem.cut.vars' lays the variable. In a bare row this is a premise. The card (YtgblodnggeabjabDoorCards.lean) ties it to the program's text. -/
def laid_math_bits_deBruijn32tab {H : Type} : DataW H := .agg [.lit (.int .u8 0), .lit (.int .u8 1), .lit (.int .u8 28), .lit (.int .u8 2), .lit (.int .u8 29), .lit (.int .u8 14), .lit (.int .u8 24), .lit (.int .u8 3), .lit (.int .u8 30), .lit (.int .u8 22), .lit (.int .u8 20), .lit (.int .u8 15), .lit (.int .u8 25), .lit (.int .u8 17), .lit (.int .u8 4), .lit (.int .u8 8), .lit (.int .u8 31), .lit (.int .u8 27), .lit (.int .u8 13), .lit (.int .u8 23), .lit (.int .u8 21), .lit (.int .u8 19), .lit (.int .u8 16), .lit (.int .u8 7), .lit (.int .u8 26), .lit (.int .u8 12), .lit (.int .u8 18), .lit (.int .u8 6), .lit (.int .u8 11), .lit (.int .u8 5), .lit (.int .u8 10), .lit (.int .u8 9)]
def laid_math_bits_deBruijn64tab {H : Type} : DataW H := .agg [.lit (.int .u8 0), .lit (.int .u8 1), .lit (.int .u8 56), .lit (.int .u8 2), .lit (.int .u8 57), .lit (.int .u8 49), .lit (.int .u8 28), .lit (.int .u8 3), .lit (.int .u8 61), .lit (.int .u8 58), .lit (.int .u8 42), .lit (.int .u8 50), .lit (.int .u8 38), .lit (.int .u8 29), .lit (.int .u8 17), .lit (.int .u8 4), .lit (.int .u8 62), .lit (.int .u8 47), .lit (.int .u8 59), .lit (.int .u8 36), .lit (.int .u8 45), .lit (.int .u8 43), .lit (.int .u8 51), .lit (.int .u8 22), .lit (.int .u8 53), .lit (.int .u8 39), .lit (.int .u8 33), .lit (.int .u8 30), .lit (.int .u8 24), .lit (.int .u8 18), .lit (.int .u8 12), .lit (.int .u8 5), .lit (.int .u8 63), .lit (.int .u8 55), .lit (.int .u8 48), .lit (.int .u8 27), .lit (.int .u8 60), .lit (.int .u8 41), .lit (.int .u8 37), .lit (.int .u8 16), .lit (.int .u8 46), .lit (.int .u8 35), .lit (.int .u8 44), .lit (.int .u8 21), .lit (.int .u8 52), .lit (.int .u8 32), .lit (.int .u8 23), .lit (.int .u8 11), .lit (.int .u8 54), .lit (.int .u8 26), .lit (.int .u8 40), .lit (.int .u8 15), .lit (.int .u8 34), .lit (.int .u8 20), .lit (.int .u8 31), .lit (.int .u8 10), .lit (.int .u8 25), .lit (.int .u8 14), .lit (.int .u8 19), .lit (.int .u8 9), .lit (.int .u8 13), .lit (.int .u8 8), .lit (.int .u8 7), .lit (.int .u8 6)]
def laid_internal_strconv_uint64pow10 {H : Type} : DataW H := .agg [.lit (.int .u64 1), .lit (.int .u64 10), .lit (.int .u64 100), .lit (.int .u64 1000), .lit (.int .u64 10000), .lit (.int .u64 100000), .lit (.int .u64 1000000), .lit (.int .u64 10000000), .lit (.int .u64 100000000), .lit (.int .u64 1000000000), .lit (.int .u64 10000000000), .lit (.int .u64 100000000000), .lit (.int .u64 1000000000000), .lit (.int .u64 10000000000000), .lit (.int .u64 100000000000000), .lit (.int .u64 1000000000000000), .lit (.int .u64 10000000000000000), .lit (.int .u64 100000000000000000), .lit (.int .u64 1000000000000000000), .lit (.int .u64 10000000000000000000)]

/-- 'pneumaticlaw03.TimespanAdds': WHATEVER THE INPUT: true; the input reads as it did. -/
def timespanAddsSpec : ChangeSpec := { name := "timespanAdds", fn := fun _ => fun
  | [d1, d2, d3] => { results := [.lit (.bool true)], args := [d1, d2, d3] }
  | _ => none }
def timespanAddsRow : OpenClaim := { program := "ytgblodnggeabjabdoor", sum := "450624f8e5bd33f7996ad0d164a5b8523de50e3cf9ac4f2a836865be9753cdee", func := "pneumatic/pneumaticlaw03.TimespanAdds", spec := "timespanAdds", inPlace := ["internal/bytealg.IndexByteString", "internal/bytealg.IndexString"], unfollowed := true, recurses := true, named := ["internal/strconv.uint64pow10", "math/bits.deBruijn32tab", "math/bits.deBruijn64tab", "internal/bytealg.MaxLen"], apart := false, laid := [("math/bits.deBruijn32tab", laid_math_bits_deBruijn32tab), ("math/bits.deBruijn64tab", laid_math_bits_deBruijn64tab), ("internal/strconv.uint64pow10", laid_internal_strconv_uint64pow10)] }
def TimespanAddsSaid : Prop := timespanAddsRow.holds Tryd.pinned (OpenSpec.ofChange timespanAddsSpec)

/-- ITS FALSE NEIGHBOUR: 'it returns false'. Refute it at one input. -/
def timespanAddsWrong : ChangeSpec := { name := "timespanAdds", fn := fun _ => fun
  | [d1, d2, d3] => { results := [.lit (.bool false)], args := [d1, d2, d3] }
  | _ => none }
def TimespanAddsWrongFalsely : Prop := timespanAddsRow.holds Tryd.pinned (OpenSpec.ofChange timespanAddsWrong)

/-- 'pneumaticlaw03.TimespanOrders': WHATEVER THE INPUT: true; the input reads as it did. -/
def timespanOrdersSpec : ChangeSpec := { name := "timespanOrders", fn := fun _ => fun
  | [d1, d2] => { results := [.lit (.bool true)], args := [d1, d2] }
  | _ => none }
def timespanOrdersRow : OpenClaim := { program := "ytgblodnggeabjabdoor", sum := "450624f8e5bd33f7996ad0d164a5b8523de50e3cf9ac4f2a836865be9753cdee", func := "pneumatic/pneumaticlaw03.TimespanOrders", spec := "timespanOrders", inPlace := ["internal/bytealg.IndexByteString", "internal/bytealg.IndexString"], unfollowed := true, recurses := true, named := ["internal/strconv.uint64pow10", "math/bits.deBruijn32tab", "math/bits.deBruijn64tab", "internal/bytealg.MaxLen"], apart := false, laid := [("math/bits.deBruijn32tab", laid_math_bits_deBruijn32tab), ("math/bits.deBruijn64tab", laid_math_bits_deBruijn64tab), ("internal/strconv.uint64pow10", laid_internal_strconv_uint64pow10)] }
def TimespanOrdersSaid : Prop := timespanOrdersRow.holds Tryd.pinned (OpenSpec.ofChange timespanOrdersSpec)

/-- ITS FALSE NEIGHBOUR: 'it returns false'. Refute it at one input. -/
def timespanOrdersWrong : ChangeSpec := { name := "timespanOrders", fn := fun _ => fun
  | [d1, d2] => { results := [.lit (.bool false)], args := [d1, d2] }
  | _ => none }
def TimespanOrdersWrongFalsely : Prop := timespanOrdersRow.holds Tryd.pinned (OpenSpec.ofChange timespanOrdersWrong)

/-- 'pneumaticlaw03.TimespanMeets': WHATEVER THE INPUT: true; the input reads as it did. -/
def timespanMeetsSpec : ChangeSpec := { name := "timespanMeets", fn := fun _ => fun
  | [d1, d2] => { results := [.lit (.bool true)], args := [d1, d2] }
  | _ => none }
def timespanMeetsRow : OpenClaim := { program := "ytgblodnggeabjabdoor", sum := "450624f8e5bd33f7996ad0d164a5b8523de50e3cf9ac4f2a836865be9753cdee", func := "pneumatic/pneumaticlaw03.TimespanMeets", spec := "timespanMeets", inPlace := ["internal/bytealg.IndexByteString", "internal/bytealg.IndexString"], unfollowed := true, recurses := true, named := ["internal/strconv.uint64pow10", "math/bits.deBruijn32tab", "math/bits.deBruijn64tab", "internal/bytealg.MaxLen"], apart := false, laid := [("math/bits.deBruijn32tab", laid_math_bits_deBruijn32tab), ("math/bits.deBruijn64tab", laid_math_bits_deBruijn64tab), ("internal/strconv.uint64pow10", laid_internal_strconv_uint64pow10)] }
def TimespanMeetsSaid : Prop := timespanMeetsRow.holds Tryd.pinned (OpenSpec.ofChange timespanMeetsSpec)

/-- ITS FALSE NEIGHBOUR: 'it returns false'. Refute it at one input. -/
def timespanMeetsWrong : ChangeSpec := { name := "timespanMeets", fn := fun _ => fun
  | [d1, d2] => { results := [.lit (.bool false)], args := [d1, d2] }
  | _ => none }
def TimespanMeetsWrongFalsely : Prop := timespanMeetsRow.holds Tryd.pinned (OpenSpec.ofChange timespanMeetsWrong)

/-- 'pneumaticlaw03.TimespanSums': WHATEVER THE INPUT: true; the input reads as it did. -/
def timespanSumsSpec : ChangeSpec := { name := "timespanSums", fn := fun _ => fun
  | [d] => { results := [.lit (.bool true)], args := [d] }
  | _ => none }
def timespanSumsRow : OpenClaim := { program := "ytgblodnggeabjabdoor", sum := "450624f8e5bd33f7996ad0d164a5b8523de50e3cf9ac4f2a836865be9753cdee", func := "pneumatic/pneumaticlaw03.TimespanSums", spec := "timespanSums", inPlace := ["internal/bytealg.IndexByteString", "internal/bytealg.IndexString"], unfollowed := true, recurses := true, named := ["internal/strconv.uint64pow10", "math/bits.deBruijn32tab", "math/bits.deBruijn64tab", "internal/bytealg.MaxLen"], apart := false, laid := [("math/bits.deBruijn32tab", laid_math_bits_deBruijn32tab), ("math/bits.deBruijn64tab", laid_math_bits_deBruijn64tab), ("internal/strconv.uint64pow10", laid_internal_strconv_uint64pow10)] }
def TimespanSumsSaid : Prop := timespanSumsRow.holds Tryd.pinned (OpenSpec.ofChange timespanSumsSpec)

/-- ITS FALSE NEIGHBOUR: 'it returns false'. Refute it at one input. -/
def timespanSumsWrong : ChangeSpec := { name := "timespanSums", fn := fun _ => fun
  | [d] => { results := [.lit (.bool false)], args := [d] }
  | _ => none }
def TimespanSumsWrongFalsely : Prop := timespanSumsRow.holds Tryd.pinned (OpenSpec.ofChange timespanSumsWrong)

/-- 'pneumaticlaw03.TimespanTexts': WHATEVER THE INPUT: true; the input reads as it did. -/
def timespanTextsSpec : ChangeSpec := { name := "timespanTexts", fn := fun _ => fun
  | [d1, d2] => { results := [.lit (.bool true)], args := [d1, d2] }
  | _ => none }
def timespanTextsRow : OpenClaim := { program := "ytgblodnggeabjabdoor", sum := "450624f8e5bd33f7996ad0d164a5b8523de50e3cf9ac4f2a836865be9753cdee", func := "pneumatic/pneumaticlaw03.TimespanTexts", spec := "timespanTexts", inPlace := ["internal/bytealg.IndexByteString", "internal/bytealg.IndexString"], unfollowed := true, recurses := true, named := ["internal/strconv.uint64pow10", "math/bits.deBruijn32tab", "math/bits.deBruijn64tab", "internal/bytealg.MaxLen"], apart := false, laid := [("math/bits.deBruijn32tab", laid_math_bits_deBruijn32tab), ("math/bits.deBruijn64tab", laid_math_bits_deBruijn64tab), ("internal/strconv.uint64pow10", laid_internal_strconv_uint64pow10)] }
def TimespanTextsSaid : Prop := timespanTextsRow.holds Tryd.pinned (OpenSpec.ofChange timespanTextsSpec)

/-- ITS FALSE NEIGHBOUR: 'it returns false'. Refute it at one input. -/
def timespanTextsWrong : ChangeSpec := { name := "timespanTexts", fn := fun _ => fun
  | [d1, d2] => { results := [.lit (.bool false)], args := [d1, d2] }
  | _ => none }
def TimespanTextsWrongFalsely : Prop := timespanTextsRow.holds Tryd.pinned (OpenSpec.ofChange timespanTextsWrong)

/-- 'pneumaticlaw03.TimespanCombines': WHATEVER THE INPUT: true; the input reads as it did. -/
def timespanCombinesSpec : ChangeSpec := { name := "timespanCombines", fn := fun _ => fun
  | [d1, d2, d3] => { results := [.lit (.bool true)], args := [d1, d2, d3] }
  | _ => none }
def timespanCombinesRow : OpenClaim := { program := "ytgblodnggeabjabdoor", sum := "450624f8e5bd33f7996ad0d164a5b8523de50e3cf9ac4f2a836865be9753cdee", func := "pneumatic/pneumaticlaw03.TimespanCombines", spec := "timespanCombines", inPlace := ["internal/bytealg.IndexByteString", "internal/bytealg.IndexString"], unfollowed := true, recurses := true, named := ["internal/strconv.uint64pow10", "math/bits.deBruijn32tab", "math/bits.deBruijn64tab", "internal/bytealg.MaxLen"], apart := false, laid := [("math/bits.deBruijn32tab", laid_math_bits_deBruijn32tab), ("math/bits.deBruijn64tab", laid_math_bits_deBruijn64tab), ("internal/strconv.uint64pow10", laid_internal_strconv_uint64pow10)] }
def TimespanCombinesSaid : Prop := timespanCombinesRow.holds Tryd.pinned (OpenSpec.ofChange timespanCombinesSpec)

/-- ITS FALSE NEIGHBOUR: 'it returns false'. Refute it at one input. -/
def timespanCombinesWrong : ChangeSpec := { name := "timespanCombines", fn := fun _ => fun
  | [d1, d2, d3] => { results := [.lit (.bool false)], args := [d1, d2, d3] }
  | _ => none }
def TimespanCombinesWrongFalsely : Prop := timespanCombinesRow.holds Tryd.pinned (OpenSpec.ofChange timespanCombinesWrong)

/-- 'pneumaticlaw03.TimespanAgrees': WHATEVER THE INPUT: true; the input reads as it did. -/
def timespanAgreesSpec : ChangeSpec := { name := "timespanAgrees", fn := fun _ => fun
  | [d1, d2] => { results := [.lit (.bool true)], args := [d1, d2] }
  | _ => none }
def timespanAgreesRow : OpenClaim := { program := "ytgblodnggeabjabdoor", sum := "450624f8e5bd33f7996ad0d164a5b8523de50e3cf9ac4f2a836865be9753cdee", func := "pneumatic/pneumaticlaw03.TimespanAgrees", spec := "timespanAgrees", inPlace := ["internal/bytealg.IndexByteString", "internal/bytealg.IndexString"], unfollowed := true, recurses := true, named := ["internal/strconv.uint64pow10", "math/bits.deBruijn32tab", "math/bits.deBruijn64tab", "internal/bytealg.MaxLen"], apart := false, laid := [("math/bits.deBruijn32tab", laid_math_bits_deBruijn32tab), ("math/bits.deBruijn64tab", laid_math_bits_deBruijn64tab), ("internal/strconv.uint64pow10", laid_internal_strconv_uint64pow10)] }
def TimespanAgreesSaid : Prop := timespanAgreesRow.holds Tryd.pinned (OpenSpec.ofChange timespanAgreesSpec)

/-- ITS FALSE NEIGHBOUR: 'it returns false'. Refute it at one input. -/
def timespanAgreesWrong : ChangeSpec := { name := "timespanAgrees", fn := fun _ => fun
  | [d1, d2] => { results := [.lit (.bool false)], args := [d1, d2] }
  | _ => none }
def TimespanAgreesWrongFalsely : Prop := timespanAgreesRow.holds Tryd.pinned (OpenSpec.ofChange timespanAgreesWrong)

/-- 'pneumaticlaw03.TimespanReads': WHATEVER THE INPUT: true; the input reads as it did. -/
def timespanReadsSpec : ChangeSpec := { name := "timespanReads", fn := fun _ => fun
  | [d1, d2] => { results := [.lit (.bool true)], args := [d1, d2] }
  | _ => none }
def timespanReadsRow : OpenClaim := { program := "ytgblodnggeabjabdoor", sum := "450624f8e5bd33f7996ad0d164a5b8523de50e3cf9ac4f2a836865be9753cdee", func := "pneumatic/pneumaticlaw03.TimespanReads", spec := "timespanReads", inPlace := ["internal/bytealg.IndexByteString", "internal/bytealg.IndexString"], unfollowed := true, recurses := true, named := ["internal/strconv.uint64pow10", "math/bits.deBruijn32tab", "math/bits.deBruijn64tab", "internal/bytealg.MaxLen"], apart := false, laid := [("math/bits.deBruijn32tab", laid_math_bits_deBruijn32tab), ("math/bits.deBruijn64tab", laid_math_bits_deBruijn64tab), ("internal/strconv.uint64pow10", laid_internal_strconv_uint64pow10)] }
def TimespanReadsSaid : Prop := timespanReadsRow.holds Tryd.pinned (OpenSpec.ofChange timespanReadsSpec)

/-- ITS FALSE NEIGHBOUR: 'it returns false'. Refute it at one input. -/
def timespanReadsWrong : ChangeSpec := { name := "timespanReads", fn := fun _ => fun
  | [d1, d2] => { results := [.lit (.bool false)], args := [d1, d2] }
  | _ => none }
def TimespanReadsWrongFalsely : Prop := timespanReadsRow.holds Tryd.pinned (OpenSpec.ofChange timespanReadsWrong)

/- THE SECOND FORM. 'bulk': how many values and letters a reading holds, each counted each time it is reached (what is shared counts as often as it is met; a slice's spare places count too). A statement '..UptoSaid' is the law's where the arguments, and the package variables that the reading takes, are together of bulk at most 1048576: NARROWER than '..Said'. Prove '..Said' where nothing that the law and all that it calls make is longer than what came in: it says more and counts as full. Else prove '..UptoSaid'. A law counts once. -/
mutual
def uptoBulk {H : Type} : DataW H → Nat
  | .lit (.string bytes) => bytes.length + 1
  | .lit _ => 1
  | .nil => 1
  | .ptr d => uptoBulk d + 1
  | .slice elems spare => uptoBulkAll elems + uptoBulkAll spare + 1
  | .agg parts => uptoBulkAll parts + 1
  | .iface _ d => uptoBulk d + 1
  | .map entries => uptoBulkEntries entries + 1
  | .held _ => 1
def uptoBulkAll {H : Type} : List (DataW H) → Nat
  | [] => 0
  | d :: r => uptoBulk d + uptoBulkAll r
def uptoBulkEntries {H : Type} : List (Lit × DataW H) → Nat
  | [] => 0
  | x :: r => uptoBulkEntry x + uptoBulkEntries r
def uptoBulkEntry {H : Type} : Lit × DataW H → Nat
  | (.string bytes, d) => bytes.length + uptoBulk d + 1
  | (_, d) => uptoBulk d + 1
 end
def uptoSmall : (H : Type) → List (DataW H) → Bool := fun _ ds => decide (uptoBulkAll ds ≤ 1048576)
def OpenSpec.upto (s : _root_.Go.ChangeSpec) : _root_.Go.OpenSpec := { _root_.Go.OpenSpec.ofChange s with cond := some uptoSmall }

/-- 'pneumaticlaw03.TimespanAdds', WHERE WHAT IT READS IS OF BULK AT MOST 1048576: true; the input reads as it did. -/
def timespanAddsUptoRow : OpenClaim := { program := "ytgblodnggeabjabdoor", sum := "450624f8e5bd33f7996ad0d164a5b8523de50e3cf9ac4f2a836865be9753cdee", func := "pneumatic/pneumaticlaw03.TimespanAdds", spec := "timespanAdds", inPlace := ["internal/bytealg.IndexByteString", "internal/bytealg.IndexString"], unfollowed := true, recurses := true, named := ["internal/strconv.uint64pow10", "math/bits.deBruijn32tab", "math/bits.deBruijn64tab", "internal/bytealg.MaxLen"], apart := false, laid := [("math/bits.deBruijn32tab", laid_math_bits_deBruijn32tab), ("math/bits.deBruijn64tab", laid_math_bits_deBruijn64tab), ("internal/strconv.uint64pow10", laid_internal_strconv_uint64pow10)], narrowed := true }
def TimespanAddsUptoSaid : Prop := timespanAddsUptoRow.holds Tryd.pinned (OpenSpec.upto timespanAddsSpec)

/-- 'pneumaticlaw03.TimespanOrders', WHERE WHAT IT READS IS OF BULK AT MOST 1048576: true; the input reads as it did. -/
def timespanOrdersUptoRow : OpenClaim := { program := "ytgblodnggeabjabdoor", sum := "450624f8e5bd33f7996ad0d164a5b8523de50e3cf9ac4f2a836865be9753cdee", func := "pneumatic/pneumaticlaw03.TimespanOrders", spec := "timespanOrders", inPlace := ["internal/bytealg.IndexByteString", "internal/bytealg.IndexString"], unfollowed := true, recurses := true, named := ["internal/strconv.uint64pow10", "math/bits.deBruijn32tab", "math/bits.deBruijn64tab", "internal/bytealg.MaxLen"], apart := false, laid := [("math/bits.deBruijn32tab", laid_math_bits_deBruijn32tab), ("math/bits.deBruijn64tab", laid_math_bits_deBruijn64tab), ("internal/strconv.uint64pow10", laid_internal_strconv_uint64pow10)], narrowed := true }
def TimespanOrdersUptoSaid : Prop := timespanOrdersUptoRow.holds Tryd.pinned (OpenSpec.upto timespanOrdersSpec)

/-- 'pneumaticlaw03.TimespanMeets', WHERE WHAT IT READS IS OF BULK AT MOST 1048576: true; the input reads as it did. -/
def timespanMeetsUptoRow : OpenClaim := { program := "ytgblodnggeabjabdoor", sum := "450624f8e5bd33f7996ad0d164a5b8523de50e3cf9ac4f2a836865be9753cdee", func := "pneumatic/pneumaticlaw03.TimespanMeets", spec := "timespanMeets", inPlace := ["internal/bytealg.IndexByteString", "internal/bytealg.IndexString"], unfollowed := true, recurses := true, named := ["internal/strconv.uint64pow10", "math/bits.deBruijn32tab", "math/bits.deBruijn64tab", "internal/bytealg.MaxLen"], apart := false, laid := [("math/bits.deBruijn32tab", laid_math_bits_deBruijn32tab), ("math/bits.deBruijn64tab", laid_math_bits_deBruijn64tab), ("internal/strconv.uint64pow10", laid_internal_strconv_uint64pow10)], narrowed := true }
def TimespanMeetsUptoSaid : Prop := timespanMeetsUptoRow.holds Tryd.pinned (OpenSpec.upto timespanMeetsSpec)

/-- 'pneumaticlaw03.TimespanSums', WHERE WHAT IT READS IS OF BULK AT MOST 1048576: true; the input reads as it did. -/
def timespanSumsUptoRow : OpenClaim := { program := "ytgblodnggeabjabdoor", sum := "450624f8e5bd33f7996ad0d164a5b8523de50e3cf9ac4f2a836865be9753cdee", func := "pneumatic/pneumaticlaw03.TimespanSums", spec := "timespanSums", inPlace := ["internal/bytealg.IndexByteString", "internal/bytealg.IndexString"], unfollowed := true, recurses := true, named := ["internal/strconv.uint64pow10", "math/bits.deBruijn32tab", "math/bits.deBruijn64tab", "internal/bytealg.MaxLen"], apart := false, laid := [("math/bits.deBruijn32tab", laid_math_bits_deBruijn32tab), ("math/bits.deBruijn64tab", laid_math_bits_deBruijn64tab), ("internal/strconv.uint64pow10", laid_internal_strconv_uint64pow10)], narrowed := true }
def TimespanSumsUptoSaid : Prop := timespanSumsUptoRow.holds Tryd.pinned (OpenSpec.upto timespanSumsSpec)

/-- 'pneumaticlaw03.TimespanTexts', WHERE WHAT IT READS IS OF BULK AT MOST 1048576: true; the input reads as it did. -/
def timespanTextsUptoRow : OpenClaim := { program := "ytgblodnggeabjabdoor", sum := "450624f8e5bd33f7996ad0d164a5b8523de50e3cf9ac4f2a836865be9753cdee", func := "pneumatic/pneumaticlaw03.TimespanTexts", spec := "timespanTexts", inPlace := ["internal/bytealg.IndexByteString", "internal/bytealg.IndexString"], unfollowed := true, recurses := true, named := ["internal/strconv.uint64pow10", "math/bits.deBruijn32tab", "math/bits.deBruijn64tab", "internal/bytealg.MaxLen"], apart := false, laid := [("math/bits.deBruijn32tab", laid_math_bits_deBruijn32tab), ("math/bits.deBruijn64tab", laid_math_bits_deBruijn64tab), ("internal/strconv.uint64pow10", laid_internal_strconv_uint64pow10)], narrowed := true }
def TimespanTextsUptoSaid : Prop := timespanTextsUptoRow.holds Tryd.pinned (OpenSpec.upto timespanTextsSpec)

/-- 'pneumaticlaw03.TimespanCombines', WHERE WHAT IT READS IS OF BULK AT MOST 1048576: true; the input reads as it did. -/
def timespanCombinesUptoRow : OpenClaim := { program := "ytgblodnggeabjabdoor", sum := "450624f8e5bd33f7996ad0d164a5b8523de50e3cf9ac4f2a836865be9753cdee", func := "pneumatic/pneumaticlaw03.TimespanCombines", spec := "timespanCombines", inPlace := ["internal/bytealg.IndexByteString", "internal/bytealg.IndexString"], unfollowed := true, recurses := true, named := ["internal/strconv.uint64pow10", "math/bits.deBruijn32tab", "math/bits.deBruijn64tab", "internal/bytealg.MaxLen"], apart := false, laid := [("math/bits.deBruijn32tab", laid_math_bits_deBruijn32tab), ("math/bits.deBruijn64tab", laid_math_bits_deBruijn64tab), ("internal/strconv.uint64pow10", laid_internal_strconv_uint64pow10)], narrowed := true }
def TimespanCombinesUptoSaid : Prop := timespanCombinesUptoRow.holds Tryd.pinned (OpenSpec.upto timespanCombinesSpec)

/-- 'pneumaticlaw03.TimespanAgrees', WHERE WHAT IT READS IS OF BULK AT MOST 1048576: true; the input reads as it did. -/
def timespanAgreesUptoRow : OpenClaim := { program := "ytgblodnggeabjabdoor", sum := "450624f8e5bd33f7996ad0d164a5b8523de50e3cf9ac4f2a836865be9753cdee", func := "pneumatic/pneumaticlaw03.TimespanAgrees", spec := "timespanAgrees", inPlace := ["internal/bytealg.IndexByteString", "internal/bytealg.IndexString"], unfollowed := true, recurses := true, named := ["internal/strconv.uint64pow10", "math/bits.deBruijn32tab", "math/bits.deBruijn64tab", "internal/bytealg.MaxLen"], apart := false, laid := [("math/bits.deBruijn32tab", laid_math_bits_deBruijn32tab), ("math/bits.deBruijn64tab", laid_math_bits_deBruijn64tab), ("internal/strconv.uint64pow10", laid_internal_strconv_uint64pow10)], narrowed := true }
def TimespanAgreesUptoSaid : Prop := timespanAgreesUptoRow.holds Tryd.pinned (OpenSpec.upto timespanAgreesSpec)

/-- 'pneumaticlaw03.TimespanReads', WHERE WHAT IT READS IS OF BULK AT MOST 1048576: true; the input reads as it did. -/
def timespanReadsUptoRow : OpenClaim := { program := "ytgblodnggeabjabdoor", sum := "450624f8e5bd33f7996ad0d164a5b8523de50e3cf9ac4f2a836865be9753cdee", func := "pneumatic/pneumaticlaw03.TimespanReads", spec := "timespanReads", inPlace := ["internal/bytealg.IndexByteString", "internal/bytealg.IndexString"], unfollowed := true, recurses := true, named := ["internal/strconv.uint64pow10", "math/bits.deBruijn32tab", "math/bits.deBruijn64tab", "internal/bytealg.MaxLen"], apart := false, laid := [("math/bits.deBruijn32tab", laid_math_bits_deBruijn32tab), ("math/bits.deBruijn64tab", laid_math_bits_deBruijn64tab), ("internal/strconv.uint64pow10", laid_internal_strconv_uint64pow10)], narrowed := true }
def TimespanReadsUptoSaid : Prop := timespanReadsUptoRow.holds Tryd.pinned (OpenSpec.upto timespanReadsSpec)

end Rows
end Go.Proofs.YtgblodnggeabjabDoor
