/-
  NARROWER THAN 'FOR EVERY INPUT', by the rows' own cells (each row's printed sentence says how): TopLeak: laid · TopSaid: laid · TopModes: laid · TopCuts: laid · TopCommitted: laid · TopGone: laid · TopTwice: laid · TopBad: laid.
  DERIVED. THE GIVEN ROWS OF THIS SEAT. 8 by the template 'for every input the law returns true; each argument reads behind the call as it read before'; 0 by the template 'total and deterministic' (their statements: YtpbaobmegomfpacGreatDoorTotals.lean).
  GIVEN WITH THE SEED: the statements are not yours to turn. If you find one false, say at which input.
  Laid BY PROGRAM, IN A SANDBOX (cutbox-rows.mjs): the forced cells as the released guide's own fill.sh prints them over the translation 0ba2fabd9880487f… (all of the seat's roots in one cut). By AI agents, Wed Nov 11 2026. No macro, syntax, notation, axiom, sorry.
-/
import Derived.Test.YtpbaobmegomfpacGreatDoorChecked
import GoSem.Claim
import GoSem.ClaimJoined
import GoSem.ClaimMapViews
import Derived.JoinedTies
import Derived.KernelRfl
namespace Go.Proofs.YtpbaobmegomfpacGreatDoor
/- THE CELL 'sum', in the pinned program and in every row, IS THE sha256 OF THE DUMP (.gsa) THAT YtpbaobmegomfpacGreatDoorProg.lean LOADS. Nothing in Lean hashes anything: it is a label: what it is worth is what the hold of that sum in a sandbox is worth. -/
noncomputable def Tryz.pinned : Pinned := { name := "ytpbaobmegomfpacgreatdoor", sum := "0ba2fabd9880487fcf9ebcef9a88e28920575d7537d08179034a0eb3f5346173", checked := Tryz.checked }
namespace Rows
def none {H : Type} : Left H := { results := [], args := [] }

/- WHAT THE LISTED PACKAGE-LEVEL VARIABLES READ AS WHEN THE CALL BEGINS. Each datum BY PROGRAM (the guide's laid-datum.mjs) off the statement by which the dump's own 'gosem.cut.vars' lays the variable. In a bare row this is a premise. The card (YtpbaobmegomfpacGreatDoorCards.lean) ties it to the program's text. -/
def laid_math_bits_deBruijn32tab {H : Type} : DataW H := .agg [.lit (.int .u8 0), .lit (.int .u8 1), .lit (.int .u8 28), .lit (.int .u8 2), .lit (.int .u8 29), .lit (.int .u8 14), .lit (.int .u8 24), .lit (.int .u8 3), .lit (.int .u8 30), .lit (.int .u8 22), .lit (.int .u8 20), .lit (.int .u8 15), .lit (.int .u8 25), .lit (.int .u8 17), .lit (.int .u8 4), .lit (.int .u8 8), .lit (.int .u8 31), .lit (.int .u8 27), .lit (.int .u8 13), .lit (.int .u8 23), .lit (.int .u8 21), .lit (.int .u8 19), .lit (.int .u8 16), .lit (.int .u8 7), .lit (.int .u8 26), .lit (.int .u8 12), .lit (.int .u8 18), .lit (.int .u8 6), .lit (.int .u8 11), .lit (.int .u8 5), .lit (.int .u8 10), .lit (.int .u8 9)]
def laid_math_bits_deBruijn64tab {H : Type} : DataW H := .agg [.lit (.int .u8 0), .lit (.int .u8 1), .lit (.int .u8 56), .lit (.int .u8 2), .lit (.int .u8 57), .lit (.int .u8 49), .lit (.int .u8 28), .lit (.int .u8 3), .lit (.int .u8 61), .lit (.int .u8 58), .lit (.int .u8 42), .lit (.int .u8 50), .lit (.int .u8 38), .lit (.int .u8 29), .lit (.int .u8 17), .lit (.int .u8 4), .lit (.int .u8 62), .lit (.int .u8 47), .lit (.int .u8 59), .lit (.int .u8 36), .lit (.int .u8 45), .lit (.int .u8 43), .lit (.int .u8 51), .lit (.int .u8 22), .lit (.int .u8 53), .lit (.int .u8 39), .lit (.int .u8 33), .lit (.int .u8 30), .lit (.int .u8 24), .lit (.int .u8 18), .lit (.int .u8 12), .lit (.int .u8 5), .lit (.int .u8 63), .lit (.int .u8 55), .lit (.int .u8 48), .lit (.int .u8 27), .lit (.int .u8 60), .lit (.int .u8 41), .lit (.int .u8 37), .lit (.int .u8 16), .lit (.int .u8 46), .lit (.int .u8 35), .lit (.int .u8 44), .lit (.int .u8 21), .lit (.int .u8 52), .lit (.int .u8 32), .lit (.int .u8 23), .lit (.int .u8 11), .lit (.int .u8 54), .lit (.int .u8 26), .lit (.int .u8 40), .lit (.int .u8 15), .lit (.int .u8 34), .lit (.int .u8 20), .lit (.int .u8 31), .lit (.int .u8 10), .lit (.int .u8 25), .lit (.int .u8 14), .lit (.int .u8 19), .lit (.int .u8 9), .lit (.int .u8 13), .lit (.int .u8 8), .lit (.int .u8 7), .lit (.int .u8 6)]
def laid_internal_strconv_uint64pow10 {H : Type} : DataW H := .agg [.lit (.int .u64 1), .lit (.int .u64 10), .lit (.int .u64 100), .lit (.int .u64 1000), .lit (.int .u64 10000), .lit (.int .u64 100000), .lit (.int .u64 1000000), .lit (.int .u64 10000000), .lit (.int .u64 100000000), .lit (.int .u64 1000000000), .lit (.int .u64 10000000000), .lit (.int .u64 100000000000), .lit (.int .u64 1000000000000), .lit (.int .u64 10000000000000), .lit (.int .u64 100000000000000), .lit (.int .u64 1000000000000000), .lit (.int .u64 10000000000000000), .lit (.int .u64 100000000000000000), .lit (.int .u64 1000000000000000000), .lit (.int .u64 10000000000000000000)]
def laid_tillerman_say_words {H : Type} : DataW H := .agg [.lit (.string []), .lit (.string [98, 101, 103, 105, 110]), .lit (.string [99, 111, 109, 109, 105, 116]), .lit (.string [114, 111, 108, 108, 98, 97, 99, 107]), .lit (.string [114, 101, 115, 101, 116]), .lit (.string [102, 97, 105, 108]), .lit (.string [103, 101, 116]), .lit (.string [114, 101, 97, 100]), .lit (.string [101, 120, 101, 99]), .lit (.string [115, 101, 116]), .lit (.string [112, 117, 116]), .lit (.string [112, 114, 101, 112])]
def laid_tillerman_say_leads {H : Type} : DataW H := .agg [.lit (.string []), .lit (.string [111, 107]), .lit (.string [61]), .lit (.string [110, 111, 110, 101]), .lit (.string [33])]

/-- 'tillermantop.TopLeak': WHATEVER THE INPUT: true; the input reads as it did. -/
def topLeakSpec : ChangeSpec := { name := "topLeak", fn := fun _ => fun
  | [d1, d2, d3] => { results := [.lit (.bool true)], args := [d1, d2, d3] }
  | _ => none }
def topLeakRow : OpenClaim := { program := "ytpbaobmegomfpacgreatdoor", sum := "0ba2fabd9880487fcf9ebcef9a88e28920575d7537d08179034a0eb3f5346173", func := "tillerman/tillermantop.TopLeak", spec := "topLeak", inPlace := ["internal/bytealg.IndexByteString", "internal/bytealg.IndexString", "slices.overlaps[tillerman/api.Pair]"], unfollowed := true, recurses := true, named := ["internal/strconv.uint64pow10", "math/bits.deBruijn32tab", "math/bits.deBruijn64tab", "tillerman/say.words", "internal/bytealg.MaxLen", "tillerman/say.leads"], apart := false, laid := [("math/bits.deBruijn32tab", laid_math_bits_deBruijn32tab), ("math/bits.deBruijn64tab", laid_math_bits_deBruijn64tab), ("internal/strconv.uint64pow10", laid_internal_strconv_uint64pow10), ("tillerman/say.words", laid_tillerman_say_words), ("tillerman/say.leads", laid_tillerman_say_leads)] }
def TopLeakSaid : Prop := topLeakRow.holds Tryz.pinned (OpenSpec.ofChange topLeakSpec)

/-- ITS FALSE NEIGHBOUR: 'it returns false'. Refute it at one input. -/
def topLeakWrong : ChangeSpec := { name := "topLeak", fn := fun _ => fun
  | [d1, d2, d3] => { results := [.lit (.bool false)], args := [d1, d2, d3] }
  | _ => none }
def TopLeakWrongFalsely : Prop := topLeakRow.holds Tryz.pinned (OpenSpec.ofChange topLeakWrong)

/-- 'tillermantop.TopSaid': WHATEVER THE INPUT: true; the input reads as it did. -/
def topSaidSpec : ChangeSpec := { name := "topSaid", fn := fun _ => fun
  | [d1, d2, d3] => { results := [.lit (.bool true)], args := [d1, d2, d3] }
  | _ => none }
def topSaidRow : OpenClaim := { program := "ytpbaobmegomfpacgreatdoor", sum := "0ba2fabd9880487fcf9ebcef9a88e28920575d7537d08179034a0eb3f5346173", func := "tillerman/tillermantop.TopSaid", spec := "topSaid", inPlace := ["internal/bytealg.IndexByteString", "internal/bytealg.IndexString", "slices.overlaps[tillerman/api.Pair]"], unfollowed := true, recurses := true, named := ["internal/strconv.uint64pow10", "math/bits.deBruijn32tab", "math/bits.deBruijn64tab", "tillerman/say.words", "internal/bytealg.MaxLen", "tillerman/say.leads"], apart := false, laid := [("math/bits.deBruijn32tab", laid_math_bits_deBruijn32tab), ("math/bits.deBruijn64tab", laid_math_bits_deBruijn64tab), ("internal/strconv.uint64pow10", laid_internal_strconv_uint64pow10), ("tillerman/say.words", laid_tillerman_say_words), ("tillerman/say.leads", laid_tillerman_say_leads)] }
def TopSaidSaid : Prop := topSaidRow.holds Tryz.pinned (OpenSpec.ofChange topSaidSpec)

/-- ITS FALSE NEIGHBOUR: 'it returns false'. Refute it at one input. -/
def topSaidWrong : ChangeSpec := { name := "topSaid", fn := fun _ => fun
  | [d1, d2, d3] => { results := [.lit (.bool false)], args := [d1, d2, d3] }
  | _ => none }
def TopSaidWrongFalsely : Prop := topSaidRow.holds Tryz.pinned (OpenSpec.ofChange topSaidWrong)

/-- 'tillermantop.TopModes': WHATEVER THE INPUT: true; the input reads as it did. -/
def topModesSpec : ChangeSpec := { name := "topModes", fn := fun _ => fun
  | [d] => { results := [.lit (.bool true)], args := [d] }
  | _ => none }
def topModesRow : OpenClaim := { program := "ytpbaobmegomfpacgreatdoor", sum := "0ba2fabd9880487fcf9ebcef9a88e28920575d7537d08179034a0eb3f5346173", func := "tillerman/tillermantop.TopModes", spec := "topModes", inPlace := ["internal/bytealg.IndexByteString", "internal/bytealg.IndexString", "slices.overlaps[tillerman/api.Pair]"], unfollowed := true, recurses := true, named := ["internal/strconv.uint64pow10", "math/bits.deBruijn32tab", "math/bits.deBruijn64tab", "tillerman/say.words", "internal/bytealg.MaxLen", "tillerman/say.leads"], apart := false, laid := [("math/bits.deBruijn32tab", laid_math_bits_deBruijn32tab), ("math/bits.deBruijn64tab", laid_math_bits_deBruijn64tab), ("internal/strconv.uint64pow10", laid_internal_strconv_uint64pow10), ("tillerman/say.words", laid_tillerman_say_words), ("tillerman/say.leads", laid_tillerman_say_leads)] }
def TopModesSaid : Prop := topModesRow.holds Tryz.pinned (OpenSpec.ofChange topModesSpec)

/-- ITS FALSE NEIGHBOUR: 'it returns false'. Refute it at one input. -/
def topModesWrong : ChangeSpec := { name := "topModes", fn := fun _ => fun
  | [d] => { results := [.lit (.bool false)], args := [d] }
  | _ => none }
def TopModesWrongFalsely : Prop := topModesRow.holds Tryz.pinned (OpenSpec.ofChange topModesWrong)

/-- 'tillermantop.TopCuts': WHATEVER THE INPUT: true; the input reads as it did. -/
def topCutsSpec : ChangeSpec := { name := "topCuts", fn := fun _ => fun
  | [d1, d2, d3] => { results := [.lit (.bool true)], args := [d1, d2, d3] }
  | _ => none }
def topCutsRow : OpenClaim := { program := "ytpbaobmegomfpacgreatdoor", sum := "0ba2fabd9880487fcf9ebcef9a88e28920575d7537d08179034a0eb3f5346173", func := "tillerman/tillermantop.TopCuts", spec := "topCuts", inPlace := ["internal/bytealg.IndexByteString", "internal/bytealg.IndexString", "slices.overlaps[tillerman/api.Pair]"], unfollowed := true, recurses := true, named := ["internal/strconv.uint64pow10", "math/bits.deBruijn32tab", "math/bits.deBruijn64tab", "tillerman/say.words", "internal/bytealg.MaxLen", "tillerman/say.leads"], apart := false, laid := [("math/bits.deBruijn32tab", laid_math_bits_deBruijn32tab), ("math/bits.deBruijn64tab", laid_math_bits_deBruijn64tab), ("internal/strconv.uint64pow10", laid_internal_strconv_uint64pow10), ("tillerman/say.words", laid_tillerman_say_words), ("tillerman/say.leads", laid_tillerman_say_leads)] }
def TopCutsSaid : Prop := topCutsRow.holds Tryz.pinned (OpenSpec.ofChange topCutsSpec)

/-- ITS FALSE NEIGHBOUR: 'it returns false'. Refute it at one input. -/
def topCutsWrong : ChangeSpec := { name := "topCuts", fn := fun _ => fun
  | [d1, d2, d3] => { results := [.lit (.bool false)], args := [d1, d2, d3] }
  | _ => none }
def TopCutsWrongFalsely : Prop := topCutsRow.holds Tryz.pinned (OpenSpec.ofChange topCutsWrong)

/-- 'tillermantop.TopCommitted': WHATEVER THE INPUT: true; the input reads as it did. -/
def topCommittedSpec : ChangeSpec := { name := "topCommitted", fn := fun _ => fun
  | [d1, d2, d3] => { results := [.lit (.bool true)], args := [d1, d2, d3] }
  | _ => none }
def topCommittedRow : OpenClaim := { program := "ytpbaobmegomfpacgreatdoor", sum := "0ba2fabd9880487fcf9ebcef9a88e28920575d7537d08179034a0eb3f5346173", func := "tillerman/tillermantop.TopCommitted", spec := "topCommitted", inPlace := ["internal/bytealg.IndexByteString", "internal/bytealg.IndexString", "slices.overlaps[tillerman/api.Pair]"], unfollowed := true, recurses := true, named := ["internal/strconv.uint64pow10", "math/bits.deBruijn32tab", "math/bits.deBruijn64tab", "tillerman/say.words", "internal/bytealg.MaxLen", "tillerman/say.leads"], apart := false, laid := [("math/bits.deBruijn32tab", laid_math_bits_deBruijn32tab), ("math/bits.deBruijn64tab", laid_math_bits_deBruijn64tab), ("internal/strconv.uint64pow10", laid_internal_strconv_uint64pow10), ("tillerman/say.words", laid_tillerman_say_words), ("tillerman/say.leads", laid_tillerman_say_leads)] }
def TopCommittedSaid : Prop := topCommittedRow.holds Tryz.pinned (OpenSpec.ofChange topCommittedSpec)

/-- ITS FALSE NEIGHBOUR: 'it returns false'. Refute it at one input. -/
def topCommittedWrong : ChangeSpec := { name := "topCommitted", fn := fun _ => fun
  | [d1, d2, d3] => { results := [.lit (.bool false)], args := [d1, d2, d3] }
  | _ => none }
def TopCommittedWrongFalsely : Prop := topCommittedRow.holds Tryz.pinned (OpenSpec.ofChange topCommittedWrong)

/-- 'tillermantop.TopGone': WHATEVER THE INPUT: true; the input reads as it did. -/
def topGoneSpec : ChangeSpec := { name := "topGone", fn := fun _ => fun
  | [d1, d2, d3, d4] => { results := [.lit (.bool true)], args := [d1, d2, d3, d4] }
  | _ => none }
def topGoneRow : OpenClaim := { program := "ytpbaobmegomfpacgreatdoor", sum := "0ba2fabd9880487fcf9ebcef9a88e28920575d7537d08179034a0eb3f5346173", func := "tillerman/tillermantop.TopGone", spec := "topGone", inPlace := ["internal/bytealg.IndexByteString", "internal/bytealg.IndexString", "slices.overlaps[tillerman/api.Pair]"], unfollowed := true, recurses := true, named := ["internal/strconv.uint64pow10", "math/bits.deBruijn32tab", "math/bits.deBruijn64tab", "tillerman/say.words", "internal/bytealg.MaxLen", "tillerman/say.leads"], apart := false, laid := [("math/bits.deBruijn32tab", laid_math_bits_deBruijn32tab), ("math/bits.deBruijn64tab", laid_math_bits_deBruijn64tab), ("internal/strconv.uint64pow10", laid_internal_strconv_uint64pow10), ("tillerman/say.words", laid_tillerman_say_words), ("tillerman/say.leads", laid_tillerman_say_leads)] }
def TopGoneSaid : Prop := topGoneRow.holds Tryz.pinned (OpenSpec.ofChange topGoneSpec)

/-- ITS FALSE NEIGHBOUR: 'it returns false'. Refute it at one input. -/
def topGoneWrong : ChangeSpec := { name := "topGone", fn := fun _ => fun
  | [d1, d2, d3, d4] => { results := [.lit (.bool false)], args := [d1, d2, d3, d4] }
  | _ => none }
def TopGoneWrongFalsely : Prop := topGoneRow.holds Tryz.pinned (OpenSpec.ofChange topGoneWrong)

/-- 'tillermantop.TopTwice': WHATEVER THE INPUT: true; the input reads as it did. -/
def topTwiceSpec : ChangeSpec := { name := "topTwice", fn := fun _ => fun
  | [d1, d2, d3, d4] => { results := [.lit (.bool true)], args := [d1, d2, d3, d4] }
  | _ => none }
def topTwiceRow : OpenClaim := { program := "ytpbaobmegomfpacgreatdoor", sum := "0ba2fabd9880487fcf9ebcef9a88e28920575d7537d08179034a0eb3f5346173", func := "tillerman/tillermantop.TopTwice", spec := "topTwice", inPlace := ["internal/bytealg.IndexByteString", "internal/bytealg.IndexString", "slices.overlaps[tillerman/api.Pair]"], unfollowed := true, recurses := true, named := ["internal/strconv.uint64pow10", "math/bits.deBruijn32tab", "math/bits.deBruijn64tab", "tillerman/say.words", "internal/bytealg.MaxLen", "tillerman/say.leads"], apart := false, laid := [("math/bits.deBruijn32tab", laid_math_bits_deBruijn32tab), ("math/bits.deBruijn64tab", laid_math_bits_deBruijn64tab), ("internal/strconv.uint64pow10", laid_internal_strconv_uint64pow10), ("tillerman/say.words", laid_tillerman_say_words), ("tillerman/say.leads", laid_tillerman_say_leads)] }
def TopTwiceSaid : Prop := topTwiceRow.holds Tryz.pinned (OpenSpec.ofChange topTwiceSpec)

/-- ITS FALSE NEIGHBOUR: 'it returns false'. Refute it at one input. -/
def topTwiceWrong : ChangeSpec := { name := "topTwice", fn := fun _ => fun
  | [d1, d2, d3, d4] => { results := [.lit (.bool false)], args := [d1, d2, d3, d4] }
  | _ => none }
def TopTwiceWrongFalsely : Prop := topTwiceRow.holds Tryz.pinned (OpenSpec.ofChange topTwiceWrong)

/-- 'tillermantop.TopBad': WHATEVER THE INPUT: true; the input reads as it did. -/
def topBadSpec : ChangeSpec := { name := "topBad", fn := fun _ => fun
  | [d] => { results := [.lit (.bool true)], args := [d] }
  | _ => none }
def topBadRow : OpenClaim := { program := "ytpbaobmegomfpacgreatdoor", sum := "0ba2fabd9880487fcf9ebcef9a88e28920575d7537d08179034a0eb3f5346173", func := "tillerman/tillermantop.TopBad", spec := "topBad", inPlace := ["internal/bytealg.IndexByteString", "internal/bytealg.IndexString", "slices.overlaps[tillerman/api.Pair]", "internal/abi.NoEscape", "internal/bytealg.MakeNoZero"], unfollowed := true, recurses := true, named := ["tillerman/say.leads", "internal/bytealg.MaxLen", "tillerman/say.words"], apart := false, laid := [("tillerman/say.words", laid_tillerman_say_words), ("tillerman/say.leads", laid_tillerman_say_leads)] }
def TopBadSaid : Prop := topBadRow.holds Tryz.pinned (OpenSpec.ofChange topBadSpec)

/-- ITS FALSE NEIGHBOUR: 'it returns false'. Refute it at one input. -/
def topBadWrong : ChangeSpec := { name := "topBad", fn := fun _ => fun
  | [d] => { results := [.lit (.bool false)], args := [d] }
  | _ => none }
def TopBadWrongFalsely : Prop := topBadRow.holds Tryz.pinned (OpenSpec.ofChange topBadWrong)

/- THE SECOND FORM. 'bulk': how many values and letters a reading holds, each counted each time it is reached (what is shared counts as often as it is met; a slice's spare places count too). A statement '..UptoSaid' is the law's where the arguments, and the package variables that the reading takes, are together of bulk at most 1048576: NARROWER than '..Said'. Prove '..Said' where nothing that the law and all that it calls make is longer than what came in: it says more and counts as full. Else prove '..UptoSaid'. A law counts once. -/
mutual
def uptoBulk {H : Type} : DataW H → Nat
  | .lit (.string bytes) => bytes.length + 1
  | .lit _ => 1
  | .nil => 1
  | .ptr d => uptoBulk d + 1
  | .slice elems spare => uptoBulkAll elems + uptoBulkAll spare + 1
  | .agg parts => uptoBulkAll parts + 1
  | .iface _ d => uptoBulk d + 1
  | .map entries => uptoBulkEntries entries + 1
  | .held _ => 1
def uptoBulkAll {H : Type} : List (DataW H) → Nat
  | [] => 0
  | d :: r => uptoBulk d + uptoBulkAll r
def uptoBulkEntries {H : Type} : List (Lit × DataW H) → Nat
  | [] => 0
  | x :: r => uptoBulkEntry x + uptoBulkEntries r
def uptoBulkEntry {H : Type} : Lit × DataW H → Nat
  | (.string bytes, d) => bytes.length + uptoBulk d + 1
  | (_, d) => uptoBulk d + 1
 end
def uptoSmall : (H : Type) → List (DataW H) → Bool := fun _ ds => decide (uptoBulkAll ds ≤ 1048576)
def OpenSpec.upto (s : _root_.Go.ChangeSpec) : _root_.Go.OpenSpec := { _root_.Go.OpenSpec.ofChange s with cond := some uptoSmall }

/-- 'tillermantop.TopLeak', WHERE WHAT IT READS IS OF BULK AT MOST 1048576: true; the input reads as it did. -/
def topLeakUptoRow : OpenClaim := { program := "ytpbaobmegomfpacgreatdoor", sum := "0ba2fabd9880487fcf9ebcef9a88e28920575d7537d08179034a0eb3f5346173", func := "tillerman/tillermantop.TopLeak", spec := "topLeak", inPlace := ["internal/bytealg.IndexByteString", "internal/bytealg.IndexString", "slices.overlaps[tillerman/api.Pair]"], unfollowed := true, recurses := true, named := ["internal/strconv.uint64pow10", "math/bits.deBruijn32tab", "math/bits.deBruijn64tab", "tillerman/say.words", "internal/bytealg.MaxLen", "tillerman/say.leads"], apart := false, laid := [("math/bits.deBruijn32tab", laid_math_bits_deBruijn32tab), ("math/bits.deBruijn64tab", laid_math_bits_deBruijn64tab), ("internal/strconv.uint64pow10", laid_internal_strconv_uint64pow10), ("tillerman/say.words", laid_tillerman_say_words), ("tillerman/say.leads", laid_tillerman_say_leads)], narrowed := true }
def TopLeakUptoSaid : Prop := topLeakUptoRow.holds Tryz.pinned (OpenSpec.upto topLeakSpec)

/-- 'tillermantop.TopSaid', WHERE WHAT IT READS IS OF BULK AT MOST 1048576: true; the input reads as it did. -/
def topSaidUptoRow : OpenClaim := { program := "ytpbaobmegomfpacgreatdoor", sum := "0ba2fabd9880487fcf9ebcef9a88e28920575d7537d08179034a0eb3f5346173", func := "tillerman/tillermantop.TopSaid", spec := "topSaid", inPlace := ["internal/bytealg.IndexByteString", "internal/bytealg.IndexString", "slices.overlaps[tillerman/api.Pair]"], unfollowed := true, recurses := true, named := ["internal/strconv.uint64pow10", "math/bits.deBruijn32tab", "math/bits.deBruijn64tab", "tillerman/say.words", "internal/bytealg.MaxLen", "tillerman/say.leads"], apart := false, laid := [("math/bits.deBruijn32tab", laid_math_bits_deBruijn32tab), ("math/bits.deBruijn64tab", laid_math_bits_deBruijn64tab), ("internal/strconv.uint64pow10", laid_internal_strconv_uint64pow10), ("tillerman/say.words", laid_tillerman_say_words), ("tillerman/say.leads", laid_tillerman_say_leads)], narrowed := true }
def TopSaidUptoSaid : Prop := topSaidUptoRow.holds Tryz.pinned (OpenSpec.upto topSaidSpec)

/-- 'tillermantop.TopModes', WHERE WHAT IT READS IS OF BULK AT MOST 1048576: true; the input reads as it did. -/
def topModesUptoRow : OpenClaim := { program := "ytpbaobmegomfpacgreatdoor", sum := "0ba2fabd9880487fcf9ebcef9a88e28920575d7537d08179034a0eb3f5346173", func := "tillerman/tillermantop.TopModes", spec := "topModes", inPlace := ["internal/bytealg.IndexByteString", "internal/bytealg.IndexString", "slices.overlaps[tillerman/api.Pair]"], unfollowed := true, recurses := true, named := ["internal/strconv.uint64pow10", "math/bits.deBruijn32tab", "math/bits.deBruijn64tab", "tillerman/say.words", "internal/bytealg.MaxLen", "tillerman/say.leads"], apart := false, laid := [("math/bits.deBruijn32tab", laid_math_bits_deBruijn32tab), ("math/bits.deBruijn64tab", laid_math_bits_deBruijn64tab), ("internal/strconv.uint64pow10", laid_internal_strconv_uint64pow10), ("tillerman/say.words", laid_tillerman_say_words), ("tillerman/say.leads", laid_tillerman_say_leads)], narrowed := true }
def TopModesUptoSaid : Prop := topModesUptoRow.holds Tryz.pinned (OpenSpec.upto topModesSpec)

/-- 'tillermantop.TopCuts', WHERE WHAT IT READS IS OF BULK AT MOST 1048576: true; the input reads as it did. -/
def topCutsUptoRow : OpenClaim := { program := "ytpbaobmegomfpacgreatdoor", sum := "0ba2fabd9880487fcf9ebcef9a88e28920575d7537d08179034a0eb3f5346173", func := "tillerman/tillermantop.TopCuts", spec := "topCuts", inPlace := ["internal/bytealg.IndexByteString", "internal/bytealg.IndexString", "slices.overlaps[tillerman/api.Pair]"], unfollowed := true, recurses := true, named := ["internal/strconv.uint64pow10", "math/bits.deBruijn32tab", "math/bits.deBruijn64tab", "tillerman/say.words", "internal/bytealg.MaxLen", "tillerman/say.leads"], apart := false, laid := [("math/bits.deBruijn32tab", laid_math_bits_deBruijn32tab), ("math/bits.deBruijn64tab", laid_math_bits_deBruijn64tab), ("internal/strconv.uint64pow10", laid_internal_strconv_uint64pow10), ("tillerman/say.words", laid_tillerman_say_words), ("tillerman/say.leads", laid_tillerman_say_leads)], narrowed := true }
def TopCutsUptoSaid : Prop := topCutsUptoRow.holds Tryz.pinned (OpenSpec.upto topCutsSpec)

/-- 'tillermantop.TopCommitted', WHERE WHAT IT READS IS OF BULK AT MOST 1048576: true; the input reads as it did. -/
def topCommittedUptoRow : OpenClaim := { program := "ytpbaobmegomfpacgreatdoor", sum := "0ba2fabd9880487fcf9ebcef9a88e28920575d7537d08179034a0eb3f5346173", func := "tillerman/tillermantop.TopCommitted", spec := "topCommitted", inPlace := ["internal/bytealg.IndexByteString", "internal/bytealg.IndexString", "slices.overlaps[tillerman/api.Pair]"], unfollowed := true, recurses := true, named := ["internal/strconv.uint64pow10", "math/bits.deBruijn32tab", "math/bits.deBruijn64tab", "tillerman/say.words", "internal/bytealg.MaxLen", "tillerman/say.leads"], apart := false, laid := [("math/bits.deBruijn32tab", laid_math_bits_deBruijn32tab), ("math/bits.deBruijn64tab", laid_math_bits_deBruijn64tab), ("internal/strconv.uint64pow10", laid_internal_strconv_uint64pow10), ("tillerman/say.words", laid_tillerman_say_words), ("tillerman/say.leads", laid_tillerman_say_leads)], narrowed := true }
def TopCommittedUptoSaid : Prop := topCommittedUptoRow.holds Tryz.pinned (OpenSpec.upto topCommittedSpec)

/-- 'tillermantop.TopGone', WHERE WHAT IT READS IS OF BULK AT MOST 1048576: true; the input reads as it did. -/
def topGoneUptoRow : OpenClaim := { program := "ytpbaobmegomfpacgreatdoor", sum := "0ba2fabd9880487fcf9ebcef9a88e28920575d7537d08179034a0eb3f5346173", func := "tillerman/tillermantop.TopGone", spec := "topGone", inPlace := ["internal/bytealg.IndexByteString", "internal/bytealg.IndexString", "slices.overlaps[tillerman/api.Pair]"], unfollowed := true, recurses := true, named := ["internal/strconv.uint64pow10", "math/bits.deBruijn32tab", "math/bits.deBruijn64tab", "tillerman/say.words", "internal/bytealg.MaxLen", "tillerman/say.leads"], apart := false, laid := [("math/bits.deBruijn32tab", laid_math_bits_deBruijn32tab), ("math/bits.deBruijn64tab", laid_math_bits_deBruijn64tab), ("internal/strconv.uint64pow10", laid_internal_strconv_uint64pow10), ("tillerman/say.words", laid_tillerman_say_words), ("tillerman/say.leads", laid_tillerman_say_leads)], narrowed := true }
def TopGoneUptoSaid : Prop := topGoneUptoRow.holds Tryz.pinned (OpenSpec.upto topGoneSpec)

/-- 'tillermantop.TopTwice', WHERE WHAT IT READS IS OF BULK AT MOST 1048576: true; the input reads as it did. -/
def topTwiceUptoRow : OpenClaim := { program := "ytpbaobmegomfpacgreatdoor", sum := "0ba2fabd9880487fcf9ebcef9a88e28920575d7537d08179034a0eb3f5346173", func := "tillerman/tillermantop.TopTwice", spec := "topTwice", inPlace := ["internal/bytealg.IndexByteString", "internal/bytealg.IndexString", "slices.overlaps[tillerman/api.Pair]"], unfollowed := true, recurses := true, named := ["internal/strconv.uint64pow10", "math/bits.deBruijn32tab", "math/bits.deBruijn64tab", "tillerman/say.words", "internal/bytealg.MaxLen", "tillerman/say.leads"], apart := false, laid := [("math/bits.deBruijn32tab", laid_math_bits_deBruijn32tab), ("math/bits.deBruijn64tab", laid_math_bits_deBruijn64tab), ("internal/strconv.uint64pow10", laid_internal_strconv_uint64pow10), ("tillerman/say.words", laid_tillerman_say_words), ("tillerman/say.leads", laid_tillerman_say_leads)], narrowed := true }
def TopTwiceUptoSaid : Prop := topTwiceUptoRow.holds Tryz.pinned (OpenSpec.upto topTwiceSpec)

/-- 'tillermantop.TopBad', WHERE WHAT IT READS IS OF BULK AT MOST 1048576: true; the input reads as it did. -/
def topBadUptoRow : OpenClaim := { program := "ytpbaobmegomfpacgreatdoor", sum := "0ba2fabd9880487fcf9ebcef9a88e28920575d7537d08179034a0eb3f5346173", func := "tillerman/tillermantop.TopBad", spec := "topBad", inPlace := ["internal/bytealg.IndexByteString", "internal/bytealg.IndexString", "slices.overlaps[tillerman/api.Pair]", "internal/abi.NoEscape", "internal/bytealg.MakeNoZero"], unfollowed := true, recurses := true, named := ["tillerman/say.leads", "internal/bytealg.MaxLen", "tillerman/say.words"], apart := false, laid := [("tillerman/say.words", laid_tillerman_say_words), ("tillerman/say.leads", laid_tillerman_say_leads)], narrowed := true }
def TopBadUptoSaid : Prop := topBadUptoRow.holds Tryz.pinned (OpenSpec.upto topBadSpec)

end Rows
end Go.Proofs.YtpbaobmegomfpacGreatDoor
