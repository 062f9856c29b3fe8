/-
  NARROWER THAN 'FOR EVERY INPUT', by the rows' own cells (each row's printed sentence says how): SignsTells: laid · SignsBack: laid · SignsOnce: laid · SignsParts: laid · SignsPlain: laid.
  DERIVED. THE GIVEN ROWS OF THIS SEAT. 5 by the template 'for every input the law returns true; each argument reads behind the call as it read before'; 0 by the template 'total and deterministic' (their statements: YtcdjilipmjjjkaaDoorTotals.lean).
  GIVEN WITH THE SEED: the statements are not yours to turn. If you find one false, say at which input.
  Laid BY PROGRAM, IN A SANDBOX (cutbox-rows.mjs): the forced cells as the released guide's own fill.sh prints them over the translation a7d66878ed990e95… (all of the seat's roots in one cut). By AI agents, Wed Nov 11 2026. No macro, syntax, notation, axiom, sorry.
-/
import Derived.Test.YtcdjilipmjjjkaaDoorChecked
import GoSem.PinnedTables
import GoSem.Claim
import GoSem.ClaimJoined
import GoSem.ClaimMapViews
import Derived.JoinedTies
import Derived.KernelRfl
namespace Go.Proofs.YtcdjilipmjjjkaaDoor
/- THE CELL 'sum', in the pinned program and in every row, IS THE sha256 OF THE DUMP (.gsa) THAT YtcdjilipmjjjkaaDoorProg.lean LOADS. Nothing in Lean hashes anything: it is a label: what it is worth is what the hold of that sum in a sandbox is worth. -/
noncomputable def Tryd.pinned : Pinned := { name := "ytcdjilipmjjjkaadoor", sum := "a7d66878ed990e9550612446c59f1e0b2c02d78c9494a10f711c6fb1ea08d861", checked := Tryd.checked }
namespace Rows
def none {H : Type} : Left H := { results := [], args := [] }

/- WHAT THE LISTED PACKAGE-LEVEL VARIABLES READ AS WHEN THE CALL BEGINS. Each datum BY PROGRAM (the guide's laid-datum.mjs) off the statement by which the dump's own 'gosem.cut.vars' lays the variable. In a bare row this is a premise. The card (YtcdjilipmjjjkaaDoorCards.lean) ties it to the program's text. -/
def laid_math_bits_deBruijn32tab {H : Type} : DataW H := .agg [.lit (.int .u8 0), .lit (.int .u8 1), .lit (.int .u8 28), .lit (.int .u8 2), .lit (.int .u8 29), .lit (.int .u8 14), .lit (.int .u8 24), .lit (.int .u8 3), .lit (.int .u8 30), .lit (.int .u8 22), .lit (.int .u8 20), .lit (.int .u8 15), .lit (.int .u8 25), .lit (.int .u8 17), .lit (.int .u8 4), .lit (.int .u8 8), .lit (.int .u8 31), .lit (.int .u8 27), .lit (.int .u8 13), .lit (.int .u8 23), .lit (.int .u8 21), .lit (.int .u8 19), .lit (.int .u8 16), .lit (.int .u8 7), .lit (.int .u8 26), .lit (.int .u8 12), .lit (.int .u8 18), .lit (.int .u8 6), .lit (.int .u8 11), .lit (.int .u8 5), .lit (.int .u8 10), .lit (.int .u8 9)]
def laid_math_bits_deBruijn64tab {H : Type} : DataW H := .agg [.lit (.int .u8 0), .lit (.int .u8 1), .lit (.int .u8 56), .lit (.int .u8 2), .lit (.int .u8 57), .lit (.int .u8 49), .lit (.int .u8 28), .lit (.int .u8 3), .lit (.int .u8 61), .lit (.int .u8 58), .lit (.int .u8 42), .lit (.int .u8 50), .lit (.int .u8 38), .lit (.int .u8 29), .lit (.int .u8 17), .lit (.int .u8 4), .lit (.int .u8 62), .lit (.int .u8 47), .lit (.int .u8 59), .lit (.int .u8 36), .lit (.int .u8 45), .lit (.int .u8 43), .lit (.int .u8 51), .lit (.int .u8 22), .lit (.int .u8 53), .lit (.int .u8 39), .lit (.int .u8 33), .lit (.int .u8 30), .lit (.int .u8 24), .lit (.int .u8 18), .lit (.int .u8 12), .lit (.int .u8 5), .lit (.int .u8 63), .lit (.int .u8 55), .lit (.int .u8 48), .lit (.int .u8 27), .lit (.int .u8 60), .lit (.int .u8 41), .lit (.int .u8 37), .lit (.int .u8 16), .lit (.int .u8 46), .lit (.int .u8 35), .lit (.int .u8 44), .lit (.int .u8 21), .lit (.int .u8 52), .lit (.int .u8 32), .lit (.int .u8 23), .lit (.int .u8 11), .lit (.int .u8 54), .lit (.int .u8 26), .lit (.int .u8 40), .lit (.int .u8 15), .lit (.int .u8 34), .lit (.int .u8 20), .lit (.int .u8 31), .lit (.int .u8 10), .lit (.int .u8 25), .lit (.int .u8 14), .lit (.int .u8 19), .lit (.int .u8 9), .lit (.int .u8 13), .lit (.int .u8 8), .lit (.int .u8 7), .lit (.int .u8 6)]
def laid_internal_strconv_uint64pow10 {H : Type} : DataW H := .agg [.lit (.int .u64 1), .lit (.int .u64 10), .lit (.int .u64 100), .lit (.int .u64 1000), .lit (.int .u64 10000), .lit (.int .u64 100000), .lit (.int .u64 1000000), .lit (.int .u64 10000000), .lit (.int .u64 100000000), .lit (.int .u64 1000000000), .lit (.int .u64 10000000000), .lit (.int .u64 100000000000), .lit (.int .u64 1000000000000), .lit (.int .u64 10000000000000), .lit (.int .u64 100000000000000), .lit (.int .u64 1000000000000000), .lit (.int .u64 10000000000000000), .lit (.int .u64 100000000000000000), .lit (.int .u64 1000000000000000000), .lit (.int .u64 10000000000000000000)]
def laid_unicode_utf8_acceptRanges {H : Type} : DataW H := .agg [.agg [.lit (.int .u8 128), .lit (.int .u8 191)], .agg [.lit (.int .u8 160), .lit (.int .u8 191)], .agg [.lit (.int .u8 128), .lit (.int .u8 159)], .agg [.lit (.int .u8 144), .lit (.int .u8 191)], .agg [.lit (.int .u8 128), .lit (.int .u8 143)], .agg [.lit (.int .u8 0), .lit (.int .u8 0)], .agg [.lit (.int .u8 0), .lit (.int .u8 0)], .agg [.lit (.int .u8 0), .lit (.int .u8 0)], .agg [.lit (.int .u8 0), .lit (.int .u8 0)], .agg [.lit (.int .u8 0), .lit (.int .u8 0)], .agg [.lit (.int .u8 0), .lit (.int .u8 0)], .agg [.lit (.int .u8 0), .lit (.int .u8 0)], .agg [.lit (.int .u8 0), .lit (.int .u8 0)], .agg [.lit (.int .u8 0), .lit (.int .u8 0)], .agg [.lit (.int .u8 0), .lit (.int .u8 0)], .agg [.lit (.int .u8 0), .lit (.int .u8 0)]]
def laid_deckle_signs_table {H : Type} : DataW H := .agg [.agg [.lit (.int .i32 8592), .lit (.int .i32 108)], .agg [.lit (.int .i32 8594), .lit (.int .i32 114)], .agg [.lit (.int .i32 9076), .lit (.int .i32 112)], .agg [.lit (.int .i32 9075), .lit (.int .i32 105)], .agg [.lit (.int .i32 9077), .lit (.int .i32 119)], .agg [.lit (.int .i32 9082), .lit (.int .i32 97)], .agg [.lit (.int .i32 8711), .lit (.int .i32 103)], .agg [.lit (.int .i32 8710), .lit (.int .i32 116)], .agg [.lit (.int .i32 9049), .lit (.int .i32 84)], .agg [.lit (.int .i32 9109), .lit (.int .i32 113)], .agg [.lit (.int .i32 9054), .lit (.int .i32 81)], .agg [.lit (.int .i32 175), .lit (.int .i32 45)], .agg [.lit (.int .i32 215), .lit (.int .i32 120)], .agg [.lit (.int .i32 247), .lit (.int .i32 47)], .agg [.lit (.int .i32 8804), .lit (.int .i32 60)], .agg [.lit (.int .i32 8805), .lit (.int .i32 62)], .agg [.lit (.int .i32 8800), .lit (.int .i32 61)], .agg [.lit (.int .i32 8743), .lit (.int .i32 94)], .agg [.lit (.int .i32 8744), .lit (.int .i32 118)], .agg [.lit (.int .i32 8714), .lit (.int .i32 101)], .agg [.lit (.int .i32 8968), .lit (.int .i32 117)], .agg [.lit (.int .i32 8970), .lit (.int .i32 100)], .agg [.lit (.int .i32 8728), .lit (.int .i32 111)], .agg [.lit (.int .i32 9675), .lit (.int .i32 79)], .agg [.lit (.int .i32 9055), .lit (.int .i32 42)], .agg [.lit (.int .i32 9021), .lit (.int .i32 102)], .agg [.lit (.int .i32 9033), .lit (.int .i32 121)], .agg [.lit (.int .i32 8834), .lit (.int .i32 99)], .agg [.lit (.int .i32 8835), .lit (.int .i32 67)], .agg [.lit (.int .i32 8745), .lit (.int .i32 110)], .agg [.lit (.int .i32 8746), .lit (.int .i32 85)], .agg [.lit (.int .i32 9042), .lit (.int .i32 71)], .agg [.lit (.int .i32 9035), .lit (.int .i32 72)], .agg [.lit (.int .i32 9038), .lit (.int .i32 88)], .agg [.lit (.int .i32 9045), .lit (.int .i32 70)], .agg [.lit (.int .i32 9017), .lit (.int .i32 68)], .agg [.lit (.int .i32 9073), .lit (.int .i32 86)], .agg [.lit (.int .i32 9074), .lit (.int .i32 65)], .agg [.lit (.int .i32 8869), .lit (.int .i32 98)], .agg [.lit (.int .i32 8868), .lit (.int .i32 66)], .agg [.lit (.int .i32 8900), .lit (.int .i32 59)], .agg [.lit (.int .i32 9053), .lit (.int .i32 35)], .agg [.lit (.int .i32 168), .lit (.int .i32 58)]]
/-- One of Go's own tables, pinned by name: the form's constant. -/
def laid_unicode_CaseRanges : DataW Unit := Go.Pinned.caseRanges
/-- One of Go's own tables, pinned by name: the form's constant. -/
def laid_unicode_utf8_first : DataW Unit := Go.Pinned.utf8First

/-- 'decklelaw07.SignsTells': WHATEVER THE INPUT: true; the input reads as it did. -/
def signsTellsSpec : ChangeSpec := { name := "signsTells", fn := fun _ => fun
  | [d1, d2] => { results := [.lit (.bool true)], args := [d1, d2] }
  | _ => none }
def signsTellsRow : OpenClaim := { program := "ytcdjilipmjjjkaadoor", sum := "a7d66878ed990e9550612446c59f1e0b2c02d78c9494a10f711c6fb1ea08d861", func := "deckle/decklelaw07.SignsTells", spec := "signsTells", inPlace := ["internal/abi.NoEscape", "internal/bytealg.MakeNoZero"], unfollowed := true, recurses := true, named := ["deckle/signs.table", "internal/strconv.uint64pow10", "math/bits.deBruijn32tab", "math/bits.deBruijn64tab", "unicode/utf8.first", "unicode/utf8.acceptRanges", "unicode.CaseRanges"], apart := false, laid := [("math/bits.deBruijn32tab", laid_math_bits_deBruijn32tab), ("math/bits.deBruijn64tab", laid_math_bits_deBruijn64tab), ("internal/strconv.uint64pow10", laid_internal_strconv_uint64pow10), ("unicode/utf8.acceptRanges", laid_unicode_utf8_acceptRanges), ("deckle/signs.table", laid_deckle_signs_table), ("unicode.CaseRanges", laid_unicode_CaseRanges), ("unicode/utf8.first", laid_unicode_utf8_first)] }
def SignsTellsSaid : Prop := signsTellsRow.holds Tryd.pinned (OpenSpec.ofChange signsTellsSpec)

/-- ITS FALSE NEIGHBOUR: 'it returns false'. Refute it at one input. -/
def signsTellsWrong : ChangeSpec := { name := "signsTells", fn := fun _ => fun
  | [d1, d2] => { results := [.lit (.bool false)], args := [d1, d2] }
  | _ => none }
def SignsTellsWrongFalsely : Prop := signsTellsRow.holds Tryd.pinned (OpenSpec.ofChange signsTellsWrong)

/-- 'decklelaw07.SignsBack': WHATEVER THE INPUT: true; the input reads as it did. -/
def signsBackSpec : ChangeSpec := { name := "signsBack", fn := fun _ => fun
  | [d] => { results := [.lit (.bool true)], args := [d] }
  | _ => none }
def signsBackRow : OpenClaim := { program := "ytcdjilipmjjjkaadoor", sum := "a7d66878ed990e9550612446c59f1e0b2c02d78c9494a10f711c6fb1ea08d861", func := "deckle/decklelaw07.SignsBack", spec := "signsBack", inPlace := ["internal/abi.NoEscape", "internal/bytealg.MakeNoZero"], unfollowed := true, recurses := true, named := ["deckle/signs.table", "internal/strconv.uint64pow10", "math/bits.deBruijn32tab", "math/bits.deBruijn64tab", "unicode/utf8.first", "unicode/utf8.acceptRanges", "unicode.CaseRanges"], apart := false, laid := [("math/bits.deBruijn32tab", laid_math_bits_deBruijn32tab), ("math/bits.deBruijn64tab", laid_math_bits_deBruijn64tab), ("internal/strconv.uint64pow10", laid_internal_strconv_uint64pow10), ("unicode/utf8.acceptRanges", laid_unicode_utf8_acceptRanges), ("deckle/signs.table", laid_deckle_signs_table), ("unicode.CaseRanges", laid_unicode_CaseRanges), ("unicode/utf8.first", laid_unicode_utf8_first)] }
def SignsBackSaid : Prop := signsBackRow.holds Tryd.pinned (OpenSpec.ofChange signsBackSpec)

/-- ITS FALSE NEIGHBOUR: 'it returns false'. Refute it at one input. -/
def signsBackWrong : ChangeSpec := { name := "signsBack", fn := fun _ => fun
  | [d] => { results := [.lit (.bool false)], args := [d] }
  | _ => none }
def SignsBackWrongFalsely : Prop := signsBackRow.holds Tryd.pinned (OpenSpec.ofChange signsBackWrong)

/-- 'decklelaw07.SignsOnce': WHATEVER THE INPUT: true; the input reads as it did. -/
def signsOnceSpec : ChangeSpec := { name := "signsOnce", fn := fun _ => fun
  | [d] => { results := [.lit (.bool true)], args := [d] }
  | _ => none }
def signsOnceRow : OpenClaim := { program := "ytcdjilipmjjjkaadoor", sum := "a7d66878ed990e9550612446c59f1e0b2c02d78c9494a10f711c6fb1ea08d861", func := "deckle/decklelaw07.SignsOnce", spec := "signsOnce", inPlace := ["internal/abi.NoEscape", "internal/bytealg.MakeNoZero"], unfollowed := true, recurses := true, named := ["deckle/signs.table", "internal/strconv.uint64pow10", "math/bits.deBruijn32tab", "math/bits.deBruijn64tab", "unicode/utf8.first", "unicode/utf8.acceptRanges", "unicode.CaseRanges"], apart := false, laid := [("math/bits.deBruijn32tab", laid_math_bits_deBruijn32tab), ("math/bits.deBruijn64tab", laid_math_bits_deBruijn64tab), ("internal/strconv.uint64pow10", laid_internal_strconv_uint64pow10), ("unicode/utf8.acceptRanges", laid_unicode_utf8_acceptRanges), ("deckle/signs.table", laid_deckle_signs_table), ("unicode.CaseRanges", laid_unicode_CaseRanges), ("unicode/utf8.first", laid_unicode_utf8_first)] }
def SignsOnceSaid : Prop := signsOnceRow.holds Tryd.pinned (OpenSpec.ofChange signsOnceSpec)

/-- ITS FALSE NEIGHBOUR: 'it returns false'. Refute it at one input. -/
def signsOnceWrong : ChangeSpec := { name := "signsOnce", fn := fun _ => fun
  | [d] => { results := [.lit (.bool false)], args := [d] }
  | _ => none }
def SignsOnceWrongFalsely : Prop := signsOnceRow.holds Tryd.pinned (OpenSpec.ofChange signsOnceWrong)

/-- 'decklelaw07.SignsParts': WHATEVER THE INPUT: true; the input reads as it did. -/
def signsPartsSpec : ChangeSpec := { name := "signsParts", fn := fun _ => fun
  | [d1, d2] => { results := [.lit (.bool true)], args := [d1, d2] }
  | _ => none }
def signsPartsRow : OpenClaim := { program := "ytcdjilipmjjjkaadoor", sum := "a7d66878ed990e9550612446c59f1e0b2c02d78c9494a10f711c6fb1ea08d861", func := "deckle/decklelaw07.SignsParts", spec := "signsParts", inPlace := ["internal/abi.NoEscape", "internal/bytealg.MakeNoZero"], unfollowed := true, recurses := true, named := ["deckle/signs.table", "internal/strconv.uint64pow10", "math/bits.deBruijn32tab", "math/bits.deBruijn64tab", "unicode/utf8.first", "unicode/utf8.acceptRanges", "unicode.CaseRanges"], apart := false, laid := [("math/bits.deBruijn32tab", laid_math_bits_deBruijn32tab), ("math/bits.deBruijn64tab", laid_math_bits_deBruijn64tab), ("internal/strconv.uint64pow10", laid_internal_strconv_uint64pow10), ("unicode/utf8.acceptRanges", laid_unicode_utf8_acceptRanges), ("deckle/signs.table", laid_deckle_signs_table), ("unicode.CaseRanges", laid_unicode_CaseRanges), ("unicode/utf8.first", laid_unicode_utf8_first)] }
def SignsPartsSaid : Prop := signsPartsRow.holds Tryd.pinned (OpenSpec.ofChange signsPartsSpec)

/-- ITS FALSE NEIGHBOUR: 'it returns false'. Refute it at one input. -/
def signsPartsWrong : ChangeSpec := { name := "signsParts", fn := fun _ => fun
  | [d1, d2] => { results := [.lit (.bool false)], args := [d1, d2] }
  | _ => none }
def SignsPartsWrongFalsely : Prop := signsPartsRow.holds Tryd.pinned (OpenSpec.ofChange signsPartsWrong)

/-- 'decklelaw07.SignsPlain': WHATEVER THE INPUT: true; the input reads as it did. -/
def signsPlainSpec : ChangeSpec := { name := "signsPlain", fn := fun _ => fun
  | [d] => { results := [.lit (.bool true)], args := [d] }
  | _ => none }
def signsPlainRow : OpenClaim := { program := "ytcdjilipmjjjkaadoor", sum := "a7d66878ed990e9550612446c59f1e0b2c02d78c9494a10f711c6fb1ea08d861", func := "deckle/decklelaw07.SignsPlain", spec := "signsPlain", inPlace := ["internal/abi.NoEscape", "internal/bytealg.MakeNoZero"], unfollowed := true, recurses := true, named := ["deckle/signs.table", "internal/strconv.uint64pow10", "math/bits.deBruijn32tab", "math/bits.deBruijn64tab", "unicode/utf8.first", "unicode/utf8.acceptRanges", "unicode.CaseRanges"], apart := false, laid := [("math/bits.deBruijn32tab", laid_math_bits_deBruijn32tab), ("math/bits.deBruijn64tab", laid_math_bits_deBruijn64tab), ("internal/strconv.uint64pow10", laid_internal_strconv_uint64pow10), ("unicode/utf8.acceptRanges", laid_unicode_utf8_acceptRanges), ("deckle/signs.table", laid_deckle_signs_table), ("unicode.CaseRanges", laid_unicode_CaseRanges), ("unicode/utf8.first", laid_unicode_utf8_first)] }
def SignsPlainSaid : Prop := signsPlainRow.holds Tryd.pinned (OpenSpec.ofChange signsPlainSpec)

/-- ITS FALSE NEIGHBOUR: 'it returns false'. Refute it at one input. -/
def signsPlainWrong : ChangeSpec := { name := "signsPlain", fn := fun _ => fun
  | [d] => { results := [.lit (.bool false)], args := [d] }
  | _ => none }
def SignsPlainWrongFalsely : Prop := signsPlainRow.holds Tryd.pinned (OpenSpec.ofChange signsPlainWrong)

/- THE SECOND FORM. 'bulk': how many values and letters a reading holds, each counted each time it is reached (what is shared counts as often as it is met; a slice's spare places count too). A statement '..UptoSaid' is the law's where the arguments, and the package variables that the reading takes, are together of bulk at most 1048576: NARROWER than '..Said'. Prove '..Said' where nothing that the law and all that it calls make is longer than what came in: it says more and counts as full. Else prove '..UptoSaid'. A law counts once. -/
mutual
def uptoBulk {H : Type} : DataW H → Nat
  | .lit (.string bytes) => bytes.length + 1
  | .lit _ => 1
  | .nil => 1
  | .ptr d => uptoBulk d + 1
  | .slice elems spare => uptoBulkAll elems + uptoBulkAll spare + 1
  | .agg parts => uptoBulkAll parts + 1
  | .iface _ d => uptoBulk d + 1
  | .map entries => uptoBulkEntries entries + 1
  | .held _ => 1
def uptoBulkAll {H : Type} : List (DataW H) → Nat
  | [] => 0
  | d :: r => uptoBulk d + uptoBulkAll r
def uptoBulkEntries {H : Type} : List (Lit × DataW H) → Nat
  | [] => 0
  | x :: r => uptoBulkEntry x + uptoBulkEntries r
def uptoBulkEntry {H : Type} : Lit × DataW H → Nat
  | (.string bytes, d) => bytes.length + uptoBulk d + 1
  | (_, d) => uptoBulk d + 1
 end
def uptoSmall : (H : Type) → List (DataW H) → Bool := fun _ ds => decide (uptoBulkAll ds ≤ 1048576)
def OpenSpec.upto (s : _root_.Go.ChangeSpec) : _root_.Go.OpenSpec := { _root_.Go.OpenSpec.ofChange s with cond := some uptoSmall }

/-- 'decklelaw07.SignsTells', WHERE WHAT IT READS IS OF BULK AT MOST 1048576: true; the input reads as it did. -/
def signsTellsUptoRow : OpenClaim := { program := "ytcdjilipmjjjkaadoor", sum := "a7d66878ed990e9550612446c59f1e0b2c02d78c9494a10f711c6fb1ea08d861", func := "deckle/decklelaw07.SignsTells", spec := "signsTells", inPlace := ["internal/abi.NoEscape", "internal/bytealg.MakeNoZero"], unfollowed := true, recurses := true, named := ["deckle/signs.table", "internal/strconv.uint64pow10", "math/bits.deBruijn32tab", "math/bits.deBruijn64tab", "unicode/utf8.first", "unicode/utf8.acceptRanges", "unicode.CaseRanges"], apart := false, laid := [("math/bits.deBruijn32tab", laid_math_bits_deBruijn32tab), ("math/bits.deBruijn64tab", laid_math_bits_deBruijn64tab), ("internal/strconv.uint64pow10", laid_internal_strconv_uint64pow10), ("unicode/utf8.acceptRanges", laid_unicode_utf8_acceptRanges), ("deckle/signs.table", laid_deckle_signs_table), ("unicode.CaseRanges", laid_unicode_CaseRanges), ("unicode/utf8.first", laid_unicode_utf8_first)], narrowed := true }
def SignsTellsUptoSaid : Prop := signsTellsUptoRow.holds Tryd.pinned (OpenSpec.upto signsTellsSpec)

/-- 'decklelaw07.SignsBack', WHERE WHAT IT READS IS OF BULK AT MOST 1048576: true; the input reads as it did. -/
def signsBackUptoRow : OpenClaim := { program := "ytcdjilipmjjjkaadoor", sum := "a7d66878ed990e9550612446c59f1e0b2c02d78c9494a10f711c6fb1ea08d861", func := "deckle/decklelaw07.SignsBack", spec := "signsBack", inPlace := ["internal/abi.NoEscape", "internal/bytealg.MakeNoZero"], unfollowed := true, recurses := true, named := ["deckle/signs.table", "internal/strconv.uint64pow10", "math/bits.deBruijn32tab", "math/bits.deBruijn64tab", "unicode/utf8.first", "unicode/utf8.acceptRanges", "unicode.CaseRanges"], apart := false, laid := [("math/bits.deBruijn32tab", laid_math_bits_deBruijn32tab), ("math/bits.deBruijn64tab", laid_math_bits_deBruijn64tab), ("internal/strconv.uint64pow10", laid_internal_strconv_uint64pow10), ("unicode/utf8.acceptRanges", laid_unicode_utf8_acceptRanges), ("deckle/signs.table", laid_deckle_signs_table), ("unicode.CaseRanges", laid_unicode_CaseRanges), ("unicode/utf8.first", laid_unicode_utf8_first)], narrowed := true }
def SignsBackUptoSaid : Prop := signsBackUptoRow.holds Tryd.pinned (OpenSpec.upto signsBackSpec)

/-- 'decklelaw07.SignsOnce', WHERE WHAT IT READS IS OF BULK AT MOST 1048576: true; the input reads as it did. -/
def signsOnceUptoRow : OpenClaim := { program := "ytcdjilipmjjjkaadoor", sum := "a7d66878ed990e9550612446c59f1e0b2c02d78c9494a10f711c6fb1ea08d861", func := "deckle/decklelaw07.SignsOnce", spec := "signsOnce", inPlace := ["internal/abi.NoEscape", "internal/bytealg.MakeNoZero"], unfollowed := true, recurses := true, named := ["deckle/signs.table", "internal/strconv.uint64pow10", "math/bits.deBruijn32tab", "math/bits.deBruijn64tab", "unicode/utf8.first", "unicode/utf8.acceptRanges", "unicode.CaseRanges"], apart := false, laid := [("math/bits.deBruijn32tab", laid_math_bits_deBruijn32tab), ("math/bits.deBruijn64tab", laid_math_bits_deBruijn64tab), ("internal/strconv.uint64pow10", laid_internal_strconv_uint64pow10), ("unicode/utf8.acceptRanges", laid_unicode_utf8_acceptRanges), ("deckle/signs.table", laid_deckle_signs_table), ("unicode.CaseRanges", laid_unicode_CaseRanges), ("unicode/utf8.first", laid_unicode_utf8_first)], narrowed := true }
def SignsOnceUptoSaid : Prop := signsOnceUptoRow.holds Tryd.pinned (OpenSpec.upto signsOnceSpec)

/-- 'decklelaw07.SignsParts', WHERE WHAT IT READS IS OF BULK AT MOST 1048576: true; the input reads as it did. -/
def signsPartsUptoRow : OpenClaim := { program := "ytcdjilipmjjjkaadoor", sum := "a7d66878ed990e9550612446c59f1e0b2c02d78c9494a10f711c6fb1ea08d861", func := "deckle/decklelaw07.SignsParts", spec := "signsParts", inPlace := ["internal/abi.NoEscape", "internal/bytealg.MakeNoZero"], unfollowed := true, recurses := true, named := ["deckle/signs.table", "internal/strconv.uint64pow10", "math/bits.deBruijn32tab", "math/bits.deBruijn64tab", "unicode/utf8.first", "unicode/utf8.acceptRanges", "unicode.CaseRanges"], apart := false, laid := [("math/bits.deBruijn32tab", laid_math_bits_deBruijn32tab), ("math/bits.deBruijn64tab", laid_math_bits_deBruijn64tab), ("internal/strconv.uint64pow10", laid_internal_strconv_uint64pow10), ("unicode/utf8.acceptRanges", laid_unicode_utf8_acceptRanges), ("deckle/signs.table", laid_deckle_signs_table), ("unicode.CaseRanges", laid_unicode_CaseRanges), ("unicode/utf8.first", laid_unicode_utf8_first)], narrowed := true }
def SignsPartsUptoSaid : Prop := signsPartsUptoRow.holds Tryd.pinned (OpenSpec.upto signsPartsSpec)

/-- 'decklelaw07.SignsPlain', WHERE WHAT IT READS IS OF BULK AT MOST 1048576: true; the input reads as it did. -/
def signsPlainUptoRow : OpenClaim := { program := "ytcdjilipmjjjkaadoor", sum := "a7d66878ed990e9550612446c59f1e0b2c02d78c9494a10f711c6fb1ea08d861", func := "deckle/decklelaw07.SignsPlain", spec := "signsPlain", inPlace := ["internal/abi.NoEscape", "internal/bytealg.MakeNoZero"], unfollowed := true, recurses := true, named := ["deckle/signs.table", "internal/strconv.uint64pow10", "math/bits.deBruijn32tab", "math/bits.deBruijn64tab", "unicode/utf8.first", "unicode/utf8.acceptRanges", "unicode.CaseRanges"], apart := false, laid := [("math/bits.deBruijn32tab", laid_math_bits_deBruijn32tab), ("math/bits.deBruijn64tab", laid_math_bits_deBruijn64tab), ("internal/strconv.uint64pow10", laid_internal_strconv_uint64pow10), ("unicode/utf8.acceptRanges", laid_unicode_utf8_acceptRanges), ("deckle/signs.table", laid_deckle_signs_table), ("unicode.CaseRanges", laid_unicode_CaseRanges), ("unicode/utf8.first", laid_unicode_utf8_first)], narrowed := true }
def SignsPlainUptoSaid : Prop := signsPlainUptoRow.holds Tryd.pinned (OpenSpec.upto signsPlainSpec)

end Rows
end Go.Proofs.YtcdjilipmjjjkaaDoor
