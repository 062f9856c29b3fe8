/-
  NARROWER THAN 'FOR EVERY INPUT', by the rows' own cells (each row's printed sentence says how): FunctionTells: laid · FunctionBack: laid · FunctionNames: laid · FunctionMore: laid · FunctionHead: laid.
  DERIVED. THE GIVEN ROWS OF THIS SEAT. 5 by the template 'for every input the law returns true; each argument reads behind the call as it read before'; 0 by the template 'total and deterministic' (their statements: YtcnijmmpkahoaaaDoorTotals.lean).
  GIVEN WITH THE SEED: the statements are not yours to turn. If you find one false, say at which input.
  Laid BY PROGRAM, IN A SANDBOX (cutbox-rows.mjs): the forced cells as the released guide's own fill.sh prints them over the translation 90040117766fccd8… (all of the seat's roots in one cut). By AI agents, Wed Nov 11 2026. No macro, syntax, notation, axiom, sorry.
-/
import Derived.Test.YtcnijmmpkahoaaaDoorChecked
import GoSem.PinnedTables
import GoSem.Claim
import GoSem.ClaimJoined
import GoSem.ClaimMapViews
import Derived.JoinedTies
import Derived.KernelRfl
namespace Go.Proofs.YtcnijmmpkahoaaaDoor
/- THE CELL 'sum', in the pinned program and in every row, IS THE sha256 OF THE DUMP (.gsa) THAT YtcnijmmpkahoaaaDoorProg.lean LOADS. Nothing in Lean hashes anything: it is a label: what it is worth is what the hold of that sum in a sandbox is worth. -/
noncomputable def Tryd.pinned : Pinned := { name := "ytcnijmmpkahoaaadoor", sum := "90040117766fccd825fc37093e1d2206cafbe6429cdae647ed3e8d03ccb3097d", checked := Tryd.checked }
namespace Rows
def none {H : Type} : Left H := { results := [], args := [] }

/- WHAT THE LISTED PACKAGE-LEVEL VARIABLES READ AS WHEN THE CALL BEGINS. Each datum BY PROGRAM (the guide's laid-datum.mjs) off the statement by which the dump's own 'gosem.cut.vars' lays the variable. In a bare row this is a premise. The card (YtcnijmmpkahoaaaDoorCards.lean) ties it to the program's text. -/
def laid_unicode_utf8_acceptRanges {H : Type} : DataW H := .agg [.agg [.lit (.int .u8 128), .lit (.int .u8 191)], .agg [.lit (.int .u8 160), .lit (.int .u8 191)], .agg [.lit (.int .u8 128), .lit (.int .u8 159)], .agg [.lit (.int .u8 144), .lit (.int .u8 191)], .agg [.lit (.int .u8 128), .lit (.int .u8 143)], .agg [.lit (.int .u8 0), .lit (.int .u8 0)], .agg [.lit (.int .u8 0), .lit (.int .u8 0)], .agg [.lit (.int .u8 0), .lit (.int .u8 0)], .agg [.lit (.int .u8 0), .lit (.int .u8 0)], .agg [.lit (.int .u8 0), .lit (.int .u8 0)], .agg [.lit (.int .u8 0), .lit (.int .u8 0)], .agg [.lit (.int .u8 0), .lit (.int .u8 0)], .agg [.lit (.int .u8 0), .lit (.int .u8 0)], .agg [.lit (.int .u8 0), .lit (.int .u8 0)], .agg [.lit (.int .u8 0), .lit (.int .u8 0)], .agg [.lit (.int .u8 0), .lit (.int .u8 0)]]
/-- One of Go's own tables, pinned by name: the form's constant. -/
def laid_unicode_utf8_first : DataW Unit := Go.Pinned.utf8First

/-- 'decklelaw16.FunctionTells': WHATEVER THE INPUT: true; the input reads as it did. -/
def functionTellsSpec : ChangeSpec := { name := "functionTells", fn := fun _ => fun
  | [d1, d2] => { results := [.lit (.bool true)], args := [d1, d2] }
  | _ => none }
def functionTellsRow : OpenClaim := { program := "ytcnijmmpkahoaaadoor", sum := "90040117766fccd825fc37093e1d2206cafbe6429cdae647ed3e8d03ccb3097d", func := "deckle/decklelaw16.FunctionTells", spec := "functionTells", inPlace := ["internal/bytealg.IndexByteString", "internal/bytealg.IndexString", "internal/bytealg.CountString", "internal/abi.NoEscape", "internal/bytealg.MakeNoZero"], unfollowed := true, recurses := true, named := ["internal/bytealg.MaxLen", "unicode/utf8.first", "unicode/utf8.acceptRanges"], apart := false, laid := [("unicode/utf8.acceptRanges", laid_unicode_utf8_acceptRanges), ("unicode/utf8.first", laid_unicode_utf8_first)] }
def FunctionTellsSaid : Prop := functionTellsRow.holds Tryd.pinned (OpenSpec.ofChange functionTellsSpec)

/-- ITS FALSE NEIGHBOUR: 'it returns false'. Refute it at one input. -/
def functionTellsWrong : ChangeSpec := { name := "functionTells", fn := fun _ => fun
  | [d1, d2] => { results := [.lit (.bool false)], args := [d1, d2] }
  | _ => none }
def FunctionTellsWrongFalsely : Prop := functionTellsRow.holds Tryd.pinned (OpenSpec.ofChange functionTellsWrong)

/-- 'decklelaw16.FunctionBack': WHATEVER THE INPUT: true; the input reads as it did. -/
def functionBackSpec : ChangeSpec := { name := "functionBack", fn := fun _ => fun
  | [d1, d2] => { results := [.lit (.bool true)], args := [d1, d2] }
  | _ => none }
def functionBackRow : OpenClaim := { program := "ytcnijmmpkahoaaadoor", sum := "90040117766fccd825fc37093e1d2206cafbe6429cdae647ed3e8d03ccb3097d", func := "deckle/decklelaw16.FunctionBack", spec := "functionBack", inPlace := ["internal/bytealg.IndexByteString", "internal/bytealg.IndexString", "internal/bytealg.CountString", "internal/abi.NoEscape", "internal/bytealg.MakeNoZero"], unfollowed := true, recurses := true, named := ["internal/bytealg.MaxLen", "unicode/utf8.first", "unicode/utf8.acceptRanges"], apart := false, laid := [("unicode/utf8.acceptRanges", laid_unicode_utf8_acceptRanges), ("unicode/utf8.first", laid_unicode_utf8_first)] }
def FunctionBackSaid : Prop := functionBackRow.holds Tryd.pinned (OpenSpec.ofChange functionBackSpec)

/-- ITS FALSE NEIGHBOUR: 'it returns false'. Refute it at one input. -/
def functionBackWrong : ChangeSpec := { name := "functionBack", fn := fun _ => fun
  | [d1, d2] => { results := [.lit (.bool false)], args := [d1, d2] }
  | _ => none }
def FunctionBackWrongFalsely : Prop := functionBackRow.holds Tryd.pinned (OpenSpec.ofChange functionBackWrong)

/-- 'decklelaw16.FunctionNames': WHATEVER THE INPUT: true; the input reads as it did. -/
def functionNamesSpec : ChangeSpec := { name := "functionNames", fn := fun _ => fun
  | [d] => { results := [.lit (.bool true)], args := [d] }
  | _ => none }
def functionNamesRow : OpenClaim := { program := "ytcnijmmpkahoaaadoor", sum := "90040117766fccd825fc37093e1d2206cafbe6429cdae647ed3e8d03ccb3097d", func := "deckle/decklelaw16.FunctionNames", spec := "functionNames", inPlace := ["internal/bytealg.IndexByteString", "internal/bytealg.IndexString", "internal/bytealg.CountString", "internal/abi.NoEscape", "internal/bytealg.MakeNoZero"], unfollowed := true, recurses := true, named := ["internal/bytealg.MaxLen", "unicode/utf8.first", "unicode/utf8.acceptRanges"], apart := false, laid := [("unicode/utf8.acceptRanges", laid_unicode_utf8_acceptRanges), ("unicode/utf8.first", laid_unicode_utf8_first)] }
def FunctionNamesSaid : Prop := functionNamesRow.holds Tryd.pinned (OpenSpec.ofChange functionNamesSpec)

/-- ITS FALSE NEIGHBOUR: 'it returns false'. Refute it at one input. -/
def functionNamesWrong : ChangeSpec := { name := "functionNames", fn := fun _ => fun
  | [d] => { results := [.lit (.bool false)], args := [d] }
  | _ => none }
def FunctionNamesWrongFalsely : Prop := functionNamesRow.holds Tryd.pinned (OpenSpec.ofChange functionNamesWrong)

/-- 'decklelaw16.FunctionMore': WHATEVER THE INPUT: true; the input reads as it did. -/
def functionMoreSpec : ChangeSpec := { name := "functionMore", fn := fun _ => fun
  | [d1, d2] => { results := [.lit (.bool true)], args := [d1, d2] }
  | _ => none }
def functionMoreRow : OpenClaim := { program := "ytcnijmmpkahoaaadoor", sum := "90040117766fccd825fc37093e1d2206cafbe6429cdae647ed3e8d03ccb3097d", func := "deckle/decklelaw16.FunctionMore", spec := "functionMore", inPlace := ["internal/bytealg.IndexByteString", "internal/bytealg.IndexString", "internal/bytealg.CountString", "internal/abi.NoEscape", "internal/bytealg.MakeNoZero"], unfollowed := true, recurses := true, named := ["internal/bytealg.MaxLen", "unicode/utf8.first", "unicode/utf8.acceptRanges"], apart := false, laid := [("unicode/utf8.acceptRanges", laid_unicode_utf8_acceptRanges), ("unicode/utf8.first", laid_unicode_utf8_first)] }
def FunctionMoreSaid : Prop := functionMoreRow.holds Tryd.pinned (OpenSpec.ofChange functionMoreSpec)

/-- ITS FALSE NEIGHBOUR: 'it returns false'. Refute it at one input. -/
def functionMoreWrong : ChangeSpec := { name := "functionMore", fn := fun _ => fun
  | [d1, d2] => { results := [.lit (.bool false)], args := [d1, d2] }
  | _ => none }
def FunctionMoreWrongFalsely : Prop := functionMoreRow.holds Tryd.pinned (OpenSpec.ofChange functionMoreWrong)

/-- 'decklelaw16.FunctionHead': WHATEVER THE INPUT: true; the input reads as it did. -/
def functionHeadSpec : ChangeSpec := { name := "functionHead", fn := fun _ => fun
  | [d] => { results := [.lit (.bool true)], args := [d] }
  | _ => none }
def functionHeadRow : OpenClaim := { program := "ytcnijmmpkahoaaadoor", sum := "90040117766fccd825fc37093e1d2206cafbe6429cdae647ed3e8d03ccb3097d", func := "deckle/decklelaw16.FunctionHead", spec := "functionHead", inPlace := ["internal/bytealg.IndexByteString", "internal/bytealg.IndexString", "internal/bytealg.CountString", "internal/abi.NoEscape", "internal/bytealg.MakeNoZero"], unfollowed := true, recurses := true, named := ["internal/bytealg.MaxLen", "unicode/utf8.first", "unicode/utf8.acceptRanges"], apart := false, laid := [("unicode/utf8.acceptRanges", laid_unicode_utf8_acceptRanges), ("unicode/utf8.first", laid_unicode_utf8_first)] }
def FunctionHeadSaid : Prop := functionHeadRow.holds Tryd.pinned (OpenSpec.ofChange functionHeadSpec)

/-- ITS FALSE NEIGHBOUR: 'it returns false'. Refute it at one input. -/
def functionHeadWrong : ChangeSpec := { name := "functionHead", fn := fun _ => fun
  | [d] => { results := [.lit (.bool false)], args := [d] }
  | _ => none }
def FunctionHeadWrongFalsely : Prop := functionHeadRow.holds Tryd.pinned (OpenSpec.ofChange functionHeadWrong)

/- THE SECOND FORM. 'bulk': how many values and letters a reading holds, each counted each time it is reached (what is shared counts as often as it is met; a slice's spare places count too). A statement '..UptoSaid' is the law's where the arguments, and the package variables that the reading takes, are together of bulk at most 1048576: NARROWER than '..Said'. Prove '..Said' where nothing that the law and all that it calls make is longer than what came in: it says more and counts as full. Else prove '..UptoSaid'. A law counts once. -/
mutual
def uptoBulk {H : Type} : DataW H → Nat
  | .lit (.string bytes) => bytes.length + 1
  | .lit _ => 1
  | .nil => 1
  | .ptr d => uptoBulk d + 1
  | .slice elems spare => uptoBulkAll elems + uptoBulkAll spare + 1
  | .agg parts => uptoBulkAll parts + 1
  | .iface _ d => uptoBulk d + 1
  | .map entries => uptoBulkEntries entries + 1
  | .held _ => 1
def uptoBulkAll {H : Type} : List (DataW H) → Nat
  | [] => 0
  | d :: r => uptoBulk d + uptoBulkAll r
def uptoBulkEntries {H : Type} : List (Lit × DataW H) → Nat
  | [] => 0
  | x :: r => uptoBulkEntry x + uptoBulkEntries r
def uptoBulkEntry {H : Type} : Lit × DataW H → Nat
  | (.string bytes, d) => bytes.length + uptoBulk d + 1
  | (_, d) => uptoBulk d + 1
 end
def uptoSmall : (H : Type) → List (DataW H) → Bool := fun _ ds => decide (uptoBulkAll ds ≤ 1048576)
def OpenSpec.upto (s : _root_.Go.ChangeSpec) : _root_.Go.OpenSpec := { _root_.Go.OpenSpec.ofChange s with cond := some uptoSmall }

/-- 'decklelaw16.FunctionTells', WHERE WHAT IT READS IS OF BULK AT MOST 1048576: true; the input reads as it did. -/
def functionTellsUptoRow : OpenClaim := { program := "ytcnijmmpkahoaaadoor", sum := "90040117766fccd825fc37093e1d2206cafbe6429cdae647ed3e8d03ccb3097d", func := "deckle/decklelaw16.FunctionTells", spec := "functionTells", inPlace := ["internal/bytealg.IndexByteString", "internal/bytealg.IndexString", "internal/bytealg.CountString", "internal/abi.NoEscape", "internal/bytealg.MakeNoZero"], unfollowed := true, recurses := true, named := ["internal/bytealg.MaxLen", "unicode/utf8.first", "unicode/utf8.acceptRanges"], apart := false, laid := [("unicode/utf8.acceptRanges", laid_unicode_utf8_acceptRanges), ("unicode/utf8.first", laid_unicode_utf8_first)], narrowed := true }
def FunctionTellsUptoSaid : Prop := functionTellsUptoRow.holds Tryd.pinned (OpenSpec.upto functionTellsSpec)

/-- 'decklelaw16.FunctionBack', WHERE WHAT IT READS IS OF BULK AT MOST 1048576: true; the input reads as it did. -/
def functionBackUptoRow : OpenClaim := { program := "ytcnijmmpkahoaaadoor", sum := "90040117766fccd825fc37093e1d2206cafbe6429cdae647ed3e8d03ccb3097d", func := "deckle/decklelaw16.FunctionBack", spec := "functionBack", inPlace := ["internal/bytealg.IndexByteString", "internal/bytealg.IndexString", "internal/bytealg.CountString", "internal/abi.NoEscape", "internal/bytealg.MakeNoZero"], unfollowed := true, recurses := true, named := ["internal/bytealg.MaxLen", "unicode/utf8.first", "unicode/utf8.acceptRanges"], apart := false, laid := [("unicode/utf8.acceptRanges", laid_unicode_utf8_acceptRanges), ("unicode/utf8.first", laid_unicode_utf8_first)], narrowed := true }
def FunctionBackUptoSaid : Prop := functionBackUptoRow.holds Tryd.pinned (OpenSpec.upto functionBackSpec)

/-- 'decklelaw16.FunctionNames', WHERE WHAT IT READS IS OF BULK AT MOST 1048576: true; the input reads as it did. -/
def functionNamesUptoRow : OpenClaim := { program := "ytcnijmmpkahoaaadoor", sum := "90040117766fccd825fc37093e1d2206cafbe6429cdae647ed3e8d03ccb3097d", func := "deckle/decklelaw16.FunctionNames", spec := "functionNames", inPlace := ["internal/bytealg.IndexByteString", "internal/bytealg.IndexString", "internal/bytealg.CountString", "internal/abi.NoEscape", "internal/bytealg.MakeNoZero"], unfollowed := true, recurses := true, named := ["internal/bytealg.MaxLen", "unicode/utf8.first", "unicode/utf8.acceptRanges"], apart := false, laid := [("unicode/utf8.acceptRanges", laid_unicode_utf8_acceptRanges), ("unicode/utf8.first", laid_unicode_utf8_first)], narrowed := true }
def FunctionNamesUptoSaid : Prop := functionNamesUptoRow.holds Tryd.pinned (OpenSpec.upto functionNamesSpec)

/-- 'decklelaw16.FunctionMore', WHERE WHAT IT READS IS OF BULK AT MOST 1048576: true; the input reads as it did. -/
def functionMoreUptoRow : OpenClaim := { program := "ytcnijmmpkahoaaadoor", sum := "90040117766fccd825fc37093e1d2206cafbe6429cdae647ed3e8d03ccb3097d", func := "deckle/decklelaw16.FunctionMore", spec := "functionMore", inPlace := ["internal/bytealg.IndexByteString", "internal/bytealg.IndexString", "internal/bytealg.CountString", "internal/abi.NoEscape", "internal/bytealg.MakeNoZero"], unfollowed := true, recurses := true, named := ["internal/bytealg.MaxLen", "unicode/utf8.first", "unicode/utf8.acceptRanges"], apart := false, laid := [("unicode/utf8.acceptRanges", laid_unicode_utf8_acceptRanges), ("unicode/utf8.first", laid_unicode_utf8_first)], narrowed := true }
def FunctionMoreUptoSaid : Prop := functionMoreUptoRow.holds Tryd.pinned (OpenSpec.upto functionMoreSpec)

/-- 'decklelaw16.FunctionHead', WHERE WHAT IT READS IS OF BULK AT MOST 1048576: true; the input reads as it did. -/
def functionHeadUptoRow : OpenClaim := { program := "ytcnijmmpkahoaaadoor", sum := "90040117766fccd825fc37093e1d2206cafbe6429cdae647ed3e8d03ccb3097d", func := "deckle/decklelaw16.FunctionHead", spec := "functionHead", inPlace := ["internal/bytealg.IndexByteString", "internal/bytealg.IndexString", "internal/bytealg.CountString", "internal/abi.NoEscape", "internal/bytealg.MakeNoZero"], unfollowed := true, recurses := true, named := ["internal/bytealg.MaxLen", "unicode/utf8.first", "unicode/utf8.acceptRanges"], apart := false, laid := [("unicode/utf8.acceptRanges", laid_unicode_utf8_acceptRanges), ("unicode/utf8.first", laid_unicode_utf8_first)], narrowed := true }
def FunctionHeadUptoSaid : Prop := functionHeadUptoRow.holds Tryd.pinned (OpenSpec.upto functionHeadSpec)

end Rows
end Go.Proofs.YtcnijmmpkahoaaaDoor
