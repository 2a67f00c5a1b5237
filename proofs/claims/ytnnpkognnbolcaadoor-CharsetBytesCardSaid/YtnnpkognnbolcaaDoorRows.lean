/-
  NARROWER THAN 'FOR EVERY INPUT', by the rows' own cells (each row's printed sentence says how): CharsetSplits: laid · CharsetNext: laid · CharsetEncode: laid · CharsetPieces: laid · CharsetBytes: laid.
  DERIVED. THE GIVEN ROWS OF THIS SEAT. 5 by the template 'for every input the law returns true; each argument reads behind the call as it read before'; 0 by the template 'total and deterministic' (their statements: YtnnpkognnbolcaaDoorTotals.lean).
  GIVEN WITH THE SEED: the statements are not yours to turn. If you find one false, say at which input.
  Laid BY PROGRAM, IN A SANDBOX (cutbox-rows.mjs): the forced cells as the released guide's own fill.sh prints them over the translation 93259531869fece9… (all of the seat's roots in one cut). By AI agents, Wed Nov 11 2026. No macro, syntax, notation, axiom, sorry.
-/
import Derived.Test.YtnnpkognnbolcaaDoorChecked
import GoSem.PinnedTables
import GoSem.Claim
import GoSem.ClaimJoined
import GoSem.ClaimMapViews
import Derived.JoinedTies
import Derived.KernelRfl
namespace Go.Proofs.YtnnpkognnbolcaaDoor
/- THE CELL 'sum', in the pinned program and in every row, IS THE sha256 OF THE DUMP (.gsa) THAT YtnnpkognnbolcaaDoorProg.lean LOADS. Nothing in Lean hashes anything: it is a label: what it is worth is what the hold of that sum in a sandbox is worth. -/
noncomputable def Tryd.pinned : Pinned := { name := "ytnnpkognnbolcaadoor", sum := "93259531869fece942db4ec9e91908ebabde9575f9d9e478bd839182e54ff271", checked := Tryd.checked }
namespace Rows
def none {H : Type} : Left H := { results := [], args := [] }

/- WHAT THE LISTED PACKAGE-LEVEL VARIABLES READ AS WHEN THE CALL BEGINS. Each datum BY PROGRAM (the guide's laid-datum.mjs) off the statement by which the dump's own 'gosem.cut.vars' lays the variable. In a bare row this is a premise. The card (YtnnpkognnbolcaaDoorCards.lean) ties it to the program's text. -/
def laid_unicode_utf8_acceptRanges {H : Type} : DataW H := .agg [.agg [.lit (.int .u8 128), .lit (.int .u8 191)], .agg [.lit (.int .u8 160), .lit (.int .u8 191)], .agg [.lit (.int .u8 128), .lit (.int .u8 159)], .agg [.lit (.int .u8 144), .lit (.int .u8 191)], .agg [.lit (.int .u8 128), .lit (.int .u8 143)], .agg [.lit (.int .u8 0), .lit (.int .u8 0)], .agg [.lit (.int .u8 0), .lit (.int .u8 0)], .agg [.lit (.int .u8 0), .lit (.int .u8 0)], .agg [.lit (.int .u8 0), .lit (.int .u8 0)], .agg [.lit (.int .u8 0), .lit (.int .u8 0)], .agg [.lit (.int .u8 0), .lit (.int .u8 0)], .agg [.lit (.int .u8 0), .lit (.int .u8 0)], .agg [.lit (.int .u8 0), .lit (.int .u8 0)], .agg [.lit (.int .u8 0), .lit (.int .u8 0)], .agg [.lit (.int .u8 0), .lit (.int .u8 0)], .agg [.lit (.int .u8 0), .lit (.int .u8 0)]]
/-- One of Go's own tables, pinned by name: the form's constant. -/
def laid_unicode_utf8_first : DataW Unit := Go.Pinned.utf8First

/-- 'toponymlaw02.CharsetSplits': WHATEVER THE INPUT: true; the input reads as it did. -/
def charsetSplitsSpec : ChangeSpec := { name := "charsetSplits", fn := fun _ => fun
  | [d1, d2, d3] => { results := [.lit (.bool true)], args := [d1, d2, d3] }
  | _ => none }
def charsetSplitsRow : OpenClaim := { program := "ytnnpkognnbolcaadoor", sum := "93259531869fece942db4ec9e91908ebabde9575f9d9e478bd839182e54ff271", func := "toponym/toponymlaw02.CharsetSplits", spec := "charsetSplits", named := ["unicode/utf8.first", "unicode/utf8.acceptRanges"], apart := false, laid := [("unicode/utf8.acceptRanges", laid_unicode_utf8_acceptRanges), ("unicode/utf8.first", laid_unicode_utf8_first)] }
def CharsetSplitsSaid : Prop := charsetSplitsRow.holds Tryd.pinned (OpenSpec.ofChange charsetSplitsSpec)

/-- ITS FALSE NEIGHBOUR: 'it returns false'. Refute it at one input. -/
def charsetSplitsWrong : ChangeSpec := { name := "charsetSplits", fn := fun _ => fun
  | [d1, d2, d3] => { results := [.lit (.bool false)], args := [d1, d2, d3] }
  | _ => none }
def CharsetSplitsWrongFalsely : Prop := charsetSplitsRow.holds Tryd.pinned (OpenSpec.ofChange charsetSplitsWrong)

/-- 'toponymlaw02.CharsetNext': WHATEVER THE INPUT: true; the input reads as it did. -/
def charsetNextSpec : ChangeSpec := { name := "charsetNext", fn := fun _ => fun
  | [d1, d2, d3] => { results := [.lit (.bool true)], args := [d1, d2, d3] }
  | _ => none }
def charsetNextRow : OpenClaim := { program := "ytnnpkognnbolcaadoor", sum := "93259531869fece942db4ec9e91908ebabde9575f9d9e478bd839182e54ff271", func := "toponym/toponymlaw02.CharsetNext", spec := "charsetNext", named := ["unicode/utf8.first", "unicode/utf8.acceptRanges"], apart := false, laid := [("unicode/utf8.acceptRanges", laid_unicode_utf8_acceptRanges), ("unicode/utf8.first", laid_unicode_utf8_first)] }
def CharsetNextSaid : Prop := charsetNextRow.holds Tryd.pinned (OpenSpec.ofChange charsetNextSpec)

/-- ITS FALSE NEIGHBOUR: 'it returns false'. Refute it at one input. -/
def charsetNextWrong : ChangeSpec := { name := "charsetNext", fn := fun _ => fun
  | [d1, d2, d3] => { results := [.lit (.bool false)], args := [d1, d2, d3] }
  | _ => none }
def CharsetNextWrongFalsely : Prop := charsetNextRow.holds Tryd.pinned (OpenSpec.ofChange charsetNextWrong)

/-- 'toponymlaw02.CharsetEncode': WHATEVER THE INPUT: true; the input reads as it did. -/
def charsetEncodeSpec : ChangeSpec := { name := "charsetEncode", fn := fun _ => fun
  | [d1, d2] => { results := [.lit (.bool true)], args := [d1, d2] }
  | _ => none }
def charsetEncodeRow : OpenClaim := { program := "ytnnpkognnbolcaadoor", sum := "93259531869fece942db4ec9e91908ebabde9575f9d9e478bd839182e54ff271", func := "toponym/toponymlaw02.CharsetEncode", spec := "charsetEncode", named := ["unicode/utf8.first", "unicode/utf8.acceptRanges"], apart := false, laid := [("unicode/utf8.acceptRanges", laid_unicode_utf8_acceptRanges), ("unicode/utf8.first", laid_unicode_utf8_first)] }
def CharsetEncodeSaid : Prop := charsetEncodeRow.holds Tryd.pinned (OpenSpec.ofChange charsetEncodeSpec)

/-- ITS FALSE NEIGHBOUR: 'it returns false'. Refute it at one input. -/
def charsetEncodeWrong : ChangeSpec := { name := "charsetEncode", fn := fun _ => fun
  | [d1, d2] => { results := [.lit (.bool false)], args := [d1, d2] }
  | _ => none }
def CharsetEncodeWrongFalsely : Prop := charsetEncodeRow.holds Tryd.pinned (OpenSpec.ofChange charsetEncodeWrong)

/-- 'toponymlaw02.CharsetPieces': WHATEVER THE INPUT: true; the input reads as it did. -/
def charsetPiecesSpec : ChangeSpec := { name := "charsetPieces", fn := fun _ => fun
  | [d1, d2] => { results := [.lit (.bool true)], args := [d1, d2] }
  | _ => none }
def charsetPiecesRow : OpenClaim := { program := "ytnnpkognnbolcaadoor", sum := "93259531869fece942db4ec9e91908ebabde9575f9d9e478bd839182e54ff271", func := "toponym/toponymlaw02.CharsetPieces", spec := "charsetPieces", named := ["unicode/utf8.first", "unicode/utf8.acceptRanges"], apart := false, laid := [("unicode/utf8.acceptRanges", laid_unicode_utf8_acceptRanges), ("unicode/utf8.first", laid_unicode_utf8_first)] }
def CharsetPiecesSaid : Prop := charsetPiecesRow.holds Tryd.pinned (OpenSpec.ofChange charsetPiecesSpec)

/-- ITS FALSE NEIGHBOUR: 'it returns false'. Refute it at one input. -/
def charsetPiecesWrong : ChangeSpec := { name := "charsetPieces", fn := fun _ => fun
  | [d1, d2] => { results := [.lit (.bool false)], args := [d1, d2] }
  | _ => none }
def CharsetPiecesWrongFalsely : Prop := charsetPiecesRow.holds Tryd.pinned (OpenSpec.ofChange charsetPiecesWrong)

/-- 'toponymlaw02.CharsetBytes': WHATEVER THE INPUT: true; the input reads as it did. -/
def charsetBytesSpec : ChangeSpec := { name := "charsetBytes", fn := fun _ => fun
  | [d1, d2, d3] => { results := [.lit (.bool true)], args := [d1, d2, d3] }
  | _ => none }
def charsetBytesRow : OpenClaim := { program := "ytnnpkognnbolcaadoor", sum := "93259531869fece942db4ec9e91908ebabde9575f9d9e478bd839182e54ff271", func := "toponym/toponymlaw02.CharsetBytes", spec := "charsetBytes", named := ["unicode/utf8.first", "unicode/utf8.acceptRanges"], apart := false, laid := [("unicode/utf8.acceptRanges", laid_unicode_utf8_acceptRanges), ("unicode/utf8.first", laid_unicode_utf8_first)] }
def CharsetBytesSaid : Prop := charsetBytesRow.holds Tryd.pinned (OpenSpec.ofChange charsetBytesSpec)

/-- ITS FALSE NEIGHBOUR: 'it returns false'. Refute it at one input. -/
def charsetBytesWrong : ChangeSpec := { name := "charsetBytes", fn := fun _ => fun
  | [d1, d2, d3] => { results := [.lit (.bool false)], args := [d1, d2, d3] }
  | _ => none }
def CharsetBytesWrongFalsely : Prop := charsetBytesRow.holds Tryd.pinned (OpenSpec.ofChange charsetBytesWrong)

/- THE SECOND FORM. 'bulk': how many values and letters a reading holds, each counted each time it is reached (what is shared counts as often as it is met; a slice's spare places count too). A statement '..UptoSaid' is the law's where the arguments, and the package variables that the reading takes, are together of bulk at most 1048576: NARROWER than '..Said'. Prove '..Said' where nothing that the law and all that it calls make is longer than what came in: it says more and counts as full. Else prove '..UptoSaid'. A law counts once. -/
mutual
def uptoBulk {H : Type} : DataW H → Nat
  | .lit (.string bytes) => bytes.length + 1
  | .lit _ => 1
  | .nil => 1
  | .ptr d => uptoBulk d + 1
  | .slice elems spare => uptoBulkAll elems + uptoBulkAll spare + 1
  | .agg parts => uptoBulkAll parts + 1
  | .iface _ d => uptoBulk d + 1
  | .map entries => uptoBulkEntries entries + 1
  | .held _ => 1
def uptoBulkAll {H : Type} : List (DataW H) → Nat
  | [] => 0
  | d :: r => uptoBulk d + uptoBulkAll r
def uptoBulkEntries {H : Type} : List (Lit × DataW H) → Nat
  | [] => 0
  | x :: r => uptoBulkEntry x + uptoBulkEntries r
def uptoBulkEntry {H : Type} : Lit × DataW H → Nat
  | (.string bytes, d) => bytes.length + uptoBulk d + 1
  | (_, d) => uptoBulk d + 1
 end
def uptoSmall : (H : Type) → List (DataW H) → Bool := fun _ ds => decide (uptoBulkAll ds ≤ 1048576)
def OpenSpec.upto (s : _root_.Go.ChangeSpec) : _root_.Go.OpenSpec := { _root_.Go.OpenSpec.ofChange s with cond := some uptoSmall }

/-- 'toponymlaw02.CharsetSplits', WHERE WHAT IT READS IS OF BULK AT MOST 1048576: true; the input reads as it did. -/
def charsetSplitsUptoRow : OpenClaim := { program := "ytnnpkognnbolcaadoor", sum := "93259531869fece942db4ec9e91908ebabde9575f9d9e478bd839182e54ff271", func := "toponym/toponymlaw02.CharsetSplits", spec := "charsetSplits", named := ["unicode/utf8.first", "unicode/utf8.acceptRanges"], apart := false, laid := [("unicode/utf8.acceptRanges", laid_unicode_utf8_acceptRanges), ("unicode/utf8.first", laid_unicode_utf8_first)], narrowed := true }
def CharsetSplitsUptoSaid : Prop := charsetSplitsUptoRow.holds Tryd.pinned (OpenSpec.upto charsetSplitsSpec)

/-- 'toponymlaw02.CharsetNext', WHERE WHAT IT READS IS OF BULK AT MOST 1048576: true; the input reads as it did. -/
def charsetNextUptoRow : OpenClaim := { program := "ytnnpkognnbolcaadoor", sum := "93259531869fece942db4ec9e91908ebabde9575f9d9e478bd839182e54ff271", func := "toponym/toponymlaw02.CharsetNext", spec := "charsetNext", named := ["unicode/utf8.first", "unicode/utf8.acceptRanges"], apart := false, laid := [("unicode/utf8.acceptRanges", laid_unicode_utf8_acceptRanges), ("unicode/utf8.first", laid_unicode_utf8_first)], narrowed := true }
def CharsetNextUptoSaid : Prop := charsetNextUptoRow.holds Tryd.pinned (OpenSpec.upto charsetNextSpec)

/-- 'toponymlaw02.CharsetEncode', WHERE WHAT IT READS IS OF BULK AT MOST 1048576: true; the input reads as it did. -/
def charsetEncodeUptoRow : OpenClaim := { program := "ytnnpkognnbolcaadoor", sum := "93259531869fece942db4ec9e91908ebabde9575f9d9e478bd839182e54ff271", func := "toponym/toponymlaw02.CharsetEncode", spec := "charsetEncode", named := ["unicode/utf8.first", "unicode/utf8.acceptRanges"], apart := false, laid := [("unicode/utf8.acceptRanges", laid_unicode_utf8_acceptRanges), ("unicode/utf8.first", laid_unicode_utf8_first)], narrowed := true }
def CharsetEncodeUptoSaid : Prop := charsetEncodeUptoRow.holds Tryd.pinned (OpenSpec.upto charsetEncodeSpec)

/-- 'toponymlaw02.CharsetPieces', WHERE WHAT IT READS IS OF BULK AT MOST 1048576: true; the input reads as it did. -/
def charsetPiecesUptoRow : OpenClaim := { program := "ytnnpkognnbolcaadoor", sum := "93259531869fece942db4ec9e91908ebabde9575f9d9e478bd839182e54ff271", func := "toponym/toponymlaw02.CharsetPieces", spec := "charsetPieces", named := ["unicode/utf8.first", "unicode/utf8.acceptRanges"], apart := false, laid := [("unicode/utf8.acceptRanges", laid_unicode_utf8_acceptRanges), ("unicode/utf8.first", laid_unicode_utf8_first)], narrowed := true }
def CharsetPiecesUptoSaid : Prop := charsetPiecesUptoRow.holds Tryd.pinned (OpenSpec.upto charsetPiecesSpec)

/-- 'toponymlaw02.CharsetBytes', WHERE WHAT IT READS IS OF BULK AT MOST 1048576: true; the input reads as it did. -/
def charsetBytesUptoRow : OpenClaim := { program := "ytnnpkognnbolcaadoor", sum := "93259531869fece942db4ec9e91908ebabde9575f9d9e478bd839182e54ff271", func := "toponym/toponymlaw02.CharsetBytes", spec := "charsetBytes", named := ["unicode/utf8.first", "unicode/utf8.acceptRanges"], apart := false, laid := [("unicode/utf8.acceptRanges", laid_unicode_utf8_acceptRanges), ("unicode/utf8.first", laid_unicode_utf8_first)], narrowed := true }
def CharsetBytesUptoSaid : Prop := charsetBytesUptoRow.holds Tryd.pinned (OpenSpec.upto charsetBytesSpec)

end Rows
end Go.Proofs.YtnnpkognnbolcaaDoor
