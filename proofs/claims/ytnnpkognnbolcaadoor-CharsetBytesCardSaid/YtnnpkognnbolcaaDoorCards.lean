/-
  DERIVED. GIVEN WITH THE SEED: THE CARDS: each row of YtnnpkognnbolcaaDoorRows.lean that lists a variable, with what it lists TIED to the program's text (the seventh form; the later family's looks); each row that meets fmt, with fmt's text TOLD by the authors' own Lean function (tested against real Go, not proved from fmt's source: count such statements apart). THE CARD IS WHAT COUNTS. Prove the row's statement (the work); the ties are given (YtnnpkognnbolcaaDoorTie.lean); close each card by the builder's one call (the guide's Derived/Test/ToyasCard.lean, 'card_holds'). Laid BY PROGRAM, IN A SANDBOX (cutbox-door.mjs). By AI agents, Wed Nov 11 2026. No macro, syntax, notation, axiom, sorry.
-/
import Derived.Test.YtnnpkognnbolcaaDoorRows
import GoSem.ClaimSeven
namespace Go.Proofs.YtnnpkognnbolcaaDoor
namespace Rows

/-- THE TIED CARD OF 'toponymlaw02.CharsetSplits'. -/
def charsetSplitsCard : Claim7 := { stood := { row := charsetSplitsRow, standIns := [], harness := (true, "5fe5dcbaa40c9fa0e4cc1c18620ec2093ef4094c6b0d0232f9dc1dd1d5b5237e"), looks := false }, kinds := [], alts := [], laidByText := true, laidKinds := [.data, .pinned], laidTests := true, laidLooks := .later }
def CharsetSplitsCardSaid : Prop := Claim7.holds Tryd.pinned (.plain (OpenSpec.ofChange charsetSplitsSpec)) charsetSplitsCard

/-- THE TIED CARD OF 'toponymlaw02.CharsetNext'. -/
def charsetNextCard : Claim7 := { stood := { row := charsetNextRow, standIns := [], harness := (true, "5fe5dcbaa40c9fa0e4cc1c18620ec2093ef4094c6b0d0232f9dc1dd1d5b5237e"), looks := false }, kinds := [], alts := [], laidByText := true, laidKinds := [.data, .pinned], laidTests := true, laidLooks := .later }
def CharsetNextCardSaid : Prop := Claim7.holds Tryd.pinned (.plain (OpenSpec.ofChange charsetNextSpec)) charsetNextCard

/-- THE TIED CARD OF 'toponymlaw02.CharsetEncode'. -/
def charsetEncodeCard : Claim7 := { stood := { row := charsetEncodeRow, standIns := [], harness := (true, "5fe5dcbaa40c9fa0e4cc1c18620ec2093ef4094c6b0d0232f9dc1dd1d5b5237e"), looks := false }, kinds := [], alts := [], laidByText := true, laidKinds := [.data, .pinned], laidTests := true, laidLooks := .later }
def CharsetEncodeCardSaid : Prop := Claim7.holds Tryd.pinned (.plain (OpenSpec.ofChange charsetEncodeSpec)) charsetEncodeCard

/-- THE TIED CARD OF 'toponymlaw02.CharsetPieces'. -/
def charsetPiecesCard : Claim7 := { stood := { row := charsetPiecesRow, standIns := [], harness := (true, "5fe5dcbaa40c9fa0e4cc1c18620ec2093ef4094c6b0d0232f9dc1dd1d5b5237e"), looks := false }, kinds := [], alts := [], laidByText := true, laidKinds := [.data, .pinned], laidTests := true, laidLooks := .later }
def CharsetPiecesCardSaid : Prop := Claim7.holds Tryd.pinned (.plain (OpenSpec.ofChange charsetPiecesSpec)) charsetPiecesCard

/-- THE TIED CARD OF 'toponymlaw02.CharsetBytes'. -/
def charsetBytesCard : Claim7 := { stood := { row := charsetBytesRow, standIns := [], harness := (true, "5fe5dcbaa40c9fa0e4cc1c18620ec2093ef4094c6b0d0232f9dc1dd1d5b5237e"), looks := false }, kinds := [], alts := [], laidByText := true, laidKinds := [.data, .pinned], laidTests := true, laidLooks := .later }
def CharsetBytesCardSaid : Prop := Claim7.holds Tryd.pinned (.plain (OpenSpec.ofChange charsetBytesSpec)) charsetBytesCard

/-- THE SECOND FORM's CARD OF 'toponymlaw02.CharsetSplits'. -/
def charsetSplitsUptoCard : Claim7 := { stood := { row := charsetSplitsUptoRow, standIns := [], harness := (true, "5fe5dcbaa40c9fa0e4cc1c18620ec2093ef4094c6b0d0232f9dc1dd1d5b5237e"), looks := false }, kinds := [], alts := [], laidByText := true, laidKinds := [.data, .pinned], laidTests := true, laidLooks := .later }
def CharsetSplitsUptoCardSaid : Prop := Claim7.holds Tryd.pinned (.plain (OpenSpec.upto charsetSplitsSpec)) charsetSplitsUptoCard

/-- THE SECOND FORM's CARD OF 'toponymlaw02.CharsetNext'. -/
def charsetNextUptoCard : Claim7 := { stood := { row := charsetNextUptoRow, standIns := [], harness := (true, "5fe5dcbaa40c9fa0e4cc1c18620ec2093ef4094c6b0d0232f9dc1dd1d5b5237e"), looks := false }, kinds := [], alts := [], laidByText := true, laidKinds := [.data, .pinned], laidTests := true, laidLooks := .later }
def CharsetNextUptoCardSaid : Prop := Claim7.holds Tryd.pinned (.plain (OpenSpec.upto charsetNextSpec)) charsetNextUptoCard

/-- THE SECOND FORM's CARD OF 'toponymlaw02.CharsetEncode'. -/
def charsetEncodeUptoCard : Claim7 := { stood := { row := charsetEncodeUptoRow, standIns := [], harness := (true, "5fe5dcbaa40c9fa0e4cc1c18620ec2093ef4094c6b0d0232f9dc1dd1d5b5237e"), looks := false }, kinds := [], alts := [], laidByText := true, laidKinds := [.data, .pinned], laidTests := true, laidLooks := .later }
def CharsetEncodeUptoCardSaid : Prop := Claim7.holds Tryd.pinned (.plain (OpenSpec.upto charsetEncodeSpec)) charsetEncodeUptoCard

/-- THE SECOND FORM's CARD OF 'toponymlaw02.CharsetPieces'. -/
def charsetPiecesUptoCard : Claim7 := { stood := { row := charsetPiecesUptoRow, standIns := [], harness := (true, "5fe5dcbaa40c9fa0e4cc1c18620ec2093ef4094c6b0d0232f9dc1dd1d5b5237e"), looks := false }, kinds := [], alts := [], laidByText := true, laidKinds := [.data, .pinned], laidTests := true, laidLooks := .later }
def CharsetPiecesUptoCardSaid : Prop := Claim7.holds Tryd.pinned (.plain (OpenSpec.upto charsetPiecesSpec)) charsetPiecesUptoCard

/-- THE SECOND FORM's CARD OF 'toponymlaw02.CharsetBytes'. -/
def charsetBytesUptoCard : Claim7 := { stood := { row := charsetBytesUptoRow, standIns := [], harness := (true, "5fe5dcbaa40c9fa0e4cc1c18620ec2093ef4094c6b0d0232f9dc1dd1d5b5237e"), looks := false }, kinds := [], alts := [], laidByText := true, laidKinds := [.data, .pinned], laidTests := true, laidLooks := .later }
def CharsetBytesUptoCardSaid : Prop := Claim7.holds Tryd.pinned (.plain (OpenSpec.upto charsetBytesSpec)) charsetBytesUptoCard
end Rows
end Go.Proofs.YtnnpkognnbolcaaDoor
