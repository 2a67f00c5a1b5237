/-
  DERIVED. GIVEN WITH THE SEED: THE CARDS: each row of YtfmjhamnpgcdcaaDoorRows.lean that lists a variable, with what it lists TIED to the program's text (the seventh form; the later family's looks); each row that meets fmt, with fmt's text TOLD by the authors' own Lean function (tested against real Go, not proved from fmt's source: count such statements apart). THE CARD IS WHAT COUNTS. Prove the row's statement (the work); the ties are given (YtfmjhamnpgcdcaaDoorTie.lean); close each card by the builder's one call (the guide's Derived/Test/ToyasCard.lean, 'card_holds'). Laid BY PROGRAM, IN A SANDBOX (cutbox-door.mjs). By AI agents, Wed Nov 11 2026. No macro, syntax, notation, axiom, sorry.
-/
import Derived.Test.YtfmjhamnpgcdcaaDoorRows
import GoSem.ClaimSeven
namespace Go.Proofs.YtfmjhamnpgcdcaaDoor
namespace Rows

/-- THE TIED CARD OF 'toponymlaw04.EscapeAscii'. -/
def escapeAsciiCard : Claim7 := { stood := { row := escapeAsciiRow, standIns := [], harness := (true, "28ae424172d5297201fd740db254b8d30158f50b9b0b822c3ce6567907b869bf"), looks := true }, kinds := [], alts := [], laidByText := true, laidKinds := [.data, .pinned], laidTests := true, laidLooks := .later }
def EscapeAsciiCardSaid : Prop := Claim7.holds Tryd.pinned (.plain (OpenSpec.ofChange escapeAsciiSpec)) escapeAsciiCard

/-- THE TIED CARD OF 'toponymlaw04.EscapePlain'. -/
def escapePlainCard : Claim7 := { stood := { row := escapePlainRow, standIns := [], harness := (true, "28ae424172d5297201fd740db254b8d30158f50b9b0b822c3ce6567907b869bf"), looks := true }, kinds := [], alts := [], laidByText := true, laidKinds := [.data, .pinned], laidTests := true, laidLooks := .later }
def EscapePlainCardSaid : Prop := Claim7.holds Tryd.pinned (.plain (OpenSpec.ofChange escapePlainSpec)) escapePlainCard

/-- THE TIED CARD OF 'toponymlaw05.ShortApart'. -/
def shortApartCard : Claim7 := { stood := { row := shortApartRow, standIns := [], harness := (true, "28ae424172d5297201fd740db254b8d30158f50b9b0b822c3ce6567907b869bf"), looks := true }, kinds := [], alts := [], laidByText := true, laidKinds := [.data, .data, .data], laidTests := true, laidLooks := .later }
def ShortApartCardSaid : Prop := Claim7.holds Tryd.pinned (.plain (OpenSpec.ofChange shortApartSpec)) shortApartCard

/-- THE TIED CARD OF 'toponymlaw05.ShortNames'. -/
def shortNamesCard : Claim7 := { stood := { row := shortNamesRow, standIns := [], harness := (true, "28ae424172d5297201fd740db254b8d30158f50b9b0b822c3ce6567907b869bf"), looks := true }, kinds := [], alts := [], laidByText := true, laidKinds := [.data, .data, .data, .sentinel, .sentinel], laidTests := true, laidLooks := .later }
def ShortNamesCardSaid : Prop := Claim7.holds Tryd.pinned (.plain (OpenSpec.ofChange shortNamesSpec)) shortNamesCard

/-- THE SECOND FORM's CARD OF 'toponymlaw04.EscapeAscii'. -/
def escapeAsciiUptoCard : Claim7 := { stood := { row := escapeAsciiUptoRow, standIns := [], harness := (true, "28ae424172d5297201fd740db254b8d30158f50b9b0b822c3ce6567907b869bf"), looks := true }, kinds := [], alts := [], laidByText := true, laidKinds := [.data, .pinned], laidTests := true, laidLooks := .later }
def EscapeAsciiUptoCardSaid : Prop := Claim7.holds Tryd.pinned (.plain (OpenSpec.upto escapeAsciiSpec)) escapeAsciiUptoCard

/-- THE SECOND FORM's CARD OF 'toponymlaw04.EscapePlain'. -/
def escapePlainUptoCard : Claim7 := { stood := { row := escapePlainUptoRow, standIns := [], harness := (true, "28ae424172d5297201fd740db254b8d30158f50b9b0b822c3ce6567907b869bf"), looks := true }, kinds := [], alts := [], laidByText := true, laidKinds := [.data, .pinned], laidTests := true, laidLooks := .later }
def EscapePlainUptoCardSaid : Prop := Claim7.holds Tryd.pinned (.plain (OpenSpec.upto escapePlainSpec)) escapePlainUptoCard

/-- THE SECOND FORM's CARD OF 'toponymlaw05.ShortApart'. -/
def shortApartUptoCard : Claim7 := { stood := { row := shortApartUptoRow, standIns := [], harness := (true, "28ae424172d5297201fd740db254b8d30158f50b9b0b822c3ce6567907b869bf"), looks := true }, kinds := [], alts := [], laidByText := true, laidKinds := [.data, .data, .data], laidTests := true, laidLooks := .later }
def ShortApartUptoCardSaid : Prop := Claim7.holds Tryd.pinned (.plain (OpenSpec.upto shortApartSpec)) shortApartUptoCard

/-- THE SECOND FORM's CARD OF 'toponymlaw05.ShortNames'. -/
def shortNamesUptoCard : Claim7 := { stood := { row := shortNamesUptoRow, standIns := [], harness := (true, "28ae424172d5297201fd740db254b8d30158f50b9b0b822c3ce6567907b869bf"), looks := true }, kinds := [], alts := [], laidByText := true, laidKinds := [.data, .data, .data, .sentinel, .sentinel], laidTests := true, laidLooks := .later }
def ShortNamesUptoCardSaid : Prop := Claim7.holds Tryd.pinned (.plain (OpenSpec.upto shortNamesSpec)) shortNamesUptoCard
end Rows
end Go.Proofs.YtfmjhamnpgcdcaaDoor
