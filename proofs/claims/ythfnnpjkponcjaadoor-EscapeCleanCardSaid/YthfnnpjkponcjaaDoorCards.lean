/-
  DERIVED. GIVEN WITH THE SEED: THE CARDS: each row of YthfnnpjkponcjaaDoorRows.lean that lists a variable, with what it lists TIED to the program's text (the seventh form; the later family's looks); each row that meets fmt, with fmt's text TOLD by the authors' own Lean function (tested against real Go, not proved from fmt's source: count such statements apart). THE CARD IS WHAT COUNTS. Prove the row's statement (the work); the ties are given (YthfnnpjkponcjaaDoorTie.lean); close each card by the builder's one call (the guide's Derived/Test/ToyasCard.lean, 'card_holds'). Laid BY PROGRAM, IN A SANDBOX (cutbox-door.mjs). By AI agents, Wed Nov 11 2026. No macro, syntax, notation, axiom, sorry.
-/
import Derived.Test.YthfnnpjkponcjaaDoorRows
import GoSem.ClaimSeven
namespace Go.Proofs.YthfnnpjkponcjaaDoor
namespace Rows

/-- THE TIED CARD OF 'toponymlaw04.EscapeApart'. -/
def escapeApartCard : Claim7 := { stood := { row := escapeApartRow, standIns := [], harness := (true, "e437fba6972e3bbd70b6db8c030d024789f4daf8f8cd20f6ac51036f9dc0ee59"), looks := false }, kinds := [], alts := [], laidByText := true, laidKinds := [.data, .pinned], laidTests := true, laidLooks := .later }
def EscapeApartCardSaid : Prop := Claim7.holds Tryd.pinned (.plain (OpenSpec.ofChange escapeApartSpec)) escapeApartCard

/-- THE TIED CARD OF 'toponymlaw04.EscapeAscii'. -/
def escapeAsciiCard : Claim7 := { stood := { row := escapeAsciiRow, standIns := [], harness := (true, "e437fba6972e3bbd70b6db8c030d024789f4daf8f8cd20f6ac51036f9dc0ee59"), looks := false }, kinds := [], alts := [], laidByText := true, laidKinds := [.data, .pinned], laidTests := true, laidLooks := .later }
def EscapeAsciiCardSaid : Prop := Claim7.holds Tryd.pinned (.plain (OpenSpec.ofChange escapeAsciiSpec)) escapeAsciiCard

/-- THE TIED CARD OF 'toponymlaw04.EscapePresents'. -/
def escapePresentsCard : Claim7 := { stood := { row := escapePresentsRow, standIns := [], harness := (true, "e437fba6972e3bbd70b6db8c030d024789f4daf8f8cd20f6ac51036f9dc0ee59"), looks := false }, kinds := [], alts := [], laidByText := true, laidKinds := [.data, .pinned], laidTests := true, laidLooks := .later }
def EscapePresentsCardSaid : Prop := Claim7.holds Tryd.pinned (.plain (OpenSpec.ofChange escapePresentsSpec)) escapePresentsCard

/-- THE TIED CARD OF 'toponymlaw04.EscapeBack'. -/
def escapeBackCard : Claim7 := { stood := { row := escapeBackRow, standIns := [], harness := (true, "e437fba6972e3bbd70b6db8c030d024789f4daf8f8cd20f6ac51036f9dc0ee59"), looks := false }, kinds := [], alts := [], laidByText := true, laidKinds := [.data, .pinned], laidTests := true, laidLooks := .later }
def EscapeBackCardSaid : Prop := Claim7.holds Tryd.pinned (.plain (OpenSpec.ofChange escapeBackSpec)) escapeBackCard

/-- THE TIED CARD OF 'toponymlaw04.EscapeClean'. -/
def escapeCleanCard : Claim7 := { stood := { row := escapeCleanRow, standIns := [], harness := (true, "e437fba6972e3bbd70b6db8c030d024789f4daf8f8cd20f6ac51036f9dc0ee59"), looks := false }, kinds := [], alts := [], laidByText := true, laidKinds := [.data, .pinned], laidTests := true, laidLooks := .later }
def EscapeCleanCardSaid : Prop := Claim7.holds Tryd.pinned (.plain (OpenSpec.ofChange escapeCleanSpec)) escapeCleanCard

/-- THE TIED CARD OF 'toponymlaw04.EscapePlain'. -/
def escapePlainCard : Claim7 := { stood := { row := escapePlainRow, standIns := [], harness := (true, "e437fba6972e3bbd70b6db8c030d024789f4daf8f8cd20f6ac51036f9dc0ee59"), looks := false }, kinds := [], alts := [], laidByText := true, laidKinds := [.data, .pinned], laidTests := true, laidLooks := .later }
def EscapePlainCardSaid : Prop := Claim7.holds Tryd.pinned (.plain (OpenSpec.ofChange escapePlainSpec)) escapePlainCard

/-- THE SECOND FORM's CARD OF 'toponymlaw04.EscapeApart'. -/
def escapeApartUptoCard : Claim7 := { stood := { row := escapeApartUptoRow, standIns := [], harness := (true, "e437fba6972e3bbd70b6db8c030d024789f4daf8f8cd20f6ac51036f9dc0ee59"), looks := false }, kinds := [], alts := [], laidByText := true, laidKinds := [.data, .pinned], laidTests := true, laidLooks := .later }
def EscapeApartUptoCardSaid : Prop := Claim7.holds Tryd.pinned (.plain (OpenSpec.upto escapeApartSpec)) escapeApartUptoCard

/-- THE SECOND FORM's CARD OF 'toponymlaw04.EscapeAscii'. -/
def escapeAsciiUptoCard : Claim7 := { stood := { row := escapeAsciiUptoRow, standIns := [], harness := (true, "e437fba6972e3bbd70b6db8c030d024789f4daf8f8cd20f6ac51036f9dc0ee59"), looks := false }, kinds := [], alts := [], laidByText := true, laidKinds := [.data, .pinned], laidTests := true, laidLooks := .later }
def EscapeAsciiUptoCardSaid : Prop := Claim7.holds Tryd.pinned (.plain (OpenSpec.upto escapeAsciiSpec)) escapeAsciiUptoCard

/-- THE SECOND FORM's CARD OF 'toponymlaw04.EscapePresents'. -/
def escapePresentsUptoCard : Claim7 := { stood := { row := escapePresentsUptoRow, standIns := [], harness := (true, "e437fba6972e3bbd70b6db8c030d024789f4daf8f8cd20f6ac51036f9dc0ee59"), looks := false }, kinds := [], alts := [], laidByText := true, laidKinds := [.data, .pinned], laidTests := true, laidLooks := .later }
def EscapePresentsUptoCardSaid : Prop := Claim7.holds Tryd.pinned (.plain (OpenSpec.upto escapePresentsSpec)) escapePresentsUptoCard

/-- THE SECOND FORM's CARD OF 'toponymlaw04.EscapeBack'. -/
def escapeBackUptoCard : Claim7 := { stood := { row := escapeBackUptoRow, standIns := [], harness := (true, "e437fba6972e3bbd70b6db8c030d024789f4daf8f8cd20f6ac51036f9dc0ee59"), looks := false }, kinds := [], alts := [], laidByText := true, laidKinds := [.data, .pinned], laidTests := true, laidLooks := .later }
def EscapeBackUptoCardSaid : Prop := Claim7.holds Tryd.pinned (.plain (OpenSpec.upto escapeBackSpec)) escapeBackUptoCard

/-- THE SECOND FORM's CARD OF 'toponymlaw04.EscapeClean'. -/
def escapeCleanUptoCard : Claim7 := { stood := { row := escapeCleanUptoRow, standIns := [], harness := (true, "e437fba6972e3bbd70b6db8c030d024789f4daf8f8cd20f6ac51036f9dc0ee59"), looks := false }, kinds := [], alts := [], laidByText := true, laidKinds := [.data, .pinned], laidTests := true, laidLooks := .later }
def EscapeCleanUptoCardSaid : Prop := Claim7.holds Tryd.pinned (.plain (OpenSpec.upto escapeCleanSpec)) escapeCleanUptoCard

/-- THE SECOND FORM's CARD OF 'toponymlaw04.EscapePlain'. -/
def escapePlainUptoCard : Claim7 := { stood := { row := escapePlainUptoRow, standIns := [], harness := (true, "e437fba6972e3bbd70b6db8c030d024789f4daf8f8cd20f6ac51036f9dc0ee59"), looks := false }, kinds := [], alts := [], laidByText := true, laidKinds := [.data, .pinned], laidTests := true, laidLooks := .later }
def EscapePlainUptoCardSaid : Prop := Claim7.holds Tryd.pinned (.plain (OpenSpec.upto escapePlainSpec)) escapePlainUptoCard
end Rows
end Go.Proofs.YthfnnpjkponcjaaDoor
