/-
  DERIVED. GIVEN WITH THE SEED: THE CARDS: each row of YtjcnnbakadbccaaDoorRows.lean that lists a variable, with what it lists TIED to the program's text (the seventh form; the later family's looks); each row that meets fmt, with fmt's text TOLD by the authors' own Lean function (tested against real Go, not proved from fmt's source: count such statements apart). THE CARD IS WHAT COUNTS. Prove the row's statement (the work); the ties are given (YtjcnnbakadbccaaDoorTie.lean); close each card by the builder's one call (the guide's Derived/Test/ToyasCard.lean, 'card_holds'). Laid BY PROGRAM, IN A SANDBOX (cutbox-door.mjs). By AI agents, Wed Nov 11 2026. No macro, syntax, notation, axiom, sorry.
-/
import Derived.Test.YtjcnnbakadbccaaDoorRows
import GoSem.ClaimSeven
namespace Go.Proofs.YtjcnnbakadbccaaDoor
namespace Rows

/-- THE TIED CARD OF 'toponymlaw01.UtfCharacters'. -/
def utfCharactersCard : Claim7 := { stood := { row := utfCharactersRow, standIns := [], harness := (true, "c0077a02e5297bfc0ba4dcd94feb8fc3589b6a0b11760a143e8d32c7bbe7d67f"), looks := false }, kinds := [], alts := [], laidByText := true, laidKinds := [.data, .pinned], laidTests := true, laidLooks := .later }
def UtfCharactersCardSaid : Prop := Claim7.holds Tryd.pinned (.plain (OpenSpec.ofChange utfCharactersSpec)) utfCharactersCard

/-- THE TIED CARD OF 'toponymlaw01.UtfNext'. -/
def utfNextCard : Claim7 := { stood := { row := utfNextRow, standIns := [], harness := (true, "c0077a02e5297bfc0ba4dcd94feb8fc3589b6a0b11760a143e8d32c7bbe7d67f"), looks := false }, kinds := [], alts := [], laidByText := true, laidKinds := [.data, .pinned], laidTests := true, laidLooks := .later }
def UtfNextCardSaid : Prop := Claim7.holds Tryd.pinned (.plain (OpenSpec.ofChange utfNextSpec)) utfNextCard

/-- THE TIED CARD OF 'toponymlaw01.UtfAll'. -/
def utfAllCard : Claim7 := { stood := { row := utfAllRow, standIns := [], harness := (true, "c0077a02e5297bfc0ba4dcd94feb8fc3589b6a0b11760a143e8d32c7bbe7d67f"), looks := false }, kinds := [], alts := [], laidByText := true, laidKinds := [.data, .pinned], laidTests := true, laidLooks := .later }
def UtfAllCardSaid : Prop := Claim7.holds Tryd.pinned (.plain (OpenSpec.ofChange utfAllSpec)) utfAllCard

/-- THE TIED CARD OF 'toponymlaw01.UtfJoins'. -/
def utfJoinsCard : Claim7 := { stood := { row := utfJoinsRow, standIns := [], harness := (true, "c0077a02e5297bfc0ba4dcd94feb8fc3589b6a0b11760a143e8d32c7bbe7d67f"), looks := false }, kinds := [], alts := [], laidByText := true, laidKinds := [.data, .pinned], laidTests := true, laidLooks := .later }
def UtfJoinsCardSaid : Prop := Claim7.holds Tryd.pinned (.plain (OpenSpec.ofChange utfJoinsSpec)) utfJoinsCard

/-- THE SECOND FORM's CARD OF 'toponymlaw01.UtfCharacters'. -/
def utfCharactersUptoCard : Claim7 := { stood := { row := utfCharactersUptoRow, standIns := [], harness := (true, "c0077a02e5297bfc0ba4dcd94feb8fc3589b6a0b11760a143e8d32c7bbe7d67f"), looks := false }, kinds := [], alts := [], laidByText := true, laidKinds := [.data, .pinned], laidTests := true, laidLooks := .later }
def UtfCharactersUptoCardSaid : Prop := Claim7.holds Tryd.pinned (.plain (OpenSpec.upto utfCharactersSpec)) utfCharactersUptoCard

/-- THE SECOND FORM's CARD OF 'toponymlaw01.UtfNext'. -/
def utfNextUptoCard : Claim7 := { stood := { row := utfNextUptoRow, standIns := [], harness := (true, "c0077a02e5297bfc0ba4dcd94feb8fc3589b6a0b11760a143e8d32c7bbe7d67f"), looks := false }, kinds := [], alts := [], laidByText := true, laidKinds := [.data, .pinned], laidTests := true, laidLooks := .later }
def UtfNextUptoCardSaid : Prop := Claim7.holds Tryd.pinned (.plain (OpenSpec.upto utfNextSpec)) utfNextUptoCard

/-- THE SECOND FORM's CARD OF 'toponymlaw01.UtfAll'. -/
def utfAllUptoCard : Claim7 := { stood := { row := utfAllUptoRow, standIns := [], harness := (true, "c0077a02e5297bfc0ba4dcd94feb8fc3589b6a0b11760a143e8d32c7bbe7d67f"), looks := false }, kinds := [], alts := [], laidByText := true, laidKinds := [.data, .pinned], laidTests := true, laidLooks := .later }
def UtfAllUptoCardSaid : Prop := Claim7.holds Tryd.pinned (.plain (OpenSpec.upto utfAllSpec)) utfAllUptoCard

/-- THE SECOND FORM's CARD OF 'toponymlaw01.UtfJoins'. -/
def utfJoinsUptoCard : Claim7 := { stood := { row := utfJoinsUptoRow, standIns := [], harness := (true, "c0077a02e5297bfc0ba4dcd94feb8fc3589b6a0b11760a143e8d32c7bbe7d67f"), looks := false }, kinds := [], alts := [], laidByText := true, laidKinds := [.data, .pinned], laidTests := true, laidLooks := .later }
def UtfJoinsUptoCardSaid : Prop := Claim7.holds Tryd.pinned (.plain (OpenSpec.upto utfJoinsSpec)) utfJoinsUptoCard
end Rows
end Go.Proofs.YtjcnnbakadbccaaDoor
