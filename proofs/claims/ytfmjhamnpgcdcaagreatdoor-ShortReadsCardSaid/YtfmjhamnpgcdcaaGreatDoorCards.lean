/-
  DERIVED. GIVEN WITH THE SEED: THE CARDS: each row of YtfmjhamnpgcdcaaGreatDoorRows.lean that lists a variable, with what it lists TIED to the program's text (the seventh form; the later family's looks); each row that meets fmt, with fmt's text TOLD by the authors' own Lean function (tested against real Go, not proved from fmt's source: count such statements apart). THE CARD IS WHAT COUNTS. Prove the row's statement (the work); the ties are given (YtfmjhamnpgcdcaaGreatDoorTie.lean); close each card by the builder's one call (the guide's Derived/Test/ToyasCard.lean, 'card_holds'). Laid BY PROGRAM, IN A SANDBOX (cutbox-door.mjs). By AI agents, Wed Nov 11 2026. No macro, syntax, notation, axiom, sorry.
-/
import Derived.Test.YtfmjhamnpgcdcaaGreatDoorRows
import GoSem.ClaimSeven
namespace Go.Proofs.YtfmjhamnpgcdcaaGreatDoor
namespace Rows

/-- THE TIED CARD OF 'toponymlaw05.ShortReads'. -/
def shortReadsCard : Claim7 := { stood := { row := shortReadsRow, standIns := [], harness := (true, "29c56c80f633aa55faa379e9c696ac6842c521716a1b2dc9f4dda4fdefe779fa"), looks := true }, kinds := [], alts := [], laidByText := true, laidKinds := [.data, .data, .data, .data, .sentinel, .sentinel, .pinned], laidTests := true, laidLooks := .later }
def ShortReadsCardSaid : Prop := Claim7.holds Tryz.pinned (.plain (OpenSpec.ofChange shortReadsSpec)) shortReadsCard

/-- THE TIED CARD OF 'toponymlaw05.ShortLong'. -/
def shortLongCard : Claim7 := { stood := { row := shortLongRow, standIns := [], harness := (true, "29c56c80f633aa55faa379e9c696ac6842c521716a1b2dc9f4dda4fdefe779fa"), looks := true }, kinds := [], alts := [], laidByText := true, laidKinds := [.data, .pinned], laidTests := true, laidLooks := .later }
def ShortLongCardSaid : Prop := Claim7.holds Tryz.pinned (.plain (OpenSpec.ofChange shortLongSpec)) shortLongCard

/-- THE SECOND FORM's CARD OF 'toponymlaw05.ShortReads'. -/
def shortReadsUptoCard : Claim7 := { stood := { row := shortReadsUptoRow, standIns := [], harness := (true, "29c56c80f633aa55faa379e9c696ac6842c521716a1b2dc9f4dda4fdefe779fa"), looks := true }, kinds := [], alts := [], laidByText := true, laidKinds := [.data, .data, .data, .data, .sentinel, .sentinel, .pinned], laidTests := true, laidLooks := .later }
def ShortReadsUptoCardSaid : Prop := Claim7.holds Tryz.pinned (.plain (OpenSpec.upto shortReadsSpec)) shortReadsUptoCard

/-- THE SECOND FORM's CARD OF 'toponymlaw05.ShortLong'. -/
def shortLongUptoCard : Claim7 := { stood := { row := shortLongUptoRow, standIns := [], harness := (true, "29c56c80f633aa55faa379e9c696ac6842c521716a1b2dc9f4dda4fdefe779fa"), looks := true }, kinds := [], alts := [], laidByText := true, laidKinds := [.data, .pinned], laidTests := true, laidLooks := .later }
def ShortLongUptoCardSaid : Prop := Claim7.holds Tryz.pinned (.plain (OpenSpec.upto shortLongSpec)) shortLongUptoCard
end Rows
end Go.Proofs.YtfmjhamnpgcdcaaGreatDoor
