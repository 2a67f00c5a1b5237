/-
  DERIVED. GIVEN WITH THE SEED: THE CARDS: each row of YtbbgnhbkjbobgaaGreatDoorRows.lean that lists a variable, with what it lists TIED to the program's text (the seventh form; the later family's looks); each row that meets fmt, with fmt's text TOLD by the authors' own Lean function (tested against real Go, not proved from fmt's source: count such statements apart). THE CARD IS WHAT COUNTS. Prove the row's statement (the work); the ties are given (YtbbgnhbkjbobgaaGreatDoorTie.lean); close each card by the builder's one call (the guide's Derived/Test/ToyasCard.lean, 'card_holds'). Laid BY PROGRAM, IN A SANDBOX (cutbox-door.mjs). By AI agents, Wed Nov 11 2026. No macro, syntax, notation, axiom, sorry.
-/
import Derived.Test.YtbbgnhbkjbobgaaGreatDoorRows
import GoSem.ClaimSeven
namespace Go.Proofs.YtbbgnhbkjbobgaaGreatDoor
namespace Rows

/-- THE TIED CARD OF 'toponymlaw14.FacesOf'. -/
def facesOfCard : Claim7 := { stood := { row := facesOfRow, standIns := [], harness := (true, "bed80ec9c0aa26ff965b173124c7384a8a696209f218cdd29027a91ba3c38d78"), looks := true }, kinds := [], alts := [], laidByText := true, laidKinds := [.data, .data, .data, .data, .pinned], laidTests := true, laidLooks := .later }
def FacesOfCardSaid : Prop := Claim7.holds Tryz.pinned (.plain (OpenSpec.ofChange facesOfSpec)) facesOfCard

/-- THE TIED CARD OF 'toponymlaw14.FacesPick'. -/
def facesPickCard : Claim7 := { stood := { row := facesPickRow, standIns := [], harness := (true, "bed80ec9c0aa26ff965b173124c7384a8a696209f218cdd29027a91ba3c38d78"), looks := true }, kinds := [], alts := [], laidByText := true, laidKinds := [.data, .data, .data, .data, .pinned], laidTests := true, laidLooks := .later }
def FacesPickCardSaid : Prop := Claim7.holds Tryz.pinned (.plain (OpenSpec.ofChange facesPickSpec)) facesPickCard

/-- THE TIED CARD OF 'toponymlaw14.FacesRaw'. -/
def facesRawCard : Claim7 := { stood := { row := facesRawRow, standIns := [], harness := (true, "bed80ec9c0aa26ff965b173124c7384a8a696209f218cdd29027a91ba3c38d78"), looks := true }, kinds := [], alts := [], laidByText := true, laidKinds := [.data, .data, .data, .data, .pinned], laidTests := true, laidLooks := .later }
def FacesRawCardSaid : Prop := Claim7.holds Tryz.pinned (.plain (OpenSpec.ofChange facesRawSpec)) facesRawCard

/-- THE TIED CARD OF 'toponymlaw14.FacesClean'. -/
def facesCleanCard : Claim7 := { stood := { row := facesCleanRow, standIns := [], harness := (true, "bed80ec9c0aa26ff965b173124c7384a8a696209f218cdd29027a91ba3c38d78"), looks := true }, kinds := [], alts := [], laidByText := true, laidKinds := [.data, .data, .data, .data, .pinned], laidTests := true, laidLooks := .later }
def FacesCleanCardSaid : Prop := Claim7.holds Tryz.pinned (.plain (OpenSpec.ofChange facesCleanSpec)) facesCleanCard

/-- THE SECOND FORM's CARD OF 'toponymlaw14.FacesOf'. -/
def facesOfUptoCard : Claim7 := { stood := { row := facesOfUptoRow, standIns := [], harness := (true, "bed80ec9c0aa26ff965b173124c7384a8a696209f218cdd29027a91ba3c38d78"), looks := true }, kinds := [], alts := [], laidByText := true, laidKinds := [.data, .data, .data, .data, .pinned], laidTests := true, laidLooks := .later }
def FacesOfUptoCardSaid : Prop := Claim7.holds Tryz.pinned (.plain (OpenSpec.upto facesOfSpec)) facesOfUptoCard

/-- THE SECOND FORM's CARD OF 'toponymlaw14.FacesPick'. -/
def facesPickUptoCard : Claim7 := { stood := { row := facesPickUptoRow, standIns := [], harness := (true, "bed80ec9c0aa26ff965b173124c7384a8a696209f218cdd29027a91ba3c38d78"), looks := true }, kinds := [], alts := [], laidByText := true, laidKinds := [.data, .data, .data, .data, .pinned], laidTests := true, laidLooks := .later }
def FacesPickUptoCardSaid : Prop := Claim7.holds Tryz.pinned (.plain (OpenSpec.upto facesPickSpec)) facesPickUptoCard

/-- THE SECOND FORM's CARD OF 'toponymlaw14.FacesRaw'. -/
def facesRawUptoCard : Claim7 := { stood := { row := facesRawUptoRow, standIns := [], harness := (true, "bed80ec9c0aa26ff965b173124c7384a8a696209f218cdd29027a91ba3c38d78"), looks := true }, kinds := [], alts := [], laidByText := true, laidKinds := [.data, .data, .data, .data, .pinned], laidTests := true, laidLooks := .later }
def FacesRawUptoCardSaid : Prop := Claim7.holds Tryz.pinned (.plain (OpenSpec.upto facesRawSpec)) facesRawUptoCard

/-- THE SECOND FORM's CARD OF 'toponymlaw14.FacesClean'. -/
def facesCleanUptoCard : Claim7 := { stood := { row := facesCleanUptoRow, standIns := [], harness := (true, "bed80ec9c0aa26ff965b173124c7384a8a696209f218cdd29027a91ba3c38d78"), looks := true }, kinds := [], alts := [], laidByText := true, laidKinds := [.data, .data, .data, .data, .pinned], laidTests := true, laidLooks := .later }
def FacesCleanUptoCardSaid : Prop := Claim7.holds Tryz.pinned (.plain (OpenSpec.upto facesCleanSpec)) facesCleanUptoCard
end Rows
end Go.Proofs.YtbbgnhbkjbobgaaGreatDoor
