/-
  DERIVED. GIVEN WITH THE SEED: THE CARDS: each row of YtfioknaadbgjlaaGreatDoorRows.lean that lists a variable, with what it lists TIED to the program's text (the seventh form; the later family's looks); each row that meets fmt, with fmt's text TOLD by the authors' own Lean function (tested against real Go, not proved from fmt's source: count such statements apart). THE CARD IS WHAT COUNTS. Prove the row's statement (the work); the ties are given (YtfioknaadbgjlaaGreatDoorTie.lean); close each card by the builder's one call (the guide's Derived/Test/ToyasCard.lean, 'card_holds'). Laid BY PROGRAM, IN A SANDBOX (cutbox-door.mjs). By AI agents, Wed Nov 11 2026. No macro, syntax, notation, axiom, sorry.
-/
import Derived.Test.YtfioknaadbgjlaaGreatDoorRows
import GoSem.ClaimSeven
namespace Go.Proofs.YtfioknaadbgjlaaGreatDoor
namespace Rows

/-- THE TIED CARD OF 'toponymlaw15.WalkNodes'. -/
def walkNodesCard : Claim7 := { stood := { row := walkNodesRow, standIns := [], harness := (true, "af505eb28220d1b3938a3c54948b843e327b5503b3740f2967fe2268a5a22218"), looks := true }, kinds := [], alts := [], laidByText := true, laidKinds := [.data, .data, .data, .data, .pinned], laidTests := true, laidLooks := .later }
def WalkNodesCardSaid : Prop := Claim7.holds Tryz.pinned (.plain (OpenSpec.ofChange walkNodesSpec)) walkNodesCard

/-- THE TIED CARD OF 'toponymlaw15.WalkFaces'. -/
def walkFacesCard : Claim7 := { stood := { row := walkFacesRow, standIns := [], harness := (true, "af505eb28220d1b3938a3c54948b843e327b5503b3740f2967fe2268a5a22218"), looks := true }, kinds := [], alts := [], laidByText := true, laidKinds := [.data, .data, .data, .data, .pinned], laidTests := true, laidLooks := .later }
def WalkFacesCardSaid : Prop := Claim7.holds Tryz.pinned (.plain (OpenSpec.ofChange walkFacesSpec)) walkFacesCard

/-- THE SECOND FORM's CARD OF 'toponymlaw15.WalkNodes'. -/
def walkNodesUptoCard : Claim7 := { stood := { row := walkNodesUptoRow, standIns := [], harness := (true, "af505eb28220d1b3938a3c54948b843e327b5503b3740f2967fe2268a5a22218"), looks := true }, kinds := [], alts := [], laidByText := true, laidKinds := [.data, .data, .data, .data, .pinned], laidTests := true, laidLooks := .later }
def WalkNodesUptoCardSaid : Prop := Claim7.holds Tryz.pinned (.plain (OpenSpec.upto walkNodesSpec)) walkNodesUptoCard

/-- THE SECOND FORM's CARD OF 'toponymlaw15.WalkFaces'. -/
def walkFacesUptoCard : Claim7 := { stood := { row := walkFacesUptoRow, standIns := [], harness := (true, "af505eb28220d1b3938a3c54948b843e327b5503b3740f2967fe2268a5a22218"), looks := true }, kinds := [], alts := [], laidByText := true, laidKinds := [.data, .data, .data, .data, .pinned], laidTests := true, laidLooks := .later }
def WalkFacesUptoCardSaid : Prop := Claim7.holds Tryz.pinned (.plain (OpenSpec.upto walkFacesSpec)) walkFacesUptoCard
end Rows
end Go.Proofs.YtfioknaadbgjlaaGreatDoor
