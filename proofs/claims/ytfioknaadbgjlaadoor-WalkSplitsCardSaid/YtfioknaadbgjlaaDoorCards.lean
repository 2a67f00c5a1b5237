/-
  DERIVED. GIVEN WITH THE SEED: THE CARDS: each row of YtfioknaadbgjlaaDoorRows.lean that lists a variable, with what it lists TIED to the program's text (the seventh form; the later family's looks); each row that meets fmt, with fmt's text TOLD by the authors' own Lean function (tested against real Go, not proved from fmt's source: count such statements apart). THE CARD IS WHAT COUNTS. Prove the row's statement (the work); the ties are given (YtfioknaadbgjlaaDoorTie.lean); close each card by the builder's one call (the guide's Derived/Test/ToyasCard.lean, 'card_holds'). Laid BY PROGRAM, IN A SANDBOX (cutbox-door.mjs). By AI agents, Wed Nov 11 2026. No macro, syntax, notation, axiom, sorry.
-/
import Derived.Test.YtfioknaadbgjlaaDoorRows
import GoSem.ClaimSeven
namespace Go.Proofs.YtfioknaadbgjlaaDoor
namespace Rows

/-- THE TIED CARD OF 'toponymlaw15.WalkSplits'. -/
def walkSplitsCard : Claim7 := { stood := { row := walkSplitsRow, standIns := [], harness := (true, "133bc428db8404aa348fba225f8c232e0e137f866c55a94a364063d8da1d9765"), looks := false }, kinds := [], alts := [], laidByText := true, laidKinds := [.data, .pinned], laidTests := true, laidLooks := .later }
def WalkSplitsCardSaid : Prop := Claim7.holds Tryd.pinned (.plain (OpenSpec.ofChange walkSplitsSpec)) walkSplitsCard

/-- THE SECOND FORM's CARD OF 'toponymlaw15.WalkSplits'. -/
def walkSplitsUptoCard : Claim7 := { stood := { row := walkSplitsUptoRow, standIns := [], harness := (true, "133bc428db8404aa348fba225f8c232e0e137f866c55a94a364063d8da1d9765"), looks := false }, kinds := [], alts := [], laidByText := true, laidKinds := [.data, .pinned], laidTests := true, laidLooks := .later }
def WalkSplitsUptoCardSaid : Prop := Claim7.holds Tryd.pinned (.plain (OpenSpec.upto walkSplitsSpec)) walkSplitsUptoCard
end Rows
end Go.Proofs.YtfioknaadbgjlaaDoor
