/- Kit. -/
import Derived.Test.YtfioknaadbgjlaaGreatDoorEK8
import Derived.Test.YtfioknaadbgjlaaGreatDoorEK7
import Derived.Test.YtfioknaadbgjlaaGreatDoorEKA
set_option maxRecDepth 100000
set_option linter.unusedVariables false
set_option linter.unusedSimpArgs false
namespace Go.Proofs.YtfioknaadbgjlaaGreatDoor.F
open Go.RowKit Go.Sort
end Go.Proofs.YtfioknaadbgjlaaGreatDoor.F
namespace Go.Proofs.YtfioknaadbgjlaaGreatDoor.F
open Go.RowKit Go.Sort
/-- The slice v holds the characters l, and has room for them. -/
def SliceC (w : World) (v : Value) (l : List Int) : Prop := ∃ g off cap, v = .slice (some ⟨g, off, none⟩) l.length cap ∧ l.length ≤ cap ∧ g < w.heap.size ∧ ∀ j, j < l.length → w.cell? ⟨g, off + j, none⟩ = some (.int .i32 (l.getD j 0))
theorem SliceC.drop {w : World} {g off n cap k : Nat} {l : List Int} (h : SliceC w (.slice (some ⟨g, off, none⟩) n cap) l) (hk : k ≤ l.length) : SliceC w (.slice (some ⟨g, off + k, none⟩) (l.length - k) (cap - k)) (l.drop k) := by
  obtain ⟨g', off', cap', hv, hl, hg, hc⟩ := h
  injection hv with h1 h2 h3
  injection h1 with h1
  injection h1 with h1 h4 _
  subst h1 h4 h3
  refine ⟨g, off + k, cap - k, by rw [List.length_drop], by rw [List.length_drop]; omega, hg, fun i hi => ?_⟩
  rw [List.length_drop] at hi
  rw [show (l.drop k).getD i 0 = l.getD (k + i) 0 by simp [List.getD_eq_getElem?_getD]]
  have := hc (k + i) (by omega)
  rw [Nat.add_assoc]
  exact this
end Go.Proofs.YtfioknaadbgjlaaGreatDoor.F
namespace Go.Proofs.YtfioknaadbgjlaaGreatDoor.F
open Go.RowKit Go.Sort
end Go.Proofs.YtfioknaadbgjlaaGreatDoor.F
namespace Go.Proofs.YtfioknaadbgjlaaGreatDoor.F
open Go.RowKit Go.Sort
end Go.Proofs.YtfioknaadbgjlaaGreatDoor.F
namespace Go.Proofs.YtfioknaadbgjlaaGreatDoor.F
open Go.RowKit Go.Sort
end Go.Proofs.YtfioknaadbgjlaaGreatDoor.F
namespace Go.Proofs.YtfioknaadbgjlaaGreatDoor.F
open Go.RowKit Go.Sort
end Go.Proofs.YtfioknaadbgjlaaGreatDoor.F
