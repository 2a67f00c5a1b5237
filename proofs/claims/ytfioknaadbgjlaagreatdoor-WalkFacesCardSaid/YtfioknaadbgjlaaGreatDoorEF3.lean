/- Kit. -/
import Derived.Test.YtfioknaadbgjlaaGreatDoorEF2
import Derived.Test.YtfioknaadbgjlaaGreatDoorEF1
import Derived.Test.YtfioknaadbgjlaaGreatDoorEL4
import Derived.Test.YtfioknaadbgjlaaGreatDoorEKC
set_option maxRecDepth 100000
set_option linter.unusedVariables false
set_option linter.unusedSimpArgs false
namespace Go.Proofs.YtfioknaadbgjlaaGreatDoor.F
open Go.RowKit Go.Sort
/-- The first entry with an entry's face is that entry. -/
theorem faced_own {E : Int} {l : List Ent} (hd : (l.map (faceL E)).Nodup) {i : Nat} {x : Ent} (hx : l[i]? = some x) : faced E l (faceL E x) = some x := by
  have hlt := (List.getElem?_eq_some_iff.1 hx).1
  have hsplit : l = l.take i ++ x :: l.drop (i + 1) := by
    rw [← drop_eq_cons hx]; exact (List.take_append_drop i l).symm
  rw [hsplit]
  refine faced_hit ?_ rfl
  unfold faced
  rw [List.find?_eq_none]
  intro y hy
  rw [hsplit, List.map_append, List.nodup_append] at hd
  have := hd.2.2 (faceL E y) (List.mem_map_of_mem hy) (faceL E x) (by simp)
  simpa using this
end Go.Proofs.YtfioknaadbgjlaaGreatDoor.F
