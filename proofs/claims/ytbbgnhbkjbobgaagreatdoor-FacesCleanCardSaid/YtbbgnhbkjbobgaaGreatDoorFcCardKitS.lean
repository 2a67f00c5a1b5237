/-
  What the card of FacesClean rests on besides: a slice of texts as an argument.
-/
import Derived.Test.YtbbgnhbkjbobgaaGreatDoorFcCardKit
import Derived.Test.YtbbgnhbkjbobgaaGreatDoorFcLawC
namespace Go.Proofs.YtbbgnhbkjbobgaaGreatDoor
open Go.ChangeShapes Go.WideShapes Go.ChangeAt Go.RowKit Go.Lib
set_option linter.unusedVariables false

section
variable {H : Type} {enc : TypeId × Value → H} {W : World} {base : Nat}
set_option maxRecDepth 100000 in
theorem strs_of {fuel : Nat} {v : Value} {x : DataW H × List MemPlace} (hf : DataW.trod enc Tryz.prog W base (fun _ => true) true fuel 25 [v] = some x) (hlt : ∀ y ∈ x.2, y.block < W.heap.size) :
    ∃ l, LstIs strC 1 W v l ∧ l.length ≤ 9223372036854775807 ∧ ∀ s ∈ l, s.size ≤ 9223372036854775807 := by
  rcases open_strings Tryz.underlying25 Tryz.underlying9 cells_str hf with ⟨hcs, hx⟩ | ⟨a, len', cap', ss, hcs, _, hl, hm, hz, hx, hcell, hsz⟩
  · injection hcs with hcs _
    subst hcs
    exact ⟨[], Or.inl ⟨rfl, none, 0, rfl⟩, by simp, fun s hs => by cases hs⟩
  · injection hcs with hcs _
    subst hcs
    subst hx
    simp only [if_true] at hz
    have hlen : (ss.take len').length = len' := by rw [List.length_take]; omega
    refine ⟨ss.take len', ?_, by rw [hlen]; unfold maxLen at hm; omega, fun s hs => by
      have := hsz s (List.mem_of_mem_take hs)
      unfold maxLen at this
      omega⟩
    by_cases hl0 : len' = 0
    · subst hl0
      exact Or.inl ⟨rfl, some a, cap', rfl⟩
    · obtain ⟨b, off, spot⟩ := a
      have hspot : spot = none := by simpa [Addr.add] using World.cell?_spot (hcell 0 (by omega))
      subst hspot
      have hbW : b < W.heap.size := hlt (.cell b off) (MemPlace.mem_row.2 ⟨0, by omega, by simp⟩)
      refine Or.inr ⟨b, off, cap', hbW, by rw [hlen], fun j s hj => ?_⟩
      rw [List.getElem?_take] at hj
      split at hj
      case isFalse => cases hj
      have := hcell j (by omega)
      rw [Addr.add_mid] at this
      intro z u hz
      rcases z with _ | z
      · obtain rfl := Option.some.inj hz
        rw [Nat.mul_one, Nat.add_zero, this, List.getD_eq_getElem?_getD, hj]
        rfl
      · cases hz
set_option maxRecDepth 100000 in
theorem arg_strs {v : Value} {d : DataW H} {p : List MemPlace} (hval : Value.okWide Tryz.prog W .any base 25 v)
    (h : DataW.Trod enc Tryz.prog W 0 (fun _ => true) true 25 v d p) (hlt : ∀ x ∈ p, x.block < W.heap.size) :
    ∃ l, LstIs strC 1 W v l ∧ l.length ≤ 9223372036854775807 ∧ ∀ s ∈ l, s.size ≤ 9223372036854775807 := by
  obtain ⟨a0, len, cap, rfl⟩ := okWide_slice Tryz.underlying25 hval
  obtain ⟨fuel, hf⟩ := h
  exact strs_of hf hlt
end
end Go.Proofs.YtbbgnhbkjbobgaaGreatDoor
