/-
  Two trees with the same entries are the same to the project's Same.
-/
import Derived.Test.YtddobjhahohhhaaGreatMkKeep
namespace Go.Proofs.YtddobjhahohhhaaGreat
open Go.RowKit Go.Sort
set_option linter.unusedVariables false

theorem theSame2 {w : World} {b b' : Nat} {l l' : List Itm} {nx : Int} {S S' : Nat → Prop} (h : theTree.Is w b l nx S) (h' : theTree.Is w b' l' nx S') (ht : Twin l l') : Calls Tryz.prog 11 #[ptrV b', ptrV b] w fun e w' => e = .returned (.bool true) ∧ Below w.heap.size w w' := by
  obtain ⟨R, u, v, ys, hm, ho, hg, _⟩ := h
  obtain ⟨R', u', v', ys', hm', ho', hg', _⟩ := h'
  refine (treeSame_c hm' hm (fun n _ => (ht.ents (n : Int)).symm) (fun n hn => Nat.le_trans (hg'.elen n) (by omega))).mono ?_
  rintro e w' ⟨rfl, q, rfl⟩
  exact ⟨rfl, below_drewN1 (Below.refl _ _) q⟩
end Go.Proofs.YtddobjhahohhhaaGreat
