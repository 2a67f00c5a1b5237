/-
  What a call on an object may touch: the blocks that the object stands in, and anew.
-/
import Derived.Test.YthaghhleidopeaaLst
namespace Go.Proofs.Ythaghhleidopeaa
open Go.RowKit Go.Sort
set_option linter.unusedVariables false

/-- A call wrote what is in S, and anew: S' is what it has behind it. -/
structure Trod (w w' : World) (S S' : Nat → Prop) : Prop where
  os : w'.os = w.os
  tape : w'.tape = w.tape
  output : w'.output = w.output
  size : w.heap.size ≤ w'.heap.size
  rest : ∀ k, k < w.heap.size → ¬ S k → w'.heap[k]? = w.heap[k]?
  sub : ∀ k, S' k → S k ∨ w.heap.size ≤ k
theorem Trod.refl (w : World) (S : Nat → Prop) : Trod w w S S := ⟨rfl, rfl, rfl, Nat.le_refl _, fun _ _ _ => rfl, fun _ h => Or.inl h⟩
theorem Trod.of_below {w w' : World} {S : Nat → Prop} (h : Below w.heap.size w w') : Trod w w' S S := ⟨h.os, h.tape, h.output, h.size, fun k hk _ => h.block k hk, fun _ h => Or.inl h⟩
theorem Trod.trans {w w1 w2 : World} {S S1 S2 : Nat → Prop} (h : Trod w w1 S S1) (h' : Trod w1 w2 S1 S2) : Trod w w2 S S2 := by
  refine ⟨h'.os.trans h.os, h'.tape.trans h.tape, h'.output.trans h.output, Nat.le_trans h.size h'.size, fun k hk hs => ?_, fun k hk => ?_⟩
  · rw [h'.rest k (Nat.lt_of_lt_of_le hk h.size) (fun h1 => (h.sub k h1).elim hs (by omega))]
    exact h.rest k hk hs
  · rcases h'.sub k hk with h1 | h1
    · exact h.sub k h1
    · exact Or.inr (Nat.le_trans h.size h1)
/-- A tree that stands at B and above leaves what is below as it was. -/
theorem Trod.low {w w' : World} {S S' : Nat → Prop} {B : Nat} (h : Trod w w' S S') (hB : B ≤ w.heap.size) (hS : ∀ k, S k → B ≤ k) : Below B w w' ∧ ∀ k, S' k → B ≤ k :=
  ⟨⟨h.os, h.tape, h.output, h.size, fun k hk => h.rest k (by omega) (fun h1 => by have := hS k h1; omega)⟩, fun k hk => (h.sub k hk).elim (hS k) (fun h1 => by omega)⟩
/-- What stood apart from S is as it was, and stands apart from S'. -/
theorem LstIs.trod {α : Type} {f : α → List Value} {c : Nat} {w w' : World} {v : Value} {l : List α} {S S' : Nat → Prop} (h : LstIs f c w v l) (ht : Trod w w' S S') (hv : ∀ g, v.ownBlock = some g → g < w.heap.size ∧ ¬ S g) : LstIs f c w' v l ∧ ∀ g, v.ownBlock = some g → g < w'.heap.size ∧ ¬ S' g :=
  ⟨h.only ht.size fun g hg => ht.rest g (hv g hg).1 (hv g hg).2, fun g hg => ⟨Nat.lt_of_lt_of_le (hv g hg).1 ht.size, fun h1 => (ht.sub g h1).elim (hv g hg).2 (by have := (hv g hg).1; omega)⟩⟩
end Go.Proofs.Ythaghhleidopeaa
