/-
  What a slice of characters holds.
-/
import Derived.WalkKit
import Derived.Lib.Hide
import Derived.Deep.QuietTactic
namespace Go.Proofs.Ytjakelphkehonaa
open Go.RowKit
set_option linter.unusedVariables false

/-- The slice v holds the numbers l. -/
def SliceIs (w : World) (v : Value) (l : List Int) : Prop :=
  (l = [] ∧ ∃ a cap, v = .slice a 0 cap) ∨
  (∃ g off cap, g < w.heap.size ∧ v = .slice (some ⟨g, off, none⟩) l.length cap ∧ ∀ j, j < l.length → w.cell? ⟨g, off + j, none⟩ = some (.int .i32 (l.getD j 0)))

theorem SliceIs.kept {w w' : World} {v : Value} {l : List Int} (h : SliceIs w v l) (hb : Below w.heap.size w w') : SliceIs w' v l := by
  rcases h with h | ⟨g, off, cap, hg, hv, hc⟩
  · exact Or.inl h
  · exact Or.inr ⟨g, off, cap, by have := hb.size; omega, hv, fun j hj => by rw [hb.cell (p := ⟨g, off + j, none⟩) hg]; exact hc j hj⟩
theorem SliceIs.nil (w : World) : SliceIs w (.slice none 0 0) [] := Or.inl ⟨rfl, none, 0, rfl⟩
theorem SliceIs.own {w : World} {base e : Nat} {v : Value} {l : List Int} (h : w.ownsRow base e 1 v l.length (l.map (Value.int .i32))) : SliceIs w v l := by
  rcases h.2 with ⟨hv, h0⟩ | ⟨g, cap, cur, hv, hg, hb, hn, hm, hs, ht⟩
  · exact Or.inl ⟨List.eq_nil_of_length_eq_zero h0, none, 0, by rw [hv]⟩
  · refine Or.inr ⟨g, 0, cap, ?_, hv, fun j hj => ?_⟩
    · exact (h.lt g (by rw [hv]; rfl)).2
    · have hcell : w.cell? ⟨g, 0 + j, none⟩ = cur[j]? := by simp [World.cell?, hb]
      rw [hcell, ← Array.getElem?_toList]
      have := congrArg (·[j]?) ht
      simp only [Nat.mul_one, List.getElem?_take, if_pos hj] at this
      rw [this]
      simp [List.getElem?_eq_getElem hj, List.getD_eq_getElem?_getD]
/-- The slice's outer form. -/
theorem SliceIs.len {w : World} {v : Value} {l : List Int} (h : SliceIs w v l) : ∃ a cap, v = .slice a l.length cap := by
  rcases h with ⟨rfl, a, cap, hv⟩ | ⟨g, off, cap, hg, hv, hc⟩
  · exact ⟨a, cap, hv⟩
  · exact ⟨_, cap, hv⟩

theorem same_step {la lb : List Int} {i : Nat} (h : ∀ j, j < i → la.getD j 0 = lb.getD j 0) (h' : la.getD i 0 = lb.getD i 0) : ∀ j, j < i + 1 → la.getD j 0 = lb.getD j 0 := by
  intro j hj
  by_cases e : j = i
  · subst e; exact h'
  · exact h j (by omega)
theorem same_all {la lb : List Int} (hl : la.length = lb.length) (h : ∀ j, j < la.length → la.getD j 0 = lb.getD j 0) : la = lb := by
  apply List.ext_getElem hl
  intro i h1 h2
  have := h i h1
  simpa [List.getD_eq_getElem?_getD, List.getElem?_eq_getElem h1, List.getElem?_eq_getElem h2] using this

theorem below_drewN' {B : Nat} {a w : World} (h : Below B a w) : ∀ q, Below B a (w.drewN q)
  | 0 => h
  | q + 1 => (below_drewN' h q).drew

end Go.Proofs.Ytjakelphkehonaa
