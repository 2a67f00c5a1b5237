/-
  What CursorScans' walk carries: the tree, and the lists beside it.
-/
import Derived.Test.YtmplekjiciedgaaCuLawA
import Derived.Test.YtmplekjiciedgaaCuCount
import Derived.Test.YtmplekjiciedgaaQ4
import Derived.Test.YtmplekjiciedgaaQB
namespace Go.Proofs.Ytmplekjiciedgaa
open Go.RowKit Go.Sort
set_option linter.unusedVariables false

def EntsS (w : World) (S : Nat → Prop) (v : Value) (l : List Ent) : Prop := EntsIs w v l ∧ (0 < l.length → ∀ g, v.ownBlock = some g → ¬ S g)
theorem ents_lt {w : World} {v : Value} {l : List Ent} (h : EntsIs w v l) (hn : 0 < l.length) : ∀ g, v.ownBlock = some g → g < w.heap.size := fun g hg => by
  rcases h with ⟨h1, _⟩ | ⟨g', off, cap, hlt, hv, _⟩
  · rw [h1] at hn
    exact absurd hn (by simp)
  · rw [hv] at hg
    obtain rfl := Option.some.inj hg
    exact hlt
theorem ents_none {w w' : World} {v : Value} {l : List Ent} (h : EntsIs w v l) (hn : ¬ 0 < l.length) : EntsIs w' v l := by
  obtain ⟨a, c, hv⟩ := h.len
  have h0 : l = [] := List.eq_nil_of_length_eq_zero (by omega)
  subst h0
  exact Or.inl ⟨rfl, a, c, hv⟩
theorem EntsS.nil (w : World) (S : Nat → Prop) : EntsS w S (.slice none 0 0) [] := ⟨LstIs.nil _ _ _, fun h => absurd h (by simp)⟩
theorem EntsS.below {w w' : World} {S : Nat → Prop} {v : Value} {l : List Ent} (h : EntsS w S v l) (hb : Below w.heap.size w w') : EntsS w' S v l := ⟨LstIs.kept h.1 hb, h.2⟩
theorem EntsS.trod {w w' : World} {S S' : Nat → Prop} {v : Value} {l : List Ent} (h : EntsS w S v l) (ht : Trod w w' S S') : EntsS w' S' v l := by
  by_cases hn : 0 < l.length
  · have h1 := LstIs.trod h.1 ht (fun g hg => ⟨ents_lt h.1 hn g hg, h.2 hn g hg⟩)
    exact ⟨h1.1, fun _ g hg => (h1.2 g hg).2⟩
  · exact ⟨ents_none h.1 hn, fun h2 => absurd h2 hn⟩
/-- A list in new memory stands in none of the tree's. -/
theorem EntsS.new {w w' : World} {S : Nat → Prop} {v : Value} {l : List Ent} (h : EntsIs w' v l) (hS : ∀ k, S k → k < w.heap.size) (hn : ∀ g, v.ownBlock = some g → w.heap.size ≤ g) : EntsS w' S v l :=
  ⟨h, fun _ g hg hs => by have h1 := hS g hs; have h2 := hn g hg; omega⟩
theorem EntsS.own {w w' : World} {S : Nat → Prop} {v : Value} {l : List Ent} {n : Nat} (h : w'.ownsRow w.heap.size 46 5 v n (l.flatMap entC)) (hl : n = l.length) (hS : ∀ k, S k → k < w.heap.size) : EntsS w' S v l :=
  EntsS.new (LstIs.own (entC_len _) h hl) hS (fun g hg => (h.lt g hg).1)
/-- The tree, and the three lists beside it. -/
structure Held (w wr : World) (b : Nat) (fv av rv : Value) (F A Rd : List Ent) (L : List Itm) (nx : Int) (S : Nat → Prop) : Prop where
  tree : theTree.Is wr b L nx S
  own : ∀ k, S k → w.heap.size ≤ k
  low : Below w.heap.size w wr
  fs : EntsS wr S fv F
  al : EntsS wr S av A
  rs : EntsS wr S rv Rd
section
variable {w wr w' : World} {b : Nat} {fv av rv : Value} {F A Rd : List Ent} {L : List Itm} {nx : Int} {S : Nat → Prop}
theorem Held.below (h : Held w wr b fv av rv F A Rd L nx S) (hb : Below wr.heap.size wr w') : Held w w' b fv av rv F A Rd L nx S :=
  ⟨theTree.below h.tree hb, h.own, h.low.trans (hb.mono h.low.size), h.fs.below hb, h.al.below hb, h.rs.below hb⟩
theorem Held.lt (h : Held w wr b fv av rv F A Rd L nx S) : ∀ k, S k → k < wr.heap.size := theTree.lt h.tree
theorem Held.trod (h : Held w wr b fv av rv F A Rd L nx S) {L' : List Itm} {nx' : Int} {S' : Nat → Prop} (hi : theTree.Is w' b L' nx' S') (ht : Trod wr w' S S') : Held w w' b fv av rv F A Rd L' nx' S' := by
  have hl := ht.low h.low.size h.own
  exact ⟨hi, hl.2, h.low.trans hl.1, h.fs.trod ht, h.al.trod ht, h.rs.trod ht⟩
theorem Held.all (h : Held w wr b fv av rv F A Rd L nx S) {av' : Value} {A' : List Ent} (ha : EntsS wr S av' A') : Held w wr b fv av' rv F A' Rd L nx S := ⟨h.tree, h.own, h.low, h.fs, ha, h.rs⟩
theorem Held.read (h : Held w wr b fv av rv F A Rd L nx S) {rv' : Value} {Rd' : List Ent} (hr : EntsS wr S rv' Rd') : Held w wr b fv av rv' F A Rd' L nx S := ⟨h.tree, h.own, h.low, h.fs, h.al, hr⟩
end
theorem addAll_one_step {a now : List Ent} {j : Nat} {x : Ent} (h : now[j]? = some x) : addAll a (now.take (j + 1)) = if x ∈ addAll a (now.take j) then addAll a (now.take j) else addAll a (now.take j) ++ [x] := by
  unfold addAll
  rw [take_one h, List.foldl_append]
  rfl
theorem addAll_len (now a : List Ent) : (addAll a now).length ≤ a.length + now.length := by
  induction now generalizing a with
  | nil => exact Nat.le_refl _
  | cons y now ih =>
    rw [addAll_cons]
    by_cases h : y ∈ a
    · rw [if_pos h]
      have := ih a
      rw [List.length_cons]
      omega
    · rw [if_neg h]
      have := ih (a ++ [y])
      rw [List.length_append] at this
      rw [List.length_cons]
      simp at this
      omega
end Go.Proofs.Ytmplekjiciedgaa
