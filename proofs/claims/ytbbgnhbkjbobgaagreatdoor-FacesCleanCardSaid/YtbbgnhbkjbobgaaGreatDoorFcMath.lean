/-
  Faces, plainly: an entry's face, whether it fits, the first with a face, whether a list is clean; a sorted list without neighbours alike.
-/
import Derived.Test.YtbbgnhbkjbobgaaGreatDoorL5
import Derived.Test.YtbbgnhbkjbobgaaGreatDoorL3
import Derived.Test.YtbbgnhbkjbobgaaGreatDoorL4
import Derived.Lib.SlicesCompact
namespace Go.Proofs.YtbbgnhbkjbobgaaGreatDoor
open Go.RowKit Go.Sort
set_option linter.unusedVariables false

def faceL (enc : Int) (e : Ent) : List UInt8 := if e.short = 0 then presL enc e.name.data.toList else nameL (fnvL e.name.data.toList) e.short
def fitB (enc : Int) (e : Ent) : Bool := decide (¬ e.short = 0) == longB enc e.name.data.toList
def faced (enc : Int) (l : List Ent) (s : List UInt8) : Option Ent := l.find? fun e => decide (faceL enc e = s)
def cleanB (enc : Int) (l : List Ent) : Bool := l.all (fitB enc) && decide ((l.map (faceL enc)).Nodup)
/-- An entry that a statement looks at. -/
def EntOk (e : Ent) : Prop := e.name.size ≤ 300 ∧ -9223372036854775808 ≤ e.short ∧ e.short ≤ 9223372036854775807
theorem faced_nil (enc : Int) (s : List UInt8) : faced enc [] s = none := rfl
theorem faced_snoc {enc : Int} {l : List Ent} {x : Ent} {s : List UInt8} (h : faced enc l s = none) : faced enc (l ++ [x]) s = if faceL enc x = s then some x else none := by
  unfold faced at *
  rw [List.find?_append, h, Option.none_or, List.find?_singleton]
  by_cases hx : faceL enc x = s <;> simp [hx]
theorem faced_hit {enc : Int} {l t : List Ent} {x : Ent} {s : List UInt8} (h : faced enc l s = none) (hx : faceL enc x = s) : faced enc (l ++ x :: t) s = some x := by
  unfold faced at *
  rw [List.find?_append, h, Option.none_or, List.find?_cons, decide_eq_true hx]

theorem leL_trans : ∀ a b c : List UInt8, decide (a ≤ b) = true → decide (b ≤ c) = true → decide (a ≤ c) = true := fun a b c h1 h2 => decide_eq_true (List.le_trans (of_decide_eq_true h1) (of_decide_eq_true h2))
theorem leL_total : ∀ a b : List UInt8, (decide (a ≤ b) || decide (b ≤ a)) = true := fun a b => by
  rcases List.le_total a b with h | h <;> simp [h]
theorem keeps_strict {s : List (List UInt8)} (hs : s.Pairwise fun a b => decide (a ≤ b) = true) : (∀ j, j < s.length → Lib.keeps s.toArray j = true) ↔ s.Nodup := by
  have getD : ∀ j (hj : j < s.length), s.toArray[j]! = s[j] := fun j hj => by simp [hj]
  constructor
  · intro h
    rw [List.nodup_iff_pairwise_ne, List.pairwise_iff_getElem]
    intro i j hi hj hij e
    have hk := h j hj
    unfold Lib.keeps at hk
    have hk := of_decide_eq_true hk
    rcases hk with hk | hk
    · omega
    · rw [getD j hj, getD (j - 1) (by omega)] at hk
      have h1 : s[j - 1] ≤ s[j] := of_decide_eq_true (List.pairwise_iff_getElem.1 hs (j - 1) j (by omega) hj (by omega))
      have h2 : s[i] ≤ s[j - 1] := by
        by_cases hij2 : i = j - 1
        · subst hij2; exact List.le_refl _
        · exact of_decide_eq_true (List.pairwise_iff_getElem.1 hs i (j - 1) hi (by omega) (by omega))
      rw [e] at h2
      exact hk (List.le_antisymm h2 h1)
  · intro h j hj
    unfold Lib.keeps
    refine decide_eq_true ?_
    by_cases h0 : j = 0
    · exact Or.inl h0
    · right
      rw [getD j hj, getD (j - 1) (by omega)]
      intro e
      rw [List.nodup_iff_pairwise_ne, List.pairwise_iff_getElem] at h
      exact h (j - 1) j (by omega) hj (by omega) e.symm
theorem compact_len {s : List (List UInt8)} : (Lib.compact s).length = s.length ↔ ∀ j, j < s.length → Lib.keeps s.toArray j = true := by
  unfold Lib.compact Lib.compactUpTo
  rw [List.length_map]
  constructor
  · intro h j hj
    have h2 : ((List.range s.length).filter (Lib.keeps s.toArray)).length = (List.range s.length).length := by rw [h, List.length_range]
    rw [List.length_filter_eq_length_iff] at h2
    exact h2 j (List.mem_range.2 hj)
  · intro h
    rw [List.filter_eq_self.2 (fun j hj => h j (List.mem_range.1 hj)), List.length_range]
theorem compact_le (s : List (List UInt8)) : (Lib.compact s).length ≤ s.length := by
  unfold Lib.compact Lib.compactUpTo
  rw [List.length_map]
  have := List.length_filter_le (Lib.keeps s.toArray) (List.range s.length)
  rw [List.length_range] at this
  exact this
/-- Sorted, and without neighbours alike, it is as long just if no two are alike. -/
theorem compact_nodup (l : List (List UInt8)) : (Lib.compact (l.mergeSort fun x y => decide (x ≤ y))).length = l.length ↔ l.Nodup := by
  have hp := List.mergeSort_perm l (fun x y => decide (x ≤ y))
  have hs := List.pairwise_mergeSort (le := fun x y : List UInt8 => decide (x ≤ y)) leL_trans leL_total l
  rw [← hp.length_eq, compact_len, keeps_strict hs]
  exact hp.nodup_iff
end Go.Proofs.YtbbgnhbkjbobgaaGreatDoor
