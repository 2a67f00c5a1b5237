/-
  Plain facts: marks put into the order of their classes, those of one class as they stood ('sortM'). Changing about two neighbours that stand in the wrong order doesn't change it; what is in order is its own.
-/
import Derived.Test.YtjakelphkehonaaComposeMath
namespace Go.Proofs.Ytjakelphkehonaa
open Go.Lib
set_option linter.unusedVariables false

section
variable (c : Int → Int)
/-- x, y stand in the wrong order. -/
def wrongB (x y : Int) : Bool := decide (0 < c y ∧ c y < c x)
def insM (x : Int) : List Int → List Int
  | [] => [x]
  | y :: ys => if wrongB c x y = true then y :: insM x ys else x :: y :: ys
def sortM : List Int → List Int
  | [] => []
  | x :: xs => insM c x (sortM xs)
def orderedM : List Int → Prop
  | [] => True
  | [_] => True
  | x :: y :: t => wrongB c x y = false ∧ orderedM (y :: t)

theorem wrong_is {x y : Int} (h : wrongB c x y = true) : 0 < c y ∧ c y < c x := of_decide_eq_true h
theorem wrong_isnt {x y : Int} (h : wrongB c x y = false) : ¬ (0 < c y ∧ c y < c x) := of_decide_eq_false h
theorem wrong_no {x y : Int} (h : ¬ (0 < c y ∧ c y < c x)) : wrongB c x y = false := decide_eq_false h
theorem wrong_yes {x y : Int} (h : 0 < c y ∧ c y < c x) : wrongB c x y = true := decide_eq_true h

theorem insM_swap {x y : Int} (h : wrongB c x y = true) : ∀ s : List Int, insM c x (insM c y s) = insM c y (insM c x s)
  | [] => by
    have hw := wrong_is c h
    have h' : wrongB c y x = false := wrong_no c (by omega)
    simp [insM, h, h']
  | z :: s => by
    have hw := wrong_is c h
    have h' : wrongB c y x = false := wrong_no c (by omega)
    have ih := insM_swap h s
    by_cases hy : wrongB c y z = true
    · have hz := wrong_is c hy
      have hx : wrongB c x z = true := wrong_yes c (by omega)
      simp only [insM, if_pos hy, if_pos hx, ih]
    · have hy' : wrongB c y z = false := by simpa using hy
      by_cases hx : wrongB c x z = true
      · simp only [insM, if_pos hx, if_neg hy, if_pos h]
      · simp only [insM, if_neg hx, if_neg hy, if_pos h, h', Bool.false_eq_true, if_false]

/-- Two neighbours in the wrong order, changed about: the same in the end. -/
theorem sortM_swap {x y : Int} (h : wrongB c x y = true) : ∀ (p t : List Int), sortM c (p ++ x :: y :: t) = sortM c (p ++ y :: x :: t)
  | [], t => by
    simp only [List.nil_append, sortM]
    exact insM_swap c h _
  | q :: p, t => by
    simp only [List.cons_append, sortM, sortM_swap h p t]
theorem sortM_ordered : ∀ l : List Int, orderedM c l → sortM c l = l
  | [], _ => rfl
  | [x], _ => rfl
  | x :: y :: t, h => by
    have ih := sortM_ordered (y :: t) h.2
    have e : sortM c (x :: y :: t) = insM c x (sortM c (y :: t)) := rfl
    rw [e, ih]
    simp only [insM]
    rw [if_neg (by rw [h.1]; decide)]
theorem insM_ordered (x : Int) : ∀ l : List Int, orderedM c l → orderedM c (insM c x l)
  | [], _ => trivial
  | [y], _ => by
    simp only [insM]
    by_cases h : wrongB c x y = true
    · rw [if_pos h]
      have hw := wrong_is c h
      exact ⟨wrong_no c (by omega), trivial⟩
    · rw [if_neg h]
      exact ⟨by simpa using h, trivial⟩
  | y :: z :: t, hl => by
    have ih := insM_ordered x (z :: t) hl.2
    simp only [insM]
    by_cases h : wrongB c x y = true
    · rw [if_pos h]
      have hw := wrong_is c h
      by_cases h2 : wrongB c x z = true
      · simp only [insM, if_pos h2] at ih ⊢
        exact ⟨hl.1, ih⟩
      · simp only [insM, if_neg h2] at ih ⊢
        exact ⟨wrong_no c (by omega), ih⟩
    · rw [if_neg h]
      exact ⟨by simpa using h, hl⟩
theorem sortM_is_ordered : ∀ l : List Int, orderedM c (sortM c l)
  | [] => trivial
  | x :: xs => insM_ordered c x _ (sortM_is_ordered xs)
/-- A list that came of another by such changes, and is in order, is the other one's own order. -/
inductive SwapsM : List Int → List Int → Prop
  | same (l : List Int) : SwapsM l l
  | step {l : List Int} (p t : List Int) (x y : Int) (h : wrongB c x y = true) (hs : SwapsM (p ++ y :: x :: t) l) : SwapsM (p ++ x :: y :: t) l
theorem SwapsM.sort {l m : List Int} (h : SwapsM c l m) : sortM c l = sortM c m := by
  induction h with
  | same l => rfl
  | step p t x y h hs ih => rw [sortM_swap c h, ih]
theorem SwapsM.ordered {l m : List Int} (h : SwapsM c l m) (ho : orderedM c m) : m = sortM c l := by
  rw [h.sort, sortM_ordered c m ho]
end
end Go.Proofs.Ytjakelphkehonaa
