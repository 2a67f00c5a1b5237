/-
  Plain facts: characters taken apart ('apartI'), one by one and then put in order; it is stable; what begins with one of class 0 is taken apart by itself.
-/
import Derived.Test.YtjakelphkehonaaComposeBack
import Derived.Test.YtjakelphkehonaaSortM
import Derived.Test.YtjakelphkehonaaBubble
namespace Go.Proofs.Ytjakelphkehonaa
open Go.Lib
set_option linter.unusedVariables false

def full1 (r : Int) : List Int := match splitI r with
  | none => [r]
  | some (a, b) => match splitI a with
    | none => [a, b]
    | some (p, q) => [p, q, b]
def fullL (l : List Int) : List Int := l.flatMap full1
def apartI (l : List Int) : List Int := sortM classI (fullL l)

/-- What a split leaves: the second one isn't split, the first one once more at most. -/
theorem splitT_small {r : Int} (h : r < 192) : splitT r = none := by
  cases hs : splitT r with
  | none => rfl
  | some x =>
    obtain ⟨n, hn, hm, hz⟩ := splitT_spec hs
    have := back_at hn hz
    simp only at this
    omega
theorem splitI_none_of {r : Int} (h : r < 192 ∨ (400 < r ∧ r < 44032) ∨ 55203 < r) : splitI r = none := by
  have ht : splitT r = none := by
    rcases h with h | h | h
    · exact splitT_small h
    · exact splitT_big h.1
    · exact splitT_big (by omega)
  unfold splitI
  rw [ht]
  simp only
  rw [if_pos (by omega)]
theorem splitI_cases {r : Int} {p : Int × Int} (h : splitI r = some p) :
    (192 ≤ r ∧ r ≤ 400 ∧ 65 ≤ p.1 ∧ p.1 ≤ 122 ∧ 768 ≤ p.2 ∧ p.2 ≤ 808) ∨
    (44032 ≤ r ∧ r ≤ 55203 ∧ 0 < (r - 44032) % 28 ∧ 44032 ≤ p.1 ∧ p.1 ≤ 55203 ∧ (p.1 - 44032) % 28 = 0 ∧ 4520 ≤ p.2 ∧ p.2 ≤ 4546) ∨
    (44032 ≤ r ∧ r ≤ 55203 ∧ (r - 44032) % 28 = 0 ∧ 4352 ≤ p.1 ∧ p.1 ≤ 4370 ∧ 4449 ≤ p.2 ∧ p.2 ≤ 4469) := by
  cases hs : splitT r with
  | some x =>
    have hx : splitI r = some x := by unfold splitI; rw [hs]
    rw [hx] at h
    cases h
    obtain ⟨n, hn, hm, hz⟩ := splitT_spec hs
    have hb := back_at hn hz
    have ht := table_at hn
    simp only at hb
    left
    omega
  | none =>
    have hx : splitI r = (if r < 44032 ∨ 55203 < r then none else if 0 < (r - 44032) % 28 then some (r - (r - 44032) % 28, 4519 + (r - 44032) % 28) else some (4352 + (r - 44032) / 588, 4449 + (r - 44032) % 588 / 28)) := by unfold splitI; rw [hs]
    rw [hx] at h
    by_cases h1 : r < 44032 ∨ 55203 < r
    · rw [if_pos h1] at h; cases h
    · rw [if_neg h1] at h
      by_cases h2 : 0 < (r - 44032) % 28
      · rw [if_pos h2] at h
        cases h
        right; left
        simp only
        omega
      · rw [if_neg h2] at h
        cases h
        right; right
        simp only
        omega
theorem split_second {r : Int} {p : Int × Int} (h : splitI r = some p) : splitI p.2 = none := by
  apply splitI_none_of
  rcases splitI_cases h with h | h | h <;> omega
theorem split_first {r : Int} {p q : Int × Int} (h : splitI r = some p) (h' : splitI p.1 = some q) : splitI q.1 = none ∧ splitI q.2 = none := by
  refine ⟨?_, split_second h'⟩
  apply splitI_none_of
  rcases splitI_cases h with h | h | h <;> rcases splitI_cases h' with h' | h' | h' <;> omega

theorem full1_none {r : Int} (h : splitI r = none) : full1 r = [r] := by unfold full1; rw [h]
theorem full1_some {r : Int} {p : Int × Int} (h : splitI r = some p) : full1 r = full1 p.1 ++ full1 p.2 := by
  rw [full1_none (split_second h)]
  obtain ⟨a, b⟩ := p
  cases h2 : splitI a with
  | none =>
    rw [full1_none h2]
    unfold full1
    rw [h]; simp only; rw [h2]; rfl
  | some q =>
    obtain ⟨q1, q2⟩ := q
    have e : full1 r = [q1, q2, b] := by unfold full1; rw [h]; simp only; rw [h2]
    have e2 : full1 a = [q1, q2] := by
      unfold full1
      rw [h2]; simp only
      rw [(split_first h h2).1]
    rw [e, e2]; rfl
theorem full1_all {r x : Int} (h : x ∈ full1 r) : splitI x = none := by
  cases hs : splitI r with
  | none =>
    rw [full1_none hs] at h
    simp at h; subst h; exact hs
  | some p =>
    obtain ⟨a, b⟩ := p
    cases h2 : splitI a with
    | none =>
      have e : full1 r = [a, b] := by unfold full1; rw [hs]; simp only; rw [h2]
      rw [e] at h
      simp at h
      rcases h with rfl | rfl
      · exact h2
      · exact split_second hs
    | some q =>
      obtain ⟨q1, q2⟩ := q
      have e : full1 r = [q1, q2, b] := by unfold full1; rw [hs]; simp only; rw [h2]
      rw [e] at h
      simp at h
      rcases h with rfl | rfl | rfl
      · exact (split_first hs h2).1
      · exact (split_first hs h2).2
      · exact split_second hs
theorem fullL_nil : fullL [] = [] := rfl
theorem fullL_cons (r : Int) (l : List Int) : fullL (r :: l) = full1 r ++ fullL l := by simp [fullL]
theorem fullL_append (a b : List Int) : fullL (a ++ b) = fullL a ++ fullL b := by simp [fullL]
theorem fullL_all {l : List Int} {x : Int} (h : x ∈ fullL l) : splitI x = none := by
  obtain ⟨r, _, hr⟩ := List.mem_flatMap.1 h
  exact full1_all hr
theorem fullL_id : ∀ {l : List Int}, (∀ x ∈ l, splitI x = none) → fullL l = l
  | [], _ => rfl
  | r :: l, h => by
    rw [fullL_cons, full1_none (h r (by simp)), fullL_id (fun x hx => h x (by simp [hx]))]; rfl
theorem full1_length (r : Int) : (full1 r).length ≤ 3 := by
  unfold full1
  split
  · simp
  · split <;> simp
theorem full1_pos (r : Int) : 1 ≤ (full1 r).length := by
  unfold full1
  split
  · simp
  · split <;> simp
theorem fullL_length : ∀ l : List Int, (fullL l).length ≤ 3 * l.length
  | [] => by simp [fullL]
  | r :: l => by
    rw [fullL_cons, List.length_append, List.length_cons]
    have := full1_length r
    have := fullL_length l
    omega
theorem fullL_split {a b : List Int} {r : Int} {p : Int × Int} (h : splitI r = some p) : fullL (a ++ p.1 :: p.2 :: b) = fullL (a ++ r :: b) := by
  simp only [fullL_append, fullL_cons, full1_some h, List.append_assoc]

theorem classI_far {r : Int} (h : r < 768 ∨ 808 < r) : classI r = 0 := by
  have e : (List.range 13).find? (fun n => decide (markN n = r)) = none := by
    rw [List.find?_eq_none]
    intro n hn
    have := table_at (List.mem_range.1 hn)
    simp only [decide_eq_true_eq]
    omega
  unfold classI
  rw [e]
theorem classI_nn (r : Int) : 0 ≤ classI r := by
  unfold classI
  split
  · split <;> decide
  · decide
theorem class_full1 {r : Int} (h : classI r = 0) : ∃ x t, full1 r = x :: t ∧ classI x = 0 := by
  cases hs : splitI r with
  | none => exact ⟨r, [], full1_none hs, h⟩
  | some p =>
    obtain ⟨a, b⟩ := p
    cases h2 : splitI a with
    | none =>
      have e : full1 r = [a, b] := by unfold full1; rw [hs]; simp only; rw [h2]
      refine ⟨a, [b], e, classI_far ?_⟩
      rcases splitI_cases hs with h | h | h <;> simp only at h <;> omega
    | some q =>
      obtain ⟨q1, q2⟩ := q
      have e : full1 r = [q1, q2, b] := by unfold full1; rw [hs]; simp only; rw [h2]
      refine ⟨q1, [q2, b], e, classI_far ?_⟩
      rcases splitI_cases h2 with h | h | h <;> simp only at h <;> omega

theorem apart_all {l : List Int} {x : Int} (h : x ∈ apartI l) : splitI x = none := by
  unfold apartI at h
  exact fullL_all ((sortM_perm classI (fullL l)).mem_iff.1 h)
theorem apart_ordered (l : List Int) : orderedM classI (apartI l) := sortM_is_ordered classI _
theorem apart_stable (l : List Int) : apartI (apartI l) = apartI l := by
  show sortM classI (fullL (apartI l)) = _
  rw [fullL_id (fun x hx => apart_all hx), sortM_ordered classI _ (apart_ordered l)]
theorem apart_split {a b : List Int} {r : Int} {p : Int × Int} (h : splitI r = some p) : apartI (a ++ p.1 :: p.2 :: b) = apartI (a ++ r :: b) := by
  unfold apartI; rw [fullL_split h]
theorem apart_length (l : List Int) : (apartI l).length ≤ 3 * l.length := by
  unfold apartI
  rw [(sortM_perm classI (fullL l)).length_eq]
  exact fullL_length l

theorem insM_before (c : Int → Int) {x y : Int} {T : List Int} (hy : wrongB c x y = false) : ∀ S : List Int, insM c x (S ++ y :: T) = insM c x S ++ y :: T
  | [] => by
    show insM c x (y :: T) = _
    simp only [insM]
    rw [if_neg (by rw [hy]; decide)]
    rfl
  | s :: S => by
    have ih := insM_before c (T := T) hy S
    simp only [List.cons_append, insM]
    by_cases h : wrongB c x s = true
    · rw [if_pos h, if_pos h, ih]; rfl
    · rw [if_neg h, if_neg h]; rfl
theorem sortM_before (c : Int → Int) (hc : ∀ x, 0 ≤ c x) {y : Int} {Y : List Int} (hy : c y = 0) : ∀ X : List Int, sortM c (X ++ y :: Y) = sortM c X ++ y :: sortM c Y
  | [] => by
    show insM c y (sortM c Y) = y :: sortM c Y
    cases sortM c Y with
    | nil => rfl
    | cons z t =>
      simp only [insM]
      have := hc z
      rw [if_neg (by rw [wrong_no c (by omega)]; decide)]
  | x :: X => by
    have ih := sortM_before c hc (Y := Y) hy X
    show insM c x (sortM c (X ++ y :: Y)) = insM c x (sortM c X) ++ y :: sortM c Y
    rw [ih, insM_before c (wrong_no c (by omega))]
theorem apart_joins {a b : List Int} {r : Int} (h : classI r = 0) : apartI (a ++ r :: b) = apartI a ++ apartI (r :: b) := by
  obtain ⟨x, t, hx, h0⟩ := class_full1 h
  unfold apartI
  rw [fullL_append, fullL_cons, hx]
  rw [List.cons_append, sortM_before classI classI_nn h0]
  rw [show x :: (t ++ fullL b) = [] ++ x :: (t ++ fullL b) from rfl, sortM_before classI classI_nn h0]
  rfl
end Go.Proofs.Ytjakelphkehonaa
