/-
  Plain facts: as many passes over a list as it is long, each changing about neighbours that stand in the wrong order, put its marks into order.
-/
import Derived.Test.YtjakelphkehonaaSortM
namespace Go.Proofs.Ytjakelphkehonaa
open Go.Lib
set_option linter.unusedVariables false

section
variable (c : Int → Int)
def passM : List Int → List Int
  | [] => []
  | [x] => [x]
  | x :: y :: t => if wrongB c x y = true then y :: passM (x :: t) else x :: passM (y :: t)
termination_by l => l.length

theorem passM_nil : passM c [] = [] := by rw [passM]
theorem passM_one (x : Int) : passM c [x] = [x] := by rw [passM]
theorem passM_yes {x y : Int} (t : List Int) (h : wrongB c x y = true) : passM c (x :: y :: t) = y :: passM c (x :: t) := by rw [passM, if_pos h]
theorem passM_not {x y : Int} (t : List Int) (h : wrongB c x y = false) : passM c (x :: y :: t) = x :: passM c (y :: t) := by rw [passM, if_neg (by rw [h]; decide)]

theorem passM_perm : ∀ (n : Nat) (l : List Int), l.length ≤ n → (passM c l).Perm l
  | _, [], _ => by rw [passM_nil]
  | _, [x], _ => by rw [passM_one]
  | 0, x :: y :: t, h => by simp at h
  | n + 1, x :: y :: t, h => by
    cases hw : wrongB c x y with
    | true =>
      rw [passM_yes c t hw]
      have := passM_perm n (x :: t) (by simp at h ⊢; omega)
      exact ((List.Perm.cons y this).trans (List.Perm.swap x y t))
    | false =>
      rw [passM_not c t hw]
      exact List.Perm.cons x (passM_perm n (y :: t) (by simp at h ⊢; omega))
theorem passM_mem {l : List Int} {w : Int} : w ∈ passM c l ↔ w ∈ l := (passM_perm c l.length l (Nat.le_refl _)).mem_iff
theorem passM_length (l : List Int) : (passM c l).length = l.length := (passM_perm c l.length l (Nat.le_refl _)).length_eq
theorem passM_ne {l : List Int} (h : l ≠ []) : passM c l ≠ [] := by
  intro h0
  have := passM_length c l
  rw [h0] at this
  exact h (List.eq_nil_of_length_eq_zero this.symm)

/-- The order in the end is the same. -/
theorem sortM_pass : ∀ (n : Nat) (l : List Int), l.length ≤ n → sortM c (passM c l) = sortM c l
  | _, [], _ => by rw [passM_nil]
  | _, [x], _ => by rw [passM_one]
  | 0, x :: y :: t, h => by simp at h
  | n + 1, x :: y :: t, h => by
    cases hw : wrongB c x y with
    | true =>
      rw [passM_yes c t hw]
      have ih := sortM_pass n (x :: t) (by simp at h ⊢; omega)
      have e := sortM_swap c hw [] t
      simp only [List.nil_append] at e
      rw [e]
      show insM c y (sortM c (passM c (x :: t))) = insM c y (sortM c (x :: t))
      rw [ih]
    | false =>
      rw [passM_not c t hw]
      show insM c x (sortM c (passM c (y :: t))) = insM c x (sortM c (y :: t))
      rw [sortM_pass n (y :: t) (by simp at h ⊢; omega)]

theorem getLast_cons' {x : Int} {l : List Int} (h : l ≠ []) : (x :: l).getLast? = l.getLast? := by
  cases l with
  | nil => exact absurd rfl h
  | cons y t => simp [List.getLast?_cons_cons]

/-- What is carried through marks is at least what it was. -/
theorem carried : ∀ (t : List Int) (x : Int), (∀ w ∈ t, 0 < c w) → ∀ z, (passM c (x :: t)).getLast? = some z → c x ≤ c z
  | [], x, _, z, hz => by
    rw [passM_one] at hz
    simp at hz
    subst hz
    omega
  | y :: t, x, hm, z, hz => by
    have hy := hm y (by simp)
    cases hw : wrongB c x y with
    | true =>
      rw [passM_yes c t hw, getLast_cons' (passM_ne c (by simp))] at hz
      exact carried t x (fun w hw => hm w (by simp [hw])) z hz
    | false =>
      rw [passM_not c t hw, getLast_cons' (passM_ne c (by simp))] at hz
      have := carried t y (fun w hw => hm w (by simp [hw])) z hz
      have hn := wrong_isnt c hw
      omega

/-- The last one stands where it belongs. -/
def finM : List Int → Prop
  | [] => True
  | x :: t => finM t ∧ (t = [] ∨ (∃ w ∈ t, ¬ 0 < c w) ∨ ∀ z, t.getLast? = some z → c x ≤ c z)
theorem finM_pass : ∀ (n : Nat) (l : List Int), l.length ≤ n → finM c (passM c l)
  | _, [], _ => by rw [passM_nil]; trivial
  | _, [x], _ => by rw [passM_one]; exact ⟨trivial, Or.inl rfl⟩
  | 0, x :: y :: t, h => by simp at h
  | n + 1, x :: y :: t, h => by
    cases hw : wrongB c x y with
    | true =>
      have hx := wrong_is c hw
      rw [passM_yes c t hw]
      refine ⟨finM_pass n (x :: t) (by simp at h ⊢; omega), Or.inr ?_⟩
      by_cases hm : ∃ w ∈ t, ¬ 0 < c w
      · obtain ⟨w, h1, h2⟩ := hm
        exact Or.inl ⟨w, (passM_mem c).2 (by simp [h1]), h2⟩
      · right
        intro z hz
        have := carried c t x (fun w hw => Decidable.byContradiction fun hn => hm ⟨w, hw, hn⟩) z hz
        omega
    | false =>
      have hx := wrong_isnt c hw
      rw [passM_not c t hw]
      refine ⟨finM_pass n (y :: t) (by simp at h ⊢; omega), Or.inr ?_⟩
      by_cases hm : ∃ w ∈ y :: t, ¬ 0 < c w
      · obtain ⟨w, h1, h2⟩ := hm
        exact Or.inl ⟨w, (passM_mem c).2 h1, h2⟩
      · right
        intro z hz
        have hall : ∀ w ∈ y :: t, 0 < c w := fun w hw => Decidable.byContradiction fun hn => hm ⟨w, hw, hn⟩
        have := carried c t y (fun w hw => hall w (by simp [hw])) z hz
        have hy := hall y (by simp)
        omega

theorem insM_perm (x : Int) : ∀ l : List Int, (insM c x l).Perm (x :: l)
  | [] => List.Perm.refl _
  | y :: ys => by
    simp only [insM]
    split
    · exact (List.Perm.cons y (insM_perm x ys)).trans (List.Perm.swap x y ys)
    · exact List.Perm.refl _
theorem sortM_perm : ∀ l : List Int, (sortM c l).Perm l
  | [] => List.Perm.refl _
  | x :: xs => (insM_perm c x _).trans (List.Perm.cons x (sortM_perm xs))

theorem insM_end {x z : Int} : ∀ s : List Int, ((∃ w ∈ s ++ [z], ¬ 0 < c w) ∨ c x ≤ c z) → insM c x (s ++ [z]) = insM c x s ++ [z]
  | [], h => by
    have : wrongB c x z = false := by
      apply wrong_no
      rcases h with ⟨w, hw, hn⟩ | h
      · simp at hw; subst hw; omega
      · omega
    simp [insM, this]
  | y :: s, h => by
    by_cases hw : wrongB c x y = true
    · have hx := wrong_is c hw
      have ih := insM_end (x := x) (z := z) s (by
        rcases h with ⟨w, hw', hn⟩ | h
        · left
          simp only [List.cons_append, List.mem_cons] at hw'
          rcases hw' with rfl | hw'
          · omega
          · exact ⟨w, hw', hn⟩
        · exact Or.inr h)
      simp only [List.cons_append, insM, if_pos hw, ih]
    · simp only [List.cons_append, insM, if_neg hw]
theorem sortM_end {z : Int} : ∀ d : List Int, finM c (d ++ [z]) → sortM c (d ++ [z]) = sortM c d ++ [z]
  | [], _ => rfl
  | x :: d, h => by
    have ih := sortM_end d h.1
    show insM c x (sortM c (d ++ [z])) = insM c x (sortM c d) ++ [z]
    rw [ih]
    apply insM_end
    have h2 : d ++ [z] = [] ∨ (∃ w, w ∈ d ++ [z] ∧ ¬ 0 < c w) ∨ ∀ z', (d ++ [z]).getLast? = some z' → c x ≤ c z' := h.2
    rcases h2 with h0 | h0 | h0
    · simp at h0
    · left
      obtain ⟨w, hw, hn⟩ := h0
      refine ⟨w, ?_, hn⟩
      simp only [List.mem_append] at hw ⊢
      rcases hw with hw | hw
      · exact Or.inl ((sortM_perm c d).mem_iff.2 hw)
      · exact Or.inr hw
    · right
      exact h0 z (by simp)

theorem pass_ordered : ∀ l : List Int, orderedM c l → passM c l = l
  | [], _ => passM_nil c
  | [x], _ => passM_one c x
  | x :: y :: t, h => by rw [passM_not c t h.1, pass_ordered (y :: t) h.2]
theorem pass_append {y : Int} {b : List Int} (hb : orderedM c (y :: b)) : ∀ (n : Nat) (a : List Int), a.length ≤ n → a ≠ [] → (∀ z, (passM c a).getLast? = some z → wrongB c z y = false) → passM c (a ++ y :: b) = passM c a ++ y :: b
  | _, [], _, h, _ => absurd rfl h
  | _, [x], _, _, hz => by
    rw [passM_one] at hz ⊢
    have := hz x (by simp)
    show passM c (x :: y :: b) = x :: y :: b
    rw [passM_not c b this, pass_ordered c _ hb]
  | 0, x :: x' :: a, h, _, _ => by simp at h
  | n + 1, x :: x' :: a, h, _, hz => by
    cases hw : wrongB c x x' with
    | true =>
      rw [passM_yes c a hw] at hz ⊢
      rw [getLast_cons' (passM_ne c (by simp))] at hz
      have ih := pass_append hb n (x :: a) (by simp at h ⊢; omega) (by simp) hz
      show passM c (x :: x' :: (a ++ y :: b)) = _
      rw [passM_yes c _ hw]
      show x' :: passM c (x :: a ++ y :: b) = _
      rw [ih]; rfl
    | false =>
      rw [passM_not c a hw] at hz ⊢
      rw [getLast_cons' (passM_ne c (by simp))] at hz
      have ih := pass_append hb n (x' :: a) (by simp at h ⊢; omega) (by simp) hz
      show passM c (x :: x' :: (a ++ y :: b)) = _
      rw [passM_not c _ hw]
      show x :: passM c (x' :: a ++ y :: b) = _
      rw [ih]; rfl

theorem ordered_tail : ∀ (a b : List Int), orderedM c (a ++ b) → orderedM c b
  | [], b, h => h
  | [x], [], _ => trivial
  | [x], y :: b, h => h.2
  | x :: y :: a, b, h => ordered_tail (y :: a) b h.2
theorem ordered_mid {z y : Int} : ∀ (a b : List Int), orderedM c (a ++ z :: y :: b) → wrongB c z y = false := fun a b h => (ordered_tail c a (z :: y :: b) h).1

/-- The last k stand where they belong. -/
def LastOk (k : Nat) (l : List Int) : Prop := ∃ a b, l = a ++ b ∧ b.length = k ∧ sortM c l = sortM c a ++ b
theorem lastOk_step {k : Nat} {l : List Int} (h : LastOk c k l) (hk : k < l.length) : LastOk c (k + 1) (passM c l) := by
  obtain ⟨a, b, rfl, hb, hs⟩ := h
  have hane : a ≠ [] := by
    intro h0; subst h0
    simp at hk; omega
  have hf := finM_pass c a.length a (Nat.le_refl _)
  obtain ⟨d, z, hdz⟩ : ∃ d z, passM c a = d ++ [z] := ⟨(passM c a).dropLast, (passM c a).getLast (passM_ne c hane), (List.dropLast_concat_getLast _).symm⟩
  rw [hdz] at hf
  have hsa : sortM c a = sortM c d ++ [z] := by rw [← sortM_pass c a.length a (Nat.le_refl _), hdz, sortM_end c d hf]
  have hord := sortM_is_ordered c (a ++ b)
  rw [hs, hsa] at hord
  have hp : passM c (a ++ b) = passM c a ++ b := by
    cases b with
    | nil => simp
    | cons y b' =>
      refine pass_append c (ordered_tail c (sortM c d ++ [z]) (y :: b') hord) a.length a (Nat.le_refl _) hane ?_
      intro z' hz'
      rw [hdz] at hz'
      simp at hz'
      subst hz'
      have h1 : orderedM c (sortM c d ++ z :: y :: b') := by simpa using hord
      exact ordered_mid c (sortM c d) b' h1
  refine ⟨d, z :: b, by rw [hp, hdz]; simp, by simp [hb], ?_⟩
  rw [sortM_pass c _ _ (Nat.le_refl _), hs, hsa]
  simp

def passes : Nat → List Int → List Int
  | 0, l => l
  | n + 1, l => passes n (passM c l)
theorem passes_lastOk : ∀ (n k : Nat) (l : List Int), LastOk c k l → n + k ≤ l.length → LastOk c (n + k) (passes c n l)
  | 0, k, l, h, _ => by rw [Nat.zero_add]; exact h
  | n + 1, k, l, h, hl => by
    have := passes_lastOk n (k + 1) (passM c l) (lastOk_step c h (by omega)) (by rw [passM_length]; omega)
    rw [show n + 1 + k = n + (k + 1) by omega]
    exact this
theorem passes_length : ∀ (n : Nat) (l : List Int), (passes c n l).length = l.length
  | 0, l => rfl
  | n + 1, l => by
    show (passes c n (passM c l)).length = _
    rw [passes_length n, passM_length]
theorem passes_sort : ∀ (n : Nat) (l : List Int), sortM c (passes c n l) = sortM c l
  | 0, l => rfl
  | n + 1, l => by
    show sortM c (passes c n (passM c l)) = _
    rw [passes_sort n, sortM_pass c _ _ (Nat.le_refl _)]
/-- As many passes as there are numbers put the marks into order. -/
theorem passes_all (l : List Int) : passes c l.length l = sortM c l := by
  obtain ⟨a, b, hab, hb, hs⟩ := passes_lastOk c l.length 0 l ⟨l, [], by simp, rfl, by simp⟩ (by omega)
  have hlen := passes_length c l.length l
  have ha : a = [] := by
    have := congrArg List.length hab
    rw [hlen, List.length_append, hb] at this
    exact List.eq_nil_of_length_eq_zero (by omega)
  subst ha
  rw [passes_sort] at hs
  rw [hs, hab]
  rfl
end
end Go.Proofs.Ytjakelphkehonaa
