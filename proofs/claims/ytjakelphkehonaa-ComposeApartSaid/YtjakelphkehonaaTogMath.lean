/-
  Plain facts: characters put together one by one ('togI'); twice is as once; what is put together of what was taken apart is taken apart to the same.
-/
import Derived.Test.YtjakelphkehonaaApartMath
namespace Go.Proofs.Ytjakelphkehonaa
open Go.Lib
set_option linter.unusedVariables false

def PosL (l : List Int) : Prop := ∀ x ∈ l, 0 < classI x
/-- The last one of class 0, what is ahead of it, and the marks behind it. -/
def lastBase : List Int → Option (List Int × Int × List Int)
  | [] => none
  | x :: t => match lastBase t with
    | some (p, b, ms) => some (x :: p, b, ms)
    | none => if classI x = 0 then some ([], x, t) else none
theorem lastBase_none : ∀ {l : List Int}, lastBase l = none → PosL l
  | [], _ => fun x hx => by cases hx
  | x :: t, h => by
    simp only [lastBase] at h
    cases ht : lastBase t with
    | some q => rw [ht] at h; cases h
    | none =>
      rw [ht] at h
      simp only at h
      by_cases hx : classI x = 0
      · rw [if_pos hx] at h; cases h
      · intro y hy
        rcases List.mem_cons.1 hy with rfl | hy
        · have := classI_nn y; omega
        · exact lastBase_none ht y hy
theorem lastBase_pos : ∀ {l : List Int}, PosL l → lastBase l = none
  | [], _ => rfl
  | x :: t, h => by
    simp only [lastBase]
    rw [lastBase_pos (fun y hy => h y (by simp [hy]))]
    simp only
    rw [if_neg (by have := h x (by simp); omega)]
theorem lastBase_some : ∀ {l p : List Int} {b : Int} {ms : List Int}, lastBase l = some (p, b, ms) → l = p ++ b :: ms ∧ classI b = 0 ∧ PosL ms
  | [], p, b, ms, h => by cases h
  | x :: t, p, b, ms, h => by
    simp only [lastBase] at h
    cases ht : lastBase t with
    | some q =>
      obtain ⟨p', b', ms'⟩ := q
      rw [ht] at h
      simp only [Option.some.injEq, Prod.mk.injEq] at h
      obtain ⟨rfl, rfl, rfl⟩ := h
      obtain ⟨h1, h2, h3⟩ := lastBase_some ht
      exact ⟨by rw [h1]; rfl, h2, h3⟩
    | none =>
      rw [ht] at h
      simp only at h
      by_cases hx : classI x = 0
      · rw [if_pos hx] at h
        simp only [Option.some.injEq, Prod.mk.injEq] at h
        obtain ⟨rfl, rfl, rfl⟩ := h
        exact ⟨rfl, hx, lastBase_none ht⟩
      · rw [if_neg hx] at h; cases h
theorem lastBase_at : ∀ (p : List Int) {b : Int} {ms : List Int}, classI b = 0 → PosL ms → lastBase (p ++ b :: ms) = some (p, b, ms)
  | [], b, ms, hb, hm => by
    simp only [List.nil_append, lastBase]
    rw [lastBase_pos hm]
    simp only
    rw [if_pos hb]
  | x :: p, b, ms, hb, hm => by
    have ih := lastBase_at p hb hm
    simp only [List.cons_append, lastBase, ih]

def mayB (ms : List Int) (r : Int) : Bool := match ms.getLast? with
  | none => true
  | some z => decide (classI z < classI r)
def togStep (out : List Int) (r : Int) : List Int := match lastBase out with
  | none => out ++ [r]
  | some (p, b, ms) => if mayB ms r = true ∧ 0 < pairI b r then p ++ pairI b r :: ms else out ++ [r]
def togI (l : List Int) : List Int := l.foldl togStep []

/-- What a pair is, and what it makes. -/
theorem pair_kinds {a b : Int} (h : 0 < pairI a b) :
    (65 ≤ a ∧ a ≤ 122 ∧ 768 ≤ b ∧ b ≤ 808 ∧ 192 ≤ pairI a b ∧ pairI a b ≤ 400) ∨
    (4352 ≤ a ∧ a ≤ 4370 ∧ 4449 ≤ b ∧ b ≤ 4469 ∧ 44032 ≤ pairI a b ∧ pairI a b ≤ 55203) ∨
    (44032 ≤ a ∧ a ≤ 55203 ∧ 4520 ≤ b ∧ b ≤ 4546 ∧ 44032 ≤ pairI a b ∧ pairI a b ≤ 55203) := by
  have hb := pair_back h
  rcases splitI_cases hb with h1 | h1 | h1 <;> simp only at h1
  · left; omega
  · right; right; omega
  · right; left; omega
theorem class_made {a b : Int} (h : 0 < pairI a b) : classI (pairI a b) = 0 := classI_far (by rcases pair_kinds h with h | h | h <;> omega)
theorem mark_near {r : Int} (h : 0 < classI r) : 768 ≤ r ∧ r ≤ 808 := by
  by_cases hh : r < 768 ∨ 808 < r
  · rw [classI_far hh] at h; omega
  · omega
theorem made_second {a b x : Int} (h : 0 < pairI a b) : ¬ 0 < pairI x (pairI a b) := by
  intro h'
  rcases pair_kinds h with h1 | h1 | h1 <;> rcases pair_kinds h' with h2 | h2 | h2 <;> omega
theorem made_first {a b m : Int} (h : 0 < pairI a b) (hb : 0 < classI b) (hm : 0 < classI m) : ¬ 0 < pairI (pairI a b) m := by
  intro h'
  have h3 := mark_near hb
  have h4 := mark_near hm
  rcases pair_kinds h with h1 | h1 | h1 <;> rcases pair_kinds h' with h2 | h2 | h2 <;> omega
theorem mark_whole {r : Int} (h : 0 < classI r) : splitI r = none := splitI_none_of (by have := mark_near h; omega)

theorem togI_snoc (l : List Int) (r : Int) : togI (l ++ [r]) = togStep (togI l) r := by simp [togI]
theorem togStep_length (out : List Int) (r : Int) : (togStep out r).length ≤ out.length + 1 ∧ ((togStep out r).length = out.length + 1 → togStep out r = out ++ [r]) := by
  unfold togStep
  cases h : lastBase out with
  | none => exact ⟨by simp, fun _ => rfl⟩
  | some q =>
    obtain ⟨p, b, ms⟩ := q
    simp only
    have := (lastBase_some h).1
    by_cases hc : mayB ms r = true ∧ 0 < pairI b r
    · rw [if_pos hc]
      have hl : (p ++ pairI b r :: ms).length = out.length := by rw [this]; simp
      exact ⟨by omega, fun h => by omega⟩
    · rw [if_neg hc]; exact ⟨by simp, fun _ => rfl⟩
theorem snoc_ind {P : List Int → Prop} (h0 : P []) (hs : ∀ l r, P l → P (l ++ [r])) (l : List Int) : P l := by
  have : ∀ n (l : List Int), l.length = n → P l := by
    intro n
    induction n with
    | zero => intro l hl; rw [List.eq_nil_of_length_eq_zero hl]; exact h0
    | succ n ih =>
      intro l hl
      rcases List.eq_nil_or_concat l with h | ⟨t, r, h⟩
      · rw [h] at hl; simp at hl
      · rw [List.concat_eq_append] at h
        subst h
        exact hs t r (ih t (by simpa using hl))
  exact this l.length l rfl
theorem togI_length : ∀ l : List Int, (togI l).length ≤ l.length := by
  refine snoc_ind (Nat.le_refl _) fun l r ih => ?_
  rw [togI_snoc, List.length_append, List.length_singleton]
  have := (togStep_length (togI l) r).1
  omega
def FixT (l : List Int) : Prop := togI l = l
theorem fix_front {l : List Int} {r : Int} (h : FixT (l ++ [r])) : FixT l := by
  have key : ∀ l : List Int, (togI l).length = l.length → FixT l := by
    refine snoc_ind (fun _ => rfl) fun l r ih h => ?_
    rw [togI_snoc, List.length_append, List.length_singleton] at h
    have h1 := togStep_length (togI l) r
    have h2 := togI_length l
    have h3 := ih (by omega)
    unfold FixT at *
    rw [togI_snoc, h1.2 (by omega), h3]
  apply key
  unfold FixT at h
  rw [togI_snoc] at h
  have h1 := (togStep_length (togI l) r).1
  rw [h, List.length_append, List.length_singleton] at h1
  have := togI_length l
  omega
theorem fix_part (x : List Int) : ∀ y : List Int, FixT (x ++ y) → FixT x := by
  refine snoc_ind (fun h => by simpa using h) fun y r ih h => ?_
  rw [← List.append_assoc] at h
  exact ih (fix_front h)
theorem fix_snoc {l : List Int} {r : Int} (h : FixT l) (hs : togStep l r = l ++ [r]) : FixT (l ++ [r]) := by
  unfold FixT at *
  rw [togI_snoc, h, hs]
theorem fix_step {out : List Int} (r : Int) (h : FixT out) : FixT (togStep out r) := by
  cases hb : lastBase out with
  | none =>
    have e : togStep out r = out ++ [r] := by unfold togStep; rw [hb]
    rw [e]; exact fix_snoc h e
  | some q =>
    obtain ⟨p, b, ms⟩ := q
    by_cases hc : mayB ms r = true ∧ 0 < pairI b r
    · have e : togStep out r = p ++ pairI b r :: ms := by unfold togStep; rw [hb]; simp only; rw [if_pos hc]
      obtain ⟨ho, hb0, hms⟩ := lastBase_some hb
      rw [e]
      rw [ho] at h
      have hp : FixT p := fix_part p _ h
      have h1 : FixT (p ++ [pairI b r]) := by
        apply fix_snoc hp
        unfold togStep
        cases hl : lastBase p with
        | none => rfl
        | some q =>
          obtain ⟨p', b', ms'⟩ := q
          simp only
          rw [if_neg fun hh => made_second hc.2 hh.2]
      have hr : ms ≠ [] → 0 < classI r := fun hne => by
        have hm := hc.1
        unfold mayB at hm
        cases hg : ms.getLast? with
        | none => exact absurd (List.getLast?_eq_none_iff.1 hg) hne
        | some z =>
          rw [hg] at hm
          have hz := hms z (List.mem_of_getLast? hg)
          have := of_decide_eq_true hm
          omega
      have h2 : ∀ t : List Int, (∀ x ∈ t, 0 < classI x) → (t ≠ [] → 0 < classI r) → FixT ((p ++ [pairI b r]) ++ t) := by
        refine snoc_ind (fun _ _ => by simpa using h1) fun t m ih hpos hr' => ?_
        have hrr := hr' (by simp)
        have hm := hpos m (by simp)
        rw [← List.append_assoc]
        refine fix_snoc (ih (fun x hx => hpos x (List.mem_append_left _ hx)) fun _ => hrr) ?_
        have hl : lastBase ((p ++ [pairI b r]) ++ t) = some (p, pairI b r, t) := by
          rw [List.append_assoc]
          exact lastBase_at p (class_made hc.2) (fun x hx => hpos x (List.mem_append_left _ hx))
        unfold togStep
        rw [hl]
        simp only
        rw [if_neg fun hh => made_first hc.2 hrr hm hh.2]
      have := h2 ms hms hr
      simpa using this
    · have e : togStep out r = out ++ [r] := by unfold togStep; rw [hb]; simp only; rw [if_neg hc]
      rw [e]; exact fix_snoc h e
theorem tog_twice : ∀ l : List Int, togI (togI l) = togI l := by
  refine snoc_ind rfl fun l r ih => ?_
  rw [togI_snoc]
  exact fix_step r ih

theorem swaps_sort_eq {a b : List Int} (h : SwapsM classI a b) (P T : List Int) : sortM classI (P ++ a ++ T) = sortM classI (P ++ b ++ T) := by
  induction h with
  | same l => rfl
  | step p t x y hw hs ih =>
    have e1 : P ++ (p ++ x :: y :: t) ++ T = (P ++ p) ++ x :: y :: (t ++ T) := by simp
    have e2 : P ++ (p ++ y :: x :: t) ++ T = (P ++ p) ++ y :: x :: (t ++ T) := by simp
    rw [e1, sortM_swap classI hw, ← e2, ih]
theorem swaps_one {x : Int} : ∀ (B : List Int), (∀ y ∈ B, wrongB classI x y = true) → ∀ (P T : List Int), sortM classI (P ++ x :: (B ++ T)) = sortM classI (P ++ (B ++ x :: T))
  | [], _, P, T => rfl
  | y :: B, h, P, T => by
    have ih := swaps_one B (fun z hz => h z (by simp [hz])) (P ++ [y]) T
    rw [show P ++ x :: (y :: B ++ T) = P ++ x :: y :: (B ++ T) from rfl, sortM_swap classI (h y (by simp))]
    simpa using ih
theorem ordered_last : ∀ (ms t : List Int), orderedM classI (ms ++ t) → PosL ms → ∀ z, ms.getLast? = some z → ∀ m ∈ ms, classI m ≤ classI z
  | [], t, _, _, z, h, m, hm => by cases hm
  | [x], t, _, _, z, h, m, hm => by simp at h hm; subst h hm; omega
  | x :: y :: ms, t, ho, hp, z, h, m, hm => by
    have ih := ordered_last (y :: ms) t ho.2 (fun q hq => hp q (by simp [hq])) z (by rw [List.getLast?_cons_cons] at h; exact h)
    rcases List.mem_cons.1 hm with rfl | hm
    · have h1 := wrong_isnt classI ho.1
      have h2 := hp y (by simp)
      have h3 := ih y (by simp)
      omega
    · exact ih m hm
theorem ordered_less : ∀ (ms : List Int) (r : Int) (rest : List Int), orderedM classI (ms ++ r :: rest) → (∀ z, ms.getLast? = some z → classI z < classI r) → orderedM classI (ms ++ rest)
  | [], r, [], _, _ => trivial
  | [], r, y :: rest, h, _ => h.2
  | [x], r, [], _, _ => trivial
  | [x], r, y :: rest, h, hz => by
    have h1 := wrong_isnt classI h.2.1
    have h2 := hz x rfl
    exact ⟨wrong_no classI (by omega), h.2.2⟩
  | x :: x' :: ms, r, rest, h, hz => ⟨h.1, ordered_less (x' :: ms) r rest h.2 (fun z hh => hz z (by rw [List.getLast?_cons_cons]; exact hh))⟩
theorem ordered_tl {r : Int} : ∀ {rest : List Int}, orderedM classI (r :: rest) → orderedM classI rest
  | [], _ => trivial
  | y :: t, h => h.2

def CondT (out rest : List Int) : Prop := orderedM classI rest ∧ ∀ p b ms, lastBase out = some (p, b, ms) → orderedM classI (ms ++ rest)
theorem cond_snoc {out rest : List Int} {r : Int} (h : CondT out (r :: rest)) : CondT (out ++ [r]) rest := by
  refine ⟨ordered_tl h.1, fun p b ms hb => ?_⟩
  obtain ⟨ho, hb0, hms⟩ := lastBase_some hb
  rcases List.eq_nil_or_concat ms with h0 | ⟨ms', z, h0⟩
  · subst h0; exact ordered_tl h.1
  · rw [List.concat_eq_append] at h0
    subst h0
    have e : out ++ [r] = (p ++ b :: ms') ++ [z] := by rw [ho]; simp
    obtain ⟨e1, e2⟩ := List.append_inj' e rfl
    simp at e2
    subst e2
    have := h.2 p b ms' (by rw [e1]; exact lastBase_at p hb0 (fun x hx => hms x (by simp [hx])))
    simpa using this
theorem full_tog : ∀ (rest out : List Int), (∀ x ∈ rest, splitI x = none) → CondT out rest → sortM classI (fullL (rest.foldl togStep out)) = sortM classI (fullL out ++ rest)
  | [], out, _, _ => by simp
  | r :: rest, out, hs, hc => by
    have hs' : ∀ x ∈ rest, splitI x = none := fun x hx => hs x (by simp [hx])
    have hr := hs r (by simp)
    have happ : CondT (out ++ [r]) rest → togStep out r = out ++ [r] → sortM classI (fullL ((r :: rest).foldl togStep out)) = sortM classI (fullL out ++ r :: rest) := fun hcc e => by
      rw [List.foldl_cons, e, full_tog rest (out ++ [r]) hs' hcc, fullL_append, fullL_cons, full1_none hr]
      simp [fullL]
    cases hb : lastBase out with
    | none => exact happ (cond_snoc hc) (by unfold togStep; rw [hb])
    | some q =>
      obtain ⟨p, b, ms⟩ := q
      obtain ⟨ho, hb0, hms⟩ := lastBase_some hb
      by_cases hcc : mayB ms r = true ∧ 0 < pairI b r
      · have e : togStep out r = p ++ pairI b r :: ms := by unfold togStep; rw [hb]; simp only; rw [if_pos hcc]
        have hord := hc.2 p b ms hb
        have hz : ∀ z, ms.getLast? = some z → classI z < classI r := fun z h => by
          have hm := hcc.1
          unfold mayB at hm
          rw [h] at hm
          exact of_decide_eq_true hm
        have hcond : CondT (p ++ pairI b r :: ms) rest := ⟨ordered_tl hc.1, fun p' b' ms' hb' => by
          rw [lastBase_at p (class_made hcc.2) hms] at hb'
          simp only [Option.some.injEq, Prod.mk.injEq] at hb'
          obtain ⟨rfl, rfl, rfl⟩ := hb'
          exact ordered_less _ r rest hord hz⟩
        rw [List.foldl_cons, e, full_tog rest _ hs' hcond]
        have hf : full1 (pairI b r) = full1 b ++ [r] := by rw [full1_some (pair_back hcc.2), full1_none hr]
        have hm : fullL ms = ms := fullL_id fun x hx => mark_whole (hms x hx)
        rw [ho]
        simp only [fullL_append, fullL_cons, hf, hm]
        have hw : ∀ y ∈ ms, wrongB classI r y = true := fun y hy => by
          cases hg : ms.getLast? with
          | none => rw [List.getLast?_eq_none_iff.1 hg] at hy; cases hy
          | some z =>
            have h1 := ordered_last ms (r :: rest) hord hms z hg y hy
            have h2 := hz z hg
            exact wrong_yes classI ⟨hms y hy, by omega⟩
        have := swaps_one ms hw (fullL p ++ full1 b) rest
        simpa using this
      · exact happ (cond_snoc hc) (by unfold togStep; rw [hb]; simp only; rw [if_neg hcc])
theorem apart_tog {a : List Int} (hs : ∀ x ∈ a, splitI x = none) (ho : orderedM classI a) : apartI (togI a) = a := by
  unfold apartI togI
  rw [full_tog a [] hs ⟨ho, fun p b ms h => by cases h⟩]
  simpa [fullL] using sortM_ordered classI a ho
theorem apart_tog_apart (l : List Int) : apartI (togI (apartI l)) = apartI l := apart_tog (fun x hx => apart_all hx) (apart_ordered l)
end Go.Proofs.Ytjakelphkehonaa
