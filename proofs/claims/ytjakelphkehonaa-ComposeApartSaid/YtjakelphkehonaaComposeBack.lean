/-
  Plain facts: what two make is split into them; what one is split into makes it.
-/
import Derived.Test.YtjakelphkehonaaComposeMath
namespace Go.Proofs.Ytjakelphkehonaa
open Go.Lib
set_option linter.unusedVariables false

def backCheck : Bool := (List.range 13).all fun n => ((lettersN n).zip (madeN n)).all fun p => decide (splitT p.2 = some (p.1, markN n) ∧ pairT p.1 (markN n) = some p.2 ∧ 192 ≤ p.2 ∧ p.2 ≤ 400 ∧ 65 ≤ p.1 ∧ p.1 ≤ 122)
set_option maxRecDepth 100000 in
theorem back_ok : backCheck = true := by decide +kernel
theorem back_at {n : Nat} (h : n < 13) {p : Int × Int} (hp : p ∈ (lettersN n).zip (madeN n)) : splitT p.2 = some (p.1, markN n) ∧ pairT p.1 (markN n) = some p.2 ∧ 192 ≤ p.2 ∧ p.2 ≤ 400 ∧ 65 ≤ p.1 ∧ p.1 ≤ 122 :=
  of_decide_eq_true (List.all_eq_true.1 (List.all_eq_true.1 back_ok n (List.mem_range.2 h)) p hp)

theorem firstSome_spec {α : Type} {f : Nat → Option α} {x : α} : ∀ (k n : Nat), firstSome f k n = some x → ∃ j, n ≤ j ∧ j < n + k ∧ f j = some x
  | 0, n, h => by cases h
  | k + 1, n, h => by
    simp only [firstSome] at h
    cases hf : f n with
    | some y =>
      rw [hf] at h
      exact ⟨n, by omega, by omega, by rw [hf]; exact h⟩
    | none =>
      rw [hf] at h
      obtain ⟨j, h1, h2, h3⟩ := firstSome_spec k (n + 1) h
      exact ⟨j, by omega, by omega, h3⟩

theorem pairT_spec {a b x : Int} (h : pairT a b = some x) : ∃ n, n < 13 ∧ markN n = b ∧ (a, x) ∈ (lettersN n).zip (madeN n) := by
  obtain ⟨n, _, hn, hf⟩ := firstSome_spec 13 0 h
  unfold pairF at hf
  by_cases hb : markN n = b
  · rw [if_pos hb] at hf
    unfold rowPair at hf
    obtain ⟨p, hp, rfl⟩ := Option.map_eq_some_iff.1 hf
    have h1 := List.find?_some hp
    have h2 := List.mem_of_find?_eq_some hp
    have : p.1 = a := of_decide_eq_true h1
    exact ⟨n, by omega, hb, by rw [← this]; exact h2⟩
  · rw [if_neg hb] at hf; cases hf
theorem splitT_spec {r : Int} {x : Int × Int} (h : splitT r = some x) : ∃ n, n < 13 ∧ markN n = x.2 ∧ (x.1, r) ∈ (lettersN n).zip (madeN n) := by
  obtain ⟨n, _, hn, hf⟩ := firstSome_spec 13 0 h
  unfold splitF at hf
  obtain ⟨a, ha, rfl⟩ := Option.map_eq_some_iff.1 hf
  unfold rowSplit at ha
  obtain ⟨p, hp, rfl⟩ := Option.map_eq_some_iff.1 ha
  have h1 := List.find?_some hp
  have h2 := List.mem_of_find?_eq_some hp
  have : p.2 = r := of_decide_eq_true h1
  exact ⟨n, by omega, rfl, by rw [← this]; exact h2⟩
theorem splitT_big {r : Int} (h : 400 < r) : splitT r = none := by
  cases hs : splitT r with
  | none => rfl
  | some x =>
    obtain ⟨n, hn, hm, hz⟩ := splitT_spec hs
    have := back_at hn hz
    simp only at this
    omega
theorem pairT_far {a b : Int} (h : 808 < b) : pairT a b = none := by
  cases hs : pairT a b with
  | none => rfl
  | some x =>
    obtain ⟨n, hn, hm, hz⟩ := pairT_spec hs
    have := table_at hn
    omega

/-- What two make is split into them. -/
theorem pair_back {a b : Int} (h : 0 < pairI a b) : splitI (pairI a b) = some (a, b) := by
  cases hs : pairT a b with
  | some x =>
    have hx : pairI a b = x := by unfold pairI; rw [hs]
    rw [hx]
    obtain ⟨n, hn, hm, hz⟩ := pairT_spec hs
    have hb := (back_at hn hz).1
    simp only at hb
    unfold splitI
    rw [hb, hm]
  | none =>
    have hx : pairI a b = (if 4352 ≤ a ∧ a ≤ 4370 ∧ 4449 ≤ b ∧ b ≤ 4469 then 44032 + (a - 4352) * 588 + (b - 4449) * 28 else if 44032 ≤ a ∧ a ≤ 55203 ∧ (a - 44032) % 28 = 0 ∧ 4520 ≤ b ∧ b ≤ 4546 then a + (b - 4519) else 0) := by unfold pairI; rw [hs]
    rw [hx] at h ⊢
    by_cases h1 : 4352 ≤ a ∧ a ≤ 4370 ∧ 4449 ≤ b ∧ b ≤ 4469
    · rw [if_pos h1] at h ⊢
      unfold splitI
      rw [splitT_big (by omega)]
      simp only
      rw [if_neg (by omega), if_neg (by omega)]
      congr 1
      exact Prod.ext (by simp only; omega) (by simp only; omega)
    · rw [if_neg h1] at h ⊢
      by_cases h2 : 44032 ≤ a ∧ a ≤ 55203 ∧ (a - 44032) % 28 = 0 ∧ 4520 ≤ b ∧ b ≤ 4546
      · rw [if_pos h2] at h ⊢
        unfold splitI
        rw [splitT_big (by omega)]
        simp only
        rw [if_neg (by omega), if_pos (by omega)]
        congr 1
        exact Prod.ext (by simp only; omega) (by simp only; omega)
      · rw [if_neg h2] at h
        omega

/-- What one is split into makes it. -/
theorem split_back {r : Int} {p : Int × Int} (h : splitI r = some p) : pairI p.1 p.2 = r := by
  cases hs : splitT r with
  | some x =>
    have hx : splitI r = some x := by unfold splitI; rw [hs]
    rw [hx] at h
    cases h
    obtain ⟨n, hn, hm, hz⟩ := splitT_spec hs
    have hb := (back_at hn hz).2.1
    simp only at hb
    unfold pairI
    rw [← hm, hb]
  | none =>
    have hx : splitI r = (if r < 44032 ∨ 55203 < r then none else if 0 < (r - 44032) % 28 then some (r - (r - 44032) % 28, 4519 + (r - 44032) % 28) else some (4352 + (r - 44032) / 588, 4449 + (r - 44032) % 588 / 28)) := by unfold splitI; rw [hs]
    rw [hx] at h
    by_cases h1 : r < 44032 ∨ 55203 < r
    · rw [if_pos h1] at h; cases h
    · rw [if_neg h1] at h
      by_cases h2 : 0 < (r - 44032) % 28
      · rw [if_pos h2] at h
        cases h
        unfold pairI
        rw [pairT_far (by simp only; omega)]
        simp only
        rw [if_neg (by omega), if_pos (by omega)]
        omega
      · rw [if_neg h2] at h
        cases h
        unfold pairI
        rw [pairT_far (by simp only; omega)]
        simp only
        rw [if_pos (by omega)]
        omega
end Go.Proofs.Ytjakelphkehonaa
