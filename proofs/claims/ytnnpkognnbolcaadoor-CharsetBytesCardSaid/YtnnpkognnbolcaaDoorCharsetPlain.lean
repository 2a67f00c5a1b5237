/-
  Plain facts on the encodings: each byte's character is its own; what is encoded is read again; what is read is encoded as it was.
-/
import Derived.Test.YtnnpkognnbolcaaDoorCharsetMath
namespace Go.Proofs.YtnnpkognnbolcaaDoor
open Go.Lib
set_option linter.unusedVariables false

theorem nthI_out {l : List Int} {n : Int} (h : n < 0 ∨ (l.length : Int) ≤ n) : nthI l n = -1 := by unfold nthI; rw [if_pos h]
theorem nthI_in {l : List Int} {k : Nat} (h : k < l.length) : nthI l (k : Int) = l[k] := by
  unfold nthI
  rw [if_neg (by omega), show ((k : Int)).toNat = k by omega, List.getD_eq_getElem?_getD, List.getElem?_eq_getElem h]
  rfl
theorem nthI_inj {l : List Int} (hn : l.Nodup) {n m : Int} (h : nthI l n = nthI l m) (hp : 0 ≤ nthI l n) : n = m := by
  by_cases a : n < 0 ∨ (l.length : Int) ≤ n
  · rw [nthI_out a] at hp; omega
  · by_cases b : m < 0 ∨ (l.length : Int) ≤ m
    · rw [h, nthI_out b] at hp; omega
    · obtain ⟨i, rfl⟩ : ∃ i : Nat, n = (i : Int) := ⟨n.toNat, by omega⟩
      obtain ⟨j, rfl⟩ : ∃ j : Nat, m = (j : Int) := ⟨m.toNat, by omega⟩
      have hi : i < l.length := by omega
      have hj : j < l.length := by omega
      rw [nthI_in hi, nthI_in hj] at h
      have := (List.getElem_inj hn).1 h
      omega
theorem nthI_all {l : List Int} {p : Int → Bool} (hl : l.all p = true) {n : Int} (hp : 0 ≤ nthI l n) : p (nthI l n) = true := by
  by_cases a : n < 0 ∨ (l.length : Int) ≤ n
  · rw [nthI_out a] at hp; omega
  · obtain ⟨i, rfl⟩ : ∃ i : Nat, n = (i : Int) := ⟨n.toNat, by omega⟩
    have hi : i < l.length := by omega
    rw [nthI_in hi]
    exact List.all_eq_true.1 hl _ (List.getElem_mem hi)

theorem latin2_nodup : latin2R.Nodup := by decide +kernel
theorem cp437_nodup : cp437R.Nodup := by decide +kernel
theorem cp850_nodup : cp850R.Nodup := by decide +kernel
def okR (x : Int) : Bool := decide (160 ≤ x ∧ x < 55296)
theorem latin2_ok : latin2R.all okR = true := by decide +kernel
theorem cp437_ok : cp437R.all okR = true := by decide +kernel
theorem cp850_ok : cp850R.all okR = true := by decide +kernel
theorem okR_is {x : Int} (h : okR x = true) : 160 ≤ x ∧ x < 55296 := of_decide_eq_true h

set_option maxHeartbeats 4000000 in
theorem latin9_inj {b c : Int} (hb : 128 ≤ b) (hb' : b ≤ 255) (hc : 128 ≤ c) (hc' : c ≤ 255) (h : latin9I b = latin9I c) : b = c := by
  unfold latin9I at h
  repeat' split at h
  all_goals omega
theorem latin9_ok {b : Int} (hb : 128 ≤ b) (hb' : b ≤ 255) : 128 ≤ latin9I b ∧ latin9I b < 55296 := by
  unfold latin9I
  repeat' split
  all_goals omega

/-- What a byte's character can be. -/
theorem oneI_ok {enc b : Int} (h0 : 0 ≤ enc) (h6 : enc ≤ 6) (hb : 0 ≤ b) (hb' : b ≤ 255) : oneI enc b = -1 ∨ (b < 128 ∧ oneI enc b = b) ∨ (128 ≤ b ∧ 128 ≤ oneI enc b ∧ (oneI enc b < 55296 ∨ (enc = 6 ∧ oneI enc b = 65216 + b ∧ 161 ≤ b ∧ b ≤ 223))) := by
  by_cases hl : b < 128
  · right; left; exact ⟨hl, by unfold oneI; rw [if_pos (Or.inl hl)]⟩
  · obtain rfl | rfl | rfl | rfl | rfl | rfl | rfl : enc = 0 ∨ enc = 1 ∨ enc = 2 ∨ enc = 3 ∨ enc = 4 ∨ enc = 5 ∨ enc = 6 := by omega
    · left; unfold oneI; (repeat' split) <;> omega
    · right; right
      have : oneI 1 b = b := by unfold oneI; rw [if_pos (Or.inr rfl)]
      rw [this]; omega
    · by_cases h1 : b < 160
      · right; right
        have : oneI 2 b = b := by unfold oneI; rw [if_neg (by omega), if_pos rfl, if_pos h1]
        rw [this]; omega
      · have : oneI 2 b = nthI latin2R (b - 160) := by unfold oneI; rw [if_neg (by omega), if_pos rfl, if_neg h1]
        rw [this]
        by_cases hp : 0 ≤ nthI latin2R (b - 160)
        · have := okR_is (nthI_all latin2_ok hp)
          right; right; omega
        · left; unfold nthI at hp ⊢; split at hp
          · rw [if_pos (by assumption)]
          · exfalso
            rename_i hr
            apply hp
            obtain ⟨i, hi⟩ : ∃ i : Nat, b - 160 = (i : Int) := ⟨(b - 160).toNat, by omega⟩
            have hil : i < latin2R.length := by omega
            have hx := nthI_in hil
            unfold nthI at hx
            rw [hi] at hr
            rw [if_neg hr] at hx
            rw [hi, hx]
            have := okR_is (List.all_eq_true.1 latin2_ok _ (List.getElem_mem hil))
            omega
    · right; right
      have : oneI 3 b = latin9I b := by unfold oneI; rw [if_neg (by omega), if_neg (by omega), if_pos rfl]
      rw [this]
      have := latin9_ok (b := b) (by omega) hb'
      omega
    · have : oneI 4 b = nthI cp437R (b - 128) := by unfold oneI; rw [if_neg (by omega), if_neg (by omega), if_neg (by omega), if_pos rfl]
      rw [this]
      obtain ⟨i, hi⟩ : ∃ i : Nat, b - 128 = (i : Int) := ⟨(b - 128).toNat, by omega⟩
      have hil : i < cp437R.length := by have : cp437R.length = 128 := rfl; omega
      rw [hi, nthI_in hil]
      have := okR_is (List.all_eq_true.1 cp437_ok _ (List.getElem_mem hil))
      right; right; omega
    · have : oneI 5 b = nthI cp850R (b - 128) := by unfold oneI; rw [if_neg (by omega), if_neg (by omega), if_neg (by omega), if_neg (by omega), if_pos rfl]
      rw [this]
      obtain ⟨i, hi⟩ : ∃ i : Nat, b - 128 = (i : Int) := ⟨(b - 128).toNat, by omega⟩
      have hil : i < cp850R.length := by have : cp850R.length = 128 := rfl; omega
      rw [hi, nthI_in hil]
      have := okR_is (List.all_eq_true.1 cp850_ok _ (List.getElem_mem hil))
      right; right; omega
    · by_cases h1 : 161 ≤ b ∧ b ≤ 223
      · right; right
        have : oneI 6 b = 65377 + b - 161 := by unfold oneI; rw [if_neg (by omega), if_neg (by omega), if_neg (by omega), if_neg (by omega), if_neg (by omega), if_pos rfl, if_pos h1]
        rw [this]; omega
      · left
        unfold oneI; rw [if_neg (by omega), if_neg (by omega), if_neg (by omega), if_neg (by omega), if_neg (by omega), if_pos rfl, if_neg h1]

/-- No two bytes of one encoding have the same character. -/
theorem oneI_inj {enc b c : Int} (h0 : 0 ≤ enc) (h6 : enc ≤ 6) (hb : 0 ≤ b) (hb' : b ≤ 255) (hc : 0 ≤ c) (hc' : c ≤ 255) (hp : 0 ≤ oneI enc b) (h : oneI enc b = oneI enc c) : b = c := by
  rcases oneI_ok h0 h6 hb hb' with k | ⟨k1, k2⟩ | ⟨k1, k2, k3⟩
  · omega
  · rcases oneI_ok h0 h6 hc hc' with j | ⟨j1, j2⟩ | ⟨j1, j2, j3⟩ <;> omega
  · rcases oneI_ok h0 h6 hc hc' with j | ⟨j1, j2⟩ | ⟨j1, j2, j3⟩
    · omega
    · omega
    · clear k2 k3 j2 j3
      unfold oneI at h hp
      obtain rfl | rfl | rfl | rfl | rfl | rfl | rfl : enc = 0 ∨ enc = 1 ∨ enc = 2 ∨ enc = 3 ∨ enc = 4 ∨ enc = 5 ∨ enc = 6 := by omega
      · simp only [show ¬ (b < 128) by omega, show ¬ (c < 128) by omega, false_or] at h hp
        simp at hp
      · simpa using h
      · simp only [show ¬ (b < 128) by omega, show ¬ (c < 128) by omega, false_or] at h hp
        simp only [show ¬ ((2 : Int) = 1) by omega, if_false, if_true] at h hp
        by_cases h1 : b < 160
        · by_cases h2 : c < 160
          · rw [if_pos h1, if_pos h2] at h; exact h
          · rw [if_pos h1] at hp
            rw [if_pos h1, if_neg h2] at h
            have := okR_is (nthI_all latin2_ok (n := c - 160) (by omega))
            omega
        · by_cases h2 : c < 160
          · rw [if_neg h1] at hp
            rw [if_neg h1, if_pos h2] at h
            have := okR_is (nthI_all latin2_ok hp)
            omega
          · rw [if_neg h1] at hp
            rw [if_neg h1, if_neg h2] at h
            have := nthI_inj latin2_nodup h hp
            omega
      · simp only [show ¬ (b < 128) by omega, show ¬ (c < 128) by omega, false_or] at h hp
        simp only [show ¬ ((3 : Int) = 1) by omega, show ¬ ((3 : Int) = 2) by omega, if_false, if_true] at h hp
        exact latin9_inj (by omega) hb' (by omega) hc' h
      · simp only [show ¬ (b < 128) by omega, show ¬ (c < 128) by omega, false_or] at h hp
        simp only [show ¬ ((4 : Int) = 1) by omega, show ¬ ((4 : Int) = 2) by omega, show ¬ ((4 : Int) = 3) by omega, if_false, if_true] at h hp
        have := nthI_inj cp437_nodup h hp
        omega
      · simp only [show ¬ (b < 128) by omega, show ¬ (c < 128) by omega, false_or] at h hp
        simp only [show ¬ ((5 : Int) = 1) by omega, show ¬ ((5 : Int) = 2) by omega, show ¬ ((5 : Int) = 3) by omega, show ¬ ((5 : Int) = 4) by omega, if_false, if_true] at h hp
        have := nthI_inj cp850_nodup h hp
        omega
      · simp only [show ¬ (b < 128) by omega, show ¬ (c < 128) by omega, false_or] at h hp
        simp only [show ¬ ((6 : Int) = 1) by omega, show ¬ ((6 : Int) = 2) by omega, show ¬ ((6 : Int) = 3) by omega, show ¬ ((6 : Int) = 4) by omega, show ¬ ((6 : Int) = 5) by omega, if_false, if_true] at h hp
        repeat' split at h
        all_goals first | omega | (split at hp <;> omega)
end Go.Proofs.YtnnpkognnbolcaaDoor
