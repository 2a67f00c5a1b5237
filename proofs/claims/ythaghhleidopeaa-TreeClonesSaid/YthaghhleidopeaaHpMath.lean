/-
  A heap in a list of numbers: what goes up, and what goes down, keeps it; the least number that is not taken.
-/
import Derived.Lib.Hide
namespace Go.Proofs.Ythaghhleidopeaa
set_option linter.unusedVariables false

def swI (xs : List Int) (i j : Nat) : List Int := (xs.set i (xs.getD j 0)).set j (xs.getD i 0)
theorem swI_length (xs : List Int) (i j : Nat) : (swI xs i j).length = xs.length := by simp [swI]
theorem swI_getD {xs : List Int} {i j : Nat} (hi : i < xs.length) (hj : j < xs.length) (k : Nat) : (swI xs i j).getD k 0 = if k = j then xs.getD i 0 else if k = i then xs.getD j 0 else xs.getD k 0 := by
  unfold swI
  simp only [List.getD_eq_getElem?_getD, List.getElem?_set]
  by_cases h1 : j = k
  · subst h1; simp [hj]
  · by_cases h2 : i = k
    · subst h2; simp [hi, h1, Ne.symm h1]
    · simp [h1, h2, Ne.symm h1, Ne.symm h2]
theorem swI_perm {xs : List Int} {i j : Nat} (hi : i < xs.length) (hj : j < xs.length) : (swI xs i j).Perm xs := by
  have := List.set_set_perm hi hj
  simpa [swI, List.getD_eq_getElem?_getD, List.getElem?_eq_getElem hi, List.getElem?_eq_getElem hj] using this

def HeapN (n : Nat) (xs : List Int) : Prop := ∀ k, 0 < k → k < n → xs.getD ((k - 1) / 2) 0 ≤ xs.getD k 0
def UpI (xs : List Int) (j : Nat) : Prop :=
  (∀ k, 0 < k → k < xs.length → k ≠ j → xs.getD ((k - 1) / 2) 0 ≤ xs.getD k 0) ∧ (∀ k, 0 < k → k < xs.length → (k - 1) / 2 = j → 0 < j → xs.getD ((j - 1) / 2) 0 ≤ xs.getD k 0)
def DownI (n : Nat) (xs : List Int) (i : Nat) : Prop :=
  (∀ k, 0 < k → k < n → (k - 1) / 2 ≠ i → xs.getD ((k - 1) / 2) 0 ≤ xs.getD k 0) ∧ (∀ k, 0 < k → k < n → (k - 1) / 2 = i → 0 < i → xs.getD ((i - 1) / 2) 0 ≤ xs.getD k 0)

theorem upI_done {xs : List Int} {j : Nat} (h : UpI xs j) (hj : j = 0 ∨ xs.getD ((j - 1) / 2) 0 ≤ xs.getD j 0) : HeapN xs.length xs := by
  intro k h0 hk
  by_cases e : k = j
  · subst e
    rcases hj with hj | hj
    · omega
    · exact hj
  · exact h.1 k h0 hk e
theorem upI_step {xs : List Int} {j : Nat} (h : UpI xs j) (hj0 : 0 < j) (hjl : j < xs.length) (hlt : xs.getD j 0 < xs.getD ((j - 1) / 2) 0) : UpI (swI xs ((j - 1) / 2) j) ((j - 1) / 2) := by
  obtain ⟨i, hi⟩ : ∃ i, (j - 1) / 2 = i := ⟨_, rfl⟩
  rw [hi] at hlt ⊢
  have hij : i < j := by omega
  have hil : i < xs.length := by omega
  constructor
  · intro k h0 hk hki
    rw [swI_length] at hk
    rw [swI_getD hil hjl, swI_getD hil hjl]
    by_cases e : k = j
    · subst e
      rw [if_pos rfl, hi, if_neg (by omega), if_pos rfl]; omega
    · rw [if_neg e, if_neg hki]
      have h1 := h.1 k h0 hk e
      by_cases p1 : (k - 1) / 2 = j
      · rw [if_pos p1]
        have := h.2 k h0 hk p1 hj0
        rw [hi] at this; exact this
      · rw [if_neg p1]
        by_cases p2 : (k - 1) / 2 = i
        · rw [if_pos p2]; rw [p2] at h1; omega
        · rw [if_neg p2]; exact h1
  · intro k h0 hk hp hi0
    rw [swI_length] at hk
    have h2 := h.1 i hi0 hil (by omega)
    rw [swI_getD hil hjl, swI_getD hil hjl, if_neg (by omega), if_neg (by omega)]
    by_cases e : k = j
    · rw [if_pos e]; exact h2
    · rw [if_neg e, if_neg (by omega)]
      have h1 := h.1 k h0 hk e
      rw [hp] at h1; omega

theorem downI_leaf {n : Nat} {xs : List Int} {i : Nat} (h : DownI n xs i) (hn : n ≤ 2 * i + 1) : HeapN n xs := fun k h0 hk => h.1 k h0 hk (by omega)
/-- j is the lesser child of i. -/
def Lesser (n : Nat) (xs : List Int) (i j : Nat) : Prop := (j = 2 * i + 1 ∨ j = 2 * i + 2) ∧ j < n ∧ ∀ k, 0 < k → k < n → (k - 1) / 2 = i → xs.getD j 0 ≤ xs.getD k 0
theorem lesser_one {n : Nat} {xs : List Int} {i : Nat} (h1 : 2 * i + 1 < n) (h2 : ¬ (2 * i + 2 < n) ∨ ¬ (xs.getD (2 * i + 2) 0 < xs.getD (2 * i + 1) 0)) : Lesser n xs i (2 * i + 1) := by
  refine ⟨Or.inl rfl, h1, fun k h0 hk hp => ?_⟩
  have : k = 2 * i + 1 ∨ k = 2 * i + 2 := by omega
  rcases this with rfl | rfl
  · omega
  · rcases h2 with h2 | h2 <;> omega
theorem lesser_two {n : Nat} {xs : List Int} {i : Nat} (h1 : 2 * i + 2 < n) (h2 : xs.getD (2 * i + 2) 0 < xs.getD (2 * i + 1) 0) : Lesser n xs i (2 * i + 2) := by
  refine ⟨Or.inr rfl, h1, fun k h0 hk hp => ?_⟩
  have : k = 2 * i + 1 ∨ k = 2 * i + 2 := by omega
  rcases this with rfl | rfl <;> omega
theorem downI_done {n : Nat} {xs : List Int} {i j : Nat} (h : DownI n xs i) (hl : Lesser n xs i j) (hj : ¬ xs.getD j 0 < xs.getD i 0) : HeapN n xs := by
  intro k h0 hk
  by_cases e : (k - 1) / 2 = i
  · have := hl.2.2 k h0 hk e
    rw [e]; omega
  · exact h.1 k h0 hk e
theorem downI_step {n : Nat} {xs : List Int} {i j : Nat} (h : DownI n xs i) (hn : n ≤ xs.length) (hl : Lesser n xs i j) (hlt : xs.getD j 0 < xs.getD i 0) : DownI n (swI xs i j) j := by
  obtain ⟨hc, hjn, hle⟩ := hl
  have hil : i < xs.length := by omega
  have hjl : j < xs.length := by omega
  have hp : (j - 1) / 2 = i := by omega
  constructor
  · intro k h0 hk hkp
    rw [swI_getD hil hjl, swI_getD hil hjl, if_neg hkp]
    by_cases p : (k - 1) / 2 = i
    · rw [if_pos p]
      by_cases e : k = j
      · rw [if_pos e]; omega
      · rw [if_neg e, if_neg (by omega)]
        exact hle k h0 hk p
    · rw [if_neg p]
      by_cases e : k = j
      · subst e; exact absurd hp p
      · rw [if_neg e]
        by_cases e2 : k = i
        · rw [if_pos e2]
          have := h.2 j (by omega) hjn hp (by omega)
          subst e2; exact this
        · rw [if_neg e2]; exact h.1 k h0 hk p
  · intro k h0 hk hkp hj0
    have h1 := h.1 k h0 hk (by omega)
    rw [swI_getD hil hjl, swI_getD hil hjl, hp, if_neg (by omega), if_pos rfl, if_neg (by omega), if_neg (by omega)]
    rw [hkp] at h1; exact h1
theorem heap_least {n : Nat} {xs : List Int} (h : HeapN n xs) : ∀ k, k < n → xs.getD 0 0 ≤ xs.getD k 0 := by
  intro k
  induction k using Nat.strongRecOn with
  | ind k ih =>
    intro hk
    by_cases e : k = 0
    · subst e; exact Int.le_refl _
    · have h1 := ih ((k - 1) / 2) (by omega) (by omega)
      have h2 := h k (by omega) hk
      omega
theorem heap_mem {xs : List Int} (h : HeapN xs.length xs) {x : Int} (hx : x ∈ xs) : xs.getD 0 0 ≤ x := by
  obtain ⟨k, hk, rfl⟩ := List.getElem_of_mem hx
  have := heap_least h k hk
  simpa [List.getD_eq_getElem?_getD, List.getElem?_eq_getElem hk] using this
theorem getD_app_left {xs ys : List Int} {k : Nat} (h : k < xs.length) : (xs ++ ys).getD k 0 = xs.getD k 0 := by
  simp [List.getD_eq_getElem?_getD, List.getElem?_append_left h]
theorem getD_app_last {xs : List Int} {x : Int} : (xs ++ [x]).getD xs.length 0 = x := by
  simp [List.getD_eq_getElem?_getD]
theorem getD_tk {xs : List Int} {n k : Nat} (h : k < n) : (xs.take n).getD k 0 = xs.getD k 0 := by
  simp [List.getD_eq_getElem?_getD, h]
/-- A heap with one more behind it goes up from there. -/
theorem upI_start {xs : List Int} (h : HeapN xs.length xs) (x : Int) : UpI (xs ++ [x]) xs.length := by
  constructor
  · intro k h0 hk hne
    rw [List.length_append, List.length_singleton] at hk
    rw [getD_app_left (by omega), getD_app_left (by omega)]
    exact h k h0 (by omega)
  · intro k h0 hk hp hj
    rw [List.length_append, List.length_singleton] at hk
    omega
/-- A heap whose first and last are changed about goes down from its head. -/
theorem downI_start {xs : List Int} {n : Nat} (hl : xs.length = n + 1) (h : HeapN xs.length xs) : DownI n (swI xs 0 n) 0 := by
  constructor
  · intro k h0 hk hp
    rw [swI_getD (by omega) (by omega), swI_getD (by omega) (by omega), if_neg (by omega), if_neg hp, if_neg (by omega), if_neg (by omega)]
    exact h k h0 (by omega)
  · intro k h0 hk hp hi
    exact absurd hi (by omega)
theorem heap_take {n : Nat} {xs : List Int} (h : HeapN n xs) : HeapN n (xs.take n) := fun k h0 hk => by
  rw [getD_tk (by omega), getD_tk hk]; exact h k h0 hk
theorem heap_nil : HeapN ([] : List Int).length [] := fun k h0 hk => absurd hk (by simp)
theorem take_last {xs : List Int} {n : Nat} (hl : xs.length = n + 1) : xs = xs.take n ++ [xs.getD n 0] := by
  have h := (List.take_append_drop n xs).symm
  have hd : xs.drop n = [xs.getD n 0] := by
    rw [List.drop_eq_getElem_cons (by omega), List.drop_eq_nil_of_le (by omega)]
    simp [List.getD_eq_getElem?_getD, List.getElem?_eq_getElem (show n < xs.length by omega)]
  rw [hd] at h; exact h

/-- f is the least number from 1 on that xs does not hold. -/
def FreeOf (xs : List Int) (f : Int) : Prop := 1 ≤ f ∧ f ∉ xs ∧ ∀ m, 1 ≤ m → m < f → m ∈ xs
theorem freeOf_one {xs : List Int} {f g : Int} (h : FreeOf xs f) (k : FreeOf xs g) : f = g := by
  rcases Int.lt_trichotomy f g with hl | hl | hl
  · exact absurd (k.2.2 f h.1 hl) h.2.1
  · exact hl
  · exact absurd (h.2.2 g k.1 hl) k.2.1
/-- As many numbers as are held are as many at the least. -/
theorem holds_many : ∀ (n : Nat) (xs : List Int), (∀ m : Int, 1 ≤ m → m ≤ n → m ∈ xs) → n ≤ xs.length
  | 0, xs, _ => Nat.zero_le _
  | n + 1, xs, h => by
    have hm : ((n : Int) + 1) ∈ xs := h _ (by omega) (by omega)
    have := holds_many n (xs.erase ((n : Int) + 1)) (fun m h1 h2 => by
      rw [List.mem_erase_of_ne (by omega)]
      exact h m h1 (by omega))
    rw [List.length_erase_of_mem hm] at this
    have : 0 < xs.length := List.length_pos_of_mem hm
    omega
theorem free_past {xs : List Int} (h : ∀ m : Int, 1 ≤ m → m ≤ xs.length → m ∈ xs) : FreeOf xs (xs.length + 1) := by
  refine ⟨by omega, fun hm => ?_, fun m h1 h2 => h m h1 (by omega)⟩
  have := holds_many (xs.length + 1) xs (fun m h1 h2 => by
    by_cases e : m = xs.length + 1
    · rw [e]; exact hm
    · exact h m h1 (by omega))
  omega
theorem free_here {xs : List Int} {n : Int} (h1 : 1 ≤ n) (hn : n ∉ xs) (h : ∀ m : Int, 1 ≤ m → m < n → m ∈ xs) : FreeOf xs n := ⟨h1, hn, h⟩
/-- What stands of the second loop: those that wait are taken, and what is taken waits, or is below the free one. -/
def Waits (ts xs : List Int) (f : Int) : Prop := 1 ≤ f ∧ (∀ m, 1 ≤ m → m < f → m ∈ ts) ∧ (∀ x ∈ ts, x ∈ xs ∨ x < f) ∧ (∀ x ∈ xs, x ∈ ts)
theorem waits_start {ts xs : List Int} (h : xs.Perm ts) : Waits ts xs 1 := ⟨by omega, fun m h1 h2 => by omega, fun x hx => Or.inl (h.mem_iff.2 hx), fun x hx => h.mem_iff.1 hx⟩
theorem waits_done {ts xs : List Int} {f : Int} (hw : Waits ts xs f) (hh : HeapN xs.length xs) (hd : xs = [] ∨ f < xs.getD 0 0) : FreeOf ts f := by
  refine ⟨hw.1, fun hf => ?_, hw.2.1⟩
  rcases hw.2.2.1 f hf with h | h
  · rcases hd with rfl | hd
    · cases h
    · have := heap_mem hh h; omega
  · omega
theorem waits_step {ts xs ys : List Int} {f x : Int} (hw : Waits ts xs f) (hp : xs.Perm (x :: ys)) (hx : x ≤ f) : Waits ts ys (if x = f then f + 1 else f) := by
  have hxt : x ∈ ts := hw.2.2.2 x (hp.mem_iff.2 (by simp))
  have hy : ∀ y ∈ ys, y ∈ ts := fun y hy => hw.2.2.2 y (hp.mem_iff.2 (by simp [hy]))
  have ht : ∀ z ∈ ts, z ∈ ys ∨ z = x ∨ z < f := fun z hz => by
    rcases hw.2.2.1 z hz with h | h
    · rcases List.mem_cons.1 (hp.mem_iff.1 h) with h | h
      · exact Or.inr (Or.inl h)
      · exact Or.inl h
    · exact Or.inr (Or.inr h)
  by_cases e : x = f
  · rw [if_pos e]
    refine ⟨by have := hw.1; omega, fun m h1 h2 => ?_, fun z hz => ?_, hy⟩
    · by_cases e2 : m = f
      · rw [e2, ← e]; exact hxt
      · exact hw.2.1 m h1 (by omega)
    · rcases ht z hz with h | h | h
      · exact Or.inl h
      · right; omega
      · right; omega
  · rw [if_neg e]
    refine ⟨hw.1, hw.2.1, fun z hz => ?_, hy⟩
    rcases ht z hz with h | h | h
    · exact Or.inl h
    · right; omega
    · exact Or.inr h
end Go.Proofs.Ythaghhleidopeaa
