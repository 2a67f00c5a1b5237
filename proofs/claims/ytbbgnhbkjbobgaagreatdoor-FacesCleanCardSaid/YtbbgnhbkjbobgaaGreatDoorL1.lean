/-
  A heap in a list of numbers: what goes up, and what goes down, keeps it; the least number that is not taken.
  The heap's own methods: how many there are, which is less, two changed about.
  What a method of the heap's is found at: the pointer's own, and those of what it points to.
  The library's heap: what goes up.
  The library's heap: what goes down.
-/
import Derived.Lib.Hide
import Derived.Test.YtbbgnhbkjbobgaaGreatDoorProg
import Derived.WalkKit
import Derived.WalkSpells
import Derived.IntWalk
import Derived.Below
import Derived.Sort.WalkC
import Derived.ProofKit
import Derived.Lib.Builder
import Derived.LoopTactic
import Derived.Deep.LoopGhost
import Derived.Deep.QuietTactic
import Derived.BigQuiet
import Derived.BigRegion
namespace Go.Proofs.YtbbgnhbkjbobgaaGreatDoor
set_option linter.unusedVariables false

def swI (xs : List Int) (i j : Nat) : List Int := (xs.set i (xs.getD j 0)).set j (xs.getD i 0)
theorem swI_length (xs : List Int) (i j : Nat) : (swI xs i j).length = xs.length := by simp [swI]
theorem swI_getD {xs : List Int} {i j : Nat} (hi : i < xs.length) (hj : j < xs.length) (k : Nat) : (swI xs i j).getD k 0 = if k = j then xs.getD i 0 else if k = i then xs.getD j 0 else xs.getD k 0 := by
  unfold swI
  simp only [List.getD_eq_getElem?_getD, List.getElem?_set]
  by_cases h1 : j = k
  · subst h1; simp [hj]
  · by_cases h2 : i = k
    · subst h2; simp [hi, h1, Ne.symm h1]
    · simp [h1, h2, Ne.symm h1, Ne.symm h2]
theorem swI_perm {xs : List Int} {i j : Nat} (hi : i < xs.length) (hj : j < xs.length) : (swI xs i j).Perm xs := by
  have := List.set_set_perm hi hj
  simpa [swI, List.getD_eq_getElem?_getD, List.getElem?_eq_getElem hi, List.getElem?_eq_getElem hj] using this

def HeapN (n : Nat) (xs : List Int) : Prop := ∀ k, 0 < k → k < n → xs.getD ((k - 1) / 2) 0 ≤ xs.getD k 0
def UpI (xs : List Int) (j : Nat) : Prop :=
  (∀ k, 0 < k → k < xs.length → k ≠ j → xs.getD ((k - 1) / 2) 0 ≤ xs.getD k 0) ∧ (∀ k, 0 < k → k < xs.length → (k - 1) / 2 = j → 0 < j → xs.getD ((j - 1) / 2) 0 ≤ xs.getD k 0)
def DownI (n : Nat) (xs : List Int) (i : Nat) : Prop :=
  (∀ k, 0 < k → k < n → (k - 1) / 2 ≠ i → xs.getD ((k - 1) / 2) 0 ≤ xs.getD k 0) ∧ (∀ k, 0 < k → k < n → (k - 1) / 2 = i → 0 < i → xs.getD ((i - 1) / 2) 0 ≤ xs.getD k 0)

theorem upI_done {xs : List Int} {j : Nat} (h : UpI xs j) (hj : j = 0 ∨ xs.getD ((j - 1) / 2) 0 ≤ xs.getD j 0) : HeapN xs.length xs := by
  intro k h0 hk
  by_cases e : k = j
  · subst e
    rcases hj with hj | hj
    · omega
    · exact hj
  · exact h.1 k h0 hk e
theorem upI_step {xs : List Int} {j : Nat} (h : UpI xs j) (hj0 : 0 < j) (hjl : j < xs.length) (hlt : xs.getD j 0 < xs.getD ((j - 1) / 2) 0) : UpI (swI xs ((j - 1) / 2) j) ((j - 1) / 2) := by
  obtain ⟨i, hi⟩ : ∃ i, (j - 1) / 2 = i := ⟨_, rfl⟩
  rw [hi] at hlt ⊢
  have hij : i < j := by omega
  have hil : i < xs.length := by omega
  constructor
  · intro k h0 hk hki
    rw [swI_length] at hk
    rw [swI_getD hil hjl, swI_getD hil hjl]
    by_cases e : k = j
    · subst e
      rw [if_pos rfl, hi, if_neg (by omega), if_pos rfl]; omega
    · rw [if_neg e, if_neg hki]
      have h1 := h.1 k h0 hk e
      by_cases p1 : (k - 1) / 2 = j
      · rw [if_pos p1]
        have := h.2 k h0 hk p1 hj0
        rw [hi] at this; exact this
      · rw [if_neg p1]
        by_cases p2 : (k - 1) / 2 = i
        · rw [if_pos p2]; rw [p2] at h1; omega
        · rw [if_neg p2]; exact h1
  · intro k h0 hk hp hi0
    rw [swI_length] at hk
    have h2 := h.1 i hi0 hil (by omega)
    rw [swI_getD hil hjl, swI_getD hil hjl, if_neg (by omega), if_neg (by omega)]
    by_cases e : k = j
    · rw [if_pos e]; exact h2
    · rw [if_neg e, if_neg (by omega)]
      have h1 := h.1 k h0 hk e
      rw [hp] at h1; omega

theorem downI_leaf {n : Nat} {xs : List Int} {i : Nat} (h : DownI n xs i) (hn : n ≤ 2 * i + 1) : HeapN n xs := fun k h0 hk => h.1 k h0 hk (by omega)
/-- j is the lesser child of i. -/
def Lesser (n : Nat) (xs : List Int) (i j : Nat) : Prop := (j = 2 * i + 1 ∨ j = 2 * i + 2) ∧ j < n ∧ ∀ k, 0 < k → k < n → (k - 1) / 2 = i → xs.getD j 0 ≤ xs.getD k 0
theorem lesser_one {n : Nat} {xs : List Int} {i : Nat} (h1 : 2 * i + 1 < n) (h2 : ¬ (2 * i + 2 < n) ∨ ¬ (xs.getD (2 * i + 2) 0 < xs.getD (2 * i + 1) 0)) : Lesser n xs i (2 * i + 1) := by
  refine ⟨Or.inl rfl, h1, fun k h0 hk hp => ?_⟩
  have : k = 2 * i + 1 ∨ k = 2 * i + 2 := by omega
  rcases this with rfl | rfl
  · omega
  · rcases h2 with h2 | h2 <;> omega
theorem lesser_two {n : Nat} {xs : List Int} {i : Nat} (h1 : 2 * i + 2 < n) (h2 : xs.getD (2 * i + 2) 0 < xs.getD (2 * i + 1) 0) : Lesser n xs i (2 * i + 2) := by
  refine ⟨Or.inr rfl, h1, fun k h0 hk hp => ?_⟩
  have : k = 2 * i + 1 ∨ k = 2 * i + 2 := by omega
  rcases this with rfl | rfl <;> omega
theorem downI_done {n : Nat} {xs : List Int} {i j : Nat} (h : DownI n xs i) (hl : Lesser n xs i j) (hj : ¬ xs.getD j 0 < xs.getD i 0) : HeapN n xs := by
  intro k h0 hk
  by_cases e : (k - 1) / 2 = i
  · have := hl.2.2 k h0 hk e
    rw [e]; omega
  · exact h.1 k h0 hk e
theorem downI_step {n : Nat} {xs : List Int} {i j : Nat} (h : DownI n xs i) (hn : n ≤ xs.length) (hl : Lesser n xs i j) (hlt : xs.getD j 0 < xs.getD i 0) : DownI n (swI xs i j) j := by
  obtain ⟨hc, hjn, hle⟩ := hl
  have hil : i < xs.length := by omega
  have hjl : j < xs.length := by omega
  have hp : (j - 1) / 2 = i := by omega
  constructor
  · intro k h0 hk hkp
    rw [swI_getD hil hjl, swI_getD hil hjl, if_neg hkp]
    by_cases p : (k - 1) / 2 = i
    · rw [if_pos p]
      by_cases e : k = j
      · rw [if_pos e]; omega
      · rw [if_neg e, if_neg (by omega)]
        exact hle k h0 hk p
    · rw [if_neg p]
      by_cases e : k = j
      · subst e; exact absurd hp p
      · rw [if_neg e]
        by_cases e2 : k = i
        · rw [if_pos e2]
          have := h.2 j (by omega) hjn hp (by omega)
          subst e2; exact this
        · rw [if_neg e2]; exact h.1 k h0 hk p
  · intro k h0 hk hkp hj0
    have h1 := h.1 k h0 hk (by omega)
    rw [swI_getD hil hjl, swI_getD hil hjl, hp, if_neg (by omega), if_pos rfl, if_neg (by omega), if_neg (by omega)]
    rw [hkp] at h1; exact h1
theorem heap_least {n : Nat} {xs : List Int} (h : HeapN n xs) : ∀ k, k < n → xs.getD 0 0 ≤ xs.getD k 0 := by
  intro k
  induction k using Nat.strongRecOn with
  | ind k ih =>
    intro hk
    by_cases e : k = 0
    · subst e; exact Int.le_refl _
    · have h1 := ih ((k - 1) / 2) (by omega) (by omega)
      have h2 := h k (by omega) hk
      omega
theorem heap_mem {xs : List Int} (h : HeapN xs.length xs) {x : Int} (hx : x ∈ xs) : xs.getD 0 0 ≤ x := by
  obtain ⟨k, hk, rfl⟩ := List.getElem_of_mem hx
  have := heap_least h k hk
  simpa [List.getD_eq_getElem?_getD, List.getElem?_eq_getElem hk] using this
theorem getD_app_left {xs ys : List Int} {k : Nat} (h : k < xs.length) : (xs ++ ys).getD k 0 = xs.getD k 0 := by
  simp [List.getD_eq_getElem?_getD, List.getElem?_append_left h]
theorem getD_app_last {xs : List Int} {x : Int} : (xs ++ [x]).getD xs.length 0 = x := by
  simp [List.getD_eq_getElem?_getD]
theorem getD_tk {xs : List Int} {n k : Nat} (h : k < n) : (xs.take n).getD k 0 = xs.getD k 0 := by
  simp [List.getD_eq_getElem?_getD, h]
/-- A heap with one more behind it goes up from there. -/
theorem upI_start {xs : List Int} (h : HeapN xs.length xs) (x : Int) : UpI (xs ++ [x]) xs.length := by
  constructor
  · intro k h0 hk hne
    rw [List.length_append, List.length_singleton] at hk
    rw [getD_app_left (by omega), getD_app_left (by omega)]
    exact h k h0 (by omega)
  · intro k h0 hk hp hj
    rw [List.length_append, List.length_singleton] at hk
    omega
/-- A heap whose first and last are changed about goes down from its head. -/
theorem downI_start {xs : List Int} {n : Nat} (hl : xs.length = n + 1) (h : HeapN xs.length xs) : DownI n (swI xs 0 n) 0 := by
  constructor
  · intro k h0 hk hp
    rw [swI_getD (by omega) (by omega), swI_getD (by omega) (by omega), if_neg (by omega), if_neg hp, if_neg (by omega), if_neg (by omega)]
    exact h k h0 (by omega)
  · intro k h0 hk hp hi
    exact absurd hi (by omega)
theorem heap_take {n : Nat} {xs : List Int} (h : HeapN n xs) : HeapN n (xs.take n) := fun k h0 hk => by
  rw [getD_tk (by omega), getD_tk hk]; exact h k h0 hk
theorem heap_nil : HeapN ([] : List Int).length [] := fun k h0 hk => absurd hk (by simp)
theorem take_last {xs : List Int} {n : Nat} (hl : xs.length = n + 1) : xs = xs.take n ++ [xs.getD n 0] := by
  have h := (List.take_append_drop n xs).symm
  have hd : xs.drop n = [xs.getD n 0] := by
    rw [List.drop_eq_getElem_cons (by omega), List.drop_eq_nil_of_le (by omega)]
    simp [List.getD_eq_getElem?_getD, List.getElem?_eq_getElem (show n < xs.length by omega)]
  rw [hd] at h; exact h

/-- f is the least number from 1 on that xs does not hold. -/
def FreeOf (xs : List Int) (f : Int) : Prop := 1 ≤ f ∧ f ∉ xs ∧ ∀ m, 1 ≤ m → m < f → m ∈ xs
theorem freeOf_one {xs : List Int} {f g : Int} (h : FreeOf xs f) (k : FreeOf xs g) : f = g := by
  rcases Int.lt_trichotomy f g with hl | hl | hl
  · exact absurd (k.2.2 f h.1 hl) h.2.1
  · exact hl
  · exact absurd (h.2.2 g k.1 hl) k.2.1
/-- As many numbers as are held are as many at the least. -/
theorem holds_many : ∀ (n : Nat) (xs : List Int), (∀ m : Int, 1 ≤ m → m ≤ n → m ∈ xs) → n ≤ xs.length
  | 0, xs, _ => Nat.zero_le _
  | n + 1, xs, h => by
    have hm : ((n : Int) + 1) ∈ xs := h _ (by omega) (by omega)
    have := holds_many n (xs.erase ((n : Int) + 1)) (fun m h1 h2 => by
      rw [List.mem_erase_of_ne (by omega)]
      exact h m h1 (by omega))
    rw [List.length_erase_of_mem hm] at this
    have : 0 < xs.length := List.length_pos_of_mem hm
    omega
theorem free_past {xs : List Int} (h : ∀ m : Int, 1 ≤ m → m ≤ xs.length → m ∈ xs) : FreeOf xs (xs.length + 1) := by
  refine ⟨by omega, fun hm => ?_, fun m h1 h2 => h m h1 (by omega)⟩
  have := holds_many (xs.length + 1) xs (fun m h1 h2 => by
    by_cases e : m = xs.length + 1
    · rw [e]; exact hm
    · exact h m h1 (by omega))
  omega
theorem free_here {xs : List Int} {n : Int} (h1 : 1 ≤ n) (hn : n ∉ xs) (h : ∀ m : Int, 1 ≤ m → m < n → m ∈ xs) : FreeOf xs n := ⟨h1, hn, h⟩
/-- What stands of the second loop: those that wait are taken, and what is taken waits, or is below the free one. -/
def Waits (ts xs : List Int) (f : Int) : Prop := 1 ≤ f ∧ (∀ m, 1 ≤ m → m < f → m ∈ ts) ∧ (∀ x ∈ ts, x ∈ xs ∨ x < f) ∧ (∀ x ∈ xs, x ∈ ts)
theorem waits_start {ts xs : List Int} (h : xs.Perm ts) : Waits ts xs 1 := ⟨by omega, fun m h1 h2 => by omega, fun x hx => Or.inl (h.mem_iff.2 hx), fun x hx => h.mem_iff.1 hx⟩
theorem waits_done {ts xs : List Int} {f : Int} (hw : Waits ts xs f) (hh : HeapN xs.length xs) (hd : xs = [] ∨ f < xs.getD 0 0) : FreeOf ts f := by
  refine ⟨hw.1, fun hf => ?_, hw.2.1⟩
  rcases hw.2.2.1 f hf with h | h
  · rcases hd with rfl | hd
    · cases h
    · have := heap_mem hh h; omega
  · omega
theorem waits_step {ts xs ys : List Int} {f x : Int} (hw : Waits ts xs f) (hp : xs.Perm (x :: ys)) (hx : x ≤ f) : Waits ts ys (if x = f then f + 1 else f) := by
  have hxt : x ∈ ts := hw.2.2.2 x (hp.mem_iff.2 (by simp))
  have hy : ∀ y ∈ ys, y ∈ ts := fun y hy => hw.2.2.2 y (hp.mem_iff.2 (by simp [hy]))
  have ht : ∀ z ∈ ts, z ∈ ys ∨ z = x ∨ z < f := fun z hz => by
    rcases hw.2.2.1 z hz with h | h
    · rcases List.mem_cons.1 (hp.mem_iff.1 h) with h | h
      · exact Or.inr (Or.inl h)
      · exact Or.inl h
    · exact Or.inr (Or.inr h)
  by_cases e : x = f
  · rw [if_pos e]
    refine ⟨by have := hw.1; omega, fun m h1 h2 => ?_, fun z hz => ?_, hy⟩
    · by_cases e2 : m = f
      · rw [e2, ← e]; exact hxt
      · exact hw.2.1 m h1 (by omega)
    · rcases ht z hz with h | h | h
      · exact Or.inl h
      · right; omega
      · right; omega
  · rw [if_neg e]
    refine ⟨hw.1, hw.2.1, fun z hz => ?_, hy⟩
    rcases ht z hz with h | h | h
    · exact Or.inl h
    · right; omega
    · exact Or.inr h
end Go.Proofs.YtbbgnhbkjbobgaaGreatDoor

namespace Go.Proofs.YtbbgnhbkjbobgaaGreatDoor
open Go.RowKit Go.Sort
set_option linter.unusedVariables false

/-- A slice of numbers of one's own. -/
def OwnN (B : Nat) (w : World) (v : Value) (xs : List Int) : Prop := w.ownsRow B 3 1 v xs.length (xs.map (Value.int .i64))
theorem OwnN.set {B g n cap i : Nat} {w : World} {xs : List Int} (x : Int) (h : OwnN B w (.slice (some ⟨g, 0, none⟩) n cap) xs) : OwnN B (w.setCell ⟨g, i, none⟩ (.int .i64 x)) (.slice (some ⟨g, 0, none⟩) n cap) (xs.set i x) := by
  refine ⟨by simp, ?_⟩
  rcases h.2 with ⟨hv, _⟩ | ⟨g', cap', cur, hv, hg, hb, hn, hm, hs, ht⟩
  · cases hv
  · cases hv
    refine Or.inr ⟨g, cap, cur.setIfInBounds i (.int .i64 x), by simp, hg, ?_, by simpa using hn, hm, by simpa using hs, ?_⟩
    · rw [setCell_eq]
      simp [mapBlock, Array.getElem?_modify, hb, onCells]
    · rw [Array.toList_setIfInBounds, List.length_set, List.map_set, List.take_set, ht]
theorem OwnN.cell {B g n cap j : Nat} {w : World} {xs : List Int} (h : OwnN B w (.slice (some ⟨g, 0, none⟩) n cap) xs) (hj : j < xs.length) : w.cell? ⟨g, j, none⟩ = some (.int .i64 (xs.getD j 0)) ∧ w.frozen? ⟨g, j, none⟩ = false := by
  rcases h.2 with ⟨hv, _⟩ | ⟨g', cap', cur, hv, hg, hb, hn, hm, hs, ht⟩
  · cases hv
  · cases hv
    refine ⟨?_, Lib.frozen_of_heap hb j⟩
    rw [Lib.cell_of_heap hb, ← Array.getElem?_toList]
    have := congrArg (·[j]?) ht
    simp only [Nat.mul_one, List.getElem?_take, if_pos hj] at this
    rw [this]
    simp [List.getElem?_eq_getElem hj, List.getD_eq_getElem?_getD]
theorem OwnN.below {B : Nat} {w w' : World} {v : Value} {xs : List Int} (h : OwnN B w v xs) (hb : Below w.heap.size w w') : OwnN B w' v xs :=
  h.kept (row := none) ⟨hb.os, hb.tape, hb.output, hb.size, fun k hk _ => hb.block k hk⟩ (by cases h : v.ownBlock with | none => exact Or.inl rfl | some x => exact Or.inr (by simp))
theorem OwnN.drewN {B : Nat} {w : World} {v : Value} {xs : List Int} (h : OwnN B w v xs) (q : Nat) : OwnN B (w.drewN q) v xs := by
  induction q with
  | zero => exact h
  | succ q ih => exact ih.below (Below.refl _ _).drew
/-- The own form: at the head of a block from B on. -/
theorem OwnN.head {B : Nat} {w : World} {v : Value} {xs : List Int} (h : OwnN B w v xs) (hne : xs ≠ []) : ∃ g cap, v = .slice (some ⟨g, 0, none⟩) xs.length cap ∧ B ≤ g ∧ g < w.heap.size ∧ xs.length ≤ cap := by
  rcases h.2 with ⟨hv, h0⟩ | ⟨g, cap, cur, hv, hg, hb, hn, hm, hs, ht⟩
  · exact absurd (List.eq_nil_of_length_eq_zero h0) hne
  · exact ⟨g, cap, hv, hg, (h.lt g (by rw [hv]; rfl)).2, hn⟩
theorem OwnN.len {B : Nat} {w : World} {v : Value} {xs : List Int} (h : OwnN B w v xs) : ∃ a cap, v = .slice a xs.length cap := by
  rcases h.2 with ⟨hv, h0⟩ | ⟨g, cap, cur, hv, _⟩
  · exact ⟨none, 0, by rw [hv, h0]⟩
  · exact ⟨_, cap, hv⟩

theorem len_c (a : Option Addr) (n cap : Nat) (w : World) : Calls Tryz.prog 214 #[.slice a n cap] w fun e w' => e = .returned (.int .i64 n) ∧ w = w' := by
  go_enter Tryz.func214, Tryz.ntmps214
  go_wp2
  go_ret
  exact ⟨rfl, rfl⟩
set_option maxHeartbeats 1000000 in
theorem less_c (B g n cap i j : Nat) (xs : List Int) (w : World) (h : OwnN B w (.slice (some ⟨g, 0, none⟩) n cap) xs) (hn : xs.length = n) (hi : i < n) (hj : j < n) (b : Bool) (hb : decide (xs.getD i 0 < xs.getD j 0) = b) :
    Calls Tryz.prog 215 #[.slice (some ⟨g, 0, none⟩) n cap, .int .i64 i, .int .i64 j] w fun e w' => e = .returned (.bool b) ∧ ∃ q, w' = w.drewN q := by
  obtain ⟨c1, _⟩ := h.cell (j := i) (by omega)
  obtain ⟨c2, _⟩ := h.cell (j := j) (by omega)
  generalize xs.getD i 0 = x at *
  generalize xs.getD j 0 = y at *
  have hiz : (i : Int) < (n : Int) := by omega
  have hjz : (j : Int) < (n : Int) := by omega
  subst hb
  clear hn h
  go_enter Tryz.func215, Tryz.ntmps215
  go_wp2
  go_quiet (fail)
  go_wp2
  go_ret
  exact ⟨rfl, _, rfl⟩
set_option maxHeartbeats 1000000 in
theorem swap_c (B g n cap i j : Nat) (xs : List Int) (w : World) (h : OwnN B w (.slice (some ⟨g, 0, none⟩) n cap) xs) (hB : B ≤ g) (hn : xs.length = n) (hi : i < n) (hj : j < n) :
    Calls Tryz.prog 216 #[.slice (some ⟨g, 0, none⟩) n cap, .int .i64 i, .int .i64 j] w fun e w' => e = .returned (.tuple #[]) ∧ OwnN B w' (.slice (some ⟨g, 0, none⟩) n cap) (swI xs i j) ∧ Below B w w' := by
  have h9 := h.cell (j := i) (by omega)
  have h8 := h.cell (j := j) (by omega)
  have HO : Hid (OwnN B ((w.setCell ⟨g, i, none⟩ (.int .i64 (xs.getD j 0))).setCell ⟨g, j, none⟩ (.int .i64 (xs.getD i 0))).drew (.slice (some ⟨g, 0, none⟩) n cap) (swI xs i j)) := Lib.hid (((h.set (xs.getD j 0)).set (xs.getD i 0)).below (Below.refl _ _).drew)
  have HBl : Hid (Below B w ((w.setCell ⟨g, i, none⟩ (.int .i64 (xs.getD j 0))).setCell ⟨g, j, none⟩ (.int .i64 (xs.getD i 0))).drew) := Lib.hid ((((Below.refl B w).setCell (p := ⟨g, i, none⟩) hB _).setCell (p := ⟨g, j, none⟩) hB _).drew)
  obtain ⟨c1, f1⟩ := h9
  obtain ⟨c2, f2⟩ := h8
  have hxy : i = j → xs.getD i 0 = xs.getD j 0 := fun e => by rw [e]
  generalize swI xs i j = ys at *
  generalize xs.getD i 0 = x at *
  generalize xs.getD j 0 = y at *
  have hiz : (i : Int) < (n : Int) := by omega
  have hjz : (j : Int) < (n : Int) := by omega
  by_cases hij : i = j
  · subst hij
    obtain rfl := hxy rfl
    clear hn h hxy
    go_enter Tryz.func216, Tryz.ntmps216
    go_wp2
    go_big_region
    all_goals go_wp2
    go_end0
    exact ⟨rfl, HO.out, HBl.out⟩
  · have hji : j ≠ i := Ne.symm hij
    clear hn h hxy
    go_enter Tryz.func216, Tryz.ntmps216
    go_wp2
    go_big_region
    all_goals go_wp2
    go_end0
    exact ⟨rfl, HO.out, HBl.out⟩
end Go.Proofs.YtbbgnhbkjbobgaaGreatDoor

namespace Go.Proofs.YtbbgnhbkjbobgaaGreatDoor
open Go.RowKit Go.Sort
set_option linter.unusedVariables false
theorem run_numbers (w : World) (a : Addr) (v : Value) (h : w.cell? a = some v) : (loadVar 80 a).run Tryz.prog w = .ok v w := by
  have hagg : (isAgg 80).run Tryz.prog w = .ok false w := by kernel_rfl
  simp [loadVar, Sem.run_bind, hagg, h]
theorem run_receiver (w : World) (a : Addr) (v : Value) (name : String) (h : w.cell? a = some v) : (receiverAt 124 (.val (.pointer (some a))) false (some name)).run Tryz.prog w = .ok v w := by
  have hu : (underlying 124).run Tryz.prog w = .ok (.pointer 80) w := run_underlying Tryz.underlying124 w
  have hs : (Builtin.ssaWrapNilChk_ #[124] 124 #[.pointer (some a), strVal "", strVal name]).run Tryz.prog w = .ok (.pointer (some a)) w := rfl
  have hn := run_numbers w a v h
  simp only [receiverAt, Sem.run_bind, hu, Result.andThen_ok, Place.get, Sem.run_pure, hs, asAddr, hn]
theorem meth_val (name : String) (K : Nat) (hi : (Tryz.prog.info? 124).bind (fun i => (i.methods.find? (·.name == name)).map fun m => (m.path.toList, m.func)) = some ([], some (K, false))) (a : Addr) (v : Value) (w : World) (h : w.cell? a = some v) :
    (method 330 124 (.pointer (some a)) name).run Tryz.prog w = .ok (K, v) w := by
  obtain ⟨i, hi1, hi2⟩ := Option.bind_eq_some_iff.1 hi
  obtain ⟨m, hm1, hm2⟩ := Option.map_eq_some_iff.1 hi2
  simp only [Prod.mk.injEq] at hm2
  obtain ⟨hp, hf⟩ := hm2
  have hpe : m.path.isEmpty = true := by simpa using hp
  have hr := run_receiver w a v ((name.splitOn ".").getLastD name) h
  rw [method.eq_2]
  simp only [Sem.run_bind, typeInfo, run_program, Result.andThen_ok, hi1, Sem.run_pure, hm1, hp, follow, hf, hpe, if_true, hr]
theorem meth_less (a : Addr) (v : Value) (w : World) (h : w.cell? a = some v) : (method 330 124 (.pointer (some a)) "Less").run Tryz.prog w = .ok (215, v) w := meth_val "Less" _ (by kernel_rfl) a v w h
theorem meth_swap (a : Addr) (v : Value) (w : World) (h : w.cell? a = some v) : (method 330 124 (.pointer (some a)) "Swap").run Tryz.prog w = .ok (216, v) w := meth_val "Swap" _ (by kernel_rfl) a v w h
theorem meth_len (a : Addr) (v : Value) (w : World) (h : w.cell? a = some v) : (method 330 124 (.pointer (some a)) "Len").run Tryz.prog w = .ok (214, v) w := meth_val "Len" _ (by kernel_rfl) a v w h
theorem meth_push (a : Addr) (w : World) : (method 330 124 (.pointer (some a)) "Push").run Tryz.prog w = .ok (218, .pointer (some a)) w := by kernel_rfl
theorem meth_pop (a : Addr) (w : World) : (method 330 124 (.pointer (some a)) "Pop").run Tryz.prog w = .ok (217, .pointer (some a)) w := by kernel_rfl
theorem ahead_less (a : Addr) (w : World) : (nilAhead 330 124 (.pointer (some a)) "Less").run Tryz.prog w = .ok (some false) w := by kernel_rfl
theorem ahead_swap (a : Addr) (w : World) : (nilAhead 330 124 (.pointer (some a)) "Swap").run Tryz.prog w = .ok (some false) w := by kernel_rfl
theorem ahead_len (a : Addr) (w : World) : (nilAhead 330 124 (.pointer (some a)) "Len").run Tryz.prog w = .ok (some false) w := by kernel_rfl
end Go.Proofs.YtbbgnhbkjbobgaaGreatDoor

namespace Go.Proofs.YtbbgnhbkjbobgaaGreatDoor
open Go.RowKit Go.Sort
set_option linter.unusedVariables false

/-- The variable at b holds the slice v, whose cells are its own. -/
def Box (b : Nat) (w : World) (v : Value) (xs : List Int) : Prop := w.heap[b]? = some (.cells #[v] 80 (0, 0)) ∧ OwnN (b + 1) w v xs
theorem Box.kept {b : Nat} {w w' : World} {v : Value} {xs ys : List Int} (h : Box b w v xs) (hb : Below (b + 1) w w') (ho : OwnN (b + 1) w' v ys) : Box b w' v ys := ⟨by rw [hb.block b (by omega)]; exact h.1, ho⟩
theorem Box.cell {b : Nat} {w : World} {v : Value} {xs : List Int} (h : Box b w v xs) : w.cell? ⟨b, 0, none⟩ = some v ∧ w.frozen? ⟨b, 0, none⟩ = false := ⟨by rw [Lib.cell_of_heap h.1]; rfl, Lib.frozen_of_heap h.1 0⟩
theorem Box.drewN {b : Nat} {w : World} {v : Value} {xs : List Int} (h : Box b w v xs) (q : Nat) : Box b (w.drewN q) v xs := by
  induction q with
  | zero => exact h
  | succ q ih => exact ih.kept (Below.refl _ _).drew (ih.2.below (Below.refl _ _).drew)

theorem below_drewN2 {B : Nat} {a w : World} (h : Below B a w) : ∀ q, Below B a (w.drewN q)
  | 0 => h
  | q + 1 => (below_drewN2 h q).drew
def UpPost (b : Nat) (v : Value) (xs : List Int) (w : World) (e : Ending) (w' : World) : Prop := e = .returned (.tuple #[]) ∧ ∃ ys, ys.Perm xs ∧ HeapN ys.length ys ∧ Box b w' v ys ∧ Below (b + 1) w w'

set_option maxHeartbeats 2000000 in
set_option maxRecDepth 100000 in
theorem up_c (b : Nat) (v : Value) (xs : List Int) (j : Nat) (w : World) (h : Box b w v xs) (hj : j < xs.length) (hu : UpI xs j) (hl : xs.length ≤ 1000) :
    Calls Tryz.prog 144 #[.iface 124 (.pointer (some ⟨b, 0, none⟩)), .int .i64 j] w (UpPost b v xs w) := by
  unfold UpPost
  obtain ⟨n, hn⟩ : ∃ n, xs.length = n := ⟨_, rfl⟩
  have HN := Lib.hid hn
  rw [hn] at hj hl
  have HU := Lib.hid hu
  have HBX := Lib.hid h
  clear hn hu h
  go_enter Tryz.func144, Tryz.ntmps144
  go_wp2
  go_loopg [1] j (fun gk jv wr => ∃ (k : Nat) (ys : List Int), k = gk ∧ k < n ∧ jv = .int .i64 k ∧ ys.Perm xs ∧ UpI ys k ∧ Box b wr v ys ∧ Below (b + 1) w wr)
  case atStart => exact ⟨j, xs, rfl, hj, rfl, List.Perm.refl _, HU.out, HBX.out, Below.refl _ _⟩
  case round =>
    obtain ⟨k, ys, rfl, hk, rfl, hp, hui, hbx, hbel⟩ := hrel
    have HP := Lib.hid hp
    have HI := Lib.hid hui
    have HB := Lib.hid hbx
    have HW := Lib.hid hbel
    have hyl : Hid (ys.length = n) := Lib.hid (hp.length_eq.trans HN.out)
    clear hp hui hbx hbel
    by_cases hk0 : k = 0
    · subst hk0
      go_wp2
      go_end0
      exact ⟨rfl, ys, HP.out, upI_done HI.out (Or.inl rfl), HB.out, HW.out⟩
    · have hk1 : 1 ≤ k := by omega
      have hkz : (((k : Int) - 1) / 2 == (k : Int)) = false := by rw [beq_eq_false_iff_ne]; omega
      obtain ⟨c0, f0⟩ := HB.out.cell
      have hne : ys ≠ [] := by
        intro e
        have := hyl.out
        rw [e] at this
        simp at this
        omega
      obtain ⟨g, cap, hv, hg, hgl, hcap⟩ := HB.out.2.head hne
      rw [hyl.out] at hv hcap
      subst hv
      obtain ⟨i, hi⟩ : ∃ i, (k - 1) / 2 = i := ⟨_, rfl⟩
      have hiz : ((k : Int) - 1) / 2 = (i : Int) := by omega
      have hin : i < n := by omega
      have hik : i ≠ k := by omega
      have m1 := meth_less ⟨b, 0, none⟩ _ wr c0
      rw [hiz] at hkz
      have HIK := Lib.hid hi
      clear hne hi
      cases hb : decide (ys.getD k 0 < ys.getD i 0) with
      | false =>
        have cl := less_c (b + 1) g n cap k i ys wr HB.out.2 hyl.out hk hin false hb
        have HD : Hid (ys.getD i 0 ≤ ys.getD k 0) := Lib.hid (by have := of_decide_eq_false hb; omega)
        clear hb
        go_wp2_with (go_at_call 215; refine cl.mono ?_; rintro e w' ⟨rfl, q, rfl⟩)
        go_end0
        exact ⟨rfl, ys, HP.out, upI_done HI.out (Or.inr (by rw [HIK.out]; exact HD.out)), HB.out.drewN q, below_drewN2 HW.out q⟩
      | true =>
        have cl := less_c (b + 1) g n cap k i ys wr HB.out.2 hyl.out hk hin true hb
        have HD : Hid (ys.getD k 0 < ys.getD i 0) := Lib.hid (of_decide_eq_true hb)
        clear hb
        go_wp2_with (go_at_call 215; refine cl.mono ?_; rintro e w' ⟨rfl, q, rfl⟩)
        have HM : Hid (∀ q, (method 330 124 (.pointer (some ⟨b, 0, none⟩)) "Swap").run Tryz.prog (wr.drewN q) = .ok (216, .slice (some ⟨g, 0, none⟩) n cap) (wr.drewN q)) := Lib.hid (fun q => meth_swap ⟨b, 0, none⟩ _ (wr.drewN q) (HB.out.drewN q).cell.1)
        have HS : Hid (∀ q, Calls Tryz.prog 216 #[.slice (some ⟨g, 0, none⟩) n cap, .int .i64 i, .int .i64 k] (wr.drewN q) fun e w' => e = .returned (.tuple #[]) ∧ OwnN (b + 1) w' (.slice (some ⟨g, 0, none⟩) n cap) (swI ys i k) ∧ Below (b + 1) wr w') := Lib.hid (fun q => (swap_c (b + 1) g n cap i k ys (wr.drewN q) (HB.out.drewN q).2 hg hyl.out hin hk).mono fun e w' ⟨h1, h2, h3⟩ => ⟨h1, h2, (below_drewN2 (Below.refl _ _) q).trans h3⟩)
        go_wp2_with (go_at_call 215; refine cl.mono ?_; rintro e w' ⟨rfl, q, rfl⟩)
        rw [HM.out q]
        have cs := HS.out q
        go_wp2_with (go_at_call 216; refine cs.mono ?_; rintro e w2 ⟨rfl, ho2, hb2⟩)
        have HB2 := Lib.hid hb2
        have HO2 := Lib.hid ho2
        clear hb2 ho2 cs
        go_roundg i
        case measure => omega
        case rel => exact ⟨i, swI ys i k, rfl, hin, by first | rfl | rw [hiz], (swI_perm (by rw [hyl.out]; exact hin) (by rw [hyl.out]; exact hk)).trans HP.out, by have := upI_step HI.out hk1 (by rw [hyl.out]; exact hk) (by rw [HIK.out]; exact HD.out); rw [HIK.out] at this; exact this, HB.out.kept HB2.out HO2.out, HW.out.trans HB2.out⟩
end Go.Proofs.YtbbgnhbkjbobgaaGreatDoor

namespace Go.Proofs.YtbbgnhbkjbobgaaGreatDoor
open Go.RowKit Go.Sort
set_option linter.unusedVariables false

def DownRel (n : Nat) (xs ys : List Int) : Prop := ys.Perm xs ∧ ∀ k, n ≤ k → ys.getD k 0 = xs.getD k 0
theorem DownRel.swap {n : Nat} {xs ys : List Int} (h : DownRel n xs ys) {i j : Nat} (hi : i < n) (hj : j < n) (hn : n ≤ ys.length) : DownRel n xs (swI ys i j) :=
  ⟨(swI_perm (by omega) (by omega)).trans h.1, fun k hk => by rw [swI_getD (by omega) (by omega), if_neg (by omega), if_neg (by omega)]; exact h.2 k hk⟩
def DownPost (b n : Nat) (v : Value) (xs : List Int) (w : World) (e : Ending) (w' : World) : Prop := (∃ t : Bool, e = .returned (.bool t)) ∧ ∃ ys, DownRel n xs ys ∧ HeapN n ys ∧ Box b w' v ys ∧ Below (b + 1) w w'

set_option maxHeartbeats 4000000 in
set_option maxRecDepth 100000 in
theorem down_c (b : Nat) (v : Value) (xs : List Int) (n : Nat) (w : World) (h : Box b w v xs) (hn : n < xs.length) (hd : DownI n xs 0) (hl : xs.length ≤ 1000) :
    Calls Tryz.prog 145 #[.iface 124 (.pointer (some ⟨b, 0, none⟩)), .int .i64 0, .int .i64 n] w (DownPost b n v xs w) := by
  unfold DownPost
  obtain ⟨N, hN⟩ : ∃ N, xs.length = N := ⟨_, rfl⟩
  have HN := Lib.hid hN
  rw [hN] at hn hl
  have HU := Lib.hid hd
  have HBX := Lib.hid h
  clear hN hd h
  go_enter Tryz.func145, Tryz.ntmps145
  go_wp2
  go_loopg [7] (n + 1) (fun gk iv wr => ∃ (i : Nat) (ys : List Int), (i ≤ n ∧ i + gk = n + 1) ∧ iv = .int .i64 i ∧ DownRel n xs ys ∧ DownI n ys i ∧ Box b wr v ys ∧ Below (b + 1) w wr)
  case atStart => exact ⟨0, xs, by omega, rfl, ⟨List.Perm.refl _, fun k hk => rfl⟩, HU.out, HBX.out, Below.refl _ _⟩
  case round =>
    obtain ⟨i, ys, ⟨hin, hig⟩, rfl, hp, hdi, hbx, hbel⟩ := hrel
    have HP := Lib.hid hp
    have HI := Lib.hid hdi
    have HB := Lib.hid hbx
    have HW := Lib.hid hbel
    have hyl : Hid (ys.length = N) := Lib.hid (hp.1.length_eq.trans HN.out)
    clear hp hdi hbx hbel
    by_cases h1 : 2 * i + 1 < n
    · have h1z : ¬ ((n : Int) ≤ 2 * (i : Int) + 1) := by omega
      obtain ⟨c0, f0⟩ := HB.out.cell
      have hne : ys ≠ [] := by
        intro e
        have := hyl.out
        rw [e] at this
        simp at this
        omega
      obtain ⟨g, cap, hv, hg, hgl, hcap⟩ := HB.out.2.head hne
      rw [hyl.out] at hv hcap
      subst hv
      clear hne
      -- the second part, whichever child it is
      have c2 : (2 * i + 1 < N ∧ i < N) := by omega
      have HLS : Hid (∀ (q x y : Nat) (t : Bool), x < N → y < N → decide (ys.getD x 0 < ys.getD y 0) = t → Calls Tryz.prog 215 #[(.slice (some ⟨g, 0, none⟩) N cap), .int .i64 x, .int .i64 y] (wr.drewN q) fun e w' => e = .returned (.bool t) ∧ ∃ q', w' = wr.drewN q') := Lib.hid (fun q x y t hx hy ht => (less_c (b + 1) g N cap x y ys (wr.drewN q) (HB.out.drewN q).2 hyl.out hx hy t ht).mono fun e w' ⟨h1, q2, h2⟩ => ⟨h1, q + q2, by rw [h2, World.drewN_drewN]⟩)
      have HSW : Hid (∀ (q x y : Nat), x < N → y < N → Calls Tryz.prog 216 #[(.slice (some ⟨g, 0, none⟩) N cap), .int .i64 x, .int .i64 y] (wr.drewN q) fun e w' => e = .returned (.tuple #[]) ∧ OwnN (b + 1) w' (.slice (some ⟨g, 0, none⟩) N cap) (swI ys x y) ∧ Below (b + 1) wr w') := Lib.hid (fun q x y hx hy => (swap_c (b + 1) g N cap x y ys (wr.drewN q) (HB.out.drewN q).2 hg hyl.out hx hy).mono fun e w' ⟨h1, h2, h3⟩ => ⟨h1, h2, (below_drewN2 (Below.refl _ _) q).trans h3⟩)
      have HML : Hid (∀ q, (method 330 124 (.pointer (some ⟨b, 0, none⟩)) "Less").run Tryz.prog (wr.drewN q) = .ok (215, (.slice (some ⟨g, 0, none⟩) N cap)) (wr.drewN q)) := Lib.hid (fun q => meth_less ⟨b, 0, none⟩ _ (wr.drewN q) (HB.out.drewN q).cell.1)
      have HMS : Hid (∀ q, (method 330 124 (.pointer (some ⟨b, 0, none⟩)) "Swap").run Tryz.prog (wr.drewN q) = .ok (216, (.slice (some ⟨g, 0, none⟩) N cap)) (wr.drewN q)) := Lib.hid (fun q => meth_swap ⟨b, 0, none⟩ _ (wr.drewN q) (HB.out.drewN q).cell.1)
      have m0 := meth_less ⟨b, 0, none⟩ _ wr c0
      have c1z : (2 * (i : Int) + 1 < (n : Int)) := by omega
      obtain ⟨c2, c3⟩ := c2
      by_cases h2 : 2 * i + 2 < n
      · have h2z : (2 * (i : Int) + 2 < (n : Int)) := by omega
        have c4 : 2 * i + 2 < N := by omega
        cases hb1 : decide (ys.getD (2 * i + 2) 0 < ys.getD (2 * i + 1) 0) with
        | false =>
          have cl1 := HLS.out 0 (2 * i + 2) (2 * i + 1) false c4 c2 hb1
          have HLE : Hid (Lesser n ys i (2 * i + 1)) := Lib.hid (lesser_one h1 (Or.inr (of_decide_eq_false hb1)))
          clear hb1
          cases hb2 : decide (ys.getD (2 * i + 1) 0 < ys.getD i 0) with
          | false =>
            have cl2 := fun q => HLS.out q (2 * i + 1) i false (by omega) c3 hb2
            have HD : Hid (¬ ys.getD (2 * i + 1) 0 < ys.getD i 0) := Lib.hid (of_decide_eq_false hb2)
            have HE : Hid ((2 * (i : Int) + 1) = ((2 * i + 1 : Nat) : Int)) := Lib.hid (by omega)
            clear hb2
            go_wp2_with (go_at_call 215; refine cl1.mono ?_; rintro e w' ⟨rfl, q, rfl⟩)
            rw [HML.out q]
            have cl3 := cl2 q
            clear cl2
            go_wp2_with (go_at_call 215; refine cl3.mono ?_; rintro e w' ⟨rfl, q2, rfl⟩)
            go_ret
            exact ⟨⟨_, rfl⟩, ys, HP.out, downI_done HI.out HLE.out (by have := HD.out; omega), HB.out.drewN q2, below_drewN2 HW.out q2⟩
          | true =>
            have cl2 := fun q => HLS.out q (2 * i + 1) i true (by omega) c3 hb2
            have HD : Hid (ys.getD (2 * i + 1) 0 < ys.getD i 0) := Lib.hid (of_decide_eq_true hb2)
            have HE : Hid ((2 * (i : Int) + 1) = ((2 * i + 1 : Nat) : Int)) := Lib.hid (by omega)
            clear hb2
            go_wp2_with (go_at_call 215; refine cl1.mono ?_; rintro e w' ⟨rfl, q, rfl⟩)
            rw [HML.out q]
            have cl3 := cl2 q
            clear cl2
            go_wp2_with (go_at_call 215; refine cl3.mono ?_; rintro e w' ⟨rfl, q2, rfl⟩)
            rw [HMS.out q2]
            have cs := HSW.out q2 i (2 * i + 1) c3 (by omega)
            go_wp2_with (go_at_call 216; refine cs.mono ?_; rintro e w2 ⟨rfl, ho2, hbl2⟩)
            have HB2 := Lib.hid hbl2
            have HO2 := Lib.hid ho2
            clear hbl2 ho2 cs
            go_roundg (n + 1 - (2 * i + 1))
            case measure => omega
            case rel => exact ⟨(2 * i + 1), swI ys i (2 * i + 1), by omega, by first | rfl | rw [HE.out] | go_num, HP.out.swap (by omega) (by omega) (by rw [hyl.out]; omega), downI_step HI.out (by rw [hyl.out]; omega) HLE.out HD.out, HB.out.kept HB2.out HO2.out, HW.out.trans HB2.out⟩
        | true =>
          have cl1 := HLS.out 0 (2 * i + 2) (2 * i + 1) true c4 c2 hb1
          have HLE : Hid (Lesser n ys i (2 * i + 2)) := Lib.hid (lesser_two h2 (of_decide_eq_true hb1))
          clear hb1
          cases hb2 : decide (ys.getD (2 * i + 2) 0 < ys.getD i 0) with
          | false =>
            have cl2 := fun q => HLS.out q (2 * i + 2) i false (by omega) c3 hb2
            have HD : Hid (¬ ys.getD (2 * i + 2) 0 < ys.getD i 0) := Lib.hid (of_decide_eq_false hb2)
            have HE : Hid ((2 * (i : Int) + 2) = ((2 * i + 2 : Nat) : Int)) := Lib.hid (by omega)
            clear hb2
            go_wp2_with (go_at_call 215; refine cl1.mono ?_; rintro e w' ⟨rfl, q, rfl⟩)
            rw [HML.out q]
            have cl3 := cl2 q
            clear cl2
            go_wp2_with (go_at_call 215; refine cl3.mono ?_; rintro e w' ⟨rfl, q2, rfl⟩)
            go_ret
            exact ⟨⟨_, rfl⟩, ys, HP.out, downI_done HI.out HLE.out (by have := HD.out; omega), HB.out.drewN q2, below_drewN2 HW.out q2⟩
          | true =>
            have cl2 := fun q => HLS.out q (2 * i + 2) i true (by omega) c3 hb2
            have HD : Hid (ys.getD (2 * i + 2) 0 < ys.getD i 0) := Lib.hid (of_decide_eq_true hb2)
            have HE : Hid ((2 * (i : Int) + 2) = ((2 * i + 2 : Nat) : Int)) := Lib.hid (by omega)
            clear hb2
            go_wp2_with (go_at_call 215; refine cl1.mono ?_; rintro e w' ⟨rfl, q, rfl⟩)
            rw [HML.out q]
            have cl3 := cl2 q
            clear cl2
            go_wp2_with (go_at_call 215; refine cl3.mono ?_; rintro e w' ⟨rfl, q2, rfl⟩)
            rw [HMS.out q2]
            have cs := HSW.out q2 i (2 * i + 2) c3 (by omega)
            go_wp2_with (go_at_call 216; refine cs.mono ?_; rintro e w2 ⟨rfl, ho2, hbl2⟩)
            have HB2 := Lib.hid hbl2
            have HO2 := Lib.hid ho2
            clear hbl2 ho2 cs
            go_roundg (n + 1 - (2 * i + 2))
            case measure => omega
            case rel => exact ⟨(2 * i + 2), swI ys i (2 * i + 2), by omega, by first | rfl | rw [HE.out] | go_num, HP.out.swap (by omega) (by omega) (by rw [hyl.out]; omega), downI_step HI.out (by rw [hyl.out]; omega) HLE.out HD.out, HB.out.kept HB2.out HO2.out, HW.out.trans HB2.out⟩
      · have h2z : ¬ (2 * (i : Int) + 2 < (n : Int)) := by omega
        have HLE : Hid (Lesser n ys i (2 * i + 1)) := Lib.hid (lesser_one h1 (Or.inl h2))
        cases hb2 : decide (ys.getD (2 * i + 1) 0 < ys.getD i 0) with
        | false =>
          have cl2 := fun q => HLS.out q (2 * i + 1) i false (by omega) c3 hb2
          have HD : Hid (¬ ys.getD (2 * i + 1) 0 < ys.getD i 0) := Lib.hid (of_decide_eq_false hb2)
          have HE : Hid ((2 * (i : Int) + 1) = ((2 * i + 1 : Nat) : Int)) := Lib.hid (by omega)
          clear hb2
          have cl3 := cl2 0
          clear cl2
          go_wp2_with (go_at_call 215; refine cl3.mono ?_; rintro e w' ⟨rfl, q2, rfl⟩)
          go_ret
          exact ⟨⟨_, rfl⟩, ys, HP.out, downI_done HI.out HLE.out (by have := HD.out; omega), HB.out.drewN q2, below_drewN2 HW.out q2⟩
        | true =>
          have cl2 := fun q => HLS.out q (2 * i + 1) i true (by omega) c3 hb2
          have HD : Hid (ys.getD (2 * i + 1) 0 < ys.getD i 0) := Lib.hid (of_decide_eq_true hb2)
          have HE : Hid ((2 * (i : Int) + 1) = ((2 * i + 1 : Nat) : Int)) := Lib.hid (by omega)
          clear hb2
          have cl3 := cl2 0
          clear cl2
          go_wp2_with (go_at_call 215; refine cl3.mono ?_; rintro e w' ⟨rfl, q2, rfl⟩)
          rw [HMS.out q2]
          have cs := HSW.out q2 i (2 * i + 1) c3 (by omega)
          go_wp2_with (go_at_call 216; refine cs.mono ?_; rintro e w2 ⟨rfl, ho2, hbl2⟩)
          have HB2 := Lib.hid hbl2
          have HO2 := Lib.hid ho2
          clear hbl2 ho2 cs
          go_roundg (n + 1 - (2 * i + 1))
          case measure => omega
          case rel => exact ⟨(2 * i + 1), swI ys i (2 * i + 1), by omega, by first | rfl | rw [HE.out] | go_num, HP.out.swap (by omega) (by omega) (by rw [hyl.out]; omega), downI_step HI.out (by rw [hyl.out]; omega) HLE.out HD.out, HB.out.kept HB2.out HO2.out, HW.out.trans HB2.out⟩
    · have h1z : ((n : Int) ≤ 2 * (i : Int) + 1) := by omega
      go_wp2
      go_ret
      exact ⟨⟨_, rfl⟩, ys, HP.out, downI_leaf HI.out (by omega), HB.out, HW.out⟩
end Go.Proofs.YtbbgnhbkjbobgaaGreatDoor
