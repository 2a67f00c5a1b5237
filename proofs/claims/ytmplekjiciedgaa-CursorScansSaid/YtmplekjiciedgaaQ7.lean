/-
  A heap in a list of numbers: what goes up, and what goes down, keeps it; the least number that is not taken.
  A pool's numbers, plainly: the least that is not out, how many are out.
  The heap's own methods: how many there are, which is less, two changed about.
  A pool's memory, and what a method of its heap is found at: the pointer's own, and those that are promoted from the slice.
  Which numbers of a pool are out, said by those that are used and those that wait; the least that is not out, and how many are out.
-/
import Derived.Lib.Hide
import Derived.Test.YtmplekjiciedgaaQ1
import Derived.Test.YtmplekjiciedgaaProg
import Derived.WalkKit
import Derived.WalkSpells
import Derived.IntWalk
import Derived.Below
import Derived.Sort.WalkC
import Derived.ProofKit
import Derived.Lib.Builder
import Derived.LoopTactic
import Derived.Deep.LoopGhost
import Derived.Deep.QuietTactic
import Derived.BigQuiet
import Derived.BigRegion
namespace Go.Proofs.Ytmplekjiciedgaa
set_option linter.unusedVariables false

def swI (xs : List Int) (i j : Nat) : List Int := (xs.set i (xs.getD j 0)).set j (xs.getD i 0)
theorem swI_length (xs : List Int) (i j : Nat) : (swI xs i j).length = xs.length := by simp [swI]
theorem swI_getD {xs : List Int} {i j : Nat} (hi : i < xs.length) (hj : j < xs.length) (k : Nat) : (swI xs i j).getD k 0 = if k = j then xs.getD i 0 else if k = i then xs.getD j 0 else xs.getD k 0 := by
  unfold swI
  simp only [List.getD_eq_getElem?_getD, List.getElem?_set]
  by_cases h1 : j = k
  · subst h1; simp [hj]
  · by_cases h2 : i = k
    · subst h2; simp [hi, h1, Ne.symm h1]
    · simp [h1, h2, Ne.symm h1, Ne.symm h2]
theorem swI_perm {xs : List Int} {i j : Nat} (hi : i < xs.length) (hj : j < xs.length) : (swI xs i j).Perm xs := by
  have := List.set_set_perm hi hj
  simpa [swI, List.getD_eq_getElem?_getD, List.getElem?_eq_getElem hi, List.getElem?_eq_getElem hj] using this

def HeapN (n : Nat) (xs : List Int) : Prop := ∀ k, 0 < k → k < n → xs.getD ((k - 1) / 2) 0 ≤ xs.getD k 0
def UpI (xs : List Int) (j : Nat) : Prop :=
  (∀ k, 0 < k → k < xs.length → k ≠ j → xs.getD ((k - 1) / 2) 0 ≤ xs.getD k 0) ∧ (∀ k, 0 < k → k < xs.length → (k - 1) / 2 = j → 0 < j → xs.getD ((j - 1) / 2) 0 ≤ xs.getD k 0)
def DownI (n : Nat) (xs : List Int) (i : Nat) : Prop :=
  (∀ k, 0 < k → k < n → (k - 1) / 2 ≠ i → xs.getD ((k - 1) / 2) 0 ≤ xs.getD k 0) ∧ (∀ k, 0 < k → k < n → (k - 1) / 2 = i → 0 < i → xs.getD ((i - 1) / 2) 0 ≤ xs.getD k 0)

theorem upI_done {xs : List Int} {j : Nat} (h : UpI xs j) (hj : j = 0 ∨ xs.getD ((j - 1) / 2) 0 ≤ xs.getD j 0) : HeapN xs.length xs := by
  intro k h0 hk
  by_cases e : k = j
  · subst e
    rcases hj with hj | hj
    · omega
    · exact hj
  · exact h.1 k h0 hk e
theorem upI_step {xs : List Int} {j : Nat} (h : UpI xs j) (hj0 : 0 < j) (hjl : j < xs.length) (hlt : xs.getD j 0 < xs.getD ((j - 1) / 2) 0) : UpI (swI xs ((j - 1) / 2) j) ((j - 1) / 2) := by
  obtain ⟨i, hi⟩ : ∃ i, (j - 1) / 2 = i := ⟨_, rfl⟩
  rw [hi] at hlt ⊢
  have hij : i < j := by omega
  have hil : i < xs.length := by omega
  constructor
  · intro k h0 hk hki
    rw [swI_length] at hk
    rw [swI_getD hil hjl, swI_getD hil hjl]
    by_cases e : k = j
    · subst e
      rw [if_pos rfl, hi, if_neg (by omega), if_pos rfl]; omega
    · rw [if_neg e, if_neg hki]
      have h1 := h.1 k h0 hk e
      by_cases p1 : (k - 1) / 2 = j
      · rw [if_pos p1]
        have := h.2 k h0 hk p1 hj0
        rw [hi] at this; exact this
      · rw [if_neg p1]
        by_cases p2 : (k - 1) / 2 = i
        · rw [if_pos p2]; rw [p2] at h1; omega
        · rw [if_neg p2]; exact h1
  · intro k h0 hk hp hi0
    rw [swI_length] at hk
    have h2 := h.1 i hi0 hil (by omega)
    rw [swI_getD hil hjl, swI_getD hil hjl, if_neg (by omega), if_neg (by omega)]
    by_cases e : k = j
    · rw [if_pos e]; exact h2
    · rw [if_neg e, if_neg (by omega)]
      have h1 := h.1 k h0 hk e
      rw [hp] at h1; omega

theorem downI_leaf {n : Nat} {xs : List Int} {i : Nat} (h : DownI n xs i) (hn : n ≤ 2 * i + 1) : HeapN n xs := fun k h0 hk => h.1 k h0 hk (by omega)
/-- j is the lesser child of i. -/
def Lesser (n : Nat) (xs : List Int) (i j : Nat) : Prop := (j = 2 * i + 1 ∨ j = 2 * i + 2) ∧ j < n ∧ ∀ k, 0 < k → k < n → (k - 1) / 2 = i → xs.getD j 0 ≤ xs.getD k 0
theorem lesser_one {n : Nat} {xs : List Int} {i : Nat} (h1 : 2 * i + 1 < n) (h2 : ¬ (2 * i + 2 < n) ∨ ¬ (xs.getD (2 * i + 2) 0 < xs.getD (2 * i + 1) 0)) : Lesser n xs i (2 * i + 1) := by
  refine ⟨Or.inl rfl, h1, fun k h0 hk hp => ?_⟩
  have : k = 2 * i + 1 ∨ k = 2 * i + 2 := by omega
  rcases this with rfl | rfl
  · omega
  · rcases h2 with h2 | h2 <;> omega
theorem lesser_two {n : Nat} {xs : List Int} {i : Nat} (h1 : 2 * i + 2 < n) (h2 : xs.getD (2 * i + 2) 0 < xs.getD (2 * i + 1) 0) : Lesser n xs i (2 * i + 2) := by
  refine ⟨Or.inr rfl, h1, fun k h0 hk hp => ?_⟩
  have : k = 2 * i + 1 ∨ k = 2 * i + 2 := by omega
  rcases this with rfl | rfl <;> omega
theorem downI_done {n : Nat} {xs : List Int} {i j : Nat} (h : DownI n xs i) (hl : Lesser n xs i j) (hj : ¬ xs.getD j 0 < xs.getD i 0) : HeapN n xs := by
  intro k h0 hk
  by_cases e : (k - 1) / 2 = i
  · have := hl.2.2 k h0 hk e
    rw [e]; omega
  · exact h.1 k h0 hk e
theorem downI_step {n : Nat} {xs : List Int} {i j : Nat} (h : DownI n xs i) (hn : n ≤ xs.length) (hl : Lesser n xs i j) (hlt : xs.getD j 0 < xs.getD i 0) : DownI n (swI xs i j) j := by
  obtain ⟨hc, hjn, hle⟩ := hl
  have hil : i < xs.length := by omega
  have hjl : j < xs.length := by omega
  have hp : (j - 1) / 2 = i := by omega
  constructor
  · intro k h0 hk hkp
    rw [swI_getD hil hjl, swI_getD hil hjl, if_neg hkp]
    by_cases p : (k - 1) / 2 = i
    · rw [if_pos p]
      by_cases e : k = j
      · rw [if_pos e]; omega
      · rw [if_neg e, if_neg (by omega)]
        exact hle k h0 hk p
    · rw [if_neg p]
      by_cases e : k = j
      · subst e; exact absurd hp p
      · rw [if_neg e]
        by_cases e2 : k = i
        · rw [if_pos e2]
          have := h.2 j (by omega) hjn hp (by omega)
          subst e2; exact this
        · rw [if_neg e2]; exact h.1 k h0 hk p
  · intro k h0 hk hkp hj0
    have h1 := h.1 k h0 hk (by omega)
    rw [swI_getD hil hjl, swI_getD hil hjl, hp, if_neg (by omega), if_pos rfl, if_neg (by omega), if_neg (by omega)]
    rw [hkp] at h1; exact h1
theorem heap_least {n : Nat} {xs : List Int} (h : HeapN n xs) : ∀ k, k < n → xs.getD 0 0 ≤ xs.getD k 0 := by
  intro k
  induction k using Nat.strongRecOn with
  | ind k ih =>
    intro hk
    by_cases e : k = 0
    · subst e; exact Int.le_refl _
    · have h1 := ih ((k - 1) / 2) (by omega) (by omega)
      have h2 := h k (by omega) hk
      omega
theorem heap_mem {xs : List Int} (h : HeapN xs.length xs) {x : Int} (hx : x ∈ xs) : xs.getD 0 0 ≤ x := by
  obtain ⟨k, hk, rfl⟩ := List.getElem_of_mem hx
  have := heap_least h k hk
  simpa [List.getD_eq_getElem?_getD, List.getElem?_eq_getElem hk] using this
theorem getD_app_left {xs ys : List Int} {k : Nat} (h : k < xs.length) : (xs ++ ys).getD k 0 = xs.getD k 0 := by
  simp [List.getD_eq_getElem?_getD, List.getElem?_append_left h]
theorem getD_app_last {xs : List Int} {x : Int} : (xs ++ [x]).getD xs.length 0 = x := by
  simp [List.getD_eq_getElem?_getD]
theorem getD_tk {xs : List Int} {n k : Nat} (h : k < n) : (xs.take n).getD k 0 = xs.getD k 0 := by
  simp [List.getD_eq_getElem?_getD, h]
/-- A heap with one more behind it goes up from there. -/
theorem upI_start {xs : List Int} (h : HeapN xs.length xs) (x : Int) : UpI (xs ++ [x]) xs.length := by
  constructor
  · intro k h0 hk hne
    rw [List.length_append, List.length_singleton] at hk
    rw [getD_app_left (by omega), getD_app_left (by omega)]
    exact h k h0 (by omega)
  · intro k h0 hk hp hj
    rw [List.length_append, List.length_singleton] at hk
    omega
/-- A heap whose first and last are changed about goes down from its head. -/
theorem downI_start {xs : List Int} {n : Nat} (hl : xs.length = n + 1) (h : HeapN xs.length xs) : DownI n (swI xs 0 n) 0 := by
  constructor
  · intro k h0 hk hp
    rw [swI_getD (by omega) (by omega), swI_getD (by omega) (by omega), if_neg (by omega), if_neg hp, if_neg (by omega), if_neg (by omega)]
    exact h k h0 (by omega)
  · intro k h0 hk hp hi
    exact absurd hi (by omega)
theorem heap_take {n : Nat} {xs : List Int} (h : HeapN n xs) : HeapN n (xs.take n) := fun k h0 hk => by
  rw [getD_tk (by omega), getD_tk hk]; exact h k h0 hk
theorem heap_nil : HeapN ([] : List Int).length [] := fun k h0 hk => absurd hk (by simp)
theorem take_last {xs : List Int} {n : Nat} (hl : xs.length = n + 1) : xs = xs.take n ++ [xs.getD n 0] := by
  have h := (List.take_append_drop n xs).symm
  have hd : xs.drop n = [xs.getD n 0] := by
    rw [List.drop_eq_getElem_cons (by omega), List.drop_eq_nil_of_le (by omega)]
    simp [List.getD_eq_getElem?_getD, List.getElem?_eq_getElem (show n < xs.length by omega)]
  rw [hd] at h; exact h

/-- f is the least number from 1 on that xs does not hold. -/
def FreeOf (xs : List Int) (f : Int) : Prop := 1 ≤ f ∧ f ∉ xs ∧ ∀ m, 1 ≤ m → m < f → m ∈ xs
theorem freeOf_one {xs : List Int} {f g : Int} (h : FreeOf xs f) (k : FreeOf xs g) : f = g := by
  rcases Int.lt_trichotomy f g with hl | hl | hl
  · exact absurd (k.2.2 f h.1 hl) h.2.1
  · exact hl
  · exact absurd (h.2.2 g k.1 hl) k.2.1
/-- As many numbers as are held are as many at the least. -/
theorem holds_many : ∀ (n : Nat) (xs : List Int), (∀ m : Int, 1 ≤ m → m ≤ n → m ∈ xs) → n ≤ xs.length
  | 0, xs, _ => Nat.zero_le _
  | n + 1, xs, h => by
    have hm : ((n : Int) + 1) ∈ xs := h _ (by omega) (by omega)
    have := holds_many n (xs.erase ((n : Int) + 1)) (fun m h1 h2 => by
      rw [List.mem_erase_of_ne (by omega)]
      exact h m h1 (by omega))
    rw [List.length_erase_of_mem hm] at this
    have : 0 < xs.length := List.length_pos_of_mem hm
    omega
theorem free_past {xs : List Int} (h : ∀ m : Int, 1 ≤ m → m ≤ xs.length → m ∈ xs) : FreeOf xs (xs.length + 1) := by
  refine ⟨by omega, fun hm => ?_, fun m h1 h2 => h m h1 (by omega)⟩
  have := holds_many (xs.length + 1) xs (fun m h1 h2 => by
    by_cases e : m = xs.length + 1
    · rw [e]; exact hm
    · exact h m h1 (by omega))
  omega
theorem free_here {xs : List Int} {n : Int} (h1 : 1 ≤ n) (hn : n ∉ xs) (h : ∀ m : Int, 1 ≤ m → m < n → m ∈ xs) : FreeOf xs n := ⟨h1, hn, h⟩
/-- What stands of the second loop: those that wait are taken, and what is taken waits, or is below the free one. -/
def Waits (ts xs : List Int) (f : Int) : Prop := 1 ≤ f ∧ (∀ m, 1 ≤ m → m < f → m ∈ ts) ∧ (∀ x ∈ ts, x ∈ xs ∨ x < f) ∧ (∀ x ∈ xs, x ∈ ts)
theorem waits_start {ts xs : List Int} (h : xs.Perm ts) : Waits ts xs 1 := ⟨by omega, fun m h1 h2 => by omega, fun x hx => Or.inl (h.mem_iff.2 hx), fun x hx => h.mem_iff.1 hx⟩
theorem waits_done {ts xs : List Int} {f : Int} (hw : Waits ts xs f) (hh : HeapN xs.length xs) (hd : xs = [] ∨ f < xs.getD 0 0) : FreeOf ts f := by
  refine ⟨hw.1, fun hf => ?_, hw.2.1⟩
  rcases hw.2.2.1 f hf with h | h
  · rcases hd with rfl | hd
    · cases h
    · have := heap_mem hh h; omega
  · omega
theorem waits_step {ts xs ys : List Int} {f x : Int} (hw : Waits ts xs f) (hp : xs.Perm (x :: ys)) (hx : x ≤ f) : Waits ts ys (if x = f then f + 1 else f) := by
  have hxt : x ∈ ts := hw.2.2.2 x (hp.mem_iff.2 (by simp))
  have hy : ∀ y ∈ ys, y ∈ ts := fun y hy => hw.2.2.2 y (hp.mem_iff.2 (by simp [hy]))
  have ht : ∀ z ∈ ts, z ∈ ys ∨ z = x ∨ z < f := fun z hz => by
    rcases hw.2.2.1 z hz with h | h
    · rcases List.mem_cons.1 (hp.mem_iff.1 h) with h | h
      · exact Or.inr (Or.inl h)
      · exact Or.inl h
    · exact Or.inr (Or.inr h)
  by_cases e : x = f
  · rw [if_pos e]
    refine ⟨by have := hw.1; omega, fun m h1 h2 => ?_, fun z hz => ?_, hy⟩
    · by_cases e2 : m = f
      · rw [e2, ← e]; exact hxt
      · exact hw.2.1 m h1 (by omega)
    · rcases ht z hz with h | h | h
      · exact Or.inl h
      · right; omega
      · right; omega
  · rw [if_neg e]
    refine ⟨hw.1, hw.2.1, fun z hz => ?_, hy⟩
    rcases ht z hz with h | h | h
    · exact Or.inl h
    · right; omega
    · exact Or.inr h
end Go.Proofs.Ytmplekjiciedgaa

namespace Go.Proofs.Ytmplekjiciedgaa
set_option linter.unusedVariables false

/-- The least number from n on, of k, that isn't out. -/
def leastGo (l : List Bool) : Nat → Nat → Nat
  | 0, _ => 0
  | k + 1, n => if l.getD n true = false then n else leastGo l k (n + 1)
def leastN (m : Nat) (l : List Bool) : Nat := leastGo l m 1
/-- How many are out. -/
def cntGo (l : List Bool) : Nat → Nat → Nat
  | 0, _ => 0
  | k + 1, n => (if l.getD n false = true then 1 else 0) + cntGo l k (n + 1)
def countN (m : Nat) (l : List Bool) : Nat := cntGo l m 1
theorem cntGo_le (l : List Bool) : ∀ k n, cntGo l k n ≤ k
  | 0, _ => Nat.le_refl _
  | k + 1, n => by
    have := cntGo_le l k (n + 1)
    unfold cntGo
    split <;> omega
end Go.Proofs.Ytmplekjiciedgaa

namespace Go.Proofs.Ytmplekjiciedgaa
open Go.RowKit Go.Sort
set_option linter.unusedVariables false

/-- A slice of numbers of one's own. -/
def OwnN (B : Nat) (w : World) (v : Value) (xs : List Int) : Prop := w.ownsRow B 3 1 v xs.length (xs.map (Value.int .i64))
theorem OwnN.set {B g n cap i : Nat} {w : World} {xs : List Int} (x : Int) (h : OwnN B w (.slice (some ⟨g, 0, none⟩) n cap) xs) : OwnN B (w.setCell ⟨g, i, none⟩ (.int .i64 x)) (.slice (some ⟨g, 0, none⟩) n cap) (xs.set i x) := by
  refine ⟨by simp, ?_⟩
  rcases h.2 with ⟨hv, _⟩ | ⟨g', cap', cur, hv, hg, hb, hn, hm, hs, ht⟩
  · cases hv
  · cases hv
    refine Or.inr ⟨g, cap, cur.setIfInBounds i (.int .i64 x), by simp, hg, ?_, by simpa using hn, hm, by simpa using hs, ?_⟩
    · rw [setCell_eq]
      simp [mapBlock, Array.getElem?_modify, hb, onCells]
    · rw [Array.toList_setIfInBounds, List.length_set, List.map_set, List.take_set, ht]
theorem OwnN.cell {B g n cap j : Nat} {w : World} {xs : List Int} (h : OwnN B w (.slice (some ⟨g, 0, none⟩) n cap) xs) (hj : j < xs.length) : w.cell? ⟨g, j, none⟩ = some (.int .i64 (xs.getD j 0)) ∧ w.frozen? ⟨g, j, none⟩ = false := by
  rcases h.2 with ⟨hv, _⟩ | ⟨g', cap', cur, hv, hg, hb, hn, hm, hs, ht⟩
  · cases hv
  · cases hv
    refine ⟨?_, Lib.frozen_of_heap hb j⟩
    rw [Lib.cell_of_heap hb, ← Array.getElem?_toList]
    have := congrArg (·[j]?) ht
    simp only [Nat.mul_one, List.getElem?_take, if_pos hj] at this
    rw [this]
    simp [List.getElem?_eq_getElem hj, List.getD_eq_getElem?_getD]
theorem OwnN.below {B : Nat} {w w' : World} {v : Value} {xs : List Int} (h : OwnN B w v xs) (hb : Below w.heap.size w w') : OwnN B w' v xs :=
  h.kept (row := none) ⟨hb.os, hb.tape, hb.output, hb.size, fun k hk _ => hb.block k hk⟩ (by cases h : v.ownBlock with | none => exact Or.inl rfl | some x => exact Or.inr (by simp))
theorem OwnN.drewN {B : Nat} {w : World} {v : Value} {xs : List Int} (h : OwnN B w v xs) (q : Nat) : OwnN B (w.drewN q) v xs := by
  induction q with
  | zero => exact h
  | succ q ih => exact ih.below (Below.refl _ _).drew
/-- The own form: at the head of a block from B on. -/
theorem OwnN.head {B : Nat} {w : World} {v : Value} {xs : List Int} (h : OwnN B w v xs) (hne : xs ≠ []) : ∃ g cap, v = .slice (some ⟨g, 0, none⟩) xs.length cap ∧ B ≤ g ∧ g < w.heap.size ∧ xs.length ≤ cap := by
  rcases h.2 with ⟨hv, h0⟩ | ⟨g, cap, cur, hv, hg, hb, hn, hm, hs, ht⟩
  · exact absurd (List.eq_nil_of_length_eq_zero h0) hne
  · exact ⟨g, cap, hv, hg, (h.lt g (by rw [hv]; rfl)).2, hn⟩
theorem OwnN.len {B : Nat} {w : World} {v : Value} {xs : List Int} (h : OwnN B w v xs) : ∃ a cap, v = .slice a xs.length cap := by
  rcases h.2 with ⟨hv, h0⟩ | ⟨g, cap, cur, hv, _⟩
  · exact ⟨none, 0, by rw [hv, h0]⟩
  · exact ⟨_, cap, hv⟩

theorem grown_refl (w : World) (r : Option Nat) : w.grownBy w r := ⟨rfl, rfl, rfl, Nat.le_refl _, fun _ _ _ => rfl⟩
theorem grown_drew {a w : World} {r : Option Nat} (h : a.grownBy w r) : a.grownBy w.drew r := ⟨h.os, h.tape, h.output, h.size, h.block⟩
theorem below_drewN2 {B : Nat} {a w : World} (h : Below B a w) : ∀ q, Below B a (w.drewN q)
  | 0 => h
  | q + 1 => (below_drewN2 h q).drew
theorem grown_drewN {a w : World} {r : Option Nat} {q : Nat} (h : (a.drewN q).grownBy w r) : a.grownBy w r := by
  have hb := below_drewN2 (Below.refl a.heap.size a) q
  exact ⟨h.os.trans hb.os, h.tape.trans hb.tape, h.output.trans hb.output, Nat.le_trans hb.size h.size, fun k hk hne => (h.block k (by have := hb.size; omega) hne).trans (hb.block k hk)⟩
theorem grown_set {a w : World} {r : Option Nat} (h : a.grownBy w r) {p : Addr} (hp : r = some p.block) (x : Value) : a.grownBy (w.setCell p x) r :=
  ⟨h.os, h.tape, h.output, by simpa [World.setCell] using h.size, fun k hk hne => by
    rw [Below.heap_setCell w p x k (fun e => hne (by rw [hp, e]))]
    exact h.block k hk hne⟩
theorem len_c (a : Option Addr) (n cap : Nat) (w : World) : Calls Try.prog 41 #[.slice a n cap] w fun e w' => e = .returned (.int .i64 n) ∧ w = w' := by
  go_enter Try.func41, Try.ntmps41
  go_wp2
  go_ret
  exact ⟨rfl, rfl⟩
set_option maxHeartbeats 1000000 in
theorem less_c (B g n cap i j : Nat) (xs : List Int) (w : World) (h : OwnN B w (.slice (some ⟨g, 0, none⟩) n cap) xs) (hn : xs.length = n) (hi : i < n) (hj : j < n) (b : Bool) (hb : decide (xs.getD i 0 < xs.getD j 0) = b) :
    Calls Try.prog 84 #[.slice (some ⟨g, 0, none⟩) n cap, .int .i64 i, .int .i64 j] w fun e w' => e = .returned (.bool b) ∧ ∃ q, w' = w.drewN q := by
  obtain ⟨c1, _⟩ := h.cell (j := i) (by omega)
  obtain ⟨c2, _⟩ := h.cell (j := j) (by omega)
  generalize xs.getD i 0 = x at *
  generalize xs.getD j 0 = y at *
  have hiz : (i : Int) < (n : Int) := by omega
  have hjz : (j : Int) < (n : Int) := by omega
  subst hb
  clear hn h
  go_enter Try.func84, Try.ntmps84
  go_wp2
  go_quiet (fail)
  go_wp2
  go_ret
  exact ⟨rfl, _, rfl⟩
set_option maxHeartbeats 1000000 in
theorem swap_c (B g n cap i j : Nat) (xs : List Int) (w : World) (h : OwnN B w (.slice (some ⟨g, 0, none⟩) n cap) xs) (hB : B ≤ g) (hn : xs.length = n) (hi : i < n) (hj : j < n) :
    Calls Try.prog 86 #[.slice (some ⟨g, 0, none⟩) n cap, .int .i64 i, .int .i64 j] w fun e w' => e = .returned (.tuple #[]) ∧ OwnN B w' (.slice (some ⟨g, 0, none⟩) n cap) (swI xs i j) ∧ w.grownBy w' (some g) := by
  have h9 := h.cell (j := i) (by omega)
  have h8 := h.cell (j := j) (by omega)
  have HO : Hid (OwnN B ((w.setCell ⟨g, i, none⟩ (.int .i64 (xs.getD j 0))).setCell ⟨g, j, none⟩ (.int .i64 (xs.getD i 0))).drew (.slice (some ⟨g, 0, none⟩) n cap) (swI xs i j)) := Lib.hid (((h.set (xs.getD j 0)).set (xs.getD i 0)).below (Below.refl _ _).drew)
  have HBl : Hid (w.grownBy ((w.setCell ⟨g, i, none⟩ (.int .i64 (xs.getD j 0))).setCell ⟨g, j, none⟩ (.int .i64 (xs.getD i 0))).drew (some g)) := Lib.hid (grown_drew (grown_set (grown_set (grown_refl w _) (p := ⟨g, i, none⟩) rfl _) (p := ⟨g, j, none⟩) rfl _))
  obtain ⟨c1, f1⟩ := h9
  obtain ⟨c2, f2⟩ := h8
  have hxy : i = j → xs.getD i 0 = xs.getD j 0 := fun e => by rw [e]
  generalize swI xs i j = ys at *
  generalize xs.getD i 0 = x at *
  generalize xs.getD j 0 = y at *
  have hiz : (i : Int) < (n : Int) := by omega
  have hjz : (j : Int) < (n : Int) := by omega
  by_cases hij : i = j
  · subst hij
    obtain rfl := hxy rfl
    clear hn h hxy
    go_enter Try.func86, Try.ntmps86
    go_wp2
    go_big_region
    all_goals go_wp2
    go_end0
    exact ⟨rfl, HO.out, HBl.out⟩
  · have hji : j ≠ i := Ne.symm hij
    clear hn h hxy
    go_enter Try.func86, Try.ntmps86
    go_wp2
    go_big_region
    all_goals go_wp2
    go_end0
    exact ⟨rfl, HO.out, HBl.out⟩
end Go.Proofs.Ytmplekjiciedgaa

namespace Go.Proofs.Ytmplekjiciedgaa
open Go.RowKit Go.Sort
set_option linter.unusedVariables false

/-- What stays besides a block and a row. -/
structure Keeps (b : Nat) (r : Option Nat) (w0 w : World) : Prop where
  os : w.os = w0.os
  tape : w.tape = w0.tape
  output : w.output = w0.output
  size : w0.heap.size ≤ w.heap.size
  block : ∀ k, k < w0.heap.size → k ≠ b → some k ≠ r → w.heap[k]? = w0.heap[k]?
theorem Keeps.refl (b : Nat) (r : Option Nat) (w : World) : Keeps b r w w := ⟨rfl, rfl, rfl, Nat.le_refl _, fun _ _ _ _ => rfl⟩
theorem Keeps.below {b B : Nat} {r : Option Nat} {w0 w : World} (h : Keeps b r w0 w) (hB : B ≤ b) (hs : B ≤ w0.heap.size) (hr : ∀ k, r = some k → B ≤ k) : Below B w0 w :=
  ⟨h.os, h.tape, h.output, h.size, fun k hk => h.block k (by omega) (by omega) (fun e => by have := hr k e.symm; omega)⟩
theorem Keeps.ofBelow {b : Nat} {r : Option Nat} {w0 w w' : World} (h : Keeps b r w0 w) (hb : Below w.heap.size w w') : Keeps b r w0 w' :=
  ⟨hb.os.trans h.os, hb.tape.trans h.tape, hb.output.trans h.output, Nat.le_trans h.size hb.size, fun k hk h1 h2 => (hb.block k (by have := h.size; omega)).trans (h.block k hk h1 h2)⟩
/-- A pool's three cells. -/
def poolO (m u : Nat) (v : Value) : Array Value := #[.int .i64 (m : Int), .int .i64 (u : Int), v]
/-- The pool at b: the greatest number, how far numbers are used, and those that wait, whose cells are its own; since w0 nothing but the pool, and the row that it had then, is otherwise. -/
structure Box (w0 : World) (r : Option Nat) (m u b : Nat) (w : World) (v : Value) (xs : List Int) : Prop where
  at' : w.heap[b]? = some (.cells (poolO m u v) 53 (0, 0))
  own : OwnN (b + 1) w v xs
  row : ∀ k, v.ownBlock = some k → some k = r ∨ w0.heap.size ≤ k
  keep : Keeps b r w0 w
theorem lt_getH {w : World} {b : Nat} {o : Obj} (h : w.heap[b]? = some o) : b < w.heap.size := (Array.getElem?_eq_some_iff.1 h).1
section
variable {w0 w w' : World} {r : Option Nat} {m u b : Nat} {v v' : Value} {xs ys : List Int}
theorem Box.cell (h : Box w0 r m u b w v xs) : w.cell? ⟨b, 2, none⟩ = some v ∧ w.frozen? ⟨b, 2, none⟩ = false := ⟨by rw [Lib.cell_of_heap h.at']; rfl, Lib.frozen_of_heap h.at' 2⟩
theorem Box.cell0 (h : Box w0 r m u b w v xs) : w.cell? ⟨b, 0, none⟩ = some (.int .i64 (m : Int)) ∧ w.frozen? ⟨b, 0, none⟩ = false := ⟨by rw [Lib.cell_of_heap h.at']; rfl, Lib.frozen_of_heap h.at' 0⟩
theorem Box.cell1 (h : Box w0 r m u b w v xs) : w.cell? ⟨b, 1, none⟩ = some (.int .i64 (u : Int)) ∧ w.frozen? ⟨b, 1, none⟩ = false := ⟨by rw [Lib.cell_of_heap h.at']; rfl, Lib.frozen_of_heap h.at' 1⟩
theorem Box.lt (h : Box w0 r m u b w v xs) : b < w.heap.size := lt_getH h.at'
theorem Box.away (h : Box w0 r m u b w v xs) : v.ownBlock ≠ some b := fun e => by have := (h.own.lt b e).1; omega
theorem Box.drew (h : Box w0 r m u b w v xs) : Box w0 r m u b w.drew v xs := ⟨h.at', h.own.below (Below.refl _ _).drew, h.row, ⟨h.keep.os, h.keep.tape, h.keep.output, h.keep.size, h.keep.block⟩⟩
theorem Box.drewN (h : Box w0 r m u b w v xs) (q : Nat) : Box w0 r m u b (w.drewN q) v xs := by
  induction q with
  | zero => exact h
  | succ q ih => exact ih.drew
theorem Keeps.grown (h : Keeps b r w0 w) (hr : ∀ k, v.ownBlock = some k → some k = r ∨ w0.heap.size ≤ k) (hg : w.grownBy w' v.ownBlock) : Keeps b r w0 w' :=
  ⟨hg.os.trans h.os, hg.tape.trans h.tape, hg.output.trans h.output, Nat.le_trans h.size hg.size, fun k hk h1 h2 => by
    rw [hg.block k (by have := h.size; omega) (fun e => by
      rcases hr k e.symm with h3 | h3
      · exact h2 h3
      · omega)]
    exact h.block k hk h1 h2⟩
/-- The row's own cells change. -/
theorem Box.kept {g n cap : Nat} (h : Box w0 r m u b w (.slice (some ⟨g, 0, none⟩) n cap) xs) (hg : w.grownBy w' (some g)) (ho : OwnN (b + 1) w' (.slice (some ⟨g, 0, none⟩) n cap) ys) : Box w0 r m u b w' (.slice (some ⟨g, 0, none⟩) n cap) ys :=
  ⟨by rw [hg.block b h.lt (fun e => h.away e.symm)]; exact h.at', ho, h.row, h.keep.grown h.row hg⟩
/-- All blocks that were there stay. -/
theorem Box.below (h : Box w0 r m u b w v xs) (hb : Below w.heap.size w w') : Box w0 r m u b w' v xs :=
  ⟨by rw [hb.block b h.lt]; exact h.at', h.own.below hb, h.row, h.keep.ofBelow hb⟩
/-- Seen from now. -/
theorem Box.now (h : Box w0 r m u b w v xs) : Box w v.ownBlock m u b w v xs := ⟨h.at', h.own, fun k hk => Or.inl hk.symm, Keeps.refl _ _ _⟩
theorem Keeps.set (h : Keeps b r w0 w) (o : Nat) (x : Value) : Keeps b r w0 (w.setCell ⟨b, o, none⟩ x) :=
  ⟨h.os, h.tape, h.output, by have := h.size; rw [setCell_eq]; simpa [mapBlock] using this, fun k hk h1 h2 => by
    rw [Below.heap_setCell w ⟨b, o, none⟩ x k h1]
    exact h.block k hk h1 h2⟩
theorem OwnN.far {B : Nat} (h : OwnN B w v xs) {o : Nat} {x : Value} (hb : v.ownBlock ≠ some b) : OwnN B (w.setCell ⟨b, o, none⟩ x) v xs :=
  World.ownsRow.kept (row := some b) h ⟨rfl, rfl, rfl, by rw [setCell_eq]; simp [mapBlock], fun k hk hne => Below.heap_setCell w ⟨b, o, none⟩ x k (fun e => hne (by rw [e]))⟩ (Or.inr hb)
/-- The slice is stored anew. -/
theorem Box.put (h : Box w0 r m u b w v xs) (hg : w.grownBy w' v.ownBlock) (ho : OwnN (b + 1) w' v' ys) (hr : ∀ k, v'.ownBlock = some k → some k = v.ownBlock ∨ w.heap.size ≤ k) : Box w0 r m u b (w'.setCell ⟨b, 2, none⟩ v') v' ys := by
  have hat : w'.heap[b]? = some (.cells (poolO m u v) 53 (0, 0)) := by rw [hg.block b h.lt (fun e => h.away e.symm)]; exact h.at'
  refine ⟨?_, ho.far (fun e => by have := (ho.lt b e).1; omega), fun k hk => ?_, (h.keep.grown h.row hg).set 2 v'⟩
  · rw [setCell_eq]
    simp [mapBlock, Array.getElem?_modify, hat, onCells, poolO]
  · rcases hr k hk with h1 | h1
    · exact h.row k h1.symm
    · right
      have := h.keep.size
      omega
/-- How far numbers are used is stored anew. -/
theorem Box.use (h : Box w0 r m u b w v xs) (u' : Nat) : Box w0 r m u' b (w.setCell ⟨b, 1, none⟩ (.int .i64 (u' : Int))) v xs := by
  refine ⟨?_, h.own.far h.away, h.row, h.keep.set 1 _⟩
  rw [setCell_eq]
  simp [mapBlock, Array.getElem?_modify, h.at', onCells, poolO]
end

theorem run_slice (w : World) (a : Addr) (v : Value) (h : w.cell? a = some v) : (loadVar 49 a).run Try.prog w = .ok v w := by
  have hagg : (isAgg 49).run Try.prog w = .ok false w := by kernel_rfl
  simp [loadVar, Sem.run_bind, hagg, h]
theorem run_far (w : World) (b : Nat) : (follow [⟨51, 0, true⟩] 82 (.val (.pointer (some ⟨b, 2, none⟩)))).run Try.prog w = .ok (49, .var ⟨b, 2, none⟩) w := by
  kernel_rfl
theorem run_receiver (w : World) (a : Addr) (v : Value) (h : w.cell? a = some v) (o : Option String) : (receiverAt 49 (.var a) false o).run Try.prog w = .ok v w := by
  have hu : (underlying 49).run Try.prog w = .ok (.slice 3) w := run_underlying Try.underlying49 w
  have hn := run_slice w a v h
  simp only [receiverAt, Sem.run_bind, hu, Result.andThen_ok, Place.get, hn]
theorem meth_val (name : String) (K : Nat) (hi : (Try.prog.info? 82).bind (fun i => (i.methods.find? (·.name == name)).map fun m => (m.path.toList, m.func)) = some ([⟨51, 0, true⟩], some (K, false))) (b : Nat) (v : Value) (w : World) (h : w.cell? ⟨b, 2, none⟩ = some v) :
    (method 231 82 (.pointer (some ⟨b, 2, none⟩)) name).run Try.prog w = .ok (K, v) w := by
  obtain ⟨i, hi1, hi2⟩ := Option.bind_eq_some_iff.1 hi
  obtain ⟨m, hm1, hm2⟩ := Option.map_eq_some_iff.1 hi2
  simp only [Prod.mk.injEq] at hm2
  obtain ⟨hp, hf⟩ := hm2
  have hr := fun o => run_receiver w ⟨b, 2, none⟩ v h o
  have hfar := run_far w b
  rw [method.eq_2]
  simp only [Sem.run_bind, typeInfo, run_program, Result.andThen_ok, hi1, Sem.run_pure, hm1, hp, hfar, hf, hr]
theorem meth_less (b : Nat) (v : Value) (w : World) (h : w.cell? ⟨b, 2, none⟩ = some v) : (method 231 82 (.pointer (some ⟨b, 2, none⟩)) "Less").run Try.prog w = .ok (84, v) w := meth_val "Less" _ (by kernel_rfl) b v w h
theorem meth_swap (b : Nat) (v : Value) (w : World) (h : w.cell? ⟨b, 2, none⟩ = some v) : (method 231 82 (.pointer (some ⟨b, 2, none⟩)) "Swap").run Try.prog w = .ok (86, v) w := meth_val "Swap" _ (by kernel_rfl) b v w h
theorem meth_len (b : Nat) (v : Value) (w : World) (h : w.cell? ⟨b, 2, none⟩ = some v) : (method 231 82 (.pointer (some ⟨b, 2, none⟩)) "Len").run Try.prog w = .ok (41, v) w := meth_val "Len" _ (by kernel_rfl) b v w h
theorem meth_push (b : Nat) (w : World) : (method 231 82 (.pointer (some ⟨b, 2, none⟩)) "Push").run Try.prog w = .ok (89, .pointer (some ⟨b, 2, none⟩)) w := by kernel_rfl
theorem meth_pop (b : Nat) (w : World) : (method 231 82 (.pointer (some ⟨b, 2, none⟩)) "Pop").run Try.prog w = .ok (88, .pointer (some ⟨b, 2, none⟩)) w := by kernel_rfl
theorem ahead_less (b : Nat) (w : World) : (nilAhead 231 82 (.pointer (some ⟨b, 2, none⟩)) "Less").run Try.prog w = .ok (some false) w := by kernel_rfl
theorem ahead_swap (b : Nat) (w : World) : (nilAhead 231 82 (.pointer (some ⟨b, 2, none⟩)) "Swap").run Try.prog w = .ok (some false) w := by kernel_rfl
theorem ahead_len (b : Nat) (w : World) : (nilAhead 231 82 (.pointer (some ⟨b, 2, none⟩)) "Len").run Try.prog w = .ok (some false) w := by kernel_rfl
end Go.Proofs.Ytmplekjiciedgaa

namespace Go.Proofs.Ytmplekjiciedgaa
set_option linter.unusedVariables false

def outAt (u : Nat) (ys : List Int) (n : Nat) : Bool := decide (1 ≤ n ∧ n ≤ u ∧ (n : Int) ∉ ys)
def outRow (u : Nat) (ys : List Int) : List Bool := (List.range 201).map (outAt u ys)
theorem outRow_length (u : Nat) (ys : List Int) : (outRow u ys).length = 201 := by simp [outRow]
theorem outRow_get (u : Nat) (ys : List Int) {n : Nat} (h : n ≤ 200) : (outRow u ys)[n]? = some (outAt u ys n) := by
  unfold outRow
  rw [List.getElem?_map, List.getElem?_range (by omega)]
  rfl
theorem outRow_getD (u : Nat) (ys : List Int) {n : Nat} (h : n ≤ 200) (d : Bool) : (outRow u ys).getD n d = outAt u ys n := by
  rw [List.getD_eq_getElem?_getD, outRow_get u ys h]
  rfl
/-- A pool's numbers. -/
structure GoodP (m u : Nat) (ys : List Int) : Prop where
  um : u ≤ m
  m200 : m ≤ 200
  nd : ys.Nodup
  mem : ∀ y ∈ ys, 1 ≤ y ∧ y ≤ (u : Int)
  heap : HeapN ys.length ys
theorem outRow_set {u u' : Nat} {ys ys' : List Int} {j : Nat} {x : Bool} (hj : j ≤ 200) (hx : outAt u' ys' j = x) (h : ∀ n, n ≤ 200 → n ≠ j → outAt u' ys' n = outAt u ys n) : outRow u' ys' = (outRow u ys).set j x := by
  apply List.ext_getElem?
  intro n
  by_cases hn : n ≤ 200
  · rw [outRow_get u' ys' hn]
    by_cases e : n = j
    · subst e
      rw [List.getElem?_set_self (by rw [outRow_length]; omega), hx]
    · rw [List.getElem?_set_ne (fun e' => e e'.symm), outRow_get u ys hn, h n hn e]
  · rw [List.getElem?_eq_none (by rw [outRow_length]; omega), List.getElem?_eq_none (by rw [List.length_set, outRow_length]; omega)]
theorem leastGo_at {l : List Bool} {j : Nat} (hj : l.getD j true = false) : ∀ (k n : Nat), n ≤ j → j < n + k → (∀ i, n ≤ i → i < j → l.getD i true = true) → leastGo l k n = j
  | 0, n, h1, h2, _ => by omega
  | k + 1, n, h1, h2, h => by
    unfold leastGo
    by_cases e : n = j
    · subst e
      rw [if_pos hj]
    · rw [if_neg (by rw [h n (Nat.le_refl _) (by omega)]; simp)]
      exact leastGo_at hj k (n + 1) (by omega) (by omega) (fun i h3 h4 => h i (by omega) h4)
theorem leastGo_none {l : List Bool} : ∀ (k n : Nat), (∀ i, n ≤ i → i < n + k → l.getD i true = true) → leastGo l k n = 0
  | 0, n, _ => rfl
  | k + 1, n, h => by
    unfold leastGo
    rw [if_neg (by rw [h n (Nat.le_refl _) (by omega)]; simp)]
    exact leastGo_none k (n + 1) (fun i h3 h4 => h i (by omega) (by omega))
theorem leastGo_le {l : List Bool} : ∀ (k n : Nat), leastGo l k n = 0 ∨ (n ≤ leastGo l k n ∧ leastGo l k n < n + k)
  | 0, n => Or.inl rfl
  | k + 1, n => by
    unfold leastGo
    split
    · right; omega
    · rcases leastGo_le (l := l) k (n + 1) with h | h
      · exact Or.inl h
      · right; omega
theorem leastN_le (m : Nat) (l : List Bool) : leastN m l ≤ m := by
  rcases leastGo_le (l := l) m 1 with h | h
  · unfold leastN; omega
  · unfold leastN; omega
theorem cntGo_set {l : List Bool} {j : Nat} (hj : l[j]? = some true) : ∀ (k n : Nat), n ≤ j → j < n + k → cntGo (l.set j false) k n + 1 = cntGo l k n
  | 0, n, h1, h2 => by omega
  | k + 1, n, h1, h2 => by
    have hlt : j < l.length := (List.getElem?_eq_some_iff.1 hj).1
    unfold cntGo
    by_cases e : n = j
    · subst e
      have hs : ∀ (k i : Nat), n < i → cntGo (l.set n false) k i = cntGo l k i := by
        intro k
        induction k with
        | zero => intro i _; rfl
        | succ k ih =>
          intro i hi
          unfold cntGo
          rw [ih (i + 1) (by omega)]
          simp only [List.getD_eq_getElem?_getD]
          rw [List.getElem?_set_ne (by omega)]
      rw [hs k (n + 1) (by omega)]
      simp only [List.getD_eq_getElem?_getD, List.getElem?_set_self hlt, hj]
      simp
      omega
    · have h5 := cntGo_set hj k (n + 1) (by omega) (by omega)
      have h6 : (l.set j false).getD n false = l.getD n false := by rw [List.getD_eq_getElem?_getD, List.getElem?_set_ne (fun e' => e e'.symm), List.getD_eq_getElem?_getD]
      rw [h6]
      omega
theorem cntGo_all {l : List Bool} {u : Nat} : ∀ (k n : Nat), (∀ i, n ≤ i → i < n + k → l.getD i false = decide (i ≤ u)) → n ≤ u + 1 → u < n + k → cntGo l k n = u + 1 - n
  | 0, n, _, h1, h2 => by
    have : u + 1 - n = 0 := by omega
    rw [this]; rfl
  | k + 1, n, h, h1, h2 => by
    unfold cntGo
    rw [h n (Nat.le_refl _) (by omega)]
    by_cases e : n ≤ u
    · rw [decide_eq_true e, if_pos rfl]
      rw [cntGo_all k (n + 1) (fun i h3 h4 => h i (by omega) (by omega)) (by omega) (by omega)]
      omega
    · have hz : ∀ (k i : Nat), u < i → (∀ q, i ≤ q → q < i + k → l.getD q false = decide (q ≤ u)) → cntGo l k i = 0 := by
        intro k
        induction k with
        | zero => intro i _ _; rfl
        | succ k ih =>
          intro i hi hq
          unfold cntGo
          rw [hq i (Nat.le_refl _) (by omega), decide_eq_false (by omega), if_neg (by simp), ih (i + 1) (by omega) (fun q h3 h4 => hq q (by omega) (by omega))]
      rw [decide_eq_false e, if_neg (by simp), hz k (n + 1) (by omega) (fun q h3 h4 => h q (by omega) (by omega))]
      omega
theorem outRow_snoc {u : Nat} {ys : List Int} {y : Int} (hy : y ∉ ys) (h1 : 1 ≤ y) (h2 : y ≤ (u : Int)) (hu : u ≤ 200) : outRow u (y :: ys) = (outRow u ys).set y.toNat false := by
  refine outRow_set (by omega) ?_ (fun n hn hne => ?_)
  · unfold outAt
    rw [decide_eq_false]
    intro h
    exact h.2.2 (by simp; omega)
  · unfold outAt
    congr 1
    apply propext
    rw [List.mem_cons, not_or]
    constructor
    · rintro ⟨a, b, c, d⟩; exact ⟨a, b, d⟩
    · rintro ⟨a, b, d⟩; exact ⟨a, b, by omega, d⟩
theorem count_out {m u : Nat} (um : u ≤ m) (hm : m ≤ 200) : ∀ (ys : List Int), ys.Nodup → (∀ y ∈ ys, 1 ≤ y ∧ y ≤ (u : Int)) → countN m (outRow u ys) + ys.length = u
  | [], _, _ => by
    unfold countN
    by_cases hm0 : m = 0
    · subst hm0
      have : u = 0 := by omega
      subst this
      rfl
    · rw [cntGo_all (u := u) m 1 (fun i h1 h2 => ?_) (by omega) (by omega)]
      · simp
      · rw [outRow_getD _ _ (by omega)]
        unfold outAt
        congr 1
        apply propext
        simp
        omega
  | y :: ys, hn, hr => by
    obtain ⟨h1, h2⟩ := List.nodup_cons.1 hn
    have hy := hr y (by simp)
    have ih := count_out um hm ys h2 (fun z hz => hr z (by simp [hz]))
    rw [outRow_snoc h1 hy.1 hy.2 (by omega)]
    have hg : (outRow u ys)[y.toNat]? = some true := by
      rw [outRow_get _ _ (by omega)]
      unfold outAt
      rw [decide_eq_true]
      exact ⟨by omega, by omega, by rw [show ((y.toNat : Nat) : Int) = y by omega]; exact h1⟩
    have := cntGo_set hg m 1 (by omega) (by omega)
    unfold countN at *
    rw [List.length_cons]
    omega
theorem outRow_perm {u : Nat} {ys zs : List Int} (h : ys.Perm zs) : outRow u ys = outRow u zs := by
  unfold outRow
  congr 1
  funext n
  unfold outAt
  congr 1
  apply propext
  rw [h.mem_iff]
section
variable {m u : Nat} {ys : List Int}
theorem GoodP.count (h : GoodP m u ys) : countN m (outRow u ys) + ys.length = u := count_out h.um h.m200 ys h.nd h.mem
theorem GoodP.len (h : GoodP m u ys) : ys.length ≤ 200 := by have := h.count; have := h.um; have := h.m200; omega
/-- A number that waits is taken: the least. -/
theorem GoodP.take {zs : List Int} (h : GoodP m u ys) (hp : ys.Perm (ys.getD 0 0 :: zs)) (hz : HeapN zs.length zs) : ∃ n : Nat, ys.getD 0 0 = (n : Int) ∧ 1 ≤ n ∧ leastN m (outRow u ys) = n ∧ GoodP m u zs ∧ outRow u zs = (outRow u ys).set n true := by
  generalize hx : ys.getD 0 0 = x at *
  have hxm : x ∈ ys := hp.mem_iff.2 (by simp)
  obtain ⟨h1, h2⟩ := h.mem x hxm
  have hnd := h.nd
  rw [hp.nodup_iff, List.nodup_cons] at hnd
  have hu := h.um
  have hm := h.m200
  refine ⟨x.toNat, by omega, by omega, ?_, ⟨h.um, h.m200, hnd.2, fun y hy => h.mem y (hp.mem_iff.2 (by simp [hy])), hz⟩, ?_⟩
  · refine leastGo_at ?_ m 1 (by omega) (by omega) (fun i h3 h4 => ?_)
    · rw [outRow_getD _ _ (by omega)]
      unfold outAt
      rw [decide_eq_false]
      intro hh
      exact hh.2.2 (by rw [show ((x.toNat : Nat) : Int) = x by omega]; exact hxm)
    · rw [outRow_getD _ _ (by omega)]
      unfold outAt
      rw [decide_eq_true]
      refine ⟨h3, by omega, fun hi => ?_⟩
      have := heap_mem h.heap hi
      omega
  · rw [outRow_perm (u := u) hp]
    rw [outRow_snoc hnd.1 h1 h2 (by omega), List.set_set]
    apply List.ext_getElem?
    intro n
    by_cases e : x.toNat = n
    · subst e
      rw [List.getElem?_set_self (by rw [outRow_length]; omega), outRow_get _ _ (by omega)]
      unfold outAt
      rw [decide_eq_true]
      exact ⟨by omega, by omega, by rw [show ((x.toNat : Nat) : Int) = x by omega]; exact hnd.1⟩
    · rw [List.getElem?_set_ne e]
/-- None waits, and all are used. -/
theorem GoodP.full (h : GoodP m u []) (e : u = m) : leastN m (outRow u []) = 0 := by
  refine leastGo_none m 1 (fun i h1 h2 => ?_)
  have := h.m200
  rw [outRow_getD _ _ (by omega)]
  unfold outAt
  rw [decide_eq_true]
  exact ⟨h1, by omega, by simp⟩
/-- None waits, and one more is used. -/
theorem GoodP.next (h : GoodP m u []) (e : u ≠ m) : leastN m (outRow u []) = u + 1 ∧ GoodP m (u + 1) [] ∧ outRow (u + 1) [] = (outRow u []).set (u + 1) true := by
  have hu := h.um
  have hm := h.m200
  refine ⟨?_, ⟨by omega, h.m200, h.nd, fun y hy => (by cases hy), h.heap⟩, ?_⟩
  · refine leastGo_at ?_ m 1 (by omega) (by omega) (fun i h3 h4 => ?_)
    · rw [outRow_getD _ _ (by omega)]
      unfold outAt
      rw [decide_eq_false]
      omega
    · rw [outRow_getD _ _ (by omega)]
      unfold outAt
      rw [decide_eq_true]
      exact ⟨h3, by omega, by simp⟩
  · refine outRow_set (by omega) ?_ (fun n hn hne => ?_)
    · unfold outAt
      rw [decide_eq_true]
      exact ⟨by omega, by omega, by simp⟩
    · unfold outAt
      congr 1
      apply propext
      constructor
      · rintro ⟨a, b, c⟩; exact ⟨a, by omega, c⟩
      · rintro ⟨a, b, c⟩; exact ⟨a, by omega, c⟩
/-- Is n out? -/
def isOut (m : Nat) (l : List Bool) (n : Int) : Bool := decide (1 ≤ n) && decide (n ≤ (m : Int)) && l.getD n.toNat false
theorem GoodP.isOut (h : GoodP m u ys) (n : Int) : isOut m (outRow u ys) n = decide (1 ≤ n ∧ n ≤ (u : Int) ∧ n ∉ ys) := by
  have hu := h.um
  have hm := h.m200
  unfold Go.Proofs.Ytmplekjiciedgaa.isOut
  by_cases h1 : 1 ≤ n
  · by_cases h2 : n ≤ (m : Int)
    · rw [decide_eq_true h1, decide_eq_true h2, outRow_getD _ _ (by omega)]
      unfold outAt
      rw [show ((n.toNat : Nat) : Int) = n by omega]
      simp only [Bool.true_and]
      congr 1
      apply propext
      constructor
      · rintro ⟨a, b, c⟩; exact ⟨h1, by omega, c⟩
      · rintro ⟨a, b, c⟩; exact ⟨by omega, by omega, c⟩
    · have hr : decide (1 ≤ n ∧ n ≤ (u : Int) ∧ n ∉ ys) = false := decide_eq_false (fun h => by omega)
      rw [hr, decide_eq_false h2]
      simp
  · have hr : decide (1 ≤ n ∧ n ≤ (u : Int) ∧ n ∉ ys) = false := decide_eq_false (fun h => h1 h.1)
    rw [hr, decide_eq_false h1]
    simp
/-- A number is given back. -/
theorem GoodP.give {zs : List Int} {n : Int} (h : GoodP m u ys) (h1 : 1 ≤ n) (h2 : n ≤ (u : Int)) (h3 : n ∉ ys) (hp : zs.Perm (n :: ys)) (hz : HeapN zs.length zs) : GoodP m u zs ∧ outRow u zs = (outRow u ys).set n.toNat false := by
  have hu := h.um
  have hm := h.m200
  refine ⟨⟨h.um, h.m200, hp.nodup_iff.2 (List.nodup_cons.2 ⟨h3, h.nd⟩), fun y hy => ?_, hz⟩, ?_⟩
  · rcases List.mem_cons.1 (hp.mem_iff.1 hy) with rfl | hy
    · exact ⟨h1, h2⟩
    · exact h.mem y hy
  · rw [outRow_perm (u := u) hp]
    exact outRow_snoc h3 h1 h2 (by omega)
end
end Go.Proofs.Ytmplekjiciedgaa
