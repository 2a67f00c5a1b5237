/-
  Which numbers of a pool are out, said by those that are used and those that wait; the least that is not out, and how many are out.
-/
import Derived.Test.YthaghhleidopeaaR9Plain
import Derived.Test.YthaghhleidopeaaHpMath
namespace Go.Proofs.Ythaghhleidopeaa
set_option linter.unusedVariables false

def outAt (u : Nat) (ys : List Int) (n : Nat) : Bool := decide (1 ≤ n ∧ n ≤ u ∧ (n : Int) ∉ ys)
def outRow (u : Nat) (ys : List Int) : List Bool := (List.range 201).map (outAt u ys)
theorem outRow_length (u : Nat) (ys : List Int) : (outRow u ys).length = 201 := by simp [outRow]
theorem outRow_get (u : Nat) (ys : List Int) {n : Nat} (h : n ≤ 200) : (outRow u ys)[n]? = some (outAt u ys n) := by
  unfold outRow
  rw [List.getElem?_map, List.getElem?_range (by omega)]
  rfl
theorem outRow_getD (u : Nat) (ys : List Int) {n : Nat} (h : n ≤ 200) (d : Bool) : (outRow u ys).getD n d = outAt u ys n := by
  rw [List.getD_eq_getElem?_getD, outRow_get u ys h]
  rfl
/-- A pool's numbers. -/
structure GoodP (m u : Nat) (ys : List Int) : Prop where
  um : u ≤ m
  m200 : m ≤ 200
  nd : ys.Nodup
  mem : ∀ y ∈ ys, 1 ≤ y ∧ y ≤ (u : Int)
  heap : HeapN ys.length ys
theorem outRow_set {u u' : Nat} {ys ys' : List Int} {j : Nat} {x : Bool} (hj : j ≤ 200) (hx : outAt u' ys' j = x) (h : ∀ n, n ≤ 200 → n ≠ j → outAt u' ys' n = outAt u ys n) : outRow u' ys' = (outRow u ys).set j x := by
  apply List.ext_getElem?
  intro n
  by_cases hn : n ≤ 200
  · rw [outRow_get u' ys' hn]
    by_cases e : n = j
    · subst e
      rw [List.getElem?_set_self (by rw [outRow_length]; omega), hx]
    · rw [List.getElem?_set_ne (fun e' => e e'.symm), outRow_get u ys hn, h n hn e]
  · rw [List.getElem?_eq_none (by rw [outRow_length]; omega), List.getElem?_eq_none (by rw [List.length_set, outRow_length]; omega)]
theorem leastGo_at {l : List Bool} {j : Nat} (hj : l.getD j true = false) : ∀ (k n : Nat), n ≤ j → j < n + k → (∀ i, n ≤ i → i < j → l.getD i true = true) → leastGo l k n = j
  | 0, n, h1, h2, _ => by omega
  | k + 1, n, h1, h2, h => by
    unfold leastGo
    by_cases e : n = j
    · subst e
      rw [if_pos hj]
    · rw [if_neg (by rw [h n (Nat.le_refl _) (by omega)]; simp)]
      exact leastGo_at hj k (n + 1) (by omega) (by omega) (fun i h3 h4 => h i (by omega) h4)
theorem leastGo_none {l : List Bool} : ∀ (k n : Nat), (∀ i, n ≤ i → i < n + k → l.getD i true = true) → leastGo l k n = 0
  | 0, n, _ => rfl
  | k + 1, n, h => by
    unfold leastGo
    rw [if_neg (by rw [h n (Nat.le_refl _) (by omega)]; simp)]
    exact leastGo_none k (n + 1) (fun i h3 h4 => h i (by omega) (by omega))
theorem leastGo_le {l : List Bool} : ∀ (k n : Nat), leastGo l k n = 0 ∨ (n ≤ leastGo l k n ∧ leastGo l k n < n + k)
  | 0, n => Or.inl rfl
  | k + 1, n => by
    unfold leastGo
    split
    · right; omega
    · rcases leastGo_le (l := l) k (n + 1) with h | h
      · exact Or.inl h
      · right; omega
theorem leastN_le (m : Nat) (l : List Bool) : leastN m l ≤ m := by
  rcases leastGo_le (l := l) m 1 with h | h
  · unfold leastN; omega
  · unfold leastN; omega
theorem cntGo_set {l : List Bool} {j : Nat} (hj : l[j]? = some true) : ∀ (k n : Nat), n ≤ j → j < n + k → cntGo (l.set j false) k n + 1 = cntGo l k n
  | 0, n, h1, h2 => by omega
  | k + 1, n, h1, h2 => by
    have hlt : j < l.length := (List.getElem?_eq_some_iff.1 hj).1
    unfold cntGo
    by_cases e : n = j
    · subst e
      have hs : ∀ (k i : Nat), n < i → cntGo (l.set n false) k i = cntGo l k i := by
        intro k
        induction k with
        | zero => intro i _; rfl
        | succ k ih =>
          intro i hi
          unfold cntGo
          rw [ih (i + 1) (by omega)]
          simp only [List.getD_eq_getElem?_getD]
          rw [List.getElem?_set_ne (by omega)]
      rw [hs k (n + 1) (by omega)]
      simp only [List.getD_eq_getElem?_getD, List.getElem?_set_self hlt, hj]
      simp
      omega
    · have h5 := cntGo_set hj k (n + 1) (by omega) (by omega)
      have h6 : (l.set j false).getD n false = l.getD n false := by rw [List.getD_eq_getElem?_getD, List.getElem?_set_ne (fun e' => e e'.symm), List.getD_eq_getElem?_getD]
      rw [h6]
      omega
theorem cntGo_all {l : List Bool} {u : Nat} : ∀ (k n : Nat), (∀ i, n ≤ i → i < n + k → l.getD i false = decide (i ≤ u)) → n ≤ u + 1 → u < n + k → cntGo l k n = u + 1 - n
  | 0, n, _, h1, h2 => by
    have : u + 1 - n = 0 := by omega
    rw [this]; rfl
  | k + 1, n, h, h1, h2 => by
    unfold cntGo
    rw [h n (Nat.le_refl _) (by omega)]
    by_cases e : n ≤ u
    · rw [decide_eq_true e, if_pos rfl]
      rw [cntGo_all k (n + 1) (fun i h3 h4 => h i (by omega) (by omega)) (by omega) (by omega)]
      omega
    · have hz : ∀ (k i : Nat), u < i → (∀ q, i ≤ q → q < i + k → l.getD q false = decide (q ≤ u)) → cntGo l k i = 0 := by
        intro k
        induction k with
        | zero => intro i _ _; rfl
        | succ k ih =>
          intro i hi hq
          unfold cntGo
          rw [hq i (Nat.le_refl _) (by omega), decide_eq_false (by omega), if_neg (by simp), ih (i + 1) (by omega) (fun q h3 h4 => hq q (by omega) (by omega))]
      rw [decide_eq_false e, if_neg (by simp), hz k (n + 1) (by omega) (fun q h3 h4 => h q (by omega) (by omega))]
      omega
theorem outRow_snoc {u : Nat} {ys : List Int} {y : Int} (hy : y ∉ ys) (h1 : 1 ≤ y) (h2 : y ≤ (u : Int)) (hu : u ≤ 200) : outRow u (y :: ys) = (outRow u ys).set y.toNat false := by
  refine outRow_set (by omega) ?_ (fun n hn hne => ?_)
  · unfold outAt
    rw [decide_eq_false]
    intro h
    exact h.2.2 (by simp; omega)
  · unfold outAt
    congr 1
    apply propext
    rw [List.mem_cons, not_or]
    constructor
    · rintro ⟨a, b, c, d⟩; exact ⟨a, b, d⟩
    · rintro ⟨a, b, d⟩; exact ⟨a, b, by omega, d⟩
theorem count_out {m u : Nat} (um : u ≤ m) (hm : m ≤ 200) : ∀ (ys : List Int), ys.Nodup → (∀ y ∈ ys, 1 ≤ y ∧ y ≤ (u : Int)) → countN m (outRow u ys) + ys.length = u
  | [], _, _ => by
    unfold countN
    by_cases hm0 : m = 0
    · subst hm0
      have : u = 0 := by omega
      subst this
      rfl
    · rw [cntGo_all (u := u) m 1 (fun i h1 h2 => ?_) (by omega) (by omega)]
      · simp
      · rw [outRow_getD _ _ (by omega)]
        unfold outAt
        congr 1
        apply propext
        simp
        omega
  | y :: ys, hn, hr => by
    obtain ⟨h1, h2⟩ := List.nodup_cons.1 hn
    have hy := hr y (by simp)
    have ih := count_out um hm ys h2 (fun z hz => hr z (by simp [hz]))
    rw [outRow_snoc h1 hy.1 hy.2 (by omega)]
    have hg : (outRow u ys)[y.toNat]? = some true := by
      rw [outRow_get _ _ (by omega)]
      unfold outAt
      rw [decide_eq_true]
      exact ⟨by omega, by omega, by rw [show ((y.toNat : Nat) : Int) = y by omega]; exact h1⟩
    have := cntGo_set hg m 1 (by omega) (by omega)
    unfold countN at *
    rw [List.length_cons]
    omega
theorem outRow_perm {u : Nat} {ys zs : List Int} (h : ys.Perm zs) : outRow u ys = outRow u zs := by
  unfold outRow
  congr 1
  funext n
  unfold outAt
  congr 1
  apply propext
  rw [h.mem_iff]
section
variable {m u : Nat} {ys : List Int}
theorem GoodP.count (h : GoodP m u ys) : countN m (outRow u ys) + ys.length = u := count_out h.um h.m200 ys h.nd h.mem
theorem GoodP.len (h : GoodP m u ys) : ys.length ≤ 200 := by have := h.count; have := h.um; have := h.m200; omega
/-- A number that waits is taken: the least. -/
theorem GoodP.take {zs : List Int} (h : GoodP m u ys) (hp : ys.Perm (ys.getD 0 0 :: zs)) (hz : HeapN zs.length zs) : ∃ n : Nat, ys.getD 0 0 = (n : Int) ∧ 1 ≤ n ∧ leastN m (outRow u ys) = n ∧ GoodP m u zs ∧ outRow u zs = (outRow u ys).set n true := by
  generalize hx : ys.getD 0 0 = x at *
  have hxm : x ∈ ys := hp.mem_iff.2 (by simp)
  obtain ⟨h1, h2⟩ := h.mem x hxm
  have hnd := h.nd
  rw [hp.nodup_iff, List.nodup_cons] at hnd
  have hu := h.um
  have hm := h.m200
  refine ⟨x.toNat, by omega, by omega, ?_, ⟨h.um, h.m200, hnd.2, fun y hy => h.mem y (hp.mem_iff.2 (by simp [hy])), hz⟩, ?_⟩
  · refine leastGo_at ?_ m 1 (by omega) (by omega) (fun i h3 h4 => ?_)
    · rw [outRow_getD _ _ (by omega)]
      unfold outAt
      rw [decide_eq_false]
      intro hh
      exact hh.2.2 (by rw [show ((x.toNat : Nat) : Int) = x by omega]; exact hxm)
    · rw [outRow_getD _ _ (by omega)]
      unfold outAt
      rw [decide_eq_true]
      refine ⟨h3, by omega, fun hi => ?_⟩
      have := heap_mem h.heap hi
      omega
  · rw [outRow_perm (u := u) hp]
    rw [outRow_snoc hnd.1 h1 h2 (by omega), List.set_set]
    apply List.ext_getElem?
    intro n
    by_cases e : x.toNat = n
    · subst e
      rw [List.getElem?_set_self (by rw [outRow_length]; omega), outRow_get _ _ (by omega)]
      unfold outAt
      rw [decide_eq_true]
      exact ⟨by omega, by omega, by rw [show ((x.toNat : Nat) : Int) = x by omega]; exact hnd.1⟩
    · rw [List.getElem?_set_ne e]
/-- None waits, and all are used. -/
theorem GoodP.full (h : GoodP m u []) (e : u = m) : leastN m (outRow u []) = 0 := by
  refine leastGo_none m 1 (fun i h1 h2 => ?_)
  have := h.m200
  rw [outRow_getD _ _ (by omega)]
  unfold outAt
  rw [decide_eq_true]
  exact ⟨h1, by omega, by simp⟩
/-- None waits, and one more is used. -/
theorem GoodP.next (h : GoodP m u []) (e : u ≠ m) : leastN m (outRow u []) = u + 1 ∧ GoodP m (u + 1) [] ∧ outRow (u + 1) [] = (outRow u []).set (u + 1) true := by
  have hu := h.um
  have hm := h.m200
  refine ⟨?_, ⟨by omega, h.m200, h.nd, fun y hy => (by cases hy), h.heap⟩, ?_⟩
  · refine leastGo_at ?_ m 1 (by omega) (by omega) (fun i h3 h4 => ?_)
    · rw [outRow_getD _ _ (by omega)]
      unfold outAt
      rw [decide_eq_false]
      omega
    · rw [outRow_getD _ _ (by omega)]
      unfold outAt
      rw [decide_eq_true]
      exact ⟨h3, by omega, by simp⟩
  · refine outRow_set (by omega) ?_ (fun n hn hne => ?_)
    · unfold outAt
      rw [decide_eq_true]
      exact ⟨by omega, by omega, by simp⟩
    · unfold outAt
      congr 1
      apply propext
      constructor
      · rintro ⟨a, b, c⟩; exact ⟨a, by omega, c⟩
      · rintro ⟨a, b, c⟩; exact ⟨a, by omega, c⟩
/-- Is n out? -/
def isOut (m : Nat) (l : List Bool) (n : Int) : Bool := decide (1 ≤ n) && decide (n ≤ (m : Int)) && l.getD n.toNat false
theorem GoodP.isOut (h : GoodP m u ys) (n : Int) : isOut m (outRow u ys) n = decide (1 ≤ n ∧ n ≤ (u : Int) ∧ n ∉ ys) := by
  have hu := h.um
  have hm := h.m200
  unfold Go.Proofs.Ythaghhleidopeaa.isOut
  by_cases h1 : 1 ≤ n
  · by_cases h2 : n ≤ (m : Int)
    · rw [decide_eq_true h1, decide_eq_true h2, outRow_getD _ _ (by omega)]
      unfold outAt
      rw [show ((n.toNat : Nat) : Int) = n by omega]
      simp only [Bool.true_and]
      congr 1
      apply propext
      constructor
      · rintro ⟨a, b, c⟩; exact ⟨h1, by omega, c⟩
      · rintro ⟨a, b, c⟩; exact ⟨by omega, by omega, c⟩
    · have hr : decide (1 ≤ n ∧ n ≤ (u : Int) ∧ n ∉ ys) = false := decide_eq_false (fun h => by omega)
      rw [hr, decide_eq_false h2]
      simp
  · have hr : decide (1 ≤ n ∧ n ≤ (u : Int) ∧ n ∉ ys) = false := decide_eq_false (fun h => h1 h.1)
    rw [hr, decide_eq_false h1]
    simp
/-- A number is given back. -/
theorem GoodP.give {zs : List Int} {n : Int} (h : GoodP m u ys) (h1 : 1 ≤ n) (h2 : n ≤ (u : Int)) (h3 : n ∉ ys) (hp : zs.Perm (n :: ys)) (hz : HeapN zs.length zs) : GoodP m u zs ∧ outRow u zs = (outRow u ys).set n.toNat false := by
  have hu := h.um
  have hm := h.m200
  refine ⟨⟨h.um, h.m200, hp.nodup_iff.2 (List.nodup_cons.2 ⟨h3, h.nd⟩), fun y hy => ?_, hz⟩, ?_⟩
  · rcases List.mem_cons.1 (hp.mem_iff.1 hy) with rfl | hy
    · exact ⟨h1, h2⟩
    · exact h.mem y hy
  · rw [outRow_perm (u := u) hp]
    exact outRow_snoc h3 h1 h2 (by omega)
end
end Go.Proofs.Ythaghhleidopeaa
