/-
  Prepared for stage 9: the reference's pool.
-/
import Derived.Test.YtfpnecbhpcnadaaRowKit
namespace Go.Proofs.Ytfpnecbhpcnadaa
open Go.RowKit Go.Sort
set_option linter.unusedVariables false

/-- A pool's cells: the greatest number, and which are out. -/
def poolC (m : Nat) (l : List Bool) : List Value := .int .i64 (m : Int) :: l.map Value.bool
theorem poolC_length (m : Nat) (l : List Bool) : (poolC m l).length = l.length + 1 := by simp [poolC]
def PoolAt (W : World) (b m : Nat) (l : List Bool) : Prop := W.heap[b]? = some (.cells (poolC m l).toArray 28 (0, 0))
theorem PoolAt.most {W : World} {b m : Nat} {l : List Bool} (h : PoolAt W b m l) : W.cell? ⟨b, 0, none⟩ = some (.int .i64 (m : Int)) := by rw [cell_of_row _ _ _ _ _ _ h]; rfl
theorem PoolAt.at {W : World} {b m : Nat} {l : List Bool} (h : PoolAt W b m l) {j : Nat} {x : Bool} (hj : l[j]? = some x) : W.cell? ⟨b, 1 + j, none⟩ = some (.bool x) := by
  rw [cell_of_row _ _ _ _ _ _ h, List.getElem?_toArray, Nat.add_comm 1 j]
  unfold poolC
  rw [List.getElem?_cons_succ, List.getElem?_map, hj]
  rfl
theorem PoolAt.below {W W' : World} {b m : Nat} {l : List Bool} (h : PoolAt W b m l) (hb : Below W.heap.size W W') : PoolAt W' b m l := by
  unfold PoolAt
  rw [hb.block _ (lt_of_get h)]
  exact h
/-- The least number from n on, of k, that isn't out. -/
def leastGo (l : List Bool) : Nat → Nat → Nat
  | 0, _ => 0
  | k + 1, n => if l.getD n true = false then n else leastGo l k (n + 1)
def leastN (m : Nat) (l : List Bool) : Nat := leastGo l m 1
/-- How many are out. -/
def cntGo (l : List Bool) : Nat → Nat → Nat
  | 0, _ => 0
  | k + 1, n => (if l.getD n false = true then 1 else 0) + cntGo l k (n + 1)
def countN (m : Nat) (l : List Bool) : Nat := cntGo l m 1
theorem cntGo_le (l : List Bool) : ∀ k n, cntGo l k n ≤ k
  | 0, _ => Nat.le_refl _
  | k + 1, n => by
    have := cntGo_le l k (n + 1)
    unfold cntGo
    split <;> omega
set_option maxHeartbeats 2000000 in
theorem least9_c (m : Nat) (l : List Bool) (w : World) (hl : l.length = 201) (hm : m ≤ 200) :
    Calls Try.prog 11 #[.agg (poolC m l).toArray] w fun e w' => e = .returned (.int .i64 (leastN m l : Nat)) ∧ Below w.heap.size w w' := by
  have HP : Hid (PoolAt (w.alloc (.cells (poolC m l).toArray 28)) w.heap.size m l) := Lib.hid (heap_alloc_new _ _)
  have HB : Hid (Below w.heap.size w (w.alloc (.cells (poolC m l).toArray 28))) := Lib.hid ((Below.refl _ _).alloc (Nat.le_refl _) _)
  have HL := Lib.hid hl
  clear hl
  go_enter Try.func11, Try.ntmps11
  go_wp2
  generalize w.alloc (.cells (poolC m l).toArray 28) = W0 at *
  have hc := HP.out.most
  go_loopw [3] (fun iv wr => ∃ n : Nat, 1 ≤ n ∧ n ≤ m + 1 ∧ iv = .int .i64 n ∧ leastGo l (m + 1 - n) n = leastN m l ∧ wr = W0) (fun iv _ => m + 1 - (intOf iv).toNat)
  case atStart => exact ⟨1, by omega, by omega, rfl, rfl, rfl⟩
  case round =>
    obtain ⟨n, hn1, hn2, rfl, hgo, rfl⟩ := hrel
    have HGO := Lib.hid hgo
    clear hgo
    by_cases hnm : n ≤ m
    · have hnz : (n : Int) ≤ (m : Int) := by omega
      obtain ⟨x, hx⟩ : ∃ x, l[n]? = some x := ⟨_, List.getElem?_eq_getElem (by rw [HL.out]; omega)⟩
      have hcx := HP.out.at hx
      have hn201 : (n : Int) < 201 := by omega
      have HX := Lib.hid hx
      clear hx
      cases x with
      | false =>
        have HE : Hid (leastN m l = n) := Lib.hid (by
          have h1 := HGO.out
          rw [show m + 1 - n = (m - n) + 1 by omega] at h1
          simp [leastGo, List.getD_eq_getElem?_getD, HX.out] at h1
          exact h1.symm)
        go_wp2
        go_ret
        exact ⟨by rw [HE.out]; rfl, HB.out⟩
      | true =>
        have HE : Hid (leastGo l (m + 1 - (n + 1)) (n + 1) = leastN m l) := Lib.hid (by
          have h1 := HGO.out
          rw [show m + 1 - n = (m - n) + 1 by omega] at h1
          simp [leastGo, List.getD_eq_getElem?_getD, HX.out] at h1
          rw [show m + 1 - (n + 1) = m - n by omega]
          exact h1)
        go_wp2
        go_roundw
        case rel => exact ⟨n + 1, by omega, by omega, by first | rfl | go_num, HE.out, by first | rfl | trivial⟩
        case measure => simp [intOf]; omega
    · have hnz : ¬ (n : Int) ≤ (m : Int) := by omega
      have HE : Hid (leastN m l = 0) := Lib.hid (by
        have h1 := HGO.out
        rw [show m + 1 - n = 0 by omega] at h1
        exact h1.symm)
      go_wp2
      go_ret
      exact ⟨by rw [HE.out]; rfl, HB.out⟩
set_option maxHeartbeats 2000000 in
theorem count9_c (m : Nat) (l : List Bool) (w : World) (hl : l.length = 201) (hm : m ≤ 200) :
    Calls Try.prog 13 #[.agg (poolC m l).toArray] w fun e w' => e = .returned (.int .i64 (countN m l : Nat)) ∧ Below w.heap.size w w' := by
  have HP : Hid (PoolAt (w.alloc (.cells (poolC m l).toArray 28)) w.heap.size m l) := Lib.hid (heap_alloc_new _ _)
  have HB : Hid (Below w.heap.size w (w.alloc (.cells (poolC m l).toArray 28))) := Lib.hid ((Below.refl _ _).alloc (Nat.le_refl _) _)
  have HL := Lib.hid hl
  clear hl
  go_enter Try.func13, Try.ntmps13
  go_wp2
  generalize w.alloc (.cells (poolC m l).toArray 28) = W0 at *
  have hc := HP.out.most
  go_loopw [3, 4] (fun kv iv wr => ∃ k n : Nat, 1 ≤ n ∧ n ≤ m + 1 ∧ k < n ∧ kv = .int .i64 k ∧ iv = .int .i64 n ∧ k + cntGo l (m + 1 - n) n = countN m l ∧ wr = W0) (fun _ iv _ => m + 1 - (intOf iv).toNat)
  case atStart => exact ⟨0, 1, by omega, by omega, by omega, rfl, rfl, by rw [Nat.zero_add]; rfl, rfl⟩
  case round =>
    obtain ⟨k, n, hn1, hn2, hkn, rfl, rfl, hgo, rfl⟩ := hrel
    have HGO := Lib.hid hgo
    clear hgo
    by_cases hnm : n ≤ m
    · have hnz : (n : Int) ≤ (m : Int) := by omega
      obtain ⟨x, hx⟩ : ∃ x, l[n]? = some x := ⟨_, List.getElem?_eq_getElem (by rw [HL.out]; omega)⟩
      have hcx := HP.out.at hx
      have hn201 : (n : Int) < 201 := by omega
      have HX := Lib.hid hx
      clear hx
      cases x with
      | false =>
        have HE : Hid (k + cntGo l (m + 1 - (n + 1)) (n + 1) = countN m l) := Lib.hid (by
          have h1 := HGO.out
          rw [show m + 1 - n = (m - n) + 1 by omega] at h1
          simp [cntGo, List.getD_eq_getElem?_getD, HX.out] at h1
          rw [show m + 1 - (n + 1) = m - n by omega]
          omega)
        go_wp2
        go_roundw
        case rel => exact ⟨k, n + 1, by omega, by omega, by omega, rfl, by first | rfl | go_num, HE.out, by first | rfl | trivial⟩
        case measure => simp [intOf]; omega
      | true =>
        have HE : Hid (k + 1 + cntGo l (m + 1 - (n + 1)) (n + 1) = countN m l) := Lib.hid (by
          have h1 := HGO.out
          rw [show m + 1 - n = (m - n) + 1 by omega] at h1
          simp [cntGo, List.getD_eq_getElem?_getD, HX.out] at h1
          rw [show m + 1 - (n + 1) = m - n by omega]
          omega)
        go_wp2
        go_roundw
        case rel => exact ⟨k + 1, n + 1, by omega, by omega, by omega, by first | rfl | go_num, by first | rfl | go_num, HE.out, by first | rfl | trivial⟩
        case measure => simp [intOf]; omega
    · have hnz : ¬ (n : Int) ≤ (m : Int) := by omega
      have HE : Hid (countN m l = k) := Lib.hid (by
        have h1 := HGO.out
        rw [show m + 1 - n = 0 by omega] at h1
        exact h1.symm)
      go_wp2
      go_ret
      exact ⟨by rw [HE.out]; rfl, HB.out⟩
end Go.Proofs.Ytfpnecbhpcnadaa
