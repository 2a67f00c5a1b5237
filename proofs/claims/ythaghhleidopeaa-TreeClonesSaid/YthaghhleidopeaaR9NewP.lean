/-
  The pool's numbers as they are made, plainly.
-/
import Derived.Test.YthaghhleidopeaaIdPool2
namespace Go.Proofs.Ythaghhleidopeaa
open Go.RowKit Go.Sort
set_option linter.unusedVariables false

/-- Which are out of these numbers. -/
def mkF (m : Nat) (M : List Bool) (x : Int) : List Bool := if 1 ≤ x ∧ x ≤ (m : Int) then M.set x.toNat true else M
def mkRow (m : Nat) (l : List Int) : List Bool := l.foldl (mkF m) (List.replicate 201 false)
theorem mkRow_snoc (m : Nat) (l : List Int) (x : Int) : mkRow m (l ++ [x]) = if 1 ≤ x ∧ x ≤ (m : Int) then (mkRow m l).set x.toNat true else mkRow m l := by
  unfold mkRow
  rw [List.foldl_append]
  rfl
theorem mkF_len (m : Nat) (M : List Bool) (x : Int) : (mkF m M x).length = M.length := by
  unfold mkF
  split
  · rw [List.length_set]
  · rfl
theorem mkFs_len (m : Nat) : ∀ (l : List Int) (M : List Bool), (l.foldl (mkF m) M).length = M.length
  | [], M => rfl
  | x :: l, M => (mkFs_len m l (mkF m M x)).trans (mkF_len m M x)
theorem mkRow_len (m : Nat) (l : List Int) : (mkRow m l).length = 201 := by
  unfold mkRow
  rw [mkFs_len, List.length_replicate]
def mostN (x : Int) : Nat := (min (max x 0) 200).toNat
theorem most_cases (x : Int) : (x ≤ 0 ∧ mostN x = 0) ∨ (200 ≤ x ∧ mostN x = 200) ∨ (0 < x ∧ x < 200 ∧ (mostN x : Int) = x) := by
  unfold mostN
  omega
theorem mostN_le (x : Int) : mostN x ≤ 200 := by
  unfold mostN
  omega
theorem takeN_one {l : List Int} {k : Nat} (h : k < l.length) : l.take (k + 1) = l.take k ++ [l.getD k 0] := by
  rw [List.take_add_one]
  simp [List.getD_eq_getElem?_getD, List.getElem?_eq_getElem h]
end Go.Proofs.Ythaghhleidopeaa
