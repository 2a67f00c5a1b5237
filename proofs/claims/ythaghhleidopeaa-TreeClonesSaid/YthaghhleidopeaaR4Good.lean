/-
  The fourth reference's Good (never beside R4Small: the same names).
-/
import Derived.Test.YthaghhleidopeaaProg
import Derived.WalkKit
import Derived.WalkSpells
import Derived.IntWalk
import Derived.LoopTactic
import Derived.Handy
import Derived.PlainAid
import Derived.Lib.Hide
import Derived.Laws.IdiomStrings
import Derived.KernelRfl
namespace Go.Proofs.Ythaghhleidopeaa
open Go.RowKit
set_option linter.unusedVariables false

/-- A good name on a disk. -/
def goodB (b : ByteArray) : Bool := (List.range b.size).all (fun k => decide (Go.PlainAid.bt b k ≠ 0 ∧ Go.PlainAid.bt b k ≠ 47)) && (decide (b.toList ≠ []) && (decide (b.size ≤ 255) && (decide (b.toList ≠ [46]) && decide (b.toList ≠ [46, 46]))))
set_option maxHeartbeats 2000000 in
theorem refGood_c (b : ByteArray) (hs : b.size ≤ 9223372036854775807) (w : World) : Calls Try.prog 68 #[.string b] w fun e w' => e = .returned (.bool (goodB b)) ∧ w' = w := by
  obtain ⟨X, hX⟩ : ∃ X, goodB b = X := ⟨_, rfl⟩
  rw [hX]
  have H1 := Lib.hid (show ∀ k, k < b.size → (Go.PlainAid.bt b k = 0 ∨ Go.PlainAid.bt b k = 47) → X = false from fun k hk h => by
    rw [← hX]; unfold goodB
    rw [Bool.and_eq_false_iff]; left
    rw [List.all_eq_false]
    exact ⟨k, List.mem_range.2 hk, by simp; omega⟩)
  have H2 := Lib.hid (show (∀ k, k < b.size → Go.PlainAid.bt b k ≠ 0 ∧ Go.PlainAid.bt b k ≠ 47) → X = (decide (b.toList ≠ []) && (decide (b.size ≤ 255) && (decide (b.toList ≠ [46]) && decide (b.toList ≠ [46, 46])))) from fun h => by
    rw [← hX]; unfold goodB
    rw [show (List.range b.size).all (fun k => decide (Go.PlainAid.bt b k ≠ 0 ∧ Go.PlainAid.bt b k ≠ 47)) = true by
      rw [List.all_eq_true]; exact fun k hk => decide_eq_true (h k (List.mem_range.1 hk)), Bool.true_and])
  clear hX
  go_enter Try.func68, Try.ntmps68
  go_wp2
  go_loop [3] (fun iv => ∃ i : Nat, i ≤ b.size ∧ iv = .int .i64 i ∧ ∀ k, k < i → Go.PlainAid.bt b k ≠ 0 ∧ Go.PlainAid.bt b k ≠ 47) (fun iv => b.size - (intOf iv).toNat)
  case atStart => exact ⟨0, by omega, rfl, fun k hk => by omega⟩
  case round =>
    obtain ⟨i, hi, rfl, hno⟩ := hrel
    have HNO := Lib.hid hno
    clear hno
    by_cases hlt : i < b.size
    · have hz : (i : Int) < (b.size : Int) := by omega
      have hB := Go.PlainAid.get_bt b
      obtain ⟨A, hA⟩ : ∃ A : Int, Go.PlainAid.bt b i = A := ⟨_, rfl⟩
      have a0 : 0 ≤ A := by have := Go.PlainAid.bt_nonneg b i; omega
      have a1 : A ≤ 255 := by have := Go.PlainAid.bt_le b i; omega
      by_cases h0 : A = 0
      · have HX := Lib.hid (H1.out i hlt (Or.inl (hA.trans h0)))
        subst h0
        go_wp2
        go_ret
        exact ⟨by rw [HX.out]; rfl, rfl⟩
      · by_cases h47 : A = 47
        · have HX := Lib.hid (H1.out i hlt (Or.inr (hA.trans h47)))
          subst h47
          go_wp2
          go_ret
          exact ⟨by rw [HX.out]; rfl, rfl⟩
        · have HX := Lib.hid (show ∀ k, k < i + 1 → Go.PlainAid.bt b k ≠ 0 ∧ Go.PlainAid.bt b k ≠ 47 from fun k hk => by
            by_cases e : k = i
            · subst e; rw [hA]; exact ⟨h0, h47⟩
            · exact HNO.out k (by omega))
          have e0 : (A == 0) = false := by rw [beq_eq_false_iff_ne]; exact h0
          have e47 : (A == 47) = false := by rw [beq_eq_false_iff_ne]; exact h47
          go_wp2
          go_round
          case rel => exact ⟨i + 1, by omega, by go_num, HX.out⟩
          case measure => simp [intOf]; omega
    · have hie : i = b.size := by omega
      have HX := Lib.hid (H2.out (fun k hk => HNO.out k (by omega)))
      have hge : ¬ ((i : Int) < (b.size : Int)) := by omega
      clear hie hlt
      by_cases p0 : b.toList = []
      · have HY : Hid (X = false) := Lib.hid (by rw [HX.out]; simp [p0])
        clear HX
        go_wp2
        go_ret
        exact ⟨by rw [HY.out]; rfl, rfl⟩
      · by_cases h255 : b.size ≤ 255
        · have h255z : (b.size : Int) ≤ 255 := by omega
          by_cases p1 : b.toList = [46]
          · have HY : Hid (X = false) := Lib.hid (by rw [HX.out]; simp [p1])
            clear HX
            go_wp2
            go_ret
            exact ⟨by rw [HY.out]; rfl, rfl⟩
          · by_cases p2 : b.toList = [46, 46]
            · have HY : Hid (X = false) := Lib.hid (by rw [HX.out]; simp [p2])
              clear HX
              go_wp2
              go_ret
              exact ⟨by rw [HY.out]; rfl, rfl⟩
            · have HY : Hid (X = true) := Lib.hid (by rw [HX.out]; simp [p0, p1, p2, h255])
              have q0 : b.toList.isEmpty = false := by rw [List.isEmpty_eq_false_iff]; exact p0
              have q1 : (b.toList == [46]) = false := by rw [beq_eq_false_iff_ne]; exact p1
              have q2 : (b.toList == [46, 46]) = false := by rw [beq_eq_false_iff_ne]; exact p2
              clear p0 p1 p2
              clear HX
              go_wp2
              go_ret
              exact ⟨by rw [HY.out]; rfl, rfl⟩
        · have h255z : ¬ ((b.size : Int) ≤ 255) := by omega
          have HY : Hid (X = false) := Lib.hid (by rw [HX.out]; simp [h255])
          clear HX
          go_wp2
          go_ret
          exact ⟨by rw [HY.out]; rfl, rfl⟩
end Go.Proofs.Ythaghhleidopeaa
