/-
  The contracts of compose's small functions: Class, within, isOpen, joinHangul, splitHangul; memory stays.
-/
import Derived.Test.YtjakelphkehonaaProg
import Derived.Test.YtjakelphkehonaaApartMath
import Derived.WalkKit
import Derived.WalkSpells
import Derived.IntWalk
import Derived.LoopTactic
import Derived.Lib.Hide
import Derived.Deep.QuietTactic
namespace Go.Proofs.Ytjakelphkehonaa
open Go.RowKit
set_option linter.unusedVariables false

def classB (r : Int) : Int := if (768 ≤ r ∧ r ≤ 772) ∨ (774 ≤ r ∧ r ≤ 776) ∨ (778 ≤ r ∧ r ≤ 780) then 230 else if r = 807 ∨ r = 808 then 202 else 0
theorem class_near : ∀ k : Nat, k < 41 → classI (768 + (k : Int)) = classB (768 + (k : Int)) := by decide +kernel
theorem class_is (r : Int) : classI r = classB r := by
  by_cases h : r < 768 ∨ 808 < r
  · rw [classI_far h]
    unfold classB
    rw [if_neg (by omega), if_neg (by omega)]
  · obtain ⟨k, hk⟩ : ∃ k : Nat, r = 768 + (k : Int) := ⟨(r - 768).toNat, by omega⟩
    rw [hk]
    exact class_near k (by omega)

set_option maxHeartbeats 1000000 in
theorem cls_c (r : Int) (w : World) : Calls Try.prog 15 #[.int .i32 r] w fun e w' => e = .returned (.int .i64 (classI r)) ∧ w' = w := by
  rw [class_is r]
  unfold classB
  by_cases h : (768 ≤ r ∧ r ≤ 772) ∨ (774 ≤ r ∧ r ≤ 776) ∨ (778 ≤ r ∧ r ≤ 780)
  · rw [if_pos h]
    rcases h with ⟨h1, h2⟩ | ⟨h1, h2⟩ | ⟨h1, h2⟩
    all_goals
      go_enter Try.func15, Try.ntmps15
      go_wp2
      go_ret
      exact ⟨rfl, rfl⟩
  · rw [if_neg h]
    by_cases h7 : r = 807 ∨ r = 808
    · rw [if_pos h7]
      rcases h7 with rfl | rfl
      all_goals
        clear h
        go_enter Try.func15, Try.ntmps15
        go_wp2
        go_ret
        exact ⟨rfl, rfl⟩
    · rw [if_neg h7]
      have e1 : (r == 807) = false := by rw [beq_eq_false_iff_ne]; omega
      have e2 : (r == 808) = false := by rw [beq_eq_false_iff_ne]; omega
      obtain h1 | h1 | h1 | ⟨h1, h2⟩ : r < 768 ∨ r = 773 ∨ r = 777 ∨ (780 < r ∧ ¬ (r ≤ 780)) := by omega
      all_goals
        try subst h1
        clear h h7
        go_enter Try.func15, Try.ntmps15
        go_wp2
        go_ret
        exact ⟨rfl, rfl⟩

set_option maxHeartbeats 1000000 in
theorem within_yes (r f c : Int) (h1 : f ≤ r) (h2 : r < f + c) (hf : 0 ≤ f) (hc : 0 ≤ c) (hs : f + c ≤ 100000) (w : World) :
    Calls Try.prog 36 #[.int .i32 r, .int .i32 f, .int .i32 c] w fun e w' => e = .returned (.bool true) ∧ w' = w := by
  have hw : IntKind.i32.wrap (f + c) = f + c := by rw [IntKind.wrap_i32]; omega
  go_enter Try.func36, Try.ntmps36
  go_wp2
  go_ret
  exact ⟨rfl, rfl⟩
set_option maxHeartbeats 1000000 in
theorem within_no (r f c : Int) (h : ¬ (f ≤ r ∧ r < f + c)) (hf : 0 ≤ f) (hc : 0 ≤ c) (hs : f + c ≤ 100000) (w : World) :
    Calls Try.prog 36 #[.int .i32 r, .int .i32 f, .int .i32 c] w fun e w' => e = .returned (.bool false) ∧ w' = w := by
  have hw : IntKind.i32.wrap (f + c) = f + c := by rw [IntKind.wrap_i32]; omega
  by_cases h1 : f ≤ r
  · have h2 : ¬ (r < f + c) := by omega
    clear h
    go_enter Try.func36, Try.ntmps36
    go_wp2
    go_ret
    exact ⟨rfl, rfl⟩
  · clear h
    go_enter Try.func36, Try.ntmps36
    go_wp2
    go_ret
    exact ⟨rfl, rfl⟩
end Go.Proofs.Ytjakelphkehonaa
