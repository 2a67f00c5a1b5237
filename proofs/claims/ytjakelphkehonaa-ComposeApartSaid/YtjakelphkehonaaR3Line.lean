/-
  The contracts of the third reference's Line and Class.
-/
import Derived.Test.YtjakelphkehonaaComposeMath
import Derived.Test.YtjakelphkehonaaProg
import Derived.WalkKit
import Derived.WalkSpells
import Derived.IntWalk
import Derived.LoopTactic
import Derived.Lib.Hide
namespace Go.Proofs.Ytjakelphkehonaa
open Go.RowKit
set_option linter.unusedVariables false

set_option maxRecDepth 100000 in
theorem line_0 (w : World) : Calls Try.prog 32 #[.int .i64 0] w fun e w' => e = .returned (.tuple #[.int .i32 768, .string ⟨#[65, 69, 73, 79, 85, 97, 101, 105, 111, 117]⟩, .string ⟨#[195, 128, 195, 136, 195, 140, 195, 146, 195, 153, 195, 160, 195, 168, 195, 172, 195, 178, 195, 185]⟩]) ∧ w = w' := by
  go_enter Try.func32, Try.ntmps32
  go_wp2
  go_ret3
  exact ⟨rfl, rfl⟩

set_option maxRecDepth 100000 in
theorem line_1 (w : World) : Calls Try.prog 32 #[.int .i64 1] w fun e w' => e = .returned (.tuple #[.int .i32 769, .string ⟨#[65, 69, 73, 79, 85, 89, 97, 101, 105, 111, 117, 121, 67, 99, 76, 108, 78, 110, 82, 114, 83, 115, 90, 122]⟩, .string ⟨#[195, 129, 195, 137, 195, 141, 195, 147, 195, 154, 195, 157, 195, 161, 195, 169, 195, 173, 195, 179, 195, 186, 195, 189, 196, 134, 196, 135, 196, 185, 196, 186, 197, 131, 197, 132, 197, 148, 197, 149, 197, 154, 197, 155, 197, 185, 197, 186]⟩]) ∧ w = w' := by
  go_enter Try.func32, Try.ntmps32
  go_wp2
  go_ret3
  exact ⟨rfl, rfl⟩

set_option maxRecDepth 100000 in
theorem line_2 (w : World) : Calls Try.prog 32 #[.int .i64 2] w fun e w' => e = .returned (.tuple #[.int .i32 770, .string ⟨#[65, 69, 73, 79, 85, 97, 101, 105, 111, 117, 67, 99, 71, 103, 72, 104, 74, 106, 83, 115, 87, 119, 89, 121]⟩, .string ⟨#[195, 130, 195, 138, 195, 142, 195, 148, 195, 155, 195, 162, 195, 170, 195, 174, 195, 180, 195, 187, 196, 136, 196, 137, 196, 156, 196, 157, 196, 164, 196, 165, 196, 180, 196, 181, 197, 156, 197, 157, 197, 180, 197, 181, 197, 182, 197, 183]⟩]) ∧ w = w' := by
  go_enter Try.func32, Try.ntmps32
  go_wp2
  go_ret3
  exact ⟨rfl, rfl⟩

set_option maxRecDepth 100000 in
theorem line_3 (w : World) : Calls Try.prog 32 #[.int .i64 3] w fun e w' => e = .returned (.tuple #[.int .i32 771, .string ⟨#[65, 78, 79, 97, 110, 111, 73, 105, 85, 117]⟩, .string ⟨#[195, 131, 195, 145, 195, 149, 195, 163, 195, 177, 195, 181, 196, 168, 196, 169, 197, 168, 197, 169]⟩]) ∧ w = w' := by
  go_enter Try.func32, Try.ntmps32
  go_wp2
  go_ret3
  exact ⟨rfl, rfl⟩

set_option maxRecDepth 100000 in
theorem line_4 (w : World) : Calls Try.prog 32 #[.int .i64 4] w fun e w' => e = .returned (.tuple #[.int .i32 772, .string ⟨#[65, 97, 69, 101, 73, 105, 79, 111, 85, 117]⟩, .string ⟨#[196, 128, 196, 129, 196, 146, 196, 147, 196, 170, 196, 171, 197, 140, 197, 141, 197, 170, 197, 171]⟩]) ∧ w = w' := by
  go_enter Try.func32, Try.ntmps32
  go_wp2
  go_ret3
  exact ⟨rfl, rfl⟩

set_option maxRecDepth 100000 in
theorem line_5 (w : World) : Calls Try.prog 32 #[.int .i64 5] w fun e w' => e = .returned (.tuple #[.int .i32 774, .string ⟨#[65, 97, 69, 101, 71, 103, 73, 105, 79, 111, 85, 117]⟩, .string ⟨#[196, 130, 196, 131, 196, 148, 196, 149, 196, 158, 196, 159, 196, 172, 196, 173, 197, 142, 197, 143, 197, 172, 197, 173]⟩]) ∧ w = w' := by
  go_enter Try.func32, Try.ntmps32
  go_wp2
  go_ret3
  exact ⟨rfl, rfl⟩

set_option maxRecDepth 100000 in
theorem line_6 (w : World) : Calls Try.prog 32 #[.int .i64 6] w fun e w' => e = .returned (.tuple #[.int .i32 775, .string ⟨#[67, 99, 69, 101, 71, 103, 73, 90, 122]⟩, .string ⟨#[196, 138, 196, 139, 196, 150, 196, 151, 196, 160, 196, 161, 196, 176, 197, 187, 197, 188]⟩]) ∧ w = w' := by
  go_enter Try.func32, Try.ntmps32
  go_wp2
  go_ret3
  exact ⟨rfl, rfl⟩

set_option maxRecDepth 100000 in
theorem line_7 (w : World) : Calls Try.prog 32 #[.int .i64 7] w fun e w' => e = .returned (.tuple #[.int .i32 776, .string ⟨#[65, 69, 73, 79, 85, 97, 101, 105, 111, 117, 121, 89]⟩, .string ⟨#[195, 132, 195, 139, 195, 143, 195, 150, 195, 156, 195, 164, 195, 171, 195, 175, 195, 182, 195, 188, 195, 191, 197, 184]⟩]) ∧ w = w' := by
  go_enter Try.func32, Try.ntmps32
  go_wp2
  go_ret3
  exact ⟨rfl, rfl⟩

set_option maxRecDepth 100000 in
theorem line_8 (w : World) : Calls Try.prog 32 #[.int .i64 8] w fun e w' => e = .returned (.tuple #[.int .i32 778, .string ⟨#[65, 97, 85, 117]⟩, .string ⟨#[195, 133, 195, 165, 197, 174, 197, 175]⟩]) ∧ w = w' := by
  go_enter Try.func32, Try.ntmps32
  go_wp2
  go_ret3
  exact ⟨rfl, rfl⟩

set_option maxRecDepth 100000 in
theorem line_9 (w : World) : Calls Try.prog 32 #[.int .i64 9] w fun e w' => e = .returned (.tuple #[.int .i32 779, .string ⟨#[79, 111, 85, 117]⟩, .string ⟨#[197, 144, 197, 145, 197, 176, 197, 177]⟩]) ∧ w = w' := by
  go_enter Try.func32, Try.ntmps32
  go_wp2
  go_ret3
  exact ⟨rfl, rfl⟩

set_option maxRecDepth 100000 in
theorem line_10 (w : World) : Calls Try.prog 32 #[.int .i64 10] w fun e w' => e = .returned (.tuple #[.int .i32 780, .string ⟨#[67, 99, 68, 100, 69, 101, 78, 110, 82, 114, 83, 115, 84, 116, 90, 122]⟩, .string ⟨#[196, 140, 196, 141, 196, 142, 196, 143, 196, 154, 196, 155, 197, 135, 197, 136, 197, 152, 197, 153, 197, 160, 197, 161, 197, 164, 197, 165, 197, 189, 197, 190]⟩]) ∧ w = w' := by
  go_enter Try.func32, Try.ntmps32
  go_wp2
  go_ret3
  exact ⟨rfl, rfl⟩

set_option maxRecDepth 100000 in
theorem line_11 (w : World) : Calls Try.prog 32 #[.int .i64 11] w fun e w' => e = .returned (.tuple #[.int .i32 807, .string ⟨#[67, 99, 71, 103, 75, 107, 76, 108, 78, 110, 82, 114, 83, 115, 84, 116]⟩, .string ⟨#[195, 135, 195, 167, 196, 162, 196, 163, 196, 182, 196, 183, 196, 187, 196, 188, 197, 133, 197, 134, 197, 150, 197, 151, 197, 158, 197, 159, 197, 162, 197, 163]⟩]) ∧ w = w' := by
  go_enter Try.func32, Try.ntmps32
  go_wp2
  go_ret3
  exact ⟨rfl, rfl⟩

set_option maxRecDepth 100000 in
theorem line_12 (w : World) : Calls Try.prog 32 #[.int .i64 12] w fun e w' => e = .returned (.tuple #[.int .i32 808, .string ⟨#[65, 97, 69, 101, 73, 105, 85, 117]⟩, .string ⟨#[196, 132, 196, 133, 196, 152, 196, 153, 196, 174, 196, 175, 197, 178, 197, 179]⟩]) ∧ w = w' := by
  go_enter Try.func32, Try.ntmps32
  go_wp2
  go_ret3
  exact ⟨rfl, rfl⟩

theorem line_c (n : Nat) (h : n < 13) (w : World) : Calls Try.prog 32 #[.int .i64 n] w fun e w' => e = .returned (.tuple #[.int .i32 (markN n), .string (txt (lettersN n)), .string (txt (madeN n))]) ∧ w = w' := by
  by_cases h0 : n = 0
  · subst h0
    rw [show markN 0 = 768 from rfl, show txt (lettersN 0) = ⟨#[65, 69, 73, 79, 85, 97, 101, 105, 111, 117]⟩ by decide +kernel, show txt (madeN 0) = ⟨#[195, 128, 195, 136, 195, 140, 195, 146, 195, 153, 195, 160, 195, 168, 195, 172, 195, 178, 195, 185]⟩ by decide +kernel]
    exact line_0 w
  by_cases h1 : n = 1
  · subst h1
    rw [show markN 1 = 769 from rfl, show txt (lettersN 1) = ⟨#[65, 69, 73, 79, 85, 89, 97, 101, 105, 111, 117, 121, 67, 99, 76, 108, 78, 110, 82, 114, 83, 115, 90, 122]⟩ by decide +kernel, show txt (madeN 1) = ⟨#[195, 129, 195, 137, 195, 141, 195, 147, 195, 154, 195, 157, 195, 161, 195, 169, 195, 173, 195, 179, 195, 186, 195, 189, 196, 134, 196, 135, 196, 185, 196, 186, 197, 131, 197, 132, 197, 148, 197, 149, 197, 154, 197, 155, 197, 185, 197, 186]⟩ by decide +kernel]
    exact line_1 w
  by_cases h2 : n = 2
  · subst h2
    rw [show markN 2 = 770 from rfl, show txt (lettersN 2) = ⟨#[65, 69, 73, 79, 85, 97, 101, 105, 111, 117, 67, 99, 71, 103, 72, 104, 74, 106, 83, 115, 87, 119, 89, 121]⟩ by decide +kernel, show txt (madeN 2) = ⟨#[195, 130, 195, 138, 195, 142, 195, 148, 195, 155, 195, 162, 195, 170, 195, 174, 195, 180, 195, 187, 196, 136, 196, 137, 196, 156, 196, 157, 196, 164, 196, 165, 196, 180, 196, 181, 197, 156, 197, 157, 197, 180, 197, 181, 197, 182, 197, 183]⟩ by decide +kernel]
    exact line_2 w
  by_cases h3 : n = 3
  · subst h3
    rw [show markN 3 = 771 from rfl, show txt (lettersN 3) = ⟨#[65, 78, 79, 97, 110, 111, 73, 105, 85, 117]⟩ by decide +kernel, show txt (madeN 3) = ⟨#[195, 131, 195, 145, 195, 149, 195, 163, 195, 177, 195, 181, 196, 168, 196, 169, 197, 168, 197, 169]⟩ by decide +kernel]
    exact line_3 w
  by_cases h4 : n = 4
  · subst h4
    rw [show markN 4 = 772 from rfl, show txt (lettersN 4) = ⟨#[65, 97, 69, 101, 73, 105, 79, 111, 85, 117]⟩ by decide +kernel, show txt (madeN 4) = ⟨#[196, 128, 196, 129, 196, 146, 196, 147, 196, 170, 196, 171, 197, 140, 197, 141, 197, 170, 197, 171]⟩ by decide +kernel]
    exact line_4 w
  by_cases h5 : n = 5
  · subst h5
    rw [show markN 5 = 774 from rfl, show txt (lettersN 5) = ⟨#[65, 97, 69, 101, 71, 103, 73, 105, 79, 111, 85, 117]⟩ by decide +kernel, show txt (madeN 5) = ⟨#[196, 130, 196, 131, 196, 148, 196, 149, 196, 158, 196, 159, 196, 172, 196, 173, 197, 142, 197, 143, 197, 172, 197, 173]⟩ by decide +kernel]
    exact line_5 w
  by_cases h6 : n = 6
  · subst h6
    rw [show markN 6 = 775 from rfl, show txt (lettersN 6) = ⟨#[67, 99, 69, 101, 71, 103, 73, 90, 122]⟩ by decide +kernel, show txt (madeN 6) = ⟨#[196, 138, 196, 139, 196, 150, 196, 151, 196, 160, 196, 161, 196, 176, 197, 187, 197, 188]⟩ by decide +kernel]
    exact line_6 w
  by_cases h7 : n = 7
  · subst h7
    rw [show markN 7 = 776 from rfl, show txt (lettersN 7) = ⟨#[65, 69, 73, 79, 85, 97, 101, 105, 111, 117, 121, 89]⟩ by decide +kernel, show txt (madeN 7) = ⟨#[195, 132, 195, 139, 195, 143, 195, 150, 195, 156, 195, 164, 195, 171, 195, 175, 195, 182, 195, 188, 195, 191, 197, 184]⟩ by decide +kernel]
    exact line_7 w
  by_cases h8 : n = 8
  · subst h8
    rw [show markN 8 = 778 from rfl, show txt (lettersN 8) = ⟨#[65, 97, 85, 117]⟩ by decide +kernel, show txt (madeN 8) = ⟨#[195, 133, 195, 165, 197, 174, 197, 175]⟩ by decide +kernel]
    exact line_8 w
  by_cases h9 : n = 9
  · subst h9
    rw [show markN 9 = 779 from rfl, show txt (lettersN 9) = ⟨#[79, 111, 85, 117]⟩ by decide +kernel, show txt (madeN 9) = ⟨#[197, 144, 197, 145, 197, 176, 197, 177]⟩ by decide +kernel]
    exact line_9 w
  by_cases h10 : n = 10
  · subst h10
    rw [show markN 10 = 780 from rfl, show txt (lettersN 10) = ⟨#[67, 99, 68, 100, 69, 101, 78, 110, 82, 114, 83, 115, 84, 116, 90, 122]⟩ by decide +kernel, show txt (madeN 10) = ⟨#[196, 140, 196, 141, 196, 142, 196, 143, 196, 154, 196, 155, 197, 135, 197, 136, 197, 152, 197, 153, 197, 160, 197, 161, 197, 164, 197, 165, 197, 189, 197, 190]⟩ by decide +kernel]
    exact line_10 w
  by_cases h11 : n = 11
  · subst h11
    rw [show markN 11 = 807 from rfl, show txt (lettersN 11) = ⟨#[67, 99, 71, 103, 75, 107, 76, 108, 78, 110, 82, 114, 83, 115, 84, 116]⟩ by decide +kernel, show txt (madeN 11) = ⟨#[195, 135, 195, 167, 196, 162, 196, 163, 196, 182, 196, 183, 196, 187, 196, 188, 197, 133, 197, 134, 197, 150, 197, 151, 197, 158, 197, 159, 197, 162, 197, 163]⟩ by decide +kernel]
    exact line_11 w
  obtain rfl : n = 12 := by omega
  rw [show markN 12 = 808 from rfl, show txt (lettersN 12) = ⟨#[65, 97, 69, 101, 73, 105, 85, 117]⟩ by decide +kernel, show txt (madeN 12) = ⟨#[196, 132, 196, 133, 196, 152, 196, 153, 196, 174, 196, 175, 197, 178, 197, 179]⟩ by decide +kernel]
  exact line_12 w

theorem class_some {r : Int} {n : Nat} (h : n < 13) (hr : markN n = r) (hno : ∀ k : Nat, k < n → markN k ≠ r) : classI r = if n < 11 then 230 else 202 := by
  unfold classI
  have : (List.range 13).find? (fun n => decide (markN n = r)) = some n := by
    rw [List.find?_range_eq_some]
    exact ⟨by simpa using hr, by simpa using h, fun j hj => by simpa using hno j hj⟩
  rw [this]
theorem class_none {r : Int} (hno : ∀ k : Nat, k < 13 → markN k ≠ r) : classI r = 0 := by
  unfold classI
  have : (List.range 13).find? (fun n => decide (markN n = r)) = none := by
    rw [List.find?_range_eq_none]
    exact fun j hj => by simpa using hno j hj
  rw [this]
theorem mark_more {r : Int} {n : Nat} (h : ∀ k : Nat, k < n → markN k ≠ r) (h' : markN n ≠ r) : ∀ k : Nat, k < n + 1 → markN k ≠ r := by
  intro k hk
  by_cases e : k = n
  · subst e; exact h'
  · exact h k (by omega)
def RelC (r : Int) (nv : Value) : Prop := ∃ n : Nat, n ≤ 13 ∧ nv = .int .i64 n ∧ ∀ k : Nat, k < n → markN k ≠ r

set_option maxHeartbeats 1000000 in
theorem class_c (r : Int) (w : World) : Calls Try.prog 20 #[.int .i32 r] w fun e w' => e = .returned (.int .i64 (classI r)) ∧ w = w' := by
  go_enter Try.func20, Try.ntmps20
  go_wp2
  go_loop [3] (fun nv => RelC r nv) (fun nv => 13 - (intOf nv).toNat)
  case atStart => exact ⟨0, by omega, rfl, fun k hk => by omega⟩
  case round =>
    obtain ⟨n, hn, rfl, hno⟩ := hrel
    have HNO := Lib.hid hno
    clear hno
    by_cases hlt : n < 13
    · have hz : (n : Int) < 13 := by omega
      have cL := line_c n hlt
      generalize txt (lettersN n) = tx at *
      generalize txt (madeN n) = ty at *
      by_cases hr : markN n = r
      · have HX := Lib.hid (class_some hlt hr HNO.out)
        rw [hr] at cL
        clear hr
        by_cases h11 : n < 11
        · rw [if_pos h11] at HX
          have hz1 : (n : Int) < 11 := by omega
          go_wp2_with fail
          refine (cL _).mono ?_
          rintro e w' ⟨rfl, rfl⟩
          go_wp2
          go_ret
          exact ⟨by rw [HX.out]; rfl, rfl⟩
        · rw [if_neg h11] at HX
          have hz1 : ¬ ((n : Int) < 11) := by omega
          clear h11
          go_wp2_with fail
          refine (cL _).mono ?_
          rintro e w' ⟨rfl, rfl⟩
          go_wp2
          go_ret
          exact ⟨by rw [HX.out]; rfl, rfl⟩
      · have HM := Lib.hid (mark_more HNO.out hr)
        obtain ⟨m, hm⟩ : ∃ m, markN n = m := ⟨_, rfl⟩
        rw [hm] at cL hr
        have hr' : (m == r) = false := by rw [beq_eq_false_iff_ne]; exact hr
        clear hr hm
        go_wp2_with fail
        refine (cL _).mono ?_
        rintro e w' ⟨rfl, rfl⟩
        go_wp2
        go_round
        case rel => exact ⟨n + 1, by omega, by go_num, HM.out⟩
        case measure => simp [intOf]; omega
    · have hne : n = 13 := by omega
      subst hne
      have HX := Lib.hid (class_none HNO.out)
      go_wp2
      go_ret
      exact ⟨by rw [HX.out]; rfl, rfl⟩
end Go.Proofs.Ytjakelphkehonaa
