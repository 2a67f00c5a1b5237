/-
  The contracts of ValidRune, Is, Bytes and awake: each returns what 'isR' and 'bsOf' say, and leaves the world as it was.
-/
import Derived.Test.YtjcnnbakadbccaaDoorRows
import Derived.Test.YtjcnnbakadbccaaDoorU8
import Derived.WalkKit
import Derived.WalkSpells
import Derived.Lib.Hide
namespace Go.Proofs.YtjcnnbakadbccaaDoor
open Go.RowKit

set_option maxHeartbeats 400000 in
theorem validRune_c (r : Int) (w : World) :
    Calls Tryd.prog 19 #[.int .i32 r] w fun e w' => e = .returned (.bool (isR r)) ∧ w = w' := by
  by_cases h1 : 0 ≤ r
  · by_cases h2 : r < 55296
    · rw [isR_of (by omega)]
      go_enter Tryd.func19, Tryd.ntmps19
      go_wp2
      go_ret
      exact ⟨rfl, rfl⟩
    · by_cases h3 : 57343 < r
      · by_cases h4 : r ≤ 1114111
        · rw [isR_of (by omega)]
          go_enter Tryd.func19, Tryd.ntmps19
          go_wp2
          go_ret
          exact ⟨rfl, rfl⟩
        · rw [isR_not (by omega)]
          go_enter Tryd.func19, Tryd.ntmps19
          go_wp2
          go_ret
          exact ⟨rfl, rfl⟩
      · rw [isR_not (by omega)]
        go_enter Tryd.func19, Tryd.ntmps19
        go_wp2
        go_ret
        exact ⟨rfl, rfl⟩
  · have h3 : ¬ 57343 < r := by omega
    rw [isR_not (by omega)]
    go_enter Tryd.func19, Tryd.ntmps19
    go_wp2
    go_ret
    exact ⟨rfl, rfl⟩

theorem is_c (r : Int) (w : World) :
    Calls Tryd.prog 9 #[.int .i32 r] w fun e w' => e = .returned (.bool (isR r)) ∧ w = w' := by
  go_enter Tryd.func9, Tryd.ntmps9
  go_wp2_with (go_at_call 19; refine (validRune_c _ _).mono ?_; rintro e w' ⟨rfl, rfl⟩)
  go_ret
  exact ⟨rfl, rfl⟩

theorem bytes_c (r : Int) (w : World) :
    Calls Tryd.prog 7 #[.int .i32 r] w fun e w' => e = .returned (.string (bsOf r)) ∧ w = w' := by
  have hi := is_c r w
  by_cases h : isR r = true
  · have hb : bsOf r = Utf8.encode r := by unfold bsOf; rw [if_pos h]
    rw [hb]
    rw [h] at hi
    clear hb h
    go_enter Tryd.func7, Tryd.ntmps7
    go_wp2_with (go_at_call 9; refine hi.mono ?_; rintro e w' ⟨rfl, rfl⟩)
    go_ret
    exact ⟨rfl, rfl⟩
  · have h' : isR r = false := by simpa using h
    rw [bsOf_none h']
    rw [h'] at hi
    clear h h'
    go_enter Tryd.func7, Tryd.ntmps7
    go_wp2_with (go_at_call 9; refine hi.mono ?_; rintro e w' ⟨rfl, rfl⟩)
    go_ret
    exact ⟨rfl, rfl⟩

theorem bs_e9 : bsOf 233 = ⟨#[195, 169]⟩ := by decide +kernel
theorem is_7 : isR 7 = true := by decide

theorem awake_c (w : World) :
    Calls Tryd.prog 8 #[] w fun e w' => e = .returned (.bool true) ∧ w = w' := by
  have hb := bytes_c 233 w
  rw [bs_e9] at hb
  have hi := is_c 7 w
  rw [is_7] at hi
  go_enter Tryd.func8, Tryd.ntmps8
  go_wp2_with (first | (go_at_call 7; refine hb.mono ?_; rintro e w' ⟨rfl, rfl⟩) | (go_at_call 9; refine hi.mono ?_; rintro e w' ⟨rfl, rfl⟩))
  go_ret
  exact ⟨rfl, rfl⟩
end Go.Proofs.YtjcnnbakadbccaaDoor
