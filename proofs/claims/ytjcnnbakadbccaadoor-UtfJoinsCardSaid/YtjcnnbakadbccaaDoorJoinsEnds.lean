/-
  The walk of the law 'UtfJoins' at no numbers, and at more than a hundred; and at all slices.
-/
import Derived.Test.YtjcnnbakadbccaaDoorJoinsLaw
namespace Go.Proofs.YtjcnnbakadbccaaDoor
open Go.RowKit
set_option linter.unusedVariables false

set_option maxHeartbeats 1000000 in
theorem joins_long (a : Option Addr) (n cap : Nat) (h : 100 < n) (hn : n ≤ 9223372036854775807) (w : World) :
    Calls Tryd.prog 6 #[.slice a n cap] w fun e w' => e = .returned (.bool true) ∧ Below w.heap.size w w' := by
  have hz : (100 : Int) < (n : Int) := by omega
  clear h
  go_enter Tryd.func6, Tryd.ntmps6
  go_wp2_with (go_at_call 8; refine (awake_c _).mono ?_; rintro e w' ⟨rfl, rfl⟩)
  go_ret
  exact ⟨rfl, Below.refl _ _⟩

set_option maxHeartbeats 1000000 in
theorem joins_nil (a : Option Addr) (cap : Nat) (w : World) (hT : Tabs w) :
    Calls Tryd.prog 6 #[.slice a 0 cap] w fun e w' => e = .returned (.bool true) ∧ Below w.heap.size w w' := by
  have cJ := join_nil a cap w
  have cA := fun (w1 : World) (hb : Below w.heap.size w w1) => all_c ⟨#[]⟩ (by decide) w1 (hT.step hb)
  have CA := Lib.hid cA
  clear cA hT
  go_enter Tryd.func6, Tryd.ntmps6
  go_wp2_with fail
  refine (awake_c _).mono ?_
  rintro e w' ⟨rfl, rfl⟩
  go_wp2_with fail
  refine cJ.mono ?_
  rintro e w1 ⟨rfl, hb1⟩
  go_wp2_with fail
  refine (CA.out _ hb1).mono ?_
  rintro e w2 ⟨v2, he, hs2, hb2⟩
  have he' : e = .returned (.tuple #[v2, .bool true]) := he
  subst he'
  have HS2 := Lib.hid hs2
  clear he hs2 cJ
  go_wp2
  refine wp_loop_rounds 1 ?_
  rw [rounds_succ]
  go_wp2_with fail
  refine (refJoin_nil a cap _).mono ?_
  rintro e w5 ⟨rfl, hb5⟩
  go_wp2_with fail
  refine (same_c (HS2.out.kept hb5) (SliceIs.nil _) (by show (([] : List Int)).length ≤ 1000; decide)).mono ?_
  rintro e w6 ⟨he, hb6⟩
  have he' : e = .returned (.bool true) := by rw [he]; rfl
  subst he'
  clear he
  go_wp2
  go_ret
  exact ⟨rfl, le2 (le2 hb1 hb2) (le2 hb5 hb6)⟩
end Go.Proofs.YtjcnnbakadbccaaDoor
