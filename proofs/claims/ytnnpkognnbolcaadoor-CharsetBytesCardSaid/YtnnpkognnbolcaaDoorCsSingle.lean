/-
  The contracts of single and double: each answers an encoding's row; what lay in memory stays.
-/
import Derived.Test.YtnnpkognnbolcaaDoorProg
import Derived.Test.YtnnpkognnbolcaaDoorCsRows
import Derived.WalkKit
import Derived.WalkSpells
import Derived.Lib.Hide
import Derived.Laws.Rows
import Derived.Laws.NewBlocks
import Derived.Below
import Derived.KernelRfl
namespace Go.Proofs.YtnnpkognnbolcaaDoor
open Go.RowKit
set_option linter.unusedVariables false

/-- What a row's value holds: where it begins, and a text of its characters. -/
def RowIs (v : Value) (f : Int) (l : List Int) : Prop := ∃ b : ByteArray, v = .agg #[.int .i64 f, .string b] ∧ b.data.toList = joinL l

def SinglePost (enc : Int) (w : World) (e : Ending) (w' : World) : Prop := ∃ v, e = .returned v ∧ RowIs v (singleF enc) (singleL enc) ∧ Below w.heap.size w w'
def DoublePost (enc x : Int) (w : World) (e : Ending) (w' : World) : Prop := ∃ v, e = .returned v ∧ RowIs v (doubleF enc x) (doubleL enc x) ∧ Below w.heap.size w w'

set_option maxHeartbeats 1000000 in
set_option maxRecDepth 100000 in
theorem single_c (enc : Int) (h0 : 0 ≤ enc) (h6 : enc ≤ 6) (w : World) : Calls Tryd.prog 27 #[.int .i64 enc] w (SinglePost enc w) := by
  obtain rfl | rfl | rfl | rfl | rfl | rfl | rfl : enc = 0 ∨ enc = 1 ∨ enc = 2 ∨ enc = 3 ∨ enc = 4 ∨ enc = 5 ∨ enc = 6 := by omega
  all_goals
    go_enter Tryd.func27, Tryd.ntmps27
    go_wp2
    refine bodyPost_ret (results_cell_row Tryd.results27 _ _ _ _ _ _ _ rfl (heap_alloc_new _ _) Tryd.underlying44 rfl (by kernel_rfl)) rfl ⟨_, rfl, ⟨_, rfl, by decide +kernel⟩, (Below.refl _ _).alloc (Nat.le_refl _) _⟩

set_option maxHeartbeats 1000000 in
set_option maxRecDepth 100000 in
theorem double_c (enc x : Int) (w : World) : Calls Tryd.prog 18 #[.int .i64 enc, .int .u8 x] w (DoublePost enc x w) := by
  by_cases h : enc = 6
  · subst h
    by_cases h1 : x = 130
    · subst h1
      go_enter Tryd.func18, Tryd.ntmps18
      go_wp2
      refine bodyPost_ret (results_cell_row Tryd.results18 _ _ _ _ _ _ _ rfl (heap_alloc_new _ _) Tryd.underlying44 rfl (by kernel_rfl)) rfl ⟨_, rfl, ⟨_, rfl, by decide +kernel⟩, (Below.refl _ _).alloc (Nat.le_refl _) _⟩
    · by_cases h2 : x = 131
      · subst h2
        clear h1
        go_enter Tryd.func18, Tryd.ntmps18
        go_wp2
        refine bodyPost_ret (results_cell_row Tryd.results18 _ _ _ _ _ _ _ rfl (heap_alloc_new _ _) Tryd.underlying44 rfl (by kernel_rfl)) rfl ⟨_, rfl, ⟨_, rfl, by decide +kernel⟩, (Below.refl _ _).alloc (Nat.le_refl _) _⟩
      · by_cases h3 : x = 132
        · subst h3
          clear h1 h2
          go_enter Tryd.func18, Tryd.ntmps18
          go_wp2
          refine bodyPost_ret (results_cell_row Tryd.results18 _ _ _ _ _ _ _ rfl (heap_alloc_new _ _) Tryd.underlying44 rfl (by kernel_rfl)) rfl ⟨_, rfl, ⟨_, rfl, by decide +kernel⟩, (Below.refl _ _).alloc (Nat.le_refl _) _⟩
        · have HX := Lib.hid (show doubleF 6 x = 0 ∧ doubleL 6 x = [] by
            unfold doubleF doubleL
            rw [if_neg (by omega), if_pos rfl, if_neg h1, if_neg h2, if_neg h3]
            exact ⟨rfl, rfl⟩)
          have e1 : (x == 130) = false := by rw [beq_eq_false_iff_ne]; exact h1
          have e2 : (x == 131) = false := by rw [beq_eq_false_iff_ne]; exact h2
          have e3 : (x == 132) = false := by rw [beq_eq_false_iff_ne]; exact h3
          clear h1 h2 h3
          go_enter Tryd.func18, Tryd.ntmps18
          go_wp2
          refine bodyPost_ret (results_cell_row Tryd.results18 _ _ _ _ _ _ _ rfl (heap_alloc_new _ _) Tryd.underlying44 rfl (by kernel_rfl)) rfl ⟨_, rfl, ⟨_, by rw [HX.out.1], by rw [HX.out.2]; rfl⟩, (Below.refl _ _).alloc (Nat.le_refl _) _⟩
  · have HX := Lib.hid (show doubleF enc x = 0 ∧ doubleL enc x = [] by
      unfold doubleF doubleL
      rw [if_neg (by rintro ⟨a, _⟩; exact h a), if_neg h]
      exact ⟨rfl, rfl⟩)
    have e1 : (enc == 6) = false := by rw [beq_eq_false_iff_ne]; exact h
    clear h
    go_enter Tryd.func18, Tryd.ntmps18
    go_wp2
    refine bodyPost_ret (results_cell_row Tryd.results18 _ _ _ _ _ _ _ rfl (heap_alloc_new _ _) Tryd.underlying44 rfl (by kernel_rfl)) rfl ⟨_, rfl, ⟨_, by rw [HX.out.1], by rw [HX.out.2]; rfl⟩, (Below.refl _ _).alloc (Nat.le_refl _) _⟩
end Go.Proofs.YtnnpkognnbolcaaDoor
