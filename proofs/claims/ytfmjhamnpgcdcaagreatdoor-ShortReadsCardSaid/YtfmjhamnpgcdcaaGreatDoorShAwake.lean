/-
  The fifth laws' awake answers true.
-/
import Derived.Test.YtfmjhamnpgcdcaaGreatDoorHpFree
import Derived.Test.YtfmjhamnpgcdcaaGreatDoorShHash
namespace Go.Proofs.YtfmjhamnpgcdcaaGreatDoor
open Go.RowKit Go.Sort
set_option linter.unusedVariables false

theorem fnv_a : fnvL [97] = 3826002220 := by decide +kernel
theorem free_13 : FreeOf [1, 3] 2 := ⟨by decide, by decide, fun m h1 h2 => by have : m = 1 := by omega
                                                                              subst this; decide⟩
set_option maxHeartbeats 1000000 in
theorem awake5_c (w : World) : Calls Tryz.prog 5 #[] w fun e w' => e = .returned (.bool true) ∧ Below w.heap.size w w' := by
  have cH := hash_c ⟨#[97]⟩ (by decide) w
  rw [show (⟨#[97]⟩ : ByteArray).data.toList = [97] from rfl, fnv_a] at cH
  have hS : SliceN (w.alloc (.cells #[.int .i64 1, .int .i64 3] 3)) (.slice (some ⟨w.heap.size, 0, none⟩) 2 2) [1, 3] := by
    refine Or.inr ⟨w.heap.size, 0, 2, by show _ < (w.heap.push _).size; simp, rfl, fun j hj => ?_⟩
    have hh : (w.alloc (.cells #[.int .i64 1, .int .i64 3] 3)).heap[w.heap.size]? = some (.cells #[.int .i64 1, .int .i64 3] 3 (0, 0)) := heap_alloc_new _ _
    rw [Nat.zero_add, Lib.cell_of_heap hh]
    have : j = 0 ∨ j = 1 := by simp at hj; omega
    rcases this with rfl | rfl <;> rfl
  have cF := free_c _ [1, 3] _ hS (by decide)
  unfold FreePost at cF
  have HB0 : Hid (Below w.heap.size w (w.alloc (.cells #[.int .i64 1, .int .i64 3] 3))) := Lib.hid ((Below.refl _ w).alloc (Nat.le_refl _) _)
  clear hS
  go_enter Tryz.func5, Tryz.ntmps5
  go_wp2_with fail
  refine cH.mono ?_
  rintro e w1 ⟨rfl, rfl⟩
  go_wp2_with fail
  refine cF.mono ?_
  rintro e w2 ⟨f, hf, _, rfl, hb⟩
  obtain rfl := freeOf_one hf free_13
  have HB : Hid (Below w.heap.size w w2) := Lib.hid (HB0.out.trans (hb.mono HB0.out.size))
  clear cH cF hf hb
  go_wp2
  go_ret
  exact ⟨rfl, HB.out⟩
end Go.Proofs.YtfmjhamnpgcdcaaGreatDoor
