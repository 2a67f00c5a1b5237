/- Kit. -/
import Derived.Test.YtfioknaadbgjlaaGreatDoorEQ8
import Derived.Deep.MidRow
set_option maxRecDepth 100000
set_option linter.unusedVariables false
set_option linter.unusedSimpArgs false
namespace Go.Proofs.YtfioknaadbgjlaaGreatDoor
open Go.RowKit Go.Sort
end Go.Proofs.YtfioknaadbgjlaaGreatDoor
namespace Go.Proofs.YtfioknaadbgjlaaGreatDoor
open Go.RowKit Go.Sort
/-- Those that wait, up to n. -/
structure WaitI (row : List Bool) (n : Nat) (ys : List Int) : Prop where
  nd : ys.Nodup
  mem : ∀ y : Int, y ∈ ys ↔ (1 ≤ y ∧ y < (n : Int) ∧ row[y.toNat]? = some false)
  heap : HeapN ys.length ys
theorem WaitI.skip {row : List Bool} {n : Nat} {ys : List Int} (h : WaitI row n ys) (hn : row[n]? = some true) : WaitI row (n + 1) ys := by
  refine ⟨h.nd, fun y => ?_, h.heap⟩
  rw [h.mem y]
  constructor
  · rintro ⟨a, b, c⟩; exact ⟨a, by omega, c⟩
  · rintro ⟨a, b, c⟩
    refine ⟨a, ?_, c⟩
    by_cases e : y = n
    · subst e
      rw [Int.toNat_natCast, hn] at c
      cases c
    · omega
theorem WaitI.add {row : List Bool} {n : Nat} {ys zs : List Int} (h : WaitI row n ys) (h1 : 1 ≤ n) (hn : row[n]? = some false) (hp : zs.Perm ((n : Int) :: ys)) (hz : HeapN zs.length zs) : WaitI row (n + 1) zs := by
  refine ⟨hp.nodup_iff.2 (List.nodup_cons.2 ⟨fun hm => absurd ((h.mem _).1 hm).2.1 (by omega), h.nd⟩), fun y => ?_, hz⟩
  rw [hp.mem_iff, List.mem_cons, h.mem y]
  constructor
  · rintro (rfl | ⟨a, b, c⟩)
    · exact ⟨by omega, by omega, by rw [Int.toNat_natCast]; exact hn⟩
    · exact ⟨a, by omega, c⟩
  · rintro ⟨a, b, c⟩
    by_cases e : y = n
    · exact Or.inl e
    · exact Or.inr ⟨a, by omega, c⟩
def zBools : Array Value := boolRow (List.replicate 201 false)
theorem zero_bools (W : World) : (zeroValue 125).run Tryz.prog W = .ok (.agg zBools) W := (zero_of_info (P := Tryz.prog) (t := 125) (v := .agg zBools) (n := 201) (by kernel_rfl)).1 W
end Go.Proofs.YtfioknaadbgjlaaGreatDoor
