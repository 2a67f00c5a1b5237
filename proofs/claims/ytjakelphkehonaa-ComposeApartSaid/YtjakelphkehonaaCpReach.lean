/-
  The contract of compose's reaches; a cell of an own slice is written.
-/
import Derived.Test.YtjakelphkehonaaCpApart
import Derived.Test.YtjakelphkehonaaTogMath
namespace Go.Proofs.Ytjakelphkehonaa
open Go.RowKit Go.Sort
set_option linter.unusedVariables false

theorem below_set {B g : Nat} (w : World) (i : Nat) (v : Value) (hB : B ≤ g) : Below B w (w.setCell ⟨g, i, none⟩ v) := by
  rw [setCell_eq]
  refine ⟨rfl, rfl, rfl, ?_, ?_⟩
  · simp [mapBlock]
  · intro k hk
    have : g ≠ k := by omega
    simp [mapBlock, Array.getElem?_modify, this]
theorem OwnI.set {B g n cap i : Nat} {w : World} {xs : List Int} (x : Int) (h : OwnI B w (.slice (some ⟨g, 0, none⟩) n cap) xs) : OwnI B (w.setCell ⟨g, i, none⟩ (.int .i32 x)) (.slice (some ⟨g, 0, none⟩) n cap) (xs.set i x) := by
  refine ⟨by simp, ?_⟩
  rcases h.2 with ⟨hv, _⟩ | ⟨g', cap', cur, hv, hg, hb, hn, hm, hs, ht⟩
  · cases hv
  · cases hv
    refine Or.inr ⟨g, cap, cur.setIfInBounds i (.int .i32 x), by simp, hg, ?_, by simpa using hn, hm, by simpa using hs, ?_⟩
    · rw [setCell_eq]
      simp [mapBlock, Array.getElem?_modify, hb, onCells]
    · rw [Array.toList_setIfInBounds, List.length_set, List.map_set, List.take_set, ht]

def ReachPost (ms : List Int) (r : Int) (w : World) (e : Ending) (w' : World) : Prop := e = .returned (.bool (mayB ms r)) ∧ Below w.heap.size w w'
set_option maxHeartbeats 1000000 in
theorem reach_nil (a : Option Addr) (cap : Nat) (r : Int) (w : World) : Calls Try.prog 23 #[.slice a 0 cap, .int .i32 r] w (ReachPost [] r w) := by
  go_enter Try.func23, Try.ntmps23
  go_wp2
  go_quiet (fail)
  go_wp2
  go_ret
  exact ⟨rfl, below_drewN' (Below.refl _ _) _⟩
set_option maxHeartbeats 1000000 in
theorem reach_some (g off k cap : Nat) (ms : List Int) (z r : Int) (hz : ms.getLast? = some z) (w : World) (hc : w.cell? ⟨g, off + k, none⟩ = some (.int .i32 z)) (hk : k < 100000) :
    Calls Try.prog 23 #[.slice (some ⟨g, off, none⟩) (k + 1) cap, .int .i32 r] w (ReachPost ms r w) := by
  have cC := fun x w => cls_c x w
  have HM := Lib.hid (show mayB ms r = decide (classI z < classI r) by unfold mayB; rw [hz])
  unfold ReachPost
  rw [HM.out]
  have wk : IntKind.i64.wrap (((k + 1 : Nat) : Int) - 1) = (k : Int) := by rw [IntKind.wrap_i64]; omega
  have wk' : IntKind.i64.wrap ((k : Int)) = (k : Int) := by rw [IntKind.wrap_i64]; omega
  have hne : (((k + 1 : Nat) : Int) == 0) = false := by rw [beq_eq_false_iff_ne]; omega
  have hne' : (((k : Int) + 1) == 0) = false := by rw [beq_eq_false_iff_ne]; omega
  go_enter Try.func23, Try.ntmps23
  go_wp2
  go_quiet ((go_at_call 15; exact Calls.quiet_of_same ((cC _ _).mono fun _ _ h => ⟨h.1, h.2⟩)))
  go_wp2
  go_ret
  exact ⟨rfl, below_drewN' (Below.refl _ _) _⟩
theorem reach_c (v : Value) (ms : List Int) (r : Int) (w : World) (hv : SliceIs w v ms) (hs : ms.length < 100000) : Calls Try.prog 23 #[v, .int .i32 r] w (ReachPost ms r w) := by
  rcases List.eq_nil_or_concat ms with h0 | ⟨m, z, h0⟩
  · subst h0
    obtain ⟨a, cap, rfl⟩ := hv.len
    exact reach_nil a cap r w
  · rw [List.concat_eq_append] at h0
    subst h0
    rcases hv with ⟨h0, _⟩ | ⟨g, off, cap, hg, rfl, hc⟩
    · simp at h0
    · have := hc m.length (by simp)
      rw [getD_mid m [] z] at this
      rw [List.length_append, List.length_singleton] at hs ⊢
      exact reach_some g off m.length cap (m ++ [z]) z r (by simp) w this (by omega)
end Go.Proofs.Ytjakelphkehonaa
