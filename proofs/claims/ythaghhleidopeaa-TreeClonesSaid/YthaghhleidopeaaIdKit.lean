/-
  The heap's own methods: how many there are, which is less, two changed about.
-/
import Derived.Test.YthaghhleidopeaaProg
import Derived.Test.YthaghhleidopeaaHpMath
import Derived.Test.YthaghhleidopeaaRowKit
import Derived.WalkKit
import Derived.WalkSpells
import Derived.IntWalk
import Derived.Lib.Hide
import Derived.Below
import Derived.Sort.WalkC
import Derived.ProofKit
import Derived.Lib.Builder
import Derived.LoopTactic
import Derived.Deep.LoopGhost
import Derived.Deep.QuietTactic
import Derived.BigQuiet
import Derived.BigRegion
namespace Go.Proofs.Ythaghhleidopeaa
open Go.RowKit Go.Sort
set_option linter.unusedVariables false

/-- A slice of numbers of one's own. -/
def OwnN (B : Nat) (w : World) (v : Value) (xs : List Int) : Prop := w.ownsRow B 3 1 v xs.length (xs.map (Value.int .i64))
theorem OwnN.set {B g n cap i : Nat} {w : World} {xs : List Int} (x : Int) (h : OwnN B w (.slice (some ⟨g, 0, none⟩) n cap) xs) : OwnN B (w.setCell ⟨g, i, none⟩ (.int .i64 x)) (.slice (some ⟨g, 0, none⟩) n cap) (xs.set i x) := by
  refine ⟨by simp, ?_⟩
  rcases h.2 with ⟨hv, _⟩ | ⟨g', cap', cur, hv, hg, hb, hn, hm, hs, ht⟩
  · cases hv
  · cases hv
    refine Or.inr ⟨g, cap, cur.setIfInBounds i (.int .i64 x), by simp, hg, ?_, by simpa using hn, hm, by simpa using hs, ?_⟩
    · rw [setCell_eq]
      simp [mapBlock, Array.getElem?_modify, hb, onCells]
    · rw [Array.toList_setIfInBounds, List.length_set, List.map_set, List.take_set, ht]
theorem OwnN.cell {B g n cap j : Nat} {w : World} {xs : List Int} (h : OwnN B w (.slice (some ⟨g, 0, none⟩) n cap) xs) (hj : j < xs.length) : w.cell? ⟨g, j, none⟩ = some (.int .i64 (xs.getD j 0)) ∧ w.frozen? ⟨g, j, none⟩ = false := by
  rcases h.2 with ⟨hv, _⟩ | ⟨g', cap', cur, hv, hg, hb, hn, hm, hs, ht⟩
  · cases hv
  · cases hv
    refine ⟨?_, Lib.frozen_of_heap hb j⟩
    rw [Lib.cell_of_heap hb, ← Array.getElem?_toList]
    have := congrArg (·[j]?) ht
    simp only [Nat.mul_one, List.getElem?_take, if_pos hj] at this
    rw [this]
    simp [List.getElem?_eq_getElem hj, List.getD_eq_getElem?_getD]
theorem OwnN.below {B : Nat} {w w' : World} {v : Value} {xs : List Int} (h : OwnN B w v xs) (hb : Below w.heap.size w w') : OwnN B w' v xs :=
  h.kept (row := none) ⟨hb.os, hb.tape, hb.output, hb.size, fun k hk _ => hb.block k hk⟩ (by cases h : v.ownBlock with | none => exact Or.inl rfl | some x => exact Or.inr (by simp))
theorem OwnN.drewN {B : Nat} {w : World} {v : Value} {xs : List Int} (h : OwnN B w v xs) (q : Nat) : OwnN B (w.drewN q) v xs := by
  induction q with
  | zero => exact h
  | succ q ih => exact ih.below (Below.refl _ _).drew
/-- The own form: at the head of a block from B on. -/
theorem OwnN.head {B : Nat} {w : World} {v : Value} {xs : List Int} (h : OwnN B w v xs) (hne : xs ≠ []) : ∃ g cap, v = .slice (some ⟨g, 0, none⟩) xs.length cap ∧ B ≤ g ∧ g < w.heap.size ∧ xs.length ≤ cap := by
  rcases h.2 with ⟨hv, h0⟩ | ⟨g, cap, cur, hv, hg, hb, hn, hm, hs, ht⟩
  · exact absurd (List.eq_nil_of_length_eq_zero h0) hne
  · exact ⟨g, cap, hv, hg, (h.lt g (by rw [hv]; rfl)).2, hn⟩
theorem OwnN.len {B : Nat} {w : World} {v : Value} {xs : List Int} (h : OwnN B w v xs) : ∃ a cap, v = .slice a xs.length cap := by
  rcases h.2 with ⟨hv, h0⟩ | ⟨g, cap, cur, hv, _⟩
  · exact ⟨none, 0, by rw [hv, h0]⟩
  · exact ⟨_, cap, hv⟩

theorem grown_refl (w : World) (r : Option Nat) : w.grownBy w r := ⟨rfl, rfl, rfl, Nat.le_refl _, fun _ _ _ => rfl⟩
theorem grown_drew {a w : World} {r : Option Nat} (h : a.grownBy w r) : a.grownBy w.drew r := ⟨h.os, h.tape, h.output, h.size, h.block⟩
theorem below_drewN2 {B : Nat} {a w : World} (h : Below B a w) : ∀ q, Below B a (w.drewN q)
  | 0 => h
  | q + 1 => (below_drewN2 h q).drew
theorem grown_drewN {a w : World} {r : Option Nat} {q : Nat} (h : (a.drewN q).grownBy w r) : a.grownBy w r := by
  have hb := below_drewN2 (Below.refl a.heap.size a) q
  exact ⟨h.os.trans hb.os, h.tape.trans hb.tape, h.output.trans hb.output, Nat.le_trans hb.size h.size, fun k hk hne => (h.block k (by have := hb.size; omega) hne).trans (hb.block k hk)⟩
theorem grown_set {a w : World} {r : Option Nat} (h : a.grownBy w r) {p : Addr} (hp : r = some p.block) (x : Value) : a.grownBy (w.setCell p x) r :=
  ⟨h.os, h.tape, h.output, by simpa [World.setCell] using h.size, fun k hk hne => by
    rw [Below.heap_setCell w p x k (fun e => hne (by rw [hp, e]))]
    exact h.block k hk hne⟩
theorem len_c (a : Option Addr) (n cap : Nat) (w : World) : Calls Try.prog 60 #[.slice a n cap] w fun e w' => e = .returned (.int .i64 n) ∧ w = w' := by
  go_enter Try.func60, Try.ntmps60
  go_wp2
  go_ret
  exact ⟨rfl, rfl⟩
set_option maxHeartbeats 1000000 in
theorem less_c (B g n cap i j : Nat) (xs : List Int) (w : World) (h : OwnN B w (.slice (some ⟨g, 0, none⟩) n cap) xs) (hn : xs.length = n) (hi : i < n) (hj : j < n) (b : Bool) (hb : decide (xs.getD i 0 < xs.getD j 0) = b) :
    Calls Try.prog 113 #[.slice (some ⟨g, 0, none⟩) n cap, .int .i64 i, .int .i64 j] w fun e w' => e = .returned (.bool b) ∧ ∃ q, w' = w.drewN q := by
  obtain ⟨c1, _⟩ := h.cell (j := i) (by omega)
  obtain ⟨c2, _⟩ := h.cell (j := j) (by omega)
  generalize xs.getD i 0 = x at *
  generalize xs.getD j 0 = y at *
  have hiz : (i : Int) < (n : Int) := by omega
  have hjz : (j : Int) < (n : Int) := by omega
  subst hb
  clear hn h
  go_enter Try.func113, Try.ntmps113
  go_wp2
  go_quiet (fail)
  go_wp2
  go_ret
  exact ⟨rfl, _, rfl⟩
set_option maxHeartbeats 1000000 in
theorem swap_c (B g n cap i j : Nat) (xs : List Int) (w : World) (h : OwnN B w (.slice (some ⟨g, 0, none⟩) n cap) xs) (hB : B ≤ g) (hn : xs.length = n) (hi : i < n) (hj : j < n) :
    Calls Try.prog 115 #[.slice (some ⟨g, 0, none⟩) n cap, .int .i64 i, .int .i64 j] w fun e w' => e = .returned (.tuple #[]) ∧ OwnN B w' (.slice (some ⟨g, 0, none⟩) n cap) (swI xs i j) ∧ w.grownBy w' (some g) := by
  have h9 := h.cell (j := i) (by omega)
  have h8 := h.cell (j := j) (by omega)
  have HO : Hid (OwnN B ((w.setCell ⟨g, i, none⟩ (.int .i64 (xs.getD j 0))).setCell ⟨g, j, none⟩ (.int .i64 (xs.getD i 0))).drew (.slice (some ⟨g, 0, none⟩) n cap) (swI xs i j)) := Lib.hid (((h.set (xs.getD j 0)).set (xs.getD i 0)).below (Below.refl _ _).drew)
  have HBl : Hid (w.grownBy ((w.setCell ⟨g, i, none⟩ (.int .i64 (xs.getD j 0))).setCell ⟨g, j, none⟩ (.int .i64 (xs.getD i 0))).drew (some g)) := Lib.hid (grown_drew (grown_set (grown_set (grown_refl w _) (p := ⟨g, i, none⟩) rfl _) (p := ⟨g, j, none⟩) rfl _))
  obtain ⟨c1, f1⟩ := h9
  obtain ⟨c2, f2⟩ := h8
  have hxy : i = j → xs.getD i 0 = xs.getD j 0 := fun e => by rw [e]
  generalize swI xs i j = ys at *
  generalize xs.getD i 0 = x at *
  generalize xs.getD j 0 = y at *
  have hiz : (i : Int) < (n : Int) := by omega
  have hjz : (j : Int) < (n : Int) := by omega
  by_cases hij : i = j
  · subst hij
    obtain rfl := hxy rfl
    clear hn h hxy
    go_enter Try.func115, Try.ntmps115
    go_wp2
    go_big_region
    all_goals go_wp2
    go_end0
    exact ⟨rfl, HO.out, HBl.out⟩
  · have hji : j ≠ i := Ne.symm hij
    clear hn h hxy
    go_enter Try.func115, Try.ntmps115
    go_wp2
    go_big_region
    all_goals go_wp2
    go_end0
    exact ⟨rfl, HO.out, HBl.out⟩
end Go.Proofs.Ythaghhleidopeaa
