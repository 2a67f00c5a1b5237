/-
  A device (stage 6): made anew.
-/
import Derived.Test.YtmpfdmjbgabcdaaSeDev
import Derived.BigQuiet
import Derived.BigRegion
namespace Go.Proofs.Ytmpfdmjbgabcdaa
open Go.RowKit Go.Sort
set_option linter.unusedVariables false

def zero64 : ByteArray := ⟨Array.replicate 64 0⟩
def stNew (n : Nat) : St := ⟨List.replicate n zero64, List.replicate n zero64, [], false, 0⟩
theorem goodNew (n : Nat) (h : n ≤ 4096) : Good (stNew n) := by
  have hz : ∀ s ∈ List.replicate n zero64, s.size = 64 := fun s hs => by rw [(List.mem_replicate.1 hs).2]; rfl
  exact ⟨by simp [stNew], hz, hz, (fun p hp => by cases hp), by simpa [stNew] using h, (fun e => by cases e), by simp [stNew], fun i _ => rfl⟩
def zs64 : Array Value := Array.replicate 64 (.int .u8 0)
theorem Try.infoSecZ : (Try.prog.info? 79).map (fun i => (i.zero, i.size, i.bytes)) = some (some (.agg zs64), 64, 64) := by kernel_rfl
theorem made_flat (n : Nat) : madeCells (Value.agg zs64).cells (n * 64) = (flat (List.replicate n zero64)).toArray := by
  apply Array.ext'
  rw [List.toList_toArray]
  have h1 : sec zero64 = List.replicate 64 (.int .u8 0) := by simp [sec, zero64]
  have h2 : flat (List.replicate n zero64) = List.replicate (n * 64) (.int .u8 0) := by
    unfold flat
    induction n with
    | zero => rfl
    | succ n ih => rw [List.replicate_succ, List.flatMap_cons, ih, h1, Nat.add_mul, Nat.add_comm, List.replicate_append_replicate]
  rw [h2]
  apply List.ext_getElem?
  intro i
  simp only [madeCells, Value.cells, zs64]
  by_cases h : i < n * 64
  · simp [h]
    have : i % 64 < 64 := Nat.mod_lt _ (by decide)
    simp [this]
  · simp [h]
theorem run_new_secs (n : Nat) (hn : n ≤ 4096) (W : World) : (Instr.makeSlice 60 (.int .i64 n) (.int .i64 n)).run Try.prog W = .ok (.slice (some ⟨W.heap.size, 0, none⟩) n n) (W.alloc (.cells (flat (List.replicate n zero64)).toArray 79)) := by
  obtain ⟨i0, hi0, hz0, hz1, hz2⟩ := info_parts Try.infoSecZ
  have := run_make (P := Try.prog) W 60 79 i0 (.agg zs64) Try.underlying60 hi0 hz0 .i64 .i64 n n (by omega) (by omega) (by rw [hz2]; omega) (by omega)
  rw [hz1, Int.toNat_natCast, made_flat] at this
  exact this
theorem devNew {B : Nat} {w W : World} (n gn gs b : Nat) (hB : B ≤ w.heap.size) (hn : gn ≠ gs) (h1 : w.heap.size ≤ gn) (h2 : w.heap.size ≤ gs) (h3 : w.heap.size ≤ b)
    (e1 : W.heap[gn]? = some (.cells (flat (List.replicate n zero64)).toArray 79 (0, 0))) (e2 : W.heap[gs]? = some (.cells (flat (List.replicate n zero64)).toArray 79 (0, 0)))
    (e3 : W.heap[b]? = some (.cells #[.slice (some ⟨gn, 0, none⟩) n n, .slice (some ⟨gs, 0, none⟩) n n, .slice none 0 0, .bool false, .int .i64 0] 65 (0, 0))) : Dev B W b (stNew n) :=
  ⟨gn, gs, .slice none 0 0, by omega, by omega, by omega, hn, by rw [e3]; simp [head, stNew], e1, e2, ⟨rfl, Or.inl ⟨rfl, rfl⟩⟩⟩
theorem newDone (w : World) (N b : Nat) (Z : Array Value) (hZ : (flat (List.replicate N zero64)).toArray = Z) (gn : Nat) (h : (gn = w.heap.size ∧ b = w.heap.size + 1 + 1) ∨ (gn = w.heap.size + 1 ∧ b = w.heap.size + 1 + 1)) :
    Dev w.heap.size (((w.alloc (.cells Z 79)).alloc (.cells Z 79)).alloc (.cells #[.slice (some ⟨gn, 0, none⟩) N N, .slice (some ⟨2 * w.heap.size + 1 - gn, 0, none⟩) N N, .slice none 0 0, .bool false, .int .i64 0] 65)).drew b (stNew N) := by
  have s1 : (w.alloc (.cells Z 79)).heap.size = w.heap.size + 1 := by simp
  have s2 : ((w.alloc (.cells Z 79)).alloc (.cells Z 79)).heap.size = w.heap.size + 1 + 1 := by simp
  have a0 : ∀ o, (((w.alloc (.cells Z 79)).alloc (.cells Z 79)).alloc o).heap[w.heap.size]? = some (.cells Z 79 (0, 0)) := fun o => by
    rw [Below.heap_alloc _ _ _ (by rw [s2]; omega), Below.heap_alloc _ _ _ (by rw [s1]; omega)]
    exact heap_alloc_new _ _
  have a1 : ∀ o, (((w.alloc (.cells Z 79)).alloc (.cells Z 79)).alloc o).heap[w.heap.size + 1]? = some (.cells Z 79 (0, 0)) := fun o => by
    rw [Below.heap_alloc _ _ _ (by rw [s2]; omega), ← s1]
    exact heap_alloc_new _ _
  have a2 : ∀ o, (((w.alloc (.cells Z 79)).alloc (.cells Z 79)).alloc o).heap[w.heap.size + 1 + 1]? = some o := fun o => by
    rw [← s2]
    exact heap_alloc_new _ _
  rcases h with ⟨rfl, rfl⟩ | ⟨rfl, rfl⟩
  · rw [show 2 * w.heap.size + 1 - w.heap.size = w.heap.size + 1 by omega]
    refine devNew (w := w) N w.heap.size (w.heap.size + 1) (w.heap.size + 1 + 1) (Nat.le_refl _) (by omega) (by omega) (by omega) (by omega) ?_ ?_ ?_
    · rw [hZ]; exact a0 _
    · rw [hZ]; exact a1 _
    · exact a2 _
  · rw [show 2 * w.heap.size + 1 - (w.heap.size + 1) = w.heap.size by omega]
    refine devNew (w := w) N (w.heap.size + 1) w.heap.size (w.heap.size + 1 + 1) (Nat.le_refl _) (by omega) (by omega) (by omega) (by omega) ?_ ?_ ?_
    · rw [hZ]; exact a1 _
    · rw [hZ]; exact a0 _
    · exact a2 _
theorem newA (w : World) (N : Nat) (Z : Array Value) (hZ : (flat (List.replicate N zero64)).toArray = Z) :
    Dev w.heap.size (((w.alloc (.cells Z 79)).alloc (.cells Z 79)).alloc (.cells #[.slice (some ⟨w.heap.size, 0, none⟩) N N, .slice (some ⟨w.heap.size + 1, 0, none⟩) N N, .slice none 0 0, .bool false, .int .i64 0] 65)).drew (w.heap.size + 1 + 1) (stNew N) := by
  have := newDone w N _ Z hZ _ (Or.inl ⟨rfl, rfl⟩)
  rwa [show 2 * w.heap.size + 1 - w.heap.size = w.heap.size + 1 by omega] at this
theorem newB (w : World) (N : Nat) (Z : Array Value) (hZ : (flat (List.replicate N zero64)).toArray = Z) :
    Dev w.heap.size (((w.alloc (.cells Z 79)).alloc (.cells Z 79)).alloc (.cells #[.slice (some ⟨w.heap.size + 1, 0, none⟩) N N, .slice (some ⟨w.heap.size, 0, none⟩) N N, .slice none 0 0, .bool false, .int .i64 0] 65)).drew (w.heap.size + 1 + 1) (stNew N) := by
  have := newDone w N _ Z hZ _ (Or.inr ⟨rfl, rfl⟩)
  rwa [show 2 * w.heap.size + 1 - (w.heap.size + 1) = w.heap.size by omega] at this
/-- How many sectors. -/
def sizeI (n : Int) : Nat := (min (max n 0) 4096).toNat
def NewPost (n : Int) (w : World) (e : Ending) (w' : World) : Prop := ∃ b, e = .returned (.pointer (some ⟨b, 0, none⟩)) ∧ Dev w.heap.size w' b (stNew (sizeI n)) ∧ Below w.heap.size w w' ∧ Off [] w w'
set_option maxHeartbeats 2000000 in
theorem new_c (n : Int) (w : World) : Calls Try.prog 9 #[.int .i64 n] w (NewPost n w) := by
  unfold NewPost
  obtain ⟨N, hN, hNle⟩ : ∃ N : Nat, min (max n 0) 4096 = (N : Int) ∧ N ≤ 4096 := ⟨sizeI n, by unfold sizeI; omega, by unfold sizeI; omega⟩
  have hs : sizeI n = N := by unfold sizeI; rw [hN]; rfl
  have hm := run_new_secs N hNle
  rw [hs]
  clear hs
  generalize hZ : (flat (List.replicate N zero64)).toArray = Z at *
  go_enter Try.func9, Try.ntmps9
  go_wp2
  go_big_region
  all_goals go_wp2
  all_goals go_ret
  · exact ⟨_, rfl, newA w N Z hZ, ((((Below.refl _ w).alloc (Nat.le_refl _) _).alloc (by simp) _).alloc (by simp; omega) _).drew, (((Off.refl [] w).alloc _).alloc _).alloc _⟩
  · exact ⟨_, rfl, newB w N Z hZ, ((((Below.refl _ w).alloc (Nat.le_refl _) _).alloc (by simp) _).alloc (by simp; omega) _).drew, (((Off.refl [] w).alloc _).alloc _).alloc _⟩
end Go.Proofs.Ytmpfdmjbgabcdaa
