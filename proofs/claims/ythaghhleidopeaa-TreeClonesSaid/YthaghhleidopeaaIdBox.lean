/-
  A pool's memory, and what a method of its heap is found at: the pointer's own, and those that are promoted from the slice.
-/
import Derived.Test.YthaghhleidopeaaIdKit
namespace Go.Proofs.Ythaghhleidopeaa
open Go.RowKit Go.Sort
set_option linter.unusedVariables false

/-- What stays besides a block and a row. -/
structure Keeps (b : Nat) (r : Option Nat) (w0 w : World) : Prop where
  os : w.os = w0.os
  tape : w.tape = w0.tape
  output : w.output = w0.output
  size : w0.heap.size ≤ w.heap.size
  block : ∀ k, k < w0.heap.size → k ≠ b → some k ≠ r → w.heap[k]? = w0.heap[k]?
theorem Keeps.refl (b : Nat) (r : Option Nat) (w : World) : Keeps b r w w := ⟨rfl, rfl, rfl, Nat.le_refl _, fun _ _ _ _ => rfl⟩
theorem Keeps.below {b B : Nat} {r : Option Nat} {w0 w : World} (h : Keeps b r w0 w) (hB : B ≤ b) (hs : B ≤ w0.heap.size) (hr : ∀ k, r = some k → B ≤ k) : Below B w0 w :=
  ⟨h.os, h.tape, h.output, h.size, fun k hk => h.block k (by omega) (by omega) (fun e => by have := hr k e.symm; omega)⟩
theorem Keeps.ofBelow {b : Nat} {r : Option Nat} {w0 w w' : World} (h : Keeps b r w0 w) (hb : Below w.heap.size w w') : Keeps b r w0 w' :=
  ⟨hb.os.trans h.os, hb.tape.trans h.tape, hb.output.trans h.output, Nat.le_trans h.size hb.size, fun k hk h1 h2 => (hb.block k (by have := h.size; omega)).trans (h.block k hk h1 h2)⟩
/-- A pool's three cells. -/
def poolO (m u : Nat) (v : Value) : Array Value := #[.int .i64 (m : Int), .int .i64 (u : Int), v]
/-- The pool at b: the greatest number, how far numbers are used, and those that wait, whose cells are its own; since w0 nothing but the pool, and the row that it had then, is otherwise. -/
structure Box (w0 : World) (r : Option Nat) (m u b : Nat) (w : World) (v : Value) (xs : List Int) : Prop where
  at' : w.heap[b]? = some (.cells (poolO m u v) 76 (0, 0))
  own : OwnN (b + 1) w v xs
  row : ∀ k, v.ownBlock = some k → some k = r ∨ w0.heap.size ≤ k
  keep : Keeps b r w0 w
theorem lt_getH {w : World} {b : Nat} {o : Obj} (h : w.heap[b]? = some o) : b < w.heap.size := (Array.getElem?_eq_some_iff.1 h).1
section
variable {w0 w w' : World} {r : Option Nat} {m u b : Nat} {v v' : Value} {xs ys : List Int}
theorem Box.cell (h : Box w0 r m u b w v xs) : w.cell? ⟨b, 2, none⟩ = some v ∧ w.frozen? ⟨b, 2, none⟩ = false := ⟨by rw [Lib.cell_of_heap h.at']; rfl, Lib.frozen_of_heap h.at' 2⟩
theorem Box.cell0 (h : Box w0 r m u b w v xs) : w.cell? ⟨b, 0, none⟩ = some (.int .i64 (m : Int)) ∧ w.frozen? ⟨b, 0, none⟩ = false := ⟨by rw [Lib.cell_of_heap h.at']; rfl, Lib.frozen_of_heap h.at' 0⟩
theorem Box.cell1 (h : Box w0 r m u b w v xs) : w.cell? ⟨b, 1, none⟩ = some (.int .i64 (u : Int)) ∧ w.frozen? ⟨b, 1, none⟩ = false := ⟨by rw [Lib.cell_of_heap h.at']; rfl, Lib.frozen_of_heap h.at' 1⟩
theorem Box.lt (h : Box w0 r m u b w v xs) : b < w.heap.size := lt_getH h.at'
theorem Box.away (h : Box w0 r m u b w v xs) : v.ownBlock ≠ some b := fun e => by have := (h.own.lt b e).1; omega
theorem Box.drew (h : Box w0 r m u b w v xs) : Box w0 r m u b w.drew v xs := ⟨h.at', h.own.below (Below.refl _ _).drew, h.row, ⟨h.keep.os, h.keep.tape, h.keep.output, h.keep.size, h.keep.block⟩⟩
theorem Box.drewN (h : Box w0 r m u b w v xs) (q : Nat) : Box w0 r m u b (w.drewN q) v xs := by
  induction q with
  | zero => exact h
  | succ q ih => exact ih.drew
theorem Keeps.grown (h : Keeps b r w0 w) (hr : ∀ k, v.ownBlock = some k → some k = r ∨ w0.heap.size ≤ k) (hg : w.grownBy w' v.ownBlock) : Keeps b r w0 w' :=
  ⟨hg.os.trans h.os, hg.tape.trans h.tape, hg.output.trans h.output, Nat.le_trans h.size hg.size, fun k hk h1 h2 => by
    rw [hg.block k (by have := h.size; omega) (fun e => by
      rcases hr k e.symm with h3 | h3
      · exact h2 h3
      · omega)]
    exact h.block k hk h1 h2⟩
/-- The row's own cells change. -/
theorem Box.kept {g n cap : Nat} (h : Box w0 r m u b w (.slice (some ⟨g, 0, none⟩) n cap) xs) (hg : w.grownBy w' (some g)) (ho : OwnN (b + 1) w' (.slice (some ⟨g, 0, none⟩) n cap) ys) : Box w0 r m u b w' (.slice (some ⟨g, 0, none⟩) n cap) ys :=
  ⟨by rw [hg.block b h.lt (fun e => h.away e.symm)]; exact h.at', ho, h.row, h.keep.grown h.row hg⟩
/-- All blocks that were there stay. -/
theorem Box.below (h : Box w0 r m u b w v xs) (hb : Below w.heap.size w w') : Box w0 r m u b w' v xs :=
  ⟨by rw [hb.block b h.lt]; exact h.at', h.own.below hb, h.row, h.keep.ofBelow hb⟩
/-- Seen from now. -/
theorem Box.now (h : Box w0 r m u b w v xs) : Box w v.ownBlock m u b w v xs := ⟨h.at', h.own, fun k hk => Or.inl hk.symm, Keeps.refl _ _ _⟩
theorem Keeps.set (h : Keeps b r w0 w) (o : Nat) (x : Value) : Keeps b r w0 (w.setCell ⟨b, o, none⟩ x) :=
  ⟨h.os, h.tape, h.output, by have := h.size; rw [setCell_eq]; simpa [mapBlock] using this, fun k hk h1 h2 => by
    rw [Below.heap_setCell w ⟨b, o, none⟩ x k h1]
    exact h.block k hk h1 h2⟩
theorem OwnN.far {B : Nat} (h : OwnN B w v xs) {o : Nat} {x : Value} (hb : v.ownBlock ≠ some b) : OwnN B (w.setCell ⟨b, o, none⟩ x) v xs :=
  World.ownsRow.kept (row := some b) h ⟨rfl, rfl, rfl, by rw [setCell_eq]; simp [mapBlock], fun k hk hne => Below.heap_setCell w ⟨b, o, none⟩ x k (fun e => hne (by rw [e]))⟩ (Or.inr hb)
/-- The slice is stored anew. -/
theorem Box.put (h : Box w0 r m u b w v xs) (hg : w.grownBy w' v.ownBlock) (ho : OwnN (b + 1) w' v' ys) (hr : ∀ k, v'.ownBlock = some k → some k = v.ownBlock ∨ w.heap.size ≤ k) : Box w0 r m u b (w'.setCell ⟨b, 2, none⟩ v') v' ys := by
  have hat : w'.heap[b]? = some (.cells (poolO m u v) 76 (0, 0)) := by rw [hg.block b h.lt (fun e => h.away e.symm)]; exact h.at'
  refine ⟨?_, ho.far (fun e => by have := (ho.lt b e).1; omega), fun k hk => ?_, (h.keep.grown h.row hg).set 2 v'⟩
  · rw [setCell_eq]
    simp [mapBlock, Array.getElem?_modify, hat, onCells, poolO]
  · rcases hr k hk with h1 | h1
    · exact h.row k h1.symm
    · right
      have := h.keep.size
      omega
/-- How far numbers are used is stored anew. -/
theorem Box.use (h : Box w0 r m u b w v xs) (u' : Nat) : Box w0 r m u' b (w.setCell ⟨b, 1, none⟩ (.int .i64 (u' : Int))) v xs := by
  refine ⟨?_, h.own.far h.away, h.row, h.keep.set 1 _⟩
  rw [setCell_eq]
  simp [mapBlock, Array.getElem?_modify, h.at', onCells, poolO]
end

theorem run_slice (w : World) (a : Addr) (v : Value) (h : w.cell? a = some v) : (loadVar 72 a).run Try.prog w = .ok v w := by
  have hagg : (isAgg 72).run Try.prog w = .ok false w := by kernel_rfl
  simp [loadVar, Sem.run_bind, hagg, h]
theorem run_far (w : World) (b : Nat) : (follow [⟨74, 0, true⟩] 119 (.val (.pointer (some ⟨b, 2, none⟩)))).run Try.prog w = .ok (72, .var ⟨b, 2, none⟩) w := by
  kernel_rfl
theorem run_receiver (w : World) (a : Addr) (v : Value) (h : w.cell? a = some v) (o : Option String) : (receiverAt 72 (.var a) false o).run Try.prog w = .ok v w := by
  have hu : (underlying 72).run Try.prog w = .ok (.slice 3) w := run_underlying Try.underlying72 w
  have hn := run_slice w a v h
  simp only [receiverAt, Sem.run_bind, hu, Result.andThen_ok, Place.get, hn]
theorem meth_val (name : String) (K : Nat) (hi : (Try.prog.info? 119).bind (fun i => (i.methods.find? (·.name == name)).map fun m => (m.path.toList, m.func)) = some ([⟨74, 0, true⟩], some (K, false))) (b : Nat) (v : Value) (w : World) (h : w.cell? ⟨b, 2, none⟩ = some v) :
    (method 263 119 (.pointer (some ⟨b, 2, none⟩)) name).run Try.prog w = .ok (K, v) w := by
  obtain ⟨i, hi1, hi2⟩ := Option.bind_eq_some_iff.1 hi
  obtain ⟨m, hm1, hm2⟩ := Option.map_eq_some_iff.1 hi2
  simp only [Prod.mk.injEq] at hm2
  obtain ⟨hp, hf⟩ := hm2
  have hr := fun o => run_receiver w ⟨b, 2, none⟩ v h o
  have hfar := run_far w b
  rw [method.eq_2]
  simp only [Sem.run_bind, typeInfo, run_program, Result.andThen_ok, hi1, Sem.run_pure, hm1, hp, hfar, hf, hr]
theorem meth_less (b : Nat) (v : Value) (w : World) (h : w.cell? ⟨b, 2, none⟩ = some v) : (method 263 119 (.pointer (some ⟨b, 2, none⟩)) "Less").run Try.prog w = .ok (113, v) w := meth_val "Less" _ (by kernel_rfl) b v w h
theorem meth_swap (b : Nat) (v : Value) (w : World) (h : w.cell? ⟨b, 2, none⟩ = some v) : (method 263 119 (.pointer (some ⟨b, 2, none⟩)) "Swap").run Try.prog w = .ok (115, v) w := meth_val "Swap" _ (by kernel_rfl) b v w h
theorem meth_len (b : Nat) (v : Value) (w : World) (h : w.cell? ⟨b, 2, none⟩ = some v) : (method 263 119 (.pointer (some ⟨b, 2, none⟩)) "Len").run Try.prog w = .ok (60, v) w := meth_val "Len" _ (by kernel_rfl) b v w h
theorem meth_push (b : Nat) (w : World) : (method 263 119 (.pointer (some ⟨b, 2, none⟩)) "Push").run Try.prog w = .ok (117, .pointer (some ⟨b, 2, none⟩)) w := by kernel_rfl
theorem meth_pop (b : Nat) (w : World) : (method 263 119 (.pointer (some ⟨b, 2, none⟩)) "Pop").run Try.prog w = .ok (116, .pointer (some ⟨b, 2, none⟩)) w := by kernel_rfl
theorem ahead_less (b : Nat) (w : World) : (nilAhead 263 119 (.pointer (some ⟨b, 2, none⟩)) "Less").run Try.prog w = .ok (some false) w := by kernel_rfl
theorem ahead_swap (b : Nat) (w : World) : (nilAhead 263 119 (.pointer (some ⟨b, 2, none⟩)) "Swap").run Try.prog w = .ok (some false) w := by kernel_rfl
theorem ahead_len (b : Nat) (w : World) : (nilAhead 263 119 (.pointer (some ⟨b, 2, none⟩)) "Len").run Try.prog w = .ok (some false) w := by kernel_rfl
end Go.Proofs.Ythaghhleidopeaa
