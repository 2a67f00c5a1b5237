/-
  Entries compared; what a region that draws its order and only reads asks of its calls; an entry's cells.
-/
import Derived.Test.YtbbgnhbkjbobgaaGreatDoorL5
import Derived.Laws.StructEq
import Derived.Lib.QuietBelow
namespace Go.Proofs.YtbbgnhbkjbobgaaGreatDoor
open Go.RowKit Go.Sort
set_option linter.unusedVariables false

theorem ent_eql (x y : Ent) (w : World) : (Op.equalIn 10000 29 (entV x) (entV y)).run Tryz.prog w = .ok (decide (x = y)) w := by
  have hS : Tryz.prog.underlying 29 = some (.struct (Tryz.prog.fieldsOf 29)) := by kernel_rfl
  have hp : Tryz.prog.stoodInHeld 29 = false := by kernel_rfl
  obtain ⟨n1, a1, b1, c1, d1⟩ := x
  obtain ⟨n2, a2, b2, c2, d2⟩ := y
  unfold entV
  rw [show (10000 : Nat) = 9999 + 1 from rfl, run_equalIn_agg w 9999 29 _ _ hS hp]
  simp only [Program.fieldsOf, Tryz.underlying29]
  go_simp
  have hn : (n1.toList == n2.toList) = decide (n1 = n2) := by
    by_cases h : n1 = n2
    · subst h; simp
    · rw [text_ne h, decide_eq_false h]
  have hl : n1.toList = n2.toList ↔ n1 = n2 := ⟨fun h => by
    rw [ByteArray.toList_eq, ByteArray.toList_eq] at h
    exact ByteArray.ext (Array.toList_inj.1 h), fun h => by rw [h]⟩
  (try simp only [Ent.mk.injEq])
  (try rw [hn])
  by_cases h1 : n1 = n2 <;> by_cases h2 : a1 = a2 <;> by_cases h3 : b1 = b2 <;> by_cases h4 : c1 = c2 <;> by_cases h5 : d1 = d2 <;> simp [hl, h1, h2, h3, h4, h5]
theorem ent_neq (x y : Ent) (w : World) : (binOp .neq 29 (entV x) (entV y)).run Tryz.prog w = .ok (.bool (!decide (x = y))) w := by
  have h := ent_eql x y w
  unfold entV at h ⊢
  rw [run_neq_struct, h]
  rfl
theorem ent_eq (x y : Ent) (w : World) : (binOp .eql 29 (entV x) (entV y)).run Tryz.prog w = .ok (.bool (decide (x = y))) w := by
  have h := ent_eql x y w
  unfold entV at h ⊢
  rw [run_eql_struct, h]
  rfl
theorem ent_guard (op : BinOp) (a b : Operand) (x y : Ent) (w : World) : (eqGuard op 29 a b (entV x) (entV y)).run Tryz.prog w = .ok () w := by
  unfold entV
  exact run_eqGuard_agg w op 29 a b _ _ (by kernel_rfl)
/-- A contract for all later worlds, in a region that only reads. -/
theorem regr {f : FuncId} {args : Array Value} {W : World} {v : Value} (h : ∀ w1, Below W.heap.size W w1 → Calls Tryz.prog f args w1 fun e w' => e = .returned v ∧ Below w1.heap.size w1 w') (d : Nat) (os : Array Obj) :
    Calls Tryz.prog f args (Go.Sort.grow (redrawn W d) os) fun e w'' => e = .returned v ∧ ∃ p : Regrown, w'' = Go.Sort.grow (redrawn W p.d) p.os := Calls.regrown_of (h _ (below_regrown W d os))
theorem entsBlock (e : Ent) (w : World) : (w.alloc (.cells #[.string e.name, .int .i64 e.node, .bool e.dir, .int .i64 e.cookie, .int .i64 e.short] 29)).heap[w.heap.size]? = some (.cells #[.string e.name, .int .i64 e.node, .bool e.dir, .int .i64 e.cookie, .int .i64 e.short] 29 (0, 0)) := heap_alloc_new _ _
/-- An entry in a block: its cells, in all later worlds of a region. -/
structure EntAt (e : Ent) (b : Nat) (w : World) : Prop where
  c0 : ∀ d os, (Go.Sort.grow (redrawn w d) os).cell? ⟨b, 0, none⟩ = some (.string e.name)
  c1 : ∀ d os, (Go.Sort.grow (redrawn w d) os).cell? ⟨b, 1, none⟩ = some (.int .i64 e.node)
  c2 : ∀ d os, (Go.Sort.grow (redrawn w d) os).cell? ⟨b, 2, none⟩ = some (.bool e.dir)
  c3 : ∀ d os, (Go.Sort.grow (redrawn w d) os).cell? ⟨b, 3, none⟩ = some (.int .i64 e.cookie)
  c4 : ∀ d os, (Go.Sort.grow (redrawn w d) os).cell? ⟨b, 4, none⟩ = some (.int .i64 e.short)
theorem EntAt.of {e : Ent} {b : Nat} {w : World} (h : w.heap[b]? = some (.cells #[.string e.name, .int .i64 e.node, .bool e.dir, .int .i64 e.cookie, .int .i64 e.short] 29 (0, 0))) : EntAt e b w := by
  obtain ⟨⟨q0, q1, q2, q3, q4⟩, _⟩ := five_cells h
  exact ⟨cell_regrown q0, cell_regrown q1, cell_regrown q2, cell_regrown q3, cell_regrown q4⟩
theorem text_is (F s : ByteArray) (t : Bool) (h : decide (F.data.toList = s.data.toList) = t) : (F.toList == s.toList) = t := by
  rw [← h, ByteArray.toList_eq, ByteArray.toList_eq]
  by_cases e : F.data.toList = s.data.toList
  · rw [e]; simp
  · rw [decide_eq_false e]; exact beq_eq_false_iff_ne.2 e
theorem text_is' {a b : List UInt8} {F G : ByteArray} (hF : (⟨a.toArray⟩ : ByteArray) = F) (hG : (⟨b.toArray⟩ : ByteArray) = G) : (F.toList == G.toList) = decide (a = b) := by
  subst hF hG
  exact text_is _ _ _ rfl
end Go.Proofs.YtbbgnhbkjbobgaaGreatDoor
