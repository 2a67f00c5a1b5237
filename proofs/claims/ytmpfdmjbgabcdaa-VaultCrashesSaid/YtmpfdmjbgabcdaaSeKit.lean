/-
  A device's memory (stage 6): sectors in a block, pending writes in an own row; what stays when blocks of other types are written.
-/
import Derived.Test.YtmpfdmjbgabcdaaProg
import Derived.WalkKit
import Derived.WalkSpells
import Derived.IntWalk
import Derived.ProofKit
import Derived.Lib.Hide
import Derived.Lib.Builder
import Derived.Below
import Derived.Sort.WalkC
import Derived.LoopTactic
import Derived.Deep.LoopGhost
import Derived.Deep.QuietTactic
import Derived.Deep.MidRow
import Derived.Deep.RegionHeld3
import Derived.Deep.AppendLies
import Derived.Deep.RegionLaw
import Derived.Laws.NewBlocks
import Derived.Laws.IdiomStrings
import Derived.Laws.MakeOwn
import Derived.KernelRfl
namespace Go.Proofs.Ytmpfdmjbgabcdaa
open Go.RowKit
set_option linter.unusedVariables false

/-! Lists of parts of one length. -/
section
variable {α : Type}
theorem flat_len (f : α → List Value) (c : Nat) : ∀ (l : List α), (∀ x ∈ l, (f x).length = c) → (l.flatMap f).length = l.length * c
  | [], _ => by simp
  | x :: l, h => by
    rw [List.flatMap_cons, List.length_append, flat_len f c l (fun y hy => h y (by simp [hy])), h x (by simp), List.length_cons, Nat.add_mul]
    omega
theorem flat_drop (f : α → List Value) (c : Nat) : ∀ (l : List α) (i : Nat), (∀ x ∈ l, (f x).length = c) → (l.flatMap f).drop (i * c) = (l.drop i).flatMap f
  | [], i, _ => by simp
  | x :: l, 0, _ => by simp
  | x :: l, i + 1, h => by
    rw [List.flatMap_cons, List.drop_succ_cons, ← flat_drop f c l i (fun y hy => h y (by simp [hy])), List.drop_append]
    rw [List.drop_eq_nil_of_le (by rw [h x (by simp), Nat.add_mul]; omega), List.nil_append, h x (by simp), Nat.add_mul]
    congr 1
    omega
theorem flat_take (f : α → List Value) (c : Nat) : ∀ (l : List α) (i : Nat), (∀ x ∈ l, (f x).length = c) → (l.flatMap f).take (i * c) = (l.take i).flatMap f
  | [], i, _ => by simp
  | x :: l, 0, _ => by simp
  | x :: l, i + 1, h => by
    rw [List.flatMap_cons, List.take_succ_cons, List.flatMap_cons, ← flat_take f c l i (fun y hy => h y (by simp [hy])), List.take_append]
    rw [List.take_of_length_le (by rw [h x (by simp), Nat.add_mul]; omega), h x (by simp), Nat.add_mul]
    congr 2
    omega
theorem flat_part (f : α → List Value) (c : Nat) (l : List α) (i : Nat) (x : α) (h : ∀ x ∈ l, (f x).length = c) (hi : l[i]? = some x) : ((l.flatMap f).drop (i * c)).take c = f x := by
  rw [flat_drop f c l i h]
  obtain ⟨hlt, he⟩ := List.getElem?_eq_some_iff.1 hi
  rw [List.drop_eq_getElem_cons hlt, List.flatMap_cons, List.take_append, he]
  have hx : (f x).length = c := h x (by rw [← he]; exact List.getElem_mem hlt)
  rw [List.take_of_length_le (by omega), hx, Nat.sub_self, List.take_zero, List.append_nil]
theorem flat_set (f : α → List Value) (c : Nat) (l : List α) (i : Nat) (x : α) (h : ∀ x ∈ l, (f x).length = c) (hi : i < l.length) (hx : (f x).length = c) : (l.flatMap f).take (i * c) ++ f x ++ (l.flatMap f).drop (i * c + c) = (l.set i x).flatMap f := by
  rw [flat_take f c l i h, show i * c + c = (i + 1) * c by rw [Nat.add_mul]; omega, flat_drop f c l (i + 1) h, List.set_eq_take_append_cons_drop, if_pos hi, List.flatMap_append, List.flatMap_cons, List.append_assoc]
end

/-- A sector's cells. -/
def sec (s : ByteArray) : List Value := s.data.toList.map fun b => Value.int .u8 b.toNat
theorem sec_length (s : ByteArray) : (sec s).length = s.size := by simp [sec]
theorem sec_one (s : ByteArray) : ∀ v ∈ sec s, v.oneCell' = true := fun v hv => by
  obtain ⟨b, _, rfl⟩ := List.mem_map.1 hv
  rfl
def flat (l : List ByteArray) : List Value := l.flatMap sec
/-- A pending write's cells. -/
def wrc (p : Nat × ByteArray) : List Value := .int .i64 p.1 :: sec p.2
theorem wrc_length {p : Nat × ByteArray} (h : p.2.size = 64) : (wrc p).length = 65 := by simp [wrc, sec_length, h]
theorem wrc_one (p : Nat × ByteArray) : ∀ v ∈ wrc p, v.oneCell' = true := fun v hv => by
  rcases List.mem_cons.1 hv with rfl | hv
  · rfl
  · exact sec_one _ v hv
def pcells (l : List (Nat × ByteArray)) : List Value := l.flatMap wrc

/-! What stays. -/
theorem lt_of_get {w : World} {k : Nat} {o : Obj} (hk : w.heap[k]? = some o) : k < w.heap.size := by
  rcases Nat.lt_or_ge k w.heap.size with h' | h'
  · exact h'
  · simp [Array.getElem?_eq_none h'] at hk
/-- Blocks of other types than these stay. -/
def Off (ex : List TypeId) (w w' : World) : Prop := ∀ (T : TypeId), T ∉ ex → ∀ (k : Nat) (cs : Array Value) (fr : Nat × Nat), w.heap[k]? = some (.cells cs T fr) → w'.heap[k]? = some (.cells cs T fr)
theorem Off.refl (ex : List TypeId) (w : World) : Off ex w w := fun _ _ _ _ _ h => h
theorem Off.trans {ex : List TypeId} {a b c : World} (h : Off ex a b) (h' : Off ex b c) : Off ex a c := fun T hT k cs fr hk => h' T hT k cs fr (h T hT k cs fr hk)
theorem Off.drew {ex : List TypeId} {a w : World} (h : Off ex a w) : Off ex a w.drew := h
theorem Off.drewN {ex : List TypeId} {a w : World} (h : Off ex a w) (q : Nat) : Off ex a (w.drewN q) := by
  induction q with
  | zero => exact h
  | succ q ih => exact ih
theorem Off.alloc {ex : List TypeId} {a w : World} (h : Off ex a w) (o : Obj) : Off ex a (w.alloc o) := h.trans fun T hT k cs fr hk => by
  rw [Below.heap_alloc w o k (lt_of_get hk)]; exact hk
theorem Off.setCell {ex : List TypeId} {a w : World} (h : Off ex a w) {b j : Nat} {C : Array Value} {T : TypeId} {fr : Nat × Nat} (hb : w.heap[b]? = some (.cells C T fr)) (hT : T ∈ ex) (x : Value) : Off ex a (w.setCell ⟨b, j, none⟩ x) := h.trans fun T' hT' k cs fr' hk => by
  rw [heap_setCell_other w ⟨b, j, none⟩ k x (fun e => by
    subst e
    rw [hb] at hk
    injection hk with hk
    injection hk with _ h2 _
    exact hT' (h2 ▸ hT))]
  exact hk
theorem heap_setCells_far (b : Nat) : ∀ (vs : List Value) (o : Nat) (w : World) (k : Nat), k ≠ b → (w.setCells b o vs).heap[k]? = w.heap[k]?
  | [], _, _, _, _ => rfl
  | v :: r, o, w, k, h => by
    rw [World.setCells, heap_setCells_far b r (o + 1) _ k h, heap_setCell_other w ⟨b, o, none⟩ k v h]
theorem Off.setCells {ex : List TypeId} {a w : World} (h : Off ex a w) {b o : Nat} {C : Array Value} {T : TypeId} {fr : Nat × Nat} (hb : w.heap[b]? = some (.cells C T fr)) (hT : T ∈ ex) (vs : List Value) : Off ex a (w.setCells b o vs) := h.trans fun T' hT' k cs fr' hk => by
  rw [heap_setCells_far b vs o w k (fun e => by
    subst e
    rw [hb] at hk
    injection hk with hk
    injection hk with _ h2 _
    exact hT' (h2 ▸ hT))]
  exact hk
theorem Off.grown {ex : List TypeId} {a w w' : World} {row : Option Nat} (h : Off ex a w) (hg : w.grownBy w' row) (hr : ∀ k, row = some k → ∃ cs T fr, w.heap[k]? = some (.cells cs T fr) ∧ T ∈ ex) : Off ex a w' := h.trans fun T hT k cs fr hk => by
  rw [hg.block k (lt_of_get hk) (fun e => by
    obtain ⟨cs', T', fr', h1, h2⟩ := hr k e.symm
    rw [hk] at h1
    injection h1 with h1
    injection h1 with _ h3 _
    exact hT (h3 ▸ h2))]
  exact hk
theorem Off.mono {ex ex' : List TypeId} {w w' : World} (h : Off ex w w') (hs : ∀ T ∈ ex, T ∈ ex') : Off ex' w w' := fun T hT => h T (fun hm => hT (hs T hm))
theorem size_setCells (b : Nat) : ∀ (vs : List Value) (o : Nat) (w : World), (w.setCells b o vs).heap.size = w.heap.size
  | [], _, _ => rfl
  | v :: r, o, w => by rw [World.setCells, size_setCells b r]; simp [World.setCell]
theorem Below.setCells {B : Nat} {a w : World} (h : Below B a w) {b : Nat} (hb : B ≤ b) (o : Nat) (vs : List Value) : Below B a (w.setCells b o vs) := by
  induction vs generalizing o w with
  | nil => exact h
  | cons v r ih => exact ih (h.setCell (p := ⟨b, o, none⟩) hb v) (o + 1)
/-- The block that is written. -/
theorem heap_setCells_at (b : Nat) (T : TypeId) : ∀ (vs : List Value) (o : Nat) (w : World) (C : List Value), w.heap[b]? = some (.cells C.toArray T (0, 0)) → o + vs.length ≤ C.length →
    (w.setCells b o vs).heap[b]? = some (.cells (C.take o ++ vs ++ C.drop (o + vs.length)).toArray T (0, 0))
  | [], o, w, C, h, _ => by simpa [World.setCells] using h
  | v :: r, o, w, C, h, hl => by
    rw [World.setCells]
    have h1 : (w.setCell ⟨b, o, none⟩ v).heap[b]? = some (.cells (C.set o v).toArray T (0, 0)) := by
      rw [heap_setCell_same w b o C.toArray T v h]
      simp
    rw [heap_setCells_at b T r (o + 1) _ (C.set o v) h1 (by simp at hl ⊢; omega)]
    congr 3
    simp only [List.length_cons] at hl ⊢
    have ho : o < C.length := by omega
    rw [List.take_succ_eq_append_getElem (by simpa using ho), List.getElem_set_self, List.take_set_of_le (Nat.le_refl _), List.drop_set_of_lt (by omega)]
    simp
    congr 1
    omega
theorem there_of_block {w : World} {b : Nat} {C : Array Value} {T : TypeId} (hb : w.heap[b]? = some (.cells C T (0, 0))) (o n : Nat) (h : o + n ≤ C.size) : w.there b o n := fun j hj => by
  rw [cell_of_row w b (o + j) C T (0, 0) hb, Array.getElem?_eq_getElem (by omega)]
  exact ⟨rfl, frozen_of_row w b _ C T hb⟩
/-- A part of a block of parts. -/
theorem range_of_flat {α : Type} (f : α → List Value) (c : Nat) {l : List α} {i : Nat} {x : α} (h : ∀ x ∈ l, (f x).length = c) (hi : l[i]? = some x) {w : World} {b : Nat} {T : TypeId} {fr : Nat × Nat} {R : List Value} (hb : w.heap[b]? = some (.cells (l.flatMap f ++ R).toArray T fr)) : w.rangeAt b (i * c) (f x) := fun j v hv => by
  rw [cell_of_row w b _ _ T fr hb]
  have hj : j < (f x).length := (List.getElem?_eq_some_iff.1 hv).1
  obtain ⟨hlt, he⟩ := List.getElem?_eq_some_iff.1 hi
  have hc : (f x).length = c := h x (by rw [← he]; exact List.getElem_mem hlt)
  have hle : i * c + c ≤ (l.flatMap f).length := by
    rw [flat_len f c l h]
    calc i * c + c = (i + 1) * c := by rw [Nat.add_mul]; omega
      _ ≤ l.length * c := Nat.mul_le_mul_right c hlt
  rw [← flat_part f c l i x h hi] at hv
  rw [List.getElem?_take, if_pos (by omega), List.getElem?_drop] at hv
  rw [List.getElem?_toArray, List.getElem?_append_left (by omega)]
  exact hv

theorem infoSec : (Try.prog.info? 79).map (fun i => (i.size, i.bytes)) = some (64, 64) := by kernel_rfl
theorem infoWr : (Try.prog.info? 81).map (fun i => (i.size, i.bytes)) = some (65, 72) := by kernel_rfl
end Go.Proofs.Ytmpfdmjbgabcdaa
