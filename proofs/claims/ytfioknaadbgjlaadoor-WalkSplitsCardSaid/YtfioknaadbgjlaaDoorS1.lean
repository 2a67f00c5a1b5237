/-
  Rows in memory, what stays, loads and stores of whole rows: SeKit's and SePut's laws that name no device (for seats without one).
  Prepared for stage 10: the reference's tree: plain lists of entries, and what memory holds of them.
  Paths, plainly: a path's names, or the error; the names, each behind a /, are the path again.
  Lists of texts in memory: read ones, and an own row that grows.
-/
import Derived.Test.YtfioknaadbgjlaaDoorProg
import Derived.WalkKit
import Derived.WalkSpells
import Derived.IntWalk
import Derived.ProofKit
import Derived.Lib.Hide
import Derived.Lib.Builder
import Derived.Below
import Derived.Sort.WalkC
import Derived.LoopTactic
import Derived.Deep.LoopGhost
import Derived.Deep.QuietTactic
import Derived.Deep.MidRow
import Derived.Deep.RegionHeld3
import Derived.Deep.AppendLies
import Derived.Deep.RegionLaw
import Derived.Laws.NewBlocks
import Derived.Laws.IdiomStrings
import Derived.Laws.MakeOwn
import Derived.KernelRfl
import Derived.Great.BuildSlice
import Derived.Deep.WholeRow
import Derived.Deep.CutRange
import Derived.Deep.CutBlock
import Derived.OwnWalk
import Derived.Maps.AppendAt
import Derived.Deep.Upon
namespace Go.Proofs.YtfioknaadbgjlaaDoor
open Go.RowKit
set_option linter.unusedVariables false

/-! Lists of parts of one length. -/
section
variable {α : Type}
theorem flat_len (f : α → List Value) (c : Nat) : ∀ (l : List α), (∀ x ∈ l, (f x).length = c) → (l.flatMap f).length = l.length * c
  | [], _ => by simp
  | x :: l, h => by
    rw [List.flatMap_cons, List.length_append, flat_len f c l (fun y hy => h y (by simp [hy])), h x (by simp), List.length_cons, Nat.add_mul]
    omega
theorem flat_drop (f : α → List Value) (c : Nat) : ∀ (l : List α) (i : Nat), (∀ x ∈ l, (f x).length = c) → (l.flatMap f).drop (i * c) = (l.drop i).flatMap f
  | [], i, _ => by simp
  | x :: l, 0, _ => by simp
  | x :: l, i + 1, h => by
    rw [List.flatMap_cons, List.drop_succ_cons, ← flat_drop f c l i (fun y hy => h y (by simp [hy])), List.drop_append]
    rw [List.drop_eq_nil_of_le (by rw [h x (by simp), Nat.add_mul]; omega), List.nil_append, h x (by simp), Nat.add_mul]
    congr 1
    omega
theorem flat_take (f : α → List Value) (c : Nat) : ∀ (l : List α) (i : Nat), (∀ x ∈ l, (f x).length = c) → (l.flatMap f).take (i * c) = (l.take i).flatMap f
  | [], i, _ => by simp
  | x :: l, 0, _ => by simp
  | x :: l, i + 1, h => by
    rw [List.flatMap_cons, List.take_succ_cons, List.flatMap_cons, ← flat_take f c l i (fun y hy => h y (by simp [hy])), List.take_append]
    rw [List.take_of_length_le (by rw [h x (by simp), Nat.add_mul]; omega), h x (by simp), Nat.add_mul]
    congr 2
    omega
theorem flat_part (f : α → List Value) (c : Nat) (l : List α) (i : Nat) (x : α) (h : ∀ x ∈ l, (f x).length = c) (hi : l[i]? = some x) : ((l.flatMap f).drop (i * c)).take c = f x := by
  rw [flat_drop f c l i h]
  obtain ⟨hlt, he⟩ := List.getElem?_eq_some_iff.1 hi
  rw [List.drop_eq_getElem_cons hlt, List.flatMap_cons, List.take_append, he]
  have hx : (f x).length = c := h x (by rw [← he]; exact List.getElem_mem hlt)
  rw [List.take_of_length_le (by omega), hx, Nat.sub_self, List.take_zero, List.append_nil]
theorem flat_set (f : α → List Value) (c : Nat) (l : List α) (i : Nat) (x : α) (h : ∀ x ∈ l, (f x).length = c) (hi : i < l.length) (hx : (f x).length = c) : (l.flatMap f).take (i * c) ++ f x ++ (l.flatMap f).drop (i * c + c) = (l.set i x).flatMap f := by
  rw [flat_take f c l i h, show i * c + c = (i + 1) * c by rw [Nat.add_mul]; omega, flat_drop f c l (i + 1) h, List.set_eq_take_append_cons_drop, if_pos hi, List.flatMap_append, List.flatMap_cons, List.append_assoc]
end

/-- A sector's cells. -/
def sec (s : ByteArray) : List Value := s.data.toList.map fun b => Value.int .u8 b.toNat
theorem sec_length (s : ByteArray) : (sec s).length = s.size := by simp [sec]
theorem sec_one (s : ByteArray) : ∀ v ∈ sec s, v.oneCell' = true := fun v hv => by
  obtain ⟨b, _, rfl⟩ := List.mem_map.1 hv
  rfl
def flat (l : List ByteArray) : List Value := l.flatMap sec
/-- A pending write's cells. -/
def wrc (p : Nat × ByteArray) : List Value := .int .i64 p.1 :: sec p.2
theorem wrc_length {p : Nat × ByteArray} (h : p.2.size = 64) : (wrc p).length = 65 := by simp [wrc, sec_length, h]
theorem wrc_one (p : Nat × ByteArray) : ∀ v ∈ wrc p, v.oneCell' = true := fun v hv => by
  rcases List.mem_cons.1 hv with rfl | hv
  · rfl
  · exact sec_one _ v hv
def pcells (l : List (Nat × ByteArray)) : List Value := l.flatMap wrc

/-! What stays. -/
theorem lt_of_get {w : World} {k : Nat} {o : Obj} (hk : w.heap[k]? = some o) : k < w.heap.size := by
  rcases Nat.lt_or_ge k w.heap.size with h' | h'
  · exact h'
  · simp [Array.getElem?_eq_none h'] at hk
/-- Blocks of other types than these stay. -/
def Off (ex : List TypeId) (w w' : World) : Prop := ∀ (T : TypeId), T ∉ ex → ∀ (k : Nat) (cs : Array Value) (fr : Nat × Nat), w.heap[k]? = some (.cells cs T fr) → w'.heap[k]? = some (.cells cs T fr)
theorem Off.refl (ex : List TypeId) (w : World) : Off ex w w := fun _ _ _ _ _ h => h
theorem Off.trans {ex : List TypeId} {a b c : World} (h : Off ex a b) (h' : Off ex b c) : Off ex a c := fun T hT k cs fr hk => h' T hT k cs fr (h T hT k cs fr hk)
theorem Off.drew {ex : List TypeId} {a w : World} (h : Off ex a w) : Off ex a w.drew := h
theorem Off.drewN {ex : List TypeId} {a w : World} (h : Off ex a w) (q : Nat) : Off ex a (w.drewN q) := by
  induction q with
  | zero => exact h
  | succ q ih => exact ih
theorem Off.alloc {ex : List TypeId} {a w : World} (h : Off ex a w) (o : Obj) : Off ex a (w.alloc o) := h.trans fun T hT k cs fr hk => by
  rw [Below.heap_alloc w o k (lt_of_get hk)]; exact hk
theorem Off.setCell {ex : List TypeId} {a w : World} (h : Off ex a w) {b j : Nat} {C : Array Value} {T : TypeId} {fr : Nat × Nat} (hb : w.heap[b]? = some (.cells C T fr)) (hT : T ∈ ex) (x : Value) : Off ex a (w.setCell ⟨b, j, none⟩ x) := h.trans fun T' hT' k cs fr' hk => by
  rw [heap_setCell_other w ⟨b, j, none⟩ k x (fun e => by
    subst e
    rw [hb] at hk
    injection hk with hk
    injection hk with _ h2 _
    exact hT' (h2 ▸ hT))]
  exact hk
theorem heap_setCells_far (b : Nat) : ∀ (vs : List Value) (o : Nat) (w : World) (k : Nat), k ≠ b → (w.setCells b o vs).heap[k]? = w.heap[k]?
  | [], _, _, _, _ => rfl
  | v :: r, o, w, k, h => by
    rw [World.setCells, heap_setCells_far b r (o + 1) _ k h, heap_setCell_other w ⟨b, o, none⟩ k v h]
theorem Off.setCells {ex : List TypeId} {a w : World} (h : Off ex a w) {b o : Nat} {C : Array Value} {T : TypeId} {fr : Nat × Nat} (hb : w.heap[b]? = some (.cells C T fr)) (hT : T ∈ ex) (vs : List Value) : Off ex a (w.setCells b o vs) := h.trans fun T' hT' k cs fr' hk => by
  rw [heap_setCells_far b vs o w k (fun e => by
    subst e
    rw [hb] at hk
    injection hk with hk
    injection hk with _ h2 _
    exact hT' (h2 ▸ hT))]
  exact hk
theorem Off.grown {ex : List TypeId} {a w w' : World} {row : Option Nat} (h : Off ex a w) (hg : w.grownBy w' row) (hr : ∀ k, row = some k → ∃ cs T fr, w.heap[k]? = some (.cells cs T fr) ∧ T ∈ ex) : Off ex a w' := h.trans fun T hT k cs fr hk => by
  rw [hg.block k (lt_of_get hk) (fun e => by
    obtain ⟨cs', T', fr', h1, h2⟩ := hr k e.symm
    rw [hk] at h1
    injection h1 with h1
    injection h1 with _ h3 _
    exact hT (h3 ▸ h2))]
  exact hk
theorem Off.mono {ex ex' : List TypeId} {w w' : World} (h : Off ex w w') (hs : ∀ T ∈ ex, T ∈ ex') : Off ex' w w' := fun T hT => h T (fun hm => hT (hs T hm))
theorem size_setCells (b : Nat) : ∀ (vs : List Value) (o : Nat) (w : World), (w.setCells b o vs).heap.size = w.heap.size
  | [], _, _ => rfl
  | v :: r, o, w => by rw [World.setCells, size_setCells b r]; simp [World.setCell]
theorem Below.setCells {B : Nat} {a w : World} (h : Below B a w) {b : Nat} (hb : B ≤ b) (o : Nat) (vs : List Value) : Below B a (w.setCells b o vs) := by
  induction vs generalizing o w with
  | nil => exact h
  | cons v r ih => exact ih (h.setCell (p := ⟨b, o, none⟩) hb v) (o + 1)
/-- The block that is written. -/
theorem heap_setCells_at (b : Nat) (T : TypeId) : ∀ (vs : List Value) (o : Nat) (w : World) (C : List Value), w.heap[b]? = some (.cells C.toArray T (0, 0)) → o + vs.length ≤ C.length →
    (w.setCells b o vs).heap[b]? = some (.cells (C.take o ++ vs ++ C.drop (o + vs.length)).toArray T (0, 0))
  | [], o, w, C, h, _ => by simpa [World.setCells] using h
  | v :: r, o, w, C, h, hl => by
    rw [World.setCells]
    have h1 : (w.setCell ⟨b, o, none⟩ v).heap[b]? = some (.cells (C.set o v).toArray T (0, 0)) := by
      rw [heap_setCell_same w b o C.toArray T v h]
      simp
    rw [heap_setCells_at b T r (o + 1) _ (C.set o v) h1 (by simp at hl ⊢; omega)]
    congr 3
    simp only [List.length_cons] at hl ⊢
    have ho : o < C.length := by omega
    rw [List.take_succ_eq_append_getElem (by simpa using ho), List.getElem_set_self, List.take_set_of_le (Nat.le_refl _), List.drop_set_of_lt (by omega)]
    simp
    congr 1
    omega
theorem there_of_block {w : World} {b : Nat} {C : Array Value} {T : TypeId} (hb : w.heap[b]? = some (.cells C T (0, 0))) (o n : Nat) (h : o + n ≤ C.size) : w.there b o n := fun j hj => by
  rw [cell_of_row w b (o + j) C T (0, 0) hb, Array.getElem?_eq_getElem (by omega)]
  exact ⟨rfl, frozen_of_row w b _ C T hb⟩
/-- A part of a block of parts. -/
theorem range_of_flat {α : Type} (f : α → List Value) (c : Nat) {l : List α} {i : Nat} {x : α} (h : ∀ x ∈ l, (f x).length = c) (hi : l[i]? = some x) {w : World} {b : Nat} {T : TypeId} {fr : Nat × Nat} {R : List Value} (hb : w.heap[b]? = some (.cells (l.flatMap f ++ R).toArray T fr)) : w.rangeAt b (i * c) (f x) := fun j v hv => by
  rw [cell_of_row w b _ _ T fr hb]
  have hj : j < (f x).length := (List.getElem?_eq_some_iff.1 hv).1
  obtain ⟨hlt, he⟩ := List.getElem?_eq_some_iff.1 hi
  have hc : (f x).length = c := h x (by rw [← he]; exact List.getElem_mem hlt)
  have hle : i * c + c ≤ (l.flatMap f).length := by
    rw [flat_len f c l h]
    calc i * c + c = (i + 1) * c := by rw [Nat.add_mul]; omega
      _ ≤ l.length * c := Nat.mul_le_mul_right c hlt
  rw [← flat_part f c l i x h hi] at hv
  rw [List.getElem?_take, if_pos (by omega), List.getElem?_drop] at hv
  rw [List.getElem?_toArray, List.getElem?_append_left (by omega)]
  exact hv

/-! A load, a store, a literal whose run is known. -/
section
variable {P : Program} {ops : Array Oper} {rest : List Oper} {d : Option Tmp} {T : TypeId} {pos : String} {af : Array Edge} {a : Act} {w w' : World} {Q : Exit → Act → World → Prop}
theorem wpL_load (ty : TypeId) (x : Operand) (px v : Value) (hx : a.eval x = px) (hr : (Instr.loadAt ty px).run P w = .ok v w) (h : wpList P ops Q rest (a.put d v) w) :
    wpList P ops Q ({ dst := d, op := .load ty x, type := T, pos := pos, after := af, guard := none } :: rest) a w :=
  wpList_plain rfl fun _ hK => by
    unfold Oper.wp execOp
    simp only [hx, Sem.run_bind, hr, Result.andThen_ok]
    exact hK _ _ h
theorem wpL_store (ty : TypeId) (x y : Operand) (px vy : Value) (hx : a.eval x = px) (hy : a.eval y = vy) (hr : (Instr.storeAt ty px vy).run P w = .ok () w') (h : wpList P ops Q rest (a.put d undef) w') :
    wpList P ops Q ({ dst := d, op := .store ty x y, type := T, pos := pos, after := af, guard := none } :: rest) a w :=
  wpList_plain rfl fun _ hK => by
    unfold Oper.wp execOp
    simp only [hx, hy, Sem.run_bind, hr, Result.andThen_ok]
    exact hK _ _ h
theorem wpL_build (ty : TypeId) (parts : Array (Nat × Operand)) (vs : Array (Nat × Value)) (v : Value) (hv : (parts.toList.map fun (i, x) => (i, a.eval x)) = vs.toList) (hr : (Instr.build ty vs).run P w = .ok v w) (h : wpList P ops Q rest (a.put d v) w) :
    wpList P ops Q ({ dst := d, op := .build ty parts, type := T, pos := pos, after := af, guard := none } :: rest) a w :=
  wpList_plain rfl fun _ hK => by
    unfold Oper.wp execOp
    have hv' : (parts.map fun (i, x) => (i, a.eval x)) = vs := by
      apply Array.ext'
      rw [Array.toList_map]
      exact hv
    simp only [hv', Sem.run_bind, hr, Result.andThen_ok]
    exact hK _ _ h
end
theorem wpO_buildSlice {P : Program} {o : Oper} {a : Act} {w w' : World} {K : Act → World → Prop} {Q : Exit → Act → World → Prop} (ty : TypeId) (n : Nat) (parts : Array (Nat × Operand)) (ho : o.op = .buildSlice ty n parts) (vs : Array (Nat × Value)) (v : Value) (hv : (parts.toList.map fun (i, x) => (i, a.eval x)) = vs.toList) (hr : (Instr.buildSlice ty n vs).run P w = .ok v w')
    (h : K (a.put o.dst v) w') : o.wp P a w K Q := by
  unfold Oper.wp execOp
  have hv' : (parts.map fun (i, x) => (i, a.eval x)) = vs := by
    apply Array.ext'
    rw [Array.toList_map]
    exact hv
  simp only [ho, hv', Sem.run_bind, hr, Result.andThen_ok]
  exact h
theorem step_of {o : Oper} {ys : Nat → Option Bool} {X Y : Prop} (hgd : o.guard = none) (h : X) : if Region.wanted o ys = true then X else Y := by
  have hw : Region.wanted o ys = true := by simp [Region.wanted, hgd]
  rw [if_pos hw]
  exact h
theorem wpO_load {P : Program} {o : Oper} {a : Act} {w : World} {K : Act → World → Prop} {Q : Exit → Act → World → Prop} (ty : TypeId) (x : Operand) (ho : o.op = .load ty x) (px v : Value) (hx : a.eval x = px) (hr : (Instr.loadAt ty px).run P w = .ok v w) (h : K (a.put o.dst v) w) : o.wp P a w K Q := by
  unfold Oper.wp execOp
  simp only [ho, hx, Sem.run_bind, hr, Result.andThen_ok]
  exact h
theorem wpO_store {P : Program} {o : Oper} {a : Act} {w w' : World} {K : Act → World → Prop} {Q : Exit → Act → World → Prop} (ty : TypeId) (x y : Operand) (ho : o.op = .store ty x y) (px vy : Value) (hx : a.eval x = px) (hy : a.eval y = vy) (hr : (Instr.storeAt ty px vy).run P w = .ok () w') (h : K (a.put o.dst undef) w') : o.wp P a w K Q := by
  unfold Oper.wp execOp
  simp only [ho, hx, hy, Sem.run_bind, hr, Result.andThen_ok]
  exact h
theorem block_ne {w : World} {a b : Nat} {C D : Array Value} {T U : TypeId} {x y : Nat × Nat} (h : w.heap[a]? = some (.cells C T x)) (h' : w.heap[b]? = some (.cells D U y)) (hn : T ≠ U) : a ≠ b := fun e => by
  subst e
  rw [h] at h'
  injection h' with h'
  injection h' with _ h2 _
  exact hn h2
theorem take_snoc {α : Type} {l : List α} {j : Nat} {p : α} (h : l[j]? = some p) : l.take (j + 1) = l.take j ++ [p] := by
  rw [List.take_add_one, h]
  rfl
def NumsIs (w : World) (v : Value) (l : List Int) : Prop :=
  (l = [] ∧ ∃ a cap, v = .slice a 0 cap) ∨
  (∃ g off cap, g < w.heap.size ∧ v = .slice (some ⟨g, off, none⟩) l.length cap ∧ ∀ j, j < l.length → w.cell? ⟨g, off + j, none⟩ = some (.int .i64 (l.getD j 0)))
theorem NumsIs.kept {w w' : World} {v : Value} {l : List Int} (h : NumsIs w v l) (hb : Below w.heap.size w w') : NumsIs w' v l := by
  rcases h with h | ⟨g, off, cap, hg, hv, hc⟩
  · exact Or.inl h
  · exact Or.inr ⟨g, off, cap, by have := hb.size; omega, hv, fun j hj => by rw [hb.cell (p := ⟨g, off + j, none⟩) hg]; exact hc j hj⟩
theorem NumsIs.len {w : World} {v : Value} {l : List Int} (h : NumsIs w v l) : ∃ a cap, v = .slice a l.length cap := by
  rcases h with ⟨rfl, a, cap, hv⟩ | ⟨g, off, cap, hg, hv, hc⟩
  · exact ⟨a, cap, hv⟩
  · exact ⟨_, cap, hv⟩
theorem NumsIs.at {w : World} {a : Option Addr} {n cap : Nat} {l : List Int} (h : NumsIs w (.slice a n cap) l) {j : Nat} (hj : j < l.length) : ∃ g off, a = some ⟨g, off, none⟩ ∧ g < w.heap.size ∧ w.cell? ⟨g, off + j, none⟩ = some (.int .i64 (l.getD j 0)) := by
  rcases h with ⟨rfl, _⟩ | ⟨g, off, cap', hg, hv, hc⟩
  · exact absurd hj (by simp)
  · injection hv with h1 h2 h3
    exact ⟨g, off, h1, hg, hc j hj⟩

/-- The marks behind these numbers. -/
def markF (count : Nat) (M : List Bool) (x : Int) : List Bool := if 0 ≤ x ∧ x < (count : Int) then M.set x.toNat true else M
def marks (count : Nat) (l : List Int) : List Bool := l.foldl (markF count) (List.replicate count false)
theorem marks_snoc (count : Nat) (l : List Int) (x : Int) : marks count (l ++ [x]) = if 0 ≤ x ∧ x < (count : Int) then (marks count l).set x.toNat true else marks count l := by
  unfold marks
  rw [List.foldl_append]
  rfl
theorem markF_len (count : Nat) (M : List Bool) (x : Int) : (markF count M x).length = M.length := by
  unfold markF
  split
  · rw [List.length_set]
  · rfl
theorem marksF_len (count : Nat) : ∀ (l : List Int) (M : List Bool), (l.foldl (markF count) M).length = M.length
  | [], M => rfl
  | x :: l, M => (marksF_len count l (markF count M x)).trans (markF_len count M x)
theorem marks_len (count : Nat) (l : List Int) : (marks count l).length = count := by
  unfold marks
  rw [marksF_len, List.length_replicate]
theorem marksF_get (count i : Nat) (hi : i < count) : ∀ (l : List Int) (M : List Bool) (u : Bool), M.length = count → M[i]? = some u → (l.foldl (markF count) M)[i]? = some (u || decide ((i : Int) ∈ l))
  | [], M, u, _, hu => by simpa using hu
  | x :: l, M, u, hM, hu => by
    have hF := markF_len count M x
    show (l.foldl (markF count) (markF count M x))[i]? = _
    by_cases h : 0 ≤ x ∧ x < (count : Int)
    · by_cases e : x.toNat = i
      · have he : (i : Int) = x := by omega
        rw [marksF_get count i hi l _ true (hF.trans hM) (by unfold markF; rw [if_pos h, e, List.getElem?_set_self (by omega)])]
        simp [he]
      · have he : ¬ ((i : Int) = x) := by omega
        rw [marksF_get count i hi l _ u (hF.trans hM) (by unfold markF; rw [if_pos h, List.getElem?_set_ne e]; exact hu)]
        simp [he]
    · have he : ¬ ((i : Int) = x) := by omega
      rw [marksF_get count i hi l _ u (hF.trans hM) (by unfold markF; rw [if_neg h]; exact hu)]
      simp [he]
theorem marks_get (count : Nat) (l : List Int) (i : Nat) (hi : i < count) : (marks count l)[i]? = some (decide ((i : Int) ∈ l)) := by
  have := marksF_get count i hi l (List.replicate count false) false (by simp) (by simp [hi])
  simpa [marks] using this
def boolRow (M : List Bool) : Array Value := (M.map Value.bool).toArray
theorem boolRow_set (M : List Bool) (i : Nat) (x : Bool) : (boolRow M).setIfInBounds i (.bool x) = boolRow (M.set i x) := by
  unfold boolRow
  apply Array.ext'
  rw [Array.toList_setIfInBounds, List.toList_toArray, List.toList_toArray, List.map_set]
theorem boolRow_get {M : List Bool} {i : Nat} {x : Bool} (h : M[i]? = some x) : (boolRow M)[i]? = some (.bool x) := by
  unfold boolRow
  rw [List.getElem?_toArray, List.getElem?_map, h]
  rfl
theorem Tryd.infoBoolZ : (Tryd.prog.info? 4).map (fun i => (i.zero, i.size, i.bytes)) = some (some (.bool false), 1, 1) := by kernel_rfl
end Go.Proofs.YtfioknaadbgjlaaDoor

namespace Go.Proofs.YtfioknaadbgjlaaDoor
open Go.RowKit Go.Sort
set_option linter.unusedVariables false

/-! Lists of structs in memory that nobody writes. -/
def LstIs {α : Type} (f : α → List Value) (c : Nat) (w : World) (v : Value) (l : List α) : Prop :=
  (l = [] ∧ ∃ a cap, v = .slice a 0 cap) ∨
  (∃ g off cap, g < w.heap.size ∧ v = .slice (some ⟨g, off, none⟩) l.length cap ∧ ∀ j x, l[j]? = some x → w.rangeAt g (off + j * c) (f x))
theorem rangeAt_below {w w' : World} {g p : Nat} {cs : List Value} (h : w.rangeAt g p cs) (hg : g < w.heap.size) (hb : Below w.heap.size w w') : w'.rangeAt g p cs := fun j v hj => by
  rw [hb.cell (p := ⟨g, p + j, none⟩) hg]
  exact h j v hj
theorem LstIs.kept {α : Type} {f : α → List Value} {c : Nat} {w w' : World} {v : Value} {l : List α} (h : LstIs f c w v l) (hb : Below w.heap.size w w') : LstIs f c w' v l := by
  rcases h with h | ⟨g, off, cap, hg, hv, hc⟩
  · exact Or.inl h
  · exact Or.inr ⟨g, off, cap, by have := hb.size; omega, hv, fun j x hj => rangeAt_below (hc j x hj) hg hb⟩
theorem LstIs.len {α : Type} {f : α → List Value} {c : Nat} {w : World} {v : Value} {l : List α} (h : LstIs f c w v l) : ∃ a cap, v = .slice a l.length cap := by
  rcases h with ⟨rfl, a, cap, hv⟩ | ⟨g, off, cap, hg, hv, hc⟩
  · exact ⟨a, cap, hv⟩
  · exact ⟨_, cap, hv⟩
theorem LstIs.at {α : Type} {f : α → List Value} {c : Nat} {w : World} {a : Option Addr} {n cap : Nat} {l : List α} (h : LstIs f c w (.slice a n cap) l) {j : Nat} {x : α} (hj : l[j]? = some x) : ∃ g off, a = some ⟨g, off, none⟩ ∧ g < w.heap.size ∧ w.rangeAt g (off + j * c) (f x) := by
  rcases h with ⟨rfl, _⟩ | ⟨g, off, cap', hg, hv, hc⟩
  · cases hj
  · injection hv with h1 h2 h3
    exact ⟨g, off, h1, hg, hc j x hj⟩
theorem LstIs.nil {α : Type} (f : α → List Value) (c : Nat) (w : World) : LstIs f c w (.slice none 0 0) [] := Or.inl ⟨rfl, _, _, rfl⟩
theorem LstIs.own {α : Type} {f : α → List Value} {c : Nat} {B : Nat} {T : TypeId} {w : World} {v : Value} {n : Nat} {l : List α} (hc : ∀ x ∈ l, (f x).length = c) (h : w.ownsRow B T c v n (l.flatMap f)) (hn : n = l.length) : LstIs f c w v l := by
  subst hn
  rcases h.2 with ⟨hv, h0⟩ | ⟨g, cap, cur, hv, hg, hb, h1, h2, h3, h4⟩
  · exact Or.inl ⟨List.eq_nil_of_length_eq_zero h0, none, 0, by rw [hv]⟩
  · refine Or.inr ⟨g, 0, cap, (h.lt g (by rw [hv]; rfl)).2, hv, fun j x hj => ?_⟩
    have hb' : w.heap[g]? = some (.cells (l.flatMap f ++ cur.toList.drop (l.length * c)).toArray T (0, 0)) := by
      rw [hb, ← h4, List.take_append_drop]
    rw [Nat.zero_add]
    exact range_of_flat f c hc hj hb'

/-! Entries, items. -/
structure Ent where
  name : ByteArray
  node : Int
  dir : Bool
  cookie : Int
  short : Int
deriving DecidableEq, Inhabited
structure Itm where
  inn : Int
  e : Ent
deriving DecidableEq, Inhabited
def entC (e : Ent) : List Value := [.string e.name, .int .i64 e.node, .bool e.dir, .int .i64 e.cookie, .int .i64 e.short]
def itmC (x : Itm) : List Value := .int .i64 x.inn :: entC x.e
abbrev EntsIs := @LstIs Ent entC 5
abbrev ItmsIs := @LstIs Itm itmC 6
theorem entC_len (l : List Ent) : ∀ x ∈ l, (entC x).length = 5 := fun _ _ => rfl
theorem itmC_len (l : List Itm) : ∀ x ∈ l, (itmC x).length = 6 := fun _ _ => rfl
theorem entC_one (e : Ent) : ∀ v ∈ entC e, v.oneCell' = true := fun v hv => by
  simp [entC] at hv
  rcases hv with rfl | rfl | rfl | rfl | rfl <;> rfl
theorem itmC_one (e : Itm) : ∀ v ∈ itmC e, v.oneCell' = true := fun v hv => by
  rcases List.mem_cons.1 hv with rfl | hv
  · rfl
  · exact entC_one _ v hv
def noEnt : Ent := ⟨⟨#[]⟩, 0, false, 0, 0⟩
def entV (e : Ent) : Value := .agg #[.string e.name, .int .i64 e.node, .bool e.dir, .int .i64 e.cookie, .int .i64 e.short]
def treeV (v : Value) (nx : Int) : Value := .agg #[v, .int .i64 nx]
theorem ent_at {w : World} {g p : Nat} {x : Ent} (h : w.rangeAt g p (entC x)) : w.cell? ⟨g, p, none⟩ = some (.string x.name) ∧ w.cell? ⟨g, p + 1, none⟩ = some (.int .i64 x.node) ∧ w.cell? ⟨g, p + 2, none⟩ = some (.bool x.dir) ∧ w.cell? ⟨g, p + 3, none⟩ = some (.int .i64 x.cookie) ∧ w.cell? ⟨g, p + 4, none⟩ = some (.int .i64 x.short) :=
  ⟨h 0 _ rfl, h 1 _ rfl, h 2 _ rfl, h 3 _ rfl, h 4 _ rfl⟩
theorem itm_at {w : World} {g p : Nat} {x : Itm} (h : w.rangeAt g p (itmC x)) : w.cell? ⟨g, p, none⟩ = some (.int .i64 x.inn) ∧ w.cell? ⟨g, p + 1, none⟩ = some (.string x.e.name) ∧ w.cell? ⟨g, p + 2, none⟩ = some (.int .i64 x.e.node) ∧ w.cell? ⟨g, p + 3, none⟩ = some (.bool x.e.dir) ∧ w.cell? ⟨g, p + 4, none⟩ = some (.int .i64 x.e.cookie) ∧ w.cell? ⟨g, p + 5, none⟩ = some (.int .i64 x.e.short) :=
  ⟨h 0 _ rfl, h 1 _ rfl, h 2 _ rfl, h 3 _ rfl, h 4 _ rfl, h 5 _ rfl⟩

/-! The reference's answers. -/
def nodeAt (l : List Itm) (n : Int) : Option Itm := l.find? fun x => decide (x.e.node = n)
def kindGo (l : List Itm) (n : Int) : Int := match nodeAt l n with
  | some x => if x.e.dir = true then 2 else 1
  | none => 0
def kindI (l : List Itm) (n : Int) : Int := if n = 0 then 2 else kindGo l n
def aboveI (l : List Itm) (n : Int) : Int := match nodeAt l n with
  | some x => x.inn
  | none => -1
def entsI (l : List Itm) (d : Int) : List Ent := (l.filter fun x => decide (x.inn = d)).map Itm.e
/-- An error's number: none such, a file, fine. -/
def listE (l : List Itm) (d : Int) : Int := if kindI l d = 0 then 5 else if kindI l d = 1 then 8 else 0
def listI (l : List Itm) (d : Int) : List Ent := if listE l d = 0 then entsI l d else []
def named (l : List Ent) (s : ByteArray) : Option Ent := l.find? fun x => decide (x.name = s)
def findI (l : List Itm) (d : Int) (s : ByteArray) : Ent × Int := match named (listI l d) s with
  | some x => (x, 0)
  | none => (noEnt, if listE l d = 0 then 5 else listE l d)
def dropI (l : List Itm) (d : Int) (s : ByteArray) : List Itm := l.filter fun x => !(decide (x.inn = d) && decide (x.e.name = s))
theorem nodeAt_cons (x : Itm) (l : List Itm) (n : Int) : nodeAt (x :: l) n = if x.e.node = n then some x else nodeAt l n := by
  unfold nodeAt
  rw [List.find?_cons]
  by_cases h : x.e.node = n <;> simp [h]
theorem kindGo_cons (x : Itm) (l : List Itm) (n : Int) : kindGo (x :: l) n = if x.e.node = n then (if x.e.dir = true then 2 else 1) else kindGo l n := by
  unfold kindGo
  rw [nodeAt_cons]
  by_cases h : x.e.node = n
  · rw [if_pos h, if_pos h]
  · rw [if_neg h, if_neg h]
theorem aboveI_cons (x : Itm) (l : List Itm) (n : Int) : aboveI (x :: l) n = if x.e.node = n then x.inn else aboveI l n := by
  unfold aboveI
  rw [nodeAt_cons]
  by_cases h : x.e.node = n
  · rw [if_pos h, if_pos h]
  · rw [if_neg h, if_neg h]
theorem kindGo_cases (l : List Itm) (n : Int) : kindGo l n = 0 ∨ kindGo l n = 1 ∨ kindGo l n = 2 := by
  unfold kindGo
  split
  · split
    · exact Or.inr (Or.inr rfl)
    · exact Or.inr (Or.inl rfl)
  · exact Or.inl rfl
theorem kindI_cases (l : List Itm) (n : Int) : kindI l n = 0 ∨ kindI l n = 1 ∨ kindI l n = 2 := by
  unfold kindI
  split
  · exact Or.inr (Or.inr rfl)
  · exact kindGo_cases l n
theorem drop_eq_cons {α : Type} {l : List α} {i : Nat} {x : α} (h : l[i]? = some x) : l.drop i = x :: l.drop (i + 1) := by
  obtain ⟨hlt, he⟩ := List.getElem?_eq_some_iff.1 h
  rw [List.drop_eq_getElem_cons hlt, he]
end Go.Proofs.YtfioknaadbgjlaaDoor

namespace Go.Proofs.YtfioknaadbgjlaaDoor
set_option linter.unusedVariables false

/-- Parted at each /. -/
def splitB : List UInt8 → List (List UInt8)
  | [] => [[]]
  | c :: t => if c = 47 then [] :: splitB t else match splitB t with
    | h :: r => (c :: h) :: r
    | [] => [[c]]
theorem splitB_ne (l : List UInt8) : splitB l ≠ [] := by
  cases l with
  | nil => simp [splitB]
  | cons c t =>
    unfold splitB
    split
    · simp
    · split <;> simp
/-- The first part goes on in front. -/
def frontB (a : List UInt8) (l : List (List UInt8)) : List (List UInt8) := match l with
  | h :: r => (a ++ h) :: r
  | [] => [a]
theorem frontB_nil (l : List (List UInt8)) (h : l ≠ []) : frontB [] l = l := by
  cases l with
  | nil => exact absurd rfl h
  | cons a r => rfl
theorem splitB_char {c : UInt8} (h : c ≠ 47) (t : List UInt8) : splitB (c :: t) = frontB [c] (splitB t) := by
  rw [splitB, if_neg h]
  unfold frontB
  split <;> rfl
theorem splitB_sl (t : List UInt8) : splitB (47 :: t) = [] :: splitB t := by rw [splitB, if_pos rfl]
theorem frontB_front (a b : List UInt8) (l : List (List UInt8)) : frontB a (frontB b l) = frontB (a ++ b) l := by
  cases l with
  | nil => rfl
  | cons h r => simp [frontB]
theorem splitB_pre : ∀ (a t : List UInt8), (∀ c ∈ a, c ≠ 47) → splitB (a ++ t) = frontB a (splitB t)
  | [], t, _ => (frontB_nil _ (splitB_ne t)).symm
  | c :: a, t, h => by
    rw [List.cons_append, splitB_char (h c (by simp)), splitB_pre a t (fun x hx => h x (by simp [hx])), frontB_front]
    rfl
/-- Names, each behind a /. -/
def joinP (ns : List (List UInt8)) : List UInt8 := ns.flatMap fun s => 47 :: s
theorem join_split : ∀ l : List UInt8, joinP (splitB l) = 47 :: l
  | [] => rfl
  | c :: t => by
    have ih := join_split t
    by_cases h : c = 47
    · subst h
      rw [splitB_sl]
      show 47 :: ([] ++ joinP (splitB t)) = _
      rw [List.nil_append, ih]
    · rw [splitB_char h]
      cases hs : splitB t with
      | nil => exact absurd hs (splitB_ne t)
      | cons a r =>
        rw [hs] at ih
        show 47 :: (c :: a) ++ joinP r = 47 :: c :: t
        have e : (47 :: a) ++ joinP r = 47 :: t := ih
        have e2 : a ++ joinP r = t := by simpa using e
        rw [List.cons_append, List.cons_append, e2]
theorem split_join : ∀ (ns : List (List UInt8)) (s : List UInt8), (∀ c ∈ s, c ≠ 47) → (∀ x ∈ ns, ∀ c ∈ x, c ≠ 47) → splitB (s ++ joinP ns) = s :: ns
  | [], s, h, _ => by
    rw [splitB_pre s _ h]
    simp [joinP, splitB, frontB]
  | x :: ns, s, h, hn => by
    rw [splitB_pre s _ h]
    show frontB s (splitB (47 :: (x ++ joinP ns))) = _
    rw [splitB_sl, split_join ns x (hn x (by simp)) (fun y hy => hn y (by simp [hy]))]
    simp [frontB]
/-- A name that can't be. -/
def badN (s : List UInt8) : Bool := decide (s = []) || decide (s = [46]) || decide (s = [46, 46])
/-- A path's names, and the error. -/
def splitI (p : List UInt8) : List (List UInt8) × Int :=
  if 1024 < p.length then ([], 4)
  else match p with
    | [] => ([], 3)
    | c :: t => if c ≠ 47 then ([], 3) else if t = [] then ([], 0) else if (splitB t).any badN = true then ([], 3) else if 16 < (splitB t).length then ([], 4) else (splitB t, 0)
theorem splitI_join {p : List UInt8} (h : (splitI p).2 = 0) : joinP (splitI p).1 = p ∨ (p = [47] ∧ (splitI p).1 = []) := by
  unfold splitI at h ⊢
  split at h
  · cases h
  · rename_i hl
    rw [if_neg hl]
    cases p with
    | nil => cases h
    | cons c t =>
      simp only at h ⊢
      split at h
      · cases h
      · rename_i hc
        rw [if_neg hc]
        have hc' : c = 47 := Classical.not_not.1 hc
        subst hc'
        split at h
        · rename_i ht
          subst ht
          exact Or.inr ⟨rfl, by rw [if_pos rfl]⟩
        · rename_i ht
          rw [if_neg ht]
          split at h
          · cases h
          · rename_i hb
            rw [if_neg hb]
            split at h
            · cases h
            · rename_i h16
              rw [if_neg h16]
              exact Or.inl (join_split t)
theorem splitI_err (p : List UInt8) : (splitI p).2 = 0 ∨ ((splitI p).1 = [] ∧ ((splitI p).2 = 3 ∨ (splitI p).2 = 4)) := by
  unfold splitI
  split
  · exact Or.inr ⟨rfl, Or.inr rfl⟩
  · split
    · exact Or.inr ⟨rfl, Or.inl rfl⟩
    · split
      · exact Or.inr ⟨rfl, Or.inl rfl⟩
      · split
        · exact Or.inl rfl
        · split
          · exact Or.inr ⟨rfl, Or.inl rfl⟩
          · split
            · exact Or.inr ⟨rfl, Or.inr rfl⟩
            · exact Or.inl rfl
/-- A path out of names that can be. -/
theorem splitI_of {x : List UInt8} {ns : List (List UInt8)} (hc : ∀ y ∈ x :: ns, ∀ c ∈ y, c ≠ 47) (hb : (x :: ns).any badN = false) : splitI (joinP (x :: ns)) = if 1024 < (joinP (x :: ns)).length then ([], 4) else if 16 < (x :: ns).length then ([], 4) else (x :: ns, 0) := by
  have hs : splitB (x ++ joinP ns) = x :: ns := split_join ns x (hc x (by simp)) (fun y hy => hc y (by simp [hy]))
  have hj : joinP (x :: ns) = 47 :: (x ++ joinP ns) := rfl
  have hx : x ++ joinP ns ≠ [] := by
    intro h
    have hx0 : x = [] := by cases x with
      | nil => rfl
      | cons a b => cases h
    rw [hx0] at hb
    simp [badN] at hb
  unfold splitI
  rw [hj]
  split
  · rfl
  · simp only
    rw [if_neg (by simp), if_neg hx, hs, if_neg (by rw [hb]; decide)]
theorem splitI_len (p : List UInt8) : (splitI p).1.length ≤ 16 := by
  unfold splitI
  split
  · exact Nat.zero_le _
  · split
    · exact Nat.zero_le _
    · split
      · exact Nat.zero_le _
      · split
        · exact Nat.zero_le _
        · split
          · exact Nat.zero_le _
          · split
            · exact Nat.zero_le _
            · show (splitB _).length ≤ 16
              omega
theorem bad_cases (s : List UInt8) : badN s = true ↔ (s = [] ∨ s = [46] ∨ s = [46, 46]) := by
  unfold badN
  simp only [Bool.or_eq_true, decide_eq_true_iff, or_assoc]
end Go.Proofs.YtfioknaadbgjlaaDoor

namespace Go.Proofs.YtfioknaadbgjlaaDoor
open Go.RowKit Go.Sort
set_option linter.unusedVariables false

def txC (s : ByteArray) : List Value := [.string s]
abbrev TxtsIs := @LstIs ByteArray txC 1
def mkS (l : List UInt8) : ByteArray := ⟨l.toArray⟩
theorem mkS_list (l : List UInt8) : (mkS l).data.toList = l := rfl
theorem mkS_of (b : ByteArray) : mkS b.data.toList = b := rfl
theorem txC_len (l : List ByteArray) : ∀ x ∈ l, (txC x).length = 1 := fun _ _ => rfl
theorem txC_one (s : ByteArray) : ∀ v ∈ txC s, v.oneCell' = true := fun v hv => by rw [List.mem_singleton.1 hv]; rfl
theorem txt_at {w : World} {a : Option Addr} {n cap : Nat} {l : List ByteArray} (h : TxtsIs w (.slice a n cap) l) {j : Nat} {s : ByteArray} (hj : l[j]? = some s) : ∃ g off, a = some ⟨g, off, none⟩ ∧ g < w.heap.size ∧ w.cell? ⟨g, off + j, none⟩ = some (.string s) := by
  obtain ⟨g, off, h1, h2, h3⟩ := h.at hj
  refine ⟨g, off, h1, h2, ?_⟩
  have := h3 0 _ rfl
  rw [Nat.mul_one, Nat.add_zero] at this
  exact this
/-- An own row of texts. -/
def OwnW (B : Nat) (w : World) (v : Value) (l : List ByteArray) : Prop := w.ownsRow B 9 1 v l.length (l.flatMap txC)
theorem OwnW.nil (B : Nat) (w : World) : OwnW B w (.slice none 0 0) [] := World.ownsRow_nil _ _ _ _
theorem OwnW.txts {B : Nat} {w : World} {v : Value} {l : List ByteArray} (h : OwnW B w v l) : TxtsIs w v l := LstIs.own (txC_len l) h rfl
theorem OwnW.below {B : Nat} {w w' : World} {v : Value} {l : List ByteArray} (h : OwnW B w v l) (hb : Below w.heap.size w w') : OwnW B w' v l :=
  World.ownsRow.kept (row := none) h ⟨hb.os, hb.tape, hb.output, hb.size, fun k hk _ => hb.block k hk⟩ (by cases h : v.ownBlock with | none => exact Or.inl rfl | some x => exact Or.inr (by simp))
theorem OwnW.al {B : Nat} {w : World} {v : Value} {l : List ByteArray} (h : OwnW B w v l) (o : Obj) : OwnW B (w.alloc o) v l := h.below ((Below.refl _ _).alloc (Nat.le_refl _) _)
theorem OwnW.cap {B : Nat} {w : World} {a : Option Addr} {n c : Nat} {l : List ByteArray} (h : OwnW B w (.slice a n c) l) : n ≤ c := by
  rcases h.2 with ⟨hv, _⟩ | ⟨g, cap, cur, hv, _, _, h1, _⟩
  · injection hv with h1 h2 h3
    omega
  · injection hv with h2 h3 h4
    omega
/-- A slice within its capacity. -/
def CapOk (v : Value) : Prop := ∃ a n c, v = .slice a n c ∧ n ≤ c
theorem CapOk.none : CapOk (.slice none 0 0) := ⟨_, _, _, rfl, Nat.le_refl _⟩
theorem CapOk.le {a : Option Addr} {n c : Nat} (h : CapOk (.slice a n c)) : n ≤ c := by
  obtain ⟨_, _, _, hv, h1⟩ := h
  injection hv with h2 h3 h4
  omega
theorem infoStrW : (Tryd.prog.info? 9).map (fun i => (i.zero, i.size, i.bytes)) = some (some (.string ⟨#[]⟩), 1, 16) := by kernel_rfl
theorem ext_part (b : ByteArray) (f i : Nat) : b.extract f i = mkS ((b.data.toList.drop f).take (i - f)) := by
  apply ByteArray.ext
  apply Array.toList_inj.1
  rw [ByteArray.data_extract, Array.toList_extract, List.extract_eq_take_drop]
  rfl
theorem below_draws {B : Nat} {a w : World} (h : Below B a w) (q : Nat) : Below B a (w.drewN q) := by
  induction q with
  | zero => exact h
  | succ q ih => exact ih.drew
end Go.Proofs.YtfioknaadbgjlaaDoor
