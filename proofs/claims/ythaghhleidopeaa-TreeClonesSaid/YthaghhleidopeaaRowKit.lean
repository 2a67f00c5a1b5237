/-
  Rows in memory, what stays, loads and stores of whole rows: SeKit's and SePut's laws that name no device (for seats without one).
-/
import Derived.Test.YthaghhleidopeaaProg
import Derived.WalkKit
import Derived.WalkSpells
import Derived.IntWalk
import Derived.ProofKit
import Derived.Lib.Hide
import Derived.Lib.Builder
import Derived.Below
import Derived.Sort.WalkC
import Derived.LoopTactic
import Derived.Deep.LoopGhost
import Derived.Deep.QuietTactic
import Derived.Deep.MidRow
import Derived.Deep.RegionHeld3
import Derived.Deep.AppendLies
import Derived.Deep.RegionLaw
import Derived.Laws.NewBlocks
import Derived.Laws.IdiomStrings
import Derived.Laws.MakeOwn
import Derived.KernelRfl
import Derived.Great.BuildSlice
import Derived.Deep.WholeRow
import Derived.Deep.CutRange
import Derived.Deep.CutBlock
import Derived.OwnWalk
namespace Go.Proofs.Ythaghhleidopeaa
open Go.RowKit
set_option linter.unusedVariables false

/-! Lists of parts of one length. -/
section
variable {α : Type}
theorem flat_len (f : α → List Value) (c : Nat) : ∀ (l : List α), (∀ x ∈ l, (f x).length = c) → (l.flatMap f).length = l.length * c
  | [], _ => by simp
  | x :: l, h => by
    rw [List.flatMap_cons, List.length_append, flat_len f c l (fun y hy => h y (by simp [hy])), h x (by simp), List.length_cons, Nat.add_mul]
    omega
theorem flat_drop (f : α → List Value) (c : Nat) : ∀ (l : List α) (i : Nat), (∀ x ∈ l, (f x).length = c) → (l.flatMap f).drop (i * c) = (l.drop i).flatMap f
  | [], i, _ => by simp
  | x :: l, 0, _ => by simp
  | x :: l, i + 1, h => by
    rw [List.flatMap_cons, List.drop_succ_cons, ← flat_drop f c l i (fun y hy => h y (by simp [hy])), List.drop_append]
    rw [List.drop_eq_nil_of_le (by rw [h x (by simp), Nat.add_mul]; omega), List.nil_append, h x (by simp), Nat.add_mul]
    congr 1
    omega
theorem flat_take (f : α → List Value) (c : Nat) : ∀ (l : List α) (i : Nat), (∀ x ∈ l, (f x).length = c) → (l.flatMap f).take (i * c) = (l.take i).flatMap f
  | [], i, _ => by simp
  | x :: l, 0, _ => by simp
  | x :: l, i + 1, h => by
    rw [List.flatMap_cons, List.take_succ_cons, List.flatMap_cons, ← flat_take f c l i (fun y hy => h y (by simp [hy])), List.take_append]
    rw [List.take_of_length_le (by rw [h x (by simp), Nat.add_mul]; omega), h x (by simp), Nat.add_mul]
    congr 2
    omega
theorem flat_part (f : α → List Value) (c : Nat) (l : List α) (i : Nat) (x : α) (h : ∀ x ∈ l, (f x).length = c) (hi : l[i]? = some x) : ((l.flatMap f).drop (i * c)).take c = f x := by
  rw [flat_drop f c l i h]
  obtain ⟨hlt, he⟩ := List.getElem?_eq_some_iff.1 hi
  rw [List.drop_eq_getElem_cons hlt, List.flatMap_cons, List.take_append, he]
  have hx : (f x).length = c := h x (by rw [← he]; exact List.getElem_mem hlt)
  rw [List.take_of_length_le (by omega), hx, Nat.sub_self, List.take_zero, List.append_nil]
theorem flat_set (f : α → List Value) (c : Nat) (l : List α) (i : Nat) (x : α) (h : ∀ x ∈ l, (f x).length = c) (hi : i < l.length) (hx : (f x).length = c) : (l.flatMap f).take (i * c) ++ f x ++ (l.flatMap f).drop (i * c + c) = (l.set i x).flatMap f := by
  rw [flat_take f c l i h, show i * c + c = (i + 1) * c by rw [Nat.add_mul]; omega, flat_drop f c l (i + 1) h, List.set_eq_take_append_cons_drop, if_pos hi, List.flatMap_append, List.flatMap_cons, List.append_assoc]
end

/-- A sector's cells. -/
def sec (s : ByteArray) : List Value := s.data.toList.map fun b => Value.int .u8 b.toNat
theorem sec_length (s : ByteArray) : (sec s).length = s.size := by simp [sec]
theorem sec_one (s : ByteArray) : ∀ v ∈ sec s, v.oneCell' = true := fun v hv => by
  obtain ⟨b, _, rfl⟩ := List.mem_map.1 hv
  rfl
def flat (l : List ByteArray) : List Value := l.flatMap sec
/-- A pending write's cells. -/
def wrc (p : Nat × ByteArray) : List Value := .int .i64 p.1 :: sec p.2
theorem wrc_length {p : Nat × ByteArray} (h : p.2.size = 64) : (wrc p).length = 65 := by simp [wrc, sec_length, h]
theorem wrc_one (p : Nat × ByteArray) : ∀ v ∈ wrc p, v.oneCell' = true := fun v hv => by
  rcases List.mem_cons.1 hv with rfl | hv
  · rfl
  · exact sec_one _ v hv
def pcells (l : List (Nat × ByteArray)) : List Value := l.flatMap wrc

/-! What stays. -/
theorem lt_of_get {w : World} {k : Nat} {o : Obj} (hk : w.heap[k]? = some o) : k < w.heap.size := by
  rcases Nat.lt_or_ge k w.heap.size with h' | h'
  · exact h'
  · simp [Array.getElem?_eq_none h'] at hk
/-- Blocks of other types than these stay. -/
def Off (ex : List TypeId) (w w' : World) : Prop := ∀ (T : TypeId), T ∉ ex → ∀ (k : Nat) (cs : Array Value) (fr : Nat × Nat), w.heap[k]? = some (.cells cs T fr) → w'.heap[k]? = some (.cells cs T fr)
theorem Off.refl (ex : List TypeId) (w : World) : Off ex w w := fun _ _ _ _ _ h => h
theorem Off.trans {ex : List TypeId} {a b c : World} (h : Off ex a b) (h' : Off ex b c) : Off ex a c := fun T hT k cs fr hk => h' T hT k cs fr (h T hT k cs fr hk)
theorem Off.drew {ex : List TypeId} {a w : World} (h : Off ex a w) : Off ex a w.drew := h
theorem Off.drewN {ex : List TypeId} {a w : World} (h : Off ex a w) (q : Nat) : Off ex a (w.drewN q) := by
  induction q with
  | zero => exact h
  | succ q ih => exact ih
theorem Off.alloc {ex : List TypeId} {a w : World} (h : Off ex a w) (o : Obj) : Off ex a (w.alloc o) := h.trans fun T hT k cs fr hk => by
  rw [Below.heap_alloc w o k (lt_of_get hk)]; exact hk
theorem Off.setCell {ex : List TypeId} {a w : World} (h : Off ex a w) {b j : Nat} {C : Array Value} {T : TypeId} {fr : Nat × Nat} (hb : w.heap[b]? = some (.cells C T fr)) (hT : T ∈ ex) (x : Value) : Off ex a (w.setCell ⟨b, j, none⟩ x) := h.trans fun T' hT' k cs fr' hk => by
  rw [heap_setCell_other w ⟨b, j, none⟩ k x (fun e => by
    subst e
    rw [hb] at hk
    injection hk with hk
    injection hk with _ h2 _
    exact hT' (h2 ▸ hT))]
  exact hk
theorem heap_setCells_far (b : Nat) : ∀ (vs : List Value) (o : Nat) (w : World) (k : Nat), k ≠ b → (w.setCells b o vs).heap[k]? = w.heap[k]?
  | [], _, _, _, _ => rfl
  | v :: r, o, w, k, h => by
    rw [World.setCells, heap_setCells_far b r (o + 1) _ k h, heap_setCell_other w ⟨b, o, none⟩ k v h]
theorem Off.setCells {ex : List TypeId} {a w : World} (h : Off ex a w) {b o : Nat} {C : Array Value} {T : TypeId} {fr : Nat × Nat} (hb : w.heap[b]? = some (.cells C T fr)) (hT : T ∈ ex) (vs : List Value) : Off ex a (w.setCells b o vs) := h.trans fun T' hT' k cs fr' hk => by
  rw [heap_setCells_far b vs o w k (fun e => by
    subst e
    rw [hb] at hk
    injection hk with hk
    injection hk with _ h2 _
    exact hT' (h2 ▸ hT))]
  exact hk
theorem Off.grown {ex : List TypeId} {a w w' : World} {row : Option Nat} (h : Off ex a w) (hg : w.grownBy w' row) (hr : ∀ k, row = some k → ∃ cs T fr, w.heap[k]? = some (.cells cs T fr) ∧ T ∈ ex) : Off ex a w' := h.trans fun T hT k cs fr hk => by
  rw [hg.block k (lt_of_get hk) (fun e => by
    obtain ⟨cs', T', fr', h1, h2⟩ := hr k e.symm
    rw [hk] at h1
    injection h1 with h1
    injection h1 with _ h3 _
    exact hT (h3 ▸ h2))]
  exact hk
theorem Off.mono {ex ex' : List TypeId} {w w' : World} (h : Off ex w w') (hs : ∀ T ∈ ex, T ∈ ex') : Off ex' w w' := fun T hT => h T (fun hm => hT (hs T hm))
theorem size_setCells (b : Nat) : ∀ (vs : List Value) (o : Nat) (w : World), (w.setCells b o vs).heap.size = w.heap.size
  | [], _, _ => rfl
  | v :: r, o, w => by rw [World.setCells, size_setCells b r]; simp [World.setCell]
theorem Below.setCells {B : Nat} {a w : World} (h : Below B a w) {b : Nat} (hb : B ≤ b) (o : Nat) (vs : List Value) : Below B a (w.setCells b o vs) := by
  induction vs generalizing o w with
  | nil => exact h
  | cons v r ih => exact ih (h.setCell (p := ⟨b, o, none⟩) hb v) (o + 1)
/-- The block that is written. -/
theorem heap_setCells_at (b : Nat) (T : TypeId) : ∀ (vs : List Value) (o : Nat) (w : World) (C : List Value), w.heap[b]? = some (.cells C.toArray T (0, 0)) → o + vs.length ≤ C.length →
    (w.setCells b o vs).heap[b]? = some (.cells (C.take o ++ vs ++ C.drop (o + vs.length)).toArray T (0, 0))
  | [], o, w, C, h, _ => by simpa [World.setCells] using h
  | v :: r, o, w, C, h, hl => by
    rw [World.setCells]
    have h1 : (w.setCell ⟨b, o, none⟩ v).heap[b]? = some (.cells (C.set o v).toArray T (0, 0)) := by
      rw [heap_setCell_same w b o C.toArray T v h]
      simp
    rw [heap_setCells_at b T r (o + 1) _ (C.set o v) h1 (by simp at hl ⊢; omega)]
    congr 3
    simp only [List.length_cons] at hl ⊢
    have ho : o < C.length := by omega
    rw [List.take_succ_eq_append_getElem (by simpa using ho), List.getElem_set_self, List.take_set_of_le (Nat.le_refl _), List.drop_set_of_lt (by omega)]
    simp
    congr 1
    omega
theorem there_of_block {w : World} {b : Nat} {C : Array Value} {T : TypeId} (hb : w.heap[b]? = some (.cells C T (0, 0))) (o n : Nat) (h : o + n ≤ C.size) : w.there b o n := fun j hj => by
  rw [cell_of_row w b (o + j) C T (0, 0) hb, Array.getElem?_eq_getElem (by omega)]
  exact ⟨rfl, frozen_of_row w b _ C T hb⟩
/-- A part of a block of parts. -/
theorem range_of_flat {α : Type} (f : α → List Value) (c : Nat) {l : List α} {i : Nat} {x : α} (h : ∀ x ∈ l, (f x).length = c) (hi : l[i]? = some x) {w : World} {b : Nat} {T : TypeId} {fr : Nat × Nat} {R : List Value} (hb : w.heap[b]? = some (.cells (l.flatMap f ++ R).toArray T fr)) : w.rangeAt b (i * c) (f x) := fun j v hv => by
  rw [cell_of_row w b _ _ T fr hb]
  have hj : j < (f x).length := (List.getElem?_eq_some_iff.1 hv).1
  obtain ⟨hlt, he⟩ := List.getElem?_eq_some_iff.1 hi
  have hc : (f x).length = c := h x (by rw [← he]; exact List.getElem_mem hlt)
  have hle : i * c + c ≤ (l.flatMap f).length := by
    rw [flat_len f c l h]
    calc i * c + c = (i + 1) * c := by rw [Nat.add_mul]; omega
      _ ≤ l.length * c := Nat.mul_le_mul_right c hlt
  rw [← flat_part f c l i x h hi] at hv
  rw [List.getElem?_take, if_pos (by omega), List.getElem?_drop] at hv
  rw [List.getElem?_toArray, List.getElem?_append_left (by omega)]
  exact hv

/-! A load, a store, a literal whose run is known. -/
section
variable {P : Program} {ops : Array Oper} {rest : List Oper} {d : Option Tmp} {T : TypeId} {pos : String} {af : Array Edge} {a : Act} {w w' : World} {Q : Exit → Act → World → Prop}
theorem wpL_load (ty : TypeId) (x : Operand) (px v : Value) (hx : a.eval x = px) (hr : (Instr.loadAt ty px).run P w = .ok v w) (h : wpList P ops Q rest (a.put d v) w) :
    wpList P ops Q ({ dst := d, op := .load ty x, type := T, pos := pos, after := af, guard := none } :: rest) a w :=
  wpList_plain rfl fun _ hK => by
    unfold Oper.wp execOp
    simp only [hx, Sem.run_bind, hr, Result.andThen_ok]
    exact hK _ _ h
theorem wpL_store (ty : TypeId) (x y : Operand) (px vy : Value) (hx : a.eval x = px) (hy : a.eval y = vy) (hr : (Instr.storeAt ty px vy).run P w = .ok () w') (h : wpList P ops Q rest (a.put d undef) w') :
    wpList P ops Q ({ dst := d, op := .store ty x y, type := T, pos := pos, after := af, guard := none } :: rest) a w :=
  wpList_plain rfl fun _ hK => by
    unfold Oper.wp execOp
    simp only [hx, hy, Sem.run_bind, hr, Result.andThen_ok]
    exact hK _ _ h
theorem wpL_build (ty : TypeId) (parts : Array (Nat × Operand)) (vs : Array (Nat × Value)) (v : Value) (hv : (parts.toList.map fun (i, x) => (i, a.eval x)) = vs.toList) (hr : (Instr.build ty vs).run P w = .ok v w) (h : wpList P ops Q rest (a.put d v) w) :
    wpList P ops Q ({ dst := d, op := .build ty parts, type := T, pos := pos, after := af, guard := none } :: rest) a w :=
  wpList_plain rfl fun _ hK => by
    unfold Oper.wp execOp
    have hv' : (parts.map fun (i, x) => (i, a.eval x)) = vs := by
      apply Array.ext'
      rw [Array.toList_map]
      exact hv
    simp only [hv', Sem.run_bind, hr, Result.andThen_ok]
    exact hK _ _ h
end
theorem wpO_buildSlice {P : Program} {o : Oper} {a : Act} {w w' : World} {K : Act → World → Prop} {Q : Exit → Act → World → Prop} (ty : TypeId) (n : Nat) (parts : Array (Nat × Operand)) (ho : o.op = .buildSlice ty n parts) (vs : Array (Nat × Value)) (v : Value) (hv : (parts.toList.map fun (i, x) => (i, a.eval x)) = vs.toList) (hr : (Instr.buildSlice ty n vs).run P w = .ok v w')
    (h : K (a.put o.dst v) w') : o.wp P a w K Q := by
  unfold Oper.wp execOp
  have hv' : (parts.map fun (i, x) => (i, a.eval x)) = vs := by
    apply Array.ext'
    rw [Array.toList_map]
    exact hv
  simp only [ho, hv', Sem.run_bind, hr, Result.andThen_ok]
  exact h
theorem step_of {o : Oper} {ys : Nat → Option Bool} {X Y : Prop} (hgd : o.guard = none) (h : X) : if Region.wanted o ys = true then X else Y := by
  have hw : Region.wanted o ys = true := by simp [Region.wanted, hgd]
  rw [if_pos hw]
  exact h
theorem wpO_load {P : Program} {o : Oper} {a : Act} {w : World} {K : Act → World → Prop} {Q : Exit → Act → World → Prop} (ty : TypeId) (x : Operand) (ho : o.op = .load ty x) (px v : Value) (hx : a.eval x = px) (hr : (Instr.loadAt ty px).run P w = .ok v w) (h : K (a.put o.dst v) w) : o.wp P a w K Q := by
  unfold Oper.wp execOp
  simp only [ho, hx, Sem.run_bind, hr, Result.andThen_ok]
  exact h
theorem wpO_store {P : Program} {o : Oper} {a : Act} {w w' : World} {K : Act → World → Prop} {Q : Exit → Act → World → Prop} (ty : TypeId) (x y : Operand) (ho : o.op = .store ty x y) (px vy : Value) (hx : a.eval x = px) (hy : a.eval y = vy) (hr : (Instr.storeAt ty px vy).run P w = .ok () w') (h : K (a.put o.dst undef) w') : o.wp P a w K Q := by
  unfold Oper.wp execOp
  simp only [ho, hx, hy, Sem.run_bind, hr, Result.andThen_ok]
  exact h
theorem block_ne {w : World} {a b : Nat} {C D : Array Value} {T U : TypeId} {x y : Nat × Nat} (h : w.heap[a]? = some (.cells C T x)) (h' : w.heap[b]? = some (.cells D U y)) (hn : T ≠ U) : a ≠ b := fun e => by
  subst e
  rw [h] at h'
  injection h' with h'
  injection h' with _ h2 _
  exact hn h2
theorem take_snoc {α : Type} {l : List α} {j : Nat} {p : α} (h : l[j]? = some p) : l.take (j + 1) = l.take j ++ [p] := by
  rw [List.take_add_one, h]
  rfl
def NumsIs (w : World) (v : Value) (l : List Int) : Prop :=
  (l = [] ∧ ∃ a cap, v = .slice a 0 cap) ∨
  (∃ g off cap, g < w.heap.size ∧ v = .slice (some ⟨g, off, none⟩) l.length cap ∧ ∀ j, j < l.length → w.cell? ⟨g, off + j, none⟩ = some (.int .i64 (l.getD j 0)))
theorem NumsIs.kept {w w' : World} {v : Value} {l : List Int} (h : NumsIs w v l) (hb : Below w.heap.size w w') : NumsIs w' v l := by
  rcases h with h | ⟨g, off, cap, hg, hv, hc⟩
  · exact Or.inl h
  · exact Or.inr ⟨g, off, cap, by have := hb.size; omega, hv, fun j hj => by rw [hb.cell (p := ⟨g, off + j, none⟩) hg]; exact hc j hj⟩
theorem NumsIs.len {w : World} {v : Value} {l : List Int} (h : NumsIs w v l) : ∃ a cap, v = .slice a l.length cap := by
  rcases h with ⟨rfl, a, cap, hv⟩ | ⟨g, off, cap, hg, hv, hc⟩
  · exact ⟨a, cap, hv⟩
  · exact ⟨_, cap, hv⟩
theorem NumsIs.at {w : World} {a : Option Addr} {n cap : Nat} {l : List Int} (h : NumsIs w (.slice a n cap) l) {j : Nat} (hj : j < l.length) : ∃ g off, a = some ⟨g, off, none⟩ ∧ g < w.heap.size ∧ w.cell? ⟨g, off + j, none⟩ = some (.int .i64 (l.getD j 0)) := by
  rcases h with ⟨rfl, _⟩ | ⟨g, off, cap', hg, hv, hc⟩
  · exact absurd hj (by simp)
  · injection hv with h1 h2 h3
    exact ⟨g, off, h1, hg, hc j hj⟩

/-- The marks behind these numbers. -/
def markF (count : Nat) (M : List Bool) (x : Int) : List Bool := if 0 ≤ x ∧ x < (count : Int) then M.set x.toNat true else M
def marks (count : Nat) (l : List Int) : List Bool := l.foldl (markF count) (List.replicate count false)
theorem marks_snoc (count : Nat) (l : List Int) (x : Int) : marks count (l ++ [x]) = if 0 ≤ x ∧ x < (count : Int) then (marks count l).set x.toNat true else marks count l := by
  unfold marks
  rw [List.foldl_append]
  rfl
theorem markF_len (count : Nat) (M : List Bool) (x : Int) : (markF count M x).length = M.length := by
  unfold markF
  split
  · rw [List.length_set]
  · rfl
theorem marksF_len (count : Nat) : ∀ (l : List Int) (M : List Bool), (l.foldl (markF count) M).length = M.length
  | [], M => rfl
  | x :: l, M => (marksF_len count l (markF count M x)).trans (markF_len count M x)
theorem marks_len (count : Nat) (l : List Int) : (marks count l).length = count := by
  unfold marks
  rw [marksF_len, List.length_replicate]
theorem marksF_get (count i : Nat) (hi : i < count) : ∀ (l : List Int) (M : List Bool) (u : Bool), M.length = count → M[i]? = some u → (l.foldl (markF count) M)[i]? = some (u || decide ((i : Int) ∈ l))
  | [], M, u, _, hu => by simpa using hu
  | x :: l, M, u, hM, hu => by
    have hF := markF_len count M x
    show (l.foldl (markF count) (markF count M x))[i]? = _
    by_cases h : 0 ≤ x ∧ x < (count : Int)
    · by_cases e : x.toNat = i
      · have he : (i : Int) = x := by omega
        rw [marksF_get count i hi l _ true (hF.trans hM) (by unfold markF; rw [if_pos h, e, List.getElem?_set_self (by omega)])]
        simp [he]
      · have he : ¬ ((i : Int) = x) := by omega
        rw [marksF_get count i hi l _ u (hF.trans hM) (by unfold markF; rw [if_pos h, List.getElem?_set_ne e]; exact hu)]
        simp [he]
    · have he : ¬ ((i : Int) = x) := by omega
      rw [marksF_get count i hi l _ u (hF.trans hM) (by unfold markF; rw [if_neg h]; exact hu)]
      simp [he]
theorem marks_get (count : Nat) (l : List Int) (i : Nat) (hi : i < count) : (marks count l)[i]? = some (decide ((i : Int) ∈ l)) := by
  have := marksF_get count i hi l (List.replicate count false) false (by simp) (by simp [hi])
  simpa [marks] using this
def boolRow (M : List Bool) : Array Value := (M.map Value.bool).toArray
theorem boolRow_set (M : List Bool) (i : Nat) (x : Bool) : (boolRow M).setIfInBounds i (.bool x) = boolRow (M.set i x) := by
  unfold boolRow
  apply Array.ext'
  rw [Array.toList_setIfInBounds, List.toList_toArray, List.toList_toArray, List.map_set]
theorem boolRow_get {M : List Bool} {i : Nat} {x : Bool} (h : M[i]? = some x) : (boolRow M)[i]? = some (.bool x) := by
  unfold boolRow
  rw [List.getElem?_toArray, List.getElem?_map, h]
  rfl
theorem Try.infoBoolZ : (Try.prog.info? 4).map (fun i => (i.zero, i.size, i.bytes)) = some (some (.bool false), 1, 1) := by kernel_rfl
end Go.Proofs.Ythaghhleidopeaa
