/-
  Rows in memory, what stays, loads and stores of whole rows: SeKit's and SePut's laws that name no device (for seats without one).
  Prepared for stage 10: the reference's tree: plain lists of entries, and what memory holds of them.
  Prepared for stage 10: the reference's kind and above.
  Prepared for stage 10: the reference's List and Find.
  The fourth reference's Good (never beside R4Small: the same names).
  Appending a list of structs, wherever it lies, to an own row: at a plain region's operation, and at a step of a region that draws its order.
-/
import Derived.Test.YtmplekjiciedgaaProg
import Derived.WalkKit
import Derived.WalkSpells
import Derived.IntWalk
import Derived.ProofKit
import Derived.Lib.Hide
import Derived.Lib.Builder
import Derived.Below
import Derived.Sort.WalkC
import Derived.LoopTactic
import Derived.Deep.LoopGhost
import Derived.Deep.QuietTactic
import Derived.Deep.MidRow
import Derived.Deep.RegionHeld3
import Derived.Deep.AppendLies
import Derived.Deep.RegionLaw
import Derived.Laws.NewBlocks
import Derived.Laws.IdiomStrings
import Derived.Laws.MakeOwn
import Derived.KernelRfl
import Derived.Great.BuildSlice
import Derived.Deep.WholeRow
import Derived.Deep.CutRange
import Derived.Deep.CutBlock
import Derived.OwnWalk
import Derived.Maps.AppendAt
import Derived.Deep.Upon
import Derived.Handy
import Derived.PlainAid
namespace Go.Proofs.Ytmplekjiciedgaa
open Go.RowKit
set_option linter.unusedVariables false

/-! Lists of parts of one length. -/
section
variable {α : Type}
theorem flat_len (f : α → List Value) (c : Nat) : ∀ (l : List α), (∀ x ∈ l, (f x).length = c) → (l.flatMap f).length = l.length * c
  | [], _ => by simp
  | x :: l, h => by
    rw [List.flatMap_cons, List.length_append, flat_len f c l (fun y hy => h y (by simp [hy])), h x (by simp), List.length_cons, Nat.add_mul]
    omega
theorem flat_drop (f : α → List Value) (c : Nat) : ∀ (l : List α) (i : Nat), (∀ x ∈ l, (f x).length = c) → (l.flatMap f).drop (i * c) = (l.drop i).flatMap f
  | [], i, _ => by simp
  | x :: l, 0, _ => by simp
  | x :: l, i + 1, h => by
    rw [List.flatMap_cons, List.drop_succ_cons, ← flat_drop f c l i (fun y hy => h y (by simp [hy])), List.drop_append]
    rw [List.drop_eq_nil_of_le (by rw [h x (by simp), Nat.add_mul]; omega), List.nil_append, h x (by simp), Nat.add_mul]
    congr 1
    omega
theorem flat_take (f : α → List Value) (c : Nat) : ∀ (l : List α) (i : Nat), (∀ x ∈ l, (f x).length = c) → (l.flatMap f).take (i * c) = (l.take i).flatMap f
  | [], i, _ => by simp
  | x :: l, 0, _ => by simp
  | x :: l, i + 1, h => by
    rw [List.flatMap_cons, List.take_succ_cons, List.flatMap_cons, ← flat_take f c l i (fun y hy => h y (by simp [hy])), List.take_append]
    rw [List.take_of_length_le (by rw [h x (by simp), Nat.add_mul]; omega), h x (by simp), Nat.add_mul]
    congr 2
    omega
theorem flat_part (f : α → List Value) (c : Nat) (l : List α) (i : Nat) (x : α) (h : ∀ x ∈ l, (f x).length = c) (hi : l[i]? = some x) : ((l.flatMap f).drop (i * c)).take c = f x := by
  rw [flat_drop f c l i h]
  obtain ⟨hlt, he⟩ := List.getElem?_eq_some_iff.1 hi
  rw [List.drop_eq_getElem_cons hlt, List.flatMap_cons, List.take_append, he]
  have hx : (f x).length = c := h x (by rw [← he]; exact List.getElem_mem hlt)
  rw [List.take_of_length_le (by omega), hx, Nat.sub_self, List.take_zero, List.append_nil]
theorem flat_set (f : α → List Value) (c : Nat) (l : List α) (i : Nat) (x : α) (h : ∀ x ∈ l, (f x).length = c) (hi : i < l.length) (hx : (f x).length = c) : (l.flatMap f).take (i * c) ++ f x ++ (l.flatMap f).drop (i * c + c) = (l.set i x).flatMap f := by
  rw [flat_take f c l i h, show i * c + c = (i + 1) * c by rw [Nat.add_mul]; omega, flat_drop f c l (i + 1) h, List.set_eq_take_append_cons_drop, if_pos hi, List.flatMap_append, List.flatMap_cons, List.append_assoc]
end

/-- A sector's cells. -/
def sec (s : ByteArray) : List Value := s.data.toList.map fun b => Value.int .u8 b.toNat
theorem sec_length (s : ByteArray) : (sec s).length = s.size := by simp [sec]
theorem sec_one (s : ByteArray) : ∀ v ∈ sec s, v.oneCell' = true := fun v hv => by
  obtain ⟨b, _, rfl⟩ := List.mem_map.1 hv
  rfl
def flat (l : List ByteArray) : List Value := l.flatMap sec
/-- A pending write's cells. -/
def wrc (p : Nat × ByteArray) : List Value := .int .i64 p.1 :: sec p.2
theorem wrc_length {p : Nat × ByteArray} (h : p.2.size = 64) : (wrc p).length = 65 := by simp [wrc, sec_length, h]
theorem wrc_one (p : Nat × ByteArray) : ∀ v ∈ wrc p, v.oneCell' = true := fun v hv => by
  rcases List.mem_cons.1 hv with rfl | hv
  · rfl
  · exact sec_one _ v hv
def pcells (l : List (Nat × ByteArray)) : List Value := l.flatMap wrc

/-! What stays. -/
theorem lt_of_get {w : World} {k : Nat} {o : Obj} (hk : w.heap[k]? = some o) : k < w.heap.size := by
  rcases Nat.lt_or_ge k w.heap.size with h' | h'
  · exact h'
  · simp [Array.getElem?_eq_none h'] at hk
/-- Blocks of other types than these stay. -/
def Off (ex : List TypeId) (w w' : World) : Prop := ∀ (T : TypeId), T ∉ ex → ∀ (k : Nat) (cs : Array Value) (fr : Nat × Nat), w.heap[k]? = some (.cells cs T fr) → w'.heap[k]? = some (.cells cs T fr)
theorem Off.refl (ex : List TypeId) (w : World) : Off ex w w := fun _ _ _ _ _ h => h
theorem Off.trans {ex : List TypeId} {a b c : World} (h : Off ex a b) (h' : Off ex b c) : Off ex a c := fun T hT k cs fr hk => h' T hT k cs fr (h T hT k cs fr hk)
theorem Off.drew {ex : List TypeId} {a w : World} (h : Off ex a w) : Off ex a w.drew := h
theorem Off.drewN {ex : List TypeId} {a w : World} (h : Off ex a w) (q : Nat) : Off ex a (w.drewN q) := by
  induction q with
  | zero => exact h
  | succ q ih => exact ih
theorem Off.alloc {ex : List TypeId} {a w : World} (h : Off ex a w) (o : Obj) : Off ex a (w.alloc o) := h.trans fun T hT k cs fr hk => by
  rw [Below.heap_alloc w o k (lt_of_get hk)]; exact hk
theorem Off.setCell {ex : List TypeId} {a w : World} (h : Off ex a w) {b j : Nat} {C : Array Value} {T : TypeId} {fr : Nat × Nat} (hb : w.heap[b]? = some (.cells C T fr)) (hT : T ∈ ex) (x : Value) : Off ex a (w.setCell ⟨b, j, none⟩ x) := h.trans fun T' hT' k cs fr' hk => by
  rw [heap_setCell_other w ⟨b, j, none⟩ k x (fun e => by
    subst e
    rw [hb] at hk
    injection hk with hk
    injection hk with _ h2 _
    exact hT' (h2 ▸ hT))]
  exact hk
theorem heap_setCells_far (b : Nat) : ∀ (vs : List Value) (o : Nat) (w : World) (k : Nat), k ≠ b → (w.setCells b o vs).heap[k]? = w.heap[k]?
  | [], _, _, _, _ => rfl
  | v :: r, o, w, k, h => by
    rw [World.setCells, heap_setCells_far b r (o + 1) _ k h, heap_setCell_other w ⟨b, o, none⟩ k v h]
theorem Off.setCells {ex : List TypeId} {a w : World} (h : Off ex a w) {b o : Nat} {C : Array Value} {T : TypeId} {fr : Nat × Nat} (hb : w.heap[b]? = some (.cells C T fr)) (hT : T ∈ ex) (vs : List Value) : Off ex a (w.setCells b o vs) := h.trans fun T' hT' k cs fr' hk => by
  rw [heap_setCells_far b vs o w k (fun e => by
    subst e
    rw [hb] at hk
    injection hk with hk
    injection hk with _ h2 _
    exact hT' (h2 ▸ hT))]
  exact hk
theorem Off.grown {ex : List TypeId} {a w w' : World} {row : Option Nat} (h : Off ex a w) (hg : w.grownBy w' row) (hr : ∀ k, row = some k → ∃ cs T fr, w.heap[k]? = some (.cells cs T fr) ∧ T ∈ ex) : Off ex a w' := h.trans fun T hT k cs fr hk => by
  rw [hg.block k (lt_of_get hk) (fun e => by
    obtain ⟨cs', T', fr', h1, h2⟩ := hr k e.symm
    rw [hk] at h1
    injection h1 with h1
    injection h1 with _ h3 _
    exact hT (h3 ▸ h2))]
  exact hk
theorem Off.mono {ex ex' : List TypeId} {w w' : World} (h : Off ex w w') (hs : ∀ T ∈ ex, T ∈ ex') : Off ex' w w' := fun T hT => h T (fun hm => hT (hs T hm))
theorem size_setCells (b : Nat) : ∀ (vs : List Value) (o : Nat) (w : World), (w.setCells b o vs).heap.size = w.heap.size
  | [], _, _ => rfl
  | v :: r, o, w => by rw [World.setCells, size_setCells b r]; simp [World.setCell]
theorem Below.setCells {B : Nat} {a w : World} (h : Below B a w) {b : Nat} (hb : B ≤ b) (o : Nat) (vs : List Value) : Below B a (w.setCells b o vs) := by
  induction vs generalizing o w with
  | nil => exact h
  | cons v r ih => exact ih (h.setCell (p := ⟨b, o, none⟩) hb v) (o + 1)
/-- The block that is written. -/
theorem heap_setCells_at (b : Nat) (T : TypeId) : ∀ (vs : List Value) (o : Nat) (w : World) (C : List Value), w.heap[b]? = some (.cells C.toArray T (0, 0)) → o + vs.length ≤ C.length →
    (w.setCells b o vs).heap[b]? = some (.cells (C.take o ++ vs ++ C.drop (o + vs.length)).toArray T (0, 0))
  | [], o, w, C, h, _ => by simpa [World.setCells] using h
  | v :: r, o, w, C, h, hl => by
    rw [World.setCells]
    have h1 : (w.setCell ⟨b, o, none⟩ v).heap[b]? = some (.cells (C.set o v).toArray T (0, 0)) := by
      rw [heap_setCell_same w b o C.toArray T v h]
      simp
    rw [heap_setCells_at b T r (o + 1) _ (C.set o v) h1 (by simp at hl ⊢; omega)]
    congr 3
    simp only [List.length_cons] at hl ⊢
    have ho : o < C.length := by omega
    rw [List.take_succ_eq_append_getElem (by simpa using ho), List.getElem_set_self, List.take_set_of_le (Nat.le_refl _), List.drop_set_of_lt (by omega)]
    simp
    congr 1
    omega
theorem there_of_block {w : World} {b : Nat} {C : Array Value} {T : TypeId} (hb : w.heap[b]? = some (.cells C T (0, 0))) (o n : Nat) (h : o + n ≤ C.size) : w.there b o n := fun j hj => by
  rw [cell_of_row w b (o + j) C T (0, 0) hb, Array.getElem?_eq_getElem (by omega)]
  exact ⟨rfl, frozen_of_row w b _ C T hb⟩
/-- A part of a block of parts. -/
theorem range_of_flat {α : Type} (f : α → List Value) (c : Nat) {l : List α} {i : Nat} {x : α} (h : ∀ x ∈ l, (f x).length = c) (hi : l[i]? = some x) {w : World} {b : Nat} {T : TypeId} {fr : Nat × Nat} {R : List Value} (hb : w.heap[b]? = some (.cells (l.flatMap f ++ R).toArray T fr)) : w.rangeAt b (i * c) (f x) := fun j v hv => by
  rw [cell_of_row w b _ _ T fr hb]
  have hj : j < (f x).length := (List.getElem?_eq_some_iff.1 hv).1
  obtain ⟨hlt, he⟩ := List.getElem?_eq_some_iff.1 hi
  have hc : (f x).length = c := h x (by rw [← he]; exact List.getElem_mem hlt)
  have hle : i * c + c ≤ (l.flatMap f).length := by
    rw [flat_len f c l h]
    calc i * c + c = (i + 1) * c := by rw [Nat.add_mul]; omega
      _ ≤ l.length * c := Nat.mul_le_mul_right c hlt
  rw [← flat_part f c l i x h hi] at hv
  rw [List.getElem?_take, if_pos (by omega), List.getElem?_drop] at hv
  rw [List.getElem?_toArray, List.getElem?_append_left (by omega)]
  exact hv

/-! A load, a store, a literal whose run is known. -/
section
variable {P : Program} {ops : Array Oper} {rest : List Oper} {d : Option Tmp} {T : TypeId} {pos : String} {af : Array Edge} {a : Act} {w w' : World} {Q : Exit → Act → World → Prop}
theorem wpL_load (ty : TypeId) (x : Operand) (px v : Value) (hx : a.eval x = px) (hr : (Instr.loadAt ty px).run P w = .ok v w) (h : wpList P ops Q rest (a.put d v) w) :
    wpList P ops Q ({ dst := d, op := .load ty x, type := T, pos := pos, after := af, guard := none } :: rest) a w :=
  wpList_plain rfl fun _ hK => by
    unfold Oper.wp execOp
    simp only [hx, Sem.run_bind, hr, Result.andThen_ok]
    exact hK _ _ h
theorem wpL_store (ty : TypeId) (x y : Operand) (px vy : Value) (hx : a.eval x = px) (hy : a.eval y = vy) (hr : (Instr.storeAt ty px vy).run P w = .ok () w') (h : wpList P ops Q rest (a.put d undef) w') :
    wpList P ops Q ({ dst := d, op := .store ty x y, type := T, pos := pos, after := af, guard := none } :: rest) a w :=
  wpList_plain rfl fun _ hK => by
    unfold Oper.wp execOp
    simp only [hx, hy, Sem.run_bind, hr, Result.andThen_ok]
    exact hK _ _ h
theorem wpL_build (ty : TypeId) (parts : Array (Nat × Operand)) (vs : Array (Nat × Value)) (v : Value) (hv : (parts.toList.map fun (i, x) => (i, a.eval x)) = vs.toList) (hr : (Instr.build ty vs).run P w = .ok v w) (h : wpList P ops Q rest (a.put d v) w) :
    wpList P ops Q ({ dst := d, op := .build ty parts, type := T, pos := pos, after := af, guard := none } :: rest) a w :=
  wpList_plain rfl fun _ hK => by
    unfold Oper.wp execOp
    have hv' : (parts.map fun (i, x) => (i, a.eval x)) = vs := by
      apply Array.ext'
      rw [Array.toList_map]
      exact hv
    simp only [hv', Sem.run_bind, hr, Result.andThen_ok]
    exact hK _ _ h
end
theorem wpO_buildSlice {P : Program} {o : Oper} {a : Act} {w w' : World} {K : Act → World → Prop} {Q : Exit → Act → World → Prop} (ty : TypeId) (n : Nat) (parts : Array (Nat × Operand)) (ho : o.op = .buildSlice ty n parts) (vs : Array (Nat × Value)) (v : Value) (hv : (parts.toList.map fun (i, x) => (i, a.eval x)) = vs.toList) (hr : (Instr.buildSlice ty n vs).run P w = .ok v w')
    (h : K (a.put o.dst v) w') : o.wp P a w K Q := by
  unfold Oper.wp execOp
  have hv' : (parts.map fun (i, x) => (i, a.eval x)) = vs := by
    apply Array.ext'
    rw [Array.toList_map]
    exact hv
  simp only [ho, hv', Sem.run_bind, hr, Result.andThen_ok]
  exact h
theorem step_of {o : Oper} {ys : Nat → Option Bool} {X Y : Prop} (hgd : o.guard = none) (h : X) : if Region.wanted o ys = true then X else Y := by
  have hw : Region.wanted o ys = true := by simp [Region.wanted, hgd]
  rw [if_pos hw]
  exact h
theorem wpO_load {P : Program} {o : Oper} {a : Act} {w : World} {K : Act → World → Prop} {Q : Exit → Act → World → Prop} (ty : TypeId) (x : Operand) (ho : o.op = .load ty x) (px v : Value) (hx : a.eval x = px) (hr : (Instr.loadAt ty px).run P w = .ok v w) (h : K (a.put o.dst v) w) : o.wp P a w K Q := by
  unfold Oper.wp execOp
  simp only [ho, hx, Sem.run_bind, hr, Result.andThen_ok]
  exact h
theorem wpO_store {P : Program} {o : Oper} {a : Act} {w w' : World} {K : Act → World → Prop} {Q : Exit → Act → World → Prop} (ty : TypeId) (x y : Operand) (ho : o.op = .store ty x y) (px vy : Value) (hx : a.eval x = px) (hy : a.eval y = vy) (hr : (Instr.storeAt ty px vy).run P w = .ok () w') (h : K (a.put o.dst undef) w') : o.wp P a w K Q := by
  unfold Oper.wp execOp
  simp only [ho, hx, hy, Sem.run_bind, hr, Result.andThen_ok]
  exact h
theorem block_ne {w : World} {a b : Nat} {C D : Array Value} {T U : TypeId} {x y : Nat × Nat} (h : w.heap[a]? = some (.cells C T x)) (h' : w.heap[b]? = some (.cells D U y)) (hn : T ≠ U) : a ≠ b := fun e => by
  subst e
  rw [h] at h'
  injection h' with h'
  injection h' with _ h2 _
  exact hn h2
theorem take_snoc {α : Type} {l : List α} {j : Nat} {p : α} (h : l[j]? = some p) : l.take (j + 1) = l.take j ++ [p] := by
  rw [List.take_add_one, h]
  rfl
def NumsIs (w : World) (v : Value) (l : List Int) : Prop :=
  (l = [] ∧ ∃ a cap, v = .slice a 0 cap) ∨
  (∃ g off cap, g < w.heap.size ∧ v = .slice (some ⟨g, off, none⟩) l.length cap ∧ ∀ j, j < l.length → w.cell? ⟨g, off + j, none⟩ = some (.int .i64 (l.getD j 0)))
theorem NumsIs.kept {w w' : World} {v : Value} {l : List Int} (h : NumsIs w v l) (hb : Below w.heap.size w w') : NumsIs w' v l := by
  rcases h with h | ⟨g, off, cap, hg, hv, hc⟩
  · exact Or.inl h
  · exact Or.inr ⟨g, off, cap, by have := hb.size; omega, hv, fun j hj => by rw [hb.cell (p := ⟨g, off + j, none⟩) hg]; exact hc j hj⟩
theorem NumsIs.len {w : World} {v : Value} {l : List Int} (h : NumsIs w v l) : ∃ a cap, v = .slice a l.length cap := by
  rcases h with ⟨rfl, a, cap, hv⟩ | ⟨g, off, cap, hg, hv, hc⟩
  · exact ⟨a, cap, hv⟩
  · exact ⟨_, cap, hv⟩
theorem NumsIs.at {w : World} {a : Option Addr} {n cap : Nat} {l : List Int} (h : NumsIs w (.slice a n cap) l) {j : Nat} (hj : j < l.length) : ∃ g off, a = some ⟨g, off, none⟩ ∧ g < w.heap.size ∧ w.cell? ⟨g, off + j, none⟩ = some (.int .i64 (l.getD j 0)) := by
  rcases h with ⟨rfl, _⟩ | ⟨g, off, cap', hg, hv, hc⟩
  · exact absurd hj (by simp)
  · injection hv with h1 h2 h3
    exact ⟨g, off, h1, hg, hc j hj⟩

/-- The marks behind these numbers. -/
def markF (count : Nat) (M : List Bool) (x : Int) : List Bool := if 0 ≤ x ∧ x < (count : Int) then M.set x.toNat true else M
def marks (count : Nat) (l : List Int) : List Bool := l.foldl (markF count) (List.replicate count false)
theorem marks_snoc (count : Nat) (l : List Int) (x : Int) : marks count (l ++ [x]) = if 0 ≤ x ∧ x < (count : Int) then (marks count l).set x.toNat true else marks count l := by
  unfold marks
  rw [List.foldl_append]
  rfl
theorem markF_len (count : Nat) (M : List Bool) (x : Int) : (markF count M x).length = M.length := by
  unfold markF
  split
  · rw [List.length_set]
  · rfl
theorem marksF_len (count : Nat) : ∀ (l : List Int) (M : List Bool), (l.foldl (markF count) M).length = M.length
  | [], M => rfl
  | x :: l, M => (marksF_len count l (markF count M x)).trans (markF_len count M x)
theorem marks_len (count : Nat) (l : List Int) : (marks count l).length = count := by
  unfold marks
  rw [marksF_len, List.length_replicate]
theorem marksF_get (count i : Nat) (hi : i < count) : ∀ (l : List Int) (M : List Bool) (u : Bool), M.length = count → M[i]? = some u → (l.foldl (markF count) M)[i]? = some (u || decide ((i : Int) ∈ l))
  | [], M, u, _, hu => by simpa using hu
  | x :: l, M, u, hM, hu => by
    have hF := markF_len count M x
    show (l.foldl (markF count) (markF count M x))[i]? = _
    by_cases h : 0 ≤ x ∧ x < (count : Int)
    · by_cases e : x.toNat = i
      · have he : (i : Int) = x := by omega
        rw [marksF_get count i hi l _ true (hF.trans hM) (by unfold markF; rw [if_pos h, e, List.getElem?_set_self (by omega)])]
        simp [he]
      · have he : ¬ ((i : Int) = x) := by omega
        rw [marksF_get count i hi l _ u (hF.trans hM) (by unfold markF; rw [if_pos h, List.getElem?_set_ne e]; exact hu)]
        simp [he]
    · have he : ¬ ((i : Int) = x) := by omega
      rw [marksF_get count i hi l _ u (hF.trans hM) (by unfold markF; rw [if_neg h]; exact hu)]
      simp [he]
theorem marks_get (count : Nat) (l : List Int) (i : Nat) (hi : i < count) : (marks count l)[i]? = some (decide ((i : Int) ∈ l)) := by
  have := marksF_get count i hi l (List.replicate count false) false (by simp) (by simp [hi])
  simpa [marks] using this
def boolRow (M : List Bool) : Array Value := (M.map Value.bool).toArray
theorem boolRow_set (M : List Bool) (i : Nat) (x : Bool) : (boolRow M).setIfInBounds i (.bool x) = boolRow (M.set i x) := by
  unfold boolRow
  apply Array.ext'
  rw [Array.toList_setIfInBounds, List.toList_toArray, List.toList_toArray, List.map_set]
theorem boolRow_get {M : List Bool} {i : Nat} {x : Bool} (h : M[i]? = some x) : (boolRow M)[i]? = some (.bool x) := by
  unfold boolRow
  rw [List.getElem?_toArray, List.getElem?_map, h]
  rfl
theorem Try.infoBoolZ : (Try.prog.info? 4).map (fun i => (i.zero, i.size, i.bytes)) = some (some (.bool false), 1, 1) := by kernel_rfl
end Go.Proofs.Ytmplekjiciedgaa

namespace Go.Proofs.Ytmplekjiciedgaa
open Go.RowKit Go.Sort
set_option linter.unusedVariables false

/-! Lists of structs in memory that nobody writes. -/
def LstIs {α : Type} (f : α → List Value) (c : Nat) (w : World) (v : Value) (l : List α) : Prop :=
  (l = [] ∧ ∃ a cap, v = .slice a 0 cap) ∨
  (∃ g off cap, g < w.heap.size ∧ v = .slice (some ⟨g, off, none⟩) l.length cap ∧ ∀ j x, l[j]? = some x → w.rangeAt g (off + j * c) (f x))
theorem rangeAt_below {w w' : World} {g p : Nat} {cs : List Value} (h : w.rangeAt g p cs) (hg : g < w.heap.size) (hb : Below w.heap.size w w') : w'.rangeAt g p cs := fun j v hj => by
  rw [hb.cell (p := ⟨g, p + j, none⟩) hg]
  exact h j v hj
theorem LstIs.kept {α : Type} {f : α → List Value} {c : Nat} {w w' : World} {v : Value} {l : List α} (h : LstIs f c w v l) (hb : Below w.heap.size w w') : LstIs f c w' v l := by
  rcases h with h | ⟨g, off, cap, hg, hv, hc⟩
  · exact Or.inl h
  · exact Or.inr ⟨g, off, cap, by have := hb.size; omega, hv, fun j x hj => rangeAt_below (hc j x hj) hg hb⟩
theorem LstIs.len {α : Type} {f : α → List Value} {c : Nat} {w : World} {v : Value} {l : List α} (h : LstIs f c w v l) : ∃ a cap, v = .slice a l.length cap := by
  rcases h with ⟨rfl, a, cap, hv⟩ | ⟨g, off, cap, hg, hv, hc⟩
  · exact ⟨a, cap, hv⟩
  · exact ⟨_, cap, hv⟩
theorem LstIs.at {α : Type} {f : α → List Value} {c : Nat} {w : World} {a : Option Addr} {n cap : Nat} {l : List α} (h : LstIs f c w (.slice a n cap) l) {j : Nat} {x : α} (hj : l[j]? = some x) : ∃ g off, a = some ⟨g, off, none⟩ ∧ g < w.heap.size ∧ w.rangeAt g (off + j * c) (f x) := by
  rcases h with ⟨rfl, _⟩ | ⟨g, off, cap', hg, hv, hc⟩
  · cases hj
  · injection hv with h1 h2 h3
    exact ⟨g, off, h1, hg, hc j x hj⟩
theorem LstIs.nil {α : Type} (f : α → List Value) (c : Nat) (w : World) : LstIs f c w (.slice none 0 0) [] := Or.inl ⟨rfl, _, _, rfl⟩
theorem LstIs.own {α : Type} {f : α → List Value} {c : Nat} {B : Nat} {T : TypeId} {w : World} {v : Value} {n : Nat} {l : List α} (hc : ∀ x ∈ l, (f x).length = c) (h : w.ownsRow B T c v n (l.flatMap f)) (hn : n = l.length) : LstIs f c w v l := by
  subst hn
  rcases h.2 with ⟨hv, h0⟩ | ⟨g, cap, cur, hv, hg, hb, h1, h2, h3, h4⟩
  · exact Or.inl ⟨List.eq_nil_of_length_eq_zero h0, none, 0, by rw [hv]⟩
  · refine Or.inr ⟨g, 0, cap, (h.lt g (by rw [hv]; rfl)).2, hv, fun j x hj => ?_⟩
    have hb' : w.heap[g]? = some (.cells (l.flatMap f ++ cur.toList.drop (l.length * c)).toArray T (0, 0)) := by
      rw [hb, ← h4, List.take_append_drop]
    rw [Nat.zero_add]
    exact range_of_flat f c hc hj hb'

/-! Entries, items. -/
structure Ent where
  name : ByteArray
  node : Int
  dir : Bool
  cookie : Int
  short : Int
deriving DecidableEq, Inhabited
structure Itm where
  inn : Int
  e : Ent
deriving DecidableEq, Inhabited
def entC (e : Ent) : List Value := [.string e.name, .int .i64 e.node, .bool e.dir, .int .i64 e.cookie, .int .i64 e.short]
def itmC (x : Itm) : List Value := .int .i64 x.inn :: entC x.e
abbrev EntsIs := @LstIs Ent entC 5
abbrev ItmsIs := @LstIs Itm itmC 6
theorem entC_len (l : List Ent) : ∀ x ∈ l, (entC x).length = 5 := fun _ _ => rfl
theorem itmC_len (l : List Itm) : ∀ x ∈ l, (itmC x).length = 6 := fun _ _ => rfl
theorem entC_one (e : Ent) : ∀ v ∈ entC e, v.oneCell' = true := fun v hv => by
  simp [entC] at hv
  rcases hv with rfl | rfl | rfl | rfl | rfl <;> rfl
theorem itmC_one (e : Itm) : ∀ v ∈ itmC e, v.oneCell' = true := fun v hv => by
  rcases List.mem_cons.1 hv with rfl | hv
  · rfl
  · exact entC_one _ v hv
def noEnt : Ent := ⟨⟨#[]⟩, 0, false, 0, 0⟩
def entV (e : Ent) : Value := .agg #[.string e.name, .int .i64 e.node, .bool e.dir, .int .i64 e.cookie, .int .i64 e.short]
def treeV (v : Value) (nx : Int) : Value := .agg #[v, .int .i64 nx]
theorem ent_at {w : World} {g p : Nat} {x : Ent} (h : w.rangeAt g p (entC x)) : w.cell? ⟨g, p, none⟩ = some (.string x.name) ∧ w.cell? ⟨g, p + 1, none⟩ = some (.int .i64 x.node) ∧ w.cell? ⟨g, p + 2, none⟩ = some (.bool x.dir) ∧ w.cell? ⟨g, p + 3, none⟩ = some (.int .i64 x.cookie) ∧ w.cell? ⟨g, p + 4, none⟩ = some (.int .i64 x.short) :=
  ⟨h 0 _ rfl, h 1 _ rfl, h 2 _ rfl, h 3 _ rfl, h 4 _ rfl⟩
theorem itm_at {w : World} {g p : Nat} {x : Itm} (h : w.rangeAt g p (itmC x)) : w.cell? ⟨g, p, none⟩ = some (.int .i64 x.inn) ∧ w.cell? ⟨g, p + 1, none⟩ = some (.string x.e.name) ∧ w.cell? ⟨g, p + 2, none⟩ = some (.int .i64 x.e.node) ∧ w.cell? ⟨g, p + 3, none⟩ = some (.bool x.e.dir) ∧ w.cell? ⟨g, p + 4, none⟩ = some (.int .i64 x.e.cookie) ∧ w.cell? ⟨g, p + 5, none⟩ = some (.int .i64 x.e.short) :=
  ⟨h 0 _ rfl, h 1 _ rfl, h 2 _ rfl, h 3 _ rfl, h 4 _ rfl, h 5 _ rfl⟩

/-! The reference's answers. -/
def nodeAt (l : List Itm) (n : Int) : Option Itm := l.find? fun x => decide (x.e.node = n)
def kindGo (l : List Itm) (n : Int) : Int := match nodeAt l n with
  | some x => if x.e.dir = true then 2 else 1
  | none => 0
def kindI (l : List Itm) (n : Int) : Int := if n = 0 then 2 else kindGo l n
def aboveI (l : List Itm) (n : Int) : Int := match nodeAt l n with
  | some x => x.inn
  | none => -1
def entsI (l : List Itm) (d : Int) : List Ent := (l.filter fun x => decide (x.inn = d)).map Itm.e
/-- An error's number: none such, a file, fine. -/
def listE (l : List Itm) (d : Int) : Int := if kindI l d = 0 then 5 else if kindI l d = 1 then 8 else 0
def listI (l : List Itm) (d : Int) : List Ent := if listE l d = 0 then entsI l d else []
def named (l : List Ent) (s : ByteArray) : Option Ent := l.find? fun x => decide (x.name = s)
def findI (l : List Itm) (d : Int) (s : ByteArray) : Ent × Int := match named (listI l d) s with
  | some x => (x, 0)
  | none => (noEnt, if listE l d = 0 then 5 else listE l d)
def dropI (l : List Itm) (d : Int) (s : ByteArray) : List Itm := l.filter fun x => !(decide (x.inn = d) && decide (x.e.name = s))
theorem nodeAt_cons (x : Itm) (l : List Itm) (n : Int) : nodeAt (x :: l) n = if x.e.node = n then some x else nodeAt l n := by
  unfold nodeAt
  rw [List.find?_cons]
  by_cases h : x.e.node = n <;> simp [h]
theorem kindGo_cons (x : Itm) (l : List Itm) (n : Int) : kindGo (x :: l) n = if x.e.node = n then (if x.e.dir = true then 2 else 1) else kindGo l n := by
  unfold kindGo
  rw [nodeAt_cons]
  by_cases h : x.e.node = n
  · rw [if_pos h, if_pos h]
  · rw [if_neg h, if_neg h]
theorem aboveI_cons (x : Itm) (l : List Itm) (n : Int) : aboveI (x :: l) n = if x.e.node = n then x.inn else aboveI l n := by
  unfold aboveI
  rw [nodeAt_cons]
  by_cases h : x.e.node = n
  · rw [if_pos h, if_pos h]
  · rw [if_neg h, if_neg h]
theorem kindGo_cases (l : List Itm) (n : Int) : kindGo l n = 0 ∨ kindGo l n = 1 ∨ kindGo l n = 2 := by
  unfold kindGo
  split
  · split
    · exact Or.inr (Or.inr rfl)
    · exact Or.inr (Or.inl rfl)
  · exact Or.inl rfl
theorem kindI_cases (l : List Itm) (n : Int) : kindI l n = 0 ∨ kindI l n = 1 ∨ kindI l n = 2 := by
  unfold kindI
  split
  · exact Or.inr (Or.inr rfl)
  · exact kindGo_cases l n
theorem drop_eq_cons {α : Type} {l : List α} {i : Nat} {x : α} (h : l[i]? = some x) : l.drop i = x :: l.drop (i + 1) := by
  obtain ⟨hlt, he⟩ := List.getElem?_eq_some_iff.1 h
  rw [List.drop_eq_getElem_cons hlt, he]
end Go.Proofs.Ytmplekjiciedgaa

namespace Go.Proofs.Ytmplekjiciedgaa
open Go.RowKit Go.Sort
set_option linter.unusedVariables false

end Go.Proofs.Ytmplekjiciedgaa

namespace Go.Proofs.Ytmplekjiciedgaa
open Go.RowKit Go.Sort
set_option linter.unusedVariables false

theorem Try.infoEnt10 : (Try.prog.info? 46).map (fun i => (i.zero, i.size, i.bytes)) = some (some (.agg #[.string ⟨#[]⟩, .int .i64 0, .bool false, .int .i64 0, .int .i64 0]), 5, 48) := by kernel_rfl
theorem entsI_snoc {l : List Itm} {i : Nat} {x : Itm} (h : l[i]? = some x) (d : Int) : entsI (l.take (i + 1)) d = entsI (l.take i) d ++ (if x.inn = d then [x.e] else []) := by
  rw [take_snoc h]
  unfold entsI
  rw [List.filter_append, List.map_append]
  congr 1
  by_cases hd : x.inn = d <;> simp [hd]
theorem entsI_le (l : List Itm) (d : Int) : (entsI l d).length ≤ l.length := by
  unfold entsI
  rw [List.length_map]
  exact List.length_filter_le _ _
theorem listI_le (l : List Itm) (d : Int) : (listI l d).length ≤ l.length := by
  unfold listI
  split
  · exact entsI_le l d
  · exact Nat.zero_le _
theorem listE_cases (l : List Itm) (d : Int) : listE l d = 0 ∨ listE l d = 5 ∨ listE l d = 8 := by
  unfold listE
  split
  · exact Or.inr (Or.inl rfl)
  · split
    · exact Or.inr (Or.inr rfl)
    · exact Or.inl rfl
def ListPost (l : List Itm) (d : Int) (w0 : World) (e : Ending) (w' : World) : Prop :=
  ∃ v', e = .returned (.tuple #[v', .int .i64 (listE l d)]) ∧ EntsIs w' v' (listI l d) ∧ Below w0.heap.size w0 w'
def FindPost (l : List Itm) (d : Int) (s : ByteArray) (w0 : World) (e : Ending) (w' : World) : Prop :=
  e =   .returned (.tuple #[entV (findI l d s).1, .int .i64 (findI l d s).2]) ∧ Below w0.heap.size w0 w'
theorem text_ne {a b : ByteArray} (h : a ≠ b) : (a.toList == b.toList) = false := by
  rw [beq_eq_false_iff_ne, ByteArray.toList_eq, ByteArray.toList_eq]
  exact fun e => h (ByteArray.ext (Array.toList_inj.1 e))
theorem named_cons (x : Ent) (l : List Ent) (s : ByteArray) : named (x :: l) s = if x.name = s then some x else named l s := by
  unfold named
  rw [List.find?_cons]
  by_cases h : x.name = s <;> simp [h]
/-- A block of five cells that may be written. -/
theorem five_cells {W : World} {b : Nat} {v0 v1 v2 v3 v4 : Value} {T : TypeId} (h : W.heap[b]? = some (.cells #[v0, v1, v2, v3, v4] T (0, 0))) :
    (W.cell? ⟨b, 0, none⟩ = some v0 ∧ W.cell? ⟨b, 1, none⟩ = some v1 ∧ W.cell? ⟨b, 2, none⟩ = some v2 ∧ W.cell? ⟨b, 3, none⟩ = some v3 ∧ W.cell? ⟨b, 4, none⟩ = some v4) ∧
    (W.frozen? ⟨b, 0, none⟩ = false ∧ W.frozen? ⟨b, 1, none⟩ = false ∧ W.frozen? ⟨b, 2, none⟩ = false ∧ W.frozen? ⟨b, 3, none⟩ = false ∧ W.frozen? ⟨b, 4, none⟩ = false) :=
  ⟨⟨by rw [cell_of_row _ _ _ _ _ _ h]; rfl, by rw [cell_of_row _ _ _ _ _ _ h]; rfl, by rw [cell_of_row _ _ _ _ _ _ h]; rfl, by rw [cell_of_row _ _ _ _ _ _ h]; rfl, by rw [cell_of_row _ _ _ _ _ _ h]; rfl⟩,
   ⟨frozen_of_row _ _ _ _ _ h, frozen_of_row _ _ _ _ _ h, frozen_of_row _ _ _ _ _ h, frozen_of_row _ _ _ _ _ h, frozen_of_row _ _ _ _ _ h⟩⟩
def zEnt : Obj := .cells #[.string ⟨#[]⟩, .int .i64 0, .bool false, .int .i64 0, .int .i64 0] 46
end Go.Proofs.Ytmplekjiciedgaa

namespace Go.Proofs.Ytmplekjiciedgaa
open Go.RowKit
set_option linter.unusedVariables false

/-- A good name on a disk. -/
def goodB (b : ByteArray) : Bool := (List.range b.size).all (fun k => decide (Go.PlainAid.bt b k ≠ 0 ∧ Go.PlainAid.bt b k ≠ 47)) && (decide (b.toList ≠ []) && (decide (b.size ≤ 255) && (decide (b.toList ≠ [46]) && decide (b.toList ≠ [46, 46]))))
end Go.Proofs.Ytmplekjiciedgaa

namespace Go.Proofs.Ytmplekjiciedgaa
open Go.RowKit Go.Sort
set_option linter.unusedVariables false

section
variable {α : Type} {f : α → List Value} {c : Nat} {P : Program}
/-- What the type of the elements is. -/
structure ElemOf (P : Program) (T e : TypeId) (c : Nat) : Prop where
  under : P.underlying T = some (.slice e)
  info : ∃ i z bytes, P.info? e = some i ∧ i.zero = some z ∧ i.size = c ∧ i.bytes = bytes ∧ z.cells.size = c ∧ bytes ≤ 200
  pos : 0 < c
theorem run_append_lst {T e ty : TypeId} (E : ElemOf P T e c) (B : Nat) {w : World} {v : Value} {n : Nat} {xs : List Value} (hown : w.ownsRow B e c v n xs) (vx : Value) (l : List α) (hf : ∀ x ∈ l, (f x).length = c) (h1 : ∀ x ∈ l, ∀ u ∈ f x, u.oneCell' = true) (hxs : LstIs f c w vx l) (hl : n + l.length ≤ 100000) (hB : B ≤ w.heap.size) :
    ∃ v' w', (Builtin.append_ #[T, T] ty #[v, vx]).run P w = .ok v' w' ∧ w'.ownsRow B e c v' (n + l.length) (xs ++ l.flatMap f) ∧ w.grownBy w' v.ownBlock ∧ (v'.ownBlock = v.ownBlock ∨ v'.ownBlock = some w.heap.size) := by
  obtain ⟨i0, z, bytes, hi0, hz0, hz1, hz2, hz3, hby⟩ := E.info
  have hform : ∃ a k cp, v = .slice a k cp ∧ k ≤ cp := by
    rcases hown.2 with ⟨hv, _⟩ | ⟨g, cap, cur, hv, _, _, h2, _⟩
    · exact ⟨_, _, _, hv, Nat.le_refl _⟩
    · exact ⟨_, _, _, hv, h2⟩
  have full : ∀ (g off cap : Nat), (∀ j x, l[j]? = some x → w.rangeAt g (off + j * c) (f x)) → ∃ v' w', (Builtin.append_ #[T, T] ty #[v, .slice (some ⟨g, off, none⟩) l.length cap]).run P w = .ok v' w' ∧ w'.ownsRow B e c v' (n + l.length) (xs ++ l.flatMap f) ∧ w.grownBy w' v.ownBlock ∧ (v'.ownBlock = v.ownBlock ∨ v'.ownBlock = some w.heap.size) := fun g off cap hc => by
    have hfl := flat_len f c l hf
    obtain ⟨v', w', hr, h2, h3, _, h5⟩ := run_append_own_at (P := P) (w := w) B T ty e i0 z c bytes E.under hi0 hz0 hz1 hz2 hz3 E.pos v n xs hown ⟨g, off, none⟩ l.length cap (l.flatMap f) hfl
      (by
        intro j u hj
        have hlt : j < (l.flatMap f).length := (List.getElem?_eq_some_iff.1 hj).1
        rw [hfl] at hlt
        have hq : j / c < l.length := Nat.div_lt_of_lt_mul (by rw [Nat.mul_comm]; exact hlt)
        obtain ⟨x, hx⟩ : ∃ x, l[j / c]? = some x := ⟨_, List.getElem?_eq_getElem hq⟩
        have hpart := flat_part f c l (j / c) x hf hx
        have hm : j % c < c := Nat.mod_lt _ E.pos
        have hje : j / c * c + j % c = j := by rw [Nat.mul_comm]; exact Nat.div_add_mod j c
        have hxj : (f x)[j % c]? = some u := by
          rw [← hpart, List.getElem?_take, if_pos hm, List.getElem?_drop, hje]
          exact hj
        have := hc (j / c) x hx (j % c) u hxj
        rw [Addr.add_mid, ← this, Nat.add_assoc, hje])
      (by
        intro u hu
        obtain ⟨x, hx, hu⟩ := List.mem_flatMap.1 hu
        exact h1 x hx u hu)
      (by unfold maxLen; omega)
      (by
        have : (n + l.length) * bytes ≤ 100000 * 200 := Nat.mul_le_mul hl hby
        omega) hB
    exact ⟨v', w', hr, h2, h3, h5⟩
  rcases hxs with ⟨rfl, a, cap, rfl⟩ | ⟨g, off, cap, hg, rfl, hc⟩
  · cases a with
    | none =>
      obtain ⟨av, kv, cv, rfl, hkc⟩ := hform
      have hr := run_append_nothing (P := P) w T T ty e i0 E.under hi0 av kv cv hkc (.slice none 0 cap) (Src.ofNil w E.under cap)
      refine ⟨_, w, hr, ?_, ⟨rfl, rfl, rfl, Nat.le_refl _, fun _ _ _ => rfl⟩, Or.inl rfl⟩
      simpa using hown
    | some a =>
      obtain ⟨av, kv, cv, rfl, hkc⟩ := hform
      have hr := run_append_nothing (P := P) w T T ty e i0 E.under hi0 av kv cv hkc (.slice (some a) 0 cap) (Src.ofSlice w E.under a 0 cap [] (by simp) (fun j u hj => by cases hj) (fun u hu => by cases hu))
      refine ⟨_, w, hr, ?_, ⟨rfl, rfl, rfl, Nat.le_refl _, fun _ _ _ => rfl⟩, Or.inl rfl⟩
      simpa using hown
  · exact full g off cap hc
theorem step_append_lst {T e : TypeId} (E : ElemOf P T e c) {ops : Array Oper} {o : Oper} {a : Act} {w : World} {K : Act → World → Prop} {Q : Exit → Act → World → Prop} {F : Prop} (hgd : o.guard = none) (s x : Operand) (ho : o.op = .call { callee := .builtin .append, args := #[s, x], argTypes := #[T, T] })
    (B : Nat) (v : Value) (n : Nat) (xs : List Value) (hs : a.eval s = v) (hown : w.ownsRow B e c v n xs) (vx : Value) (l : List α) (hf : ∀ x ∈ l, (f x).length = c) (h1 : ∀ x ∈ l, ∀ u ∈ f x, u.oneCell' = true) (hx : a.eval x = vx) (hxs : LstIs f c w vx l) (hl : n + l.length ≤ 100000) (hB : B ≤ w.heap.size)
    (h : ∀ v' w', w'.ownsRow B e c v' (n + l.length) (xs ++ l.flatMap f) → w.grownBy w' v.ownBlock → (v'.ownBlock = v.ownBlock ∨ v'.ownBlock = some w.heap.size) → K (a.put o.dst v') w') :
    if Region.wanted o (yielded ops a.tmps) = true then Oper.wp P o a w K Q else F := by
  have hw : Region.wanted o (yielded ops a.tmps) = true := by simp [Region.wanted, hgd]
  rw [if_pos hw]
  obtain ⟨v', w', hr, h2, h3, h4⟩ := run_append_lst (ty := o.type) E B hown vx l hf h1 hxs hl hB
  unfold Oper.wp execOp
  simp only [ho, resolve, invoke, builtin, Sem.run_bind, Sem.run_pure, Result.andThen_ok, List.map_toArray, List.map_cons, List.map_nil, hs, hx, hr]
  exact h v' w' h2 h3 h4
theorem wpList_append_lst {T e : TypeId} (E : ElemOf P T e c) {ops : Array Oper} {rest : List Oper} {o : Oper} {a : Act} {w : World} {Q : Exit → Act → World → Prop} (hgd : o.guard = none) (s x : Operand) (ho : o.op = .call { callee := .builtin .append, args := #[s, x], argTypes := #[T, T] })
    (B : Nat) (v : Value) (n : Nat) (xs : List Value) (hs : a.eval s = v) (hown : w.ownsRow B e c v n xs) (vx : Value) (l : List α) (hf : ∀ x ∈ l, (f x).length = c) (h1 : ∀ x ∈ l, ∀ u ∈ f x, u.oneCell' = true) (hx : a.eval x = vx) (hxs : LstIs f c w vx l) (hl : n + l.length ≤ 100000) (hB : B ≤ w.heap.size)
    (h : ∀ v' w', w'.ownsRow B e c v' (n + l.length) (xs ++ l.flatMap f) → w.grownBy w' v.ownBlock → (v'.ownBlock = v.ownBlock ∨ v'.ownBlock = some w.heap.size) → wpList P ops Q rest (a.put o.dst v') w') : wpList P ops Q (o :: rest) a w :=
  wpList_plain hgd fun _ hK => by
    obtain ⟨v', w', hr, h2, h3, h4⟩ := run_append_lst (ty := o.type) E B hown vx l hf h1 hxs hl hB
    unfold Oper.wp execOp
    simp only [ho, resolve, invoke, builtin, Sem.run_bind, Sem.run_pure, Result.andThen_ok, List.map_toArray, List.map_cons, List.map_nil, hs, hx, hr]
    exact hK _ _ (h v' w' h2 h3 h4)
/-- A block of just these. -/
theorem LstIs.block {w : World} {g : Nat} {T : TypeId} {fr : Nat × Nat} {l : List α} (hf : ∀ x ∈ l, (f x).length = c) (h : w.heap[g]? = some (.cells (l.flatMap f).toArray T fr)) : LstIs f c w (.slice (some ⟨g, 0, none⟩) l.length l.length) l := by
  refine Or.inr ⟨g, 0, l.length, lt_of_get h, rfl, fun j x hj => ?_⟩
  rw [Nat.zero_add]
  exact range_of_flat f c (R := []) hf hj (by rw [List.append_nil]; exact h)
theorem own_new {B g : Nat} {T : TypeId} {W : World} (h : W.heap[g]? = some (.cells #[] T (0, 0))) (hB : B ≤ g) : W.ownsRow B T c (.slice (some ⟨g, 0, none⟩) 0 0) 0 [] :=
  ⟨by simp, Or.inr ⟨g, 0, #[], rfl, hB, h, Nat.le_refl _, Nat.zero_le _, by simp, by simp⟩⟩
end
/-- A list's own block alone is read. -/
theorem LstIs.only {α : Type} {f : α → List Value} {c : Nat} {w w' : World} {v : Value} {l : List α} (h : LstIs f c w v l) (hs : w.heap.size ≤ w'.heap.size) (hb : ∀ g, v.ownBlock = some g → w'.heap[g]? = w.heap[g]?) : LstIs f c w' v l := by
  rcases h with h | ⟨g, off, cap, hg, hv, hc⟩
  · exact Or.inl h
  · refine Or.inr ⟨g, off, cap, by omega, hv, fun j x hj k u hu => ?_⟩
    rw [World.cell?_of_block (w := w) (a := ⟨g, off + j * c + k, none⟩) (hb g (by rw [hv]; rfl))]
    exact hc j x hj k u hu
theorem entElem : ElemOf Try.prog 32 46 5 :=
  ⟨Try.underlying32, by
    have h : (Try.prog.info? 46).map (fun i => (i.zero, i.size, i.bytes)) = some (some (.agg #[.string ⟨#[]⟩, .int .i64 0, .bool false, .int .i64 0, .int .i64 0]), 5, 48) := by kernel_rfl
    obtain ⟨i0, h1, h2, h3, h4⟩ := info_parts h
    exact ⟨i0, _, 48, h1, h2, h3, h4, rfl, by decide⟩, by decide⟩
end Go.Proofs.Ytmplekjiciedgaa
