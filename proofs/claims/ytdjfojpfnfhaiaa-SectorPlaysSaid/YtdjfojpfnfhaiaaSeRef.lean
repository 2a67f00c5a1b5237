/-
  The reference's device (stage 6): what its memory holds.
-/
import Derived.Test.YtdjfojpfnfhaiaaSeGood
import Derived.BigQuiet
import Derived.BigRegion
import Derived.OwnWalk
import Derived.Maps.AppendAt
import Derived.Laws.AppendOwnNone
namespace Go.Proofs.Ytdjfojpfnfhaiaa
open Go.RowKit Go.Sort
set_option linter.unusedVariables false

theorem Try.infoStrZ : (Try.prog.info? 9).map (fun i => (i.zero, i.size, i.bytes)) = some (some (.string ⟨#[]⟩), 1, 16) := by kernel_rfl
theorem Try.infoIntZ : (Try.prog.info? 3).map (fun i => (i.zero, i.size, i.bytes)) = some (some (.int .i64 0), 1, 8) := by kernel_rfl
section
variable {w w' : World} {B : Nat} {T : TypeId} {v : Value} {n : Nat} {xs : List Value}
theorem own_set {g cap i : Nat} (x : Value) (h : w.ownsRow B T 1 (.slice (some ⟨g, 0, none⟩) n cap) n xs) : (w.setCell ⟨g, i, none⟩ x).ownsRow B T 1 (.slice (some ⟨g, 0, none⟩) n cap) n (xs.set i x) := by
  refine ⟨by rw [List.length_set]; exact h.1, ?_⟩
  rcases h.2 with ⟨hv, _⟩ | ⟨g', cap', cur, hv, hg, hb, hn, hm, hs, ht⟩
  · cases hv
  · cases hv
    refine Or.inr ⟨g, cap, cur.setIfInBounds i x, rfl, hg, heap_setCell_same w g i cur T x hb, hn, hm, by simpa using hs, ?_⟩
    rw [Array.toList_setIfInBounds, List.take_set, ht]
theorem own_cell {g cap j : Nat} (h : w.ownsRow B T 1 (.slice (some ⟨g, 0, none⟩) n cap) n xs) (hj : j < n) : w.cell? ⟨g, j, none⟩ = xs[j]? ∧ w.frozen? ⟨g, j, none⟩ = false := by
  rcases h.2 with ⟨hv, _⟩ | ⟨g', cap', cur, hv, hg, hb, hn, hm, hs, ht⟩
  · cases hv
  · cases hv
    refine ⟨?_, frozen_of_row w g j cur T hb⟩
    rw [cell_of_row w g j cur T (0, 0) hb, ← ht, Nat.mul_one, List.getElem?_take, if_pos hj, Array.getElem?_toList]
theorem own_other {g i : Nat} {x : Value} (h : w.ownsRow B T 1 v n xs) (hne : v.ownBlock ≠ some g) : (w.setCell ⟨g, i, none⟩ x).ownsRow B T 1 v n xs := by
  refine ⟨h.1, ?_⟩
  rcases h.2 with hn | ⟨g', cap', cur, hv, hg, hb, r⟩
  · exact Or.inl hn
  · refine Or.inr ⟨g', cap', cur, hv, hg, ?_, r⟩
    rw [heap_setCell_other w ⟨g, i, none⟩ g' x (fun e => hne (by rw [hv]; exact congrArg some e))]
    exact hb
theorem own_grown {row : Option Nat} (h : w.ownsRow B T 1 v n xs) (hg : w.grownBy w' row) (hne : ∀ k, v.ownBlock = some k → row ≠ some k) : w'.ownsRow B T 1 v n xs := by
  refine ⟨h.1, ?_⟩
  rcases h.2 with hn | ⟨g', cap', cur, hv, hg', hb, r⟩
  · exact Or.inl hn
  · refine Or.inr ⟨g', cap', cur, hv, hg', ?_, r⟩
    rw [hg.block g' (lt_of_get hb) (fun e => hne g' (by rw [hv]; rfl) e.symm)]
    exact hb
theorem own_base {B' : Nat} (h : w.ownsRow B T 1 v n xs) (hB : B' ≤ B) : w.ownsRow B' T 1 v n xs := by
  refine ⟨h.1, ?_⟩
  rcases h.2 with hn | ⟨g', cap', cur, hv, hg', r⟩
  · exact Or.inl hn
  · exact Or.inr ⟨g', cap', cur, hv, Nat.le_trans hB hg', r⟩
theorem own_form (h : w.ownsRow B T 1 v n xs) : ∃ a cap, v = .slice a n cap ∧ (0 < n → ∃ g, a = some ⟨g, 0, none⟩) := by
  rcases h.2 with ⟨hv, h0⟩ | ⟨g', cap', cur, hv, _⟩
  · exact ⟨none, 0, by rw [hv, h0], fun h => by omega⟩
  · exact ⟨_, cap', hv, fun _ => ⟨g', rfl⟩⟩
theorem own_lt (h : w.ownsRow B T 1 v n xs) {k : Nat} (hk : v.ownBlock = some k) : k < w.heap.size := (h.lt k hk).2
end
/-- Writes left, as the reference counts them. -/
def leftI (st : St) : Int := if st.lim = true then st.left else -1
def strs (l : List ByteArray) : List Value := l.map Value.string
def ats (l : List (Nat × ByteArray)) : List Value := l.map fun p => Value.int .i64 p.1
def dats (l : List (Nat × ByteArray)) : List Value := l.map fun p => Value.string p.2
structure RefL (B : Nat) (w : World) (r : Nat) (vs ve va vd : Value) (S E : List ByteArray) (A D : List Value) (L : Int) : Prop where
  hB : B ≤ r
  hd : w.heap[r]? = some (.cells #[vs, ve, va, vd, .int .i64 L] 44 (0, 0))
  sf : w.ownsRow B 9 1 vs S.length (strs S)
  sn : w.ownsRow B 9 1 ve E.length (strs E)
  ta : w.ownsRow B 3 1 va A.length A
  td : w.ownsRow B 9 1 vd D.length D
  d1 : ∀ k, vs.ownBlock = some k → ve.ownBlock ≠ some k
  d2 : ∀ k, vs.ownBlock = some k → vd.ownBlock ≠ some k
  d3 : ∀ k, ve.ownBlock = some k → vd.ownBlock ≠ some k
  nnil : ∃ g cap, ve = .slice (some ⟨g, 0, none⟩) E.length cap
def Ref (B : Nat) (w : World) (r : Nat) (st : St) : Prop := ∃ vs ve va vd, RefL B w r vs ve va vd st.safe st.now (ats st.pend) (dats st.pend) (leftI st)
abbrev refTs : List TypeId := [44, 9, 3]
section
variable {B : Nat} {w w' : World} {r : Nat} {vs ve va vd : Value} {S E : List ByteArray} {A D : List Value} {L : Int}
theorem RefL.off (h : RefL B w r vs ve va vd S E A D L) {ex : List TypeId} (ho : Off ex w w') (h1 : 44 ∉ ex) (h2 : 9 ∉ ex) (h3 : 3 ∉ ex) : RefL B w' r vs ve va vd S E A D L :=
  ⟨h.hB, ho _ h1 _ _ _ h.hd, own_off h.sf h2 ho, own_off h.sn h2 ho, own_off h.ta h3 ho, own_off h.td h2 ho, h.d1, h.d2, h.d3, h.nnil⟩
theorem RefL.alloc (h : RefL B w r vs ve va vd S E A D L) (o : Obj) : RefL B (w.alloc o) r vs ve va vd S E A D L := h.off (ex := []) ((Off.refl _ w).alloc o) (by simp) (by simp) (by simp)
theorem RefL.drew (h : RefL B w r vs ve va vd S E A D L) : RefL B w.drew r vs ve va vd S E A D L := h.off (ex := []) ((Off.refl [] w).drew) (by simp) (by simp) (by simp)
theorem RefL.drewN (h : RefL B w r vs ve va vd S E A D L) (q : Nat) : RefL B (w.drewN q) r vs ve va vd S E A D L := h.off (ex := []) ((Off.refl [] w).drewN q) (by simp) (by simp) (by simp)
theorem RefL.cells (h : RefL B w r vs ve va vd S E A D L) : w.cell? ⟨r, 0, none⟩ = some vs ∧ w.cell? ⟨r, 1, none⟩ = some ve ∧ w.cell? ⟨r, 2, none⟩ = some va ∧ w.cell? ⟨r, 3, none⟩ = some vd ∧ w.cell? ⟨r, 4, none⟩ = some (.int .i64 L) := by
  refine ⟨?_, ?_, ?_, ?_, ?_⟩ <;> (rw [cell_of_row w r _ _ _ _ h.hd]; rfl)
theorem RefL.frozen (h : RefL B w r vs ve va vd S E A D L) (j : Nat) : w.frozen? ⟨r, j, none⟩ = false := frozen_of_row w r j _ _ h.hd
theorem RefL.ne (h : RefL B w r vs ve va vd S E A D L) : vs.ownBlock ≠ some r ∧ ve.ownBlock ≠ some r ∧ va.ownBlock ≠ some r ∧ vd.ownBlock ≠ some r :=
  ⟨own_ne h.sf h.hd (by decide), own_ne h.sn h.hd (by decide), own_ne h.ta h.hd (by decide), own_ne h.td h.hd (by decide)⟩
end
theorem Ref.off {B : Nat} {w w' : World} {r : Nat} {st : St} (h : Ref B w r st) {ex : List TypeId} (ho : Off ex w w') (h1 : 44 ∉ ex) (h2 : 9 ∉ ex) (h3 : 3 ∉ ex) : Ref B w' r st := by
  obtain ⟨vs, ve, va, vd, h⟩ := h
  exact ⟨vs, ve, va, vd, h.off ho h1 h2 h3⟩
theorem Ref.below {B : Nat} {w w' : World} {r : Nat} {st : St} (h : Ref B w r st) (hb : Below w.heap.size w w') : Ref B w' r st := h.off (Off.ofBelow hb []) (by simp) (by simp) (by simp)
theorem own_types {w : World} {B B' : Nat} {T U : TypeId} {v u : Value} {n m : Nat} {xs ys : List Value} (h : w.ownsRow B T 1 v n xs) (h' : w.ownsRow B' U 1 u m ys) (hn : T ≠ U) : ∀ k, v.ownBlock = some k → u.ownBlock ≠ some k := fun k hk => by
  rcases h.2 with ⟨hv, _⟩ | ⟨g, cap, cur, hv, _, hb, _⟩
  · rw [hv] at hk; cases hk
  · rw [hv] at hk
    have hg : g = k := by simpa [Value.ownBlock] using hk
    subst hg
    exact own_ne h' hb hn
section
variable {B : Nat} {w w' : World} {r : Nat} {vs ve va vd : Value} {S E : List ByteArray} {A D : List Value} {L : Int}
/-- How many writes are left, written anew. -/
theorem RefL.left (h : RefL B w r vs ve va vd S E A D L) (x : Int) : RefL B (w.setCell ⟨r, 4, none⟩ (.int .i64 x)) r vs ve va vd S E A D x := by
  obtain ⟨n1, n2, n3, n4⟩ := h.ne
  refine ⟨h.hB, ?_, own_other h.sf n1, own_other h.sn n2, own_other h.ta n3, own_other h.td n4, h.d1, h.d2, h.d3, h.nnil⟩
  rw [heap_setCell_same w r 4 _ _ _ h.hd]; rfl
theorem strs_set (l : List ByteArray) (k : Nat) (s : ByteArray) : (strs l).set k (.string s) = strs (l.set k s) := by unfold strs; rw [List.map_set]
/-- A sector that is read, written anew. -/
theorem RefL.seen (h : RefL B w r vs ve va vd S E A D L) {g cap : Nat} (hv : ve = .slice (some ⟨g, 0, none⟩) E.length cap) (k : Nat) (s : ByteArray) : RefL B (w.setCell ⟨g, k, none⟩ (.string s)) r vs ve va vd S (E.set k s) A D L := by
  subst hv
  have hg : (Value.slice (some ⟨g, 0, none⟩) E.length cap).ownBlock = some g := rfl
  have hr : r ≠ g := fun e => h.ne.2.1 (by rw [e]; rfl)
  refine ⟨h.hB, ?_, own_other h.sf (fun e => h.d1 g e hg), ?_, own_other h.ta (fun e => own_types h.sn h.ta (by decide) g hg e), own_other h.td (h.d3 g hg), h.d1, h.d2, h.d3, ?_⟩
  · rw [heap_setCell_other w ⟨g, k, none⟩ r _ hr]; exact h.hd
  · rw [List.length_set, ← strs_set]; exact own_set _ h.sn
  · rw [List.length_set]; exact h.nnil
theorem RefL.safe (h : RefL B w r vs ve va vd S E A D L) {g cap : Nat} (hv : vs = .slice (some ⟨g, 0, none⟩) S.length cap) (k : Nat) (s : ByteArray) : RefL B (w.setCell ⟨g, k, none⟩ (.string s)) r vs ve va vd (S.set k s) E A D L := by
  subst hv
  have hg : (Value.slice (some ⟨g, 0, none⟩) S.length cap).ownBlock = some g := rfl
  have hr : r ≠ g := fun e => h.ne.1 (by rw [e]; rfl)
  refine ⟨h.hB, ?_, ?_, own_other h.sn (h.d1 g hg), own_other h.ta (fun e => own_types h.sf h.ta (by decide) g hg e), own_other h.td (h.d2 g hg), h.d1, h.d2, h.d3, h.nnil⟩
  · rw [heap_setCell_other w ⟨g, k, none⟩ r _ hr]; exact h.hd
  · rw [List.length_set, ← strs_set]; exact own_set _ h.sf
/-- A list of the device's own given anew: behind an append (of old memory its own row alone was written), the field is set. -/
theorem RefL.newAt (h : RefL B w r vs ve va vd S E A D L) {g cap : Nat} {A' : List Value} (hg : w.grownBy w' va.ownBlock) (ho : w'.ownsRow B 3 1 (.slice (some ⟨g, 0, none⟩) A'.length cap) A'.length A') : RefL B (w'.setCell ⟨r, 2, none⟩ (.slice (some ⟨g, 0, none⟩) A'.length cap)) r vs ve (.slice (some ⟨g, 0, none⟩) A'.length cap) vd S E A' D L := by
  obtain ⟨n1, n2, n3, n4⟩ := h.ne
  have hr : w'.heap[r]? = w.heap[r]? := hg.block r (lt_of_get h.hd) (fun e => n3 e.symm)
  have hrn : (Value.slice (some ⟨g, 0, none⟩) A'.length cap).ownBlock ≠ some r := own_ne ho (hr.trans h.hd) (by decide)
  refine ⟨h.hB, ?_, own_other (own_grown h.sf hg (own_types h.sf h.ta (by decide))) n1, own_other (own_grown h.sn hg (own_types h.sn h.ta (by decide))) n2, own_other ho hrn, own_other (own_grown h.td hg (own_types h.td h.ta (by decide))) n4, h.d1, h.d2, h.d3, h.nnil⟩
  rw [heap_setCell_same w' r 2 _ _ _ (hr.trans h.hd)]; rfl
theorem RefL.newData (h : RefL B w r vs ve va vd S E A D L) {g cap : Nat} {D' : List Value} (hg : w.grownBy w' vd.ownBlock) (hat : vd.ownBlock = some g ∨ w.heap.size ≤ g) (ho : w'.ownsRow B 9 1 (.slice (some ⟨g, 0, none⟩) D'.length cap) D'.length D') : RefL B (w'.setCell ⟨r, 3, none⟩ (.slice (some ⟨g, 0, none⟩) D'.length cap)) r vs ve va (.slice (some ⟨g, 0, none⟩) D'.length cap) S E A D' L := by
  obtain ⟨n1, n2, n3, n4⟩ := h.ne
  have hr : w'.heap[r]? = w.heap[r]? := hg.block r (lt_of_get h.hd) (fun e => n4 e.symm)
  have hrn : (Value.slice (some ⟨g, 0, none⟩) D'.length cap).ownBlock ≠ some r := own_ne ho (hr.trans h.hd) (by decide)
  refine ⟨h.hB, ?_, own_other (own_grown h.sf hg h.d2) n1, own_other (own_grown h.sn hg h.d3) n2, own_other (own_grown h.ta hg (fun k hk e => own_types h.ta h.td (by decide) k hk e)) n3, own_other ho hrn, h.d1, ?_, ?_, h.nnil⟩
  · rw [heap_setCell_same w' r 3 _ _ _ (hr.trans h.hd)]; rfl
  · intro k hk e
    have e' : g = k := by simpa [Value.ownBlock] using e
    subst e'
    rcases hat with h1 | h1
    · exact h.d2 g hk h1
    · have := own_lt h.sf hk; omega
  · intro k hk e
    have e' : g = k := by simpa [Value.ownBlock] using e
    subst e'
    rcases hat with h1 | h1
    · exact h.d3 g hk h1
    · have := own_lt h.sn hk; omega
/-- Nothing is pending. -/
theorem RefL.noAt (h : RefL B w r vs ve va vd S E A D L) : RefL B (w.setCell ⟨r, 2, none⟩ (.slice none 0 0)) r vs ve (.slice none 0 0) vd S E [] D L := by
  obtain ⟨n1, n2, n3, n4⟩ := h.ne
  refine ⟨h.hB, ?_, own_other h.sf n1, own_other h.sn n2, ⟨rfl, Or.inl ⟨rfl, rfl⟩⟩, own_other h.td n4, h.d1, h.d2, h.d3, h.nnil⟩
  rw [heap_setCell_same w r 2 _ _ _ h.hd]; rfl
theorem RefL.noData (h : RefL B w r vs ve va vd S E A D L) : RefL B (w.setCell ⟨r, 3, none⟩ (.slice none 0 0)) r vs ve va (.slice none 0 0) S E A [] L := by
  obtain ⟨n1, n2, n3, n4⟩ := h.ne
  refine ⟨h.hB, ?_, own_other h.sf n1, own_other h.sn n2, own_other h.ta n3, ⟨rfl, Or.inl ⟨rfl, rfl⟩⟩, h.d1, (fun k hk e => by cases e), (fun k hk e => by cases e), h.nnil⟩
  rw [heap_setCell_same w r 3 _ _ _ h.hd]; rfl
/-- The safe ones (the ones that are read) copied into a new list. -/
theorem RefL.copySafe {w0 : World} (h0 : RefL B w0 r vs ve va vd S E A D L) (h : RefL B w r vs ve va vd S E A D L) {g cap q : Nat} (hq : w0.heap.size ≤ q) (hg : w.grownBy w' (some q)) (hat : w0.heap.size ≤ g) (ho : w'.ownsRow B 9 1 (.slice (some ⟨g, 0, none⟩) E.length cap) E.length (strs E)) : RefL B (w'.setCell ⟨r, 0, none⟩ (.slice (some ⟨g, 0, none⟩) E.length cap)) r (.slice (some ⟨g, 0, none⟩) E.length cap) ve va vd E E A D L := by
  obtain ⟨n1, n2, n3, n4⟩ := h.ne
  have hr : w'.heap[r]? = w.heap[r]? := hg.block r (lt_of_get h.hd) (fun e => by injection e with e; have := lt_of_get h0.hd; omega)
  have hk : ∀ (u : Value), (∀ k, u.ownBlock = some k → k < w0.heap.size) → ∀ k, u.ownBlock = some k → some q ≠ some k := fun u hu k hk e => by injection e with e; have := hu k hk; omega
  have hrn : (Value.slice (some ⟨g, 0, none⟩) E.length cap).ownBlock ≠ some r := own_ne ho (hr.trans h.hd) (by decide)
  refine ⟨h.hB, ?_, own_other ho hrn, own_other (own_grown h.sn hg (hk _ (fun k => own_lt h0.sn))) n2, own_other (own_grown h.ta hg (hk _ (fun k => own_lt h0.ta))) n3, own_other (own_grown h.td hg (hk _ (fun k => own_lt h0.td))) n4, ?_, ?_, h.d3, h.nnil⟩
  · rw [heap_setCell_same w' r 0 _ _ _ (hr.trans h.hd)]; rfl
  · intro k hk e
    have e' : g = k := by simpa [Value.ownBlock] using hk
    have := own_lt h0.sn e; omega
  · intro k hk e
    have e' : g = k := by simpa [Value.ownBlock] using hk
    have := own_lt h0.td e; omega
theorem RefL.copySeen {w0 : World} (h0 : RefL B w0 r vs ve va vd S E A D L) (h : RefL B w r vs ve va vd S E A D L) {g cap q : Nat} (hq : w0.heap.size ≤ q) (hg : w.grownBy w' (some q)) (hat : w0.heap.size ≤ g) (ho : w'.ownsRow B 9 1 (.slice (some ⟨g, 0, none⟩) S.length cap) S.length (strs S)) : RefL B (w'.setCell ⟨r, 1, none⟩ (.slice (some ⟨g, 0, none⟩) S.length cap)) r vs (.slice (some ⟨g, 0, none⟩) S.length cap) va vd S S A D L := by
  obtain ⟨n1, n2, n3, n4⟩ := h.ne
  have hr : w'.heap[r]? = w.heap[r]? := hg.block r (lt_of_get h.hd) (fun e => by injection e with e; have := lt_of_get h0.hd; omega)
  have hk : ∀ (u : Value), (∀ k, u.ownBlock = some k → k < w0.heap.size) → ∀ k, u.ownBlock = some k → some q ≠ some k := fun u hu k hk e => by injection e with e; have := hu k hk; omega
  have hrn : (Value.slice (some ⟨g, 0, none⟩) S.length cap).ownBlock ≠ some r := own_ne ho (hr.trans h.hd) (by decide)
  refine ⟨h.hB, ?_, own_other (own_grown h.sf hg (hk _ (fun k => own_lt h0.sf))) n1, own_other ho hrn, own_other (own_grown h.ta hg (hk _ (fun k => own_lt h0.ta))) n3, own_other (own_grown h.td hg (hk _ (fun k => own_lt h0.td))) n4, ?_, h.d2, ?_, ⟨g, cap, rfl⟩⟩
  · rw [heap_setCell_same w' r 1 _ _ _ (hr.trans h.hd)]; rfl
  · intro k hk e
    have e' : g = k := by simpa [Value.ownBlock] using e
    have := own_lt h0.sf hk; omega
  · intro k hk e
    have e' : g = k := by simpa [Value.ownBlock] using hk
    have := own_lt h0.td e; omega
end
theorem appendCopy {ops : Array Oper} {rest : List Oper} {o : Oper} {a : Act} {Q : Exit → Act → World → Prop} {w : World} (hgd : o.guard = none) (s x : Operand)
    (ho : o.op = .call { callee := .builtin .append, args := #[s, x], argTypes := #[42, 42] }) (q : Nat) (hs : a.eval s = .slice (some ⟨q, 0, none⟩) 0 0) (hq : w.heap[q]? = some (.cells #[] 9 (0, 0)))
    (B B' : Nat) (vx : Value) (n : Nat) (xs : List Value) (hx : a.eval x = vx) (hsrc : w.ownsRow B' 9 1 vx n xs) (hone : ∀ u ∈ xs, u.oneCell' = true) (hn : n ≤ 100000) (hB : B ≤ q)
    (h : ∀ g cap w', w'.ownsRow B 9 1 (.slice (some ⟨g, 0, none⟩) n cap) n xs → w.grownBy w' (some q) → (g = q ∨ g = w.heap.size) → wpList Try.prog ops Q rest (a.put o.dst (.slice (some ⟨g, 0, none⟩) n cap)) w') : wpList Try.prog ops Q (o :: rest) a w := by
  obtain ⟨i0, hi0, hz0, hz1, hz2⟩ := info_parts Try.infoStrZ
  have hown : w.ownsRow B 9 1 (.slice (some ⟨q, 0, none⟩) 0 0) 0 [] := ⟨rfl, Or.inr ⟨q, 0, #[], rfl, hB, hq, Nat.le_refl _, by unfold maxLen; omega, rfl, rfl⟩⟩
  have hqs := lt_of_get hq
  rcases hsrc.2 with ⟨hv, h0⟩ | ⟨gx, cx, cur, hv, hgx, hbx, hnx, hmx, hsx, htx⟩
  · subst h0
    have hxs : xs = [] := List.eq_nil_of_length_eq_zero (by have := hsrc.1; omega)
    subst hxs
    refine wpList_append_own_none hgd s x 42 ho B 9 i0 1 Try.underlying42 hi0 _ 0 [] hs hown (hx.trans hv) ?_
    exact h q 0 w hown ⟨rfl, rfl, rfl, Nat.le_refl _, fun _ _ _ => rfl⟩ (Or.inl rfl)
  · have hsrc' : w.ownsRow B' 9 1 (.slice (some ⟨gx, 0, none⟩) n cx) n xs := by rw [← hv]; exact hsrc
    refine wpList_append_own_at _ hgd s x 42 ho B 9 i0 (.string ⟨#[]⟩) 1 16 Try.underlying42 hi0 hz0 hz1 hz2 rfl (by decide) _ 0 [] hs hown ⟨gx, 0, none⟩ n cx xs (hx.trans hv) hsrc.1 ?_ hone (by unfold maxLen; omega) (by omega) (by omega) ?_
    · intro j u hj
      have hjn : j < n := by
        have := (List.getElem?_eq_some_iff.1 hj).1
        have := hsrc.1
        omega
      rw [Addr.add_mid, Nat.zero_add, (own_cell hsrc' hjn).1]
      exact hj
    · intro v' w' h1 h2 h3 h4
      rw [Nat.zero_add, List.nil_append] at h1
      rcases h1.2 with ⟨hv', _⟩ | ⟨g, cap, cur', hv', _⟩
      · have := (h3.1 hv').1
        cases this
      · subst hv'
        refine h g cap w' h1 h2 ?_
        rcases h4 with h4 | h4
        · left; simpa [Value.ownBlock] using h4
        · right; simpa [Value.ownBlock] using h4
theorem strs_one (l : List ByteArray) : ∀ u ∈ strs l, u.oneCell' = true := fun u hu => by
  obtain ⟨x, _, rfl⟩ := List.mem_map.1 hu
  rfl
end Go.Proofs.Ytdjfojpfnfhaiaa
