/-
  What a call on an object may touch: the blocks that the object stands in, and anew.
  A tree of the project in memory: its nodes' kinds and entries, its pool, the next cookie; what changes it.
-/
import Derived.Test.YtmplekjiciedgaaQ1
import Derived.Test.YtmplekjiciedgaaQA
namespace Go.Proofs.Ytmplekjiciedgaa
open Go.RowKit Go.Sort
set_option linter.unusedVariables false

/-- A call wrote what is in S, and anew: S' is what it has behind it. -/
structure Trod (w w' : World) (S S' : Nat → Prop) : Prop where
  os : w'.os = w.os
  tape : w'.tape = w.tape
  output : w'.output = w.output
  size : w.heap.size ≤ w'.heap.size
  rest : ∀ k, k < w.heap.size → ¬ S k → w'.heap[k]? = w.heap[k]?
  sub : ∀ k, S' k → S k ∨ w.heap.size ≤ k
theorem Trod.refl (w : World) (S : Nat → Prop) : Trod w w S S := ⟨rfl, rfl, rfl, Nat.le_refl _, fun _ _ _ => rfl, fun _ h => Or.inl h⟩
theorem Trod.of_below {w w' : World} {S : Nat → Prop} (h : Below w.heap.size w w') : Trod w w' S S := ⟨h.os, h.tape, h.output, h.size, fun k hk _ => h.block k hk, fun _ h => Or.inl h⟩
theorem Trod.trans {w w1 w2 : World} {S S1 S2 : Nat → Prop} (h : Trod w w1 S S1) (h' : Trod w1 w2 S1 S2) : Trod w w2 S S2 := by
  refine ⟨h'.os.trans h.os, h'.tape.trans h.tape, h'.output.trans h.output, Nat.le_trans h.size h'.size, fun k hk hs => ?_, fun k hk => ?_⟩
  · rw [h'.rest k (Nat.lt_of_lt_of_le hk h.size) (fun h1 => (h.sub k h1).elim hs (by omega))]
    exact h.rest k hk hs
  · rcases h'.sub k hk with h1 | h1
    · exact h.sub k h1
    · exact Or.inr (Nat.le_trans h.size h1)
/-- A tree that stands at B and above leaves what is below as it was. -/
theorem Trod.low {w w' : World} {S S' : Nat → Prop} {B : Nat} (h : Trod w w' S S') (hB : B ≤ w.heap.size) (hS : ∀ k, S k → B ≤ k) : Below B w w' ∧ ∀ k, S' k → B ≤ k :=
  ⟨⟨h.os, h.tape, h.output, h.size, fun k hk => h.rest k (by omega) (fun h1 => by have := hS k h1; omega)⟩, fun k hk => (h.sub k hk).elim (hS k) (fun h1 => by omega)⟩
/-- What stood apart from S is as it was, and stands apart from S'. -/
theorem LstIs.trod {α : Type} {f : α → List Value} {c : Nat} {w w' : World} {v : Value} {l : List α} {S S' : Nat → Prop} (h : LstIs f c w v l) (ht : Trod w w' S S') (hv : ∀ g, v.ownBlock = some g → g < w.heap.size ∧ ¬ S g) : LstIs f c w' v l ∧ ∀ g, v.ownBlock = some g → g < w'.heap.size ∧ ¬ S' g :=
  ⟨h.only ht.size fun g hg => ht.rest g (hv g hg).1 (hv g hg).2, fun g hg => ⟨Nat.lt_of_lt_of_le (hv g hg).1 ht.size, fun h1 => (ht.sub g h1).elim (hv g hg).2 (by have := (hv g hg).1; omega)⟩⟩
end Go.Proofs.Ytmplekjiciedgaa

namespace Go.Proofs.Ytmplekjiciedgaa
open Go.RowKit Go.Sort
set_option linter.unusedVariables false

/-- A tree's cells. -/
structure TreeO (cs : Array Value) (K : Nat → Int) (R : Nat → Value) (u : Nat) (v : Value) (c : Int) : Prop where
  size : cs.size = 406
  kind : ∀ n, n ≤ 200 → cs[n * 2]? = some (.int .i64 (K n))
  row : ∀ n, n ≤ 200 → cs[n * 2 + 1]? = some (R n)
  most : cs[402]? = some (.int .i64 ((200 : Nat) : Int))
  used : cs[403]? = some (.int .i64 (u : Int))
  wait : cs[404]? = some v
  cook : cs[405]? = some (.int .i64 c)
def upd {α : Type} (f : Nat → α) (k : Nat) (x : α) : Nat → α := fun n => if n = k then x else f n
theorem upd_same {α : Type} (f : Nat → α) (k : Nat) (x : α) : upd f k x k = x := if_pos rfl
theorem upd_ne {α : Type} (f : Nat → α) {k n : Nat} (x : α) (h : n ≠ k) : upd f k x n = f n := if_neg h
theorem upd_self {α : Type} (f : Nat → α) (k : Nat) : upd f k (f k) = f := by
  funext n
  unfold upd
  split
  · rename_i h; rw [h]
  · rfl
section
variable {cs : Array Value} {K : Nat → Int} {R : Nat → Value} {u : Nat} {v : Value} {c : Int}
theorem TreeO.setKind (h : TreeO cs K R u v c) {k : Nat} (hk : k ≤ 200) (x : Int) : TreeO (cs.setIfInBounds (k * 2) (.int .i64 x)) (upd K k x) R u v c := by
  have hs := h.size
  have hne : ∀ j, j ≠ k * 2 → (cs.setIfInBounds (k * 2) (.int .i64 x))[j]? = cs[j]? := fun j hj => by rw [Array.getElem?_setIfInBounds_ne (fun e => hj e.symm)]
  refine ⟨by simp [hs], fun n hn => ?_, fun n hn => by rw [hne _ (by omega)]; exact h.row n hn, by rw [hne _ (by omega)]; exact h.most, by rw [hne _ (by omega)]; exact h.used, by rw [hne _ (by omega)]; exact h.wait, by rw [hne _ (by omega)]; exact h.cook⟩
  by_cases e : n = k
  · subst e
    rw [upd_same, Array.getElem?_setIfInBounds_self_of_lt (by omega)]
  · rw [upd_ne _ _ e, hne _ (by omega)]
    exact h.kind n hn
theorem TreeO.setRow (h : TreeO cs K R u v c) {k : Nat} (hk : k ≤ 200) (x : Value) : TreeO (cs.setIfInBounds (k * 2 + 1) x) K (upd R k x) u v c := by
  have hs := h.size
  have hne : ∀ j, j ≠ k * 2 + 1 → (cs.setIfInBounds (k * 2 + 1) x)[j]? = cs[j]? := fun j hj => by rw [Array.getElem?_setIfInBounds_ne (fun e => hj e.symm)]
  refine ⟨by simp [hs], fun n hn => by rw [hne _ (by omega)]; exact h.kind n hn, fun n hn => ?_, by rw [hne _ (by omega)]; exact h.most, by rw [hne _ (by omega)]; exact h.used, by rw [hne _ (by omega)]; exact h.wait, by rw [hne _ (by omega)]; exact h.cook⟩
  by_cases e : n = k
  · subst e
    rw [upd_same, Array.getElem?_setIfInBounds_self_of_lt (by omega)]
  · rw [upd_ne _ _ e, hne _ (by omega)]
    exact h.row n hn
theorem TreeO.setCook (h : TreeO cs K R u v c) (x : Int) : TreeO (cs.setIfInBounds 405 (.int .i64 x)) K R u v x := by
  have hs := h.size
  have hne : ∀ j, j ≠ 405 → (cs.setIfInBounds 405 (.int .i64 x))[j]? = cs[j]? := fun j hj => by rw [Array.getElem?_setIfInBounds_ne (fun e => hj e.symm)]
  exact ⟨by simp [hs], fun n hn => by rw [hne _ (by omega)]; exact h.kind n hn, fun n hn => by rw [hne _ (by omega)]; exact h.row n hn, by rw [hne _ (by omega)]; exact h.most, by rw [hne _ (by omega)]; exact h.used, by rw [hne _ (by omega)]; exact h.wait, by rw [Array.getElem?_setIfInBounds_self_of_lt (by omega)]⟩
theorem TreeO.pool (h : TreeO cs K R u v c) (u' : Nat) (v' : Value) : TreeO (Emb.patchO cs 200 u' v') K R u' v' c := by
  have hg := Emb.patchO_get cs 200 u' v' h.size
  refine ⟨by rw [Emb.patchO_size]; exact h.size, fun n hn => ?_, fun n hn => ?_, by rw [hg]; rfl, by rw [hg]; rfl, by rw [hg]; rfl, by rw [hg]; exact h.cook⟩
  · rw [hg, if_neg (by omega), if_neg (by omega), if_neg (by omega)]
    exact h.kind n hn
  · rw [hg, if_neg (by omega), if_neg (by omega), if_neg (by omega)]
    exact h.row n hn
theorem TreeO.patch (h : TreeO cs K R u v c) : Emb.patchO cs 200 u v = cs := by
  apply Emb.patchO_ext (by rw [Emb.patchO_size])
  intro k _
  rw [Emb.patchO_get _ _ _ _ h.size]
  repeat' split
  · rename_i e; rw [e, h.wait]
  · rename_i e; rw [e, h.used]
  · rename_i e; rw [e, h.most]
  · rfl
end
theorem ownsRow_same {w w' : World} {B : Nat} {T : TypeId} {c : Nat} {v : Value} {n : Nat} {xs : List Value} (h : w.ownsRow B T c v n xs) (hk : ∀ g, v.ownBlock = some g → w'.heap[g]? = w.heap[g]?) : w'.ownsRow B T c v n xs := by
  refine ⟨h.1, ?_⟩
  rcases h.2 with h1 | ⟨g, cap, cur, hv, hg, hb, h1⟩
  · exact Or.inl h1
  · exact Or.inr ⟨g, cap, cur, hv, hg, by rw [hk g (by rw [hv]; rfl)]; exact hb, h1⟩
theorem ownsRow_typ {w : World} {B : Nat} {T : TypeId} {c : Nat} {v : Value} {n : Nat} {xs : List Value} (h : w.ownsRow B T c v n xs) {g : Nat} (hg : v.ownBlock = some g) : ∃ cur, w.heap[g]? = some (.cells cur T (0, 0)) := by
  rcases h.2 with ⟨hv, _⟩ | ⟨g', cap, cur, hv, _, hb, _⟩
  · rw [hv] at hg; cases hg
  · rw [hv] at hg
    obtain rfl := Option.some.inj hg
    exact ⟨_, hb⟩
/-- What a tree stands in. -/
def Foot (b : Nat) (R : Nat → Value) (v : Value) : Nat → Prop := fun k => k = b ∨ (∃ n, n ≤ 200 ∧ (R n).ownBlock = some k) ∨ v.ownBlock = some k
/-- The tree at b: kinds K, entries E (their slices are R), the pool (u numbers used, those of ys wait, in the slice v), the next cookie c. -/
structure TM (w : World) (b : Nat) (K : Nat → Int) (E : Nat → List Ent) (R : Nat → Value) (u : Nat) (v : Value) (ys : List Int) (c : Int) : Prop where
  cells : ∃ cs, w.heap[b]? = some (.cells cs 61 (0, 0)) ∧ TreeO cs K R u v c
  rows : ∀ n, n ≤ 200 → w.ownsRow (b + 1) 46 5 (R n) (E n).length ((E n).flatMap entC)
  apart : ∀ i j g, i ≤ 200 → j ≤ 200 → (R i).ownBlock = some g → (R j).ownBlock = some g → i = j
  own : OwnN (b + 1) w v ys
  good : GoodP 200 u ys
namespace TM
variable {w w' : World} {b : Nat} {K : Nat → Int} {E : Nat → List Ent} {R : Nat → Value} {u : Nat} {v : Value} {ys : List Int} {c : Int}
theorem blt (h : TM w b K E R u v ys c) : b < w.heap.size := by
  obtain ⟨cs, hc, _⟩ := h.cells
  exact lt_of_get hc
theorem lt (h : TM w b K E R u v ys c) : ∀ k, Foot b R v k → b ≤ k ∧ k < w.heap.size := by
  rintro k (rfl | ⟨n, hn, hg⟩ | hg)
  · exact ⟨Nat.le_refl _, h.blt⟩
  · have := (h.rows n hn).lt k hg
    exact ⟨by omega, this.2⟩
  · have := World.ownsRow.lt h.own k hg
    exact ⟨by omega, this.2⟩
theorem kept (h : TM w b K E R u v ys c) (hk : ∀ k, Foot b R v k → w'.heap[k]? = w.heap[k]?) : TM w' b K E R u v ys c := by
  obtain ⟨cs, hc, ho⟩ := h.cells
  exact ⟨⟨cs, by rw [hk b (Or.inl rfl)]; exact hc, ho⟩, fun n hn => ownsRow_same (h.rows n hn) fun g hg => hk g (Or.inr (Or.inl ⟨n, hn, hg⟩)), h.apart, ownsRow_same h.own fun g hg => hk g (Or.inr (Or.inr hg)), h.good⟩
theorem below (h : TM w b K E R u v ys c) (hb : Below w.heap.size w w') : TM w' b K E R u v ys c := h.kept fun k hk => hb.block k (h.lt k hk).2
theorem kcell (h : TM w b K E R u v ys c) {n : Nat} (hn : n ≤ 200) : w.cell? ⟨b, n * 2, none⟩ = some (.int .i64 (K n)) ∧ w.frozen? ⟨b, n * 2, none⟩ = false := by
  obtain ⟨cs, hc, ho⟩ := h.cells
  exact ⟨by rw [cell_of_row _ _ _ _ _ _ hc]; exact ho.kind n hn, Lib.frozen_of_heap hc _⟩
theorem rcell (h : TM w b K E R u v ys c) {n : Nat} (hn : n ≤ 200) : w.cell? ⟨b, n * 2 + 1, none⟩ = some (R n) ∧ w.frozen? ⟨b, n * 2 + 1, none⟩ = false := by
  obtain ⟨cs, hc, ho⟩ := h.cells
  exact ⟨by rw [cell_of_row _ _ _ _ _ _ hc]; exact ho.row n hn, Lib.frozen_of_heap hc _⟩
theorem ccell (h : TM w b K E R u v ys c) : w.cell? ⟨b, 405, none⟩ = some (.int .i64 c) ∧ w.frozen? ⟨b, 405, none⟩ = false := by
  obtain ⟨cs, hc, ho⟩ := h.cells
  exact ⟨by rw [cell_of_row _ _ _ _ _ _ hc]; exact ho.cook, Lib.frozen_of_heap hc _⟩
theorem ents (h : TM w b K E R u v ys c) {n : Nat} (hn : n ≤ 200) : EntsIs w (R n) (E n) := LstIs.own (entC_len _) (h.rows n hn) rfl
/-- A row's block is none of the pool's. -/
theorem rowpool (h : TM w b K E R u v ys c) {n g : Nat} (hn : n ≤ 200) (hg : (R n).ownBlock = some g) : v.ownBlock ≠ some g := fun e => by
  obtain ⟨c1, h1⟩ := ownsRow_typ (h.rows n hn) hg
  obtain ⟨c2, h2⟩ := ownsRow_typ h.own e
  exact block_ne h1 h2 (by decide) rfl
theorem trod_cell (h : TM w b K E R u v ys c) (o : Nat) (x : Value) (R' : Nat → Value) (v' : Value) (hR : ∀ k, Foot b R' v' k → Foot b R v k ∨ w.heap.size ≤ k) : Trod w (w.setCell ⟨b, o, none⟩ x) (Foot b R v) (Foot b R' v') :=
  ⟨rfl, rfl, rfl, by simp [World.setCell], fun k hk hs => Below.heap_setCell _ _ _ _ (fun e => hs (Or.inl e)), hR⟩
theorem setKind (h : TM w b K E R u v ys c) {k : Nat} (hk : k ≤ 200) (x : Int) : TM (w.setCell ⟨b, k * 2, none⟩ (.int .i64 x)) b (upd K k x) E R u v ys c := by
  obtain ⟨cs, hc, ho⟩ := h.cells
  have hf : ∀ g, b + 1 ≤ g → (w.setCell ⟨b, k * 2, none⟩ (.int .i64 x)).heap[g]? = w.heap[g]? := fun g hg => Below.heap_setCell _ _ _ _ (by show g ≠ b; omega)
  exact ⟨⟨_, heap_setCell_same w b (k * 2) _ _ _ hc, ho.setKind hk x⟩, fun n hn => ownsRow_same (h.rows n hn) fun g hg => hf g ((h.rows n hn).lt g hg).1, h.apart, ownsRow_same h.own fun g hg => hf g (World.ownsRow.lt h.own g hg).1, h.good⟩
theorem setCook (h : TM w b K E R u v ys c) (x : Int) : TM (w.setCell ⟨b, 405, none⟩ (.int .i64 x)) b K E R u v ys x := by
  obtain ⟨cs, hc, ho⟩ := h.cells
  have hf : ∀ g, b + 1 ≤ g → (w.setCell ⟨b, 405, none⟩ (.int .i64 x)).heap[g]? = w.heap[g]? := fun g hg => Below.heap_setCell _ _ _ _ (by show g ≠ b; omega)
  exact ⟨⟨_, heap_setCell_same w b 405 _ _ _ hc, ho.setCook x⟩, fun n hn => ownsRow_same (h.rows n hn) fun g hg => hf g ((h.rows n hn).lt g hg).1, h.apart, ownsRow_same h.own fun g hg => hf g (World.ownsRow.lt h.own g hg).1, h.good⟩
/-- A node's row changes, and its slice is stored anew. -/
theorem setRow (h : TM w b K E R u v ys c) {k : Nat} (hk : k ≤ 200) (hg : w.grownBy w' (R k).ownBlock) {r : Value} {l : List Ent} (hr : w'.ownsRow (b + 1) 46 5 r l.length (l.flatMap entC)) (ha : ∀ g, r.ownBlock = some g → (R k).ownBlock = some g ∨ w.heap.size ≤ g) :
    TM (w'.setCell ⟨b, k * 2 + 1, none⟩ r) b K (upd E k l) (upd R k r) u v ys c ∧ Trod w (w'.setCell ⟨b, k * 2 + 1, none⟩ r) (Foot b R v) (Foot b (upd R k r) v) := by
  obtain ⟨cs, hc, ho⟩ := h.cells
  have hbk : w'.heap[b]? = w.heap[b]? := hg.block b h.blt (fun e => by have := ((h.rows k hk).lt b e.symm).1; omega)
  have hf : ∀ g, b + 1 ≤ g → (w'.setCell ⟨b, k * 2 + 1, none⟩ r).heap[g]? = w'.heap[g]? := fun g hg => Below.heap_setCell _ _ _ _ (by show g ≠ b; omega)
  refine ⟨⟨⟨_, heap_setCell_same w' b (k * 2 + 1) _ _ _ (hbk.trans hc), ho.setRow hk r⟩, fun n hn => ?_, fun i j g hi hj h1 h2 => ?_, ?_, h.good⟩, ⟨hg.os, hg.tape, hg.output, ?_, fun q hq hs => ?_, ?_⟩⟩
  · by_cases e : n = k
    · subst e
      rw [upd_same, upd_same]
      exact ownsRow_same hr fun g hgg => hf g (hr.lt g hgg).1
    · rw [upd_ne _ _ e, upd_ne _ _ e]
      refine ownsRow_same (h.rows n hn) fun g hgg => ?_
      have hl := (h.rows n hn).lt g hgg
      rw [hf g hl.1]
      exact hg.block g hl.2 (fun e2 => e (h.apart n k g hn hk hgg e2.symm))
  · by_cases e1 : i = k
    · by_cases e2 : j = k
      · rw [e1, e2]
      · rw [e1, upd_same] at h1
        rw [upd_ne _ _ e2] at h2
        rcases ha g h1 with h3 | h3
        · exact absurd (h.apart j k g hj hk h2 h3) e2
        · have := ((h.rows j hj).lt g h2).2
          omega
    · rw [upd_ne _ _ e1] at h1
      by_cases e2 : j = k
      · rw [e2, upd_same] at h2
        rcases ha g h2 with h3 | h3
        · exact absurd (h.apart i k g hi hk h1 h3) e1
        · have := ((h.rows i hi).lt g h1).2
          omega
      · rw [upd_ne _ _ e2] at h2
        exact h.apart i j g hi hj h1 h2
  · refine ownsRow_same h.own fun g hgg => ?_
    have hl := World.ownsRow.lt h.own g hgg
    rw [hf g hl.1]
    exact hg.block g hl.2 (fun e2 => h.rowpool hk e2.symm hgg)
  · simpa [World.setCell] using hg.size
  · rw [Below.heap_setCell _ _ _ _ (fun e => hs (Or.inl e))]
    exact hg.block q hq (fun e => hs (Or.inr (Or.inl ⟨k, hk, e.symm⟩)))
  · rintro q (hq | ⟨n, hn, hq⟩ | hq)
    · exact Or.inl (Or.inl hq)
    · by_cases e : n = k
      · subst e
        rw [upd_same] at hq
        rcases ha q hq with h3 | h3
        · exact Or.inl (Or.inr (Or.inl ⟨n, hn, h3⟩))
        · exact Or.inr h3
      · rw [upd_ne _ _ e] at hq
        exact Or.inl (Or.inr (Or.inl ⟨n, hn, hq⟩))
    · exact Or.inl (Or.inr (Or.inr hq))
/-- The pool of a tree, seen from now. -/
theorem box (h : TM w b K E R u v ys c) : Emb.Box w v.ownBlock 200 u b w v ys := by
  obtain ⟨cs, hc, ho⟩ := h.cells
  exact ⟨⟨cs, hc, ho.size, by rw [ho.patch]; exact hc⟩, h.own, fun k hk => Or.inl hk.symm, Keeps.refl _ _ _⟩
theorem poolIs (h : TM w b K E R u v ys c) : Emb.PoolIs w v.ownBlock 200 b w v (outRow u ys) := ⟨u, ys, h.box, h.good, rfl⟩
/-- Behind a call on the pool. -/
theorem pool (h : TM w b K E R u v ys c) {v' : Value} {l : List Bool} (hp : Emb.PoolIs w v.ownBlock 200 b w' v' l) : ∃ u' ys', TM w' b K E R u' v' ys' c ∧ l = outRow u' ys' ∧ Trod w w' (Foot b R v) (Foot b R v') := by
  obtain ⟨u', ys', hb, hg, rfl⟩ := hp
  obtain ⟨cs, hc, ho⟩ := h.cells
  obtain ⟨cs', hc1, _, hc2⟩ := hb.at'
  rw [hc] at hc1
  injection hc1 with hc1
  injection hc1 with hc1
  subst hc1
  refine ⟨u', ys', ⟨⟨_, hc2, ho.pool u' v'⟩, fun n hn => ?_, h.apart, hb.own, hg⟩, rfl, ⟨hb.keep.os, hb.keep.tape, hb.keep.output, hb.keep.size, fun k hk hs => hb.keep.block k hk (fun e => hs (Or.inl e)) (fun e => hs (Or.inr (Or.inr e.symm))), ?_⟩⟩
  · refine ownsRow_same (h.rows n hn) fun g hgg => ?_
    have hl := (h.rows n hn).lt g hgg
    exact hb.keep.block g hl.2 (by omega) (fun e => h.rowpool hn hgg e.symm)
  · rintro k (hk | hk | hk)
    · exact Or.inl (Or.inl hk)
    · exact Or.inl (Or.inr (Or.inl hk))
    · rcases hb.row k hk with h1 | h1
      · exact Or.inl (Or.inr (Or.inr h1.symm))
      · exact Or.inr h1
end TM
end Go.Proofs.Ytmplekjiciedgaa
