/-
  TreeMakes' mathematics: the keys of the map, and one that is set or struck.
-/
import Derived.Test.YthjieagmglbonaaMkKeep
namespace Go.Proofs.Ythjieagmglbonaa
open Go.RowKit Go.Sort
set_option linter.unusedVariables false
set_option linter.unusedSimpArgs false

/-- Of the first i directories. -/
def partG (L : List Itm) (i : Nat) : DirsG := fun q => if q ∈ (dirsI L).take i then some (entsI L q) else none
theorem part_zero (L : List Itm) : partG L 0 = fun _ => none := by
  funext q
  unfold partG
  simp
theorem part_all (L : List Itm) {i : Nat} (h : (dirsI L).length ≤ i) : partG L i = ownG L := by
  funext q
  unfold partG ownG
  rw [List.take_of_length_le h]
theorem part_snoc {L : List Itm} {i : Nat} {x : Int} (hx : (dirsI L)[i]? = some x) : updG (partG L i) x (some (entsI L x)) = partG L (i + 1) := by
  funext q
  unfold updG partG
  rw [List.take_add_one, hx]
  by_cases e : q = x
  · subst e
    simp
  · rw [if_neg e]
    simp [e]
theorem part_new {L : List Itm} {i : Nat} {x : Int} (hx : (dirsI L)[i]? = some x) : partG L i x = none := by
  unfold partG
  rw [if_neg]
  intro hm
  obtain ⟨h1, h2⟩ := List.getElem?_eq_some_iff.1 hx
  obtain ⟨j, hj, he⟩ := List.mem_iff_getElem.1 hm
  rw [List.length_take] at hj
  rw [List.getElem_take] at he
  have hn := dirsI_nodup L
  rw [List.Nodup, List.pairwise_iff_getElem] at hn
  exact hn j i (by omega) h1 (by omega) (he.trans h2.symm)
theorem keys_nodup (L : List Itm) (o : Int) : (keysI (dirsI L) o).Nodup := by
  unfold keysI
  split
  · exact dirsI_nodup L
  · rename_i h
    refine List.nodup_append.2 ⟨dirsI_nodup L, by simp, ?_⟩
    intro a ha b hb
    rw [List.mem_singleton] at hb
    rw [hb]
    exact fun e => h (e ▸ ha)
theorem keys_mem {d : List Int} {o q : Int} : q ∈ keysI d o ↔ q ∈ d ∨ q = o := by
  unfold keysI
  split
  · rename_i h
    exact ⟨Or.inl, fun h2 => h2.elim id (fun e => e ▸ h)⟩
  · simp
theorem keys_supp (L : List Itm) (o : Int) (v : Option (List Ent)) : Supp (updG (ownG L) o v) (keysI (dirsI L) o) := fun q h => by
  rw [keys_mem]
  unfold updG at h
  split at h
  · rename_i e; exact Or.inr e
  · exact Or.inl (own_supp L q h)
theorem own_some {L : List Itm} {q : Int} : (ownG L q).isSome = decide (q ∈ dirsI L) := by
  unfold ownG
  split
  · rename_i h; rw [decide_eq_true h]; rfl
  · rename_i h; rw [decide_eq_false h]; rfl
/-- How many keys there are when one is set. -/
theorem count_set (L : List Itm) (o : Int) (es : List Ent) : (thereI (updG (ownG L) o (some es)) (keysI (dirsI L) o)).length = if (ownG L o).isSome = true then (dirsI L).length else (dirsI L).length + 1 := by
  have hall : thereI (updG (ownG L) o (some es)) (keysI (dirsI L) o) = keysI (dirsI L) o := by
    unfold thereI
    rw [List.filter_eq_self]
    intro q hq
    unfold updG
    split
    · rfl
    · rename_i h
      rw [own_some, decide_eq_true_eq]
      exact (keys_mem.1 hq).resolve_right h
  rw [hall, own_some]
  unfold keysI
  by_cases h : o ∈ dirsI L
  · simp [h]
  · simp [h]
theorem count_cut (L : List Itm) (o : Int) : (thereI (updG (ownG L) o none) (keysI (dirsI L) o)).length = if (ownG L o).isSome = true then (dirsI L).length - 1 else (dirsI L).length := by
  rw [own_some]
  by_cases h : o ∈ dirsI L
  · have e1 : keysI (dirsI L) o = dirsI L := by unfold keysI; rw [if_pos h]
    rw [e1, decide_eq_true h, if_pos rfl]
    have e2 : thereI (updG (ownG L) o none) (dirsI L) = (dirsI L).erase o := by
      rw [(dirsI_nodup L).erase_eq_filter]
      unfold thereI
      refine List.filter_congr fun q hq => ?_
      unfold updG
      by_cases e : q = o
      · subst e
        simp
      · rw [if_neg e, own_some, decide_eq_true hq]
        simp [e]
    rw [e2, List.length_erase_of_mem h]
  · have e1 : keysI (dirsI L) o = dirsI L ++ [o] := by unfold keysI; rw [if_neg h]
    rw [e1, decide_eq_false h]
    have e2 : thereI (updG (ownG L) o none) (dirsI L ++ [o]) = dirsI L := by
      unfold thereI
      rw [List.filter_append]
      have e3 : (dirsI L).filter (fun q => (updG (ownG L) o none q).isSome) = dirsI L := by
        rw [List.filter_eq_self]
        intro q hq
        unfold updG
        rw [if_neg (show ¬ q = o from fun e => h (e ▸ hq)), own_some, decide_eq_true hq]
      rw [e3]
      simp [updG]
    rw [e2]
    rfl
theorem DirsHi.weaken {B : Nat} {w : World} {mb n cnt : Nat} {F : Int → Option Value} {G : DirsG} (h : DirsHi B w mb n F cnt G) : DirsHi 0 w mb n F cnt G := by
  refine ⟨h.f, fun x hx => ?_, Nat.zero_le _⟩
  have hg := h.g x hx
  cases hv : F x with
  | none => rw [hv] at hg; exact hg
  | some v =>
    rw [hv] at hg
    obtain ⟨l, h1, h2, h3⟩ := hg
    exact ⟨l, h1, h2, fun hne g hg => ⟨Nat.zero_le _, (h3 hne g hg).2⟩⟩
theorem DirsHi.some {B : Nat} {w : World} {mb n cnt : Nat} {F : Int → Option Value} {G : DirsG} (h : DirsHi B w mb n F cnt G) {x : Int} (hx : inI64 x) : (F x).isSome = (G x).isSome := by
  have hg := h.g x hx
  cases hv : F x with
  | none => rw [hv] at hg; rw [hg]; rfl
  | some v =>
    rw [hv] at hg
    obtain ⟨l, h1, _⟩ := hg
    rw [h1]
    rfl
/-- The boxes of the law's arguments. -/
def BoxIs (bo : Nat) (bn : Int) (bl : Value) (h0 h1 h2 h3 : Int) (W : World) : Prop := W.heap[bo]? = some (.cells #[.int .i64 bn, bl] 25 (0, 0)) ∧ W.heap[bo + 1]? = some (.cells #[.int .u8 h0, .int .u8 h1, .int .u8 h2, .int .u8 h3] 26 (0, 0))
theorem BoxIs.below {bo : Nat} {bn : Int} {bl : Value} {h0 h1 h2 h3 : Int} {W W' : World} (h : BoxIs bo bn bl h0 h1 h2 h3 W) (hb : Below W.heap.size W W') : BoxIs bo bn bl h0 h1 h2 h3 W' :=
  ⟨(hb.block _ (lt_of_get h.1)).trans h.1, (hb.block _ (lt_of_get h.2)).trans h.2⟩
theorem BoxIs.trod {bo : Nat} {bn : Int} {bl : Value} {h0 h1 h2 h3 : Int} {W W' : World} {b : Nat} {l : List Itm} {nx : Int} {S S' : Nat → Prop} (h : BoxIs bo bn bl h0 h1 h2 h3 W) (hi : theTree.Is W b l nx S) (ht : Trod W W' S S') : BoxIs bo bn bl h0 h1 h2 h3 W' :=
  ⟨(ht.rest _ (lt_of_get h.1) (theOff hi h.1 (by decide))).trans h.1, (ht.rest _ (lt_of_get h.2) (theOff hi h.2 (by decide))).trans h.2⟩
theorem BoxIs.two {bo : Nat} {bn : Int} {bl : Value} {h0 h1 h2 h3 : Int} {W : World} (h : BoxIs bo bn bl h0 h1 h2 h3 W) {r : Nat} {x0 x1 : Value} (hr : W.heap[r]? = some (.cells #[x0, x1] 33 (0, 0))) (x y : Value) : BoxIs bo bn bl h0 h1 h2 h3 ((W.setCell ⟨r, 0, none⟩ x).setCell ⟨r, 1, none⟩ y) := by
  have n1 := typ_ne h.1 hr (by decide)
  have n2 := typ_ne h.2 hr (by decide)
  exact ⟨by rw [Below.heap_setCell _ _ _ _ n1, Below.heap_setCell _ _ _ _ n1]; exact h.1, by rw [Below.heap_setCell _ _ _ _ n2, Below.heap_setCell _ _ _ _ n2]; exact h.2⟩
theorem BoxIs.turned {bo : Nat} {bn : Int} {bl : Value} {h0 h1 h2 h3 : Int} {W W' : World} {mb : Nat} (h : BoxIs bo bn bl h0 h1 h2 h3 W) (ht : W.mapTurned W' mb) : BoxIs bo bn bl h0 h1 h2 h3 W' := by
  obtain ⟨_, t2, _⟩ := turned_block ht
  obtain ⟨es, cl, es', cl', hm, _⟩ := ht
  have ne : ∀ {g : Nat} {cs : Array Value} {t : TypeId}, W.heap[g]? = some (.cells cs t (0, 0)) → g ≠ mb := by
    rintro g cs t hg rfl
    rw [hm] at hg
    cases hg
  exact ⟨(t2 _ (ne h.1)).trans h.1, (t2 _ (ne h.2)).trans h.2⟩
theorem BoxIs.cells {bo : Nat} {bn : Int} {bl : Value} {h0 h1 h2 h3 : Int} {W : World} (h : BoxIs bo bn bl h0 h1 h2 h3 W) : W.cell? ⟨bo, 0, none⟩ = some (.int .i64 bn) ∧ W.cell? ⟨bo, 1, none⟩ = some bl ∧ W.cell? ⟨bo + 1, 0, none⟩ = some (.int .u8 h0) ∧ W.cell? ⟨bo + 1, 1, none⟩ = some (.int .u8 h1) :=
  ⟨Lib.cell_of_heap h.1 0, Lib.cell_of_heap h.1 1, Lib.cell_of_heap h.2 0, Lib.cell_of_heap h.2 1⟩
/-- A map's turn leaves a tree as it was. -/
theorem isTurned {W W' : World} {b mb : Nat} {l : List Itm} {nx : Int} {S : Nat → Prop} (h : theTree.Is W b l nx S) (ht : W.mapTurned W' mb) : theTree.Is W' b l nx S := by
  obtain ⟨t1, t2, _⟩ := turned_block ht
  obtain ⟨es, cl, es', cl', hm, _⟩ := ht
  refine theTree.kept h (by rw [t1]; exact Nat.le_refl _) fun k hk => t2 k ?_
  rintro rfl
  obtain ⟨R, u, v, ys, hmm, _, _, rfl⟩ := h
  have key : ∃ T cs', W.heap[k]? = some (.cells cs' T (0, 0)) := by
    rcases hk with rfl | ⟨n, hn, hgg⟩ | hgg
    · obtain ⟨cs', h1, _⟩ := hmm.cells
      exact ⟨_, cs', h1⟩
    · obtain ⟨cs', h1⟩ := ownsRow_typ (hmm.rows n hn) hgg
      exact ⟨_, cs', h1⟩
    · obtain ⟨cs', h1⟩ := ownsRow_typ hmm.own hgg
      exact ⟨_, cs', h1⟩
  obtain ⟨T, cs', h1⟩ := key
  rw [hm] at h1
  cases h1
theorem numsTurned {W W' : World} {mb : Nat} {v : Value} {l : List Int} (h : NumsL W v l) (ht : W.mapTurned W' mb) : NumsL W' v l := by
  obtain ⟨t1, t2, _⟩ := turned_block ht
  obtain ⟨es, cl, es', cl', hm, _⟩ := ht
  rcases h with h | ⟨g, off, cap, hg, hvv, hc⟩
  · exact Or.inl h
  · rcases l with _ | ⟨y, r⟩
    · exact Or.inl ⟨rfl, _, cap, by rw [hvv]; rfl⟩
    · have hne : g ≠ mb := by
        rintro rfl
        have h9 := hc 0 y rfl 0 _ rfl
        unfold World.cell? at h9
        rw [hm] at h9
        simp at h9
      refine Or.inr ⟨g, off, cap, by rw [t1]; exact hg, hvv, fun j x hj i u hu => ?_⟩
      rw [World.cell?_of_block (t2 g hne)]
      exact hc j x hj i u hu
theorem entsTurned {W W' : World} {mb : Nat} {v : Value} {l : List Ent} (h : EntsIs W v l) (ht : W.mapTurned W' mb) : EntsIs W' v l := by
  obtain ⟨t1, t2, _⟩ := turned_block ht
  obtain ⟨es, cl, es', cl', hm, _⟩ := ht
  rcases h with h | ⟨g, off, cap, hg, hvv, hc⟩
  · exact Or.inl h
  · rcases l with _ | ⟨y, r⟩
    · exact Or.inl ⟨rfl, _, cap, by rw [hvv]; rfl⟩
    · have hne : g ≠ mb := by
        rintro rfl
        have h9 := hc 0 y rfl 0 _ rfl
        unfold World.cell? at h9
        rw [hm] at h9
        simp at h9
      refine Or.inr ⟨g, off, cap, by rw [t1]; exact hg, hvv, fun j x hj i u hu => ?_⟩
      rw [World.cell?_of_block (t2 g hne)]
      exact hc j x hj i u hu
theorem below_turned {B : Nat} {W0 W W' : World} {mb : Nat} (h : Below B W0 W) (ht : W.mapTurned W' mb) (hB : B ≤ mb) : Below B W0 W' := by
  obtain ⟨t1, t2, t3, t4, t5⟩ := turned_block ht
  exact h.trans ⟨t3, t4, t5, by rw [t1]; exact Nat.le_refl _, fun k hk => t2 k (by omega)⟩
end Go.Proofs.Ythjieagmglbonaa
