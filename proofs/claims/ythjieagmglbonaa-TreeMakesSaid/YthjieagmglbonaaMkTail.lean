/-
  TreeMakes' mathematics: what the law's last part asks of the map.
-/
import Derived.Test.YthjieagmglbonaaMkKeys
namespace Go.Proofs.Ythjieagmglbonaa
open Go.RowKit Go.Sort
set_option linter.unusedVariables false
set_option linter.unusedSimpArgs false

/-- The map at mb and its lists, all in blocks from B on and below E. -/
structure DirsIn (B E : Nat) (w : World) (mb n : Nat) (F : Int → Option Value) (cnt : Nat) (G : DirsG) : Prop where
  f : MapF Try.prog 3 w mb n F cnt
  g : ∀ x, inI64 x → match F x with
    | none => G x = none
    | some v => ∃ l, G x = some l ∧ EntsIs w v l ∧ (l ≠ [] → ∀ g, v.ownBlock = some g → B ≤ g ∧ g < E)
  mb : B ≤ mb ∧ mb < E
  size : E ≤ w.heap.size
theorem DirsHi.within {B : Nat} {w : World} {mb n cnt : Nat} {F : Int → Option Value} {G : DirsG} (h : DirsHi B w mb n F cnt G) : DirsIn B w.heap.size w mb n F cnt G := ⟨h.f, h.g, ⟨h.mb, h.f.lt⟩, Nat.le_refl _⟩
theorem DirsIn.keep {B E : Nat} {w w' : World} {mb n cnt : Nat} {F : Int → Option Value} {G : DirsG} (h : DirsIn B E w mb n F cnt G) (hs : w.heap.size ≤ w'.heap.size) (hk : ∀ k, B ≤ k → k < E → w'.heap[k]? = w.heap[k]?) : DirsIn B E w' mb n F cnt G := by
  refine ⟨h.f.same (hk mb h.mb.1 h.mb.2), fun x hx => ?_, h.mb, Nat.le_trans h.size hs⟩
  have hg := h.g x hx
  cases hv : F x with
  | none => rw [hv] at hg; exact hg
  | some v =>
    rw [hv] at hg
    obtain ⟨l, h1, h2, h3⟩ := hg
    exact ⟨l, h1, ents_keep h2 hs fun hne g hg => hk g (h3 hne g hg).1 (h3 hne g hg).2, h3⟩
theorem DirsIn.below {B E : Nat} {w w' : World} {mb n cnt : Nat} {F : Int → Option Value} {G : DirsG} (h : DirsIn B E w mb n F cnt G) (hb : Below w.heap.size w w') : DirsIn B E w' mb n F cnt G :=
  h.keep hb.size fun k _ hk => hb.block k (Nat.lt_of_lt_of_le hk h.size)
theorem DirsIn.plain {B E : Nat} {w : World} {mb n cnt : Nat} {F : Int → Option Value} {G : DirsG} (h : DirsIn B E w mb n F cnt G) : DirsHi 0 w mb n F cnt G := by
  refine ⟨h.f, fun x hx => ?_, Nat.zero_le _⟩
  have hg := h.g x hx
  cases hv : F x with
  | none => rw [hv] at hg; exact hg
  | some v =>
    rw [hv] at hg
    obtain ⟨l, h1, h2, h3⟩ := hg
    exact ⟨l, h1, h2, fun hne g hg => ⟨Nat.zero_le _, Nat.lt_of_lt_of_le (h3 hne g hg).2 h.size⟩⟩
theorem own_small {L : List Itm} {c : Int} (h : GoodT L c) : SmallG (ownG L) := by
  have key : ∀ q es, ownG L q = some es → es = entsI L q := fun q es hG => by
    unfold ownG at hG
    split at hG
    · exact (Option.some.inj hG).symm
    · cases hG
  refine ⟨fun q es hG => ?_, fun q es hG e he => ?_⟩
  · rw [key q es hG]
    exact Nat.le_trans (entsI_le L q) (by have := h.len; omega)
  · rw [key q es hG] at he
    have := badE_size (h.form _ (ents_mem.1 he))
    simp only at this
    omega
theorem upd_small {G : DirsG} (h : SmallG G) (o : Int) {v : Option (List Ent)} (hl : ∀ es, v = some es → es.length ≤ 1000) (hn : ∀ es, v = some es → ∀ e ∈ es, e.name.size ≤ 9223372036854775807) : SmallG (updG G o v) := by
  refine ⟨fun q es hG => ?_, fun q es hG e he => ?_⟩
  · unfold updG at hG
    split at hG
    · exact hl es hG
    · exact h.len q es hG
  · unfold updG at hG
    split at hG
    · exact hn es hG e he
    · exact h.name q es hG e he
theorem all_upd (G : DirsG) (o : Int) (v : Option (List Ent)) : ∀ ks : List Int, ks.Nodup → (allI (updG G o v) ks).length ≤ (allI G ks).length + (if o ∈ ks then (v.getD []).length else 0)
  | [], _ => by simp [allI]
  | q :: ks, hn => by
    obtain ⟨h1, h2⟩ := List.nodup_cons.1 hn
    have ih := all_upd G o v ks h2
    have e1 : ∀ G' : DirsG, (allI G' (q :: ks)).length = ((G' q).getD []).length + (allI G' ks).length := fun G' => by
      unfold allI
      rw [List.flatMap_cons, List.length_append, List.length_map]
    rw [e1, e1]
    by_cases e : q = o
    · subst e
      rw [if_neg h1] at ih
      rw [if_pos List.mem_cons_self]
      have e2 : updG G q v q = v := by unfold updG; rw [if_pos rfl]
      rw [e2]
      omega
    · have e2 : updG G o v q = G q := by unfold updG; rw [if_neg e]
      rw [e2]
      have e3 : (o ∈ q :: ks) ↔ o ∈ ks := by
        rw [List.mem_cons]
        exact ⟨fun h => h.resolve_left (fun h => e h.symm), Or.inr⟩
      by_cases h3 : o ∈ ks
      · rw [if_pos h3] at ih
        rw [if_pos (e3.2 h3)]
        omega
      · rw [if_neg h3] at ih
        rw [if_neg (fun h => h3 (e3.1 h))]
        omega
theorem own_all_len {L : List Itm} {c : Int} (h : GoodT L c) (o : Int) : (allI (ownG L) (keysI (dirsI L) o)).length ≤ 200 := by
  have e1 : allI (ownG L) (keysI (dirsI L) o) = allI (ownG L) (dirsI L) := by
    unfold keysI
    split
    · rfl
    · rename_i hn
      unfold allI
      rw [List.flatMap_append]
      have e2 : ownG L o = none := by unfold ownG; rw [if_neg hn]
      simp [e2]
  rw [e1]
  have hap := (apart_iff _).1 (own_formed h).apart
  have hn : ((allI (ownG L) (dirsI L)).map fun x => x.e.node).Nodup := by
    rw [List.Nodup, List.pairwise_map]
    refine hap.imp ?_
    intro a b hc e
    exact hc (by unfold clash; exact Or.inl e)
  have h2 := nodup_sub_len _ (nodesI L) hn (fun n hn => by
    obtain ⟨x, hx, rfl⟩ := List.mem_map.1 hn
    unfold nodesI
    exact List.mem_map_of_mem ((own_all h).1 hx))
  unfold nodesI at h2
  simp only [List.length_map] at h2
  have := h.len
  omega
theorem tail_all {L : List Itm} {c : Int} (h : GoodT L c) (o : Int) {v : Option (List Ent)} (hv : (v.getD []).length ≤ 1000) : (allI (updG (ownG L) o v) (keysI (dirsI L) o)).length ≤ 5000 := by
  have h1 := all_upd (ownG L) o v _ (keys_nodup L o)
  have h2 := own_all_len h o
  split at h1 <;> omega
theorem tail_names {G : DirsG} (h : SmallG G) (keys : List Int) : ∀ x ∈ allI G keys, x.e.name.size ≤ 9223372036854775807 := fun x hx => by
  have h1 := (all_mem.1 hx).2
  cases hG : G x.inn with
  | none => rw [hG] at h1; cases h1
  | some es => rw [hG] at h1; exact h.name _ es hG _ h1
theorem tail_make {L : List Itm} {o c : Int} {v : Option (List Ent)} {cnt : Nat} (hc : (thereI (updG (ownG L) o v) (keysI (dirsI L) o)).length = cnt) {t : Bool} (ht : t = true ↔ Formed c (updG (ownG L) o v) (keysI (dirsI L) o)) : t = true ↔ makeB (updG (ownG L) o v) c cnt := by
  rw [ht, ← made_iff (keys_supp L o v) (keys_nodup L o), hc]
  rfl
theorem dirs_i64 (L : List Itm) : ∀ x ∈ dirsI L, inI64 x := fun x hx => by
  obtain ⟨⟨n, h1, h2⟩, _⟩ := dirsI_mem.1 hx
  unfold inI64
  omega
end Go.Proofs.Ythjieagmglbonaa
