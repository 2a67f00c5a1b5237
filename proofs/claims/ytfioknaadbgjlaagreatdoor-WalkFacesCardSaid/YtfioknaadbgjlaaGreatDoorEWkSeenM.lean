/- Kit. -/
import Derived.Test.YtfioknaadbgjlaaGreatDoorEQH
set_option maxRecDepth 100000
set_option linter.unusedVariables false
set_option linter.unusedSimpArgs false
namespace Go.Proofs.YtfioknaadbgjlaaGreatDoor
open Go.RowKit Go.Sort
/-- An item of a node is the only one. -/
theorem node_one : ∀ {l : List Itm}, (nodesI l).Nodup → ∀ {x y : Itm}, x ∈ l → y ∈ l → x.e.node = y.e.node → x = y
  | [], _, x, _, hx, _, _ => nomatch hx
  | z :: l, h, x, y, hx, hy, he => by
    have h' : z.e.node ∉ nodesI l ∧ (nodesI l).Nodup := by
      have h2 : (z.e.node :: nodesI l).Nodup := h
      exact List.nodup_cons.1 h2
    rcases List.mem_cons.1 hx with h1 | h1
    · rcases List.mem_cons.1 hy with h2 | h2
      · rw [h1, h2]
      · exact absurd (by rw [← h1, he]; exact List.mem_map_of_mem h2) h'.1
    · rcases List.mem_cons.1 hy with h2 | h2
      · exact absurd (by rw [← h2, ← he]; exact List.mem_map_of_mem h1) h'.1
      · exact node_one h'.2 h1 h2 he
/-- Seen before directory i's entry k. -/
structure Seen (L : List Itm) (ds : List Int) (i k : Nat) : Prop where
  nd : ds.Nodup
  src : ∀ n ∈ ds, n = 0 ∨ ∃ x ∈ L, x.e.node = n ∧ (x.inn ∈ ds.take i ∨ (ds[i]? = some x.inn ∧ x.e ∈ (entsI L x.inn).take k))
theorem Seen.root (L : List Itm) : Seen L [0] 0 0 := ⟨by simp, fun n hn => Or.inl (List.mem_singleton.1 hn)⟩
section
variable {L : List Itm} {nx : Int} {ds : List Int} {i k : Nat}
theorem Seen.len (h : Seen L ds i k) : ds.length ≤ L.length + 1 := by
  have := nodup_sub_len ds (0 :: nodesI L) h.nd (fun n hn => by
    rcases h.src n hn with rfl | ⟨x, hx, rfl, _⟩
    · exact List.mem_cons_self
    · exact List.mem_cons_of_mem _ (List.mem_map_of_mem hx))
  have e : (nodesI L).length = L.length := by unfold nodesI; rw [List.length_map]
  rw [List.length_cons, e] at this
  exact this
theorem Seen.next (h : Seen L ds i k) : Seen L ds i (k + 1) := ⟨h.nd, fun n hn => by
  rcases h.src n hn with h1 | ⟨x, hx, h1, h2 | ⟨h2, h3⟩⟩
  · exact Or.inl h1
  · exact Or.inr ⟨x, hx, h1, Or.inl h2⟩
  · exact Or.inr ⟨x, hx, h1, Or.inr ⟨h2, List.take_subset_take_left _ (Nat.le_succ k) h3⟩⟩⟩
theorem Seen.over (h : Seen L ds i k) : Seen L ds (i + 1) 0 := ⟨h.nd, fun n hn => by
  rcases h.src n hn with h1 | ⟨x, hx, h1, h2 | ⟨h2, h3⟩⟩
  · exact Or.inl h1
  · exact Or.inr ⟨x, hx, h1, Or.inl (List.take_subset_take_left _ (Nat.le_succ i) h2)⟩
  · exact Or.inr ⟨x, hx, h1, Or.inl (by rw [List.take_add_one, h2]; simp)⟩⟩
theorem Seen.push (h : Seen L ds i k) (hg : GoodT L nx) {d : Int} (hd : ds[i]? = some d) {e : Ent} (he : (entsI L d)[k]? = some e) : Seen L (ds ++ [e.node]) i (k + 1) := by
  obtain ⟨y, hy, rfl⟩ := List.mem_map.1 (List.mem_of_getElem? he)
  have hy1 := (List.mem_filter.1 hy).1
  have hy2 : y.inn = d := of_decide_eq_true (List.mem_filter.1 hy).2
  have hi : i < ds.length := (List.getElem?_eq_some_iff.1 hd).1
  have hent : (entsI L d).Pairwise fun a b => a.name ≠ b.name := hg.names' d
  have hnew : y.e.node ∉ ds := fun hm => by
    rcases h.src _ hm with h1 | ⟨x, hx, h1, h2⟩
    · have := (hg.node y hy1).1
      omega
    · have hxy := node_one hg.nd hx hy1 h1
      subst hxy
      rcases h2 with h2 | ⟨_, h3⟩
      · rw [hy2] at h2
        have h4 := h.nd
        rw [← List.take_append_drop i ds, List.nodup_append] at h4
        have h5 : ds.drop i = d :: ds.drop (i + 1) := drop_eq_cons hd
        exact h4.2.2 d h2 d (by rw [h5]; simp) rfl
      · rw [hy2] at h3
        have h5 : (entsI L d).drop k = x.e :: (entsI L d).drop (k + 1) := drop_eq_cons he
        rw [← List.take_append_drop k (entsI L d), List.pairwise_append] at hent
        exact hent.2.2 _ h3 x.e (by rw [h5]; simp) rfl
  refine ⟨?_, fun n hn => ?_⟩
  · rw [List.nodup_append]
    refine ⟨h.nd, by simp, fun a ha b hb => ?_⟩
    rw [List.mem_singleton.1 hb]
    intro e
    exact hnew (e ▸ ha)
  · rcases List.mem_append.1 hn with hn | hn
    · rcases (h.next).src n hn with h1 | ⟨x, hx, h1, h2 | ⟨h2, h3⟩⟩
      · exact Or.inl h1
      · exact Or.inr ⟨x, hx, h1, Or.inl (by rw [List.take_append_of_le_length (Nat.le_of_lt hi)]; exact h2)⟩
      · exact Or.inr ⟨x, hx, h1, Or.inr ⟨by rw [List.getElem?_append_left hi]; exact h2, h3⟩⟩
    · rw [List.mem_singleton.1 hn]
      refine Or.inr ⟨y, hy1, rfl, Or.inr ⟨by rw [List.getElem?_append_left hi, hy2]; exact hd, ?_⟩⟩
      rw [hy2, List.take_add_one, he]
      simp
end
end Go.Proofs.YtfioknaadbgjlaaGreatDoor
