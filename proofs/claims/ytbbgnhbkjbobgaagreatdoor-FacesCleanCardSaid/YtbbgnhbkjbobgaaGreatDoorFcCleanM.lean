/-
  Entries of different good names, whose Shorts are picked one by one, are clean: plainly.
-/
import Derived.Test.YtbbgnhbkjbobgaaGreatDoorFcClean
import Derived.Test.YtbbgnhbkjbobgaaGreatDoorFcPickM
import Derived.Test.YtbbgnhbkjbobgaaGreatDoorL4
import Derived.Test.YtbbgnhbkjbobgaaGreatDoorKC
namespace Go.Proofs.YtbbgnhbkjbobgaaGreatDoor
open Go.RowKit Go.Sort
set_option linter.unusedVariables false

def newE (E : Int) (l : List Ent) (s : ByteArray) : Ent := ⟨s, (l.length : Int) + 1, false, 0, pickI E l s.data.toList⟩
def mkE (E : Int) (ns : List ByteArray) : List Ent := ns.foldl (fun l s => l ++ [newE E l s]) []
theorem mkE_snoc (E : Int) (ns : List ByteArray) (s : ByteArray) : mkE E (ns ++ [s]) = mkE E ns ++ [newE E (mkE E ns) s] := by
  unfold mkE
  rw [List.foldl_append]
  rfl
theorem mkE_names (E : Int) : ∀ (ns : List ByteArray) (l : List Ent), (ns.foldl (fun l s => l ++ [newE E l s]) l).map Ent.name = l.map Ent.name ++ ns
  | [], l => by simp
  | s :: ns, l => by
    rw [List.foldl_cons, mkE_names E ns, List.map_append]
    simp [newE]
theorem mkE_name (E : Int) (ns : List ByteArray) : (mkE E ns).map Ent.name = ns := by
  have := mkE_names E ns []
  unfold mkE
  simpa using this
theorem mkE_len (E : Int) (ns : List ByteArray) : (mkE E ns).length = ns.length := by
  have := congrArg List.length (mkE_name E ns)
  simpa using this
/-- What each of them is. -/
def Picked (E : Int) (e : Ent) : Prop := (longB E e.name.data.toList = false ∧ e.short = 0) ∨ (longB E e.name.data.toList = true ∧ 1 ≤ e.short ∧ e.short ≤ 1000000)
theorem newE_picked (E : Int) (l : List Ent) (s : ByteArray) (hl : l.length ≤ 1000) : Picked E (newE E l s) := by
  unfold Picked newE
  cases h : longB E s.data.toList with
  | false => exact Or.inl ⟨rfl, pick_short h⟩
  | true =>
    have h1 := (pick_free (l := l) h).1
    have h2 := (pick_range E l s.data.toList).2
    exact Or.inr ⟨rfl, h1, by simp only; omega⟩
theorem picked_fits {E : Int} {e : Ent} (h : Picked E e) : fitB E e = true := by
  unfold fitB
  rcases h with ⟨h1, h2⟩ | ⟨h1, h2, _⟩
  · rw [h1, decide_eq_false (by omega)]; rfl
  · rw [h1, decide_eq_true (by omega)]; rfl
theorem picked_short {E : Int} (h0 : 0 ≤ E) {e : Ent} (h : Picked E e) : (faceL E e).length ≤ 255 := by
  rcases h with ⟨h1, h2⟩ | ⟨h1, h2, _⟩
  · rw [face_plain h2]
    unfold longB at h1
    have := of_decide_eq_false h1
    have h3 : (⟨(presL E e.name.data.toList).toArray⟩ : ByteArray).size = (presL E e.name.data.toList).length := by show (presL E e.name.data.toList).toArray.size = _; simp
    omega
  · rw [face_short (by omega)]
    have := nameL_le (fnvL e.name.data.toList) e.short
    omega
theorem name_no_pres {E : Int} (h0 : 0 ≤ E) {l : List UInt8} (hl : l.length ≤ 300) {v : Nat} {n : Int} (h : IsName (presL E l) v n) : False := by
  obtain ⟨rs, h1, _, _, h4, h5, _⟩ := reads_pres h0 l hl
  rcases name_bad h E rs h1 with hb | hb
  · rw [h4] at hb; cases hb
  · rw [h5] at hb; cases hb
/-- A picked face is none of the elder ones. -/
theorem new_face {E : Int} (h0 : 0 ≤ E) {l : List Ent} {s : ByteArray} (hl : l.length ≤ 1000) (hs : s.size ≤ 300) (hp : ∀ e ∈ l, Picked E e ∧ e.name.size ≤ 300 ∧ e.name ≠ s) : ∀ e ∈ l, faceL E e ≠ faceL E (newE E l s) := by
  intro e he hf
  obtain ⟨hpe, hes, hne⟩ := hp e he
  have hpn := newE_picked E l s hl
  have hsl : s.data.toList.length = s.size := by simp
  have hel : e.name.data.toList.length = e.name.size := by simp
  have hnn : (newE E l s).name = s := rfl
  rcases hpe with ⟨h1, h2⟩ | ⟨h1, h2, h3⟩
  · rcases hpn with ⟨g1, g2⟩ | ⟨g1, g2, g3⟩
    · rw [face_plain h2, face_plain g2, hnn] at hf
      have := pres_inj h0 hf
      exact hne (ByteArray.ext (Array.toList_inj.1 this))
    · rw [face_plain h2, face_short (by omega), hnn] at hf
      exact name_no_pres h0 (l := e.name.data.toList) (by omega) (v := fnvL s.data.toList) (n := (newE E l s).short) ⟨fnvL_lt _, g2, g3, hf⟩
  · rcases hpn with ⟨g1, g2⟩ | ⟨g1, g2, g3⟩
    · rw [face_short (by omega), face_plain g2, hnn] at hf
      exact name_no_pres h0 (l := s.data.toList) (by omega) (v := fnvL e.name.data.toList) (n := e.short) ⟨fnvL_lt _, h2, h3, hf.symm⟩
    · rw [face_short (by omega), face_short (by omega), hnn] at hf
      obtain ⟨e1, e2⟩ := nameL_inj (fnvL_lt _) (fnvL_lt _) h2 h3 hf
      have hlong : longB E s.data.toList = true := g1
      have hfree := (pick_free (l := l) hlong).2.1
      exact hfree (mem_shorts.2 ⟨e, he, e1, e2⟩)
structure MkOk (E : Int) (ns : List ByteArray) : Prop where
  good : ∀ s ∈ ns, goodB s = true
  nd : ns.Nodup
theorem goodSz {s : ByteArray} (h : goodB s = true) : s.size ≤ 255 := by
  rw [good_says] at h
  simp only [Bool.and_eq_true, decide_eq_true_iff] at h
  omega
theorem mkE_all {E : Int} (h0 : 0 ≤ E) (ns : List ByteArray) : ∀ (k : Nat), k ≤ ns.length → ns.length ≤ 100 → (∀ s ∈ ns.take k, goodB s = true) → (ns.take k).Nodup → (∀ e ∈ mkE E (ns.take k), Picked E e ∧ e.name.size ≤ 255) ∧ ((mkE E (ns.take k)).map (faceL E)).Nodup
  | 0, _, _, _, _ => by simp [mkE]
  | k + 1, hk, hn, hg, hd => by
    have hx : ns[k]? = some ns[k] := List.getElem?_eq_getElem hk
    have ht : ns.take (k + 1) = ns.take k ++ [ns[k]] := take_snocE hx
    rw [ht] at hg hd ⊢
    obtain ⟨i1, i2⟩ := mkE_all h0 ns k (by omega) hn (fun s hs => hg s (List.mem_append_left _ hs)) (List.nodup_append.1 hd).1
    have hgk := goodSz (hg ns[k] (List.mem_append_right _ (List.mem_singleton.2 rfl)))
    have hl : (mkE E (ns.take k)).length ≤ 1000 := by rw [mkE_len, List.length_take]; omega
    rw [mkE_snoc]
    refine ⟨fun e he => ?_, ?_⟩
    · rcases List.mem_append.1 he with h | h
      · exact i1 e h
      · rw [List.mem_singleton.1 h]
        exact ⟨newE_picked E _ _ hl, hgk⟩
    · rw [List.map_append, List.nodup_append]
      refine ⟨i2, by simp, fun a ha b hb => ?_⟩
      obtain ⟨e, he, rfl⟩ := List.mem_map.1 ha
      rw [List.map_singleton, List.mem_singleton] at hb
      subst hb
      refine new_face h0 hl (by omega) (fun e' he' => ⟨(i1 e' he').1, by have := (i1 e' he').2; omega, fun h => ?_⟩) e he
      have hm : e'.name ∈ ns.take k := by
        have := List.mem_map_of_mem (f := Ent.name) he'
        rwa [mkE_name] at this
      exact (List.nodup_append.1 hd).2.2 e'.name hm ns[k] (List.mem_singleton.2 rfl) h
theorem mkE_clean {E : Int} (h0 : 0 ≤ E) {ns : List ByteArray} (hn : ns.length ≤ 100) (hg : ∀ s ∈ ns, goodB s = true) (hd : ns.Nodup) : cleanB E (mkE E ns) = true := by
  obtain ⟨i1, i2⟩ := mkE_all h0 ns ns.length (Nat.le_refl _) hn (by rw [List.take_length]; exact hg) (by rw [List.take_length]; exact hd)
  rw [List.take_length] at i1 i2
  unfold cleanB
  rw [Bool.and_eq_true, List.all_eq_true]
  exact ⟨fun e he => picked_fits (i1 e he).1, decide_eq_true i2⟩
/-- The first entry with an entry's face is that entry. -/
theorem faced_own {E : Int} {l : List Ent} (hd : (l.map (faceL E)).Nodup) {i : Nat} {x : Ent} (hx : l[i]? = some x) : faced E l (faceL E x) = some x := by
  have hlt := (List.getElem?_eq_some_iff.1 hx).1
  have hsplit : l = l.take i ++ x :: l.drop (i + 1) := by
    rw [← drop_eq_cons hx]; exact (List.take_append_drop i l).symm
  rw [hsplit]
  refine faced_hit ?_ rfl
  unfold faced
  rw [List.find?_eq_none]
  intro y hy
  rw [hsplit, List.map_append, List.nodup_append] at hd
  have := hd.2.2 (faceL E y) (List.mem_map_of_mem hy) (faceL E x) (by simp)
  simpa using this
end Go.Proofs.YtbbgnhbkjbobgaaGreatDoor
