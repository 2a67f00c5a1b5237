/- Kit. -/
import Derived.Test.YtfioknaadbgjlaaGreatDoorEWkFace
import Derived.Test.YtfioknaadbgjlaaGreatDoorEWC
import Derived.Test.YtfioknaadbgjlaaGreatDoorEF3
set_option maxRecDepth 100000
set_option linter.unusedVariables false
set_option linter.unusedSimpArgs false
namespace Go.Proofs.YtfioknaadbgjlaaGreatDoor
open Go.RowKit Go.Sort
theorem walkGo_app {fd : List Ent → List UInt8 → Option Ent} {l : List Itm} : ∀ (a b : List (List UInt8)) {n : Int} {d : Bool} {n' : Int} {d' : Bool}, walkGo fd l n d a = (n', d', 0) → walkGo fd l n d (a ++ b) = walkGo fd l n' d' b
  | [], b, n, d, n', d', h => by
    have h1 : (n, d, (0 : Int)) = (n', d', 0) := h
    injection h1 with h2 h3
    injection h3 with h3 _
    subst h2 h3
    rfl
  | x :: a, b, n, d, n', d', h => by
    cases d with
    | false =>
      rw [walkGo_file] at h
      injection h with _ h
      injection h with _ h
      cases h
    | true =>
      cases hf : fd (listI l n) x with
      | none =>
        rw [walkGo_none a hf] at h
        injection h with _ h
        injection h with _ h
        cases h
      | some e =>
        rw [walkGo_some a hf] at h
        rw [List.cons_append, walkGo_some _ hf]
        exact walkGo_app a b h
abbrev fdF (E : Int) : List Ent → List UInt8 → Option Ent := fun l s => F.faced E l s
/-- Names that lead to a directory, and can be a path's. -/
structure LeadsTo (E : Int) (l : List Itm) (ns : List (List UInt8)) (d : Int) : Prop where
  walk : walkI (fdF E) l ns = (d, true, 0)
  chars : ∀ y ∈ ns, ∀ c ∈ y, c ≠ 47
  part : ns.any badN = false
theorem LeadsTo.root (E : Int) (l : List Itm) : LeadsTo E l [] 0 := ⟨rfl, (fun y h => nomatch h), rfl⟩
section
variable {E : Int} {l : List Itm} {ns : List (List UInt8)} {d : Int} {es : List Ent} {i : Nat} {x : Ent}
/-- One step on: by the face of an entry of a clean directory. -/
theorem LeadsTo.more (h : LeadsTo E l ns d) (h0 : 0 ≤ E) (hc : F.cleanB E (listI l d) = true) (hx : (listI l d)[i]? = some x) (hn : x.name.data.toList ≠ []) (h1 : 0 ≤ x.short) (h2 : x.short ≤ 1000000) :
    walkI (fdF E) l (ns ++ [F.faceL E x]) = (x.node, x.dir, 0) ∧ (∀ y ∈ ns ++ [F.faceL E x], ∀ c ∈ y, c ≠ 47) ∧ (ns ++ [F.faceL E x]).any badN = false := by
  obtain ⟨p1, p2⟩ := F.face_part h0 hn h1 h2
  refine ⟨?_, ?_, ?_⟩
  · unfold walkI
    rw [walkGo_app ns _ h.walk]
    have hnd : ((listI l d).map (F.faceL E)).Nodup := by
      unfold F.cleanB at hc
      rw [Bool.and_eq_true] at hc
      exact of_decide_eq_true hc.2
    have hf : fdF E (listI l d) (F.faceL E x) = some x := F.faced_own hnd hx
    rw [walkGo_some _ hf]
    rfl
  · intro y hy
    rcases List.mem_append.1 hy with hy | hy
    · exact h.chars y hy
    · rw [List.mem_singleton.1 hy]; exact p1
  · rw [List.any_append, h.part]
    simp [p2]
theorem split_more {q : List UInt8} (hc : ∀ y ∈ ns ++ [q], ∀ c ∈ y, c ≠ 47) (hb : (ns ++ [q]).any badN = false) : splitI (joinP (ns ++ [q])) = ([], 4) ∨ splitI (joinP (ns ++ [q])) = (ns ++ [q], 0) := by
  cases hns : ns ++ [q] with
  | nil => simp at hns
  | cons y t =>
    rw [hns] at hc hb
    rw [splitI_of hc hb]
    split
    · exact Or.inl rfl
    · split
      · exact Or.inl rfl
      · exact Or.inr rfl
/-- What is told of the path by an entry's face. -/
theorem LeadsTo.told (h : LeadsTo E l ns d) (h0 : 0 ≤ E) (hc : F.cleanB E (listI l d) = true) (hx : (listI l d)[i]? = some x) (hn : x.name.data.toList ≠ []) (h1 : 0 ≤ x.short) (h2 : x.short ≤ 1000000)
    (hs : splitI (joinP (ns ++ [F.faceL E x])) = (ns ++ [F.faceL E x], 0)) :
    nodeI (fdF E) l (joinP (ns ++ [F.faceL E x])) = (x.node, x.dir, 0) ∧ parentI (fdF E) l (joinP (ns ++ [F.faceL E x])) = (d, F.faceL E x, 0) := by
  obtain ⟨hw, -, -⟩ := h.more h0 hc hx hn h1 h2
  constructor
  · unfold nodeI
    rw [hs, if_neg (fun k => k rfl), hw]
  · unfold parentI
    rw [hs, if_neg (fun k => k rfl), if_neg (by simp)]
    simp only [List.dropLast_concat]
    rw [h.walk, if_neg (fun k => k rfl), if_neg (fun k => Bool.noConfusion k)]
    simp
theorem LeadsTo.dir (h : LeadsTo E l ns d) (h0 : 0 ≤ E) (hc : F.cleanB E (listI l d) = true) (hx : (listI l d)[i]? = some x) (hn : x.name.data.toList ≠ []) (h1 : 0 ≤ x.short) (h2 : x.short ≤ 1000000) (hd : x.dir = true) : LeadsTo E l (ns ++ [F.faceL E x]) x.node := by
  obtain ⟨a, b, c⟩ := h.more h0 hc hx hn h1 h2
  exact ⟨by rw [a, hd], b, c⟩
end
theorem joinP_more (ns : List (List UInt8)) (q : List UInt8) : joinP (ns ++ [q]) = joinP ns ++ (47 :: q) := by simp [joinP]
/-- An entry of a tree: its name, its short. -/
theorem ent_parts {w : World} {b : Nat} {l : List Itm} {nx : Int} {S : Nat → Prop} (h : theTree.Is w b l nx S) {d : Int} : ∀ e ∈ listI l d, e.name.data.toList ≠ [] ∧ 0 ≤ e.short ∧ e.short ≤ 1000000 ∧ e.name.size ≤ 255 := by
  refine listI_ok (ok := fun e => e.name.data.toList ≠ [] ∧ 0 ≤ e.short ∧ e.short ≤ 1000000 ∧ e.name.size ≤ 255) (fun x hx => ?_) d
  have hb := (theGood h).form x hx
  unfold badE at hb
  split at hb
  · rename_i hg
    split at hb
    · exact absurd hb (by decide)
    · unfold goodB at hg
      simp only [Bool.and_eq_true, decide_eq_true_eq] at hg
      refine ⟨fun e => hg.2.1 (by rw [ByteArray.toList_eq]; exact e), by omega, by omega, hg.2.2.1⟩
  · exact absurd hb (by decide)
end Go.Proofs.YtfioknaadbgjlaaGreatDoor
