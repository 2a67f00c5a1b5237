/-
  Prepared for stage 10: the reference's tree: plain lists of entries, and what memory holds of them.
-/
import Derived.Test.YthaghhleidopeaaRowKit
import Derived.Maps.AppendAt
import Derived.Deep.Upon
namespace Go.Proofs.Ythaghhleidopeaa
open Go.RowKit Go.Sort
set_option linter.unusedVariables false

/-! Lists of structs in memory that nobody writes. -/
def LstIs {α : Type} (f : α → List Value) (c : Nat) (w : World) (v : Value) (l : List α) : Prop :=
  (l = [] ∧ ∃ a cap, v = .slice a 0 cap) ∨
  (∃ g off cap, g < w.heap.size ∧ v = .slice (some ⟨g, off, none⟩) l.length cap ∧ ∀ j x, l[j]? = some x → w.rangeAt g (off + j * c) (f x))
theorem rangeAt_below {w w' : World} {g p : Nat} {cs : List Value} (h : w.rangeAt g p cs) (hg : g < w.heap.size) (hb : Below w.heap.size w w') : w'.rangeAt g p cs := fun j v hj => by
  rw [hb.cell (p := ⟨g, p + j, none⟩) hg]
  exact h j v hj
theorem LstIs.kept {α : Type} {f : α → List Value} {c : Nat} {w w' : World} {v : Value} {l : List α} (h : LstIs f c w v l) (hb : Below w.heap.size w w') : LstIs f c w' v l := by
  rcases h with h | ⟨g, off, cap, hg, hv, hc⟩
  · exact Or.inl h
  · exact Or.inr ⟨g, off, cap, by have := hb.size; omega, hv, fun j x hj => rangeAt_below (hc j x hj) hg hb⟩
theorem LstIs.len {α : Type} {f : α → List Value} {c : Nat} {w : World} {v : Value} {l : List α} (h : LstIs f c w v l) : ∃ a cap, v = .slice a l.length cap := by
  rcases h with ⟨rfl, a, cap, hv⟩ | ⟨g, off, cap, hg, hv, hc⟩
  · exact ⟨a, cap, hv⟩
  · exact ⟨_, cap, hv⟩
theorem LstIs.at {α : Type} {f : α → List Value} {c : Nat} {w : World} {a : Option Addr} {n cap : Nat} {l : List α} (h : LstIs f c w (.slice a n cap) l) {j : Nat} {x : α} (hj : l[j]? = some x) : ∃ g off, a = some ⟨g, off, none⟩ ∧ g < w.heap.size ∧ w.rangeAt g (off + j * c) (f x) := by
  rcases h with ⟨rfl, _⟩ | ⟨g, off, cap', hg, hv, hc⟩
  · cases hj
  · injection hv with h1 h2 h3
    exact ⟨g, off, h1, hg, hc j x hj⟩
theorem LstIs.nil {α : Type} (f : α → List Value) (c : Nat) (w : World) : LstIs f c w (.slice none 0 0) [] := Or.inl ⟨rfl, _, _, rfl⟩
theorem LstIs.own {α : Type} {f : α → List Value} {c : Nat} {B : Nat} {T : TypeId} {w : World} {v : Value} {n : Nat} {l : List α} (hc : ∀ x ∈ l, (f x).length = c) (h : w.ownsRow B T c v n (l.flatMap f)) (hn : n = l.length) : LstIs f c w v l := by
  subst hn
  rcases h.2 with ⟨hv, h0⟩ | ⟨g, cap, cur, hv, hg, hb, h1, h2, h3, h4⟩
  · exact Or.inl ⟨List.eq_nil_of_length_eq_zero h0, none, 0, by rw [hv]⟩
  · refine Or.inr ⟨g, 0, cap, (h.lt g (by rw [hv]; rfl)).2, hv, fun j x hj => ?_⟩
    have hb' : w.heap[g]? = some (.cells (l.flatMap f ++ cur.toList.drop (l.length * c)).toArray T (0, 0)) := by
      rw [hb, ← h4, List.take_append_drop]
    rw [Nat.zero_add]
    exact range_of_flat f c hc hj hb'

/-! Entries, items. -/
structure Ent where
  name : ByteArray
  node : Int
  dir : Bool
  cookie : Int
  short : Int
deriving DecidableEq, Inhabited
structure Itm where
  inn : Int
  e : Ent
deriving DecidableEq, Inhabited
def entC (e : Ent) : List Value := [.string e.name, .int .i64 e.node, .bool e.dir, .int .i64 e.cookie, .int .i64 e.short]
def itmC (x : Itm) : List Value := .int .i64 x.inn :: entC x.e
abbrev EntsIs := @LstIs Ent entC 5
abbrev ItmsIs := @LstIs Itm itmC 6
theorem entC_len (l : List Ent) : ∀ x ∈ l, (entC x).length = 5 := fun _ _ => rfl
theorem itmC_len (l : List Itm) : ∀ x ∈ l, (itmC x).length = 6 := fun _ _ => rfl
theorem entC_one (e : Ent) : ∀ v ∈ entC e, v.oneCell' = true := fun v hv => by
  simp [entC] at hv
  rcases hv with rfl | rfl | rfl | rfl | rfl <;> rfl
theorem itmC_one (e : Itm) : ∀ v ∈ itmC e, v.oneCell' = true := fun v hv => by
  rcases List.mem_cons.1 hv with rfl | hv
  · rfl
  · exact entC_one _ v hv
def noEnt : Ent := ⟨⟨#[]⟩, 0, false, 0, 0⟩
def entV (e : Ent) : Value := .agg #[.string e.name, .int .i64 e.node, .bool e.dir, .int .i64 e.cookie, .int .i64 e.short]
def treeV (v : Value) (nx : Int) : Value := .agg #[v, .int .i64 nx]
theorem ent_at {w : World} {g p : Nat} {x : Ent} (h : w.rangeAt g p (entC x)) : w.cell? ⟨g, p, none⟩ = some (.string x.name) ∧ w.cell? ⟨g, p + 1, none⟩ = some (.int .i64 x.node) ∧ w.cell? ⟨g, p + 2, none⟩ = some (.bool x.dir) ∧ w.cell? ⟨g, p + 3, none⟩ = some (.int .i64 x.cookie) ∧ w.cell? ⟨g, p + 4, none⟩ = some (.int .i64 x.short) :=
  ⟨h 0 _ rfl, h 1 _ rfl, h 2 _ rfl, h 3 _ rfl, h 4 _ rfl⟩
theorem itm_at {w : World} {g p : Nat} {x : Itm} (h : w.rangeAt g p (itmC x)) : w.cell? ⟨g, p, none⟩ = some (.int .i64 x.inn) ∧ w.cell? ⟨g, p + 1, none⟩ = some (.string x.e.name) ∧ w.cell? ⟨g, p + 2, none⟩ = some (.int .i64 x.e.node) ∧ w.cell? ⟨g, p + 3, none⟩ = some (.bool x.e.dir) ∧ w.cell? ⟨g, p + 4, none⟩ = some (.int .i64 x.e.cookie) ∧ w.cell? ⟨g, p + 5, none⟩ = some (.int .i64 x.e.short) :=
  ⟨h 0 _ rfl, h 1 _ rfl, h 2 _ rfl, h 3 _ rfl, h 4 _ rfl, h 5 _ rfl⟩

/-! The reference's answers. -/
def nodeAt (l : List Itm) (n : Int) : Option Itm := l.find? fun x => decide (x.e.node = n)
def kindGo (l : List Itm) (n : Int) : Int := match nodeAt l n with
  | some x => if x.e.dir = true then 2 else 1
  | none => 0
def kindI (l : List Itm) (n : Int) : Int := if n = 0 then 2 else kindGo l n
def aboveI (l : List Itm) (n : Int) : Int := match nodeAt l n with
  | some x => x.inn
  | none => -1
def entsI (l : List Itm) (d : Int) : List Ent := (l.filter fun x => decide (x.inn = d)).map Itm.e
/-- An error's number: none such, a file, fine. -/
def listE (l : List Itm) (d : Int) : Int := if kindI l d = 0 then 5 else if kindI l d = 1 then 8 else 0
def listI (l : List Itm) (d : Int) : List Ent := if listE l d = 0 then entsI l d else []
def named (l : List Ent) (s : ByteArray) : Option Ent := l.find? fun x => decide (x.name = s)
def findI (l : List Itm) (d : Int) (s : ByteArray) : Ent × Int := match named (listI l d) s with
  | some x => (x, 0)
  | none => (noEnt, if listE l d = 0 then 5 else listE l d)
def dropI (l : List Itm) (d : Int) (s : ByteArray) : List Itm := l.filter fun x => !(decide (x.inn = d) && decide (x.e.name = s))
theorem nodeAt_cons (x : Itm) (l : List Itm) (n : Int) : nodeAt (x :: l) n = if x.e.node = n then some x else nodeAt l n := by
  unfold nodeAt
  rw [List.find?_cons]
  by_cases h : x.e.node = n <;> simp [h]
theorem kindGo_cons (x : Itm) (l : List Itm) (n : Int) : kindGo (x :: l) n = if x.e.node = n then (if x.e.dir = true then 2 else 1) else kindGo l n := by
  unfold kindGo
  rw [nodeAt_cons]
  by_cases h : x.e.node = n
  · rw [if_pos h, if_pos h]
  · rw [if_neg h, if_neg h]
theorem aboveI_cons (x : Itm) (l : List Itm) (n : Int) : aboveI (x :: l) n = if x.e.node = n then x.inn else aboveI l n := by
  unfold aboveI
  rw [nodeAt_cons]
  by_cases h : x.e.node = n
  · rw [if_pos h, if_pos h]
  · rw [if_neg h, if_neg h]
theorem kindGo_cases (l : List Itm) (n : Int) : kindGo l n = 0 ∨ kindGo l n = 1 ∨ kindGo l n = 2 := by
  unfold kindGo
  split
  · split
    · exact Or.inr (Or.inr rfl)
    · exact Or.inr (Or.inl rfl)
  · exact Or.inl rfl
theorem kindI_cases (l : List Itm) (n : Int) : kindI l n = 0 ∨ kindI l n = 1 ∨ kindI l n = 2 := by
  unfold kindI
  split
  · exact Or.inr (Or.inr rfl)
  · exact kindGo_cases l n
theorem drop_eq_cons {α : Type} {l : List α} {i : Nat} {x : α} (h : l[i]? = some x) : l.drop i = x :: l.drop (i + 1) := by
  obtain ⟨hlt, he⟩ := List.getElem?_eq_some_iff.1 h
  rw [List.drop_eq_getElem_cons hlt, he]
end Go.Proofs.Ythaghhleidopeaa
