/- Kit. -/
import Derived.Test.YtfioknaadbgjlaaGreatDoorEQ4
import Derived.Test.YtfioknaadbgjlaaGreatDoorEQ1
import Derived.Maps.OwnSet
import Derived.Maps.OwnOps
import Derived.Maps.Range
set_option maxRecDepth 100000
set_option linter.unusedVariables false
set_option linter.unusedSimpArgs false
namespace Go.Proofs.YtfioknaadbgjlaaGreatDoor
open Go.RowKit Go.Sort
/-- What is below the root. -/
inductive Reach (all : List Itm) : Int → Prop where
  | root : Reach all 0
  | step {x : Itm} (h : Reach all x.inn) (hx : x ∈ all) (hd : x.e.dir = true) : Reach all x.e.node
/-- Those that are met: all below the root; of the first i, and of i by the first k items, all that is in them. -/
structure MetI (all : List Itm) (met : List Int) (i k : Nat) : Prop where
  nd : met.Nodup
  root : (0 : Int) ∈ met
  re : ∀ m ∈ met, Reach all m
  sub : ∀ m ∈ met, m = 0 ∨ m ∈ all.map fun x => x.e.node
  done : ∀ j, j < i → ∀ d, met[j]? = some d → ∀ x ∈ all, x.inn = d → x.e.dir = true → x.e.node ∈ met
  now : ∀ d, met[i]? = some d → ∀ x ∈ all.take k, x.inn = d → x.e.dir = true → x.e.node ∈ met
theorem nodup_sub_len : ∀ (l m : List Int), l.Nodup → (∀ x ∈ l, x ∈ m) → l.length ≤ m.length
  | [], m, _, _ => Nat.zero_le _
  | x :: l, m, hn, hs => by
    obtain ⟨h1, h2⟩ := List.nodup_cons.1 hn
    have hx : x ∈ m := hs x List.mem_cons_self
    have ih := nodup_sub_len l (m.erase x) h2 (fun y hy => (List.mem_erase_of_ne (show y ≠ x from fun e => h1 (by rw [← e]; exact hy))).2 (hs y (List.mem_cons_of_mem _ hy)))
    rw [List.length_erase_of_mem hx] at ih
    have : 0 < m.length := List.length_pos_of_mem hx
    rw [List.length_cons]
    omega
theorem MetI.add {all : List Itm} {met : List Int} {i k : Nat} {x : Itm} {d : Int} (h : MetI all met i k) (hx : all[k]? = some x) (hd : met[i]? = some d) (h1 : x.inn = d) (h2 : x.e.dir = true) (hn : x.e.node ∉ met) : MetI all (met ++ [x.e.node]) i (k + 1) := by
  have hxm : x ∈ all := List.mem_of_getElem? hx
  have hil : i < met.length := (List.getElem?_eq_some_iff.1 hd).1
  have hpos : ∀ j d', j ≤ i → (met ++ [x.e.node])[j]? = some d' → met[j]? = some d' := fun j d' hj hd' => by
    rwa [List.getElem?_append_left (by omega)] at hd'
  refine ⟨?_, List.mem_append_left _ h.root, fun m hm => ?_, fun m hm => ?_, fun j hj d' hd' y hy h3 h4 => List.mem_append_left _ (h.done j hj d' (hpos j d' (by omega) hd') y hy h3 h4), fun d' hd' y hy h3 h4 => ?_⟩
  · rw [List.nodup_append]
    exact ⟨h.nd, by simp, fun a ha b hb => by rw [List.mem_singleton.1 hb]; exact fun e => hn (e ▸ ha)⟩
  · rcases List.mem_append.1 hm with hm | hm
    · exact h.re m hm
    · rw [List.mem_singleton.1 hm]
      exact Reach.step (by rw [h1]; exact h.re d (List.mem_of_getElem? hd)) hxm h2
  · rcases List.mem_append.1 hm with hm | hm
    · exact h.sub m hm
    · rw [List.mem_singleton.1 hm]
      exact Or.inr (List.mem_map.2 ⟨x, hxm, rfl⟩)
  · rw [take_snoc hx, List.mem_append, List.mem_singleton] at hy
    rcases hy with hy | rfl
    · exact List.mem_append_left _ (h.now d' (hpos i d' (Nat.le_refl _) hd') y hy h3 h4)
    · exact List.mem_append_right _ (by simp)
theorem MetI.all {all : List Itm} {met : List Int} {i k : Nat} (h : MetI all met i k) (hi : met.length ≤ i) (m : Int) : Reach all m ↔ m ∈ met := by
  refine ⟨fun hr => ?_, h.re m⟩
  induction hr with
  | root => exact h.root
  | @step x hr hx hd ih =>
    obtain ⟨j, hj, he⟩ := List.getElem_of_mem ih
    exact h.done j (by omega) x.inn (List.getElem?_eq_some_iff.2 ⟨hj, he⟩) x hx rfl hd
end Go.Proofs.YtfioknaadbgjlaaGreatDoor
namespace Go.Proofs.YtfioknaadbgjlaaGreatDoor
open Go.RowKit Go.Sort Go.Maps
open Go.WideShapes
/-- An element as it stands. -/
def rawR (v : Value) : Option (DataW Value × List MemPlace) := some (.held v, [])
def inI64 (x : Int) : Prop := -9223372036854775808 ≤ x ∧ x ≤ 9223372036854775807
/-- Block b is a map keyed by int: F tells what stands at each key, c how many keys there are. -/
def MapF (P : Program) (k : TypeId) (w : World) (b n : Nat) (F : Int → Option Value) (c : Nat) : Prop :=
  ∃ D : DataW Value, w.ownsMap P k rawR b n D ∧ Maps.size D = c ∧ ∀ x, inI64 x → Maps.has D (.int .i64 x) = (F x).isSome ∧ ∀ v, F x = some v → ∀ z, D.atKey (.int .i64 x) z = .held v
section
variable {P : Program} {k e t : TypeId} {w w' : World} {b n c : Nat} {F : Int → Option Value}
theorem MapF.made (w : World) : MapF P k (w.alloc (.map #[] 0)) w.heap.size 0 (fun _ => none) 0 :=
  ⟨.map [], World.ownsMap_made _ _ _ _, rfl, fun x hx => ⟨rfl, fun v hv => by cases hv⟩⟩
end
end Go.Proofs.YtfioknaadbgjlaaGreatDoor
namespace Go.Proofs.YtfioknaadbgjlaaGreatDoor
open Go.RowKit Go.Sort
def clash (x y : Itm) : Prop := x.e.node = y.e.node ∨ x.e.cookie = y.e.cookie ∨ (x.inn = y.inn ∧ x.e.name = y.e.name)
instance (x y : Itm) : Decidable (clash x y) := by unfold clash; infer_instance
def okItm (cookie : Int) (there : List Int) (x : Itm) : Prop := badE x.e.name x.e.short = 0 ∧ 1 ≤ x.e.node ∧ x.e.node ≤ 200 ∧ 1 ≤ x.e.cookie ∧ x.e.cookie < cookie ∧ decide (x.e.node ∈ there) = x.e.dir
instance (cookie : Int) (there : List Int) (x : Itm) : Decidable (okItm cookie there x) := by unfold okItm; infer_instance
theorem LstIs.spot {α : Type} {f : α → List Value} {c : Nat} {w : World} {g off n cap : Nat} {l : List α} (h : LstIs f c w (.slice (some ⟨g, off, none⟩) n cap) l) {j : Nat} {x : α} (hj : l[j]? = some x) : w.rangeAt g (off + j * c) (f x) := by
  obtain ⟨g', off', he, _, hr⟩ := h.at hj
  injection he with he
  injection he with e1 e2
  subst e1 e2
  exact hr
theorem below_step {B : Nat} {W0 W W' : World} (hB : B ≤ W0.heap.size) (h : Below B W0 W) (h' : Below W.heap.size W W') : Below B W0 W' := h.trans (h'.mono (Nat.le_trans hB h.size))
abbrev tree0 : Obj := .cells #[.slice none 0 0, .int .i64 0] 28
theorem tree_fresh (W : World) : (W.alloc tree0).heap[W.heap.size]? = some tree0 := heap_alloc_new _ _
theorem tree_kept {W W' : World} {q : Nat} (h : W.heap[q]? = some tree0) (hb : Below W.heap.size W W') : W'.heap[q]? = some tree0 := (hb.block q (lt_of_get h)).trans h
end Go.Proofs.YtfioknaadbgjlaaGreatDoor
