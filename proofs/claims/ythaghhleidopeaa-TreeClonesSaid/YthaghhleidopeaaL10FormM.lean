/-
  Prepared for stage 10: what 'formed' asks, said plainly.
-/
import Derived.Test.YthaghhleidopeaaL10Reach
import Derived.Test.YthaghhleidopeaaMapF
namespace Go.Proofs.Ythaghhleidopeaa
open Go.RowKit Go.Sort
set_option linter.unusedVariables false

abbrev DirsG := Int → Option (List Ent)
def allI (G : DirsG) (keys : List Int) : List Itm := keys.flatMap fun q => ((G q).getD []).map (Itm.mk q)
def thereI (G : DirsG) (keys : List Int) : List Int := keys.filter fun q => (G q).isSome
def keysI (d : List Int) (other : Int) : List Int := if other ∈ d then d else d ++ [other]
def risingE (l : List Ent) : Prop := ∀ i x y, l[i]? = some x → l[i + 1]? = some y → x.cookie < y.cookie
def clash (x y : Itm) : Prop := x.e.node = y.e.node ∨ x.e.cookie = y.e.cookie ∨ (x.inn = y.inn ∧ x.e.name = y.e.name)
instance (x y : Itm) : Decidable (clash x y) := by unfold clash; infer_instance
def okItm (cookie : Int) (there : List Int) (x : Itm) : Prop := badE x.e.name x.e.short = 0 ∧ 1 ≤ x.e.node ∧ x.e.node ≤ 200 ∧ 1 ≤ x.e.cookie ∧ x.e.cookie < cookie ∧ decide (x.e.node ∈ there) = x.e.dir
instance (cookie : Int) (there : List Int) (x : Itm) : Decidable (okItm cookie there x) := by unfold okItm; infer_instance
def apartTo (all : List Itm) (i : Nat) : Prop := ∀ j k x y, j < i → k < j → all[j]? = some x → all[k]? = some y → ¬ clash y x
structure Formed (cookie : Int) (G : DirsG) (keys : List Int) : Prop where
  rise : ∀ q ∈ keys, ∀ l, G q = some l → risingE l
  pos : 1 ≤ cookie
  root : (0 : Int) ∈ thereI G keys
  ok : ∀ x ∈ allI G keys, okItm cookie (thereI G keys) x
  apart : apartTo (allI G keys) (allI G keys).length
  reach : ∀ t ∈ thereI G keys, Reach (allI G keys) t
/-- The map's block, and the lists that its slices hold. -/
structure DirsAt (w : World) (b n : Nat) (F : Int → Option Value) (G : DirsG) : Prop where
  f : ∃ c, MapF Try.prog 3 w b n F c
  g : ∀ x, inI64 x → match F x with
    | none => G x = none
    | some v => ∃ l, G x = some l ∧ EntsIs w v l
theorem DirsAt.below {w w' : World} {b n : Nat} {F : Int → Option Value} {G : DirsG} (h : DirsAt w b n F G) (hb : Below w.heap.size w w') : DirsAt w' b n F G := by
  obtain ⟨c, hf⟩ := h.f
  refine ⟨⟨c, hf.below hb⟩, fun x hx => ?_⟩
  have hg := h.g x hx
  cases hv : F x with
  | none => rw [hv] at hg; exact hg
  | some v =>
    rw [hv] at hg
    obtain ⟨l, h1, h2⟩ := hg
    exact ⟨l, h1, h2.kept hb⟩
theorem DirsAt.no {w : World} {b n : Nat} {F : Int → Option Value} {G : DirsG} (h : DirsAt w b n F G) {x : Int} (hx : inI64 x) (hv : F x = none) : G x = none := by
  have := h.g x hx
  rw [hv] at this
  exact this
theorem DirsAt.yes {w : World} {b n : Nat} {F : Int → Option Value} {G : DirsG} (h : DirsAt w b n F G) {x : Int} (hx : inI64 x) {v : Value} (hv : F x = some v) : ∃ l, G x = some l ∧ EntsIs w v l := by
  have := h.g x hx
  rw [hv] at this
  exact this
theorem DirsAt.look {w W : World} {b n : Nat} {F : Int → Option Value} {G : DirsG} (h : DirsAt w b n F G) (hb : Below w.heap.size w W) {x : Int} (hx : inI64 x) : ∃ v l, EntsIs w v l ∧ (G x).getD [] = l ∧ (Instr.lookup 64 (.map (some b)) (.int .i64 x) true).run Try.prog W = .ok (.tuple #[v, .bool (G x).isSome]) W ∧ (Instr.lookup 64 (.map (some b)) (.int .i64 x) false).run Try.prog W = .ok v W := by
  obtain ⟨c, hf⟩ := h.f
  obtain ⟨h1, h2⟩ := (hf.below hb).look Try.underlying3 Try.underlying64 (z := .slice none 0 0) (by kernel_rfl) hx
  cases hv : F x with
  | none =>
    rw [hv] at h1 h2
    refine ⟨.slice none 0 0, [], LstIs.nil _ _ _, by rw [h.no hx hv]; rfl, ?_, h2⟩
    rw [h.no hx hv]
    exact h1
  | some v =>
    rw [hv] at h1 h2
    obtain ⟨l, hl, he⟩ := h.yes hx hv
    refine ⟨v, l, he, by rw [hl]; rfl, ?_, h2⟩
    rw [hl]
    exact h1
theorem LstIs.spot {α : Type} {f : α → List Value} {c : Nat} {w : World} {g off n cap : Nat} {l : List α} (h : LstIs f c w (.slice (some ⟨g, off, none⟩) n cap) l) {j : Nat} {x : α} (hj : l[j]? = some x) : w.rangeAt g (off + j * c) (f x) := by
  obtain ⟨g', off', he, _, hr⟩ := h.at hj
  injection he with he
  injection he with e1 e2
  subst e1 e2
  exact hr
theorem rise_none (l : List Ent) : risingE (l.take 0) := fun i x y h => by simp at h
theorem rise_snoc {l : List Ent} {k : Nat} {y : Ent} (h : risingE (l.take k)) (hy : l[k]? = some y) (hp : ∀ p x, k = p + 1 → l[p]? = some x → x.cookie < y.cookie) : risingE (l.take (k + 1)) := by
  intro i x z hx hz
  rw [List.getElem?_take] at hx hz
  by_cases h1 : i + 1 < k
  · rw [if_pos (by omega)] at hx hz
    exact h i x z (by rw [List.getElem?_take, if_pos (by omega)]; exact hx) (by rw [List.getElem?_take, if_pos h1]; exact hz)
  · split at hz
    · rename_i h2
      have hk : k = i + 1 := by omega
      rw [if_pos (by omega)] at hx
      rw [← hk, hy] at hz
      obtain rfl := Option.some.inj hz
      exact hp i x hk hx
    · cases hz
theorem rise_bad {l : List Ent} {p : Nat} {x y : Ent} (hx : l[p]? = some x) (hy : l[p + 1]? = some y) (h : ¬ x.cookie < y.cookie) : ¬ risingE l := fun hr => h (hr p x y hx hy)
theorem allI_mid {G : DirsG} {keys : List Int} {i k : Nat} {q : Int} {l : List Ent} {y : Ent} (hy : l[k]? = some y) : allI G (keys.take i) ++ (l.take (k + 1)).map (Itm.mk q) = (allI G (keys.take i) ++ (l.take k).map (Itm.mk q)) ++ [⟨q, y⟩] := by
  rw [take_snoc hy, List.map_append, List.append_assoc]
  rfl
theorem allI_snoc {G : DirsG} {keys : List Int} {i : Nat} {q : Int} (h : keys[i]? = some q) : allI G (keys.take (i + 1)) = allI G (keys.take i) ++ ((G q).getD []).map (Itm.mk q) := by
  unfold allI
  rw [take_snoc h, List.flatMap_append]
  simp
theorem thereI_snoc {G : DirsG} {keys : List Int} {i : Nat} {q : Int} (h : keys[i]? = some q) : thereI G (keys.take (i + 1)) = thereI G (keys.take i) ++ (if (G q).isSome = true then [q] else []) := by
  unfold thereI
  rw [take_snoc h, List.filter_append]
  congr 1
  by_cases h : (G q).isSome = true <;> simp [h]
theorem allI_le {G : DirsG} {keys : List Int} {i : Nat} : (allI G (keys.take i)).length ≤ (allI G keys).length := by
  unfold allI
  conv => rhs; rw [← List.take_append_drop i keys, List.flatMap_append, List.length_append]
  omega
theorem thereI_le {G : DirsG} {keys : List Int} : (thereI G keys).length ≤ keys.length := List.length_filter_le _ _
/-- Two own rows of different types. -/
theorem own_beside {B B' : Nat} {T T' : TypeId} {c c' : Nat} {w w' : World} {v v' : Value} {n n' : Nat} {xs xs' : List Value} (h : w.ownsRow B T c v n xs) (h' : w.ownsRow B' T' c' v' n' xs') (hT : T ≠ T') (hg : w.grownBy w' v'.ownBlock) : w'.ownsRow B T c v n xs := by
  refine World.ownsRow.kept h hg ?_
  cases hv : v.ownBlock with
  | none => exact Or.inl rfl
  | some k =>
    right
    intro e
    rcases h.2 with ⟨h1, _⟩ | ⟨g, cap, cur, h1, _, hb, _⟩
    · rw [h1] at hv; cases hv
    · rw [h1] at hv
      obtain rfl := Option.some.inj hv
      rcases h'.2 with ⟨h2, _⟩ | ⟨g', cap', cur', h2, _, hb', _⟩
      · rw [h2] at e; cases e
      · rw [h2] at e
        obtain rfl := Option.some.inj e
        exact block_ne hb hb' hT rfl
theorem own_below {B : Nat} {T : TypeId} {c : Nat} {w w' : World} {v : Value} {n : Nat} {xs : List Value} (h : w.ownsRow B T c v n xs) (hb : Below w.heap.size w w') : w'.ownsRow B T c v n xs :=
  h.kept (row := Option.none) ⟨hb.os, hb.tape, hb.output, hb.size, fun k hk _ => hb.block k hk⟩ (by cases v.ownBlock <;> simp)
theorem link_empty (s : ByteArray) (sh : Int) : linkI [] 1 0 s false sh = if badE s sh = 0 then (([⟨0, ⟨s, 1, false, 1, sh⟩⟩], 2), 1, 0) else (([], 1), 0, badE s sh) := by
  unfold linkI
  have h1 : listE [] 0 = 0 := by decide
  have h2 : (findI [] 0 s).2 = 5 := rfl
  have h3 : freeN [] = 1 := by decide
  rw [h1, h2, h3]
  by_cases h : badE s sh = 0
  · rw [if_pos h, if_neg (by simp), if_neg (by rw [h]; simp), if_neg (by simp), if_neg (by simp)]
    rfl
  · rw [if_neg h, if_neg (by simp), if_pos h]
theorem below_step {B : Nat} {W0 W W' : World} (hB : B ≤ W0.heap.size) (h : Below B W0 W) (h' : Below W.heap.size W W') : Below B W0 W' := h.trans (h'.mono (Nat.le_trans hB h.size))
theorem below_store {B : Nat} {W0 W : World} {x y : Value} {o : Obj} (hB : B ≤ W0.heap.size) (h : Below B W0 W) : Below B W0 (((W.alloc o).setCell ⟨W.heap.size, 0, none⟩ x).setCell ⟨W.heap.size, 1, none⟩ y) := below_two (below_al h hB) (Nat.le_trans hB h.size)
/-- The reference's Link on an empty tree, as the law asks of a name and a short. -/
theorem link_trial (s : ByteArray) (hs : s.size ≤ 9223372036854775807) (sh : Int) : ∃ (m : Nat) (nx k f : Int), (f = badE s sh ∧ (f = 0 → m = 1)) ∧ ∀ W, Calls Try.prog 24 #[.agg #[.slice none 0 0, .int .i64 1], .int .i64 0, .string s, .bool false, .int .i64 sh] W fun e w' => ∃ a c, e = .returned (.tuple #[.agg #[.slice a m c, .int .i64 nx], .int .i64 k, .int .i64 f]) ∧ Below W.heap.size W w' := by
  obtain ⟨r, hr⟩ : ∃ r, linkI [] 1 0 s false sh = r := ⟨_, rfl⟩
  have he := link_empty s sh
  rw [hr] at he
  refine ⟨r.1.1.length, r.1.2, r.2.1, r.2.2, ?_, fun W => ?_⟩
  · subst he
    by_cases hb : badE s sh = 0
    · rw [if_pos hb, hb]; exact ⟨rfl, fun _ => rfl⟩
    · rw [if_neg hb]; exact ⟨rfl, fun h => absurd h hb⟩
  · have h := link10_c (.slice none 0 0) [] 1 0 s false sh W (ItmsT.nil W) (by simp) hs (by omega) (by omega)
    rw [hr] at h
    refine h.mono ?_
    rintro e w' ⟨v', rfl, hi, hb⟩
    obtain ⟨a, c, rfl⟩ := hi.1.len
    exact ⟨a, c, rfl, hb⟩
abbrev tree0 : Obj := .cells #[.slice none 0 0, .int .i64 0] 48
theorem tree_fresh (W : World) : (W.alloc tree0).heap[W.heap.size]? = some tree0 := heap_alloc_new _ _
theorem tree_kept {W W' : World} {q : Nat} (h : W.heap[q]? = some tree0) (hb : Below W.heap.size W W') : W'.heap[q]? = some tree0 := (hb.block q (lt_of_get h)).trans h
theorem tree_put {W : World} {q : Nat} (h : W.heap[q]? = some tree0) (x y : Value) : ((W.setCell ⟨q, 0, none⟩ x).setCell ⟨q, 1, none⟩ y).heap[q]? = some (.cells #[x, y] 48 (0, 0)) := by
  rw [heap_setCell_same _ q 1 _ _ _ (heap_setCell_same _ q 0 _ _ _ h)]
  rfl
end Go.Proofs.Ythaghhleidopeaa
