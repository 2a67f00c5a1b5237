/-
  What the law TreeMakes keeps while its trees are worked on: its map, the lists in it, its arguments.
-/
import Derived.Test.YtddobjhahohhhaaGreatTrMake
import Derived.Test.YtddobjhahohhhaaGreatMkOwn
import Derived.Test.YtddobjhahohhhaaGreatQI
namespace Go.Proofs.YtddobjhahohhhaaGreat
open Go.RowKit Go.Sort
set_option linter.unusedVariables false
set_option linter.unusedSimpArgs false

theorem MapF.same {P : Program} {k : TypeId} {w w' : World} {b n c : Nat} {F : Int → Option Value} (h : MapF P k w b n F c) (hb : w'.heap[b]? = w.heap[b]?) : MapF P k w' b n F c := by
  obtain ⟨D, ⟨es, cl, h1, h2⟩, h3⟩ := h
  exact ⟨D, ⟨es, cl, hb.trans h1, h2⟩, h3⟩
theorem ents_keep {w w' : World} {v : Value} {l : List Ent} (h : EntsIs w v l) (hs : w.heap.size ≤ w'.heap.size) (hk : l ≠ [] → ∀ g, v.ownBlock = some g → w'.heap[g]? = w.heap[g]?) : EntsIs w' v l := by
  by_cases hl : l = []
  · subst hl
    rcases h with h | ⟨g, off, cap, hg, hv, _⟩
    · exact Or.inl h
    · exact Or.inl ⟨rfl, _, cap, by rw [hv]; rfl⟩
  · exact h.only hs (hk hl)
/-- Blocks from B on stay (and there are none fewer). -/
structure Hi (B : Nat) (w w' : World) : Prop where
  size : w.heap.size ≤ w'.heap.size
  block : ∀ k, B ≤ k → k < w.heap.size → w'.heap[k]? = w.heap[k]?
theorem Hi.of_below {B : Nat} {w w' : World} (h : Below w.heap.size w w') : Hi B w w' := ⟨h.size, fun k _ hk => h.block k hk⟩
theorem Hi.trans {B : Nat} {a b c : World} (h : Hi B a b) (h' : Hi B b c) : Hi B a c := ⟨Nat.le_trans h.size h'.size, fun k h1 h2 => (h'.block k h1 (Nat.lt_of_lt_of_le h2 h.size)).trans (h.block k h1 h2)⟩
theorem Hi.of_trod {B : Nat} {w w' : World} {S S' : Nat → Prop} (h : Trod w w' S S') (hS : ∀ k, B ≤ k → k < w.heap.size → ¬ S k) : Hi B w w' := ⟨h.size, fun k h1 h2 => h.rest k h2 (hS k h1 h2)⟩
/-- The map at mb and its lists, all from block B on. -/
structure DirsHi (B : Nat) (w : World) (mb n : Nat) (F : Int → Option Value) (cnt : Nat) (G : DirsG) : Prop where
  f : MapF Tryz.prog 3 w mb n F cnt
  g : ∀ x, inI64 x → match F x with
    | none => G x = none
    | some v => ∃ l, G x = some l ∧ EntsIs w v l ∧ (l ≠ [] → ∀ g, v.ownBlock = some g → B ≤ g ∧ g < w.heap.size)
  mb : B ≤ mb
theorem DirsHi.at' {B : Nat} {w : World} {mb n cnt : Nat} {F : Int → Option Value} {G : DirsG} (h : DirsHi B w mb n F cnt G) : DirsAt w mb n F G := by
  refine ⟨⟨cnt, h.f⟩, fun x hx => ?_⟩
  have hg := h.g x hx
  cases hv : F x with
  | none => rw [hv] at hg; exact hg
  | some v =>
    rw [hv] at hg
    obtain ⟨l, h1, h2, _⟩ := hg
    exact ⟨l, h1, h2⟩
theorem DirsHi.hi {B : Nat} {w w' : World} {mb n cnt : Nat} {F : Int → Option Value} {G : DirsG} (h : DirsHi B w mb n F cnt G) (hh : Hi B w w') : DirsHi B w' mb n F cnt G := by
  refine ⟨h.f.same (hh.block mb h.mb h.f.lt), fun x hx => ?_, h.mb⟩
  have hg := h.g x hx
  cases hv : F x with
  | none => rw [hv] at hg; exact hg
  | some v =>
    rw [hv] at hg
    obtain ⟨l, h1, h2, h3⟩ := hg
    exact ⟨l, h1, ents_keep h2 hh.size fun hne g hg => hh.block g (h3 hne g hg).1 (h3 hne g hg).2, fun hne g hg => ⟨(h3 hne g hg).1, Nat.lt_of_lt_of_le (h3 hne g hg).2 hh.size⟩⟩
theorem turned_block {w w' : World} {b : Nat} (h : w.mapTurned w' b) : w'.heap.size = w.heap.size ∧ (∀ k, k ≠ b → w'.heap[k]? = w.heap[k]?) ∧ w'.os = w.os ∧ w'.tape = w.tape ∧ w'.output = w.output := by
  obtain ⟨es, cl, es', cl', h1, rfl⟩ := h
  refine ⟨by show (w.heap.setIfInBounds b _).size = _; simp, fun k hk => ?_, rfl, rfl, rfl⟩
  show (w.heap.setIfInBounds b _)[k]? = _
  rw [Array.getElem?_setIfInBounds_ne (fun e => hk e.symm)]
def updG (G : DirsG) (x : Int) (l : Option (List Ent)) : DirsG := fun y => if y = x then l else G y
/-- A key is set. -/
theorem DirsHi.set {B : Nat} {w : World} {mb n cnt : Nat} {F : Int → Option Value} {G : DirsG} (h : DirsHi B w mb n F cnt G) (hn : n < maxLen) {x : Int} (hx : inI64 x) {v : Value} {l : List Ent} (he : EntsIs w v l) (hv : l ≠ [] → ∀ g, v.ownBlock = some g → B ≤ g ∧ g < w.heap.size) :
    ∃ w', (Instr.mapUpdate 77 (.map (some mb)) (.int .i64 x) v).run Tryz.prog w = .ok () w' ∧ DirsHi B w' mb (n + 1) (updF F x (some v)) (if (F x).isSome = true then cnt else cnt + 1) (updG G x (some l)) ∧ w.mapTurned w' mb := by
  obtain ⟨w', h1, h2, h3⟩ := h.f.update Tryz.underlying3 Tryz.underlying77 hn hx v
  obtain ⟨t1, t2, _⟩ := turned_block h3
  obtain ⟨es, cl, hmm⟩ := h.f.isMap
  have keep : ∀ {v : Value} {l : List Ent}, EntsIs w v l → EntsIs w' v l := fun {v l} he => by
    rcases he with he | ⟨g, off, cap, hg, hvv, hc⟩
    · exact Or.inl he
    · rcases l with _ | ⟨y, r⟩
      · exact Or.inl ⟨rfl, _, cap, by rw [hvv]; rfl⟩
      · have hne : g ≠ mb := by
          rintro rfl
          have h9 := hc 0 y rfl 0 _ rfl
          unfold World.cell? at h9
          rw [hmm] at h9
          simp at h9
        refine Or.inr ⟨g, off, cap, by rw [t1]; exact hg, hvv, fun j x hj => ?_⟩
        intro i u hu
        rw [World.cell?_of_block (t2 g hne)]
        exact hc j x hj i u hu
  refine ⟨w', h1, ⟨h2, fun y hy => ?_, h.mb⟩, h3⟩
  unfold updF updG
  by_cases e : y = x
  · rw [if_pos e, if_pos e]
    exact ⟨l, rfl, keep he, fun hne g hg => by rw [t1]; exact hv hne g hg⟩
  · rw [if_neg e, if_neg e]
    have hg := h.g y hy
    cases hF : F y with
    | none => rw [hF] at hg; exact hg
    | some v' =>
      rw [hF] at hg
      obtain ⟨l', g1, g2, g3⟩ := hg
      exact ⟨l', g1, keep g2, fun hne g hg => by rw [t1]; exact g3 hne g hg⟩
/-- A key is struck. -/
theorem DirsHi.cut {B : Nat} {w : World} {mb n cnt : Nat} {F : Int → Option Value} {G : DirsG} (h : DirsHi B w mb n F cnt G) {x : Int} (hx : inI64 x) (ty : TypeId) :
    ∃ w', (Builtin.delete_ #[77, 3] ty #[.map (some mb), .int .i64 x]).run Tryz.prog w = .ok (.tuple #[]) w' ∧ DirsHi B w' mb n (updF F x none) (if (F x).isSome = true then cnt - 1 else cnt) (updG G x none) ∧ w.mapTurned w' mb := by
  obtain ⟨w', h1, h2, h3⟩ := h.f.delete Tryz.underlying3 Tryz.underlying77 hx ty
  obtain ⟨t1, t2, _⟩ := turned_block h3
  obtain ⟨es, cl, hmm⟩ := h.f.isMap
  have keep : ∀ {v : Value} {l : List Ent}, EntsIs w v l → EntsIs w' v l := fun {v l} he => by
    rcases he with he | ⟨g, off, cap, hg, hvv, hc⟩
    · exact Or.inl he
    · rcases l with _ | ⟨y, r⟩
      · exact Or.inl ⟨rfl, _, cap, by rw [hvv]; rfl⟩
      · have hne : g ≠ mb := by
          rintro rfl
          have h9 := hc 0 y rfl 0 _ rfl
          unfold World.cell? at h9
          rw [hmm] at h9
          simp at h9
        refine Or.inr ⟨g, off, cap, by rw [t1]; exact hg, hvv, fun j x hj => ?_⟩
        intro i u hu
        rw [World.cell?_of_block (t2 g hne)]
        exact hc j x hj i u hu
  refine ⟨w', h1, ⟨h2, fun y hy => ?_, h.mb⟩, h3⟩
  unfold updF updG
  by_cases e : y = x
  · rw [if_pos e, if_pos e]
  · rw [if_neg e, if_neg e]
    have hg := h.g y hy
    cases hF : F y with
    | none => rw [hF] at hg; exact hg
    | some v' =>
      rw [hF] at hg
      obtain ⟨l', g1, g2, g3⟩ := hg
      exact ⟨l', g1, keep g2, fun hne g hg => by rw [t1]; exact g3 hne g hg⟩
/-- Is a block one of another type than the tree's? -/
theorem theOff {w : World} {b : Nat} {l : List Itm} {nx : Int} {S : Nat → Prop} (h : theTree.Is w b l nx S) {g : Nat} {cs : Array Value} {t : TypeId} {fr : Nat × Nat} (hg : w.heap[g]? = some (.cells cs t fr)) (ht : t ≠ 96 ∧ t ≠ 84 ∧ t ≠ 3) : ¬ S g := by
  obtain ⟨R, u, v, ys, hm, _, _, rfl⟩ := h
  intro hs
  have key : ∃ T cs', w.heap[g]? = some (.cells cs' T (0, 0)) ∧ (T = 96 ∨ T = 84 ∨ T = 3) := by
    rcases hs with rfl | ⟨n, hn, hgg⟩ | hgg
    · obtain ⟨cs', h1, _⟩ := hm.cells
      exact ⟨_, cs', h1, Or.inl rfl⟩
    · obtain ⟨cs', h1⟩ := ownsRow_typ (hm.rows n hn) hgg
      exact ⟨_, cs', h1, Or.inr (Or.inl rfl)⟩
    · obtain ⟨cs', h1⟩ := ownsRow_typ hm.own hgg
      exact ⟨_, cs', h1, Or.inr (Or.inr rfl)⟩
  obtain ⟨T, cs', h1, h2⟩ := key
  rw [hg] at h1
  injection h1 with h1
  injection h1 with _ h3 _
  rcases h2 with h2 | h2 | h2
  · exact ht.1 (h3.trans h2)
  · exact ht.2.1 (h3.trans h2)
  · exact ht.2.2 (h3.trans h2)
end Go.Proofs.YtddobjhahohhhaaGreat
