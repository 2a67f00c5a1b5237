/-
  TreeMakes' mathematics: just what makes a tree is filled whole.
-/
import Derived.Test.YtddobjhahohhhaaGreatMkMath
namespace Go.Proofs.YtddobjhahohhhaaGreat
open Go.RowKit Go.Sort
set_option linter.unusedVariables false
set_option linter.unusedSimpArgs false

theorem clash_symm {x y : Itm} (h : clash x y) : clash y x := by
  unfold clash at *
  rcases h with h | h | ⟨h, h2⟩
  · exact Or.inl h.symm
  · exact Or.inr (Or.inl h.symm)
  · exact Or.inr (Or.inr (And.intro h.symm h2.symm))
theorem apart_iff (all : List Itm) : apartTo all all.length ↔ all.Pairwise fun a b => ¬ clash a b := by
  rw [List.pairwise_iff_getElem]
  unfold apartTo
  constructor
  · intro h i j hi hj hij
    exact h j i _ _ hj hij (List.getElem?_eq_getElem hj) (List.getElem?_eq_getElem hi)
  · intro h j k x y hj hk hx hy
    obtain ⟨h1, h2⟩ := List.getElem?_eq_some_iff.1 hx
    obtain ⟨h3, h4⟩ := List.getElem?_eq_some_iff.1 hy
    rw [← h2, ← h4]
    exact h k j h3 h1 hk
theorem all_mem {G : DirsG} {keys : List Int} {x : Itm} : x ∈ allI G keys ↔ x.inn ∈ keys ∧ x.e ∈ (G x.inn).getD [] := by
  unfold allI
  rw [List.mem_flatMap]
  constructor
  · rintro ⟨q, hq, hx⟩
    rw [List.mem_map] at hx
    obtain ⟨e, he, rfl⟩ := hx
    exact ⟨hq, he⟩
  · rintro ⟨h1, h2⟩
    exact ⟨x.inn, h1, List.mem_map.2 ⟨x.e, h2, rfl⟩⟩
/-- All that has entries is a key. -/
def Supp (G : DirsG) (keys : List Int) : Prop := ∀ q, (G q).isSome = true → q ∈ keys
theorem there_mem {G : DirsG} {keys : List Int} (hs : Supp G keys) {q : Int} : q ∈ thereI G keys ↔ (G q).isSome = true := by
  unfold thereI
  rw [List.mem_filter]
  exact ⟨fun h => h.2, fun h => ⟨hs q h, h⟩⟩
theorem pair_all {α : Type} {R : α → α → Prop} {l : List α} (h : l.Pairwise R) (hsym : ∀ a b, R a b → R b a) {a b : α} (ha : a ∈ l) (hb : b ∈ l) (hne : a ≠ b) : R a b := by
  obtain ⟨i, hi, rfl⟩ := List.mem_iff_getElem.1 ha
  obtain ⟨j, hj, rfl⟩ := List.mem_iff_getElem.1 hb
  rw [List.pairwise_iff_getElem] at h
  have hij : i ≠ j := fun e => hne (by subst e; rfl)
  rcases Nat.lt_or_gt_of_ne hij with h1 | h1
  · exact h i j hi hj h1
  · exact hsym _ _ (h j i hj hi h1)
theorem whole_of_formed {G : DirsG} {c : Int} {keys : List Int} (h : Formed c G keys) (hs : Supp G keys) : Whole G c := by
  have hap := (apart_iff _).1 h.apart
  unfold allI at hap
  rw [List.pairwise_flatMap] at hap
  obtain ⟨a1, a2⟩ := hap
  refine ⟨fun q es hG e he => ?_, fun q es hG => h.rise q (hs q (by rw [hG]; rfl)) es hG, fun q q' es es' hG hG' i j x y hx hy hne => ?_⟩
  · have hx : (⟨q, e⟩ : Itm) ∈ allI G keys := all_mem.2 ⟨hs q (by rw [hG]; rfl), by show e ∈ (G q).getD []; rw [hG]; exact he⟩
    obtain ⟨o1, o2, o3, o4, o5, o6⟩ := h.ok _ hx
    refine ⟨o1, o2, o3, o4, o5, ?_⟩
    rw [← o6, Bool.eq_iff_iff, decide_eq_true_eq]
    exact (there_mem hs).symm
  · by_cases hq : q = q'
    · subst hq
      rw [hG] at hG'
      obtain rfl := Option.some.inj hG'
      have hij : i ≠ j := hne.resolve_left (fun h => h rfl)
      have h1 := a1 q (hs q (by rw [hG]; rfl))
      rw [hG] at h1
      simp only [Option.getD_some] at h1
      rw [List.pairwise_map, List.pairwise_iff_getElem] at h1
      obtain ⟨i1, i2⟩ := List.getElem?_eq_some_iff.1 hx
      obtain ⟨j1, j2⟩ := List.getElem?_eq_some_iff.1 hy
      rw [← i2, ← j2]
      rcases Nat.lt_or_gt_of_ne hij with h2 | h2
      · exact h1 i j i1 j1 h2
      · exact fun hc => h1 j i j1 i1 h2 (clash_symm hc)
    · have h1 := pair_all a2 (fun a b hab x hx y hy hc => hab y hy x hx (clash_symm hc)) (hs q (by rw [hG]; rfl)) (hs q' (by rw [hG']; rfl)) hq
      refine h1 ⟨q, x⟩ (List.mem_map.2 ⟨x, ?_, rfl⟩) ⟨q', y⟩ (List.mem_map.2 ⟨y, ?_, rfl⟩)
      · rw [hG]; exact List.mem_of_getElem? hx
      · rw [hG']; exact List.mem_of_getElem? hy
theorem good_nil {c : Int} (hc : 1 ≤ c) : GoodT [] c := goodT_nil.mono hc
theorem dir_nodup {A : List Itm} {c : Int} (h : GoodT A c) : (0 :: dirNodes A).Nodup := by
  refine List.nodup_cons.2 ⟨fun h0 => ?_, ?_⟩
  · obtain ⟨x, hx, _, hn⟩ := dirNodes_mem.1 h0
    have := h.node x hx
    omega
  · have hn := h.nd
    unfold nodesI at hn
    unfold dirNodes
    exact hn.sublist (List.filter_sublist.map _)
/-- The whole fill, from the root down. -/
abbrev fillAll (G : DirsG) (c : Int) : Bool × (List Itm × Nat) := fillI G c 202 0 ([], 0)
theorem fillAll_ok {G : DirsG} {c : Int} (hc : 1 ≤ c) (h : (fillAll G c).1 = true) : ∃ A, (fillAll G c).2 = (A, 1 + (dirNodes A).length) ∧ GoodT A c ∧ Down [0] A ∧ ∀ q ∈ 0 :: dirNodes A, G q = some (entsI A q) := by
  obtain ⟨A, h1, h2, h3⟩ := fill_ok G c 202 0 [] 0 (good_nil hc) rfl rfl h
  refine ⟨A, by rw [show (fillAll G c).2 = _ from h1]; rw [List.nil_append, Nat.zero_add], by have := h2.good; rwa [List.nil_append] at this, h2.down, fun q hq => ?_⟩
  rcases List.mem_cons.1 hq with rfl | hq
  · exact h3
  · exact h2.full q hq
theorem sub_same {l m : List Int} (hl : l.Nodup) (hs : ∀ x ∈ l, x ∈ m) (hlen : m.length ≤ l.length) : ∀ x ∈ m, x ∈ l := fun x hx => by
  apply Classical.byContradiction
  intro hn
  have := nodup_sub_len (x :: l) m (List.nodup_cons.2 ⟨hn, hl⟩) (fun y hy => by
    rcases List.mem_cons.1 hy with rfl | hy
    · exact hx
    · exact hs y hy)
  simp at this
  omega
theorem made_yes {G : DirsG} {c : Int} {keys : List Int} (h : Formed c G keys) (hs : Supp G keys) (hnd : keys.Nodup) : (fillAll G c).1 = true ∧ (fillAll G c).2.2 = (thereI G keys).length := by
  have hw := whole_of_formed h hs
  have h0 := (there_mem hs).1 h.root
  obtain ⟨r1, _⟩ := fill_yes hw 202 0 [] 0 (good_nil h.pos) rfl rfl h0 (fun q => ⟨(G q).getD [], rfl⟩) (by decide)
  refine ⟨r1, ?_⟩
  obtain ⟨A, h1, hg, hd, hf⟩ := fillAll_ok h.pos r1
  rw [h1]
  have hD : ∀ q ∈ 0 :: dirNodes A, q ∈ thereI G keys := fun q hq => (there_mem hs).2 (by rw [hf q hq]; rfl)
  have hR : ∀ t, Reach (allI G keys) t → t ∈ 0 :: dirNodes A := by
    intro t ht
    induction ht with
    | root => exact List.mem_cons_self
    | step hr hx hdx ih =>
      have h2 := (all_mem.1 hx).2
      rw [hf _ ih] at h2
      exact List.mem_cons_of_mem _ (dirNodes_mem.2 ⟨_, ents_mem.1 h2, hdx, rfl⟩)
  have hT : ∀ t ∈ thereI G keys, t ∈ 0 :: dirNodes A := fun t ht => hR t (h.reach t ht)
  have n1 := nodup_sub_len _ _ (dir_nodup hg) hD
  have n2 := nodup_sub_len (thereI G keys) _ (hnd.filter _) hT
  simp only [List.length_cons] at n1 n2
  show 1 + (dirNodes A).length = _
  omega
theorem reach_of {all : List Itm} : ∀ {A : List Itm} {D : List Int}, Down D A → (∀ x ∈ A, x ∈ all) → (∀ q ∈ D, Reach all q) → ∀ q ∈ dirNodes A, Reach all q
  | [], _, _, _, _, q, hq => nomatch hq
  | x :: A, D, h, hs, hD, q, hq => by
    have hx : x.e.dir = true → Reach all x.e.node := fun hd => Reach.step (hD _ h.1) (hs x List.mem_cons_self) hd
    rw [show x :: A = [x] ++ A from rfl, dirNodes_app, List.mem_append] at hq
    rcases hq with hq | hq
    · obtain ⟨y, hy, hyd, rfl⟩ := dirNodes_mem.1 hq
      rw [List.mem_singleton] at hy
      subst hy
      exact hx hyd
    · refine reach_of h.2 (fun y hy => hs y (List.mem_cons_of_mem _ hy)) (fun q' hq' => ?_) q hq
      split at hq'
      · rename_i hd
        rcases List.mem_cons.1 hq' with h2 | h2
        · rw [h2]; exact hx hd
        · exact hD q' h2
      · exact hD q' hq'
theorem good_apart {A : List Itm} {c : Int} (h : GoodT A c) : A.Pairwise fun a b => ¬ clash a b := by
  have hn := h.nd
  unfold nodesI at hn
  rw [List.Nodup, List.pairwise_map] at hn
  refine ((hn.and h.names).and h.rise).imp ?_
  rintro a b ⟨⟨h1, h2⟩, h3⟩ hc
  unfold clash at hc
  rcases hc with hc | hc | ⟨hc, hc2⟩
  · exact h1 hc
  · exact h3.2 hc
  · exact h2 hc hc2
theorem good_rise {A : List Itm} {c : Int} (h : GoodT A c) (q : Int) : risingE (entsI A q) := by
  have hp : (entsI A q).Pairwise fun a b => a.cookie < b.cookie := by
    unfold entsI
    rw [List.pairwise_map]
    refine List.Pairwise.imp_of_mem ?_ (h.rise.filter _)
    intro a b ha hb hab
    rw [List.mem_filter, decide_eq_true_eq] at ha hb
    exact hab.1 (ha.2.trans hb.2.symm)
  rw [List.pairwise_iff_getElem] at hp
  intro i x y hx hy
  obtain ⟨i1, i2⟩ := List.getElem?_eq_some_iff.1 hx
  obtain ⟨j1, j2⟩ := List.getElem?_eq_some_iff.1 hy
  rw [← i2, ← j2]
  exact hp i (i + 1) i1 j1 (Nat.lt_succ_self i)
theorem made_formed {G : DirsG} {c : Int} {keys : List Int} (hc : 1 ≤ c) (hs : Supp G keys) (hnd : keys.Nodup) (h : (fillAll G c).1 = true) (hn : (fillAll G c).2.2 = (thereI G keys).length) : Formed c G keys := by
  obtain ⟨A, h1, hg, hd, hf⟩ := fillAll_ok hc h
  rw [h1] at hn
  have hn2 : 1 + (dirNodes A).length = (thereI G keys).length := hn
  have hD : ∀ q ∈ 0 :: dirNodes A, q ∈ thereI G keys := fun q hq => (there_mem hs).2 (by rw [hf q hq]; rfl)
  have hT := sub_same (dir_nodup hg) hD (by simp only [List.length_cons]; omega)
  have hall : ∀ x ∈ allI G keys, x ∈ A := fun x hx => by
    obtain ⟨h2, h3⟩ := all_mem.1 hx
    have h4 : x.inn ∈ thereI G keys := (there_mem hs).2 (by
      cases hG : G x.inn with
      | none => rw [hG] at h3; cases h3
      | some es => rfl)
    rw [hf _ (hT _ h4)] at h3
    exact ents_mem.1 h3
  have hback : ∀ x ∈ A, x ∈ allI G keys := fun x hx => by
    have h2 : x.inn ∈ 0 :: dirNodes A := by
      rcases hd.inn x hx with h3 | h3
      · rw [List.mem_singleton] at h3; rw [h3]; exact List.mem_cons_self
      · exact List.mem_cons_of_mem _ h3
    refine all_mem.2 ⟨hs _ (by rw [hf _ h2]; rfl), ?_⟩
    rw [hf _ h2]
    exact ents_mem.2 hx
  have hap := good_apart hg
  refine ⟨fun q hq l hG => ?_, hc, hD 0 List.mem_cons_self, fun x hx => ?_, (apart_iff _).2 ?_, fun t ht => ?_⟩
  · have h2 := hf q (hT q ((there_mem hs).2 (by rw [hG]; rfl)))
    rw [hG] at h2
    rw [Option.some.inj h2]
    exact good_rise hg q
  · have hxA := hall x hx
    refine ⟨hg.form x hxA, (hg.node x hxA).1, (hg.node x hxA).2, (hg.cook x hxA).1, (hg.cook x hxA).2, ?_⟩
    rw [Bool.eq_iff_iff, decide_eq_true_eq]
    constructor
    · intro h2
      rcases List.mem_cons.1 (hT _ h2) with h3 | h3
      · have := hg.node x hxA; omega
      · obtain ⟨y, hy, hyd, hyn⟩ := dirNodes_mem.1 h3
        have h4 := nodeAt_mem hg hxA
        have h5 := nodeAt_mem hg hy
        rw [hyn, h4] at h5
        rw [Option.some.inj h5]
        exact hyd
    · intro h2
      exact hD _ (List.mem_cons_of_mem _ (dirNodes_mem.2 ⟨x, hxA, h2, rfl⟩))
  · unfold allI
    rw [List.pairwise_flatMap]
    refine ⟨fun q hq => ?_, ?_⟩
    · cases hG : G q with
      | none => simp
      | some es =>
        have h2 := hf q (hT q ((there_mem hs).2 (by rw [hG]; rfl)))
        rw [hG] at h2
        rw [Option.some.inj h2]
        simp only [Option.getD_some]
        unfold entsI
        rw [List.pairwise_map, List.pairwise_map]
        refine List.Pairwise.imp_of_mem ?_ (hap.filter _)
        intro a b ha hb hab
        rw [List.mem_filter, decide_eq_true_eq] at ha hb
        have e1 : (⟨q, a.e⟩ : Itm) = a := by rw [← ha.2]
        have e2 : (⟨q, b.e⟩ : Itm) = b := by rw [← hb.2]
        rw [e1, e2]
        exact hab
    · refine hnd.imp_of_mem ?_
      intro a b ha hb hab x hx y hy
      rw [List.mem_map] at hx hy
      obtain ⟨ex, hx, rfl⟩ := hx
      obtain ⟨ey, hy, rfl⟩ := hy
      have m1 := hall ⟨a, ex⟩ (all_mem.2 ⟨ha, hx⟩)
      have m2 := hall ⟨b, ey⟩ (all_mem.2 ⟨hb, hy⟩)
      exact pair_all hap (fun _ _ h hc => h (clash_symm hc)) m1 m2 (fun e => hab (congrArg Itm.inn e))
  · rcases List.mem_cons.1 (hT t ht) with rfl | h3
    · exact Reach.root
    · exact reach_of hd hback (fun q hq => by rw [List.mem_singleton] at hq; rw [hq]; exact Reach.root) t h3
theorem made_iff {G : DirsG} {c : Int} {keys : List Int} (hs : Supp G keys) (hnd : keys.Nodup) : (1 ≤ c ∧ (fillAll G c).1 = true ∧ (fillAll G c).2.2 = (thereI G keys).length) ↔ Formed c G keys :=
  ⟨fun h => made_formed h.1 hs hnd h.2.1 h.2.2, fun h => ⟨h.pos, made_yes h hs hnd⟩⟩
end Go.Proofs.YtddobjhahohhhaaGreat
