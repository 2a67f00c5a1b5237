/-
  The image of a tree's items: how long; what is read of it; the tree that is filled of what is read has just these bytes.
-/
import Derived.Test.YtddobjhahohhhaaGreatImMath
import Derived.Test.YtddobjhahohhhaaGreatMkForm
import Derived.Test.YtddobjhahohhhaaGreatMkOwn
namespace Go.Proofs.YtddobjhahohhhaaGreat
open Go.RowKit Go.Sort
set_option linter.unusedVariables false
set_option linter.unusedSimpArgs false

/-- Its directories, rising, with their entries. -/
def dirsOf (l : List Itm) : List (Int × List Ent) := (dirsI l).map fun q => (q, entsI l q)
def imgI (l : List Itm) (nx : Int) : List UInt8 := imgB nx (dirsOf l)
theorem badE_all {s : ByteArray} {sh : Int} (h : badE s sh = 0) : s.size < 256 ∧ 0 ≤ sh ∧ sh ≤ 1000000 := by
  unfold badE at h
  split at h
  · rename_i hg
    split at h
    · exact absurd h (by decide)
    · refine ⟨?_, by omega, by omega⟩
      unfold goodB at hg
      simp only [Bool.and_eq_true, decide_eq_true_eq] at hg
      have := hg.2.2.1
      omega
  · exact absurd h (by decide)
theorem dirsI_rise (l : List Itm) : (dirsI l).Pairwise (· < ·) := by
  unfold dirsI dirsTo
  refine List.Pairwise.filter _ ?_
  rw [List.pairwise_map]
  exact List.Pairwise.imp (fun h => Int.ofNat_lt.2 h) List.pairwise_lt_range
theorem dirsI_range {l : List Itm} {q : Int} (h : q ∈ dirsI l) : 0 ≤ q ∧ q ≤ 200 := by
  unfold dirsI dirsTo at h
  rw [List.mem_filter, List.mem_map] at h
  obtain ⟨⟨n, hn, rfl⟩, _⟩ := h
  have := List.mem_range.1 hn
  show (0 : Int) ≤ (n : Int) ∧ (n : Int) ≤ 200
  omega
theorem ents_sum (l : List Itm) : ∀ ds : List Int, ds.Pairwise (· < ·) → (ds.map fun q => (entsI l q).length).sum ≤ l.length := by
  induction l with
  | nil =>
    intro ds _
    have : ∀ ds : List Int, (ds.map fun q => (entsI [] q).length).sum = 0 := fun ds => by
      induction ds with
      | nil => rfl
      | cons q ds ih => rw [List.map_cons, List.sum_cons, ih]; rfl
    rw [this]
    exact Nat.zero_le _
  | cons x l ih =>
    intro ds hd
    have h1 := ih ds hd
    have h2 : ∀ es : List Int, es.Pairwise (· < ·) → (es.map fun q => (entsI (x :: l) q).length).sum ≤ (es.map fun q => (entsI l q).length).sum + (if x.inn ∈ es then 1 else 0) := by
      intro es
      induction es with
      | nil => intro _; simp
      | cons q es ih2 =>
        intro he
        obtain ⟨he1, he2⟩ := List.pairwise_cons.1 he
        have h3 := ih2 he2
        rw [List.map_cons, List.sum_cons, List.map_cons, List.sum_cons]
        have h4 : (entsI (x :: l) q).length = (entsI l q).length + if x.inn = q then 1 else 0 := by
          unfold entsI
          rw [List.filter_cons]
          by_cases hq : x.inn = q
          · rw [if_pos (decide_eq_true hq), if_pos hq]; rfl
          · rw [if_neg (by simpa using hq), if_neg hq]; rfl
        rw [h4]
        by_cases hq : x.inn = q
        · have hn : x.inn ∉ es := fun hm => by have := he1 _ hm; omega
          rw [if_neg hn] at h3
          rw [if_pos hq, if_pos (by rw [hq]; exact List.mem_cons_self ..)]
          omega
        · rw [if_neg hq]
          have : (x.inn ∈ q :: es) = (x.inn ∈ es) := by
            rw [List.mem_cons, eq_iff_iff]
            exact ⟨fun h => h.resolve_left hq, Or.inr⟩
          simp only [this]
          omega
    have h3 := h2 ds hd
    rw [List.length_cons]
    split at h3 <;> omega
theorem img_ok {l : List Itm} {nx : Int} (h : GoodT l nx) (hx : nx < 18446744073709551616) : ImgOk nx (dirsOf l) := by
  have hl := h.len
  refine ⟨⟨by have := h.nx1; omega, hx⟩, ?_, fun d hd => ?_⟩
  · unfold dirsOf
    rw [List.length_map]
    have := dirsTo_le l 201
    show (dirsTo l 201).length < _
    omega
  · unfold dirsOf at hd
    obtain ⟨q, hq, rfl⟩ := List.mem_map.1 hd
    have hq2 := dirsI_range hq
    refine ⟨⟨hq2.1, by show q < _; omega⟩, ?_, fun e he => ?_⟩
    · have := entsI_le l q
      show (entsI l q).length < _
      omega
    · obtain ⟨x, hx2, _, rfl⟩ := mem_entsI.1 he
      have h1 := badE_all (h.form x hx2)
      have h2 := h.node x hx2
      have h3 := h.cook x hx2
      exact ⟨h1.1, ⟨by omega, by omega⟩, ⟨by omega, by omega⟩, ⟨h1.2.1, by omega⟩⟩
theorem img_short {l : List Itm} {nx : Int} (h : GoodT l nx) : (imgI l nx).length ≤ 60000 := by
  refine img_len nx (dirsOf l) (fun d hd e he => ?_) ?_ ?_
  · unfold dirsOf at hd
    obtain ⟨q, hq, rfl⟩ := List.mem_map.1 hd
    obtain ⟨x, hx2, _, rfl⟩ := mem_entsI.1 he
    exact (badE_all (h.form x hx2)).1
  · unfold dirsOf
    rw [List.length_map]
    exact dirsTo_le l 201
  · unfold entsLen dirsOf
    rw [List.map_map]
    exact Nat.le_trans (ents_sum l _ (dirsI_rise l)) h.len
/-- What is read of a tree's image. -/
theorem img_read {l : List Itm} {nx : Int} (h : GoodT l nx) (hx : nx < 18446744073709551616) : imgP (imgI l nx) = some (nx, dirsOf l) := imgP_iff.2 ⟨rfl, img_ok h hx⟩
/-- Trees with the same entries have the same image. -/
theorem img_twin {l l' : List Itm} {nx : Int} (h : GoodT l nx) (h' : GoodT l' nx) (ht : Twin l l') : imgI l' nx = imgI l nx := by
  have hd : dirsI l' = dirsI l := by
    unfold dirsI dirsTo
    congr 1
    funext q
    rw [ht.kind h h' q]
  unfold imgI dirsOf
  rw [hd]
  congr 1
  exact List.map_congr_left fun q _ => by rw [ht.ents]
/-! The tree of what was read. -/
def gOf (ds : List (Int × List Ent)) : DirsG := fun q => (ds.find? fun d => decide (d.1 = q)).map Prod.snd
theorem gOf_mem {ds : List (Int × List Ent)} {q : Int} {es : List Ent} (h : gOf ds q = some es) : (q, es) ∈ ds := by
  unfold gOf at h
  obtain ⟨d, hd, rfl⟩ := Option.map_eq_some_iff.1 h
  have h1 := List.mem_of_find?_eq_some hd
  have h2 := List.find?_some hd
  obtain rfl := of_decide_eq_true h2
  exact h1
theorem gOf_of {ds : List (Int × List Ent)} (hr : (ds.map Prod.fst).Pairwise (· < ·)) {d : Int × List Ent} (h : d ∈ ds) : gOf ds d.1 = some d.2 := by
  induction ds with
  | nil => exact absurd h (by simp)
  | cons x ds ih =>
    rw [List.map_cons, List.pairwise_cons] at hr
    unfold gOf
    rw [List.find?_cons]
    rcases List.mem_cons.1 h with rfl | h1
    · rw [decide_eq_true rfl]; rfl
    · have := hr.1 d.1 (List.mem_map_of_mem h1)
      rw [decide_eq_false (by omega)]
      exact ih hr.2 h1
theorem rise_same : ∀ {a b : List Int}, a.Pairwise (· < ·) → b.Pairwise (· < ·) → (∀ x, x ∈ a ↔ x ∈ b) → a = b
  | [], [], _, _, _ => rfl
  | [], y :: b, _, _, h => absurd ((h y).2 (List.mem_cons_self ..)) (by simp)
  | x :: a, [], _, _, h => absurd ((h x).1 (List.mem_cons_self ..)) (by simp)
  | x :: a, y :: b, ha, hb, h => by
    obtain ⟨a1, a2⟩ := List.pairwise_cons.1 ha
    obtain ⟨b1, b2⟩ := List.pairwise_cons.1 hb
    have hxy : x = y := by
      rcases List.mem_cons.1 ((h x).1 (List.mem_cons_self ..)) with h1 | h1
      · exact h1
      · rcases List.mem_cons.1 ((h y).2 (List.mem_cons_self ..)) with h2 | h2
        · exact h2.symm
        · have := b1 x h1; have := a1 y h2; omega
    subst hxy
    rw [rise_same a2 b2 fun z => ⟨fun hz => (List.mem_cons.1 ((h z).1 (List.mem_cons_of_mem _ hz))).resolve_left (by have := a1 z hz; omega), fun hz => (List.mem_cons.1 ((h z).2 (List.mem_cons_of_mem _ hz))).resolve_left (by have := b1 z hz; omega)⟩]
theorem dir_iff {A : List Itm} {c : Int} (h : GoodT A c) {q : Int} : kindI A q = 2 ↔ q ∈ 0 :: dirNodes A := by
  constructor
  · intro hk
    unfold kindI at hk
    split at hk
    · rename_i h0
      rw [h0]
      exact List.mem_cons_self ..
    · unfold kindGo at hk
      cases hn : nodeAt A q with
      | none => rw [hn] at hk; exact absurd hk (by decide)
      | some x =>
        rw [hn] at hk
        simp only at hk
        have h1 : x ∈ A := by unfold nodeAt at hn; exact List.mem_of_find?_eq_some hn
        have h2 : x.e.node = q := by unfold nodeAt at hn; simpa using List.find?_some hn
        refine List.mem_cons_of_mem _ (dirNodes_mem.2 ⟨x, h1, ?_, h2⟩)
        cases hd : x.e.dir with
        | true => rfl
        | false => rw [hd] at hk; exact absurd hk (by decide)
  · intro hq
    rcases List.mem_cons.1 hq with rfl | hq
    · rfl
    · obtain ⟨x, hx, hd, rfl⟩ := dirNodes_mem.1 hq
      rw [h.kindDir hx, if_pos hd]
/-- What was filled of all that was read has just that image. -/
theorem made_img {ds : List (Int × List Ent)} {c : Int} (hr : (ds.map Prod.fst).Pairwise (· < ·)) (hc : 1 ≤ c) (hf : (fillAll (gOf ds) c).1 = true) (hn : (fillAll (gOf ds) c).2.2 = ds.length) :
    dirsOf (fillAll (gOf ds) c).2.1 = ds ∧ GoodT (fillAll (gOf ds) c).2.1 c := by
  obtain ⟨A, h1, h2, h3, h4⟩ := fillAll_ok hc hf
  rw [h1] at hn ⊢
  refine ⟨?_, h2⟩
  have hn' : 1 + (dirNodes A).length = ds.length := hn
  have hsub : ∀ q ∈ 0 :: dirNodes A, q ∈ ds.map Prod.fst := fun q hq => List.mem_map.2 ⟨_, gOf_mem (h4 q hq), rfl⟩
  have hall := sub_same (dir_nodup h2) hsub (by rw [List.length_map, List.length_cons]; omega)
  have hk : ∀ q, q ∈ dirsI A ↔ q ∈ ds.map Prod.fst := fun q => by
    rw [h2.dirs]
    constructor
    · intro hq
      exact hsub q ((dir_iff h2).1 hq)
    · intro hq
      exact (dir_iff h2).2 (hall q hq)
  have he : dirsI A = ds.map Prod.fst := rise_same (dirsI_rise A) hr hk
  show (dirsI A).map (fun q => (q, entsI A q)) = ds
  rw [he, List.map_map]
  conv => rhs; rw [← List.map_id ds]
  refine List.map_congr_left fun d hd => ?_
  have e1 := gOf_of hr hd
  rw [h4 d.1 (hall d.1 (List.mem_map_of_mem hd))] at e1
  show (d.1, entsI A d.1) = d
  rw [Option.some.inj e1]
end Go.Proofs.YtddobjhahohhhaaGreat
