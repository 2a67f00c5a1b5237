/-
  TreeMakes' mathematics: a tree's own entries make the same tree.
-/
import Derived.Test.YtddobjhahohhhaaGreatMkForm
namespace Go.Proofs.YtddobjhahohhhaaGreat
open Go.RowKit Go.Sort
set_option linter.unusedVariables false
set_option linter.unusedSimpArgs false

theorem dirsI_mem {l : List Itm} {q : Int} : q ∈ dirsI l ↔ (∃ n : Nat, n ≤ 200 ∧ q = (n : Int)) ∧ kindI l q = 2 := by
  unfold dirsI dirsTo
  rw [List.mem_filter, List.mem_map, decide_eq_true_eq]
  constructor
  · rintro ⟨⟨n, hn, rfl⟩, h⟩
    rw [List.mem_range] at hn
    exact ⟨⟨n, by omega, rfl⟩, h⟩
  · rintro ⟨⟨n, hn, rfl⟩, h⟩
    exact ⟨⟨n, List.mem_range.2 (by omega), rfl⟩, h⟩
theorem dirsI_nodup (l : List Itm) : (dirsI l).Nodup := by
  unfold dirsI dirsTo
  refine List.Pairwise.filter _ ?_
  rw [List.pairwise_map]
  refine List.Pairwise.imp ?_ List.nodup_range
  intro a b h e
  exact h (Int.ofNat.inj e)
theorem GoodT.dirs {l : List Itm} {c : Int} (h : GoodT l c) {q : Int} : q ∈ dirsI l ↔ kindI l q = 2 := by
  rw [dirsI_mem]
  refine ⟨fun h => h.2, fun h2 => ⟨⟨q.toNat, ?_, ?_⟩, h2⟩⟩
  · apply Classical.byContradiction
    intro hc
    have := h.far (d := q) (by omega)
    omega
  · apply Classical.byContradiction
    intro hc
    have := h.far (d := q) (by omega)
    omega
/-- A tree's own entries. -/
def ownG (l : List Itm) : DirsG := fun q => if q ∈ dirsI l then some (entsI l q) else none
theorem own_supp (l : List Itm) : Supp (ownG l) (dirsI l) := fun q h => by
  unfold ownG at h
  split at h
  · assumption
  · cases h
theorem own_there (l : List Itm) : thereI (ownG l) (dirsI l) = dirsI l := by
  unfold thereI
  rw [List.filter_eq_self]
  intro q hq
  unfold ownG
  rw [if_pos hq]
  rfl
theorem GoodT.kindDir {l : List Itm} {c : Int} (h : GoodT l c) {x : Itm} (hx : x ∈ l) : kindI l x.e.node = if x.e.dir = true then 2 else 1 := by
  have h1 := h.node x hx
  unfold kindI
  rw [if_neg (by omega)]
  unfold kindGo
  rw [nodeAt_mem h hx]
theorem own_reach {l : List Itm} {c : Int} (h : GoodT l c) : ∀ x ∈ l, Reach l x.inn := by
  obtain ⟨H, hH⟩ := h.low
  obtain ⟨M, hM⟩ : ∃ M, ∀ x ∈ l, H x.inn.toNat ≤ M := by
    clear h hH
    induction l with
    | nil => exact ⟨0, fun x hx => nomatch hx⟩
    | cons y r ih =>
      obtain ⟨M, hM⟩ := ih
      refine ⟨M + H y.inn.toNat, fun x hx => ?_⟩
      rcases List.mem_cons.1 hx with rfl | hx
      · omega
      · have := hM x hx; omega
  have key : ∀ k x, x ∈ l → M - H x.inn.toNat < k → Reach l x.inn := by
    intro k
    induction k with
    | zero => intro x hx hk; omega
    | succ k ih =>
      intro x hx hk
      have h2 := h.inn x hx
      by_cases h0 : x.inn = 0
      · rw [h0]; exact Reach.root
      · unfold kindI at h2
        rw [if_neg h0] at h2
        unfold kindGo at h2
        cases hn : nodeAt l x.inn with
        | none => rw [hn] at h2; cases h2
        | some y =>
          rw [hn] at h2
          obtain ⟨y1, y2⟩ := nodeAt_some hn
          have hyd : y.e.dir = true := by
            simp only at h2
            split at h2
            · assumption
            · cases h2
          rw [← y2]
          refine Reach.step (ih y y1 ?_) y1 hyd
          have h3 := hH y y1
          have h4 := hM y y1
          rw [y2] at h3
          omega
  exact fun x hx => key _ x hx (Nat.lt_succ_self _)
theorem own_all {l : List Itm} {c : Int} (h : GoodT l c) {x : Itm} : x ∈ allI (ownG l) (dirsI l) ↔ x ∈ l := by
  rw [all_mem]
  unfold ownG
  constructor
  · rintro ⟨h1, h2⟩
    rw [if_pos h1] at h2
    exact ents_mem.1 h2
  · intro hx
    have h1 : x.inn ∈ dirsI l := h.dirs.2 (h.inn x hx)
    exact ⟨h1, by rw [if_pos h1]; exact ents_mem.2 hx⟩
theorem own_formed {l : List Itm} {c : Int} (h : GoodT l c) : Formed c (ownG l) (dirsI l) := by
  have hroot : (0 : Int) ∈ dirsI l := h.dirs.2 rfl
  have hap := good_apart h
  refine ⟨fun q hq m hG => ?_, h.nx1, by rw [own_there]; exact hroot, fun x hx => ?_, (apart_iff _).2 ?_, fun t ht => ?_⟩
  · unfold ownG at hG
    rw [if_pos hq] at hG
    rw [← Option.some.inj hG]
    exact good_rise h q
  · have hx2 := (own_all h).1 hx
    rw [own_there]
    refine ⟨h.form x hx2, (h.node x hx2).1, (h.node x hx2).2, (h.cook x hx2).1, (h.cook x hx2).2, ?_⟩
    rw [Bool.eq_iff_iff, decide_eq_true_eq, h.dirs, h.kindDir hx2]
    cases x.e.dir <;> simp
  · unfold allI
    rw [List.pairwise_flatMap]
    refine ⟨fun q hq => ?_, ?_⟩
    · unfold ownG
      rw [if_pos hq]
      simp only [Option.getD_some]
      unfold entsI
      rw [List.pairwise_map, List.pairwise_map]
      refine List.Pairwise.imp_of_mem ?_ (hap.filter _)
      intro a b ha hb hab
      rw [List.mem_filter, decide_eq_true_eq] at ha hb
      have e1 : (⟨q, a.e⟩ : Itm) = a := by rw [← ha.2]
      have e2 : (⟨q, b.e⟩ : Itm) = b := by rw [← hb.2]
      rw [e1, e2]
      exact hab
    · refine (dirsI_nodup l).imp_of_mem ?_
      intro a b ha hb hab x hx y hy
      rw [List.mem_map] at hx hy
      obtain ⟨ex, hx, rfl⟩ := hx
      obtain ⟨ey, hy, rfl⟩ := hy
      have m1 := (own_all h).1 (show (⟨a, ex⟩ : Itm) ∈ allI (ownG l) (dirsI l) from all_mem.2 ⟨ha, hx⟩)
      have m2 := (own_all h).1 (show (⟨b, ey⟩ : Itm) ∈ allI (ownG l) (dirsI l) from all_mem.2 ⟨hb, hy⟩)
      exact pair_all hap (fun _ _ h hc => h (clash_symm hc)) m1 m2 (fun e => hab (congrArg Itm.inn e))
  · rw [own_there] at ht
    have hk := h.dirs.1 ht
    have hr : ∀ x ∈ l, Reach (allI (ownG l) (dirsI l)) x.inn := fun x hx => by
      have h9 := own_reach h x hx
      generalize x.inn = q at h9
      induction h9 with
      | root => exact Reach.root
      | step _ hx hd ih => exact Reach.step ih ((own_all h).2 hx) hd
    unfold kindI at hk
    split at hk
    · rename_i h0; rw [h0]; exact Reach.root
    · unfold kindGo at hk
      cases hn : nodeAt l t with
      | none => rw [hn] at hk; cases hk
      | some y =>
        rw [hn] at hk
        obtain ⟨y1, y2⟩ := nodeAt_some hn
        have hyd : y.e.dir = true := by
          simp only at hk
          split at hk
          · assumption
          · cases hk
        rw [← y2]
        exact Reach.step (hr y y1) ((own_all h).2 y1) hyd
/-- Two trees with the same entries. -/
structure Twin (l l' : List Itm) : Prop where
  ents : ∀ q, entsI l' q = entsI l q
theorem Twin.mem {l l' : List Itm} (h : Twin l l') {x : Itm} : x ∈ l' ↔ x ∈ l := by
  have h1 := ents_mem (A := l') (q := x.inn) (e := x.e)
  have h2 := ents_mem (A := l) (q := x.inn) (e := x.e)
  rw [h.ents] at h1
  exact h1.symm.trans h2
theorem Twin.len {l l' : List Itm} {c c' : Int} (h : Twin l l') (hg : GoodT l c) (hg' : GoodT l' c') : l'.length = l.length := by
  have h1 := nodup_sub_len (nodesI l') (nodesI l) hg'.nd (fun n hn => by
    unfold nodesI at hn ⊢
    obtain ⟨x, hx, rfl⟩ := List.mem_map.1 hn
    exact List.mem_map_of_mem (h.mem.1 hx))
  have h2 := nodup_sub_len (nodesI l) (nodesI l') hg.nd (fun n hn => by
    unfold nodesI at hn ⊢
    obtain ⟨x, hx, rfl⟩ := List.mem_map.1 hn
    exact List.mem_map_of_mem (h.mem.2 hx))
  unfold nodesI at h1 h2
  simp only [List.length_map] at h1 h2
  omega
theorem Twin.kind {l l' : List Itm} {c c' : Int} (h : Twin l l') (hg : GoodT l c) (hg' : GoodT l' c') (n : Int) : kindI l' n = kindI l n := by
  by_cases h0 : kindI l n = 0
  · rw [h0]
    obtain ⟨h1, h2⟩ := kind_free.1 h0
    exact kind_free.2 ⟨h1, fun x hx => h2 x (h.mem.1 hx)⟩
  · by_cases hn : n = 0
    · subst hn; rfl
    · have h3 := h0
      unfold kindI at h3
      rw [if_neg hn] at h3
      unfold kindGo at h3
      cases ha : nodeAt l n with
      | none => rw [ha] at h3; exact absurd rfl h3
      | some y =>
        obtain ⟨y1, y2⟩ := nodeAt_some ha
        rw [← y2, hg.kindDir y1, hg'.kindDir (h.mem.2 y1)]
theorem freeGo_same {l l' : List Itm} (h : ∀ n, kindI l' n = kindI l n) : ∀ k n, freeGo l' k n = freeGo l k n
  | 0, _ => rfl
  | k + 1, n => by
    unfold freeGo
    rw [h, freeGo_same h k (n + 1)]
theorem Twin.link {l l' : List Itm} {c c' nx : Int} (h : Twin l l') (hg : GoodT l c) (hg' : GoodT l' c') (d : Int) (s : ByteArray) (isD : Bool) (sh : Int) :
    (linkI l' nx d s isD sh).2 = (linkI l nx d s isD sh).2 ∧ (linkI l' nx d s isD sh).1.2 = (linkI l nx d s isD sh).1.2 ∧ Twin (linkI l nx d s isD sh).1.1 (linkI l' nx d s isD sh).1.1 := by
  have hk := h.kind hg hg'
  have e1 : listE l' d = listE l d := by unfold listE; rw [hk]
  have e2 : findI l' d s = findI l d s := by unfold findI listI; rw [e1, h.ents]
  have e3 : freeN l' = freeN l := freeGo_same hk 200 1
  unfold linkI
  rw [e1, e2, e3]
  split
  · exact ⟨rfl, rfl, h⟩
  · split
    · exact ⟨rfl, rfl, h⟩
    · split
      · exact ⟨rfl, rfl, h⟩
      · split
        · exact ⟨rfl, rfl, h⟩
        · refine ⟨rfl, rfl, ⟨fun q => ?_⟩⟩
          show entsI (putI l' nx d _) q = entsI (putI l nx d _) q
          unfold putI
          rw [ents_app, ents_app, h.ents]
theorem own_twin {l : List Itm} {c : Int} (h : GoodT l c) : ∃ l', (fillAll (ownG l) c) = (true, (l', (dirsI l).length)) ∧ GoodT l' c ∧ Twin l l' := by
  obtain ⟨h1, h2⟩ := made_yes (own_formed h) (own_supp l) (dirsI_nodup l)
  obtain ⟨A, a1, a2, a3, a4⟩ := fillAll_ok h.nx1 h1
  rw [own_there] at h2
  refine ⟨A, ?_, a2, ⟨fun q => ?_⟩⟩
  · rw [a1] at h2
    have h3 : 1 + (dirNodes A).length = (dirsI l).length := h2
    exact Prod.ext h1 (by rw [a1, h3])
  · have hD : ∀ q ∈ 0 :: dirNodes A, q ∈ dirsI l := fun q hq => own_supp l q (by rw [a4 q hq]; rfl)
    have hT := sub_same (dir_nodup a2) hD (by rw [a1] at h2; have h3 : 1 + (dirNodes A).length = (dirsI l).length := h2; simp only [List.length_cons]; omega)
    by_cases hq : q ∈ dirsI l
    · have h5 := a4 q (hT q hq)
      unfold ownG at h5
      rw [if_pos hq] at h5
      exact (Option.some.inj h5).symm
    · have h6 : entsI l q = [] := h.noin fun hk => hq (h.dirs.2 hk)
      rw [h6]
      refine ents_nil fun x hx e => hq ?_
      rcases a3.inn x hx with h7 | h7
      · rw [List.mem_singleton] at h7
        rw [← e, h7]
        exact hD 0 List.mem_cons_self
      · rw [← e]
        exact hD _ (List.mem_cons_of_mem _ h7)
end Go.Proofs.YtddobjhahohhhaaGreat
