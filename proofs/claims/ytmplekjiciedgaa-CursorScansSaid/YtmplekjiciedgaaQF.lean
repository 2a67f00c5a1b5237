/-
  What a tree's items must be; the kinds, the entries, the numbers that are out, as memory has them.   What a tree's items become: an item more, an item fewer, an item moved.   What is below what: up by the directories, down by the entries; an item moved.
-/
import Derived.Test.YtmplekjiciedgaaQE
import Derived.Test.YtmplekjiciedgaaQ3
import Derived.Test.YtmplekjiciedgaaQ5
namespace Go.Proofs.Ytmplekjiciedgaa
open Go.RowKit Go.Sort
set_option linter.unusedVariables false

theorem kindOf_ne (t : Bool) : kindOf t ≠ 0 := by cases t <;> decide
theorem kindGo_cons' (x : Itm) (l : List Itm) (n : Int) : kindGo (x :: l) n = if x.e.node = n then kindOf x.e.dir else kindGo l n := kindGo_cons x l n
theorem kindGo_zero (n : Int) : ∀ l : List Itm, kindGo l n = 0 ↔ ∀ x ∈ l, x.e.node ≠ n
  | [] => ⟨(fun _ x hx => nomatch hx), fun _ => rfl⟩
  | x :: l => by
    rw [kindGo_cons']
    by_cases h : x.e.node = n
    · rw [if_pos h]
      exact ⟨fun h1 => absurd h1 (kindOf_ne _), fun h1 => absurd h (h1 x List.mem_cons_self)⟩
    · rw [if_neg h, kindGo_zero n l]
      exact ⟨fun h1 y hy => by
        rcases List.mem_cons.1 hy with rfl | hy
        · exact h
        · exact h1 y hy, fun h1 y hy => h1 y (List.mem_cons_of_mem _ hy)⟩
abbrev nodesI (l : List Itm) : List Int := l.map fun x => x.e.node
theorem kindGo_mem {x : Itm} : ∀ {l : List Itm}, (nodesI l).Nodup → x ∈ l → kindGo l x.e.node = kindOf x.e.dir
  | [], _, h => by cases h
  | y :: l, hn, h => by
    rw [kindGo_cons']
    rcases List.mem_cons.1 h with rfl | h
    · rw [if_pos rfl]
    · have hn' := List.nodup_cons.1 hn
      rw [if_neg (fun e => hn'.1 (List.mem_map.2 ⟨x, h, e.symm⟩))]
      exact kindGo_mem hn'.2 h
theorem kindGo_ex {l : List Itm} {n : Int} (h : kindGo l n ≠ 0) : ∃ x ∈ l, x.e.node = n := by
  apply Classical.byContradiction
  intro h1
  exact h ((kindGo_zero n l).2 fun x hx e => h1 ⟨x, hx, e⟩)
theorem kindGo_snoc (x : Itm) (n : Int) : ∀ l : List Itm, kindGo (l ++ [x]) n = if kindGo l n = 0 then (if x.e.node = n then kindOf x.e.dir else 0) else kindGo l n
  | [] => by rw [List.nil_append, kindGo_cons']; rfl
  | y :: l => by
    rw [List.cons_append, kindGo_cons', kindGo_cons', kindGo_snoc x n l]
    by_cases h : y.e.node = n
    · rw [if_pos h, if_pos h, if_neg (kindOf_ne _)]
    · rw [if_neg h, if_neg h]
theorem mem_entsI {l : List Itm} {d : Int} {e : Ent} : e ∈ entsI l d ↔ ∃ x ∈ l, x.inn = d ∧ x.e = e := by
  unfold entsI
  rw [List.mem_map]
  exact ⟨fun ⟨x, hx, he⟩ => by
    rw [List.mem_filter] at hx
    exact ⟨x, hx.1, of_decide_eq_true hx.2, he⟩, fun ⟨x, hx, hd, he⟩ => ⟨x, List.mem_filter.2 ⟨hx, decide_eq_true hd⟩, he⟩⟩
/-- A tree's items, and its next cookie. -/
structure GoodT (l : List Itm) (nx : Int) : Prop where
  node : ∀ x ∈ l, 1 ≤ x.e.node ∧ x.e.node ≤ 200
  nd : (nodesI l).Nodup
  inn : ∀ x ∈ l, kindI l x.inn = 2
  form : ∀ x ∈ l, badE x.e.name x.e.short = 0
  names : l.Pairwise fun x y => x.inn = y.inn → x.e.name ≠ y.e.name
  cook : ∀ x ∈ l, 1 ≤ x.e.cookie ∧ x.e.cookie < nx
  rise : l.Pairwise fun x y => (x.inn = y.inn → x.e.cookie < y.e.cookie) ∧ x.e.cookie ≠ y.e.cookie
  low : ∃ H : Nat → Nat, ∀ x ∈ l, H x.e.node.toNat < H x.inn.toNat
  nx1 : 1 ≤ nx
def kindN (l : List Itm) : Nat → Int := fun n => kindI l (n : Int)
def entsN (l : List Itm) : Nat → List Ent := fun n => entsI l (n : Int)
section
variable {l : List Itm} {nx : Int}
theorem GoodT.far (h : GoodT l nx) {d : Int} (hd : d < 0 ∨ 200 < d) : kindI l d = 0 := by
  unfold kindI
  rw [if_neg (by omega), kindGo_zero]
  intro x hx e
  have := h.node x hx
  omega
theorem GoodT.open' (h : GoodT l nx) (d : Int) : openI (kindN l) d = listE l d := by
  unfold openI listE
  by_cases hd : d < 0 ∨ 200 < d
  · rw [if_pos hd, h.far hd]
    rfl
  · rw [if_neg hd]
    unfold kindN
    rw [show ((d.toNat : Nat) : Int) = d by omega]
    rcases kindI_cases l d with h0 | h0 | h0 <;> rw [h0] <;> rfl
theorem GoodT.dir (h : GoodT l nx) {d : Int} (hd : listE l d = 0) : ∃ n : Nat, d = (n : Int) ∧ n ≤ 200 ∧ kindN l n = 2 := openI_ok (by rw [h.open']; exact hd)
theorem GoodT.find' (h : GoodT l nx) (d : Int) (s : ByteArray) : tFindI (kindN l) (entsN l) d s = findI l d s := by
  unfold tFindI findI listI
  rw [h.open']
  by_cases hd : listE l d = 0
  · obtain ⟨n, rfl, hn, _⟩ := h.dir hd
    rw [if_pos hd, if_pos hd]
    unfold entsN
    rw [Int.toNat_natCast]
    simp only [if_pos hd]
    cases named (entsI l (n : Int)) s <;> rfl
  · rw [if_neg hd, if_neg hd]
    have : named [] s = none := rfl
    rw [this]
    simp only [if_neg hd]
theorem GoodT.len (h : GoodT l nx) : l.length ≤ 200 := by
  have h1 : (nodesI l).length ≤ ((List.range 200).map fun n => ((n + 1 : Nat) : Int)).length := nodup_sub_len _ _ h.nd (fun y hy => by
    obtain ⟨x, hx, rfl⟩ := List.mem_map.1 hy
    have := h.node x hx
    exact List.mem_map.2 ⟨(x.e.node - 1).toNat, List.mem_range.2 (by omega), by omega⟩)
  simpa using h1
theorem GoodT.elen (h : GoodT l nx) (n : Nat) : (entsN l n).length ≤ 200 := Nat.le_trans (entsI_le l _) h.len
/-- Which numbers are out. -/
def usedRow (l : List Itm) : List Bool := (List.range 201).map fun n => decide (n ≠ 0 ∧ kindN l n ≠ 0)
theorem usedRow_getD (l : List Itm) {n : Nat} (h : n ≤ 200) (d : Bool) : (usedRow l).getD n d = decide (n ≠ 0 ∧ kindN l n ≠ 0) := by
  unfold usedRow
  rw [List.getD_eq_getElem?_getD, List.getElem?_map, List.getElem?_range (by omega)]
  rfl
theorem usedRow_free (l : List Itm) : ∀ k n, 1 ≤ n → n + k ≤ 201 → (leastGo (usedRow l) k n : Int) = freeGo l k n
  | 0, n, _, _ => rfl
  | k + 1, n, h1, h2 => by
    unfold leastGo freeGo
    rw [usedRow_getD l (by omega)]
    by_cases h : kindI l (n : Int) = 0
    · rw [if_pos h, if_pos (decide_eq_false (fun hc => hc.2 h))]
    · rw [if_neg h, if_neg (by rw [decide_eq_true ⟨by omega, h⟩]; simp)]
      exact usedRow_free l k (n + 1) (by omega) (by omega)
theorem used_free (l : List Itm) : (leastN 200 (usedRow l) : Int) = freeN l := usedRow_free l 200 1 (by omega) (by omega)
theorem cnt_filter (row : List Bool) : ∀ k n, cntGo row k n = ((List.range' n k).filter fun j => row.getD j false).length
  | 0, n => rfl
  | k + 1, n => by
    unfold cntGo
    rw [List.range'_succ, List.filter_cons, cnt_filter row k (n + 1)]
    by_cases h : row.getD n false = true
    · rw [if_pos h, if_pos h, List.length_cons]
      omega
    · rw [if_neg h, if_neg h]
      omega
theorem GoodT.count (h : GoodT l nx) : countN 200 (usedRow l) = l.length := by
  unfold countN
  rw [cnt_filter]
  have hp : ((List.range' 1 200).filter fun j => (usedRow l).getD j false).Perm ((nodesI l).map Int.toNat) := by
    rw [List.perm_ext_iff_of_nodup (List.Pairwise.filter _ List.nodup_range')
      (by
        have h1 : ((nodesI l).map Int.toNat).Pairwise (· ≠ ·) := by
          rw [List.pairwise_map]
          refine List.Pairwise.imp_of_mem ?_ h.nd
          intro a b ha hb hne e
          obtain ⟨x, hx, rfl⟩ := List.mem_map.1 ha
          obtain ⟨y, hy, rfl⟩ := List.mem_map.1 hb
          have := h.node x hx
          have := h.node y hy
          exact hne (by omega)
        exact h1)]
    intro n
    rw [List.mem_filter, List.mem_range']
    constructor
    · rintro ⟨⟨i, hi, rfl⟩, h2⟩
      rw [usedRow_getD l (by omega)] at h2
      have h3 := (of_decide_eq_true h2).2
      unfold kindN kindI at h3
      rw [if_neg (by omega)] at h3
      obtain ⟨x, hx, he⟩ := kindGo_ex h3
      exact List.mem_map.2 ⟨x.e.node, List.mem_map.2 ⟨x, hx, rfl⟩, by omega⟩
    · intro h2
      obtain ⟨y, hy, rfl⟩ := List.mem_map.1 h2
      obtain ⟨x, hx, rfl⟩ := List.mem_map.1 hy
      have h3 := h.node x hx
      refine ⟨⟨x.e.node.toNat - 1, by omega, by omega⟩, ?_⟩
      rw [usedRow_getD l (by omega), decide_eq_true]
      refine ⟨by omega, ?_⟩
      unfold kindN kindI
      rw [show ((x.e.node.toNat : Nat) : Int) = x.e.node by omega, if_neg (by omega), kindGo_mem h.nd hx]
      exact kindOf_ne _
  have := hp.length_eq
  simpa using this
theorem dirsK_to (l : List Itm) : ∀ n, dirsK (kindN l) n = dirsTo l n
  | 0 => rfl
  | n + 1 => by
    unfold dirsK
    rw [dirsTo_succ, dirsK_to l n]
    rfl
theorem hasIn_ents (l : List Itm) (d : Int) : hasIn l d = decide (0 < (entsI l d).length) := by
  rw [Bool.eq_iff_iff, decide_eq_true_eq, List.length_pos_iff_exists_mem]
  unfold hasIn
  rw [List.any_eq_true]
  exact ⟨fun ⟨x, hx, h⟩ => ⟨x.e, mem_entsI.2 ⟨x, hx, of_decide_eq_true h, rfl⟩⟩, fun ⟨e, he⟩ => by
    obtain ⟨x, hx, h, _⟩ := mem_entsI.1 he
    exact ⟨x, hx, decide_eq_true h⟩⟩
theorem GoodT.names' (h : GoodT l nx) (d : Int) : (entsI l d).Pairwise fun a b => a.name ≠ b.name := by
  unfold entsI
  rw [List.pairwise_map]
  refine List.Pairwise.imp_of_mem ?_ (List.Pairwise.filter _ h.names)
  intro a b ha hb hab
  have h1 := of_decide_eq_true (List.mem_filter.1 ha).2
  have h2 := of_decide_eq_true (List.mem_filter.1 hb).2
  exact hab (h1.trans h2.symm)
end
end Go.Proofs.Ytmplekjiciedgaa

namespace Go.Proofs.Ytmplekjiciedgaa
open Go.RowKit Go.Sort
set_option linter.unusedVariables false

theorem kindN_zero (l : List Itm) : kindN l 0 = 2 := rfl
theorem kindN_at (l : List Itm) (n : Nat) : kindN l n = if (n : Int) = 0 then 2 else kindGo l (n : Int) := rfl
theorem kindN_of (l : List Itm) {n : Int} (h : 0 ≤ n) : kindN l n.toNat = kindI l n := by
  unfold kindN
  rw [show ((n.toNat : Nat) : Int) = n by omega]
theorem pair_or {α : Type} {R : α → α → Prop} : ∀ {l : List α}, l.Pairwise R → ∀ {a b : α}, a ∈ l → b ∈ l → a ≠ b → R a b ∨ R b a
  | [], _, a, b, h, _, _ => by cases h
  | x :: l, hp, a, b, ha, hb, hne => by
    have hc := List.pairwise_cons.1 hp
    rcases List.mem_cons.1 ha with e1 | h1
    · rcases List.mem_cons.1 hb with e2 | h2
      · exact absurd (e1.trans e2.symm) hne
      · rw [e1]; exact Or.inl (hc.1 b h2)
    · rcases List.mem_cons.1 hb with e2 | h2
      · rw [e2]; exact Or.inr (hc.1 a h1)
      · exact pair_or hc.2 h1 h2 hne
section
variable {l : List Itm} {nx : Int}
theorem kindI_mem (h : GoodT l nx) {x : Itm} (hx : x ∈ l) : kindI l x.e.node = kindOf x.e.dir := by
  unfold kindI
  rw [if_neg (by have := h.node x hx; omega), kindGo_mem h.nd hx]
theorem entsI_snoc1 (l : List Itm) (x : Itm) (d : Int) : entsI (l ++ [x]) d = entsI l d ++ (if x.inn = d then [x.e] else []) := by
  unfold entsI
  rw [List.filter_append, List.map_append]
  by_cases h : x.inn = d
  · rw [if_pos h]; simp [h]
  · rw [if_neg h]; simp [h]
theorem entsN_snoc (l : List Itm) (d : Nat) (e : Ent) : entsN (l ++ [⟨(d : Int), e⟩]) = upd (entsN l) d (entsN l d ++ [e]) := by
  funext n
  unfold entsN upd
  rw [entsI_snoc1]
  by_cases h : n = d
  · subst h
    rw [if_pos rfl, if_pos rfl]
  · rw [if_neg h, if_neg (by simp; omega), List.append_nil]
theorem kindN_snoc (l : List Itm) (d : Int) (e : Ent) {nd : Nat} (he : e.node = (nd : Int)) (h1 : 1 ≤ nd) (h0 : kindN l nd = 0) : kindN (l ++ [⟨d, e⟩]) = upd (kindN l) nd (kindOf e.dir) := by
  funext n
  unfold upd
  rw [kindN_at, if_neg (by omega)] at h0
  rw [kindN_at, kindN_at]
  by_cases hz : (n : Int) = 0
  · rw [if_pos hz, if_neg (by omega), if_pos hz]
  · rw [if_neg hz, kindGo_snoc]
    simp only [he]
    by_cases h : n = nd
    · subst h
      rw [h0, if_pos rfl, if_pos rfl, if_pos rfl]
    · rw [if_neg h, if_neg hz]
      by_cases hk : kindGo l (n : Int) = 0
      · rw [if_pos hk, if_neg (by omega), hk]
      · rw [if_neg hk]
theorem usedRow_set {l l' : List Itm} {nd : Nat} {x : Bool} (h2 : nd ≤ 200) (hx : decide (nd ≠ 0 ∧ kindN l' nd ≠ 0) = x) (h : ∀ n, n ≠ nd → (kindN l' n = 0 ↔ kindN l n = 0)) : usedRow l' = (usedRow l).set nd x := by
  apply List.ext_getElem?
  intro n
  by_cases hn : n ≤ 200
  · have g : ∀ m : List Itm, (usedRow m)[n]? = some (decide (n ≠ 0 ∧ kindN m n ≠ 0)) := fun m => by
      unfold usedRow
      rw [List.getElem?_map, List.getElem?_range (by omega)]
      rfl
    by_cases e : n = nd
    · subst e
      rw [g, hx, List.getElem?_set_self (by unfold usedRow; rw [List.length_map, List.length_range]; omega)]
    · rw [g, List.getElem?_set_ne (fun e' => e e'.symm), g]
      congr 1
      rw [decide_eq_decide]
      have := h n e
      exact and_congr_right (fun _ => not_congr this)
  · have len : ∀ m : List Itm, (usedRow m).length = 201 := fun m => by unfold usedRow; simp
    rw [List.getElem?_eq_none (by rw [len]; omega), List.getElem?_eq_none (by rw [List.length_set, len]; omega)]
theorem usedRow_same {l l' : List Itm} (h : ∀ n : Nat, (kindN l' n = 0 ↔ kindN l n = 0)) : usedRow l' = usedRow l := by
  unfold usedRow
  apply List.map_congr_left
  intro n _
  rw [decide_eq_decide]
  exact and_congr_right (fun _ => not_congr (h n))
theorem pair_snoc {α : Type} {R : α → α → Prop} {l : List α} {x : α} (h : l.Pairwise R) (hx : ∀ y ∈ l, R y x) : (l ++ [x]).Pairwise R := by
  rw [List.pairwise_append]
  exact ⟨h, List.pairwise_singleton _ _, fun a ha b hb => by
    obtain rfl := List.mem_singleton.1 hb
    exact hx a ha⟩
theorem kindI_two {l : List Itm} {d : Int} (h : listE l d = 0) : kindI l d = 2 := by
  unfold listE at h
  rcases kindI_cases l d with h0 | h0 | h0
  · rw [if_pos h0] at h; omega
  · rw [if_neg (by omega), if_pos h0] at h; omega
  · exact h0
theorem no_name {l : List Itm} {d : Int} {s : ByteArray} (hd : listE l d = 0) (h : (findI l d s).2 ≠ 0) : ∀ x ∈ l, x.inn = d → x.e.name ≠ s := by
  intro x hx hi hs
  unfold findI listI at h
  rw [if_pos hd] at h
  cases hn : named (entsI l d) s with
  | none =>
    unfold named at hn
    rw [List.find?_eq_none] at hn
    exact hn x.e (mem_entsI.2 ⟨x, hx, hi, rfl⟩) (decide_eq_true hs)
  | some y =>
    rw [hn] at h
    exact h rfl
/-- What Find found. -/
theorem found {l : List Itm} {d : Int} {s : ByteArray} (h : (findI l d s).2 = 0) : listE l d = 0 ∧ named (entsI l d) s = some (findI l d s).1 ∧ (⟨d, (findI l d s).1⟩ : Itm) ∈ l ∧ (findI l d s).1.name = s := by
  have hd : listE l d = 0 := by
    apply Classical.byContradiction
    intro hd
    unfold findI listI at h
    rw [if_neg hd] at h
    have hn : named [] s = none := rfl
    rw [hn] at h
    simp only [if_neg hd] at h
    exact hd h
  unfold findI listI at h ⊢
  rw [if_pos hd] at h ⊢
  cases hn : named (entsI l d) s with
  | none =>
    rw [hn] at h
    simp only [if_pos hd] at h
    omega
  | some y =>
    unfold named at hn
    have h1 := List.find?_some hn
    obtain ⟨x, hx, hi, he⟩ := mem_entsI.1 (List.mem_of_find?_eq_some hn)
    refine ⟨hd, rfl, ?_, of_decide_eq_true h1⟩
    obtain ⟨i, e⟩ := x
    simp only at hi he
    subst hi
    subst he
    exact hx
theorem GoodT.mono (h : GoodT l nx) {m : Int} (hm : nx ≤ m) : GoodT l m := ⟨h.node, h.nd, h.inn, h.form, h.names, fun x hx => ⟨(h.cook x hx).1, by have := (h.cook x hx).2; omega⟩, h.rise, h.low, by have := h.nx1; omega⟩
/-- An item more. -/
theorem GoodT.link (h : GoodT l nx) {d : Nat} {s : ByteArray} {isD : Bool} {sh : Int} (hd : listE l (d : Int) = 0) (hb : badE s sh = 0) (hn : (findI l d s).2 ≠ 0) {nd : Nat} (h1 : 1 ≤ nd) (h2 : nd ≤ 200) (h0 : kindN l nd = 0) : GoodT (putI l nx (d : Int) ⟨s, (nd : Int), isD, 0, sh⟩) (nx + 1) := by
  have hk := kindN_snoc l (d : Int) ⟨s, (nd : Int), isD, nx, sh⟩ (nd := nd) rfl h1 h0
  have hfr : ∀ x ∈ l, x.e.node ≠ (nd : Int) := by
    unfold kindN kindI at h0
    rw [if_neg (by omega)] at h0
    exact (kindGo_zero _ _).1 h0
  have hkk : ∀ n : Int, kindI l n = 2 → kindI (l ++ [⟨(d : Int), ⟨s, (nd : Int), isD, nx, sh⟩⟩]) n = 2 := fun n hn => by
    have hb : 0 ≤ n := by
      apply Classical.byContradiction
      intro hc
      have := h.far (d := n) (by omega)
      omega
    have h3 := congrFun hk n.toNat
    rw [kindN_of _ hb] at h3
    unfold upd at h3
    rw [h3, if_neg (fun e => by
      rw [← e, kindN_of _ hb, hn] at h0
      omega), kindN_of _ hb]
    exact hn
  obtain ⟨H, hH⟩ := h.low
  have mem : ∀ x ∈ putI l nx (d : Int) ⟨s, (nd : Int), isD, 0, sh⟩, x ∈ l ∨ x = ⟨(d : Int), ⟨s, (nd : Int), isD, nx, sh⟩⟩ := fun x hx => by
    rcases List.mem_append.1 hx with hx | hx
    · exact Or.inl hx
    · exact Or.inr (List.mem_singleton.1 hx)
  refine ⟨fun x hx => ?_, ?_, fun x hx => ?_, fun x hx => ?_, ?_, fun x hx => ?_, ?_, ⟨fun n => if n = nd then 0 else H n + 1, fun x hx => ?_⟩, by have := h.nx1; omega⟩
  · rcases mem x hx with hx | rfl
    · exact h.node x hx
    · exact ⟨by show (1 : Int) ≤ (nd : Int); omega, by show (nd : Int) ≤ 200; omega⟩
  · show (nodesI (l ++ [_])).Nodup
    unfold nodesI
    rw [List.map_append]
    exact pair_snoc h.nd (fun y hy e => by
      obtain ⟨x, hx, rfl⟩ := List.mem_map.1 hy
      exact hfr x hx e)
  · rcases mem x hx with hx | rfl
    · exact hkk _ (h.inn x hx)
    · exact hkk _ (kindI_two hd)
  · rcases mem x hx with hx | rfl
    · exact h.form x hx
    · exact hb
  · exact pair_snoc h.names (fun y hy e => no_name hd hn y hy e)
  · rcases mem x hx with hx | rfl
    · have := h.cook x hx
      exact ⟨this.1, by omega⟩
    · exact ⟨h.nx1, by show nx < nx + 1; omega⟩
  · exact pair_snoc h.rise (fun y hy => ⟨fun _ => (h.cook y hy).2, by have := (h.cook y hy).2; show y.e.cookie ≠ nx; omega⟩)
  · rcases mem x hx with hx | rfl
    · have e1 : x.e.node.toNat ≠ nd := by have := hfr x hx; have := h.node x hx; omega
      have e2 : x.inn.toNat ≠ nd := fun e => by
        have h5 := h.inn x hx
        have : 0 ≤ x.inn := by
          apply Classical.byContradiction
          intro hc
          have := h.far (d := x.inn) (by omega)
          omega
        unfold kindN at h0
        rw [← e, show ((x.inn.toNat : Nat) : Int) = x.inn by omega, h5] at h0
        omega
      simp only [if_neg e1, if_neg e2]
      have := hH x hx
      omega
    · have e2 : d ≠ nd := fun e => by
        have h5 := kindI_two hd
        unfold kindN at h0
        rw [← e, h5] at h0
        omega
      simp only [Int.toNat_natCast, if_neg e2, if_true]
      omega
/-- An item fewer: what is left. -/
theorem mem_drop (h : GoodT l nx) {x : Itm} (hx : x ∈ l) : ∀ y, y ∈ dropI l x.inn x.e.name ↔ y ∈ l ∧ y ≠ x := by
  intro y
  unfold dropI
  rw [List.mem_filter]
  constructor
  · rintro ⟨hy, h2⟩
    refine ⟨hy, fun e => ?_⟩
    subst e
    simp at h2
  · rintro ⟨hy, hne⟩
    refine ⟨hy, ?_⟩
    have : ¬ (y.inn = x.inn ∧ y.e.name = x.e.name) := fun ⟨e1, e2⟩ => by
      rcases pair_or h.names hy hx hne with h1 | h1
      · exact h1 e1 e2
      · exact h1 e1.symm e2.symm
    simp only [Bool.not_eq_true', Bool.and_eq_false_iff, decide_eq_false_iff_not]
    by_cases e1 : y.inn = x.inn
    · exact Or.inr (fun e2 => this ⟨e1, e2⟩)
    · exact Or.inl e1
theorem drop_sub (l : List Itm) (d : Int) (s : ByteArray) : (dropI l d s).Sublist l := List.filter_sublist
theorem kindGo_drop (h : GoodT l nx) {x : Itm} (hx : x ∈ l) (n : Int) : kindGo (dropI l x.inn x.e.name) n = if n = x.e.node then 0 else kindGo l n := by
  by_cases hn : n = x.e.node
  · rw [if_pos hn, kindGo_zero]
    intro y hy e
    obtain ⟨h1, h2⟩ := (mem_drop h hx y).1 hy
    rcases pair_or (List.pairwise_map.1 h.nd) h1 hx h2 with h3 | h3
    · exact h3 (e.trans hn)
    · exact h3 (e.trans hn).symm
  · rw [if_neg hn]
    by_cases hk : kindGo l n = 0
    · rw [hk, kindGo_zero]
      intro y hy
      exact (kindGo_zero n l).1 hk y ((mem_drop h hx y).1 hy).1
    · obtain ⟨y, hy, rfl⟩ := kindGo_ex hk
      rw [kindGo_mem h.nd hy]
      exact kindGo_mem ((List.Sublist.map _ (drop_sub l _ _)).nodup h.nd) ((mem_drop h hx y).2 ⟨hy, fun e => hn (by rw [e])⟩)
theorem kindN_drop (h : GoodT l nx) {x : Itm} (hx : x ∈ l) : kindN (dropI l x.inn x.e.name) = upd (kindN l) x.e.node.toNat 0 := by
  have hnn := h.node x hx
  funext n
  unfold upd
  rw [kindN_at, kindN_at]
  by_cases hz : (n : Int) = 0
  · rw [if_pos hz, if_pos hz, if_neg (by omega)]
  · rw [if_neg hz, if_neg hz, kindGo_drop h hx]
    by_cases e : n = x.e.node.toNat
    · rw [if_pos e, if_pos (by omega)]
    · rw [if_neg e, if_neg (by omega)]
theorem erase_name : ∀ {L : List Ent} {i : Nat} {s : ByteArray} {x : Ent}, (L.Pairwise fun a b => a.name ≠ b.name) → L[i]? = some x → x.name = s → L.filter (fun y => decide (y.name ≠ s)) = L.eraseIdx i
  | [], i, s, x, _, h, _ => by cases h
  | y :: L, 0, s, x, hp, h, hs => by
    injection h with h
    subst h
    rw [List.filter_cons, if_neg (by simp [hs]), List.eraseIdx_cons_zero]
    rw [List.filter_eq_self]
    intro z hz
    have := (List.pairwise_cons.1 hp).1 z hz
    rw [hs] at this
    exact decide_eq_true (Ne.symm this)
  | y :: L, i + 1, s, x, hp, h, hs => by
    rw [List.getElem?_cons_succ] at h
    have hne := (List.pairwise_cons.1 hp).1 x (List.mem_of_getElem? h)
    rw [List.filter_cons, if_pos (decide_eq_true (by rw [← hs]; exact hne)), List.eraseIdx_cons_succ, erase_name (List.pairwise_cons.1 hp).2 h hs]
theorem entsN_drop (h : GoodT l nx) {d : Nat} {s : ByteArray} {i : Nat} {x : Ent} (hx : (entsN l d)[i]? = some x) (hs : x.name = s) : entsN (dropI l (d : Int) s) = upd (entsN l) d ((entsN l d).eraseIdx i) := by
  funext n
  unfold upd
  by_cases e : n = d
  · subst e
    have he := erase_name (h.names' n) hx hs
    rw [if_pos rfl]
    refine Eq.trans ?_ he
    unfold entsN entsI dropI
    rw [List.filter_filter, List.filter_map, List.filter_filter]
    congr 1
    apply List.filter_congr
    intro y _
    by_cases h1 : y.inn = (n : Int) <;> by_cases h2 : y.e.name = s <;> simp [h1, h2]
  · rw [if_neg e]
    unfold entsN entsI dropI
    rw [List.filter_filter]
    congr 1
    apply List.filter_congr
    intro y _
    by_cases h1 : y.inn = (n : Int)
    · have : y.inn ≠ (d : Int) := by omega
      simp [h1]
      omega
    · simp [h1]
theorem GoodT.unlink (h : GoodT l nx) {x : Itm} (hx : x ∈ l) (he : entsI l x.e.node = []) : GoodT (dropI l x.inn x.e.name) nx := by
  have hsub := drop_sub l x.inn x.e.name
  obtain ⟨H, hH⟩ := h.low
  refine ⟨fun y hy => h.node y (hsub.subset hy), (hsub.map _).nodup h.nd, fun y hy => ?_, fun y hy => h.form y (hsub.subset hy), h.names.sublist hsub, fun y hy => h.cook y (hsub.subset hy), h.rise.sublist hsub, ⟨H, fun y hy => hH y (hsub.subset hy)⟩, h.nx1⟩
  have hy' := hsub.subset hy
  have hi := h.inn y hy'
  have hne : y.inn ≠ x.e.node := fun e => by
    have : y.e ∈ entsI l x.e.node := mem_entsI.2 ⟨y, hy', e, rfl⟩
    rw [he] at this
    cases this
  unfold kindI at hi ⊢
  by_cases hz : y.inn = 0
  · rw [if_pos hz]
  · rw [if_neg hz] at hi ⊢
    rw [kindGo_drop h hx, if_neg hne]
    exact hi
end
end Go.Proofs.Ytmplekjiciedgaa

namespace Go.Proofs.Ytmplekjiciedgaa
open Go.RowKit Go.Sort
set_option linter.unusedVariables false

/-- On the way up from n stands x. -/
inductive Up (l : List Itm) (x : Int) : Int → Prop
  | here : Up l x x
  | step (y : Itm) : y ∈ l → Up l x y.inn → Up l x y.e.node
theorem Up.snoc {l : List Itm} {n m : Int} (h : Up l m n) : ∀ {y : Itm}, y ∈ l → y.e.node = m → Up l y.inn n := by
  induction h with
  | here => intro y hy e; rw [← e]; exact Up.step y hy Up.here
  | step z hz _ ih => intro y hy e; exact Up.step z hz (ih hy e)
section
variable {l : List Itm} {nx : Int}
theorem GoodT.inn_range (h : GoodT l nx) {x : Itm} (hx : x ∈ l) : 0 ≤ x.inn ∧ x.inn ≤ 200 := by
  have h5 := h.inn x hx
  constructor
  · apply Classical.byContradiction
    intro hc
    have := h.far (d := x.inn) (by omega)
    omega
  · apply Classical.byContradiction
    intro hc
    have := h.far (d := x.inn) (by omega)
    omega
theorem nodeAt_some {n : Int} {y : Itm} (h : nodeAt l n = some y) : y ∈ l ∧ y.e.node = n := by
  unfold nodeAt at h
  have h1 := List.find?_some h
  exact ⟨List.mem_of_find?_eq_some h, of_decide_eq_true h1⟩
theorem loop_up (l : List Itm) (x : Int) : ∀ k n, loopGo l x k n = true → Up l x n
  | 0, n, h => by cases h
  | k + 1, n, h => by
    unfold loopGo at h
    split at h
    · cases h
    · split at h
      · rename_i e; rw [e]; exact Up.here
      · unfold aboveI at h
        cases hn : nodeAt l n with
        | none =>
          rw [hn] at h
          cases k with
          | zero => cases h
          | succ k =>
            unfold loopGo at h
            rw [if_pos (by decide)] at h
            cases h
        | some y =>
          rw [hn] at h
          obtain ⟨h1, h2⟩ := nodeAt_some hn
          rw [← h2]
          exact Up.step y h1 (loop_up l x k y.inn h)
theorem loop_mono (l : List Itm) (x : Int) : ∀ k m n, k ≤ m → loopGo l x k n = true → loopGo l x m n = true
  | 0, m, n, _, h => by cases h
  | k + 1, 0, n, hm, h => by omega
  | k + 1, m + 1, n, hm, h => by
    unfold loopGo at h ⊢
    split at h
    · cases h
    · rename_i h1
      rw [if_neg h1]
      split at h
      · rename_i h2; rw [if_pos h2]
      · rename_i h2
        rw [if_neg h2]
        exact loop_mono l x k m _ (by omega) h
theorem nodeAt_mem (h : GoodT l nx) {y : Itm} (hy : y ∈ l) : nodeAt l y.e.node = some y := by
  cases hn : nodeAt l y.e.node with
  | none =>
    unfold nodeAt at hn
    rw [List.find?_eq_none] at hn
    exact absurd (decide_eq_true rfl) (hn y hy)
  | some z =>
    obtain ⟨h1, h2⟩ := nodeAt_some hn
    congr 1
    apply Classical.byContradiction
    intro hne
    rcases pair_or (List.pairwise_map.1 h.nd) h1 hy hne with h3 | h3
    · exact h3 h2
    · exact h3 h2.symm
theorem up_loop (h : GoodT l nx) {H : Nat → Nat} (hH : ∀ x ∈ l, H x.e.node.toNat < H x.inn.toNat) {x n : Int} (hx : 0 ≤ x) (hu : Up l x n) : 0 ≤ n ∧ loopGo l x ((l.filter fun y => decide (H n.toNat ≤ H y.e.node.toNat)).length + 1) n = true := by
  induction hu with
  | here =>
    refine ⟨hx, ?_⟩
    unfold loopGo
    rw [if_neg (by omega), if_pos rfl]
  | step y hy _ ih =>
    have h1 := h.node y hy
    refine ⟨by omega, ?_⟩
    unfold loopGo
    rw [if_neg (by omega)]
    split
    · rfl
    · unfold aboveI
      rw [nodeAt_mem h hy]
      refine loop_mono l x _ _ _ ?_ ih.2
      have hlt := hH y hy
      have hsub : ((l.filter fun z => decide (H y.inn.toNat ≤ H z.e.node.toNat)).length) < (l.filter fun z => decide (H y.e.node.toNat ≤ H z.e.node.toNat)).length := by
        have hs : (l.filter fun z => decide (H y.inn.toNat ≤ H z.e.node.toNat)) = ((l.filter fun z => decide (H y.e.node.toNat ≤ H z.e.node.toNat)).filter fun z => decide (H y.inn.toNat ≤ H z.e.node.toNat)) := by
          rw [List.filter_filter]
          apply List.filter_congr
          intro z _
          by_cases h2 : H y.inn.toNat ≤ H z.e.node.toNat
          · rw [decide_eq_true h2, decide_eq_true (by omega)]; rfl
          · rw [decide_eq_false h2]; rfl
        rw [hs]
        apply Classical.byContradiction
        intro hc
        have hle := List.length_filter_le (fun z : Itm => decide (H y.inn.toNat ≤ H z.e.node.toNat)) (l.filter fun z => decide (H y.e.node.toNat ≤ H z.e.node.toNat))
        have hall := List.length_filter_eq_length_iff.1 (by omega : ((l.filter fun z => decide (H y.e.node.toNat ≤ H z.e.node.toNat)).filter fun z => decide (H y.inn.toNat ≤ H z.e.node.toNat)).length = _)
        have := of_decide_eq_true (hall y (List.mem_filter.2 ⟨hy, decide_eq_true (Nat.le_refl _)⟩))
        omega
      omega
theorem loop_iff (h : GoodT l nx) {x n : Int} (hx : 0 ≤ x) : loopGo l x 300 n = true ↔ Up l x n := by
  refine ⟨loop_up l x 300 n, fun hu => ?_⟩
  obtain ⟨H, hH⟩ := h.low
  refine loop_mono l x _ _ _ ?_ (up_loop h hH hx hu).2
  have := h.len
  have := List.length_filter_le (fun y : Itm => decide (H n.toNat ≤ H y.e.node.toNat)) l
  omega
/-- Down by the entries. -/
theorem below_up (h : GoodT l nx) (n : Int) : ∀ k d, belowG (entsN l) n k d = true → Up l (d : Int) n
  | 0, d, h1 => by cases h1
  | k + 1, d, h1 => by
    unfold belowG at h1
    rw [List.any_eq_true] at h1
    obtain ⟨e, he, h1⟩ := h1
    obtain ⟨y, hy, hd, rfl⟩ := mem_entsI.1 he
    rw [Bool.or_eq_true] at h1
    rw [← hd]
    rcases h1 with h1 | h1
    · rw [← of_decide_eq_true h1]
      exact Up.step y hy Up.here
    · have h2 := below_up h n k y.e.node.toNat h1
      have := h.node y hy
      rw [show ((y.e.node.toNat : Nat) : Int) = y.e.node by omega] at h2
      exact h2.snoc hy rfl
theorem below_ext {H : Nat → Nat} (hH : ∀ x ∈ l, H x.e.node.toNat < H x.inn.toNat) {y : Itm} (hy : y ∈ l) (hi : 0 ≤ y.inn) : ∀ k d, H d < k → belowG (entsN l) y.inn k d = true → belowG (entsN l) y.e.node k d = true
  | 0, d, hk, _ => absurd hk (Nat.not_lt_zero _)
  | k + 1, d, hk, h1 => by
    unfold belowG at h1 ⊢
    rw [List.any_eq_true] at h1 ⊢
    obtain ⟨e, he, h1⟩ := h1
    obtain ⟨z, hz, hd, rfl⟩ := mem_entsI.1 he
    have hlt := hH z hz
    rw [hd, Int.toNat_natCast] at hlt
    refine ⟨z.e, he, ?_⟩
    rw [Bool.or_eq_true] at h1 ⊢
    right
    rcases h1 with h1 | h1
    · have hm := of_decide_eq_true h1
      rw [hm] at hlt ⊢
      cases k with
      | zero => omega
      | succ k =>
        unfold belowG
        rw [List.any_eq_true]
        refine ⟨y.e, ?_, by simp⟩
        unfold entsN
        rw [show ((y.inn.toNat : Nat) : Int) = y.inn by omega]
        exact mem_entsI.2 ⟨y, hy, rfl, rfl⟩
    · exact below_ext hH hy hi k _ (by omega) h1
theorem up_below (h : GoodT l nx) {H : Nat → Nat} (hH : ∀ x ∈ l, H x.e.node.toNat < H x.inn.toNat) {d k : Nat} (hk : H d < k) {n : Int} (hu : Up l (d : Int) n) : n = (d : Int) ∨ belowG (entsN l) n k d = true := by
  induction hu with
  | here => exact Or.inl rfl
  | step y hy _ ih =>
    right
    rcases ih with ih | ih
    · cases k with
      | zero => omega
      | succ k =>
        unfold belowG
        rw [List.any_eq_true]
        exact ⟨y.e, mem_entsI.2 ⟨y, hy, ih, rfl⟩, by simp⟩
    · exact below_ext hH hy (h.inn_range hy).1 k d hk ih
/-- The code's question, and the reference's. -/
theorem loop_below (h : GoodT l nx) {H : Nat → Nat} (hH : ∀ x ∈ l, H x.e.node.toNat < H x.inn.toNat) (d : Nat) (n : Int) : loopGo l (d : Int) 300 n = (decide ((d : Int) = n) || belowG (entsN l) n (H d + 1) d) := by
  rw [Bool.eq_iff_iff, loop_iff h (by omega), Bool.or_eq_true, decide_eq_true_eq]
  constructor
  · intro hu
    rcases up_below h hH (Nat.lt_succ_self _) hu with h1 | h1
    · exact Or.inl h1.symm
    · exact Or.inr h1
  · rintro (h1 | h1)
    · rw [← h1]; exact Up.here
    · exact below_up h n _ d h1
theorem GoodT.lower (h : GoodT l nx) {H : Nat → Nat} (hH : ∀ x ∈ l, H x.e.node.toNat < H x.inn.toNat) : Lower (entsN l) H :=
  ⟨fun d _ e he => by
    obtain ⟨y, hy, hd, rfl⟩ := mem_entsI.1 he
    have h1 := h.node y hy
    have h2 := hH y hy
    rw [hd, Int.toNat_natCast] at h2
    exact ⟨y.e.node.toNat, by omega, by omega, h2⟩, fun d _ => Nat.le_trans (h.elen d) (by omega)⟩
theorem kindN_move (h : GoodT l nx) {x : Itm} (hx : x ∈ l) (dt : Int) (ns : ByteArray) (sh : Int) : kindN (putI (dropI l x.inn x.e.name) nx dt ⟨ns, x.e.node, x.e.dir, 0, sh⟩) = kindN l := by
  have hn := h.node x hx
  have h1 := kindN_snoc (dropI l x.inn x.e.name) dt ⟨ns, x.e.node, x.e.dir, nx, sh⟩ (nd := x.e.node.toNat) (by show x.e.node = _; omega) (by omega) (by rw [kindN_drop h hx, upd_same])
  refine h1.trans ?_
  rw [kindN_drop h hx, upd_upd]
  have h2 : kindOf x.e.dir = kindN l x.e.node.toNat := by
    rw [kindN_of _ (by omega), kindI_mem h hx]
  show upd (kindN l) _ (kindOf x.e.dir) = _
  rw [h2, upd_self]
open Classical in
theorem GoodT.move (h : GoodT l nx) {x : Itm} (hx : x ∈ l) {dt : Nat} {ns : ByteArray} {sh : Int} (hd : listE l (dt : Int) = 0) (hb : badE ns sh = 0) (hl : loopGo l x.e.node 300 (dt : Int) ≠ true) (hn : (findI l (dt : Int) ns).2 ≠ 0) : GoodT (putI (dropI l x.inn x.e.name) nx (dt : Int) ⟨ns, x.e.node, x.e.dir, 0, sh⟩) (nx + 1) := by
  have hnx := h.node x hx
  have hsub := drop_sub l x.inn x.e.name
  have hk := kindN_move h hx (dt : Int) ns sh
  have hup : ¬ Up l x.e.node (dt : Int) := fun hu => hl ((loop_iff h (by omega)).2 hu)
  obtain ⟨H, hH⟩ := h.low
  have mem : ∀ y ∈ putI (dropI l x.inn x.e.name) nx (dt : Int) ⟨ns, x.e.node, x.e.dir, 0, sh⟩, (y ∈ l ∧ y ≠ x) ∨ y = ⟨(dt : Int), ⟨ns, x.e.node, x.e.dir, nx, sh⟩⟩ := fun y hy => by
    rcases List.mem_append.1 hy with hy | hy
    · exact Or.inl ((mem_drop h hx y).1 hy)
    · exact Or.inr (List.mem_singleton.1 hy)
  have hkk : ∀ n : Int, 0 ≤ n → kindI l n = 2 → kindI (putI (dropI l x.inn x.e.name) nx (dt : Int) ⟨ns, x.e.node, x.e.dir, 0, sh⟩) n = 2 := fun n h0 hn => by
    rw [← kindN_of _ h0, hk, kindN_of _ h0]
    exact hn
  refine ⟨fun y hy => ?_, ?_, fun y hy => ?_, fun y hy => ?_, ?_, fun y hy => ?_, ?_, ⟨fun n => H n + (if Up l (n : Int) (dt : Int) then H x.e.node.toNat + 1 else 0), fun y hy => ?_⟩, by have := h.nx1; omega⟩
  · rcases mem y hy with hy | rfl
    · exact h.node y hy.1
    · exact hnx
  · show (nodesI (dropI l x.inn x.e.name ++ [_])).Nodup
    unfold nodesI
    rw [List.map_append]
    exact pair_snoc ((hsub.map _).nodup h.nd) (fun z hz e => by
      obtain ⟨y, hy, rfl⟩ := List.mem_map.1 hz
      obtain ⟨h1, h2⟩ := (mem_drop h hx y).1 hy
      rcases pair_or (List.pairwise_map.1 h.nd) h1 hx h2 with h3 | h3
      · exact h3 e
      · exact h3 e.symm)
  · rcases mem y hy with hy | rfl
    · exact hkk _ (h.inn_range hy.1).1 (h.inn y hy.1)
    · exact hkk _ (by show (0 : Int) ≤ (dt : Int); omega) (kindI_two hd)
  · rcases mem y hy with hy | rfl
    · exact h.form y hy.1
    · exact hb
  · exact pair_snoc (h.names.sublist hsub) (fun y hy e => no_name hd hn y (hsub.subset hy) e)
  · rcases mem y hy with hy | rfl
    · have := h.cook y hy.1
      exact ⟨this.1, by omega⟩
    · exact ⟨h.nx1, by show nx < nx + 1; omega⟩
  · exact pair_snoc (h.rise.sublist hsub) (fun y hy => ⟨fun _ => (h.cook y (hsub.subset hy)).2, by have := (h.cook y (hsub.subset hy)).2; show y.e.cookie ≠ nx; omega⟩)
  · rcases mem y hy with ⟨hy, _⟩ | rfl
    · have h1 := hH y hy
      have h2 := h.node y hy
      have h3 := (h.inn_range hy).1
      dsimp only
      rw [show ((y.e.node.toNat : Nat) : Int) = y.e.node by omega, show ((y.inn.toNat : Nat) : Int) = y.inn by omega]
      by_cases hu : Up l y.e.node (dt : Int)
      · rw [if_pos hu, if_pos (hu.snoc hy rfl)]
        omega
      · rw [if_neg hu]
        omega
    · show H x.e.node.toNat + (if Up l ((x.e.node.toNat : Nat) : Int) (dt : Int) then _ else 0) < H ((dt : Int)).toNat + (if Up l ((((dt : Int)).toNat : Nat) : Int) (dt : Int) then _ else 0)
      rw [show ((x.e.node.toNat : Nat) : Int) = x.e.node by omega, if_neg hup, Int.toNat_natCast, if_pos Up.here]
      omega
end
end Go.Proofs.Ytmplekjiciedgaa
