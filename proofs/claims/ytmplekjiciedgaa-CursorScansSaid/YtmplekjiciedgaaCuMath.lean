/-
  Cursors, plainly: what is read behind a cursor; who goes on from 0 reads each entry that stays once, and nothing twice.
-/
import Derived.Test.YtmplekjiciedgaaQF
import Derived.Test.YtmplekjiciedgaaQ5
namespace Go.Proofs.Ytmplekjiciedgaa
open Go.RowKit Go.Sort
set_option linter.unusedVariables false

def aboveC (c : Int) (l : List Ent) : List Ent := l.filter fun e => decide (c < e.cookie)
def lastC (c : Int) (l : List Ent) : Int := (l.getLast?.map Ent.cookie).getD c
/-- What is read behind a cursor, the next cursor, the error. -/
def readI (l : List Ent) (c n : Int) : List Ent × Int × Int :=
  if n < 1 ∨ 64 < n then ([], 0, 1) else if c < 0 then ([], 0, 14) else ((aboveC c l).take n.toNat, lastC c ((aboveC c l).take n.toNat), 0)
def Rises (l : List Ent) : Prop := l.Pairwise fun a b => a.cookie < b.cookie
theorem readI_ok {l : List Ent} {c n : Int} (h1 : 1 ≤ n) (h2 : n ≤ 64) (hc : 0 ≤ c) : readI l c n = ((aboveC c l).take n.toNat, lastC c ((aboveC c l).take n.toNat), 0) := by
  unfold readI
  rw [if_neg (by omega), if_neg (by omega)]
theorem GoodT.rises {l : List Itm} {nx : Int} (h : GoodT l nx) (d : Int) : Rises (entsI l d) := by
  unfold Rises entsI
  rw [List.pairwise_map]
  refine List.Pairwise.imp_of_mem ?_ (List.Pairwise.filter _ h.rise)
  intro a b ha hb hab
  have h1 := of_decide_eq_true (List.mem_filter.1 ha).2
  have h2 := of_decide_eq_true (List.mem_filter.1 hb).2
  exact hab.1 (h1.trans h2.symm)
theorem rises_nil : Rises [] := List.Pairwise.nil
theorem GoodT.risesL {l : List Itm} {nx : Int} (h : GoodT l nx) (d : Int) : Rises (listI l d) := by
  unfold listI
  split
  · exact h.rises d
  · exact rises_nil
theorem lastC_nil (c : Int) : lastC c [] = c := rfl
theorem lastC_snoc (c : Int) (l : List Ent) (e : Ent) : lastC c (l ++ [e]) = e.cookie := by simp [lastC]
theorem last_cases (l : List Ent) : l = [] ∨ ∃ a e, l = a ++ [e] := by
  rcases List.eq_nil_or_concat l with h | ⟨a, e, h⟩
  · exact Or.inl h
  · exact Or.inr ⟨a, e, by simpa using h⟩
theorem rises_last {l : List Ent} (h : Rises l) (c : Int) : ∀ e ∈ l, e.cookie ≤ lastC c l := by
  intro e he
  rcases last_cases l with rfl | ⟨a, x, rfl⟩
  · cases he
  · rw [lastC_snoc]
    rcases List.mem_append.1 he with he | he
    · have := (List.pairwise_append.1 h).2.2 e he x (by simp)
      omega
    · rw [List.mem_singleton.1 he]
      exact Int.le_refl _
theorem mem_above {c : Int} {l : List Ent} {e : Ent} : e ∈ aboveC c l ↔ e ∈ l ∧ c < e.cookie := by
  unfold aboveC
  rw [List.mem_filter, decide_eq_true_iff]
theorem above_rises {c : Int} {l : List Ent} (h : Rises l) : Rises (aboveC c l) := List.Pairwise.filter _ h
theorem take_rises {l : List Ent} (h : Rises l) (n : Nat) : Rises (l.take n) := List.Pairwise.sublist (List.take_sublist n l) h
theorem last_le {c : Int} {l : List Ent} (h : ∀ e ∈ l, c < e.cookie) : c ≤ lastC c l := by
  rcases last_cases l with rfl | ⟨a, x, rfl⟩
  · exact Int.le_refl _
  · rw [lastC_snoc]
    have := h x (by simp)
    omega
/-- What stands between the cursors was read. -/
theorem read_all {c : Int} {l : List Ent} (h : Rises l) (n : Nat) {e : Ent} (he : e ∈ l) (h1 : c < e.cookie) (h2 : e.cookie ≤ lastC c ((aboveC c l).take n)) : e ∈ (aboveC c l).take n := by
  have hm : e ∈ aboveC c l := mem_above.2 ⟨he, h1⟩
  rw [← List.take_append_drop n (aboveC c l)] at hm
  rcases List.mem_append.1 hm with hm | hm
  · exact hm
  · exfalso
    have hp := above_rises (c := c) h
    rw [← List.take_append_drop n (aboveC c l)] at hp
    have hx := (List.pairwise_append.1 hp).2.2
    rcases last_cases ((aboveC c l).take n) with h0 | ⟨a, x, h0⟩
    · rw [h0, lastC_nil] at h2
      omega
    · have := hx x (by rw [h0]; simp) e hm
      rw [h0, lastC_snoc] at h2
      omega
def addAll (a now : List Ent) : List Ent := now.foldl (fun a e => if e ∈ a then a else a ++ [e]) a
theorem addAll_cons (a : List Ent) (e : Ent) (now : List Ent) : addAll a (e :: now) = addAll (if e ∈ a then a else a ++ [e]) now := rfl
theorem mem_addAll : ∀ (now a : List Ent) (e : Ent), e ∈ addAll a now ↔ e ∈ a ∨ e ∈ now
  | [], a, e => by simp [addAll]
  | y :: now, a, e => by
    rw [addAll_cons, mem_addAll now]
    by_cases h : y ∈ a
    · rw [if_pos h]
      constructor
      · rintro (h1 | h1)
        · exact Or.inl h1
        · exact Or.inr (List.mem_cons_of_mem _ h1)
      · rintro (h1 | h1)
        · exact Or.inl h1
        · rcases List.mem_cons.1 h1 with h1 | h1
          · exact Or.inl (h1 ▸ h)
          · exact Or.inr h1
    · rw [if_neg h]
      simp only [List.mem_append, List.mem_cons, List.not_mem_nil, or_false, or_assoc]
def OneC (l : List Ent) : Prop := l.Pairwise fun a b => a.cookie ≠ b.cookie
theorem rises_one {l : List Ent} (h : Rises l) : OneC l := List.Pairwise.imp (fun h => Int.ne_of_lt h) h
theorem one_inj : ∀ {l : List Ent}, OneC l → ∀ {a b : Ent}, a ∈ l → b ∈ l → a.cookie = b.cookie → a = b
  | [], _, _, _, ha, _, _ => nomatch ha
  | x :: l, h, a, b, ha, hb, he => by
    obtain ⟨h1, h2⟩ := List.pairwise_cons.1 h
    rcases List.mem_cons.1 ha with ha | ha
    · rcases List.mem_cons.1 hb with hb | hb
      · rw [ha, hb]
      · exact absurd (by rw [← ha]; exact he) (h1 b hb)
    · rcases List.mem_cons.1 hb with hb | hb
      · exact absurd (by rw [← hb]; exact he.symm) (h1 a ha)
      · exact one_inj h2 ha hb he
theorem addAll_one : ∀ (now a : List Ent), OneC a → (∀ x, x ∈ a ∨ x ∈ now → ∀ y ∈ now, x.cookie = y.cookie → x = y) → OneC (addAll a now)
  | [], a, h, _ => h
  | y :: now, a, h, hx => by
    rw [addAll_cons]
    by_cases hy : y ∈ a
    · rw [if_pos hy]
      exact addAll_one now a h (fun x h1 z hz => hx x (h1.imp id (List.mem_cons_of_mem _)) z (List.mem_cons_of_mem _ hz))
    · rw [if_neg hy]
      refine addAll_one now _ ?_ (fun x h1 z hz => ?_)
      · unfold OneC
        rw [List.pairwise_append]
        refine ⟨h, by simp, fun u hu v hv hc => ?_⟩
        rw [List.mem_singleton.1 hv] at hc
        have := hx u (Or.inl hu) y (by simp) hc
        exact hy (this ▸ hu)
      · refine hx x ?_ z (List.mem_cons_of_mem _ hz)
        rcases h1 with h1 | h1
        · rcases List.mem_append.1 h1 with h1 | h1
          · exact Or.inl h1
          · exact Or.inr (by rw [List.mem_singleton.1 h1]; simp)
        · exact Or.inr (List.mem_cons_of_mem _ h1)
theorem count_none {e : Ent} : ∀ {l : List Ent}, e ∉ l → l.count e = 0 := fun h => List.count_eq_zero.2 h
theorem count_one_of {e : Ent} : ∀ {l : List Ent}, l.Nodup → e ∈ l → l.count e = 1
  | [], _, h => nomatch h
  | x :: l, hn, h => by
    obtain ⟨h1, h2⟩ := List.nodup_cons.1 hn
    by_cases hx : x = e
    · subst hx
      rw [List.count_cons_self, count_none h1]
    · rw [List.count_cons_of_ne (by simpa using hx)]
      rcases List.mem_cons.1 h with h3 | h3
      · exact absurd h3.symm hx
      · exact count_one_of h2 h3
/-- Who reads on: F at first, all that was there, rd read so far, the cursor c, R there now. -/
structure Scan (F all rd : List Ent) (c nx : Int) (R : List Ent) : Prop where
  cur : ∀ e ∈ R, e ∈ all
  sub : ∀ e ∈ F, e ∈ all
  one : OneC all
  low : ∀ e ∈ all, 1 ≤ e.cookie ∧ e.cookie < nx
  red : ∀ e ∈ rd, e ∈ all ∧ e.cookie ≤ c
  ris : Rises rd
  full : ∀ e ∈ F, e ∈ R → e.cookie ≤ c → e ∈ rd
  pos : 0 ≤ c
theorem Scan.start {R : List Ent} {nx : Int} (hR : Rises R) (hl : ∀ e ∈ R, 1 ≤ e.cookie ∧ e.cookie < nx) : Scan R R [] 0 nx R :=
  ⟨fun _ h => h, fun _ h => h, rises_one hR, hl, (fun _ h => nomatch h), rises_nil, fun e he _ hc => by have := (hl e he).1; omega, Int.le_refl _⟩
section
variable {F all rd R : List Ent} {c nx : Int}
theorem Scan.read (h : Scan F all rd c nx R) (hR : Rises R) (n : Nat) : Scan F all (rd ++ (aboveC c R).take n) (lastC c ((aboveC c R).take n)) nx R := by
  have hab : ∀ e ∈ (aboveC c R).take n, e ∈ R ∧ c < e.cookie := fun e he => mem_above.1 (List.mem_of_mem_take he)
  have hle := last_le (c := c) (fun e he => (hab e he).2)
  have hris := take_rises (above_rises (c := c) hR) n
  refine ⟨h.cur, h.sub, h.one, h.low, fun e he => ?_, ?_, fun e he hr hc => ?_, by have := h.pos; omega⟩
  · rcases List.mem_append.1 he with he | he
    · have := h.red e he
      exact ⟨this.1, by omega⟩
    · exact ⟨h.cur e (hab e he).1, rises_last hris c e he⟩
  · unfold Rises
    rw [List.pairwise_append]
    refine ⟨h.ris, hris, fun a ha b hb => ?_⟩
    have h1 := (h.red a ha).2
    have h2 := (hab b hb).2
    omega
  · by_cases h1 : e.cookie ≤ c
    · exact List.mem_append_left _ (h.full e he hr h1)
    · exact List.mem_append_right _ (read_all hR n hr (by omega) hc)
theorem Scan.call (h : Scan F all rd c nx R) {R' : List Ent} {nx' : Int} (hn : nx ≤ nx') (hnew : ∀ e ∈ R', e ∈ R ∨ nx ≤ e.cookie) (hl : ∀ e ∈ R', 1 ≤ e.cookie ∧ e.cookie < nx') (hR : Rises R') : Scan F (addAll all R') rd c nx' R' := by
  have hone := rises_one hR
  refine ⟨fun e he => (mem_addAll _ _ _).2 (Or.inr he), fun e he => (mem_addAll _ _ _).2 (Or.inl (h.sub e he)), addAll_one _ _ h.one ?_, fun e he => ?_, fun e he => ⟨(mem_addAll _ _ _).2 (Or.inl (h.red e he).1), (h.red e he).2⟩, h.ris, fun e he hr hc => ?_, h.pos⟩
  · intro x hx y hy hc
    rcases hx with hx | hx
    · rcases hnew y hy with h1 | h1
      · exact one_inj h.one hx (h.cur y h1) hc
      · have := (h.low x hx).2
        omega
    · exact one_inj hone hx hy hc
  · rcases (mem_addAll _ _ _).1 he with he | he
    · have := h.low e he
      omega
    · exact hl e he
  · rcases hnew e hr with h1 | h1
    · exact h.full e he h1 hc
    · have := (h.low e (h.sub e he)).2
      omega
theorem one_nodup {l : List Ent} (h : OneC l) : (l.map Ent.cookie).Nodup := by
  unfold List.Nodup
  rw [List.pairwise_map]
  exact h
theorem Scan.rd_le (h : Scan F all rd c nx R) : rd.length ≤ all.length := by
  have := nodup_sub_len (rd.map Ent.cookie) (all.map Ent.cookie) (one_nodup (rises_one h.ris)) (fun x hx => by
    obtain ⟨e, he, rfl⟩ := List.mem_map.1 hx
    exact List.mem_map_of_mem (h.red e he).1)
  simpa using this
theorem Scan.all_le (h : Scan F all rd c nx R) (h1 : 1 ≤ nx) : (all.length : Int) ≤ nx - 1 := by
  have := nodup_sub_len (all.map Ent.cookie) ((List.range (nx - 1).toNat).map fun k : Nat => (k : Int) + 1) (one_nodup h.one) (fun x hx => by
    obtain ⟨e, he, rfl⟩ := List.mem_map.1 hx
    have := h.low e he
    exact List.mem_map.2 ⟨(e.cookie - 1).toNat, List.mem_range.2 (by omega), by omega⟩)
  simp only [List.length_map, List.length_range] at this
  omega
theorem Scan.count (h : Scan F all rd c nx R) {e : Ent} (he : e ∈ rd) : rd.count e = 1 := by
  have h1 : rd.Pairwise fun a b => a.cookie ≠ b.cookie := rises_one h.ris
  have hn : rd.Nodup := by
    refine List.Pairwise.imp ?_ h1
    intro a b hab e
    exact hab (by rw [e])
  exact count_one_of hn he
/-- At the end: what stayed was read once. -/
theorem Scan.stay (h : Scan F all rd c nx R) (hd : (aboveC c R) = []) {e : Ent} (he : e ∈ F) (hr : e ∈ R) : rd.count e = 1 := by
  refine h.count (h.full e he hr ?_)
  rcases Int.lt_or_le c e.cookie with h1 | h1
  · have : e ∈ aboveC c R := mem_above.2 ⟨hr, h1⟩
    rw [hd] at this
    cases this
  · exact h1
theorem take_nil_above {n : Nat} (hn : 0 < n) {l : List Ent} (h : l.take n = []) : l = [] := by
  cases l with
  | nil => rfl
  | cons a l => rw [show n = (n - 1) + 1 by omega, List.take_succ_cons] at h; cases h
end
/-- A call's entries: old ones, or such with a new cookie. -/
theorem put_new {l : List Itm} {nx d : Int} {e : Ent} {q : Int} : ∀ x ∈ entsI (putI l nx d e) q, x ∈ entsI l q ∨ nx ≤ x.cookie := by
  intro x hx
  obtain ⟨y, hy, h1, h2⟩ := mem_entsI.1 hx
  unfold putI at hy
  rcases List.mem_append.1 hy with hy | hy
  · exact Or.inl (mem_entsI.2 ⟨y, hy, h1, h2⟩)
  · rw [List.mem_singleton.1 hy] at h2
    exact Or.inr (by rw [← h2]; exact Int.le_refl _)
theorem drop_old {l : List Itm} {d : Int} {s : ByteArray} {q : Int} : ∀ x ∈ entsI (dropI l d s) q, x ∈ entsI l q := by
  intro x hx
  obtain ⟨y, hy, h1, h2⟩ := mem_entsI.1 hx
  exact mem_entsI.2 ⟨y, (List.mem_filter.1 hy).1, h1, h2⟩
theorem doI_new (l : List Itm) (nx : Int) (o : OpT) (q : Int) : ∀ x ∈ entsI (doI l nx o).1.1 q, x ∈ entsI l q ∨ nx ≤ x.cookie := by
  intro x hx
  unfold doI at hx
  split at hx
  · unfold linkI at hx
    repeat' split at hx
    all_goals first | exact Or.inl hx | exact put_new x hx
  · split at hx
    · unfold unlinkI at hx
      repeat' split at hx
      all_goals first | exact Or.inl hx | exact Or.inl (drop_old x hx)
    · unfold moveI at hx
      repeat' split at hx
      all_goals first | exact Or.inl hx | exact (put_new x hx).imp (drop_old x) id
theorem root_ents (l : List Itm) : listI l 0 = entsI l 0 := by
  unfold listI
  rw [if_pos (by rfl)]
end Go.Proofs.Ytmplekjiciedgaa
