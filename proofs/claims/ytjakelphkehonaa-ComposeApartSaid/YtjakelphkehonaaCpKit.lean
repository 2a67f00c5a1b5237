/-
  Appending a slice of characters, whatever slice it is, to a slice of one's own; bounds of what is taken apart.
-/
import Derived.Test.YtjakelphkehonaaCpStable
import Derived.Test.YtjakelphkehonaaCpTog
import Derived.Test.YtjakelphkehonaaCpLawA
import Derived.Laws.AppendOwnNone
import Derived.Laws.NewBlocks
namespace Go.Proofs.Ytjakelphkehonaa
open Go.RowKit Go.Sort
set_option linter.unusedVariables false

/-- The slice v holds l; nil has no room. -/
def SliceOk (w : World) (v : Value) (l : List Int) : Prop := SliceIs w v l ∧ (v = .slice none 0 0 ∨ ∃ ad cap, v = .slice (some ad) l.length cap)
theorem SliceOk.kept {w w' : World} {v : Value} {l : List Int} (h : SliceOk w v l) (hb : Below w.heap.size w w') : SliceOk w' v l := ⟨h.1.kept hb, h.2⟩
theorem SliceOk.nil (w : World) : SliceOk w (.slice none 0 0) [] := ⟨SliceIs.nil w, Or.inl rfl⟩
theorem SliceOk.own {B : Nat} {w : World} {v : Value} {xs : List Int} (h : OwnI B w v xs) : SliceOk w v xs := by
  refine ⟨SliceIs.own h, ?_⟩
  rcases h.2 with ⟨hv, _⟩ | ⟨g', cap', cur, hv, _⟩
  · exact Or.inl hv
  · exact Or.inr ⟨_, cap', hv⟩
theorem own_empty (B : Nat) (w : World) (hB : B ≤ w.heap.size) : OwnI B (w.alloc (.cells #[] 21)) (.slice (some ⟨w.heap.size, 0, none⟩) 0 0) [] :=
  ⟨rfl, Or.inr ⟨w.heap.size, 0, #[], rfl, hB, heap_alloc_new _ _, Nat.le_refl _, by unfold maxLen; omega, rfl, rfl⟩⟩

theorem addr_add (g off j : Nat) : (⟨g, off, none⟩ : Addr).add j = ⟨g, off + j, none⟩ := by
  unfold Addr.add
  split
  · rename_i h; subst h; rfl
  · rfl
theorem append_ok {ops : Array Oper} {rest : List Oper} {o : Oper} {a : Act} {Q : Exit → Act → World → Prop} {w : World} (hgd : o.guard = none) (s x : Operand)
    (ho : o.op = .call { callee := .builtin .append, args := #[s, x], argTypes := #[22, 22] }) (B : Nat) (v : Value) (xs : List Int) (hs : a.eval s = v) (hown : OwnI B w v xs)
    (vx : Value) (L : List Int) (hx : a.eval x = vx) (hsrc : SliceOk w vx L) (hlen : xs.length + L.length ≤ 100000) (hB : B ≤ w.heap.size)
    (h : ∀ v' w', OwnI B w' v' (xs ++ L) → Below B w w' → wpList Try.prog ops Q rest (a.put o.dst v') w') : wpList Try.prog ops Q (o :: rest) a w := by
  obtain ⟨i0, hi0, hz0, hz1, hz2⟩ := info_parts infoInt32
  have key : ∀ ad c, vx = .slice (some ad) L.length c → (∀ j, j < L.length → w.cell? (ad.add j) = some (.int .i32 (L.getD j 0))) → wpList Try.prog ops Q (o :: rest) a w := fun ad c hv hc => by
    refine wpList_append_own _ hgd s x 22 ho B 21 i0 (.int .i32 0) 1 4 Try.underlying22 hi0 hz0 hz1 hz2 rfl (by decide) v xs.length (xs.map (Value.int .i32)) hs hown ad L.length c (L.map (Value.int .i32)) (hx.trans hv) (by simp) ?_ ?_ (by unfold maxLen; omega) (by omega) hB ?_
    · intro j u hj
      by_cases hjl : j < L.length
      · rw [hc j hjl]
        simp [hjl, List.getD_eq_getElem?_getD] at hj ⊢
        exact hj
      · rw [List.getElem?_eq_none (by simpa using hjl)] at hj; cases hj
    · intro u hu
      obtain ⟨y, _, rfl⟩ := List.mem_map.1 hu
      rfl
    · intro v' w' h1 h2 h3
      exact h v' w' (OwnI.more (ys := L) h1 (by simp) (by simp)) ((Below.refl B w).grown h2 hB (fun k hk => (hown.lt k hk).1))
  rcases hsrc.1 with ⟨hl0, a', cap', hv⟩ | ⟨g, off, cap, hg, hv, hc⟩
  · subst hl0
    rcases hsrc.2 with h0 | ⟨ad, cp, h0⟩
    · refine wpList_append_own_none hgd s x 22 ho B 21 i0 1 Try.underlying22 hi0 v xs.length (xs.map (Value.int .i32)) hs hown (hx.trans h0) ?_
      exact h v w (by rw [List.append_nil]; exact hown) (Below.refl B w)
    · exact key ad cp h0 (fun j hj => by simp at hj)
  · exact key _ cap hv (fun j hj => by rw [addr_add]; exact hc j hj)

theorem marks_one (r : Int) : marksN (full1 r) ≤ 1 := by
  have h1 : ∀ x : Int, marksN [x] ≤ 1 := fun x => by unfold marksN; rw [List.countP_cons]; split <;> simp
  have h0 : ∀ x : Int, classI x = 0 → marksN [x] = 0 := fun x hx => by unfold marksN; rw [List.countP_cons, if_neg (by rw [hx]; simp)]; rfl
  cases hs : splitI r with
  | none => rw [full1_none hs]; exact h1 r
  | some p =>
    obtain ⟨a, b⟩ := p
    have hc := splitI_cases hs
    simp only at hc
    cases h2 : splitI a with
    | none =>
      have e : full1 r = [a] ++ [b] := by unfold full1; rw [hs]; simp only; rw [h2]; rfl
      have ha : classI a = 0 := classI_far (by omega)
      have := h1 b
      have := h0 a ha
      rw [e]
      unfold marksN at *
      rw [List.countP_append]; omega
    | some q =>
      obtain ⟨q1, q2⟩ := q
      have hc2 := splitI_cases h2
      simp only at hc2
      have e : full1 r = [q1] ++ ([q2] ++ [b]) := by unfold full1; rw [hs]; simp only; rw [h2]; rfl
      have ha : classI q1 = 0 := classI_far (by omega)
      have hb : classI q2 = 0 := classI_far (by omega)
      have := h1 b
      have := h0 q1 ha
      have := h0 q2 hb
      rw [e]
      unfold marksN at *
      rw [List.countP_append, List.countP_append]; omega
theorem marks_full : ∀ l : List Int, marksN (fullL l) ≤ l.length
  | [] => by simp [marksN, fullL]
  | r :: l => by
    have h1 := marks_one r
    have h2 := marks_full l
    rw [fullL_cons, List.length_cons]
    unfold marksN at *
    rw [List.countP_append]; omega
theorem marks_apart_full (l : List Int) : marksN (fullL (apartI l)) ≤ l.length := by
  have := marks_full l
  rw [fullL_id (fun x hx => apart_all hx)]
  have h5 : marksN (apartI l) = marksN (fullL l) := marks_perm (sortM_perm classI (fullL l))
  rw [h5]
  exact this
theorem marks_tog_full (l : List Int) : marksN (fullL (togI (apartI l))) ≤ l.length := by
  have h1 := apart_tog_apart l
  have h2 := marks_perm (sortM_perm classI (fullL (togI (apartI l))))
  have h3 : marksN (apartI (togI (apartI l))) = marksN (fullL (togI (apartI l))) := h2
  rw [← h3, h1]
  have := marks_perm (sortM_perm classI (fullL l))
  have h5 : marksN (apartI l) = marksN (fullL l) := this
  rw [h5]
  exact marks_full l
end Go.Proofs.Ytjakelphkehonaa
