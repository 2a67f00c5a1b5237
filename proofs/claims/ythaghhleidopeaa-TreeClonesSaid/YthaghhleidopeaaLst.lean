/-
  Appending a list of structs, wherever it lies, to an own row: at a plain region's operation, and at a step of a region that draws its order.
-/
import Derived.Test.YthaghhleidopeaaR10Kit
namespace Go.Proofs.Ythaghhleidopeaa
open Go.RowKit Go.Sort
set_option linter.unusedVariables false

section
variable {α : Type} {f : α → List Value} {c : Nat} {P : Program}
/-- What the type of the elements is. -/
structure ElemOf (P : Program) (T e : TypeId) (c : Nat) : Prop where
  under : P.underlying T = some (.slice e)
  info : ∃ i z bytes, P.info? e = some i ∧ i.zero = some z ∧ i.size = c ∧ i.bytes = bytes ∧ z.cells.size = c ∧ bytes ≤ 200
  pos : 0 < c
theorem run_append_lst {T e ty : TypeId} (E : ElemOf P T e c) (B : Nat) {w : World} {v : Value} {n : Nat} {xs : List Value} (hown : w.ownsRow B e c v n xs) (vx : Value) (l : List α) (hf : ∀ x ∈ l, (f x).length = c) (h1 : ∀ x ∈ l, ∀ u ∈ f x, u.oneCell' = true) (hxs : LstIs f c w vx l) (hl : n + l.length ≤ 100000) (hB : B ≤ w.heap.size) :
    ∃ v' w', (Builtin.append_ #[T, T] ty #[v, vx]).run P w = .ok v' w' ∧ w'.ownsRow B e c v' (n + l.length) (xs ++ l.flatMap f) ∧ w.grownBy w' v.ownBlock ∧ (v'.ownBlock = v.ownBlock ∨ v'.ownBlock = some w.heap.size) := by
  obtain ⟨i0, z, bytes, hi0, hz0, hz1, hz2, hz3, hby⟩ := E.info
  have hform : ∃ a k cp, v = .slice a k cp ∧ k ≤ cp := by
    rcases hown.2 with ⟨hv, _⟩ | ⟨g, cap, cur, hv, _, _, h2, _⟩
    · exact ⟨_, _, _, hv, Nat.le_refl _⟩
    · exact ⟨_, _, _, hv, h2⟩
  have full : ∀ (g off cap : Nat), (∀ j x, l[j]? = some x → w.rangeAt g (off + j * c) (f x)) → ∃ v' w', (Builtin.append_ #[T, T] ty #[v, .slice (some ⟨g, off, none⟩) l.length cap]).run P w = .ok v' w' ∧ w'.ownsRow B e c v' (n + l.length) (xs ++ l.flatMap f) ∧ w.grownBy w' v.ownBlock ∧ (v'.ownBlock = v.ownBlock ∨ v'.ownBlock = some w.heap.size) := fun g off cap hc => by
    have hfl := flat_len f c l hf
    obtain ⟨v', w', hr, h2, h3, _, h5⟩ := run_append_own_at (P := P) (w := w) B T ty e i0 z c bytes E.under hi0 hz0 hz1 hz2 hz3 E.pos v n xs hown ⟨g, off, none⟩ l.length cap (l.flatMap f) hfl
      (by
        intro j u hj
        have hlt : j < (l.flatMap f).length := (List.getElem?_eq_some_iff.1 hj).1
        rw [hfl] at hlt
        have hq : j / c < l.length := Nat.div_lt_of_lt_mul (by rw [Nat.mul_comm]; exact hlt)
        obtain ⟨x, hx⟩ : ∃ x, l[j / c]? = some x := ⟨_, List.getElem?_eq_getElem hq⟩
        have hpart := flat_part f c l (j / c) x hf hx
        have hm : j % c < c := Nat.mod_lt _ E.pos
        have hje : j / c * c + j % c = j := by rw [Nat.mul_comm]; exact Nat.div_add_mod j c
        have hxj : (f x)[j % c]? = some u := by
          rw [← hpart, List.getElem?_take, if_pos hm, List.getElem?_drop, hje]
          exact hj
        have := hc (j / c) x hx (j % c) u hxj
        rw [Addr.add_mid, ← this, Nat.add_assoc, hje])
      (by
        intro u hu
        obtain ⟨x, hx, hu⟩ := List.mem_flatMap.1 hu
        exact h1 x hx u hu)
      (by unfold maxLen; omega)
      (by
        have : (n + l.length) * bytes ≤ 100000 * 200 := Nat.mul_le_mul hl hby
        omega) hB
    exact ⟨v', w', hr, h2, h3, h5⟩
  rcases hxs with ⟨rfl, a, cap, rfl⟩ | ⟨g, off, cap, hg, rfl, hc⟩
  · cases a with
    | none =>
      obtain ⟨av, kv, cv, rfl, hkc⟩ := hform
      have hr := run_append_nothing (P := P) w T T ty e i0 E.under hi0 av kv cv hkc (.slice none 0 cap) (Src.ofNil w E.under cap)
      refine ⟨_, w, hr, ?_, ⟨rfl, rfl, rfl, Nat.le_refl _, fun _ _ _ => rfl⟩, Or.inl rfl⟩
      simpa using hown
    | some a =>
      obtain ⟨av, kv, cv, rfl, hkc⟩ := hform
      have hr := run_append_nothing (P := P) w T T ty e i0 E.under hi0 av kv cv hkc (.slice (some a) 0 cap) (Src.ofSlice w E.under a 0 cap [] (by simp) (fun j u hj => by cases hj) (fun u hu => by cases hu))
      refine ⟨_, w, hr, ?_, ⟨rfl, rfl, rfl, Nat.le_refl _, fun _ _ _ => rfl⟩, Or.inl rfl⟩
      simpa using hown
  · exact full g off cap hc
theorem step_append_lst {T e : TypeId} (E : ElemOf P T e c) {ops : Array Oper} {o : Oper} {a : Act} {w : World} {K : Act → World → Prop} {Q : Exit → Act → World → Prop} {F : Prop} (hgd : o.guard = none) (s x : Operand) (ho : o.op = .call { callee := .builtin .append, args := #[s, x], argTypes := #[T, T] })
    (B : Nat) (v : Value) (n : Nat) (xs : List Value) (hs : a.eval s = v) (hown : w.ownsRow B e c v n xs) (vx : Value) (l : List α) (hf : ∀ x ∈ l, (f x).length = c) (h1 : ∀ x ∈ l, ∀ u ∈ f x, u.oneCell' = true) (hx : a.eval x = vx) (hxs : LstIs f c w vx l) (hl : n + l.length ≤ 100000) (hB : B ≤ w.heap.size)
    (h : ∀ v' w', w'.ownsRow B e c v' (n + l.length) (xs ++ l.flatMap f) → w.grownBy w' v.ownBlock → (v'.ownBlock = v.ownBlock ∨ v'.ownBlock = some w.heap.size) → K (a.put o.dst v') w') :
    if Region.wanted o (yielded ops a.tmps) = true then Oper.wp P o a w K Q else F := by
  have hw : Region.wanted o (yielded ops a.tmps) = true := by simp [Region.wanted, hgd]
  rw [if_pos hw]
  obtain ⟨v', w', hr, h2, h3, h4⟩ := run_append_lst (ty := o.type) E B hown vx l hf h1 hxs hl hB
  unfold Oper.wp execOp
  simp only [ho, resolve, invoke, builtin, Sem.run_bind, Sem.run_pure, Result.andThen_ok, List.map_toArray, List.map_cons, List.map_nil, hs, hx, hr]
  exact h v' w' h2 h3 h4
theorem wpList_append_lst {T e : TypeId} (E : ElemOf P T e c) {ops : Array Oper} {rest : List Oper} {o : Oper} {a : Act} {w : World} {Q : Exit → Act → World → Prop} (hgd : o.guard = none) (s x : Operand) (ho : o.op = .call { callee := .builtin .append, args := #[s, x], argTypes := #[T, T] })
    (B : Nat) (v : Value) (n : Nat) (xs : List Value) (hs : a.eval s = v) (hown : w.ownsRow B e c v n xs) (vx : Value) (l : List α) (hf : ∀ x ∈ l, (f x).length = c) (h1 : ∀ x ∈ l, ∀ u ∈ f x, u.oneCell' = true) (hx : a.eval x = vx) (hxs : LstIs f c w vx l) (hl : n + l.length ≤ 100000) (hB : B ≤ w.heap.size)
    (h : ∀ v' w', w'.ownsRow B e c v' (n + l.length) (xs ++ l.flatMap f) → w.grownBy w' v.ownBlock → (v'.ownBlock = v.ownBlock ∨ v'.ownBlock = some w.heap.size) → wpList P ops Q rest (a.put o.dst v') w') : wpList P ops Q (o :: rest) a w :=
  wpList_plain hgd fun _ hK => by
    obtain ⟨v', w', hr, h2, h3, h4⟩ := run_append_lst (ty := o.type) E B hown vx l hf h1 hxs hl hB
    unfold Oper.wp execOp
    simp only [ho, resolve, invoke, builtin, Sem.run_bind, Sem.run_pure, Result.andThen_ok, List.map_toArray, List.map_cons, List.map_nil, hs, hx, hr]
    exact hK _ _ (h v' w' h2 h3 h4)
/-- A block of just these. -/
theorem LstIs.block {w : World} {g : Nat} {T : TypeId} {fr : Nat × Nat} {l : List α} (hf : ∀ x ∈ l, (f x).length = c) (h : w.heap[g]? = some (.cells (l.flatMap f).toArray T fr)) : LstIs f c w (.slice (some ⟨g, 0, none⟩) l.length l.length) l := by
  refine Or.inr ⟨g, 0, l.length, lt_of_get h, rfl, fun j x hj => ?_⟩
  rw [Nat.zero_add]
  exact range_of_flat f c (R := []) hf hj (by rw [List.append_nil]; exact h)
theorem own_new {B g : Nat} {T : TypeId} {W : World} (h : W.heap[g]? = some (.cells #[] T (0, 0))) (hB : B ≤ g) : W.ownsRow B T c (.slice (some ⟨g, 0, none⟩) 0 0) 0 [] :=
  ⟨by simp, Or.inr ⟨g, 0, #[], rfl, hB, h, Nat.le_refl _, Nat.zero_le _, by simp, by simp⟩⟩
end
/-- A list of items in a block of items. -/
def ItmsT (w : World) (v : Value) (l : List Itm) : Prop := ItmsIs w v l ∧ ∀ g, v.ownBlock = some g → ∃ cs, w.heap[g]? = some (.cells cs 99 (0, 0))
theorem ItmsT.kept {w w' : World} {v : Value} {l : List Itm} (h : ItmsT w v l) (hb : Below w.heap.size w w') : ItmsT w' v l := ⟨LstIs.kept h.1 hb, fun g hg => by
  obtain ⟨cs, hc⟩ := h.2 g hg
  exact ⟨cs, by rw [hb.block g (lt_of_get hc)]; exact hc⟩⟩
theorem ItmsT.nil (w : World) : ItmsT w (.slice none 0 0) [] := ⟨LstIs.nil _ _ _, fun g hg => by cases hg⟩
/-- A list's own block alone is read. -/
theorem LstIs.only {α : Type} {f : α → List Value} {c : Nat} {w w' : World} {v : Value} {l : List α} (h : LstIs f c w v l) (hs : w.heap.size ≤ w'.heap.size) (hb : ∀ g, v.ownBlock = some g → w'.heap[g]? = w.heap[g]?) : LstIs f c w' v l := by
  rcases h with h | ⟨g, off, cap, hg, hv, hc⟩
  · exact Or.inl h
  · refine Or.inr ⟨g, off, cap, by omega, hv, fun j x hj k u hu => ?_⟩
    rw [World.cell?_of_block (w := w) (a := ⟨g, off + j * c + k, none⟩) (hb g (by rw [hv]; rfl))]
    exact hc j x hj k u hu
theorem ItmsT.off {ex : List TypeId} {w w' : World} {v : Value} {l : List Itm} (h : ItmsT w v l) (ho : Off ex w w') (hT : 99 ∉ ex) (hs : w.heap.size ≤ w'.heap.size) : ItmsT w' v l := by
  have hb : ∀ g, v.ownBlock = some g → w'.heap[g]? = w.heap[g]? := fun g hg => by
    obtain ⟨cs, hc⟩ := h.2 g hg
    rw [hc, ho _ hT _ _ _ hc]
  refine ⟨LstIs.only h.1 hs hb, fun g hg => ?_⟩
  obtain ⟨cs, hc⟩ := h.2 g hg
  exact ⟨cs, by rw [hb g hg]; exact hc⟩
theorem ItmsT.own {B : Nat} {w : World} {v : Value} {n : Nat} {l : List Itm} (h : w.ownsRow B 99 6 v n (l.flatMap itmC)) (hn : n = l.length) : ItmsT w v l := by
  refine ⟨LstIs.own (itmC_len l) h hn, fun g hg => ?_⟩
  rcases h.2 with ⟨hv, _⟩ | ⟨g', cap, cur, hv, _, hb, _⟩
  · rw [hv] at hg; cases hg
  · rw [hv] at hg
    obtain rfl := Option.some.inj hg
    exact ⟨_, hb⟩
/-- Written beside. -/
theorem ItmsT.set {w : World} {v : Value} {l : List Itm} (h : ItmsT w v l) {b : Nat} (hb : v.ownBlock ≠ some b) (o : Nat) (x : Value) : ItmsT (w.setCell ⟨b, o, none⟩ x) v l := by
  have hk : ∀ g, v.ownBlock = some g → (w.setCell ⟨b, o, none⟩ x).heap[g]? = w.heap[g]? := fun g hg => Below.heap_setCell w ⟨b, o, none⟩ x g (fun e => hb (by rw [hg, e]))
  refine ⟨LstIs.only h.1 (by simp [World.setCell]) hk, fun g hg => ?_⟩
  obtain ⟨cs, hc⟩ := h.2 g hg
  exact ⟨cs, by rw [hk g hg]; exact hc⟩
theorem itmElem : ElemOf Try.prog 46 99 6 :=
  ⟨Try.underlying46, by
    have h : (Try.prog.info? 99).map (fun i => (i.zero, i.size, i.bytes)) = some (some (.agg #[.int .i64 0, .string ⟨#[]⟩, .int .i64 0, .bool false, .int .i64 0, .int .i64 0]), 6, 56) := by kernel_rfl
    obtain ⟨i0, h1, h2, h3, h4⟩ := info_parts h
    exact ⟨i0, _, 56, h1, h2, h3, h4, rfl, by decide⟩, by decide⟩
theorem entElem : ElemOf Try.prog 33 40 5 :=
  ⟨Try.underlying33, by
    have h : (Try.prog.info? 40).map (fun i => (i.zero, i.size, i.bytes)) = some (some (.agg #[.string ⟨#[]⟩, .int .i64 0, .bool false, .int .i64 0, .int .i64 0]), 5, 48) := by kernel_rfl
    obtain ⟨i0, h1, h2, h3, h4⟩ := info_parts h
    exact ⟨i0, _, 48, h1, h2, h3, h4, rfl, by decide⟩, by decide⟩
end Go.Proofs.Ythaghhleidopeaa
