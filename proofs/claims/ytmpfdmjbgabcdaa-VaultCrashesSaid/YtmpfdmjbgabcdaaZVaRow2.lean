/-
  A law's own row (stage 8): all of a row, and one text more, in a new row: at a step of a region.
-/
import Derived.Test.YtmpfdmjbgabcdaaJ3
import Derived.Deep.Upon
namespace Go.Proofs.Ytmpfdmjbgabcdaa
open Go.RowKit Go.Sort
set_option linter.unusedVariables false

set_option maxRecDepth 100000 in
theorem append_all (B : Nat) (t ty : TypeId) (ht : t = 39) {w : World} {v : Value} {n : Nat} {xs : List Value} (hown : w.ownsRow B 9 1 v n xs) (hv : ∃ a k c, v = .slice a k c ∧ k ≤ c) (x : Value) (l : List ByteArray) (hx : StrsIs w x l) (hl : n + l.length ≤ 100000) (hB : B ≤ w.heap.size) :
    ∃ v' w', (Builtin.append_ #[t, t] ty #[v, x]).run Try.prog w = .ok v' w' ∧ w'.ownsRow B 9 1 v' (n + l.length) (xs ++ l.map Value.string) ∧ w.grownBy w' v.ownBlock ∧ ∃ a k c, v' = .slice a k c ∧ k ≤ c := by
  subst ht
  obtain ⟨i0, hi0, hz0, hz1, hz2⟩ := info_parts Try.infoStr7
  have form : ∀ {W : World} {v' : Value} {n' : Nat} {ys : List Value}, W.ownsRow B 9 1 v' n' ys → ∃ a k c, v' = .slice a k c ∧ k ≤ c := fun h => by
    rcases h.2 with ⟨h1, _⟩ | ⟨g, cap, cur, h1, _, _, h2, _⟩
    · exact ⟨_, _, _, h1, Nat.le_refl _⟩
    · exact ⟨_, _, _, h1, h2⟩
  rcases hx with ⟨rfl, a, cap, rfl⟩ | ⟨g, off, cap, hg, rfl, hc⟩
  · obtain ⟨av, kv, cv, rfl, hkc⟩ := hv
    cases a with
    | none =>
      have hr := run_append_nothing (P := Try.prog) w 39 39 ty 9 i0 Try.underlying39 hi0 av kv cv hkc (.slice none 0 cap) (Src.ofNil w Try.underlying39 cap)
      refine ⟨_, w, hr, ?_, ⟨rfl, rfl, rfl, Nat.le_refl _, fun _ _ _ => rfl⟩, _, _, _, rfl, hkc⟩
      simpa using hown
    | some a =>
      have hr := run_append_nothing (P := Try.prog) w 39 39 ty 9 i0 Try.underlying39 hi0 av kv cv hkc (.slice (some a) 0 cap) (Src.ofSlice w Try.underlying39 a 0 cap [] (by simp) (fun j u hj => by cases hj) (fun u hu => by cases hu))
      refine ⟨_, w, hr, ?_, ⟨rfl, rfl, rfl, Nat.le_refl _, fun _ _ _ => rfl⟩, _, _, _, rfl, hkc⟩
      simpa using hown
  · obtain ⟨v', w', hr, h1, h2, _, _⟩ := run_append_own_at (P := Try.prog) w B 39 ty 9 i0 (.string ⟨#[]⟩) 1 16 Try.underlying39 hi0 hz0 hz1 hz2 rfl (by decide) v n xs hown ⟨g, off, none⟩ l.length cap (l.map Value.string) (by simp) (fun j u hj => by
        rw [List.getElem?_map] at hj
        cases hlj : l[j]? with
        | none => rw [hlj] at hj; cases hj
        | some s =>
          rw [hlj] at hj
          injection hj with hj
          rw [← hj, Addr.add_mid]
          exact hc j s hlj) (fun u hu => by obtain ⟨s, _, rfl⟩ := List.mem_map.1 hu; rfl) (by unfold maxLen; omega) (by omega) hB
    exact ⟨v', w', hr, h1, h2, form h1⟩
/-- At a step of a region that draws. -/
theorem step_append_all {ops : Array Oper} {o : Oper} {a : Act} {w : World} {K : Act → World → Prop} {Q : Exit → Act → World → Prop} {E : Prop} (hgd : o.guard = none) (s x : Operand) (ho : o.op = .call { callee := .builtin .append, args := #[s, x], argTypes := #[39, 39] })
    (B : Nat) (v : Value) (n : Nat) (xs : List Value) (hs : a.eval s = v) (hown : w.ownsRow B 9 1 v n xs) (hv : ∃ a k c, v = .slice a k c ∧ k ≤ c) (vx : Value) (l : List ByteArray) (hx : a.eval x = vx) (hxs : StrsIs w vx l) (hl : n + l.length ≤ 100000) (hB : B ≤ w.heap.size)
    (h : ∀ v' w', w'.ownsRow B 9 1 v' (n + l.length) (xs ++ l.map Value.string) → w.grownBy w' v.ownBlock → (∃ a k c, v' = .slice a k c ∧ k ≤ c) → K (a.put o.dst v') w') :
    if Region.wanted o (yielded ops a.tmps) = true then Oper.wp Try.prog o a w K Q else E := by
  have hw : Region.wanted o (yielded ops a.tmps) = true := by simp [Region.wanted, hgd]
  rw [if_pos hw]
  obtain ⟨v', w', hr, h1, h2, h3⟩ := append_all B 39 o.type rfl hown hv vx l hxs hl hB
  unfold Oper.wp execOp
  simp only [ho, resolve, invoke, builtin, Sem.run_bind, Sem.run_pure, Result.andThen_ok, List.map_toArray, List.map_cons, List.map_nil, hs, hx, hr]
  exact h v' w' h1 h2 h3
theorem own_empty {B g : Nat} {W : World} (h : W.heap[g]? = some (.cells #[] 9 (0, 0))) (hB : B ≤ g) : W.ownsRow B 9 1 (.slice (some ⟨g, 0, none⟩) 0 0) 0 [] :=
  ⟨rfl, Or.inr ⟨g, 0, #[], rfl, hB, h, Nat.le_refl _, Nat.zero_le _, rfl, rfl⟩⟩
theorem strs_one {g : Nat} {W : World} {s : ByteArray} (h : W.heap[g]? = some (.cells #[.string s] 9 (0, 0))) : StrsIs W (.slice (some ⟨g, 0, none⟩) 1 1) [s] :=
  Or.inr ⟨g, 0, 1, lt_of_get h, rfl, fun j x hj => by
    rcases j with _ | j
    · injection hj with hj
      rw [cell_of_row W g _ _ _ _ h, ← hj]
      rfl
    · cases hj⟩
/-! A new row of all of a row and one text more: the orders of its region. -/
abbrev A0 : Obj := .cells #[] 9
abbrev A1 (s : ByteArray) : Obj := .cells #[.string s] 9
section
variable {w : World} {s : ByteArray}
theorem b_0 : Below w.heap.size w (w.alloc A0).drew := ((Below.refl _ _).alloc (Nat.le_refl _) _).drew
theorem b_01 : Below w.heap.size w ((w.alloc A0).alloc (A1 s)).drew := (((Below.refl _ _).alloc (Nat.le_refl _) _).alloc (by simp) _).drew
theorem b_10 : Below w.heap.size w ((w.alloc (A1 s)).alloc A0).drew := (((Below.refl _ _).alloc (Nat.le_refl _) _).alloc (by simp) _).drew
theorem own_0 : (w.alloc A0).drew.ownsRow w.heap.size 9 1 (.slice (some ⟨w.heap.size, 0, none⟩) 0 0) 0 [] := own_empty (show (w.alloc A0).heap[w.heap.size]? = _ from heap_alloc_new _ _) (Nat.le_refl _)
theorem own_01 : ((w.alloc A0).alloc (A1 s)).drew.ownsRow w.heap.size 9 1 (.slice (some ⟨w.heap.size, 0, none⟩) 0 0) 0 [] := own_empty (show ((w.alloc A0).alloc (A1 s)).heap[w.heap.size]? = _ by rw [Below.heap_alloc _ _ _ (by simp)]; exact heap_alloc_new _ _) (Nat.le_refl _)
theorem own_10 : ((w.alloc (A1 s)).alloc A0).drew.ownsRow w.heap.size 9 1 (.slice (some ⟨w.heap.size + 1, 0, none⟩) 0 0) 0 [] := own_empty (show ((w.alloc (A1 s)).alloc A0).heap[w.heap.size + 1]? = _ from heap_alloc2_new _ _ _) (by omega)
theorem one_01 : ((w.alloc A0).alloc (A1 s)).drew.heap[w.heap.size + 1]? = some (.cells #[.string s] 9 (0, 0)) := heap_alloc2_new _ _ _
theorem one_10 : ((w.alloc (A1 s)).alloc A0).drew.heap[w.heap.size]? = some (.cells #[.string s] 9 (0, 0)) := show ((w.alloc (A1 s)).alloc A0).heap[w.heap.size]? = _ by rw [Below.heap_alloc _ _ _ (by simp)]; exact heap_alloc_new _ _
theorem app_below {W w7 : World} (hb : Below w.heap.size w W) {v : Value} {n : Nat} {xs : List Value} (hown : W.ownsRow w.heap.size 9 1 v n xs) (hg : W.grownBy w7 v.ownBlock) : Below w.heap.size w w7 := hb.grown hg hb.size (fun j hj => (hown.lt j hj).1)
theorem app_kept {W w7 : World} {g g0 n c : Nat} {o : Obj} (hg : W.grownBy w7 (Value.ownBlock (.slice (some ⟨g0, 0, none⟩) n c))) (h : W.heap[g]? = some o) (hne : g ≠ g0) (hlt : g < W.heap.size) : w7.heap[g]? = some o := by
  rw [hg.block g hlt (by simp [Value.ownBlock]; omega)]
  exact h
theorem app_end {w8 : World} {v8 : Value} {rs : List ByteArray} {n : Nat} {xs : List Value} (h : w8.ownsRow w.heap.size 9 1 v8 n xs) (hn : n = rs.length + 1) (hx : xs = (rs ++ [s]).map Value.string) : RowAt w.heap.size w8 v8 (rs ++ [s]) := by
  subst hx
  exact own_row h (by simp [hn])
end
end Go.Proofs.Ytmpfdmjbgabcdaa
