/-
  A device (stage 6): its calls keep it good.
-/
import Derived.Test.YtmpfdmjbgabcdaaSeRestart
namespace Go.Proofs.Ytmpfdmjbgabcdaa
open Go.RowKit Go.Sort
set_option linter.unusedVariables false

theorem good_put {st : St} {k : Nat} {s : ByteArray} (hg : Good st) (ha : askI st.now.length st.lim st.left k = 0) (hs : s.size = 64) : Good (putSt st k s) := by
  obtain ⟨k', hk', hk⟩ := ask_zero ha
  obtain rfl : k = k' := by omega
  have hl : st.lim = true → 0 < st.left := fun e => by
    rcases Int.lt_or_eq_of_le (hg.left0 e) with h3 | h3
    · exact h3
    · unfold askI at ha
      rw [e, ← h3] at ha
      simp at ha
  unfold putSt
  refine ⟨by simp [hg.same], ?_, hg.szs, ?_, by simp [hg.few], ?_, ?_, ?_⟩
  · intro x hx
    rcases List.mem_or_eq_of_mem_set hx with h | h
    · exact hg.szn x h
    · rw [h]; exact hs
  · intro p hp
    simp only [List.length_set]
    rcases List.mem_append.1 hp with h | h
    · exact hg.pnd p h
    · rw [List.mem_singleton.1 h]; exact ⟨hk, hs⟩
  · intro e
    simp only at e ⊢
    rw [if_pos e]
    have := hl e
    omega
  · simp only
    have := hg.leftI
    split
    · rename_i e; have := hl e; omega
    · exact this
  · intro i hi
    simp only at hi ⊢
    rw [List.getElem?_set_ne (fun e => hi (k, s) (by simp) e)]
    exact hg.off i (fun p hp => hi p (by simp [hp]))
theorem good_cut {st : St} {n : Int} (hg : Good st) (h1 : -9223372036854775808 ≤ n) (h2 : n ≤ 9223372036854775807) : Good (cutSt st n) := by
  unfold cutSt
  split
  · exact hg
  · exact ⟨hg.same, hg.szn, hg.szs, hg.pnd, hg.few, fun e => by simpa using e, ⟨h1, h2⟩, hg.off⟩
theorem good_flush {st : St} (hg : Good st) : Good (flushSt st) :=
  ⟨rfl, hg.szn, hg.szn, (fun p hp => by cases hp), hg.few, hg.left0, hg.leftI, fun i _ => rfl⟩
theorem good_restart {st : St} (hg : Good st) (l : List Int) : Good (restartSt st l) := by
  have hs : ∀ x ∈ applyKept (marks st.pend.length l) st.pend st.safe, x.size = 64 := applyKept_size (fun q hq => (hg.pnd q hq).2) hg.szs
  exact ⟨rfl, hs, hs, (fun p hp => by cases hp), by simp [restartSt, applyKept_len, hg.same, hg.few], (fun e => by cases e), by simp [restartSt], fun i _ => rfl⟩
theorem restart_length (st : St) (hg : Good st) (l : List Int) : (restartSt st l).now.length = st.now.length := by simp [restartSt, applyKept_len, hg.same]
theorem Off.ofBelow {w w' : World} (h : Below w.heap.size w w') (ex : List TypeId) : Off ex w w' := fun T hT k cs fr hk => by
  rw [h.block k (lt_of_get hk)]; exact hk
theorem Dev.below {B : Nat} {w w' : World} {b : Nat} {st : St} (h : Dev B w b st) (hb : Below w.heap.size w w') : Dev B w' b st := h.off (Off.ofBelow hb []) (by simp) (by simp) (by simp)
theorem Dev.base {B B' : Nat} {w : World} {b : Nat} {st : St} (h : Dev B w b st) (hB : B' ≤ B) : Dev B' w b st := by
  obtain ⟨gn, gs, vp, h⟩ := h
  refine ⟨gn, gs, vp, Nat.le_trans hB h.hb, Nat.le_trans hB h.hgn, Nat.le_trans hB h.hgs, h.ne, h.hd, h.nw, h.sf, h.pd.1, ?_⟩
  rcases h.pd.2 with hn | ⟨g, cap, cur, hv, hg, r⟩
  · exact Or.inl hn
  · exact Or.inr ⟨g, cap, cur, hv, Nat.le_trans hB hg, r⟩
theorem Dev.pendCell {B : Nat} {w : World} {b : Nat} {st : St} (h : Dev B w b st) : ∃ a cap, w.cell? ⟨b, 2, none⟩ = some (.slice a st.pend.length cap) := by
  obtain ⟨gn, gs, vp, h⟩ := h
  obtain ⟨c0, c1, c2, c3, c4⟩ := h.cells
  obtain ⟨a, cap, rfl⟩ := h.vp
  exact ⟨a, cap, c2⟩
theorem Dev.nowCell {B : Nat} {w : World} {b : Nat} {st : St} (h : Dev B w b st) : ∃ a cap, w.cell? ⟨b, 0, none⟩ = some (.slice a st.now.length cap) := by
  obtain ⟨gn, gs, vp, h⟩ := h
  exact ⟨_, _, h.cells.1⟩
end Go.Proofs.Ytmpfdmjbgabcdaa
