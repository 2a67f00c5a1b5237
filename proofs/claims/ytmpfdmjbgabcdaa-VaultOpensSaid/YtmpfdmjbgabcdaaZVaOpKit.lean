/-
  VaultOpens' kit: a device that is written to by hand; frames; what stands in it.
-/
import Derived.Test.YtmpfdmjbgabcdaaJ6
import Derived.Test.YtmpfdmjbgabcdaaJ5
import Derived.Test.YtmpfdmjbgabcdaaR7Head
import Derived.Test.YtmpfdmjbgabcdaaSePend
namespace Go.Proofs.Ytmpfdmjbgabcdaa
open Go.RowKit Go.Sort
set_option linter.unusedVariables false

/-- A device of 40 sectors, of which at most p writes are pending; the law's two boxes. -/
structure OpS (w : World) (b g4 g5 : Nat) (c4 c5 : Array Value) (p : Nat) (W : World) : Prop where
  dev : ∃ st, Dev w.heap.size W b st ∧ FmS 40 p st
  bel : Below w.heap.size w W
  h4 : W.heap[g4]? = some (.cells c4 51 (0, 0))
  h5 : W.heap[g5]? = some (.cells c5 52 (0, 0))
section
variable {w : World} {b g4 g5 : Nat} {c4 c5 : Array Value} {p : Nat} {W W' : World}
theorem OpS.mono (h : OpS w b g4 g5 c4 c5 p W) {q : Nat} (hq : p ≤ q) : OpS w b g4 g5 c4 c5 q W := by
  obtain ⟨st, hd, hf⟩ := h.dev
  exact ⟨⟨st, hd, hf.good, hf.len, hf.lim, Nat.le_trans hf.pnd hq⟩, h.bel, h.h4, h.h5⟩
theorem OpS.below (h : OpS w b g4 g5 c4 c5 p W) (hb : Below W.heap.size W W') : OpS w b g4 g5 c4 c5 p W' := by
  obtain ⟨st, hd, hf⟩ := h.dev
  exact ⟨⟨st, hd.below hb, hf⟩, h.bel.trans (hb.mono h.bel.size), by rw [hb.block g4 (lt_of_get h.h4)]; exact h.h4, by rw [hb.block g5 (lt_of_get h.h5)]; exact h.h5⟩
theorem os_put (h : OpS w b g4 g5 c4 c5 p W) (hp : p ≤ 500) (x : Int) (hx : 0 ≤ x) (hx2 : x < 40) (s : ByteArray) (hs : s.size = 64) :
    Calls Try.prog 26 #[.pointer (some ⟨b, 0, none⟩), .int .i64 x, .string s] W fun e w' => e = .returned (.int .i64 0) ∧ OpS w b g4 g5 c4 c5 (p + 1) w' ∧ Off devTs W w' := by
  obtain ⟨st, hd, hf⟩ := h.dev
  have hpn := hf.pnd
  refine (put_c w.heap.size b st x s W hd hf.good (by omega) h.bel.size).mono ?_
  have ha : askI st.now.length st.lim st.left x = 0 := by
    have h1 := ask_ok (st := st) (k := x.toNat) (free_gone hf.lim) (by rw [hf.len]; omega)
    rw [show ((x.toNat : Nat) : Int) = x by omega] at h1
    exact h1
  have hq : putI st x s = 0 := by
    unfold putI
    rw [if_pos ha, if_pos hs]
  rintro e w' ⟨he, hd', hb, ho⟩
  rw [hq] at he
  rw [hq, if_pos rfl] at hd'
  exact ⟨he, ⟨⟨_, hd', hf.put (by omega) hs⟩, h.bel.trans hb, ho _ (by decide) _ _ _ h.h4, ho _ (by decide) _ _ _ h.h5⟩, ho⟩
theorem recs_few8 : ∀ {R : List (List UInt8)}, (∀ r ∈ R, r ≠ [] ∧ r.length ≤ 60000) → R.length ≤ (layB R).length
  | [], _ => Nat.le_refl _
  | r :: R, h => by
    have h9 := recs_few8 (R := R) (fun q hq => h q (by simp [hq]))
    show R.length + 1 ≤ (cutB r ++ layB R).length
    have h8 := (h r (by simp)).1
    rw [List.length_append, cutB_cons h8, List.length_cons]
    omega
/-- Frames in a block of texts. -/
def FrA (W : World) (a : Option Addr) (k : Nat) : Prop := k = 0 ∨ ∃ g cur fr, a = some ⟨g, 0, none⟩ ∧ W.heap[g]? = some (.cells cur 9 fr) ∧ ∀ j, j < k → ∃ f : ByteArray, cur[j]? = some (.string f) ∧ f.size = 64
theorem FrA.off {a : Option Addr} {k : Nat} (h : FrA W a k) (ho : Off devTs W W') : FrA W' a k := by
  rcases h with h | ⟨g, cur, fr, h1, h2, h3⟩
  · exact Or.inl h
  · exact Or.inr ⟨g, cur, fr, h1, ho _ (by decide) _ _ _ h2, h3⟩
theorem FrA.at {a : Option Addr} {k j : Nat} (h : FrA W a k) (hj : j < k) : ∃ g f, a = some ⟨g, 0, none⟩ ∧ W.cell? ⟨g, j, none⟩ = some (.string f) ∧ f.size = 64 := by
  rcases h with h | ⟨g, cur, fr, h1, h2, h3⟩
  · omega
  · obtain ⟨f, h4, h5⟩ := h3 j hj
    refine ⟨g, f, h1, ?_, h5⟩
    rw [cell_of_row W g _ _ _ _ h2]
    exact h4
theorem cuto_c (s : ByteArray) (w : World) (hs : s.size ≤ 65000) : Calls Try.prog 19 #[.string s] w fun e w' => ∃ a c, e = .returned (.slice a ((s.size + 61) / 62 : Nat) c) ∧ Below w.heap.size w w' ∧ FrA w' a ((s.size + 61) / 62) := by
  refine (cut7_c s w hs).mono ?_
  rintro e w' ⟨v, rfl, ho, hb⟩
  have hfv : frV (cutB s.data.toList) = (framesL s).map Value.string := by
    unfold frV framesL
    rw [List.map_map]
    rfl
  rw [hfv, cut_len] at ho
  rcases ho.2 with ⟨hv, h0⟩ | ⟨g, cap, cur, hv, _, hg, h1, h2, h3, h4⟩
  · exact ⟨none, 0, by rw [hv, h0], hb, Or.inl h0⟩
  · refine ⟨_, cap, by rw [hv], hb, Or.inr ⟨g, cur, (0, 0), rfl, hg, fun j hj => ?_⟩⟩
    have hfl := framesL_length s
    obtain ⟨f, hf⟩ : ∃ f, (framesL s)[j]? = some f := ⟨_, List.getElem?_eq_getElem (by omega)⟩
    refine ⟨f, ?_, framesL_size s f (List.mem_of_getElem? hf)⟩
    have h5 : (cur.toList.take ((s.size + 61) / 62 * 1))[j]? = some (.string f) := by
      have e : cur.toList.take ((s.size + 61) / 62 * 1) = (framesL s).map Value.string := by simpa using h4
      rw [e, List.getElem?_map, hf]
      rfl
    rw [List.getElem?_take, if_pos (by omega)] at h5
    simpa using h5
end
end Go.Proofs.Ytmpfdmjbgabcdaa
