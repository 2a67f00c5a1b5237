/-
  What the rows of stage 7 share: an argument that is a text, a slice of texts, of numbers, an array of two bytes or of three numbers.
-/
import Derived.Test.YtkmfblbkaihbdaaRows
import Derived.Test.YtkmfblbkaihbdaaBkBytes
import Derived.Test.YtkmfblbkaihbdaaEsTwo
import Derived.Test.YtkmfblbkaihbdaaCpCardZero
import Derived.WalkKit
import Derived.ProofKit
import Derived.OpenShut
import Derived.ChangeSlices
import Derived.SliceStrings
import Derived.ChangeMaps5
import Derived.Deep.Slices
import Derived.Carry
namespace Go.Proofs.Ytkmfblbkaihbdaa
open Go.ChangeShapes Go.WideShapes Go.ChangeAt Go.RowKit Go.Lib
set_option linter.unusedVariables false

theorem laidOut : laidOutB Try.prog = true := by kernel_rfl
theorem cells_i64 : Try.prog.cellsOf 3 = 1 := by kernel_rfl
theorem cells_str : Try.prog.cellsOf 9 = 1 := by kernel_rfl
theorem cells_three : Try.prog.cellsOf 58 = 3 := by kernel_rfl
section
variable {H : Type} {enc : TypeId × Value → H} {W : World} {base : Nat}
theorem nums_of {fuel : Nat} {v : Value} {x : DataW H × List MemPlace} (hf : DataW.trod enc Try.prog W base (fun _ => true) true fuel 47 [v] = some x) (hlt : ∀ y ∈ x.2, y.block < W.heap.size) :
    ∃ l, NumsIs W v l ∧ l.length ≤ 9223372036854775807 := by
  rcases open_ints Try.underlying47 Try.underlying3 cells_i64 hf with ⟨hcs, hx⟩ | ⟨a, len', cap', zs, hcs, _, hl, hm, hz, hx, hcell, hwz⟩
  · injection hcs with hcs _
    subst hcs
    exact ⟨[], Or.inl ⟨rfl, none, 0, rfl⟩, by simp⟩
  · injection hcs with hcs _
    subst hcs
    subst hx
    simp only [if_true] at hz
    have hlen : (zs.take len').length = len' := by rw [List.length_take]; omega
    refine ⟨zs.take len', ?_, by rw [hlen]; unfold maxLen at hm; omega⟩
    by_cases hl0 : len' = 0
    · subst hl0
      exact Or.inl ⟨rfl, some a, cap', rfl⟩
    · obtain ⟨b, off, spot⟩ := a
      have hspot : spot = none := by simpa [Addr.add] using World.cell?_spot (hcell 0 (by omega))
      subst hspot
      have hbW : b < W.heap.size := hlt (.cell b off) (MemPlace.mem_row.2 ⟨0, by omega, by simp⟩)
      refine Or.inr ⟨b, off, cap', hbW, by rw [hlen], fun j hj => ?_⟩
      rw [hlen] at hj
      have := hcell j (by omega)
      rw [Addr.add_mid] at this
      rw [this]
      simp [List.getD_eq_getElem?_getD, hj, List.getElem?_eq_getElem (show j < zs.length by omega)]
theorem arg_numsI {v : Value} {d : DataW H} {p : List MemPlace} (hval : Value.okWide Try.prog W .any base 47 v)
    (h : DataW.Trod enc Try.prog W 0 (fun _ => true) true 47 v d p) (hlt : ∀ x ∈ p, x.block < W.heap.size) :
    ∃ l, NumsIs W v l ∧ l.length ≤ 9223372036854775807 := by
  obtain ⟨a0, len, cap, rfl⟩ := okWide_slice Try.underlying47 hval
  obtain ⟨fuel, hf⟩ := h
  exact nums_of hf hlt
theorem strs_of {fuel : Nat} {v : Value} {x : DataW H × List MemPlace} (hf : DataW.trod enc Try.prog W base (fun _ => true) true fuel 25 [v] = some x) (hlt : ∀ y ∈ x.2, y.block < W.heap.size) :
    ∃ l, StrsIs W v l ∧ l.length ≤ 9223372036854775807 ∧ ∀ s ∈ l, s.size ≤ 9223372036854775807 := by
  rcases open_strings Try.underlying25 Try.underlying9 cells_str hf with ⟨hcs, hx⟩ | ⟨a, len', cap', ss, hcs, _, hl, hm, hz, hx, hcell, hsz⟩
  · injection hcs with hcs _
    subst hcs
    exact ⟨[], Or.inl ⟨rfl, none, 0, rfl⟩, by simp, fun s hs => by cases hs⟩
  · injection hcs with hcs _
    subst hcs
    subst hx
    simp only [if_true] at hz
    have hlen : (ss.take len').length = len' := by rw [List.length_take]; omega
    refine ⟨ss.take len', ?_, by rw [hlen]; unfold maxLen at hm; omega, fun s hs => by
      have := hsz s (List.mem_of_mem_take hs)
      unfold maxLen at this
      omega⟩
    by_cases hl0 : len' = 0
    · subst hl0
      exact Or.inl ⟨rfl, some a, cap', rfl⟩
    · obtain ⟨b, off, spot⟩ := a
      have hspot : spot = none := by simpa [Addr.add] using World.cell?_spot (hcell 0 (by omega))
      subst hspot
      have hbW : b < W.heap.size := hlt (.cell b off) (MemPlace.mem_row.2 ⟨0, by omega, by simp⟩)
      refine Or.inr ⟨b, off, cap', hbW, by rw [hlen], fun j s hj => ?_⟩
      rw [List.getElem?_take] at hj
      split at hj
      case isFalse => cases hj
      have := hcell j (by omega)
      rw [Addr.add_mid] at this
      rw [this, List.getD_eq_getElem?_getD, hj]
      rfl
theorem arg_strs {v : Value} {d : DataW H} {p : List MemPlace} (hval : Value.okWide Try.prog W .any base 25 v)
    (h : DataW.Trod enc Try.prog W 0 (fun _ => true) true 25 v d p) (hlt : ∀ x ∈ p, x.block < W.heap.size) :
    ∃ l, StrsIs W v l ∧ l.length ≤ 9223372036854775807 ∧ ∀ s ∈ l, s.size ≤ 9223372036854775807 := by
  obtain ⟨a0, len, cap, rfl⟩ := okWide_slice Try.underlying25 hval
  obtain ⟨fuel, hf⟩ := h
  exact strs_of hf hlt
end
section
variable {P : Program} {H : Type} {enc : TypeId × Value → H} {W : World} {base : Nat} {spare : Nat → Bool} {held : Bool} {t e : TypeId}
theorem trod_i64 (he : P.underlying e = some (.int .i64)) {m : Nat} {c : Value} {x : DataW H × List MemPlace} (h : DataW.trod enc P W base spare held m e [c] = some x) :
    ∃ n, c = .int .i64 n ∧ x = (.lit (.int .i64 n), []) ∧ (Lit.int .i64 n).wf = true := by
  cases m with
  | zero => simp [DataW.trod] at h
  | succ m =>
    unfold DataW.trod at h
    rw [he] at h
    cases c <;> simp at h
    rename_i k n
    cases k <;> simp at h
    exact ⟨n, rfl, h.2.symm, h.1⟩
theorem open_three (hu : P.underlying t = some (.array 3 e)) (he : P.underlying e = some (.int .i64)) (h1 : P.cellsOf e = 1) (h2 : P.cellsOf t = 3) {r : Reach} {b0 : Nat} {v : Value} {d : DataW H} {ps : List MemPlace} (hval : Value.okWide P W r b0 t v) (hd : DataW.Trod enc P W base spare held t v d ps) :
    ∃ a b c, v = .agg #[.int .i64 a, .int .i64 b, .int .i64 c] ∧ d = .agg [.lit (.int .i64 a), .lit (.int .i64 b), .lit (.int .i64 c)] ∧ ps = [] ∧ (Lit.int .i64 a).wf = true ∧ (Lit.int .i64 b).wf = true ∧ (Lit.int .i64 c).wf = true := by
  have hv : ∃ cs : Array Value, v = .agg cs ∧ cs.size = 3 := by
    simp only [Value.okWide, hu] at hval
    obtain ⟨cs, h3, h4, _⟩ := hval
    exact ⟨cs, h3, by rw [h4, h2]⟩
  obtain ⟨cs, rfl, hcs⟩ := hv
  rcases cs with ⟨l⟩
  have hl : l.length = 3 := hcs
  rcases l with _ | ⟨c0, l⟩
  · simp at hl
  rcases l with _ | ⟨c1, l⟩
  · simp at hl
  rcases l with _ | ⟨c2, l⟩
  · simp at hl
  rcases l with _ | ⟨c3, l⟩
  · obtain ⟨fuel, hf⟩ := hd
    obtain ⟨xs, m, rfl, hx, _, hxl, hget⟩ := DataW.trod_array hu hf
    have g0 := hget 0 (by decide)
    have g1 := hget 1 (by decide)
    have g2 := hget 2 (by decide)
    rw [h1] at g0 g1 g2
    simp only [Value.cells] at g0 g1 g2
    rcases xs with _ | ⟨x0, xs⟩
    · simp at hxl
    rcases xs with _ | ⟨x1, xs⟩
    · simp at hxl
    rcases xs with _ | ⟨x2, xs⟩
    · simp at hxl
    rcases xs with _ | ⟨x3, xs⟩
    · obtain ⟨a, ha, hxa, hwa⟩ := trod_i64 he (c := c0) (x := x0) (by simpa using g0)
      obtain ⟨b, hb, hxb, hwb⟩ := trod_i64 he (c := c1) (x := x1) (by simpa using g1)
      obtain ⟨c, hc, hxc, hwc⟩ := trod_i64 he (c := c2) (x := x2) (by simpa using g2)
      subst ha hb hc hxa hxb hxc
      simp only [Prod.mk.injEq] at hx
      exact ⟨a, b, c, rfl, by rw [hx.1]; rfl, by rw [hx.2]; rfl, hwa, hwb, hwc⟩
    · simp at hxl
  · simp at hl
theorem shut_three (hu : P.underlying t = some (.array 3 e)) (he : P.underlying e = some (.int .i64)) (h1 : P.cellsOf e = 1) (h2 : P.cellsOf t = 3) {a b c : Int} (ha : (Lit.int .i64 a).wf = true) (hb : (Lit.int .i64 b).wf = true) (hc : (Lit.int .i64 c).wf = true) :
    DataW.Trod enc P W base spare held t (.agg #[.int .i64 a, .int .i64 b, .int .i64 c]) (.agg [.lit (.int .i64 a), .lit (.int .i64 b), .lit (.int .i64 c)]) [] :=
  ⟨2, by simp [DataW.trod, Value.cells, hu, he, h1, h2, ha, hb, hc, List.range_succ]⟩
end
end Go.Proofs.Ytkmfblbkaihbdaa
