/-
  An argument of type [2]uint8: what it holds, and that it reads as it did.
-/
import Derived.Test.YtddobjhahohhhaaGreatRows
import Derived.OpenShut
import Derived.WideShapes
import Derived.ChangeShapes
namespace Go.Proofs.YtddobjhahohhhaaGreat
open Go.ChangeShapes Go.WideShapes Go.RowKit
set_option linter.unusedVariables false

section
variable {P : Program} {H : Type} {enc : TypeId × Value → H} {W : World} {base : Nat} {spare : Nat → Bool} {held : Bool} {t e : TypeId}
theorem trod_u8 (he : P.underlying e = some (.int .u8)) {m : Nat} {c : Value} {x : DataW H × List MemPlace} (h : DataW.trod enc P W base spare held m e [c] = some x) :
    ∃ n, c = .int .u8 n ∧ x = (.lit (.int .u8 n), []) ∧ (Lit.int .u8 n).wf = true := by
  cases m with
  | zero => simp [DataW.trod] at h
  | succ m =>
    unfold DataW.trod at h
    rw [he] at h
    cases c <;> simp at h
    rename_i k n
    cases k <;> simp at h
    exact ⟨n, rfl, h.2.symm, h.1⟩
theorem open_two (hu : P.underlying t = some (.array 2 e)) (he : P.underlying e = some (.int .u8)) (h1 : P.cellsOf e = 1) (h2 : P.cellsOf t = 2) {r : Reach} {b0 : Nat} {v : Value} {d : DataW H} {ps : List MemPlace} (hval : Value.okWide P W r b0 t v) (hd : DataW.Trod enc P W base spare held t v d ps) :
    ∃ a b, v = .agg #[.int .u8 a, .int .u8 b] ∧ d = .agg [.lit (.int .u8 a), .lit (.int .u8 b)] ∧ ps = [] ∧ (Lit.int .u8 a).wf = true ∧ (Lit.int .u8 b).wf = true := by
  have hv : ∃ cs : Array Value, v = .agg cs ∧ cs.size = 2 := by
    simp only [Value.okWide, hu] at hval
    obtain ⟨cs, h3, h4, _⟩ := hval
    exact ⟨cs, h3, by rw [h4, h2]⟩
  obtain ⟨cs, rfl, hcs⟩ := hv
  rcases cs with ⟨l⟩
  have hl : l.length = 2 := hcs
  rcases l with _ | ⟨c0, l⟩
  · simp at hl
  rcases l with _ | ⟨c1, l⟩
  · simp at hl
  rcases l with _ | ⟨c2, l⟩
  · obtain ⟨fuel, hf⟩ := hd
    obtain ⟨xs, m, rfl, hx, _, hxl, hget⟩ := DataW.trod_array hu hf
    have g0 := hget 0 (by decide)
    have g1 := hget 1 (by decide)
    rw [h1] at g0 g1
    simp only [Value.cells] at g0 g1
    rcases xs with _ | ⟨x0, xs⟩
    · simp at hxl
    rcases xs with _ | ⟨x1, xs⟩
    · simp at hxl
    rcases xs with _ | ⟨x2, xs⟩
    · obtain ⟨a, ha, hxa, hwa⟩ := trod_u8 he (c := c0) (x := x0) (by simpa using g0)
      obtain ⟨b, hb, hxb, hwb⟩ := trod_u8 he (c := c1) (x := x1) (by simpa using g1)
      subst ha hb hxa hxb
      simp only [Prod.mk.injEq] at hx
      exact ⟨a, b, rfl, by rw [hx.1]; rfl, by rw [hx.2]; rfl, hwa, hwb⟩
    · simp at hxl
  · simp at hl
theorem shut_two (hu : P.underlying t = some (.array 2 e)) (he : P.underlying e = some (.int .u8)) (h1 : P.cellsOf e = 1) (h2 : P.cellsOf t = 2) {a b : Int} (ha : (Lit.int .u8 a).wf = true) (hb : (Lit.int .u8 b).wf = true) :
    DataW.Trod enc P W base spare held t (.agg #[.int .u8 a, .int .u8 b]) (.agg [.lit (.int .u8 a), .lit (.int .u8 b)]) [] :=
  ⟨2, by simp [DataW.trod, Value.cells, hu, he, h1, h2, ha, hb, List.range_succ]⟩
end
theorem cells_u8 : Tryz.prog.cellsOf 5 = 1 := by kernel_rfl
theorem cells_two : Tryz.prog.cellsOf 40 = 2 := by kernel_rfl
end Go.Proofs.YtddobjhahohhhaaGreat
