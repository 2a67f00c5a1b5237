/-
  What is proved: for all lists of texts, all pairs of numbers and all pairs of lists of texts, the law 'VaultOpens' answers true: of whatever stands in sectors the image and the records are the chapter's, or there is no vault. Condition: none.
-/
import Derived.Test.YtmpfdmjbgabcdaaRows
import Derived.Test.YtmpfdmjbgabcdaaZVaOpens
import Derived.Test.YtmpfdmjbgabcdaaZVaCardKit
namespace Go.Proofs.Ytmpfdmjbgabcdaa.vaultOpens
open Go.ChangeShapes Go.WideShapes Go.ChangeAt Go.RowKit
open Go.ChangeMaps (open_string shut_string)
set_option linter.unusedVariables false

theorem cells_two64 : Try.prog.cellsOf 51 = 2 := by kernel_rfl
theorem cells_u64 : Try.prog.cellsOf 50 = 1 := by kernel_rfl
theorem cells_twoS : Try.prog.cellsOf 52 = 2 := by kernel_rfl
theorem cells_strs : Try.prog.cellsOf 39 = 1 := by kernel_rfl
section
variable {H : Type} {enc : TypeId × Value → H} {W : World} {base : Nat}
set_option maxRecDepth 100000 in
theorem two_cells {t e : TypeId} (hu : Try.prog.underlying t = some (.array 2 e)) (h2 : Try.prog.cellsOf t = 2) {r : Reach} {v : Value} (hval : Value.okWide Try.prog W r base t v) : ∃ c0 c1, v = .agg #[c0, c1] := by
  have hv : ∃ cs : Array Value, v = .agg cs ∧ cs.size = 2 := by
    simp only [Value.okWide, hu] at hval
    obtain ⟨cs, h3, h4, _⟩ := hval
    exact ⟨cs, h3, by rw [h4, h2]⟩
  obtain ⟨cs, rfl, hcs⟩ := hv
  rcases cs with ⟨l⟩
  have hl : l.length = 2 := hcs
  rcases l with _ | ⟨c0, l⟩
  · simp at hl
  rcases l with _ | ⟨c1, l⟩
  · simp at hl
  rcases l with _ | ⟨c2, l⟩
  · exact ⟨c0, c1, rfl⟩
  · simp at hl
set_option maxRecDepth 100000 in
theorem two_parts {t e : TypeId} (hu : Try.prog.underlying t = some (.array 2 e)) (h1 : Try.prog.cellsOf e = 1) {c0 c1 : Value} {d : DataW H} {ps : List MemPlace} (hd : DataW.Trod enc Try.prog W 0 (fun _ => true) true t (.agg #[c0, c1]) d ps) :
    ∃ m x0 x1, DataW.trod enc Try.prog W 0 (fun _ => true) true m e [c0] = some x0 ∧ DataW.trod enc Try.prog W 0 (fun _ => true) true m e [c1] = some x1 ∧ (∀ y ∈ x0.2, y ∈ ps) ∧ ∀ y ∈ x1.2, y ∈ ps := by
  obtain ⟨fuel, hf⟩ := hd
  obtain ⟨xs, m, rfl, hx, _, hxl, hget⟩ := DataW.trod_array hu hf
  have g0 := hget 0 (by decide)
  have g1 := hget 1 (by decide)
  rw [h1] at g0 g1
  simp only [Value.cells] at g0 g1
  rcases xs with _ | ⟨x0, xs⟩
  · simp at hxl
  rcases xs with _ | ⟨x1, xs⟩
  · simp at hxl
  rcases xs with _ | ⟨x2, xs⟩
  · simp only [Prod.mk.injEq] at hx
    refine ⟨m, x0, x1, by simpa using g0, by simpa using g1, fun y hy => ?_, fun y hy => ?_⟩
    · rw [hx.2]; simp [hy]
    · rw [hx.2]; simp [hy]
  · simp at hxl
set_option maxRecDepth 100000 in
theorem open_two64 {v : Value} {d : DataW H} {ps : List MemPlace} (hval : Value.okWide Try.prog W .any base 51 v) (hd : DataW.Trod enc Try.prog W 0 (fun _ => true) true 51 v d ps) :
    ∃ a b : Int, v = .agg #[.int .u64 a, .int .u64 b] ∧ (0 ≤ a ∧ a ≤ 18446744073709551615) ∧ (0 ≤ b ∧ b ≤ 18446744073709551615) := by
  obtain ⟨c0, c1, rfl⟩ := two_cells Try.underlying51 cells_two64 hval
  obtain ⟨m, x0, x1, g0, g1, _, _⟩ := two_parts Try.underlying51 cells_u64 hd
  obtain ⟨q0, hq0, _, w0⟩ := DataW.trod_int Try.underlying50 g0
  obtain ⟨q1, hq1, _, w1⟩ := DataW.trod_int Try.underlying50 g1
  injection hq0 with hq0 _
  injection hq1 with hq1 _
  subst hq0 hq1
  exact ⟨q0, q1, rfl, by simpa [Lit.wf, IntKind.min, IntKind.max, IntKind.signed, IntKind.bits] using w0, by simpa [Lit.wf, IntKind.min, IntKind.max, IntKind.signed, IntKind.bits] using w1⟩
set_option maxRecDepth 100000 in
theorem open_twoS {v : Value} {d : DataW H} {ps : List MemPlace} (hval : Value.okWide Try.prog W .any base 52 v) (hd : DataW.Trod enc Try.prog W 0 (fun _ => true) true 52 v d ps) (hlt : ∀ x ∈ ps, x.block < W.heap.size) :
    ∃ u0 u1 R0 R1, v = .agg #[u0, u1] ∧ (StrsIs W u0 R0 ∧ R0.length ≤ 9223372036854775807 ∧ ∀ s ∈ R0, s.size ≤ 9223372036854775807) ∧ (StrsIs W u1 R1 ∧ R1.length ≤ 9223372036854775807 ∧ ∀ s ∈ R1, s.size ≤ 9223372036854775807) := by
  obtain ⟨c0, c1, rfl⟩ := two_cells Try.underlying52 cells_twoS hval
  obtain ⟨m, x0, x1, g0, g1, i0, i1⟩ := two_parts Try.underlying52 cells_strs hd
  obtain ⟨R0, r0⟩ := strs_of g0 (fun y hy => hlt y (i0 y hy))
  obtain ⟨R1, r1⟩ := strs_of g1 (fun y hy => hlt y (i1 y hy))
  exact ⟨c0, c1, R0, R1, rfl, r0, r1⟩
end
set_option maxRecDepth 100000 in
theorem lifted (os : Os) (started : os.Started) (H : Type) (enc : TypeId × Value → H) :
    ReturnsInHanded {} Try.checked os 6 .any (Rows.vaultOpensSpec.pre6 enc Try.prog Try.f6 Rows.vaultOpensRow.domain false) (Rows.vaultOpensSpec.post enc Try.prog Try.f6 false true false false) := by
  refine returnsInHanded_of_change (C := Try.checked) own started (by kernel_rfl) Try.func6
    (ChangeSpec.witness6 (enc := enc) (C := Try.checked) false ⟨#[], #[.slice none 0 0, .agg #[.int .u64 0, .int .u64 0], .agg #[.slice none 0 0, .slice none 0 0]], []⟩ 8 (by kernel_rfl) (by kernel_rfl) (by kernel_rfl) (by kernel_rfl)) ?_
  intro W base args ds gs before hval0 hW hcnd _
  have hval : ∀ (j : Nat) t v, Try.f6.params[j]? = some t → args[j]? = some v → Value.okWide Try.prog W .any base t v := hval0
  have hW' := hW
  obtain ⟨p, q, hA0, hV, rfl, _, _⟩ := hW
  have hA : DataW.TrodAll enc Try.prog W 0 (fun _ => true) true Try.f6.params.toList args.toList ds p := hA0
  rw [Try.params6] at hA hval
  obtain ⟨v1, v2, v3, d1, d2, d3, p1, p2, p3, rfl, rfl, rfl, h1, h2, h3⟩ := trodAll_three hA
  obtain ⟨rfl, rfl⟩ := trodVars_none hV
  simp only [List.append_nil] at hW'
  have hlt : ∀ x ∈ (p1 ++ p2 ++ p3), x.block < W.heap.size := fun x hx => hW'.lt x (by simpa using hx)
  have hlt1 : ∀ x ∈ p1, x.block < W.heap.size := fun x hx => hlt x (by simp [hx])
  have hlt2 : ∀ x ∈ p2, x.block < W.heap.size := fun x hx => hlt x (by simp [hx])
  have hlt3 : ∀ x ∈ p3, x.block < W.heap.size := fun x hx => hlt x (by simp [hx])
  obtain ⟨l1, s1, m1, z1⟩ := arg_strs (hval 0 39 v1 rfl rfl) h1 hlt1
  obtain ⟨a, b, rfl, ha, hb2⟩ := open_two64 (hval 1 51 v2 rfl rfl) h2
  obtain ⟨u0, u1, R0, R1, rfl, ⟨r0, n0, q0⟩, ⟨r1, n1, q1⟩⟩ := open_twoS (hval 2 52 v3 rfl rfl) h3 hlt3
  refine (opens_walk v1 l1 a b ha hb2 u0 u1 R0 R1 W s1 m1 z1 r0 n0 q0 r1 n1 q1).mono fun e W' ⟨he, hb⟩ => ?_
  subst he
  exact ⟨_, rfl, _, _, _, [], (p1 ++ (p2 ++ p3)), [], hW', trodAll_mk1 (shut_bool Try.underlying4 _), trodAll_mk3 (Below.trod laidOut (by kernel_rfl) (of_decide_eq_true (by kernel_rfl)) h1 hb hlt1) (Below.trod laidOut (by kernel_rfl) (of_decide_eq_true (by kernel_rfl)) h2 hb hlt2) (Below.trod laidOut (by kernel_rfl) (of_decide_eq_true (by kernel_rfl)) h3 hb hlt3), rfl, hb.frame _, fun h => by cases h⟩

theorem proved : Rows.VaultOpensSaid :=
  OpenClaim.holds_of_wide 6 Try.f6 rfl rfl rfl rfl rfl rfl rfl ⟨rfl, rfl, rfl, rfl, rfl⟩ rfl rfl rfl rfl rfl (by kernel_rfl) Try.func6 (by kernel_rfl)
    (of_decide_eq_true (by kernel_rfl)) (by unfold Func.isWrapper; first | (rw [if_pos (by decide +kernel)]; kernel_rfl) | (rw [if_neg (by decide +kernel)]; exact ⟨rfl, rfl⟩))
    (fun os started H enc _ => lifted os started H enc)
#print axioms proved
end Go.Proofs.Ytmpfdmjbgabcdaa.vaultOpens
