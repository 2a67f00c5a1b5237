/-
  What is proved: for whatever calls, directory and names the law 'TreeBack' answers true: what is linked and unlinked leaves the entries as they were, what is moved and moved back leaves the node. Condition: none.
-/
import Derived.Test.YthaghhleidopeaaRows
import Derived.Test.YthaghhleidopeaaTreeBack
import Derived.Test.YthaghhleidopeaaTrTheTree
import Derived.Test.YthaghhleidopeaaTrCardKit
namespace Go.Proofs.Ythaghhleidopeaa.treeBack
open Go.ChangeShapes Go.WideShapes Go.ChangeAt Go.RowKit
open Go.ChangeMaps (open_string shut_string)
set_option linter.unusedVariables false

set_option maxRecDepth 100000 in
theorem lifted (os : Os) (started : os.Started) (H : Type) (enc : TypeId × Value → H) :
    ReturnsInHanded {} Try.checked os 3 .any (Rows.treeBackSpec.pre6 enc Try.prog Try.f3 Rows.treeBackRow.domain false) (Rows.treeBackSpec.post enc Try.prog Try.f3 false true false false) := by
  refine returnsInHanded_of_change (C := Try.checked) own started (by kernel_rfl) Try.func3
    (ChangeSpec.witness6 (enc := enc) (C := Try.checked) false ⟨#[], #[.slice none 0 0, .int .i64 0, .agg #[.string ⟨#[]⟩, .string ⟨#[]⟩]], []⟩ 8 (by kernel_rfl) (by kernel_rfl) (by kernel_rfl) (by kernel_rfl)) ?_
  intro W base args ds gs before hval0 hW hcnd _
  have hval : ∀ (j : Nat) t v, Try.f3.params[j]? = some t → args[j]? = some v → Value.okWide Try.prog W .any base t v := hval0
  have hW' := hW
  obtain ⟨p, q, hA0, hV, rfl, _, _⟩ := hW
  have hA : DataW.TrodAll enc Try.prog W 0 (fun _ => true) true Try.f3.params.toList args.toList ds p := hA0
  rw [Try.params3] at hA hval
  obtain ⟨v1, v2, v3, d1, d2, d3, p1, p2, p3, rfl, rfl, rfl, h1, h2, h3⟩ := trodAll_three hA
  obtain ⟨rfl, rfl⟩ := trodVars_none hV
  simp only [List.append_nil] at hW'
  have hlt : ∀ x ∈ (p1 ++ p2 ++ p3), x.block < W.heap.size := fun x hx => hW'.lt x (by simpa using hx)
  have hlt1 : ∀ x ∈ p1, x.block < W.heap.size := fun x hx => hlt x (by simp [hx])
  obtain ⟨l1, s1, m1⟩ := arg_ops (hval 0 22 v1 rfl rfl) h1 hlt1
  obtain ⟨x2, rfl, rfl, rfl, wx2⟩ := open_int Try.underlying3 (hval 1 3 v2 rfl rfl) h2
  obtain ⟨x3, y3, rfl, rfl, rfl, wx3, wy3⟩ := open_twos (hval 2 23 v3 rfl rfl) h3
  have k2 : -9223372036854775808 ≤ x2 ∧ x2 ≤ 9223372036854775807 := by simpa [Lit.wf, IntKind.min, IntKind.max, IntKind.signed, IntKind.bits] using wx2
  have s3 : x3.size ≤ 9223372036854775807 := by
    have hx := wx3
    unfold maxLen at hx
    omega
  have z3 : y3.size ≤ 9223372036854775807 := by
    have hx := wy3
    unfold maxLen at hx
    omega
  refine (treeBack_c theTree theGood theCook v1 l1 x2 x3 y3 W s1 m1.1 (fun x hx => (m1.2 x hx).2) (fun x hx => (m1.2 x hx).1) s3 z3).mono fun e W' ⟨he, hb⟩ => ?_
  subst he
  exact ⟨_, rfl, _, _, _, [], (p1 ++ ([] ++ [])), [], hW', trodAll_mk1 (shut_bool Try.underlying4 _), trodAll_mk3 (Below.trod laidOut (by kernel_rfl) (of_decide_eq_true (by kernel_rfl)) h1 hb hlt1) (shut_int Try.underlying3 wx2) (shut_twos wx3 wy3), rfl, hb.frame _, fun h => by cases h⟩

theorem proved : Rows.TreeBackSaid :=
  OpenClaim.holds_of_wide 3 Try.f3 rfl rfl rfl rfl rfl rfl rfl ⟨rfl, rfl, rfl, rfl, rfl⟩ rfl rfl rfl rfl rfl (by kernel_rfl) Try.func3 (by kernel_rfl)
    (of_decide_eq_true (by kernel_rfl)) (by unfold Func.isWrapper; first | (rw [if_pos (by decide +kernel)]; kernel_rfl) | (rw [if_neg (by decide +kernel)]; exact ⟨rfl, rfl⟩))
    (fun os started H enc _ => lifted os started H enc)
#print axioms proved
end Go.Proofs.Ythaghhleidopeaa.treeBack
