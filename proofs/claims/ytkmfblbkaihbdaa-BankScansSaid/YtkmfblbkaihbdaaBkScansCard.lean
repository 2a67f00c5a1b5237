/-
  What is proved: for all two lists of texts, and all two bytes, the law 'BankScans' answers true: of whatever stands in sectors what stands in the bank is the chapter's; wiped from its end on the same stands. Condition: none.
-/
import Derived.Test.YtkmfblbkaihbdaaRows
import Derived.Test.YtkmfblbkaihbdaaBkScans
import Derived.Test.YtkmfblbkaihbdaaBkCardKit
namespace Go.Proofs.Ytkmfblbkaihbdaa.bankScans
open Go.ChangeShapes Go.WideShapes Go.ChangeAt Go.RowKit
open Go.ChangeMaps (open_string shut_string)
set_option linter.unusedVariables false

set_option maxRecDepth 100000 in
theorem lifted (os : Os) (started : os.Started) (H : Type) (enc : TypeId × Value → H) :
    ReturnsInHanded {} Try.checked os 5 .any (Rows.bankScansSpec.pre6 enc Try.prog Try.f5 Rows.bankScansRow.domain false) (Rows.bankScansSpec.post enc Try.prog Try.f5 false true false false) := by
  refine returnsInHanded_of_change (C := Try.checked) own started (by kernel_rfl) Try.func5
    (ChangeSpec.witness6 (enc := enc) (C := Try.checked) false ⟨#[], #[.slice none 0 0, .slice none 0 0, .agg #[.int .u8 0, .int .u8 0]], []⟩ 8 (by kernel_rfl) (by kernel_rfl) (by kernel_rfl) (by kernel_rfl)) ?_
  intro W base args ds gs before hval0 hW hcnd _
  have hval : ∀ (j : Nat) t v, Try.f5.params[j]? = some t → args[j]? = some v → Value.okWide Try.prog W .any base t v := hval0
  have hW' := hW
  obtain ⟨p, q, hA0, hV, rfl, _, _⟩ := hW
  have hA : DataW.TrodAll enc Try.prog W 0 (fun _ => true) true Try.f5.params.toList args.toList ds p := hA0
  rw [Try.params5] at hA hval
  obtain ⟨v1, v2, v3, d1, d2, d3, p1, p2, p3, rfl, rfl, rfl, h1, h2, h3⟩ := trodAll_three hA
  obtain ⟨rfl, rfl⟩ := trodVars_none hV
  simp only [List.append_nil] at hW'
  have hlt : ∀ x ∈ (p1 ++ p2 ++ p3), x.block < W.heap.size := fun x hx => hW'.lt x (by simpa using hx)
  have hlt1 : ∀ x ∈ p1, x.block < W.heap.size := fun x hx => hlt x (by simp [hx])
  obtain ⟨l1, s1, m1, z1⟩ := arg_strs (hval 0 25 v1 rfl rfl) h1 hlt1
  have hlt2 : ∀ x ∈ p2, x.block < W.heap.size := fun x hx => hlt x (by simp [hx])
  obtain ⟨l2, s2, m2, z2⟩ := arg_strs (hval 1 25 v2 rfl rfl) h2 hlt2
  obtain ⟨x3, y3, rfl, rfl, rfl, wx3, wy3⟩ := open_two Try.underlying36 Try.underlying5 cells_u8 cells_two (hval 2 36 v3 rfl rfl) h3
  have kx3 : 0 ≤ x3 ∧ x3 ≤ 255 := by simpa [Lit.wf, IntKind.min, IntKind.max, IntKind.signed, IntKind.bits] using wx3
  have ky3 : 0 ≤ y3 ∧ y3 ≤ 255 := by simpa [Lit.wf, IntKind.min, IntKind.max, IntKind.signed, IntKind.bits] using wy3
  refine (scans7_walk v1 v2 x3 y3 l1 l2 W s1 s2 m1 m2 kx3.1 kx3.2 ky3.1 ky3.2).mono fun e W' ⟨he, hb⟩ => ?_
  subst he
  exact ⟨_, rfl, _, _, _, [], (p1 ++ (p2 ++ [])), [], hW', trodAll_mk1 (shut_bool Try.underlying4 _), trodAll_mk3 (Below.trod laidOut (by kernel_rfl) (of_decide_eq_true (by kernel_rfl)) h1 hb hlt1) (Below.trod laidOut (by kernel_rfl) (of_decide_eq_true (by kernel_rfl)) h2 hb hlt2) (shut_two Try.underlying36 Try.underlying5 cells_u8 cells_two wx3 wy3), rfl, hb.frame _, fun h => by cases h⟩

theorem proved : Rows.BankScansSaid :=
  OpenClaim.holds_of_wide 5 Try.f5 rfl rfl rfl rfl rfl rfl rfl ⟨rfl, rfl, rfl, rfl, rfl⟩ rfl rfl rfl rfl rfl (by kernel_rfl) Try.func5 (by kernel_rfl)
    (of_decide_eq_true (by kernel_rfl)) (by unfold Func.isWrapper; first | (rw [if_pos (by decide +kernel)]; kernel_rfl) | (rw [if_neg (by decide +kernel)]; exact ⟨rfl, rfl⟩))
    (fun os started H enc _ => lifted os started H enc)
#print axioms proved
end Go.Proofs.Ytkmfblbkaihbdaa.bankScans
