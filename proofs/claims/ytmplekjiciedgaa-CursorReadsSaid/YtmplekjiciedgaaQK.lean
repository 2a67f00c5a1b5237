/-
  What each row of this seat shares: the start.
  What the rows of stage 10 share: the start; an argument that is a slice of calls.
-/
import Derived.Test.YtmplekjiciedgaaRows
import Derived.WalkKit
import Derived.ProofKit
import Derived.OpenShut
import Derived.Test.YtmplekjiciedgaaQ4
import Derived.ChangeArms
import Derived.ChangeSlices
import Derived.SliceStrings
import Derived.ChangeMaps5
import Derived.Deep.Slices
import Derived.Carry
namespace Go.Proofs.Ytmplekjiciedgaa
set_option linter.unusedVariables false

theorem own : ownKnob Try.prog.godebug = none := by kernel_rfl
end Go.Proofs.Ytmplekjiciedgaa

namespace Go.Proofs.Ytmplekjiciedgaa
open Go.ChangeShapes Go.WideShapes Go.ChangeAt Go.RowKit Go.Lib
set_option linter.unusedVariables false

theorem laidOut : laidOutB Try.prog = true := by kernel_rfl
theorem cells_i64 : Try.prog.cellsOf 3 = 1 := by kernel_rfl
theorem cells_u8 : Try.prog.cellsOf 5 = 1 := by kernel_rfl
theorem cells_bool : Try.prog.cellsOf 4 = 1 := by kernel_rfl
theorem cells_str : Try.prog.cellsOf 9 = 1 := by kernel_rfl
theorem cells_op : Try.prog.cellsOf 31 = 7 := by kernel_rfl
instance : Inhabited OpT := ⟨⟨0, 0, 0, ⟨#[]⟩, ⟨#[]⟩, false, 0⟩⟩
/-- What a call's numbers and texts are. -/
def OpOk (o : OpT) : Prop := (0 ≤ o.k ∧ o.k ≤ 255) ∧ o.s.size ≤ 9223372036854775807 ∧ o.ns.size ≤ 9223372036854775807
section
variable {H : Type} {enc : TypeId × Value → H} {W : World} {base : Nat}
set_option maxRecDepth 100000 in
theorem arg_ops {v : Value} {d : DataW H} {p : List MemPlace} (hval : Value.okWide Try.prog W .any base 22 v)
    (h : DataW.Trod enc Try.prog W 0 (fun _ => true) true 22 v d p) (hlt : ∀ x ∈ p, x.block < W.heap.size) :
    ∃ l, OpTs W v l ∧ (l.length ≤ 9223372036854775807 ∧ ∀ o ∈ l, OpOk o) := by
  obtain ⟨a0, len, cap, rfl⟩ := okWide_slice Try.underlying22 hval
  obtain ⟨fuel, hf⟩ := h
  rcases Go.Deep.open_slice Try.underlying22 hf with ⟨hcs, _⟩ | ⟨a, len', cap', m, n, D, Pl, hcs, _, hl, hm, hmm, hx, hel⟩
  · simp [Value.cells] at hcs
    obtain ⟨rfl, rfl, rfl⟩ := hcs
    exact ⟨[], Or.inl ⟨rfl, none, 0, rfl⟩, by simp, fun q hq => by cases hq⟩
  · simp [Value.cells] at hcs
    obtain ⟨rfl, rfl, rfl⟩ := hcs
    simp only [if_true] at hmm
    subst hmm
    have hp : p = MemPlace.row a (m * Try.prog.cellsOf 31) ++ (List.range m).flatMap Pl := congrArg Prod.snd hx
    have each : ∀ i, i < m → ∃ o : OpT, W.cell? (a.add (i * 7)) = some (.int .u8 o.k) ∧ W.cell? (a.add (i * 7 + 1)) = some (.int .i64 o.d) ∧ W.cell? (a.add (i * 7 + 2)) = some (.int .i64 o.dt) ∧ W.cell? (a.add (i * 7 + 3)) = some (.string o.s) ∧ W.cell? (a.add (i * 7 + 4)) = some (.string o.ns) ∧ W.cell? (a.add (i * 7 + 5)) = some (.bool o.isD) ∧ W.cell? (a.add (i * 7 + 6)) = some (.int .i64 o.sh) ∧ OpOk o := by
      intro i hi
      obtain ⟨cs', h1, h2⟩ := hel i hi
      rw [cells_op] at h1
      obtain ⟨_, hlen, hcell⟩ := World.cells?_some h1
      obtain ⟨xs, k, _, hxy, _, hxl, hg⟩ := DataW.trod_struct Try.underlying31 h2
      match xs, hxl, cs', hlen with
      | [x0, x1, x2, x3, x4, x5, x6], _, [v0, v1, v2, v3, v4, v5, v6], _ =>
        have g0 : DataW.trod enc Try.prog W 0 (fun _ => true) true k 5 (([v0, v1, v2, v3, v4, v5, v6].drop 0).take (Try.prog.cellsOf 5)) = some x0 := hg 0 _ rfl
        have g1 : DataW.trod enc Try.prog W 0 (fun _ => true) true k 3 (([v0, v1, v2, v3, v4, v5, v6].drop 1).take (Try.prog.cellsOf 3)) = some x1 := hg 1 _ rfl
        have g2 : DataW.trod enc Try.prog W 0 (fun _ => true) true k 3 (([v0, v1, v2, v3, v4, v5, v6].drop 2).take (Try.prog.cellsOf 3)) = some x2 := hg 2 _ rfl
        have g3 : DataW.trod enc Try.prog W 0 (fun _ => true) true k 9 (([v0, v1, v2, v3, v4, v5, v6].drop 3).take (Try.prog.cellsOf 9)) = some x3 := hg 3 _ rfl
        have g4 : DataW.trod enc Try.prog W 0 (fun _ => true) true k 9 (([v0, v1, v2, v3, v4, v5, v6].drop 4).take (Try.prog.cellsOf 9)) = some x4 := hg 4 _ rfl
        have g5 : DataW.trod enc Try.prog W 0 (fun _ => true) true k 4 (([v0, v1, v2, v3, v4, v5, v6].drop 5).take (Try.prog.cellsOf 4)) = some x5 := hg 5 _ rfl
        have g6 : DataW.trod enc Try.prog W 0 (fun _ => true) true k 3 (([v0, v1, v2, v3, v4, v5, v6].drop 6).take (Try.prog.cellsOf 3)) = some x6 := hg 6 _ rfl
        rw [cells_u8] at g0
        rw [cells_i64] at g1
        rw [cells_i64] at g2
        rw [cells_str] at g3
        rw [cells_str] at g4
        rw [cells_bool] at g5
        rw [cells_i64] at g6
        obtain ⟨q0, hq0, _, w0⟩ := DataW.trod_int Try.underlying5 g0
        obtain ⟨q1, hq1, _, w1⟩ := DataW.trod_int Try.underlying3 g1
        obtain ⟨q2, hq2, _, w2⟩ := DataW.trod_int Try.underlying3 g2
        obtain ⟨q3, hq3, _, w3⟩ := DataW.trod_string Try.underlying9 g3
        obtain ⟨q4, hq4, _, w4⟩ := DataW.trod_string Try.underlying9 g4
        obtain ⟨q5, hq5, _⟩ := DataW.trod_bool Try.underlying4 g5
        obtain ⟨q6, hq6, _, w6⟩ := DataW.trod_int Try.underlying3 g6
        injection hq0 with hq0 _
        injection hq1 with hq1 _
        injection hq2 with hq2 _
        injection hq3 with hq3 _
        injection hq4 with hq4 _
        injection hq5 with hq5 _
        injection hq6 with hq6 _
        subst hq0 hq1 hq2 hq3 hq4 hq5 hq6
        have e0 := hcell 0 (by omega)
        have e1 := hcell 1 (by omega)
        have e2 := hcell 2 (by omega)
        have e3 := hcell 3 (by omega)
        have e4 := hcell 4 (by omega)
        have e5 := hcell 5 (by omega)
        have e6 := hcell 6 (by omega)
        rw [Go.Deep.add_add] at e0 e1 e2 e3 e4 e5 e6
        have r0 : 0 ≤ q0 ∧ q0 ≤ 255 := by simpa [Lit.wf, IntKind.min, IntKind.max, IntKind.signed, IntKind.bits] using w0
        have r3 : q3.size ≤ 9223372036854775807 := by
          have hx := w3
          unfold maxLen at hx
          omega
        have r4 : q4.size ≤ 9223372036854775807 := by
          have hx := w4
          unfold maxLen at hx
          omega
        exact ⟨⟨q0, q1, q2, q3, q4, q5, q6⟩, e0, e1, e2, e3, e4, e5, e6, r0, r3, r4⟩
    obtain ⟨q, hq⟩ := Go.Deep.choose_lt each
    have hlen : ((List.range len).map q).length = len := by simp
    refine ⟨(List.range len).map q, ?_, by rw [hlen]; unfold maxLen at hm; omega, fun r hr => ?_⟩
    · by_cases hl0 : len = 0
      · subst hl0
        exact Or.inl ⟨rfl, some a, m, rfl⟩
      · obtain ⟨b, off, spot⟩ := a
        have hspot : spot = none := by simpa [Addr.add] using World.cell?_spot (hq 0 (by omega)).1
        subst hspot
        have hbW : b < W.heap.size := hlt (.cell b off) (by
          rw [hp, cells_op]
          exact List.mem_append_left _ (MemPlace.mem_row.2 ⟨0, by omega, by simp⟩))
        refine Or.inr ⟨b, off, m, hbW, by rw [hlen], fun j o hj => ?_⟩
        have hjl : j < len := by
          have := (List.getElem?_eq_some_iff.1 hj).1
          rwa [hlen] at this
        have ho : q j = o := by
          rw [List.getElem?_map, List.getElem?_range hjl] at hj
          exact Option.some.inj hj
        obtain ⟨e0, e1, e2, e3, e4, e5, e6, _⟩ := hq j (by omega)
        rw [ho] at e0 e1 e2 e3 e4 e5 e6
        rw [Addr.add_mid] at e0 e1 e2 e3 e4 e5 e6
        intro z x hz
        rcases z with _ | _ | _ | _ | _ | _ | _ | z
        all_goals first | (obtain rfl := Option.some.inj hz; assumption) | (cases hz)
    · obtain ⟨i, hi, rfl⟩ := List.mem_map.1 hr
      exact (hq i (by have := List.mem_range.1 hi; omega)).2.2.2.2.2.2.2
set_option maxRecDepth 100000 in
/-- A slice of bytes. -/
theorem arg_u8s {v : Value} {d : DataW H} {p : List MemPlace} (hval : Value.okWide Try.prog W .any base 43 v)
    (h : DataW.Trod enc Try.prog W 0 (fun _ => true) true 43 v d p) (hlt : ∀ x ∈ p, x.block < W.heap.size) :
    ∃ (a : Option Addr) (n cap : Nat) (l : List Int), v = .slice a n cap ∧ l.length = n ∧ (∀ x ∈ l, 0 ≤ x ∧ x ≤ 255) ∧ (n = 0 ∨ ∃ g off, a = some ⟨g, off, none⟩ ∧ g < W.heap.size ∧ ∀ j, j < n → W.cell? ⟨g, off + j, none⟩ = some (.int .u8 (l.getD j 0))) ∧ n ≤ 9223372036854775807 := by
  obtain ⟨a0, len, cap, rfl⟩ := okWide_slice Try.underlying43 hval
  obtain ⟨fuel, hf⟩ := h
  rcases open_ints Try.underlying43 Try.underlying5 cells_u8 hf with ⟨hcs, hx⟩ | ⟨a, len', cap', zs, hcs, _, hl, hm, hz, hx, hcell, hwz⟩
  · simp [Value.cells] at hcs
    obtain ⟨rfl, rfl, rfl⟩ := hcs
    exact ⟨none, 0, 0, [], rfl, rfl, fun x hx => (by cases hx), Or.inl rfl, by omega⟩
  · simp [Value.cells] at hcs
    obtain ⟨rfl, rfl, rfl⟩ := hcs
    have hp : p = MemPlace.row a zs.length := congrArg Prod.snd hx
    simp only [if_true] at hz
    have hlen : (zs.take len).length = len := by rw [List.length_take]; omega
    refine ⟨some a, len, cap, zs.take len, rfl, hlen, fun x hx => ?_, ?_, by unfold maxLen at hm; omega⟩
    · have := hwz x (List.mem_of_mem_take hx)
      simpa [Lit.wf, IntKind.min, IntKind.max, IntKind.signed, IntKind.bits] using this
    · by_cases hl0 : len = 0
      · exact Or.inl hl0
      · obtain ⟨b, off, spot⟩ := a
        have hspot : spot = none := by simpa [Addr.add] using World.cell?_spot (hcell 0 (by omega))
        subst hspot
        have hbW : b < W.heap.size := hlt (.cell b off) (by rw [hp]; exact MemPlace.mem_row.2 ⟨0, by omega, by simp⟩)
        refine Or.inr ⟨b, off, rfl, hbW, fun j hj => ?_⟩
        have := hcell j (by omega)
        rw [Addr.add_mid] at this
        rw [this]
        simp [List.getD_eq_getElem?_getD, hj, List.getElem?_eq_getElem (show j < zs.length by omega)]
end
end Go.Proofs.Ytmplekjiciedgaa
