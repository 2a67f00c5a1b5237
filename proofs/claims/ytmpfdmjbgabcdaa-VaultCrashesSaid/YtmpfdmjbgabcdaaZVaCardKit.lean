/-
  Prepared for stage 8: arguments: slices of texts, of numbers, of calls.
-/
import Derived.Test.YtmpfdmjbgabcdaaRows
import Derived.Test.YtmpfdmjbgabcdaaJ6
import Derived.Test.YtmpfdmjbgabcdaaCpCardZero
import Derived.WalkKit
import Derived.ProofKit
import Derived.OpenShut
import Derived.ChangeArms
import Derived.ChangeSlices
import Derived.SliceStrings
import Derived.ChangeMaps5
import Derived.Deep.Slices
import Derived.Carry
namespace Go.Proofs.Ytmpfdmjbgabcdaa
open Go.ChangeShapes Go.WideShapes Go.ChangeAt Go.RowKit Go.Lib
set_option linter.unusedVariables false

theorem laidOut : laidOutB Try.prog = true := by kernel_rfl
theorem cells_i64 : Try.prog.cellsOf 3 = 1 := by kernel_rfl
theorem cells_u8 : Try.prog.cellsOf 5 = 1 := by kernel_rfl
theorem cells_bool : Try.prog.cellsOf 4 = 1 := by kernel_rfl
theorem cells_str : Try.prog.cellsOf 9 = 1 := by kernel_rfl
theorem cells_sl : Try.prog.cellsOf 23 = 1 := by kernel_rfl
theorem cells_op : Try.prog.cellsOf 33 = 6 := by kernel_rfl
instance : Inhabited OpV := ⟨⟨0, ⟨#[]⟩, false, 0, false, .pointer none, []⟩⟩
section
variable {H : Type} {enc : TypeId × Value → H} {W : World} {base : Nat}
set_option maxRecDepth 100000 in
theorem nums_of {fuel : Nat} {v : Value} {x : DataW H × List MemPlace} (hf : DataW.trod enc Try.prog W base (fun _ => true) true fuel 23 [v] = some x) (hlt : ∀ y ∈ x.2, y.block < W.heap.size) :
    ∃ l, NumsIs W v l ∧ l.length ≤ 9223372036854775807 := by
  rcases open_ints Try.underlying23 Try.underlying3 cells_i64 hf with ⟨hcs, hx⟩ | ⟨a, len', cap', zs, hcs, _, hl, hm, hz, hx, hcell, hwz⟩
  · injection hcs with hcs _
    subst hcs
    exact ⟨[], Or.inl ⟨rfl, none, 0, rfl⟩, by simp⟩
  · injection hcs with hcs _
    subst hcs
    subst hx
    simp only [if_true] at hz
    have hlen : (zs.take len').length = len' := by rw [List.length_take]; omega
    refine ⟨zs.take len', ?_, by rw [hlen]; unfold maxLen at hm; omega⟩
    by_cases hl0 : len' = 0
    · subst hl0
      exact Or.inl ⟨rfl, some a, cap', rfl⟩
    · obtain ⟨b, off, spot⟩ := a
      have hspot : spot = none := by simpa [Addr.add] using World.cell?_spot (hcell 0 (by omega))
      subst hspot
      have hbW : b < W.heap.size := hlt (.cell b off) (MemPlace.mem_row.2 ⟨0, by omega, by simp⟩)
      refine Or.inr ⟨b, off, cap', hbW, by rw [hlen], fun j hj => ?_⟩
      rw [hlen] at hj
      have := hcell j (by omega)
      rw [Addr.add_mid] at this
      rw [this]
      simp [List.getD_eq_getElem?_getD, hj, List.getElem?_eq_getElem (show j < zs.length by omega)]
set_option maxRecDepth 100000 in
theorem arg_numsI {v : Value} {d : DataW H} {p : List MemPlace} (hval : Value.okWide Try.prog W .any base 23 v)
    (h : DataW.Trod enc Try.prog W 0 (fun _ => true) true 23 v d p) (hlt : ∀ x ∈ p, x.block < W.heap.size) :
    ∃ l, NumsIs W v l ∧ l.length ≤ 9223372036854775807 := by
  obtain ⟨a0, len, cap, rfl⟩ := okWide_slice Try.underlying23 hval
  obtain ⟨fuel, hf⟩ := h
  exact nums_of hf hlt
set_option maxRecDepth 100000 in
theorem strs_of {fuel : Nat} {v : Value} {x : DataW H × List MemPlace} (hf : DataW.trod enc Try.prog W base (fun _ => true) true fuel 39 [v] = some x) (hlt : ∀ y ∈ x.2, y.block < W.heap.size) :
    ∃ l, StrsIs W v l ∧ l.length ≤ 9223372036854775807 ∧ ∀ s ∈ l, s.size ≤ 9223372036854775807 := by
  rcases open_strings Try.underlying39 Try.underlying9 cells_str hf with ⟨hcs, hx⟩ | ⟨a, len', cap', ss, hcs, _, hl, hm, hz, hx, hcell, hsz⟩
  · injection hcs with hcs _
    subst hcs
    exact ⟨[], Or.inl ⟨rfl, none, 0, rfl⟩, by simp, fun s hs => by cases hs⟩
  · injection hcs with hcs _
    subst hcs
    subst hx
    simp only [if_true] at hz
    have hlen : (ss.take len').length = len' := by rw [List.length_take]; omega
    refine ⟨ss.take len', ?_, by rw [hlen]; unfold maxLen at hm; omega, fun s hs => by
      have := hsz s (List.mem_of_mem_take hs)
      unfold maxLen at this
      omega⟩
    by_cases hl0 : len' = 0
    · subst hl0
      exact Or.inl ⟨rfl, some a, cap', rfl⟩
    · obtain ⟨b, off, spot⟩ := a
      have hspot : spot = none := by simpa [Addr.add] using World.cell?_spot (hcell 0 (by omega))
      subst hspot
      have hbW : b < W.heap.size := hlt (.cell b off) (MemPlace.mem_row.2 ⟨0, by omega, by simp⟩)
      refine Or.inr ⟨b, off, cap', hbW, by rw [hlen], fun j s hj => ?_⟩
      rw [List.getElem?_take] at hj
      split at hj
      case isFalse => cases hj
      have := hcell j (by omega)
      rw [Addr.add_mid] at this
      rw [this, List.getD_eq_getElem?_getD, hj]
      rfl
set_option maxRecDepth 100000 in
theorem arg_strs {v : Value} {d : DataW H} {p : List MemPlace} (hval : Value.okWide Try.prog W .any base 39 v)
    (h : DataW.Trod enc Try.prog W 0 (fun _ => true) true 39 v d p) (hlt : ∀ x ∈ p, x.block < W.heap.size) :
    ∃ l, StrsIs W v l ∧ l.length ≤ 9223372036854775807 ∧ ∀ s ∈ l, s.size ≤ 9223372036854775807 := by
  obtain ⟨a0, len, cap, rfl⟩ := okWide_slice Try.underlying39 hval
  obtain ⟨fuel, hf⟩ := h
  exact strs_of hf hlt
set_option maxRecDepth 100000 in
theorem arg_ops {v : Value} {d : DataW H} {p : List MemPlace} (hval : Value.okWide Try.prog W .any base 22 v)
    (h : DataW.Trod enc Try.prog W 0 (fun _ => true) true 22 v d p) (hlt : ∀ x ∈ p, x.block < W.heap.size) :
    ∃ l, OpsIs W v l ∧ (l.length ≤ 9223372036854775807 ∧ ∀ o ∈ l, OpOk o) := by
  obtain ⟨a0, len, cap, rfl⟩ := okWide_slice Try.underlying22 hval
  obtain ⟨fuel, hf⟩ := h
  rcases Go.Deep.open_slice Try.underlying22 hf with ⟨hcs, _⟩ | ⟨a, len', cap', m, n, D, Pl, hcs, _, hl, hm, hmm, hx, hel⟩
  · simp [Value.cells] at hcs
    obtain ⟨rfl, rfl, rfl⟩ := hcs
    exact ⟨[], Or.inl ⟨rfl, none, 0, rfl⟩, by simp, fun q hq => by cases hq⟩
  · simp [Value.cells] at hcs
    obtain ⟨rfl, rfl, rfl⟩ := hcs
    simp only [if_true] at hmm
    subst hmm
    have hp : p = MemPlace.row a (m * Try.prog.cellsOf 33) ++ (List.range m).flatMap Pl := congrArg Prod.snd hx
    have each : ∀ i, i < m → ∃ o : OpV, W.cell? (a.add (i * 6)) = some (.int .u8 o.X) ∧ W.cell? (a.add (i * 6 + 1)) = some (.string o.s) ∧ W.cell? (a.add (i * 6 + 2)) = some (.bool o.cut) ∧ W.cell? (a.add (i * 6 + 3)) = some (.int .i64 o.N) ∧ W.cell? (a.add (i * 6 + 4)) = some (.bool o.crash) ∧ W.cell? (a.add (i * 6 + 5)) = some o.kv ∧ NumsIs W o.kv o.l ∧ OpOk o := by
      intro i hi
      obtain ⟨cs', h1, h2⟩ := hel i hi
      rw [cells_op] at h1
      obtain ⟨_, hlen, hcell⟩ := World.cells?_some h1
      obtain ⟨xs, k, _, hxy, _, hxl, hg⟩ := DataW.trod_struct Try.underlying33 h2
      match xs, hxl, cs', hlen with
      | [x0, x1, x2, x3, x4, x5], _, [v0, v1, v2, v3, v4, v5], _ =>
        have g0 : DataW.trod enc Try.prog W 0 (fun _ => true) true k 5 (([v0, v1, v2, v3, v4, v5].drop 0).take (Try.prog.cellsOf 5)) = some x0 := hg 0 _ rfl
        have g1 : DataW.trod enc Try.prog W 0 (fun _ => true) true k 9 (([v0, v1, v2, v3, v4, v5].drop 1).take (Try.prog.cellsOf 9)) = some x1 := hg 1 _ rfl
        have g2 : DataW.trod enc Try.prog W 0 (fun _ => true) true k 4 (([v0, v1, v2, v3, v4, v5].drop 2).take (Try.prog.cellsOf 4)) = some x2 := hg 2 _ rfl
        have g3 : DataW.trod enc Try.prog W 0 (fun _ => true) true k 3 (([v0, v1, v2, v3, v4, v5].drop 3).take (Try.prog.cellsOf 3)) = some x3 := hg 3 _ rfl
        have g4 : DataW.trod enc Try.prog W 0 (fun _ => true) true k 4 (([v0, v1, v2, v3, v4, v5].drop 4).take (Try.prog.cellsOf 4)) = some x4 := hg 4 _ rfl
        have g5 : DataW.trod enc Try.prog W 0 (fun _ => true) true k 23 (([v0, v1, v2, v3, v4, v5].drop 5).take (Try.prog.cellsOf 23)) = some x5 := hg 5 _ rfl
        rw [cells_u8] at g0
        rw [cells_str] at g1
        rw [cells_bool] at g2
        rw [cells_i64] at g3
        rw [cells_bool] at g4
        rw [cells_sl] at g5
        obtain ⟨q0, hq0, _, w0⟩ := DataW.trod_int Try.underlying5 g0
        obtain ⟨q1, hq1, _, w1⟩ := DataW.trod_string Try.underlying9 g1
        obtain ⟨q2, hq2, _⟩ := DataW.trod_bool Try.underlying4 g2
        obtain ⟨q3, hq3, _, w3⟩ := DataW.trod_int Try.underlying3 g3
        obtain ⟨q4, hq4, _⟩ := DataW.trod_bool Try.underlying4 g4
        have hp5 : ∀ y ∈ x5.2, y.block < W.heap.size := fun y hy => hlt y (by
          rw [hp]
          refine List.mem_append_right _ (List.mem_flatMap.2 ⟨i, List.mem_range.2 hi, ?_⟩)
          have : Pl i = _ := congrArg Prod.snd hxy
          rw [this]
          simp [hy])
        obtain ⟨kl, hkl, hkn⟩ := nums_of g5 hp5
        injection hq0 with hq0 _
        injection hq1 with hq1 _
        injection hq2 with hq2 _
        injection hq3 with hq3 _
        injection hq4 with hq4 _
        subst hq0 hq1 hq2 hq3 hq4
        have e0 := hcell 0 (by omega)
        have e1 := hcell 1 (by omega)
        have e2 := hcell 2 (by omega)
        have e3 := hcell 3 (by omega)
        have e4 := hcell 4 (by omega)
        have e5 := hcell 5 (by omega)
        rw [Go.Deep.add_add] at e0 e1 e2 e3 e4 e5
        have r0 : 0 ≤ q0 ∧ q0 ≤ 255 := by simpa [Lit.wf, IntKind.min, IntKind.max, IntKind.signed, IntKind.bits] using w0
        have r3 : -9223372036854775808 ≤ q3 ∧ q3 ≤ 9223372036854775807 := by simpa [Lit.wf, IntKind.min, IntKind.max, IntKind.signed, IntKind.bits] using w3
        have r1 : q1.size ≤ 9223372036854775807 := by
          have hx := w1
          unfold maxLen at hx
          omega
        exact ⟨⟨q0, q1, q2, q3, q4, v5, kl⟩, e0, e1, e2, e3, e4, e5, hkl, r0.1, r0.2, r3.1, r3.2, r1, hkn⟩
    obtain ⟨q, hq⟩ := Go.Deep.choose_lt each
    have hlen : ((List.range len).map q).length = len := by simp
    refine ⟨(List.range len).map q, ?_, by rw [hlen]; unfold maxLen at hm; omega, fun r hr => ?_⟩
    · by_cases hl0 : len = 0
      · subst hl0
        exact Or.inl ⟨rfl, some a, m, rfl⟩
      · obtain ⟨b, off, spot⟩ := a
        have hspot : spot = none := by simpa [Addr.add] using World.cell?_spot (hq 0 (by omega)).1
        subst hspot
        have hbW : b < W.heap.size := hlt (.cell b off) (by
          rw [hp, cells_op]
          exact List.mem_append_left _ (MemPlace.mem_row.2 ⟨0, by omega, by simp⟩))
        refine Or.inr ⟨b, off, m, hbW, by rw [hlen], fun j o hj => ?_⟩
        have hjl : j < len := by
          have := (List.getElem?_eq_some_iff.1 hj).1
          rwa [hlen] at this
        have ho : q j = o := by
          rw [List.getElem?_map, List.getElem?_range hjl] at hj
          exact Option.some.inj hj
        obtain ⟨e0, e1, e2, e3, e4, e5, hn, _⟩ := hq j (by omega)
        rw [ho] at e0 e1 e2 e3 e4 e5 hn
        rw [Addr.add_mid] at e0 e1 e2 e3 e4 e5
        exact ⟨e0, e1, e2, e3, e4, e5, hn⟩
    · obtain ⟨i, hi, rfl⟩ := List.mem_map.1 hr
      exact (hq i (by have := List.mem_range.1 hi; omega)).2.2.2.2.2.2.2
end
end Go.Proofs.Ytmpfdmjbgabcdaa
