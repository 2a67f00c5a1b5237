/-
  What the row of TreeMakes asks: the start; a slice of calls, a directory's entries, four bytes.
-/
import Derived.Test.YthjieagmglbonaaRows
import Derived.Test.YthjieagmglbonaaQ4
import Derived.Test.YthjieagmglbonaaQ5
import Derived.Test.YthjieagmglbonaaCpCardZero
import Derived.WalkKit
import Derived.ProofKit
import Derived.OpenShut
import Derived.ChangeArms
import Derived.ChangeSlices
import Derived.SliceStrings
import Derived.ChangeMaps5
import Derived.Deep.Slices
import Derived.Carry
namespace Go.Proofs.Ythjieagmglbonaa
open Go.ChangeShapes Go.WideShapes Go.ChangeAt Go.RowKit Go.Lib
set_option linter.unusedVariables false

theorem laidOut : laidOutB Try.prog = true := by kernel_rfl
theorem cells_i64 : Try.prog.cellsOf 3 = 1 := by kernel_rfl
theorem cells_u8 : Try.prog.cellsOf 5 = 1 := by kernel_rfl
theorem cells_bool : Try.prog.cellsOf 4 = 1 := by kernel_rfl
theorem cells_str : Try.prog.cellsOf 9 = 1 := by kernel_rfl
theorem cells_op : Try.prog.cellsOf 39 = 7 := by kernel_rfl
theorem cells_int64 : Try.prog.cellsOf 2 = 1 := by kernel_rfl
theorem cells_ent : Try.prog.cellsOf 93 = 5 := by kernel_rfl
theorem cells_ents : Try.prog.cellsOf 23 = 1 := by kernel_rfl
theorem cells_dir : Try.prog.cellsOf 25 = 2 := by kernel_rfl
theorem cells_four : Try.prog.cellsOf 26 = 4 := by kernel_rfl
instance : Inhabited OpT := ⟨⟨0, 0, 0, ⟨#[]⟩, ⟨#[]⟩, false, 0⟩⟩
/-- What a call's numbers and texts are. -/
def OpOk (o : OpT) : Prop := (0 ≤ o.k ∧ o.k ≤ 255) ∧ o.s.size ≤ 9223372036854775807 ∧ o.ns.size ≤ 9223372036854775807
section
variable {H : Type} {enc : TypeId × Value → H} {W : World} {base : Nat}
set_option maxRecDepth 100000 in
theorem arg_ops {v : Value} {d : DataW H} {p : List MemPlace} (hval : Value.okWide Try.prog W .any base 22 v)
    (h : DataW.Trod enc Try.prog W 0 (fun _ => true) true 22 v d p) (hlt : ∀ x ∈ p, x.block < W.heap.size) :
    ∃ l, OpTs W v l ∧ (l.length ≤ 9223372036854775807 ∧ ∀ o ∈ l, OpOk o) := by
  obtain ⟨a0, len, cap, rfl⟩ := okWide_slice Try.underlying22 hval
  obtain ⟨fuel, hf⟩ := h
  rcases Go.Deep.open_slice Try.underlying22 hf with ⟨hcs, _⟩ | ⟨a, len', cap', m, n, D, Pl, hcs, _, hl, hm, hmm, hx, hel⟩
  · simp [Value.cells] at hcs
    obtain ⟨rfl, rfl, rfl⟩ := hcs
    exact ⟨[], Or.inl ⟨rfl, none, 0, rfl⟩, by simp, fun q hq => by cases hq⟩
  · simp [Value.cells] at hcs
    obtain ⟨rfl, rfl, rfl⟩ := hcs
    simp only [if_true] at hmm
    subst hmm
    have hp : p = MemPlace.row a (m * Try.prog.cellsOf 39) ++ (List.range m).flatMap Pl := congrArg Prod.snd hx
    have each : ∀ i, i < m → ∃ o : OpT, W.cell? (a.add (i * 7)) = some (.int .u8 o.k) ∧ W.cell? (a.add (i * 7 + 1)) = some (.int .i64 o.d) ∧ W.cell? (a.add (i * 7 + 2)) = some (.int .i64 o.dt) ∧ W.cell? (a.add (i * 7 + 3)) = some (.string o.s) ∧ W.cell? (a.add (i * 7 + 4)) = some (.string o.ns) ∧ W.cell? (a.add (i * 7 + 5)) = some (.bool o.isD) ∧ W.cell? (a.add (i * 7 + 6)) = some (.int .i64 o.sh) ∧ OpOk o := by
      intro i hi
      obtain ⟨cs', h1, h2⟩ := hel i hi
      rw [cells_op] at h1
      obtain ⟨_, hlen, hcell⟩ := World.cells?_some h1
      obtain ⟨xs, k, _, hxy, _, hxl, hg⟩ := DataW.trod_struct Try.underlying39 h2
      match xs, hxl, cs', hlen with
      | [x0, x1, x2, x3, x4, x5, x6], _, [v0, v1, v2, v3, v4, v5, v6], _ =>
        have g0 : DataW.trod enc Try.prog W 0 (fun _ => true) true k 5 (([v0, v1, v2, v3, v4, v5, v6].drop 0).take (Try.prog.cellsOf 5)) = some x0 := hg 0 _ rfl
        have g1 : DataW.trod enc Try.prog W 0 (fun _ => true) true k 3 (([v0, v1, v2, v3, v4, v5, v6].drop 1).take (Try.prog.cellsOf 3)) = some x1 := hg 1 _ rfl
        have g2 : DataW.trod enc Try.prog W 0 (fun _ => true) true k 3 (([v0, v1, v2, v3, v4, v5, v6].drop 2).take (Try.prog.cellsOf 3)) = some x2 := hg 2 _ rfl
        have g3 : DataW.trod enc Try.prog W 0 (fun _ => true) true k 9 (([v0, v1, v2, v3, v4, v5, v6].drop 3).take (Try.prog.cellsOf 9)) = some x3 := hg 3 _ rfl
        have g4 : DataW.trod enc Try.prog W 0 (fun _ => true) true k 9 (([v0, v1, v2, v3, v4, v5, v6].drop 4).take (Try.prog.cellsOf 9)) = some x4 := hg 4 _ rfl
        have g5 : DataW.trod enc Try.prog W 0 (fun _ => true) true k 4 (([v0, v1, v2, v3, v4, v5, v6].drop 5).take (Try.prog.cellsOf 4)) = some x5 := hg 5 _ rfl
        have g6 : DataW.trod enc Try.prog W 0 (fun _ => true) true k 3 (([v0, v1, v2, v3, v4, v5, v6].drop 6).take (Try.prog.cellsOf 3)) = some x6 := hg 6 _ rfl
        rw [cells_u8] at g0
        rw [cells_i64] at g1
        rw [cells_i64] at g2
        rw [cells_str] at g3
        rw [cells_str] at g4
        rw [cells_bool] at g5
        rw [cells_i64] at g6
        obtain ⟨q0, hq0, _, w0⟩ := DataW.trod_int Try.underlying5 g0
        obtain ⟨q1, hq1, _, w1⟩ := DataW.trod_int Try.underlying3 g1
        obtain ⟨q2, hq2, _, w2⟩ := DataW.trod_int Try.underlying3 g2
        obtain ⟨q3, hq3, _, w3⟩ := DataW.trod_string Try.underlying9 g3
        obtain ⟨q4, hq4, _, w4⟩ := DataW.trod_string Try.underlying9 g4
        obtain ⟨q5, hq5, _⟩ := DataW.trod_bool Try.underlying4 g5
        obtain ⟨q6, hq6, _, w6⟩ := DataW.trod_int Try.underlying3 g6
        injection hq0 with hq0 _
        injection hq1 with hq1 _
        injection hq2 with hq2 _
        injection hq3 with hq3 _
        injection hq4 with hq4 _
        injection hq5 with hq5 _
        injection hq6 with hq6 _
        subst hq0 hq1 hq2 hq3 hq4 hq5 hq6
        have e0 := hcell 0 (by omega)
        have e1 := hcell 1 (by omega)
        have e2 := hcell 2 (by omega)
        have e3 := hcell 3 (by omega)
        have e4 := hcell 4 (by omega)
        have e5 := hcell 5 (by omega)
        have e6 := hcell 6 (by omega)
        rw [Go.Deep.add_add] at e0 e1 e2 e3 e4 e5 e6
        have r0 : 0 ≤ q0 ∧ q0 ≤ 255 := by simpa [Lit.wf, IntKind.min, IntKind.max, IntKind.signed, IntKind.bits] using w0
        have r3 : q3.size ≤ 9223372036854775807 := by
          have hx := w3
          unfold maxLen at hx
          omega
        have r4 : q4.size ≤ 9223372036854775807 := by
          have hx := w4
          unfold maxLen at hx
          omega
        exact ⟨⟨q0, q1, q2, q3, q4, q5, q6⟩, e0, e1, e2, e3, e4, e5, e6, r0, r3, r4⟩
    obtain ⟨q, hq⟩ := Go.Deep.choose_lt each
    have hlen : ((List.range len).map q).length = len := by simp
    refine ⟨(List.range len).map q, ?_, by rw [hlen]; unfold maxLen at hm; omega, fun r hr => ?_⟩
    · by_cases hl0 : len = 0
      · subst hl0
        exact Or.inl ⟨rfl, some a, m, rfl⟩
      · obtain ⟨b, off, spot⟩ := a
        have hspot : spot = none := by simpa [Addr.add] using World.cell?_spot (hq 0 (by omega)).1
        subst hspot
        have hbW : b < W.heap.size := hlt (.cell b off) (by
          rw [hp, cells_op]
          exact List.mem_append_left _ (MemPlace.mem_row.2 ⟨0, by omega, by simp⟩))
        refine Or.inr ⟨b, off, m, hbW, by rw [hlen], fun j o hj => ?_⟩
        have hjl : j < len := by
          have := (List.getElem?_eq_some_iff.1 hj).1
          rwa [hlen] at this
        have ho : q j = o := by
          rw [List.getElem?_map, List.getElem?_range hjl] at hj
          exact Option.some.inj hj
        obtain ⟨e0, e1, e2, e3, e4, e5, e6, _⟩ := hq j (by omega)
        rw [ho] at e0 e1 e2 e3 e4 e5 e6
        rw [Addr.add_mid] at e0 e1 e2 e3 e4 e5 e6
        intro z x hz
        rcases z with _ | _ | _ | _ | _ | _ | _ | z
        all_goals first | (obtain rfl := Option.some.inj hz; assumption) | (cases hz)
    · obtain ⟨i, hi, rfl⟩ := List.mem_map.1 hr
      exact (hq i (by have := List.mem_range.1 hi; omega)).2.2.2.2.2.2.2
set_option maxRecDepth 100000 in
/-- A slice of entries that stands in a cell. -/
theorem open_ents {c1 : Value} {x1 : DataW H × List MemPlace} {k : Nat} (hf : DataW.trod enc Try.prog W 0 (fun _ => true) true k 23 [c1] = some x1) (hlt : ∀ x ∈ x1.2, x.block < W.heap.size) :
    ∃ (ab : Option Addr) (nb cb : Nat) (bes : List Ent), c1 = .slice ab nb cb ∧ EntsIs W (.slice ab nb cb) bes ∧ bes.length = nb ∧ ∀ e ∈ bes, e.name.size ≤ 9223372036854775807 := by
  rcases Go.Deep.open_slice Try.underlying23 hf with ⟨hcs, _⟩ | ⟨a, len, cap', m, n, D, Pl, hcs, _, hl, hm, hmm, hx, hel⟩
  · simp at hcs
    subst hcs
    exact ⟨none, 0, 0, [], rfl, Or.inl ⟨rfl, none, 0, rfl⟩, rfl, fun q hq => by cases hq⟩
  · simp at hcs
    subst hcs
    simp only [if_true] at hmm
    subst hmm
    have hp : x1.2 = MemPlace.row a (m * Try.prog.cellsOf 93) ++ (List.range m).flatMap Pl := congrArg Prod.snd hx
    have each : ∀ i, i < m → ∃ o : Ent, W.cell? (a.add (i * 5)) = some (.string o.name) ∧ W.cell? (a.add (i * 5 + 1)) = some (.int .i64 o.node) ∧ W.cell? (a.add (i * 5 + 2)) = some (.bool o.dir) ∧ W.cell? (a.add (i * 5 + 3)) = some (.int .i64 o.cookie) ∧ W.cell? (a.add (i * 5 + 4)) = some (.int .i64 o.short) ∧ o.name.size ≤ 9223372036854775807 := by
      intro i hi
      obtain ⟨cs', h1, h2⟩ := hel i hi
      rw [cells_ent] at h1
      obtain ⟨_, hlen, hcell⟩ := World.cells?_some h1
      obtain ⟨xs, k, _, hxy, _, hxl, hg⟩ := DataW.trod_struct Try.underlying93 h2
      match xs, hxl, cs', hlen with
      | [x0, x1, x2, x3, x4], _, [v0, v1, v2, v3, v4], _ =>
        have g0 : DataW.trod enc Try.prog W 0 (fun _ => true) true k 9 (([v0, v1, v2, v3, v4].drop 0).take (Try.prog.cellsOf 9)) = some x0 := hg 0 _ rfl
        have g1 : DataW.trod enc Try.prog W 0 (fun _ => true) true k 3 (([v0, v1, v2, v3, v4].drop 1).take (Try.prog.cellsOf 3)) = some x1 := hg 1 _ rfl
        have g2 : DataW.trod enc Try.prog W 0 (fun _ => true) true k 4 (([v0, v1, v2, v3, v4].drop 2).take (Try.prog.cellsOf 4)) = some x2 := hg 2 _ rfl
        have g3 : DataW.trod enc Try.prog W 0 (fun _ => true) true k 2 (([v0, v1, v2, v3, v4].drop 3).take (Try.prog.cellsOf 2)) = some x3 := hg 3 _ rfl
        have g4 : DataW.trod enc Try.prog W 0 (fun _ => true) true k 3 (([v0, v1, v2, v3, v4].drop 4).take (Try.prog.cellsOf 3)) = some x4 := hg 4 _ rfl
        rw [cells_str] at g0
        rw [cells_i64] at g1
        rw [cells_bool] at g2
        rw [cells_int64] at g3
        rw [cells_i64] at g4
        obtain ⟨q0, hq0, _, w0⟩ := DataW.trod_string Try.underlying9 g0
        obtain ⟨q1, hq1, _, w1⟩ := DataW.trod_int Try.underlying3 g1
        obtain ⟨q2, hq2, _⟩ := DataW.trod_bool Try.underlying4 g2
        obtain ⟨q3, hq3, _, w3⟩ := DataW.trod_int Try.underlying2 g3
        obtain ⟨q4, hq4, _, w4⟩ := DataW.trod_int Try.underlying3 g4
        injection hq0 with hq0 _
        injection hq1 with hq1 _
        injection hq2 with hq2 _
        injection hq3 with hq3 _
        injection hq4 with hq4 _
        subst hq0 hq1 hq2 hq3 hq4
        have e0 := hcell 0 (by omega)
        have e1 := hcell 1 (by omega)
        have e2 := hcell 2 (by omega)
        have e3 := hcell 3 (by omega)
        have e4 := hcell 4 (by omega)
        rw [Go.Deep.add_add] at e0 e1 e2 e3 e4
        have r0 : q0.size ≤ 9223372036854775807 := by
          have hx := w0
          unfold maxLen at hx
          omega
        exact ⟨⟨q0, q1, q2, q3, q4⟩, e0, e1, e2, e3, e4, r0⟩
    obtain ⟨q, hq⟩ := Go.Deep.choose_lt each
    have hlen : ((List.range len).map q).length = len := by simp
    refine ⟨some a, len, m, (List.range len).map q, rfl, ?_, hlen, fun r hr => ?_⟩
    · by_cases hl0 : len = 0
      · subst hl0
        exact Or.inl ⟨rfl, some a, m, rfl⟩
      · obtain ⟨b, off, spot⟩ := a
        have hspot : spot = none := by simpa [Addr.add] using World.cell?_spot (hq 0 (by omega)).1
        subst hspot
        have hbW : b < W.heap.size := hlt (.cell b off) (by
          rw [hp, cells_ent]
          exact List.mem_append_left _ (MemPlace.mem_row.2 ⟨0, by omega, by simp⟩))
        refine Or.inr ⟨b, off, m, hbW, by rw [hlen], fun j o hj => ?_⟩
        have hjl : j < len := by
          have := (List.getElem?_eq_some_iff.1 hj).1
          rwa [hlen] at this
        have ho : q j = o := by
          rw [List.getElem?_map, List.getElem?_range hjl] at hj
          exact Option.some.inj hj
        obtain ⟨e0, e1, e2, e3, e4, _⟩ := hq j (by omega)
        rw [ho] at e0 e1 e2 e3 e4
        rw [Addr.add_mid] at e0 e1 e2 e3 e4
        intro z x hz
        rcases z with _ | _ | _ | _ | _ | z
        all_goals first | (obtain rfl := Option.some.inj hz; assumption) | (cases hz)
    · obtain ⟨i, hi, rfl⟩ := List.mem_map.1 hr
      exact (hq i (by have := List.mem_range.1 hi; omega)).2.2.2.2.2
set_option maxRecDepth 100000 in
/-- A directory's entries, as an argument. -/
theorem open_dir {v : Value} {d : DataW H} {p : List MemPlace} (hval : Value.okWide Try.prog W .any base 25 v)
    (h : DataW.Trod enc Try.prog W 0 (fun _ => true) true 25 v d p) (hlt : ∀ x ∈ p, x.block < W.heap.size) :
    ∃ (bn : Int) (ab : Option Addr) (nb cb : Nat) (bes : List Ent), v = .agg #[.int .i64 bn, .slice ab nb cb] ∧ inI64 bn ∧ EntsIs W (.slice ab nb cb) bes ∧ bes.length = nb ∧ ∀ e ∈ bes, e.name.size ≤ 9223372036854775807 := by
  have hv : ∃ cs : Array Value, v = .agg cs ∧ cs.size = 2 := by
    simp only [Value.okWide, Try.underlying25] at hval
    obtain ⟨cs, h3, h4, _⟩ := hval
    exact ⟨cs, h3, by rw [h4, cells_dir]⟩
  obtain ⟨cs, rfl, hcs⟩ := hv
  rcases cs with ⟨l⟩
  obtain ⟨fuel, hf⟩ := h
  obtain ⟨xs, k, _, hxy, hl, hxl, hg⟩ := DataW.trod_struct Try.underlying25 hf
  have hcs' : l.length = 2 := hcs
  simp only [Value.cells] at hg
  match xs, hxl, l, hcs' with
  | [x0, x1], _, [v0, v1], _ =>
    have g0 : DataW.trod enc Try.prog W 0 (fun _ => true) true k 3 (([v0, v1].drop 0).take (Try.prog.cellsOf 3)) = some x0 := hg 0 _ rfl
    have g1 : DataW.trod enc Try.prog W 0 (fun _ => true) true k 23 (([v0, v1].drop 1).take (Try.prog.cellsOf 23)) = some x1 := hg 1 _ rfl
    rw [cells_i64] at g0
    rw [cells_ents] at g1
    obtain ⟨q0, hq0, _, w0⟩ := DataW.trod_int Try.underlying3 g0
    injection hq0 with hq0 _
    subst hq0
    have hp : p = x0.2 ++ x1.2 := by
      have h9 := congrArg Prod.snd hxy
      simpa using h9
    obtain ⟨ab, nb, cb, bes, rfl, h5, h6, h7⟩ := open_ents g1 (fun x hx => hlt x (by rw [hp]; exact List.mem_append_right _ hx))
    refine ⟨q0, ab, nb, cb, bes, rfl, ?_, h5, h6, h7⟩
    unfold inI64
    simpa [Lit.wf, IntKind.min, IntKind.max, IntKind.signed, IntKind.bits] using w0
set_option maxRecDepth 100000 in
/-- An array of four bytes. -/
theorem open_four {v : Value} {d : DataW H} {p : List MemPlace} (hval : Value.okWide Try.prog W .any base 26 v)
    (h : DataW.Trod enc Try.prog W 0 (fun _ => true) true 26 v d p) :
    ∃ h0 h1 h2 h3 : Int, v = .agg #[.int .u8 h0, .int .u8 h1, .int .u8 h2, .int .u8 h3] ∧ (0 ≤ h0 ∧ h0 ≤ 255) ∧ (0 ≤ h1 ∧ h1 ≤ 255) := by
  have hv : ∃ cs : Array Value, v = .agg cs ∧ cs.size = 4 := by
    simp only [Value.okWide, Try.underlying26] at hval
    obtain ⟨cs, h3, h4, _⟩ := hval
    exact ⟨cs, h3, by rw [h4, cells_four]⟩
  obtain ⟨cs, rfl, hcs⟩ := hv
  rcases cs with ⟨l⟩
  obtain ⟨fuel, hf⟩ := h
  obtain ⟨xs, m, _, hx, _, hxl, hget⟩ := DataW.trod_array Try.underlying26 hf
  have hcs' : l.length = 4 := hcs
  have g0 := hget 0 (by decide)
  have g1 := hget 1 (by decide)
  have g2 := hget 2 (by decide)
  have g3 := hget 3 (by decide)
  rw [cells_u8] at g0 g1 g2 g3
  simp only [Value.cells] at g0 g1 g2 g3
  match xs, hxl, l, hcs' with
  | [x0, x1, x2, x3], _, [c0, c1, c2, c3], _ =>
    obtain ⟨q0, hq0, _, w0⟩ := DataW.trod_int Try.underlying5 (cs := [c0]) (x := x0) (by simpa using g0)
    obtain ⟨q1, hq1, _, w1⟩ := DataW.trod_int Try.underlying5 (cs := [c1]) (x := x1) (by simpa using g1)
    obtain ⟨q2, hq2, _, w2⟩ := DataW.trod_int Try.underlying5 (cs := [c2]) (x := x2) (by simpa using g2)
    obtain ⟨q3, hq3, _, w3⟩ := DataW.trod_int Try.underlying5 (cs := [c3]) (x := x3) (by simpa using g3)
    injection hq0 with hq0 _
    injection hq1 with hq1 _
    injection hq2 with hq2 _
    injection hq3 with hq3 _
    subst hq0 hq1 hq2 hq3
    refine ⟨q0, q1, q2, q3, rfl, ?_, ?_⟩
    · simpa [Lit.wf, IntKind.min, IntKind.max, IntKind.signed, IntKind.bits] using w0
    · simpa [Lit.wf, IntKind.min, IntKind.max, IntKind.signed, IntKind.bits] using w1
end
end Go.Proofs.Ythjieagmglbonaa
