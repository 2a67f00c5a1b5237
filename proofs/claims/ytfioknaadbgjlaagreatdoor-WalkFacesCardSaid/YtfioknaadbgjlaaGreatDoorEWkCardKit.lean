/- Kit. -/
import Derived.Test.YtfioknaadbgjlaaGreatDoorRows
import Derived.Test.YtfioknaadbgjlaaGreatDoorCards
import Derived.Test.YtfioknaadbgjlaaGreatDoorTie
import Derived.Test.YtfioknaadbgjlaaGreatDoorEQ4
import Derived.Test.YtfioknaadbgjlaaGreatDoorEWC
import Derived.Test.YtfioknaadbgjlaaGreatDoorEK8
import Derived.WalkKit
import Derived.ProofKit
import Derived.OpenShut
import Derived.ChangeArms
import Derived.ChangeSlices
import Derived.SliceStrings
import Derived.ChangeMaps5
import Derived.Deep.Slices
import Derived.PinnedBridge
import Derived.Lib.LaidU8T
import Derived.Lib.LaidTab
import Derived.Stop.LaidErr
import Derived.Lay
import Derived.SevenTiedAt
set_option maxRecDepth 100000
set_option linter.unusedVariables false
set_option linter.unusedSimpArgs false
namespace Go.Proofs.YtfioknaadbgjlaaGreatDoor
open Go.ChangeShapes Go.WideShapes Go.ChangeAt Go.RowKit Go.Lib
theorem own : ownKnob Tryz.prog.godebug = none := by kernel_rfl
theorem laidOut : laidOutB Tryz.prog = true := by kernel_rfl
def laidAll : List (String × DataW Unit) := [("math/bits.deBruijn32tab", Rows.laid_math_bits_deBruijn32tab), ("math/bits.deBruijn64tab", Rows.laid_math_bits_deBruijn64tab), ("internal/strconv.uint64pow10", Rows.laid_internal_strconv_uint64pow10), ("unicode/utf8.acceptRanges", Rows.laid_unicode_utf8_acceptRanges), ("unicode/utf8.first", Rows.laid_unicode_utf8_first)]
end Go.Proofs.YtfioknaadbgjlaaGreatDoor
namespace Go.Proofs.YtfioknaadbgjlaaGreatDoor.F
open Go.ChangeShapes Go.WideShapes Go.ChangeAt Go.RowKit Go.Lib
def brTab : List Int := [0, 1, 56, 2, 57, 49, 28, 3, 61, 58, 42, 50, 38, 29, 17, 4, 62, 47, 59, 36, 45, 43, 51, 22, 53, 39, 33, 30, 24, 18, 12, 5, 63, 55, 48, 27, 60, 41, 37, 16, 46, 35, 44, 21, 52, 32, 23, 11, 54, 26, 40, 15, 34, 20, 31, 10, 25, 14, 19, 9, 13, 8, 7, 6]
theorem br_eq : (Rows.laid_math_bits_deBruijn64tab : DataW Unit) = Lib.tabData .u8 brTab := by kernel_rfl
theorem pow_eq : (Rows.laid_internal_strconv_uint64pow10 : DataW Unit) = Lib.tabData .u64 Lib.pow10Tab := by kernel_rfl
theorem glob_br : Tryz.prog.globalNamed "math/bits.deBruijn64tab" = some 5 := by kernel_rfl
theorem accept_eq : Rows.laid_unicode_utf8_acceptRanges = acceptData := by kernel_rfl
theorem tabs_two {w : World} (hL : laidMet Tryz.prog laidAll w) : Tabs w ∧ Base w := by
  have h2 := hL.tail
  have h3 := hL.tail.tail
  rw [br_eq] at h2
  rw [pow_eq] at h3
  have t2 := Lib.tabIs_of_head (g := 5) (t := 265) (e := 5) (n := 64) glob_br (by kernel_rfl) Tryz.underlying265 Tryz.underlying5 (by kernel_rfl) (by kernel_rfl) h2
  have t3 := Lib.tabIs_of_head (g := 0) (t := 230) (e := 121) (n := 20) glob_pow (by kernel_rfl) Tryz.underlying230 Tryz.underlying121 (by kernel_rfl) (by kernel_rfl) h3
  have ht : Tabs w := by
    have h4 := Lib.laidMet.reads hL (.tail _ (.tail _ (.tail _ (.head _))))
    have h7 := Lib.laidMet.reads hL (.tail _ (.tail _ (.tail _ (.tail _ (.head _)))))
    rw [accept_eq] at h4
    rw [show Rows.laid_unicode_utf8_first = firstData from Pinned.utf8First_eq] at h7
    exact utf8Tabs_of_readsT (U8Types.of260 Tryz.lays260) ⟨by kernel_rfl, by kernel_rfl, by kernel_rfl, by kernel_rfl, by kernel_rfl, by kernel_rfl, by kernel_rfl⟩ h7 h4
  refine ⟨ht, ⟨?_, t3⟩⟩
  unfold Zeros
  rw [t2.cell glob_br 15 (by decide)]
  rfl
end Go.Proofs.YtfioknaadbgjlaaGreatDoor.F
namespace Go.Proofs.YtfioknaadbgjlaaGreatDoor
open Go.ChangeShapes Go.WideShapes Go.ChangeAt Go.RowKit Go.Lib
theorem tabs_of {w : World} (hL : laidMet Tryz.prog laidAll w) : KW w := F.tabs_two hL
theorem cells_i64 : Tryz.prog.cellsOf 3 = 1 := by kernel_rfl
theorem cells_u8 : Tryz.prog.cellsOf 5 = 1 := by kernel_rfl
theorem cells_bool : Tryz.prog.cellsOf 4 = 1 := by kernel_rfl
theorem cells_str : Tryz.prog.cellsOf 9 = 1 := by kernel_rfl
theorem cells_op : Tryz.prog.cellsOf 52 = 7 := by kernel_rfl
instance : Inhabited OpT := ⟨⟨0, 0, 0, ⟨#[]⟩, ⟨#[]⟩, false, 0⟩⟩
/-- What a call's numbers and texts are. -/
def OpOk (o : OpT) : Prop := (0 ≤ o.k ∧ o.k ≤ 255) ∧ o.s.size ≤ 9223372036854775807 ∧ o.ns.size ≤ 9223372036854775807
section
variable {H : Type} {enc : TypeId × Value → H} {W : World} {base : Nat}
set_option maxRecDepth 100000 in
theorem arg_ops {v : Value} {d : DataW H} {p : List MemPlace} (hval : Value.okWide Tryz.prog W .any base 22 v)
    (h : DataW.Trod enc Tryz.prog W 0 (fun _ => true) true 22 v d p) (hlt : ∀ x ∈ p, x.block < W.heap.size) :
    ∃ l, OpTs W v l ∧ (l.length ≤ 9223372036854775807 ∧ ∀ o ∈ l, OpOk o) := by
  obtain ⟨a0, len, cap, rfl⟩ := okWide_slice Tryz.underlying22 hval
  obtain ⟨fuel, hf⟩ := h
  rcases Go.Deep.open_slice Tryz.underlying22 hf with ⟨hcs, _⟩ | ⟨a, len', cap', m, n, D, Pl, hcs, _, hl, hm, hmm, hx, hel⟩
  · simp [Value.cells] at hcs
    obtain ⟨rfl, rfl, rfl⟩ := hcs
    exact ⟨[], Or.inl ⟨rfl, none, 0, rfl⟩, by simp, fun q hq => by cases hq⟩
  · simp [Value.cells] at hcs
    obtain ⟨rfl, rfl, rfl⟩ := hcs
    simp only [if_true] at hmm
    subst hmm
    have hp : p = MemPlace.row a (m * Tryz.prog.cellsOf 52) ++ (List.range m).flatMap Pl := congrArg Prod.snd hx
    have each : ∀ i, i < m → ∃ o : OpT, W.cell? (a.add (i * 7)) = some (.int .u8 o.k) ∧ W.cell? (a.add (i * 7 + 1)) = some (.int .i64 o.d) ∧ W.cell? (a.add (i * 7 + 2)) = some (.int .i64 o.dt) ∧ W.cell? (a.add (i * 7 + 3)) = some (.string o.s) ∧ W.cell? (a.add (i * 7 + 4)) = some (.string o.ns) ∧ W.cell? (a.add (i * 7 + 5)) = some (.bool o.isD) ∧ W.cell? (a.add (i * 7 + 6)) = some (.int .i64 o.sh) ∧ OpOk o := by
      intro i hi
      obtain ⟨cs', h1, h2⟩ := hel i hi
      rw [cells_op] at h1
      obtain ⟨_, hlen, hcell⟩ := World.cells?_some h1
      obtain ⟨xs, k, _, hxy, _, hxl, hg⟩ := DataW.trod_struct Tryz.underlying52 h2
      match xs, hxl, cs', hlen with
      | [x0, x1, x2, x3, x4, x5, x6], _, [v0, v1, v2, v3, v4, v5, v6], _ =>
        have g0 : DataW.trod enc Tryz.prog W 0 (fun _ => true) true k 5 (([v0, v1, v2, v3, v4, v5, v6].drop 0).take (Tryz.prog.cellsOf 5)) = some x0 := hg 0 _ rfl
        have g1 : DataW.trod enc Tryz.prog W 0 (fun _ => true) true k 3 (([v0, v1, v2, v3, v4, v5, v6].drop 1).take (Tryz.prog.cellsOf 3)) = some x1 := hg 1 _ rfl
        have g2 : DataW.trod enc Tryz.prog W 0 (fun _ => true) true k 3 (([v0, v1, v2, v3, v4, v5, v6].drop 2).take (Tryz.prog.cellsOf 3)) = some x2 := hg 2 _ rfl
        have g3 : DataW.trod enc Tryz.prog W 0 (fun _ => true) true k 9 (([v0, v1, v2, v3, v4, v5, v6].drop 3).take (Tryz.prog.cellsOf 9)) = some x3 := hg 3 _ rfl
        have g4 : DataW.trod enc Tryz.prog W 0 (fun _ => true) true k 9 (([v0, v1, v2, v3, v4, v5, v6].drop 4).take (Tryz.prog.cellsOf 9)) = some x4 := hg 4 _ rfl
        have g5 : DataW.trod enc Tryz.prog W 0 (fun _ => true) true k 4 (([v0, v1, v2, v3, v4, v5, v6].drop 5).take (Tryz.prog.cellsOf 4)) = some x5 := hg 5 _ rfl
        have g6 : DataW.trod enc Tryz.prog W 0 (fun _ => true) true k 3 (([v0, v1, v2, v3, v4, v5, v6].drop 6).take (Tryz.prog.cellsOf 3)) = some x6 := hg 6 _ rfl
        rw [cells_u8] at g0
        rw [cells_i64] at g1
        rw [cells_i64] at g2
        rw [cells_str] at g3
        rw [cells_str] at g4
        rw [cells_bool] at g5
        rw [cells_i64] at g6
        obtain ⟨q0, hq0, _, w0⟩ := DataW.trod_int Tryz.underlying5 g0
        obtain ⟨q1, hq1, _, w1⟩ := DataW.trod_int Tryz.underlying3 g1
        obtain ⟨q2, hq2, _, w2⟩ := DataW.trod_int Tryz.underlying3 g2
        obtain ⟨q3, hq3, _, w3⟩ := DataW.trod_string Tryz.underlying9 g3
        obtain ⟨q4, hq4, _, w4⟩ := DataW.trod_string Tryz.underlying9 g4
        obtain ⟨q5, hq5, _⟩ := DataW.trod_bool Tryz.underlying4 g5
        obtain ⟨q6, hq6, _, w6⟩ := DataW.trod_int Tryz.underlying3 g6
        injection hq0 with hq0 _
        injection hq1 with hq1 _
        injection hq2 with hq2 _
        injection hq3 with hq3 _
        injection hq4 with hq4 _
        injection hq5 with hq5 _
        injection hq6 with hq6 _
        subst hq0 hq1 hq2 hq3 hq4 hq5 hq6
        have e0 := hcell 0 (by omega)
        have e1 := hcell 1 (by omega)
        have e2 := hcell 2 (by omega)
        have e3 := hcell 3 (by omega)
        have e4 := hcell 4 (by omega)
        have e5 := hcell 5 (by omega)
        have e6 := hcell 6 (by omega)
        rw [Go.Deep.add_add] at e0 e1 e2 e3 e4 e5 e6
        have r0 : 0 ≤ q0 ∧ q0 ≤ 255 := by simpa [Lit.wf, IntKind.min, IntKind.max, IntKind.signed, IntKind.bits] using w0
        have r3 : q3.size ≤ 9223372036854775807 := by
          have hx := w3
          unfold maxLen at hx
          omega
        have r4 : q4.size ≤ 9223372036854775807 := by
          have hx := w4
          unfold maxLen at hx
          omega
        exact ⟨⟨q0, q1, q2, q3, q4, q5, q6⟩, e0, e1, e2, e3, e4, e5, e6, r0, r3, r4⟩
    obtain ⟨q, hq⟩ := Go.Deep.choose_lt each
    have hlen : ((List.range len).map q).length = len := by simp
    refine ⟨(List.range len).map q, ?_, by rw [hlen]; unfold maxLen at hm; omega, fun r hr => ?_⟩
    · by_cases hl0 : len = 0
      · subst hl0
        exact Or.inl ⟨rfl, some a, m, rfl⟩
      · obtain ⟨b, off, spot⟩ := a
        have hspot : spot = none := by simpa [Addr.add] using World.cell?_spot (hq 0 (by omega)).1
        subst hspot
        have hbW : b < W.heap.size := hlt (.cell b off) (by
          rw [hp, cells_op]
          exact List.mem_append_left _ (MemPlace.mem_row.2 ⟨0, by omega, by simp⟩))
        refine Or.inr ⟨b, off, m, hbW, by rw [hlen], fun j o hj => ?_⟩
        have hjl : j < len := by
          have := (List.getElem?_eq_some_iff.1 hj).1
          rwa [hlen] at this
        have ho : q j = o := by
          rw [List.getElem?_map, List.getElem?_range hjl] at hj
          exact Option.some.inj hj
        obtain ⟨e0, e1, e2, e3, e4, e5, e6, _⟩ := hq j (by omega)
        rw [ho] at e0 e1 e2 e3 e4 e5 e6
        rw [Addr.add_mid] at e0 e1 e2 e3 e4 e5 e6
        intro z x hz
        rcases z with _ | _ | _ | _ | _ | _ | _ | z
        all_goals first | (obtain rfl := Option.some.inj hz; assumption) | (cases hz)
    · obtain ⟨i, hi, rfl⟩ := List.mem_map.1 hr
      exact (hq i (by have := List.mem_range.1 hi; omega)).2.2.2.2.2.2.2
end
end Go.Proofs.YtfioknaadbgjlaaGreatDoor
