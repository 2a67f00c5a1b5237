/-
  A device (stage 6): which pending writes are kept.
-/
import Derived.Test.YtmpfdmjbgabcdaaSeFlush
namespace Go.Proofs.Ytmpfdmjbgabcdaa
open Go.RowKit Go.Sort
set_option linter.unusedVariables false

/-- The slice v holds the numbers l. -/
def NumsIs (w : World) (v : Value) (l : List Int) : Prop :=
  (l = [] ∧ ∃ a cap, v = .slice a 0 cap) ∨
  (∃ g off cap, g < w.heap.size ∧ v = .slice (some ⟨g, off, none⟩) l.length cap ∧ ∀ j, j < l.length → w.cell? ⟨g, off + j, none⟩ = some (.int .i64 (l.getD j 0)))
theorem NumsIs.kept {w w' : World} {v : Value} {l : List Int} (h : NumsIs w v l) (hb : Below w.heap.size w w') : NumsIs w' v l := by
  rcases h with h | ⟨g, off, cap, hg, hv, hc⟩
  · exact Or.inl h
  · exact Or.inr ⟨g, off, cap, by have := hb.size; omega, hv, fun j hj => by rw [hb.cell (p := ⟨g, off + j, none⟩) hg]; exact hc j hj⟩
theorem NumsIs.len {w : World} {v : Value} {l : List Int} (h : NumsIs w v l) : ∃ a cap, v = .slice a l.length cap := by
  rcases h with ⟨rfl, a, cap, hv⟩ | ⟨g, off, cap, hg, hv, hc⟩
  · exact ⟨a, cap, hv⟩
  · exact ⟨_, cap, hv⟩
theorem NumsIs.at {w : World} {a : Option Addr} {n cap : Nat} {l : List Int} (h : NumsIs w (.slice a n cap) l) {j : Nat} (hj : j < l.length) : ∃ g off, a = some ⟨g, off, none⟩ ∧ g < w.heap.size ∧ w.cell? ⟨g, off + j, none⟩ = some (.int .i64 (l.getD j 0)) := by
  rcases h with ⟨rfl, _⟩ | ⟨g, off, cap', hg, hv, hc⟩
  · exact absurd hj (by simp)
  · injection hv with h1 h2 h3
    exact ⟨g, off, h1, hg, hc j hj⟩

/-- The marks behind these numbers. -/
def markF (count : Nat) (M : List Bool) (x : Int) : List Bool := if 0 ≤ x ∧ x < (count : Int) then M.set x.toNat true else M
def marks (count : Nat) (l : List Int) : List Bool := l.foldl (markF count) (List.replicate count false)
theorem marks_snoc (count : Nat) (l : List Int) (x : Int) : marks count (l ++ [x]) = if 0 ≤ x ∧ x < (count : Int) then (marks count l).set x.toNat true else marks count l := by
  unfold marks
  rw [List.foldl_append]
  rfl
theorem markF_len (count : Nat) (M : List Bool) (x : Int) : (markF count M x).length = M.length := by
  unfold markF
  split
  · rw [List.length_set]
  · rfl
theorem marksF_len (count : Nat) : ∀ (l : List Int) (M : List Bool), (l.foldl (markF count) M).length = M.length
  | [], M => rfl
  | x :: l, M => (marksF_len count l (markF count M x)).trans (markF_len count M x)
theorem marks_len (count : Nat) (l : List Int) : (marks count l).length = count := by
  unfold marks
  rw [marksF_len, List.length_replicate]
theorem marksF_get (count i : Nat) (hi : i < count) : ∀ (l : List Int) (M : List Bool) (u : Bool), M.length = count → M[i]? = some u → (l.foldl (markF count) M)[i]? = some (u || decide ((i : Int) ∈ l))
  | [], M, u, _, hu => by simpa using hu
  | x :: l, M, u, hM, hu => by
    have hF := markF_len count M x
    show (l.foldl (markF count) (markF count M x))[i]? = _
    by_cases h : 0 ≤ x ∧ x < (count : Int)
    · by_cases e : x.toNat = i
      · have he : (i : Int) = x := by omega
        rw [marksF_get count i hi l _ true (hF.trans hM) (by unfold markF; rw [if_pos h, e, List.getElem?_set_self (by omega)])]
        simp [he]
      · have he : ¬ ((i : Int) = x) := by omega
        rw [marksF_get count i hi l _ u (hF.trans hM) (by unfold markF; rw [if_pos h, List.getElem?_set_ne e]; exact hu)]
        simp [he]
    · have he : ¬ ((i : Int) = x) := by omega
      rw [marksF_get count i hi l _ u (hF.trans hM) (by unfold markF; rw [if_neg h]; exact hu)]
      simp [he]
theorem marks_get (count : Nat) (l : List Int) (i : Nat) (hi : i < count) : (marks count l)[i]? = some (decide ((i : Int) ∈ l)) := by
  have := marksF_get count i hi l (List.replicate count false) false (by simp) (by simp [hi])
  simpa [marks] using this
def boolRow (M : List Bool) : Array Value := (M.map Value.bool).toArray
theorem boolRow_set (M : List Bool) (i : Nat) (x : Bool) : (boolRow M).setIfInBounds i (.bool x) = boolRow (M.set i x) := by
  unfold boolRow
  apply Array.ext'
  rw [Array.toList_setIfInBounds, List.toList_toArray, List.toList_toArray, List.map_set]
theorem boolRow_get {M : List Bool} {i : Nat} {x : Bool} (h : M[i]? = some x) : (boolRow M)[i]? = some (.bool x) := by
  unfold boolRow
  rw [List.getElem?_toArray, List.getElem?_map, h]
  rfl
theorem Try.infoBoolZ : (Try.prog.info? 4).map (fun i => (i.zero, i.size, i.bytes)) = some (some (.bool false), 1, 1) := by kernel_rfl
set_option maxRecDepth 100000 in
theorem run_new_bools (n : Nat) (hn : n ≤ 1000000) (W : World) : (Instr.makeSlice 76 (.int .i64 n) (.int .i64 n)).run Try.prog W = .ok (.slice (some ⟨W.heap.size, 0, none⟩) n n) (W.alloc (.cells (boolRow (marks n [])) 4)) := by
  obtain ⟨i0, hi0, hz0, hz1, hz2⟩ := info_parts Try.infoBoolZ
  have := run_make (P := Try.prog) W 76 4 i0 (.bool false) Try.underlying76 hi0 hz0 .i64 .i64 n n (by omega) (by omega) (by rw [hz2]; omega) (by omega)
  rw [hz1, Int.toNat_natCast] at this
  refine this.trans ?_
  congr 3
  unfold boolRow marks
  apply Array.ext_getElem?
  intro i
  simp [madeCells, Value.cells]
  by_cases h : i < n
  · simp [h, Nat.mod_one]
  · simp [h]
theorem take_one {l : List Int} {k : Nat} (h : k < l.length) : l.take (k + 1) = l.take k ++ [l.getD k 0] := by
  rw [List.take_add_one]
  simp [List.getD_eq_getElem?_getD, List.getElem?_eq_getElem h]
set_option maxHeartbeats 2000000 in
theorem marked_c (count : Nat) (hc : count ≤ 1000000) (v : Value) (l : List Int) (w : World) (hv : NumsIs w v l) (hl : l.length ≤ 9223372036854775807) :
    Calls Try.prog 41 #[.int .i64 count, v] w fun e w' => e = .returned (.slice (some ⟨w.heap.size, 0, none⟩) count count) ∧ w' = w.alloc (.cells (boolRow (marks count l)) 4) := by
  have hm := run_new_bools count hc
  obtain ⟨a, cap, rfl⟩ := hv.len
  obtain ⟨n, hn⟩ : ∃ n, l.length = n := ⟨_, rfl⟩
  have HV := Lib.hid hv
  have HN := Lib.hid hn
  rw [hn] at hl ⊢
  clear hv hn
  go_enter Try.func41, Try.ntmps41
  go_wp2
  go_loopw [12] (fun iv wr => ∃ k : Nat, k ≤ n ∧ iv = .int .i64 k ∧ wr = w.alloc (.cells (boolRow (marks count (l.take k))) 4)) (fun iv _ => n - (intOf iv).toNat)
  case atStart => exact ⟨0, by omega, rfl, rfl⟩
  case round =>
    obtain ⟨k, hk, rfl, rfl⟩ := hrel
    by_cases hkn : k < n
    · have hkz : (k : Int) < (n : Int) := by omega
      obtain ⟨g, off, rfl, hg, hc1⟩ := HV.out.at (j := k) (by rw [HN.out]; exact hkn)
      have c1 : (w.alloc (.cells (boolRow (marks count (l.take k))) 4)).cell? ⟨g, off + k, none⟩ = some (.int .i64 (l.getD k 0)) := by
        rw [World.cell?_alloc_lt _ _ _ hg]; exact hc1
      have HT : Hid (l.take (k + 1) = l.take k ++ [l.getD k 0]) := Lib.hid (take_one (by rw [HN.out]; exact hkn))
      have HS := Lib.hid (marks_snoc count (l.take k) (l.getD k 0))
      clear hc1
      generalize l.getD k 0 = x at *
      by_cases hx0 : 0 ≤ x
      · by_cases hx1 : x < (count : Int)
        · obtain ⟨i, rfl⟩ : ∃ i : Nat, x = i := ⟨x.toNat, by omega⟩
          have hi : i < count := by omega
          have HM : Hid (boolRow (marks count (l.take (k + 1))) = (boolRow (marks count (l.take k))).setIfInBounds i (.bool true)) := Lib.hid (by rw [HT.out, HS.out, if_pos ⟨hx0, hx1⟩, boolRow_set]; rfl)
          obtain ⟨u, hu⟩ : ∃ u, (marks count (l.take k))[i]? = some u := ⟨_, marks_get count _ i hi⟩
          have c2 : (w.alloc (.cells (boolRow (marks count (l.take k))) 4)).cell? ⟨w.heap.size, i, none⟩ = some (.bool u) := by
            rw [cell_of_row _ _ _ _ _ _ (heap_alloc_new _ _)]; exact boolRow_get hu
          clear hu hi
          go_wp2
          go_roundw
          case rel => exact ⟨k + 1, by omega, by first | rfl | go_num, by rw [HM.out] <;> try simp⟩
          case measure => simp [intOf]; omega
        · have HM : Hid (marks count (l.take (k + 1)) = marks count (l.take k)) := Lib.hid (by rw [HT.out, HS.out, if_neg (by omega)])
          go_wp2
          go_roundw
          case rel => exact ⟨k + 1, by omega, by first | rfl | go_num, by rw [HM.out]⟩
          case measure => simp [intOf]; omega
      · have HM : Hid (marks count (l.take (k + 1)) = marks count (l.take k)) := Lib.hid (by rw [HT.out, HS.out, if_neg (by omega)])
        go_wp2
        go_roundw
        case rel => exact ⟨k + 1, by omega, by first | rfl | go_num, by rw [HM.out]⟩
        case measure => simp [intOf]; omega
    · have hge : ¬ ((k : Int) < (n : Int)) := by omega
      have HL : Hid (l.take k = l) := Lib.hid (List.take_of_length_le (by rw [HN.out]; omega))
      go_wp2
      go_ret
      exact ⟨rfl, by rw [HL.out]⟩
end Go.Proofs.Ytmpfdmjbgabcdaa
