/-
  The reference's numbers of so many bytes.
-/
import Derived.Test.YtddobjhahohhhaaGreatImMath
import Derived.Test.YtddobjhahohhhaaGreatQB
import Derived.Laws.MakeOwn
namespace Go.Proofs.YtddobjhahohhhaaGreat
open Go.RowKit Go.Sort
set_option linter.unusedVariables false
set_option linter.unusedSimpArgs false

theorem infoByteIm : (Tryz.prog.info? 5).map (fun i => (i.zero, i.size, i.bytes)) = some (some (.int .u8 0), 1, 1) := by kernel_rfl
set_option maxRecDepth 100000 in
theorem run_new_bytes (k : Nat) (hk : k ≤ 1000) (W : World) : (Instr.makeSlice 41 (.int .i64 k) (.int .i64 k)).run Tryz.prog W = .ok (.slice (some ⟨W.heap.size, 0, none⟩) k k) (W.alloc (.cells (Lib.byteCells (List.replicate k 0)).toArray 5)) := by
  obtain ⟨i0, hi0, hz0, hz1, hz2⟩ := info_parts infoByteIm
  have := run_make (P := Tryz.prog) W 41 5 i0 (.int .u8 0) Tryz.underlying41 hi0 hz0 .i64 .i64 k k (by omega) (by omega) (by rw [hz2]; omega) (by omega)
  rw [hz1, Int.toNat_natCast] at this
  refine this.trans ?_
  congr 3
  apply Array.ext_getElem?
  intro i
  simp [madeCells, Value.cells, Lib.byteCells]
  by_cases h : i < k
  · simp [h, Nat.mod_one]
  · simp [h]
/-- What stands when the last bytes were written. -/
def partB (n k j : Nat) : List UInt8 := List.replicate j 0 ++ beB n (k - j)
theorem partB_len (n k j : Nat) (h : j ≤ k) : (partB n k j).length = k := by
  unfold partB
  rw [List.length_append, List.length_replicate, beB_len]
  omega
theorem partB_set (n k j : Nat) (h : j < k) : (partB n k (j + 1)).set j (UInt8.ofNat (n / 256 ^ (k - (j + 1)))) = partB n k j := by
  unfold partB
  rw [List.replicate_succ', List.append_assoc, List.set_append_right _ _ (by simp), List.length_replicate, Nat.sub_self]
  have e : k - j = (k - (j + 1)) + 1 := by omega
  rw [e]
  rfl
theorem cells_set (l : List UInt8) (j : Nat) (x : UInt8) : (Lib.byteCells l).toArray.setIfInBounds j (.int .u8 x.toNat) = (Lib.byteCells (l.set j x)).toArray := by
  unfold Lib.byteCells
  apply Array.ext'
  rw [Array.toList_setIfInBounds, List.toList_toArray, List.toList_toArray, List.map_set]
def NumPost (n k : Nat) (w : World) (e : Ending) (w' : World) : Prop :=
  ∃ v, e = .returned v ∧ w'.ownsRow w.heap.size 5 1 v k (Lib.byteCells (beB n k)) ∧ Below w.heap.size w w'
set_option maxHeartbeats 4000000 in
set_option maxRecDepth 100000 in
theorem num12_c (n k : Nat) (w : World) (hn : n ≤ 9223372036854775807) (hk : k ≤ 8) (hk1 : 1 ≤ k) :
    Calls Tryz.prog 29 #[.int .i64 (n : Int), .int .i64 (k : Int)] w (NumPost n k w) := by
  unfold NumPost
  have hm := run_new_bytes k (by omega)
  have HW0 : Hid ((w.alloc (.cells (Lib.byteCells (partB n k k)).toArray 5)).heap[w.heap.size]? = some (.cells (Lib.byteCells (partB n k k)).toArray 5 (0, 0))) := Lib.hid (heap_alloc_new _ _)
  have HB0 : Hid (Below w.heap.size w (w.alloc (.cells (Lib.byteCells (partB n k k)).toArray 5))) := Lib.hid ((Below.refl _ _).alloc (Nat.le_refl _) _)
  have hp : partB n k k = List.replicate k 0 := by
    unfold partB
    rw [Nat.sub_self]
    simp [beB]
  rw [← hp] at hm
  clear hp
  go_enter Tryz.func29, Tryz.ntmps29
  go_wp2
  generalize (w.alloc (.cells (Lib.byteCells (partB n k k)).toArray 5)) = W0 at *
  obtain ⟨q, hq⟩ : ∃ q, w.heap.size = q := ⟨_, rfl⟩
  rw [hq] at HW0 HB0 ⊢
  have HQ := Lib.hid hq
  clear hm hq
  go_loopw [0, 6] (fun nv iv wr => ∃ (z : Int) (j : Nat) (m : Nat), iv = .int .i64 z ∧ z + 1 = j ∧ j ≤ k ∧ nv = .int .i64 m ∧ m = n / 256 ^ (k - j) ∧ wr.heap[q]? = some (.cells (Lib.byteCells (partB n k j)).toArray 5 (0, 0)) ∧ Below q w wr) (fun _ iv _ => (intOf iv + 1).toNat)
  case atStart => exact ⟨(k : Int) - 1, k, n, by first | rfl | go_num, by omega, Nat.le_refl _, rfl, by rw [Nat.sub_self]; simp, HW0.out, HB0.out⟩
  case round =>
    obtain ⟨z, j, m, rfl, hz, hj, rfl, hm, hw, hb⟩ := hrel
    have HW := Lib.hid hw
    have HB := Lib.hid hb
    have HM := Lib.hid hm
    have hmn : m ≤ 9223372036854775807 := by
      rw [hm]
      exact Nat.le_trans (Nat.div_le_self _ _) hn
    clear hw hb hm
    cases j with
    | zero =>
      obtain rfl : z = -1 := by omega
      clear hz
      go_wp2
      go_ret
      refine ⟨_, rfl, ⟨by simp [Lib.byteCells, beB_len], Or.inr ⟨q, k, _, rfl, Nat.le_of_eq HQ.out, HW.out, Nat.le_refl _, by unfold maxLen; omega, by simp [Lib.byteCells, partB_len], ?_⟩⟩, by rw [HQ.out]; exact HB.out⟩
      have e : partB n k 0 = beB n k := by unfold partB; simp
      rw [e, List.toList_toArray]
      exact List.take_of_length_le (by simp [Lib.byteCells, beB_len])
    | succ i =>
      obtain rfl : z = (i : Int) := by omega
      have hi0 : (0 : Int) ≤ (i : Int) := by omega
      have hik : (i : Int) < (k : Int) := by omega
      have hc : wr.cell? ⟨q, i, none⟩ ≠ none := by
        rw [Lib.cell_of_heap HW.out]
        have hl : i < (Lib.byteCells (partB n k (i + 1))).length := by simp [Lib.byteCells, partB_len _ _ _ hj]; omega
        rw [List.getElem?_toArray, List.getElem?_eq_getElem hl]
        simp
      obtain ⟨cv, hcv⟩ := Option.ne_none_iff_exists'.1 hc
      have hf := Lib.frozen_of_heap HW.out i
      have hx : ((m : Int) % 256) = ((UInt8.ofNat m).toNat : Int) := by rw [u8_of]; omega
      have hx2 : ((m : Int) % 256 % 256) = ((UInt8.ofNat m).toNat : Int) := by rw [u8_of]; omega
      have hmod : (m : Int).tmod 256 = (m : Int) % 256 := Int.tmod_eq_emod_of_nonneg (by omega)
      have hdiv : (m : Int).tdiv 256 = ((m / 256 : Nat) : Int) := by rw [Int.tdiv_eq_ediv_of_nonneg (by omega)]; omega
      have HW2 : Hid ((wr.setCell ⟨q, i, none⟩ (.int .u8 ((UInt8.ofNat m).toNat : Int))).heap[q]? = some (.cells (Lib.byteCells (partB n k i)).toArray 5 (0, 0))) := Lib.hid (by
        rw [heap_setCell_same _ q i _ _ _ HW.out, cells_set, HM.out, partB_set n k i (by omega)])
      have HB2 : Hid (Below q w (wr.setCell ⟨q, i, none⟩ (.int .u8 ((UInt8.ofNat m).toNat : Int)))) := Lib.hid (HB.out.setCell (p := ⟨q, i, none⟩) (Nat.le_refl _) _)
      have HM2 : Hid (m / 256 = n / 256 ^ (k - i)) := Lib.hid (by
        rw [HM.out, Nat.div_div_eq_div_mul, ← Nat.pow_succ]
        congr 2
        omega)
      rw [← hx] at HW2 HB2
      clear hc hx hx2 hz
      go_wp2
      go_roundw
      case rel => exact ⟨(i : Int) - 1, i, m / 256, by first | rfl | go_num, by omega, by omega, by first | rfl | (congr 1), HM2.out, HW2.out, HB2.out⟩
      case measure => simp [intOf] <;> omega
end Go.Proofs.YtddobjhahohhhaaGreat
