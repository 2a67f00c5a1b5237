/-
  A bank (stage 7): the bytes of frames, one behind the other.
-/
import Derived.Test.YtmpfdmjbgabcdaaBkFrames
namespace Go.Proofs.Ytmpfdmjbgabcdaa
open Go.RowKit Go.Sort
set_option linter.unusedVariables false

theorem strCells_eqB (s : ByteArray) : Lib.strCells s = Lib.byteCells s.data.toList := by
  unfold Lib.strCells Lib.byteCells
  simp
theorem byteCells_appB (a b : List UInt8) : Lib.byteCells (a ++ b) = Lib.byteCells a ++ Lib.byteCells b := by
  unfold Lib.byteCells
  simp
theorem byteCells_lenB (a : List UInt8) : (Lib.byteCells a).length = a.length := by
  unfold Lib.byteCells
  simp
theorem extract_two {y : ByteArray} (h : y.size = 64) : (y.extract 2 64).data.toList = y.data.toList.drop 2 := by
  rw [ByteArray.data_extract, Array.toList_extract]
  show (y.data.toList.drop 2).take (64 - 2) = _
  rw [List.take_of_length_le (by
    rw [List.length_drop, Array.length_toList]
    show y.size - 2 ≤ _
    omega)]
set_option maxHeartbeats 4000000 in
set_option maxRecDepth 100000 in
theorem joined_c (v : Value) (l : List ByteArray) (w : World) (hv : StrsIs w v l) (hl : ∀ x ∈ l, x.size = 64) (hn : l.length ≤ 2000) :
    Calls Try.prog 78 #[v] w fun e w' => e = .returned (.string ⟨(gatherB (bytesL l)).toArray⟩) ∧ Below w.heap.size w w' := by
  obtain ⟨a1, c1, rfl⟩ := hv.len
  obtain ⟨n, hN⟩ : ∃ n, l.length = n := ⟨_, rfl⟩
  obtain ⟨G, hG⟩ : ∃ G, gatherB (bytesL l) = G := ⟨_, rfl⟩
  rw [hG]
  have HG := Lib.hid hG
  have HU := Lib.hid hv
  have HN := Lib.hid hN
  have HL := Lib.hid hl
  rw [hN] at hv hn ⊢
  clear hv hl hN hG
  go_enter Try.func78, Try.ntmps78
  go_wp2
  go_loopw [8] (fun iv wr => ∃ i : Nat, i ≤ n ∧ iv = .int .i64 i ∧ IsBld 121 [] w.heap.size w.heap.size (Lib.byteCells (gatherB (bytesL (l.take i)))) wr ∧ Below w.heap.size w wr) (fun iv _ => n - (intOf iv).toNat)
  case atStart => exact ⟨0, by omega, rfl, bld_fresh w, (Below.refl _ _).alloc (Nat.le_refl _) _⟩
  case round =>
    obtain ⟨i, hi, rfl, hbu, hbel⟩ := hrel
    have HB := Lib.hid hbu
    have HBW := Lib.hid hbel
    clear hbu
    by_cases hin : i < n
    · have hiz : (i : Int) < (n : Int) := by omega
      obtain ⟨y, hy⟩ : ∃ y, l[i]? = some y := ⟨_, List.getElem?_eq_getElem (by rw [HN.out]; exact hin)⟩
      have hu9 := HU.out.kept hbel
      rw [HN.out] at hu9
      obtain ⟨g2, o2, rfl, _, k2⟩ := hu9.at hy
      have hys : y.size = 64 := HL.out y (List.mem_of_getElem? hy)
      have h2y : (2 : Int) ≤ (y.size : Int) := by omega
      have HM : Hid (Lib.byteCells (gatherB (bytesL (l.take i))) ++ Lib.strCells (y.extract 2 64) = Lib.byteCells (gatherB (bytesL (l.take (i + 1))))) := Lib.hid (by
        rw [strCells_eqB, extract_two hys, ← byteCells_appB, gather_take_succ hy])
      have HS : Hid (∀ W, IsBld 121 [] w.heap.size w.heap.size (Lib.byteCells (gatherB (bytesL (l.take i)))) W → Below w.heap.size w W → Calls Try.prog 83 #[.pointer (some ⟨w.heap.size, 0, none⟩), .string (y.extract 2 64)] W fun e w' => e = .returned (.tuple #[.int .i64 (y.extract 2 64).size, .nilIface]) ∧ IsBld 121 [] w.heap.size w.heap.size (Lib.byteCells (gatherB (bytesL (l.take (i + 1))))) w' ∧ Below w.heap.size w w') := Lib.hid (fun W hW hWb => by
        refine (wstr_c hasBuilder w.heap.size w.heap.size _ (y.extract 2 64) W hW ?_ hWb.size).mono ?_
        · rw [byteCells_lenB, gatherB_length (fun f hf => bytesL_all HL.out f (by
            obtain ⟨x, hx, rfl⟩ := List.mem_map.1 hf
            exact List.mem_map.2 ⟨x, List.mem_of_mem_take hx, rfl⟩))]
          have h1 : (y.extract 2 64).size = (y.data.toList.drop 2).length := by rw [← extract_two hys, Array.length_toList]; rfl
          have h4 : y.data.toList.length = 64 := by rw [Array.length_toList]; exact hys
          rw [h1, List.length_drop, h4]
          have h2 : (bytesL (l.take i)).length ≤ i := by unfold bytesL; rw [List.length_map]; exact List.length_take_le _ _
          omega
        · rintro e w' ⟨rfl, hb1, hb2, _⟩
          rw [HM.out] at hb1
          exact ⟨rfl, Or.inr hb1, hWb.trans hb2⟩)
      have HYS := Lib.hid hys
      have HE : Hid (y.extract 2 y.size = y.extract 2 64) := Lib.hid (by rw [hys])
      clear hy hu9 hbel
      go_wp2_with fail
      try rw [hys]
      refine (HS.out _ HB.out HBW.out).mono ?_
      rintro e w2 ⟨rfl, hb2, hbel2⟩
      have HB2 := Lib.hid hb2
      have HBW2 := Lib.hid hbel2
      clear hb2 hbel2
      go_wp2
      go_roundw
      case rel => exact ⟨i + 1, by omega, by first | rfl | go_num, HB2.out, HBW2.out⟩
      case measure => simp [intOf]; omega
    · have hiz : ¬ ((i : Int) < (n : Int)) := by omega
      have HBE : Hid (IsBld 121 [] w.heap.size w.heap.size (Lib.byteCells G) wr) := Lib.hid (by
        have h1 := HB.out
        rw [List.take_of_length_le (by rw [HN.out]; omega), HG.out] at h1
        exact h1)
      clear hbel
      go_wp2_with fail
      refine (str_c w.heap.size w.heap.size G wr HBE.out HBW.out.size).mono ?_
      rintro e w2 ⟨rfl, hb2⟩
      have HBW2 : Hid (Below w.heap.size w w2) := Lib.hid (HBW.out.trans hb2)
      clear hb2
      go_wp2
      go_ret
      exact ⟨rfl, HBW2.out⟩
end Go.Proofs.Ytmpfdmjbgabcdaa
