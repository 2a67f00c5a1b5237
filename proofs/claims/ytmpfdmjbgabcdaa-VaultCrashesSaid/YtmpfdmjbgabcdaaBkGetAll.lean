/-
  A bank (stage 7): frames are read.
-/
import Derived.Test.YtmpfdmjbgabcdaaBkJoined
namespace Go.Proofs.Ytmpfdmjbgabcdaa
open Go.RowKit Go.Sort
set_option linter.unusedVariables false

theorem ask_ok {st : St} {k : Nat} (hgo : goneB st = false) (hk : k < st.now.length) : askI st.now.length st.lim st.left k = 0 := by
  unfold goneB at hgo
  unfold askI
  rw [hgo, if_neg (by simp), if_neg (by omega)]
def strRow (M : List ByteArray) : Array Value := (M.map Value.string).toArray
theorem strRow_set (M : List ByteArray) (i : Nat) (x : ByteArray) : (strRow M).setIfInBounds i (.string x) = strRow (M.set i x) := by
  unfold strRow
  apply Array.ext'
  rw [Array.toList_setIfInBounds, List.toList_toArray, List.toList_toArray, List.map_set]
theorem strRow_get {M : List ByteArray} {i : Nat} {x : ByteArray} (h : M[i]? = some x) : (strRow M)[i]? = some (.string x) := by
  unfold strRow
  rw [List.getElem?_toArray, List.getElem?_map, h]
  rfl
set_option maxRecDepth 100000 in
theorem run_new_strs (n : Nat) (hn : n ≤ 1000000) (W : World) : (Instr.makeSlice 39 (.int .i64 n) (.int .i64 n)).run Try.prog W = .ok (.slice (some ⟨W.heap.size, 0, none⟩) n n) (W.alloc (.cells (strRow (List.replicate n ⟨#[]⟩)) 9)) := by
  obtain ⟨i0, hi0, hz0, hz1, hz2⟩ := info_parts Try.infoStr7
  have := run_make (P := Try.prog) W 39 9 i0 (.string ⟨#[]⟩) Try.underlying39 hi0 hz0 .i64 .i64 n n (by omega) (by omega) (by rw [hz2]; omega) (by omega)
  rw [hz1, Int.toNat_natCast] at this
  refine this.trans ?_
  congr 3
  unfold strRow
  apply Array.ext_getElem?
  intro i
  simp [madeCells, Value.cells]
  by_cases h : i < n
  · simp [h, Nat.mod_one]
  · simp [h]
theorem set_fill {α : Type} {L : List α} {i K : Nat} {x z : α} (hx : L[i]? = some x) (hi : i < K) : (L.take i ++ List.replicate (K - i) z).set i x = L.take (i + 1) ++ List.replicate (K - (i + 1)) z := by
  have hl : (L.take i).length = i := by
    rw [List.length_take]
    have := (List.getElem?_eq_some_iff.1 hx).1
    omega
  rw [List.set_append, if_neg (by omega), hl, Nat.sub_self, show K - i = (K - (i + 1)) + 1 by omega, List.replicate_succ, List.set_cons_zero, List.take_add_one, hx]
  simp
set_option maxHeartbeats 4000000 in
set_option maxRecDepth 100000 in
theorem getAll_c (B b : Nat) (st : St) (F A K : Nat) (sz : Int) (w : World) (h : Dev B w b st) (hg : Good st) (hgo : goneB st = false) (hK : F + A + K ≤ st.now.length) :
    Calls Try.prog 77 #[.agg #[.pointer (some ⟨b, 0, none⟩), .int .i64 F, .int .i64 sz], .int .i64 A, .int .i64 K] w fun e w' => ∃ v, e = .returned (.tuple #[v, .int .i64 0]) ∧ StrsIs w' v ((st.now.drop (F + A)).take K) ∧ Below w.heap.size w w' := by
  have hf := hg.few
  obtain ⟨L, hL⟩ : ∃ L, (st.now.drop (F + A)).take K = L := ⟨_, rfl⟩
  rw [hL]
  have HLL : Hid (L.length = K) := Lib.hid (by rw [← hL, List.length_take, List.length_drop]; omega)
  have hget : ∀ i x, L[i]? = some x → i < K ∧ st.now.getD (F + (A + i)) ⟨#[]⟩ = x := fun i x hx => by
    have hi : i < K := by have := (List.getElem?_eq_some_iff.1 hx).1; have := HLL.out; omega
    rw [← hL, List.getElem?_take, if_pos hi, List.getElem?_drop] at hx
    refine ⟨hi, ?_⟩
    rw [List.getD_eq_getElem?_getD, show F + (A + i) = F + A + i by omega, hx]
    rfl
  have cG : Hid (∀ (i : Nat) (x : ByteArray), L[i]? = some x → ∀ W, Below w.heap.size w W → Calls Try.prog 73 #[.agg #[.pointer (some ⟨b, 0, none⟩), .int .i64 F, .int .i64 sz], .int .i64 ((A : Int) + (i : Int))] W fun e w' => e = .returned (.tuple #[.string x, .int .i64 0]) ∧ Below W.heap.size W w') := Lib.hid (fun i x hx W hW => by
    obtain ⟨hi, hx2⟩ := hget i x hx
    have h1 := bget_c B b st F sz ((A : Int) + (i : Int)) ((F + (A + i) : Nat) : Int) W (h.below hW) hg (by omega) (by omega)
    rw [ask_ok hgo (by omega), if_pos rfl, Int.toNat_natCast, hx2] at h1
    exact h1)
  have hm := run_new_strs K (by omega)
  have hAK : A + K ≤ 4096 := by omega
  clear h hg hgo hK hf hL hget
  go_enter Try.func77, Try.ntmps77
  go_wp2
  obtain ⟨W0, hW0⟩ : ∃ W0, w.alloc (.cells #[.pointer (some ⟨b, 0, none⟩), .int .i64 F, .int .i64 sz] 105) = W0 := ⟨_, rfl⟩
  have HB0 : Hid (Below w.heap.size w W0) := Lib.hid (by rw [← hW0]; exact (Below.refl _ _).alloc (Nat.le_refl _) _)
  have HS0 : Hid (W0.heap.size = w.heap.size + 1) := Lib.hid (by rw [← hW0]; simp)
  have HC0 : Hid (W0.heap[w.heap.size]? = some (.cells #[.pointer (some ⟨b, 0, none⟩), .int .i64 F, .int .i64 sz] 105 (0, 0))) := Lib.hid (by rw [← hW0]; exact heap_alloc_new _ _)
  have hgS : w.heap.size + 1 = W0.heap.size := HS0.out.symm
  try rw [hW0]
  try rw [hgS]
  clear hW0 hm
  go_loopw [16] (fun iv wr => ∃ i : Nat, i ≤ K ∧ iv = .int .i64 i ∧ wr.heap[W0.heap.size]? = some (.cells (strRow (L.take i ++ List.replicate (K - i) ⟨#[]⟩)) 9 (0, 0)) ∧ Below W0.heap.size W0 wr) (fun iv _ => K - (intOf iv).toNat)
  case atStart => exact ⟨0, by omega, rfl, heap_alloc_new _ _, (Below.refl _ _).alloc (Nat.le_refl _) _⟩
  case round =>
    obtain ⟨i, hi, rfl, hrow, hbel⟩ := hrel
    have HR := Lib.hid hrow
    have HB := Lib.hid hbel
    have HBW : Hid (Below w.heap.size w wr) := Lib.hid (HB0.out.trans (hbel.mono (by rw [HS0.out]; omega)))
    by_cases hiK : i < K
    · have hiz : (i : Int) < (K : Int) := by omega
      obtain ⟨x, hx⟩ : ∃ x, L[i]? = some x := ⟨_, List.getElem?_eq_getElem (by rw [HLL.out]; exact hiK)⟩
      have hbox : wr.heap[w.heap.size]? = some (.cells #[.pointer (some ⟨b, 0, none⟩), .int .i64 F, .int .i64 sz] 105 (0, 0)) := by
        rw [hbel.block _ (by rw [HS0.out]; omega)]; exact HC0.out
      have k0 : wr.cell? ⟨w.heap.size, 0, none⟩ = some (.pointer (some ⟨b, 0, none⟩)) := by rw [cell_of_row _ _ _ _ _ _ hbox]; rfl
      have k1 : wr.cell? ⟨w.heap.size, 1, none⟩ = some (.int .i64 F) := by rw [cell_of_row _ _ _ _ _ _ hbox]; rfl
      have k2 : wr.cell? ⟨w.heap.size, 2, none⟩ = some (.int .i64 sz) := by rw [cell_of_row _ _ _ _ _ _ hbox]; rfl
      have hAi : IntKind.i64.wrap ((A : Int) + (i : Int)) = (A : Int) + (i : Int) := by rw [IntKind.wrap_i64]; omega
      have HX := Lib.hid hx
      clear hx hbox hbel hrow
      go_wp2_with fail
      refine (cG.out i x HX.out _ HBW.out).mono ?_
      rintro e w2 ⟨rfl, hb2⟩
      have hrow2 : w2.heap[W0.heap.size]? = some (.cells (strRow (L.take i ++ List.replicate (K - i) ⟨#[]⟩)) 9 (0, 0)) := by rw [hb2.block _ (lt_of_get HR.out)]; exact HR.out
      have HR2 := Lib.hid hrow2
      have HB2 : Hid (Below W0.heap.size W0 w2) := Lib.hid (HB.out.trans (hb2.mono HB.out.size))
      have hfz : w2.frozen? ⟨W0.heap.size, i, none⟩ = false := frozen_of_row _ _ _ _ _ hrow2
      obtain ⟨y, hcy⟩ : ∃ y, w2.cell? ⟨W0.heap.size, i, none⟩ = some (.string y) := by
        rw [cell_of_row _ _ _ _ _ _ hrow2]
        obtain ⟨y, hy⟩ : ∃ y, (L.take i ++ List.replicate (K - i) (⟨#[]⟩ : ByteArray))[i]? = some y := ⟨_, List.getElem?_eq_getElem (by rw [List.length_append, List.length_take, List.length_replicate, HLL.out]; omega)⟩
        exact ⟨y, strRow_get hy⟩
      have HR3 : Hid ((w2.setCell ⟨W0.heap.size, i, none⟩ (.string x)).heap[W0.heap.size]? = some (.cells (strRow (L.take (i + 1) ++ List.replicate (K - (i + 1)) ⟨#[]⟩)) 9 (0, 0))) := Lib.hid (by
        rw [heap_setCell_same w2 _ i _ _ _ hrow2, strRow_set, set_fill HX.out hiK])
      have HB3 : Hid (Below W0.heap.size W0 (w2.setCell ⟨W0.heap.size, i, none⟩ (.string x))) := Lib.hid (HB2.out.setCell (p := ⟨W0.heap.size, i, none⟩) (Nat.le_refl _) _)
      clear hb2 hrow2 k0 k1 k2
      go_wp2
      go_roundw
      case rel => exact ⟨i + 1, by omega, by first | rfl | go_num, HR3.out, HB3.out⟩
      case measure => simp [intOf]; omega
    · have hiz : ¬ ((i : Int) < (K : Int)) := by omega
      have HE : Hid (StrsIs wr (.slice (some ⟨W0.heap.size, 0, none⟩) K K) L) := Lib.hid (Or.inr ⟨W0.heap.size, 0, K, lt_of_get hrow, by rw [HLL.out], fun j s hj => by
        rw [Nat.zero_add, cell_of_row _ _ _ _ _ _ hrow]
        refine strRow_get ?_
        have hjl := (List.getElem?_eq_some_iff.1 hj).1
        have h9 := HLL.out
        rw [List.take_of_length_le (by omega), List.getElem?_append_left hjl]
        exact hj⟩)
      clear hrow hbel
      go_wp2
      go_ret2
      exact ⟨_, rfl, HE.out, HBW.out⟩
end Go.Proofs.Ytmpfdmjbgabcdaa
