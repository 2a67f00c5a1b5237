/-
  The contracts of Right and Next: whether there is such an encoding; the piece at a place.
-/
import Derived.Test.YtnnpkognnbolcaaDoorCsRead
namespace Go.Proofs.YtnnpkognnbolcaaDoor
open Go.RowKit
set_option linter.unusedVariables false

theorem right_c (enc : Int) (w : World) : Calls Tryd.prog 12 #[.int .i64 enc] w fun e w' => e = .returned (.bool (decide (0 ≤ enc ∧ enc ≤ 8))) ∧ w = w' := by
  by_cases h0 : 0 ≤ enc
  · by_cases h8 : enc ≤ 8
    · rw [decide_eq_true ⟨h0, h8⟩]
      go_enter Tryd.func12, Tryd.ntmps12
      go_wp2
      go_ret
      exact ⟨rfl, rfl⟩
    · rw [decide_eq_false (fun h => h8 h.2)]
      go_enter Tryd.func12, Tryd.ntmps12
      go_wp2
      go_ret
      exact ⟨rfl, rfl⟩
  · rw [decide_eq_false (fun h => h0 h.1)]
    go_enter Tryd.func12, Tryd.ntmps12
    go_wp2
    go_ret
    exact ⟨rfl, rfl⟩

/-- The piece at a place of bytes, zero where there is none. -/
def pieceZ (enc : Int) (b : ByteArray) (k : Int) : Int × Int :=
  if 0 ≤ enc ∧ enc ≤ 8 ∧ 0 ≤ k ∧ k < b.size then ((pieceL enc (b.data.toList.drop k.toNat)).1, ((pieceL enc (b.data.toList.drop k.toNat)).2 : Int)) else (0, 0)
theorem pieceZ_in {enc : Int} {b : ByteArray} {k : Nat} (h0 : 0 ≤ enc) (h8 : enc ≤ 8) (hk : k < b.size) : pieceZ enc b k = ((pieceL enc (b.data.toList.drop k)).1, ((pieceL enc (b.data.toList.drop k)).2 : Int)) := by
  unfold pieceZ
  rw [if_pos ⟨h0, h8, by omega, by omega⟩, show ((k : Int)).toNat = k by omega]
theorem pieceZ_out {enc : Int} {b : ByteArray} {k : Int} (h : ¬ (0 ≤ enc ∧ enc ≤ 8 ∧ 0 ≤ k ∧ k < b.size)) : pieceZ enc b k = (0, 0) := by
  unfold pieceZ
  rw [if_neg h]
theorem ext_drop (b : ByteArray) (k : Nat) : (b.extract k b.size).data.toList = b.data.toList.drop k := by
  rw [ByteArray.data_extract, Array.toList_extract]
  simp only [List.extract_eq_take_drop]
  rw [List.take_of_length_le (by simp)]

def pieceV (p : Int × Int) : Value := .agg #[.int .i32 p.1, .int .i64 p.2]

set_option maxHeartbeats 1000000 in
theorem next2_c (enc : Int) (b : ByteArray) (k : Int) (hlo : -9223372036854775808 ≤ k) (hhi : k ≤ 9223372036854775807) (hs : b.size ≤ 9223372036854775807) (w : World) (hT : Tabs w) :
    Calls Tryd.prog 11 #[.int .i64 enc, .string b, .int .i64 k] w fun e w' => e = .returned (pieceV (pieceZ enc b k)) ∧ Below w.heap.size w w' := by
  have cR := right_c enc
  by_cases he : 0 ≤ enc ∧ enc ≤ 8
  · rw [decide_eq_true he] at cR
    by_cases h0 : k < 0
    · have HX := Lib.hid (show pieceZ enc b k = (0, 0) from pieceZ_out (by omega))
      clear hT
      go_enter Tryd.func11, Tryd.ntmps11
      go_wp2_with (go_at_call 12; refine (cR _).mono ?_; rintro e w' ⟨rfl, rfl⟩)
      refine bodyPost_ret (results_cell_row Tryd.results11 _ _ _ _ _ _ _ rfl (heap_alloc_new _ _) Tryd.underlying28 rfl (by kernel_rfl)) rfl ⟨by rw [HX.out]; rfl, (Below.refl _ _).alloc (Nat.le_refl _) _⟩
    · by_cases h1 : (b.size : Int) ≤ k
      · have HX := Lib.hid (show pieceZ enc b k = (0, 0) from pieceZ_out (by omega))
        clear hT
        go_enter Tryd.func11, Tryd.ntmps11
        go_wp2_with (go_at_call 12; refine (cR _).mono ?_; rintro e w' ⟨rfl, rfl⟩)
        refine bodyPost_ret (results_cell_row Tryd.results11 _ _ _ _ _ _ _ rfl (heap_alloc_new _ _) Tryd.underlying28 rfl (by kernel_rfl)) rfl ⟨by rw [HX.out]; rfl, (Below.refl _ _).alloc (Nat.le_refl _) _⟩
      · obtain ⟨n, rfl⟩ : ∃ n : Nat, k = (n : Int) := ⟨k.toNat, by omega⟩
        have hn : n < b.size := by omega
        have hne : b.data.toList.drop n ≠ [] := by
          intro h
          have := congrArg List.length h
          have hz : b.data.toList.length = b.size := by simp
          rw [List.length_drop, List.length_nil] at this
          omega
        have hp := piece_read (enc := enc) he.1 hne
        have hx := pieceZ_in (b := b) he.1 he.2 hn
        have cD := fun w hT => read_c enc he.1 he.2 (b.extract n b.size) (by rw [ByteArray.size_extract]; omega) (by rw [ByteArray.size_extract]; omega) w hT
        simp only [ext_drop] at cD
        have hT1 : ∀ o, Tabs (w.alloc o) := fun o => hT.step ((Below.refl _ _).alloc (Nat.le_refl _) _)
        generalize readL enc (b.data.toList.drop n) = d at *
        obtain ⟨R, K⟩ := d
        have hsz0 : ∀ o, (w.alloc o).heap.size = w.heap.size + 1 := fun o => by simp
        by_cases hK : K = 0
        · subst hK
          have HX := Lib.hid (show pieceZ enc b n = (-1, 1) by
            rcases hp with ⟨_, h⟩ | ⟨h, _⟩
            · rw [hx, h]
            · exact absurd rfl h)
          clear hp hx hne hT
          go_enter Tryd.func11, Tryd.ntmps11
          go_wp2_with (first | (go_at_call 12; refine (cR _).mono ?_; rintro e w' ⟨rfl, rfl⟩))
          refine (cD _ (hT1 _)).mono ?_
          rintro e w1 ⟨rfl, hb1'⟩
          have hb1 : Below (w.heap.size + 1) (w.alloc (Obj.cells #[Value.int IntKind.i32 0, Value.int IntKind.i64 0] 28)) w1 := by first | exact hb1' | simpa using hb1'
          clear hb1'
          have hlt : w.heap.size < w1.heap.size := by have := hb1.size; simp at this; omega
          have hB : Below w.heap.size w w1 := ((Below.refl _ w).alloc (Nat.le_refl _) _).trans (hb1.mono (by omega))
          have q0 : w1.cell? ⟨w.heap.size, 0, none⟩ = some (.int .i32 0) := (hb1.cell (p := ⟨w.heap.size, 0, none⟩) (by simp)).trans (by simp)
          have q1 : w1.cell? ⟨w.heap.size, 1, none⟩ = some (.int .i64 0) := (hb1.cell (p := ⟨w.heap.size, 1, none⟩) (by simp)).trans (by simp)
          have z0 : w1.frozen? ⟨w.heap.size, 0, none⟩ = false := (hb1.frozen (p := ⟨w.heap.size, 0, none⟩) (by simp)).trans (by simp)
          have z1 : w1.frozen? ⟨w.heap.size, 1, none⟩ = false := (hb1.frozen (p := ⟨w.heap.size, 1, none⟩) (by simp)).trans (by simp)
          clear hb1
          go_wp2
          refine bodyPost_ret (v := .agg #[.int .i32 (-1), .int .i64 1]) (by simp [results, Tryd.results11, go_sem, q0, q1]) rfl ⟨by rw [HX.out]; rfl, (hB.setCell (Nat.le_refl _) _).setCell (Nat.le_refl _) _⟩
        · have HX := Lib.hid (show pieceZ enc b n = (R, K) by
            rcases hp with ⟨h, _⟩ | ⟨_, h⟩
            · exact absurd h hK
            · rw [hx, h])
          have hK' : (K == 0) = false := by rw [beq_eq_false_iff_ne]; exact hK
          clear hp hx hne hT hK
          go_enter Tryd.func11, Tryd.ntmps11
          go_wp2_with (first | (go_at_call 12; refine (cR _).mono ?_; rintro e w' ⟨rfl, rfl⟩))
          refine (cD _ (hT1 _)).mono ?_
          rintro e w1 ⟨rfl, hb1'⟩
          have hb1 : Below (w.heap.size + 1) (w.alloc (Obj.cells #[Value.int IntKind.i32 0, Value.int IntKind.i64 0] 28)) w1 := by first | exact hb1' | simpa using hb1'
          clear hb1'
          have hlt : w.heap.size < w1.heap.size := by have := hb1.size; simp at this; omega
          have hB : Below w.heap.size w w1 := ((Below.refl _ w).alloc (Nat.le_refl _) _).trans (hb1.mono (by omega))
          have q0 : w1.cell? ⟨w.heap.size, 0, none⟩ = some (.int .i32 0) := (hb1.cell (p := ⟨w.heap.size, 0, none⟩) (by simp)).trans (by simp)
          have q1 : w1.cell? ⟨w.heap.size, 1, none⟩ = some (.int .i64 0) := (hb1.cell (p := ⟨w.heap.size, 1, none⟩) (by simp)).trans (by simp)
          have z0 : w1.frozen? ⟨w.heap.size, 0, none⟩ = false := (hb1.frozen (p := ⟨w.heap.size, 0, none⟩) (by simp)).trans (by simp)
          have z1 : w1.frozen? ⟨w.heap.size, 1, none⟩ = false := (hb1.frozen (p := ⟨w.heap.size, 1, none⟩) (by simp)).trans (by simp)
          clear hb1
          go_wp2
          refine bodyPost_ret (v := .agg #[.int .i32 R, .int .i64 K]) (by simp [results, Tryd.results11, go_sem, q0, q1]) rfl ⟨by rw [HX.out]; rfl, (hB.setCell (Nat.le_refl _) _).setCell (Nat.le_refl _) _⟩
  · rw [decide_eq_false he] at cR
    have HX := Lib.hid (show pieceZ enc b k = (0, 0) from pieceZ_out (by omega))
    clear hT
    go_enter Tryd.func11, Tryd.ntmps11
    go_wp2_with (go_at_call 12; refine (cR _).mono ?_; rintro e w' ⟨rfl, rfl⟩)
    refine bodyPost_ret (results_cell_row Tryd.results11 _ _ _ _ _ _ _ rfl (heap_alloc_new _ _) Tryd.underlying28 rfl (by kernel_rfl)) rfl ⟨by rw [HX.out]; rfl, (Below.refl _ _).alloc (Nat.le_refl _) _⟩
end Go.Proofs.YtnnpkognnbolcaaDoor
