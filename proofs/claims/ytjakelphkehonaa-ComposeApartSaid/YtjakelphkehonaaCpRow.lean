/-
  The contract of compose's rowOf: a mark's two texts; what lay in memory stays.
-/
import Derived.Test.YtjakelphkehonaaProg
import Derived.Test.YtjakelphkehonaaApartMath
import Derived.WalkKit
import Derived.WalkSpells
import Derived.IntWalk
import Derived.Lib.Hide
import Derived.Laws.Rows
import Derived.Laws.NewBlocks
import Derived.Below
import Derived.KernelRfl
namespace Go.Proofs.Ytjakelphkehonaa
open Go.RowKit
set_option linter.unusedVariables false

def rowIx (b : Int) : Option Nat := (List.range 13).find? (fun n => decide (markN n = b))
def rowLs (b : Int) : List Int := match rowIx b with | some n => lettersN n | none => []
def rowMs (b : Int) : List Int := match rowIx b with | some n => madeN n | none => []
def rowV (b : Int) : Value := .agg #[.string (txt (rowLs b)), .string (txt (rowMs b))]
def RowPost (x y : ByteArray) (w : World) (e : Ending) (w' : World) : Prop := e = .returned (.agg #[.string x, .string y]) ∧ Below w.heap.size w w'

set_option maxHeartbeats 1000000 in
set_option maxRecDepth 100000 in
theorem row_0 (w : World) : Calls Try.prog 27 #[.int .i32 768] w (RowPost ⟨#[65, 69, 73, 79, 85, 97, 101, 105, 111, 117]⟩ ⟨#[195, 128, 195, 136, 195, 140, 195, 146, 195, 153, 195, 160, 195, 168, 195, 172, 195, 178, 195, 185]⟩ w) := by
  go_enter Try.func27, Try.ntmps27
  go_wp2
  refine bodyPost_ret (results_cell_row Try.results27 _ _ _ _ _ _ _ rfl (heap_alloc_new _ _) Try.underlying40 rfl (by kernel_rfl)) rfl ⟨rfl, (Below.refl _ _).alloc (Nat.le_refl _) _⟩

set_option maxHeartbeats 1000000 in
set_option maxRecDepth 100000 in
theorem row_1 (w : World) : Calls Try.prog 27 #[.int .i32 769] w (RowPost ⟨#[65, 69, 73, 79, 85, 89, 97, 101, 105, 111, 117, 121, 67, 99, 76, 108, 78, 110, 82, 114, 83, 115, 90, 122]⟩ ⟨#[195, 129, 195, 137, 195, 141, 195, 147, 195, 154, 195, 157, 195, 161, 195, 169, 195, 173, 195, 179, 195, 186, 195, 189, 196, 134, 196, 135, 196, 185, 196, 186, 197, 131, 197, 132, 197, 148, 197, 149, 197, 154, 197, 155, 197, 185, 197, 186]⟩ w) := by
  go_enter Try.func27, Try.ntmps27
  go_wp2
  refine bodyPost_ret (results_cell_row Try.results27 _ _ _ _ _ _ _ rfl (heap_alloc_new _ _) Try.underlying40 rfl (by kernel_rfl)) rfl ⟨rfl, (Below.refl _ _).alloc (Nat.le_refl _) _⟩

set_option maxHeartbeats 1000000 in
set_option maxRecDepth 100000 in
theorem row_2 (w : World) : Calls Try.prog 27 #[.int .i32 770] w (RowPost ⟨#[65, 69, 73, 79, 85, 97, 101, 105, 111, 117, 67, 99, 71, 103, 72, 104, 74, 106, 83, 115, 87, 119, 89, 121]⟩ ⟨#[195, 130, 195, 138, 195, 142, 195, 148, 195, 155, 195, 162, 195, 170, 195, 174, 195, 180, 195, 187, 196, 136, 196, 137, 196, 156, 196, 157, 196, 164, 196, 165, 196, 180, 196, 181, 197, 156, 197, 157, 197, 180, 197, 181, 197, 182, 197, 183]⟩ w) := by
  go_enter Try.func27, Try.ntmps27
  go_wp2
  refine bodyPost_ret (results_cell_row Try.results27 _ _ _ _ _ _ _ rfl (heap_alloc_new _ _) Try.underlying40 rfl (by kernel_rfl)) rfl ⟨rfl, (Below.refl _ _).alloc (Nat.le_refl _) _⟩

set_option maxHeartbeats 1000000 in
set_option maxRecDepth 100000 in
theorem row_3 (w : World) : Calls Try.prog 27 #[.int .i32 771] w (RowPost ⟨#[65, 78, 79, 97, 110, 111, 73, 105, 85, 117]⟩ ⟨#[195, 131, 195, 145, 195, 149, 195, 163, 195, 177, 195, 181, 196, 168, 196, 169, 197, 168, 197, 169]⟩ w) := by
  go_enter Try.func27, Try.ntmps27
  go_wp2
  refine bodyPost_ret (results_cell_row Try.results27 _ _ _ _ _ _ _ rfl (heap_alloc_new _ _) Try.underlying40 rfl (by kernel_rfl)) rfl ⟨rfl, (Below.refl _ _).alloc (Nat.le_refl _) _⟩

set_option maxHeartbeats 1000000 in
set_option maxRecDepth 100000 in
theorem row_4 (w : World) : Calls Try.prog 27 #[.int .i32 772] w (RowPost ⟨#[65, 97, 69, 101, 73, 105, 79, 111, 85, 117]⟩ ⟨#[196, 128, 196, 129, 196, 146, 196, 147, 196, 170, 196, 171, 197, 140, 197, 141, 197, 170, 197, 171]⟩ w) := by
  go_enter Try.func27, Try.ntmps27
  go_wp2
  refine bodyPost_ret (results_cell_row Try.results27 _ _ _ _ _ _ _ rfl (heap_alloc_new _ _) Try.underlying40 rfl (by kernel_rfl)) rfl ⟨rfl, (Below.refl _ _).alloc (Nat.le_refl _) _⟩

set_option maxHeartbeats 1000000 in
set_option maxRecDepth 100000 in
theorem row_5 (w : World) : Calls Try.prog 27 #[.int .i32 774] w (RowPost ⟨#[65, 97, 69, 101, 71, 103, 73, 105, 79, 111, 85, 117]⟩ ⟨#[196, 130, 196, 131, 196, 148, 196, 149, 196, 158, 196, 159, 196, 172, 196, 173, 197, 142, 197, 143, 197, 172, 197, 173]⟩ w) := by
  go_enter Try.func27, Try.ntmps27
  go_wp2
  refine bodyPost_ret (results_cell_row Try.results27 _ _ _ _ _ _ _ rfl (heap_alloc_new _ _) Try.underlying40 rfl (by kernel_rfl)) rfl ⟨rfl, (Below.refl _ _).alloc (Nat.le_refl _) _⟩

set_option maxHeartbeats 1000000 in
set_option maxRecDepth 100000 in
theorem row_6 (w : World) : Calls Try.prog 27 #[.int .i32 775] w (RowPost ⟨#[67, 99, 69, 101, 71, 103, 73, 90, 122]⟩ ⟨#[196, 138, 196, 139, 196, 150, 196, 151, 196, 160, 196, 161, 196, 176, 197, 187, 197, 188]⟩ w) := by
  go_enter Try.func27, Try.ntmps27
  go_wp2
  refine bodyPost_ret (results_cell_row Try.results27 _ _ _ _ _ _ _ rfl (heap_alloc_new _ _) Try.underlying40 rfl (by kernel_rfl)) rfl ⟨rfl, (Below.refl _ _).alloc (Nat.le_refl _) _⟩

set_option maxHeartbeats 1000000 in
set_option maxRecDepth 100000 in
theorem row_7 (w : World) : Calls Try.prog 27 #[.int .i32 776] w (RowPost ⟨#[65, 69, 73, 79, 85, 97, 101, 105, 111, 117, 121, 89]⟩ ⟨#[195, 132, 195, 139, 195, 143, 195, 150, 195, 156, 195, 164, 195, 171, 195, 175, 195, 182, 195, 188, 195, 191, 197, 184]⟩ w) := by
  go_enter Try.func27, Try.ntmps27
  go_wp2
  refine bodyPost_ret (results_cell_row Try.results27 _ _ _ _ _ _ _ rfl (heap_alloc_new _ _) Try.underlying40 rfl (by kernel_rfl)) rfl ⟨rfl, (Below.refl _ _).alloc (Nat.le_refl _) _⟩

set_option maxHeartbeats 1000000 in
set_option maxRecDepth 100000 in
theorem row_8 (w : World) : Calls Try.prog 27 #[.int .i32 778] w (RowPost ⟨#[65, 97, 85, 117]⟩ ⟨#[195, 133, 195, 165, 197, 174, 197, 175]⟩ w) := by
  go_enter Try.func27, Try.ntmps27
  go_wp2
  refine bodyPost_ret (results_cell_row Try.results27 _ _ _ _ _ _ _ rfl (heap_alloc_new _ _) Try.underlying40 rfl (by kernel_rfl)) rfl ⟨rfl, (Below.refl _ _).alloc (Nat.le_refl _) _⟩

set_option maxHeartbeats 1000000 in
set_option maxRecDepth 100000 in
theorem row_9 (w : World) : Calls Try.prog 27 #[.int .i32 779] w (RowPost ⟨#[79, 111, 85, 117]⟩ ⟨#[197, 144, 197, 145, 197, 176, 197, 177]⟩ w) := by
  go_enter Try.func27, Try.ntmps27
  go_wp2
  refine bodyPost_ret (results_cell_row Try.results27 _ _ _ _ _ _ _ rfl (heap_alloc_new _ _) Try.underlying40 rfl (by kernel_rfl)) rfl ⟨rfl, (Below.refl _ _).alloc (Nat.le_refl _) _⟩

set_option maxHeartbeats 1000000 in
set_option maxRecDepth 100000 in
theorem row_10 (w : World) : Calls Try.prog 27 #[.int .i32 780] w (RowPost ⟨#[67, 99, 68, 100, 69, 101, 78, 110, 82, 114, 83, 115, 84, 116, 90, 122]⟩ ⟨#[196, 140, 196, 141, 196, 142, 196, 143, 196, 154, 196, 155, 197, 135, 197, 136, 197, 152, 197, 153, 197, 160, 197, 161, 197, 164, 197, 165, 197, 189, 197, 190]⟩ w) := by
  go_enter Try.func27, Try.ntmps27
  go_wp2
  refine bodyPost_ret (results_cell_row Try.results27 _ _ _ _ _ _ _ rfl (heap_alloc_new _ _) Try.underlying40 rfl (by kernel_rfl)) rfl ⟨rfl, (Below.refl _ _).alloc (Nat.le_refl _) _⟩

set_option maxHeartbeats 1000000 in
set_option maxRecDepth 100000 in
theorem row_11 (w : World) : Calls Try.prog 27 #[.int .i32 807] w (RowPost ⟨#[67, 99, 71, 103, 75, 107, 76, 108, 78, 110, 82, 114, 83, 115, 84, 116]⟩ ⟨#[195, 135, 195, 167, 196, 162, 196, 163, 196, 182, 196, 183, 196, 187, 196, 188, 197, 133, 197, 134, 197, 150, 197, 151, 197, 158, 197, 159, 197, 162, 197, 163]⟩ w) := by
  go_enter Try.func27, Try.ntmps27
  go_wp2
  refine bodyPost_ret (results_cell_row Try.results27 _ _ _ _ _ _ _ rfl (heap_alloc_new _ _) Try.underlying40 rfl (by kernel_rfl)) rfl ⟨rfl, (Below.refl _ _).alloc (Nat.le_refl _) _⟩

set_option maxHeartbeats 1000000 in
set_option maxRecDepth 100000 in
theorem row_12 (w : World) : Calls Try.prog 27 #[.int .i32 808] w (RowPost ⟨#[65, 97, 69, 101, 73, 105, 85, 117]⟩ ⟨#[196, 132, 196, 133, 196, 152, 196, 153, 196, 174, 196, 175, 197, 178, 197, 179]⟩ w) := by
  go_enter Try.func27, Try.ntmps27
  go_wp2
  refine bodyPost_ret (results_cell_row Try.results27 _ _ _ _ _ _ _ rfl (heap_alloc_new _ _) Try.underlying40 rfl (by kernel_rfl)) rfl ⟨rfl, (Below.refl _ _).alloc (Nat.le_refl _) _⟩

set_option maxHeartbeats 1000000 in
set_option maxRecDepth 100000 in
theorem row_no (b : Int) (h : ∀ k : Nat, k < 13 → markN k ≠ b) (w : World) : Calls Try.prog 27 #[.int .i32 b] w (RowPost ⟨#[]⟩ ⟨#[]⟩ w) := by
  have e0 : (b == 768) = false := by rw [beq_eq_false_iff_ne]; exact fun h0 => h 0 (by decide) h0.symm
  have e1 : (b == 769) = false := by rw [beq_eq_false_iff_ne]; exact fun h0 => h 1 (by decide) h0.symm
  have e2 : (b == 770) = false := by rw [beq_eq_false_iff_ne]; exact fun h0 => h 2 (by decide) h0.symm
  have e3 : (b == 771) = false := by rw [beq_eq_false_iff_ne]; exact fun h0 => h 3 (by decide) h0.symm
  have e4 : (b == 772) = false := by rw [beq_eq_false_iff_ne]; exact fun h0 => h 4 (by decide) h0.symm
  have e5 : (b == 774) = false := by rw [beq_eq_false_iff_ne]; exact fun h0 => h 5 (by decide) h0.symm
  have e6 : (b == 775) = false := by rw [beq_eq_false_iff_ne]; exact fun h0 => h 6 (by decide) h0.symm
  have e7 : (b == 776) = false := by rw [beq_eq_false_iff_ne]; exact fun h0 => h 7 (by decide) h0.symm
  have e8 : (b == 778) = false := by rw [beq_eq_false_iff_ne]; exact fun h0 => h 8 (by decide) h0.symm
  have e9 : (b == 779) = false := by rw [beq_eq_false_iff_ne]; exact fun h0 => h 9 (by decide) h0.symm
  have e10 : (b == 780) = false := by rw [beq_eq_false_iff_ne]; exact fun h0 => h 10 (by decide) h0.symm
  have e11 : (b == 807) = false := by rw [beq_eq_false_iff_ne]; exact fun h0 => h 11 (by decide) h0.symm
  have e12 : (b == 808) = false := by rw [beq_eq_false_iff_ne]; exact fun h0 => h 12 (by decide) h0.symm
  clear h
  go_enter Try.func27, Try.ntmps27
  go_wp2
  refine bodyPost_ret (results_cell_row Try.results27 _ _ _ _ _ _ _ rfl (heap_alloc_new _ _) Try.underlying40 rfl (by kernel_rfl)) rfl ⟨rfl, (Below.refl _ _).alloc (Nat.le_refl _) _⟩

theorem rowIx_some {b : Int} {n : Nat} (h : rowIx b = some n) : n < 13 ∧ markN n = b := by
  have h1 := List.find?_some h
  have h2 := List.mem_of_find?_eq_some h
  exact ⟨List.mem_range.1 h2, of_decide_eq_true h1⟩
theorem rowIx_none {b : Int} (h : rowIx b = none) : ∀ k : Nat, k < 13 → markN k ≠ b := by
  intro k hk e
  have := List.find?_eq_none.1 h k (List.mem_range.2 hk)
  exact this (decide_eq_true e)
theorem row_c (b : Int) (w : World) : Calls Try.prog 27 #[.int .i32 b] w (RowPost (txt (rowLs b)) (txt (rowMs b)) w) := by
  unfold rowLs rowMs
  cases hx : rowIx b with
  | none =>
    have := row_no b (rowIx_none hx) w
    exact this
  | some n =>
    obtain ⟨hn, rfl⟩ := rowIx_some hx
    clear hx
    simp only
    by_cases h0 : n = 0
    · subst h0
      rw [show markN 0 = 768 from rfl, show txt (lettersN 0) = ⟨#[65, 69, 73, 79, 85, 97, 101, 105, 111, 117]⟩ by decide +kernel, show txt (madeN 0) = ⟨#[195, 128, 195, 136, 195, 140, 195, 146, 195, 153, 195, 160, 195, 168, 195, 172, 195, 178, 195, 185]⟩ by decide +kernel]
      exact row_0 w
    by_cases h1 : n = 1
    · subst h1
      rw [show markN 1 = 769 from rfl, show txt (lettersN 1) = ⟨#[65, 69, 73, 79, 85, 89, 97, 101, 105, 111, 117, 121, 67, 99, 76, 108, 78, 110, 82, 114, 83, 115, 90, 122]⟩ by decide +kernel, show txt (madeN 1) = ⟨#[195, 129, 195, 137, 195, 141, 195, 147, 195, 154, 195, 157, 195, 161, 195, 169, 195, 173, 195, 179, 195, 186, 195, 189, 196, 134, 196, 135, 196, 185, 196, 186, 197, 131, 197, 132, 197, 148, 197, 149, 197, 154, 197, 155, 197, 185, 197, 186]⟩ by decide +kernel]
      exact row_1 w
    by_cases h2 : n = 2
    · subst h2
      rw [show markN 2 = 770 from rfl, show txt (lettersN 2) = ⟨#[65, 69, 73, 79, 85, 97, 101, 105, 111, 117, 67, 99, 71, 103, 72, 104, 74, 106, 83, 115, 87, 119, 89, 121]⟩ by decide +kernel, show txt (madeN 2) = ⟨#[195, 130, 195, 138, 195, 142, 195, 148, 195, 155, 195, 162, 195, 170, 195, 174, 195, 180, 195, 187, 196, 136, 196, 137, 196, 156, 196, 157, 196, 164, 196, 165, 196, 180, 196, 181, 197, 156, 197, 157, 197, 180, 197, 181, 197, 182, 197, 183]⟩ by decide +kernel]
      exact row_2 w
    by_cases h3 : n = 3
    · subst h3
      rw [show markN 3 = 771 from rfl, show txt (lettersN 3) = ⟨#[65, 78, 79, 97, 110, 111, 73, 105, 85, 117]⟩ by decide +kernel, show txt (madeN 3) = ⟨#[195, 131, 195, 145, 195, 149, 195, 163, 195, 177, 195, 181, 196, 168, 196, 169, 197, 168, 197, 169]⟩ by decide +kernel]
      exact row_3 w
    by_cases h4 : n = 4
    · subst h4
      rw [show markN 4 = 772 from rfl, show txt (lettersN 4) = ⟨#[65, 97, 69, 101, 73, 105, 79, 111, 85, 117]⟩ by decide +kernel, show txt (madeN 4) = ⟨#[196, 128, 196, 129, 196, 146, 196, 147, 196, 170, 196, 171, 197, 140, 197, 141, 197, 170, 197, 171]⟩ by decide +kernel]
      exact row_4 w
    by_cases h5 : n = 5
    · subst h5
      rw [show markN 5 = 774 from rfl, show txt (lettersN 5) = ⟨#[65, 97, 69, 101, 71, 103, 73, 105, 79, 111, 85, 117]⟩ by decide +kernel, show txt (madeN 5) = ⟨#[196, 130, 196, 131, 196, 148, 196, 149, 196, 158, 196, 159, 196, 172, 196, 173, 197, 142, 197, 143, 197, 172, 197, 173]⟩ by decide +kernel]
      exact row_5 w
    by_cases h6 : n = 6
    · subst h6
      rw [show markN 6 = 775 from rfl, show txt (lettersN 6) = ⟨#[67, 99, 69, 101, 71, 103, 73, 90, 122]⟩ by decide +kernel, show txt (madeN 6) = ⟨#[196, 138, 196, 139, 196, 150, 196, 151, 196, 160, 196, 161, 196, 176, 197, 187, 197, 188]⟩ by decide +kernel]
      exact row_6 w
    by_cases h7 : n = 7
    · subst h7
      rw [show markN 7 = 776 from rfl, show txt (lettersN 7) = ⟨#[65, 69, 73, 79, 85, 97, 101, 105, 111, 117, 121, 89]⟩ by decide +kernel, show txt (madeN 7) = ⟨#[195, 132, 195, 139, 195, 143, 195, 150, 195, 156, 195, 164, 195, 171, 195, 175, 195, 182, 195, 188, 195, 191, 197, 184]⟩ by decide +kernel]
      exact row_7 w
    by_cases h8 : n = 8
    · subst h8
      rw [show markN 8 = 778 from rfl, show txt (lettersN 8) = ⟨#[65, 97, 85, 117]⟩ by decide +kernel, show txt (madeN 8) = ⟨#[195, 133, 195, 165, 197, 174, 197, 175]⟩ by decide +kernel]
      exact row_8 w
    by_cases h9 : n = 9
    · subst h9
      rw [show markN 9 = 779 from rfl, show txt (lettersN 9) = ⟨#[79, 111, 85, 117]⟩ by decide +kernel, show txt (madeN 9) = ⟨#[197, 144, 197, 145, 197, 176, 197, 177]⟩ by decide +kernel]
      exact row_9 w
    by_cases h10 : n = 10
    · subst h10
      rw [show markN 10 = 780 from rfl, show txt (lettersN 10) = ⟨#[67, 99, 68, 100, 69, 101, 78, 110, 82, 114, 83, 115, 84, 116, 90, 122]⟩ by decide +kernel, show txt (madeN 10) = ⟨#[196, 140, 196, 141, 196, 142, 196, 143, 196, 154, 196, 155, 197, 135, 197, 136, 197, 152, 197, 153, 197, 160, 197, 161, 197, 164, 197, 165, 197, 189, 197, 190]⟩ by decide +kernel]
      exact row_10 w
    by_cases h11 : n = 11
    · subst h11
      rw [show markN 11 = 807 from rfl, show txt (lettersN 11) = ⟨#[67, 99, 71, 103, 75, 107, 76, 108, 78, 110, 82, 114, 83, 115, 84, 116]⟩ by decide +kernel, show txt (madeN 11) = ⟨#[195, 135, 195, 167, 196, 162, 196, 163, 196, 182, 196, 183, 196, 187, 196, 188, 197, 133, 197, 134, 197, 150, 197, 151, 197, 158, 197, 159, 197, 162, 197, 163]⟩ by decide +kernel]
      exact row_11 w
    obtain rfl : n = 12 := by omega
    rw [show markN 12 = 808 from rfl, show txt (lettersN 12) = ⟨#[65, 97, 69, 101, 73, 105, 85, 117]⟩ by decide +kernel, show txt (madeN 12) = ⟨#[196, 132, 196, 133, 196, 152, 196, 153, 196, 174, 196, 175, 197, 178, 197, 179]⟩ by decide +kernel]
    exact row_12 w
end Go.Proofs.Ytjakelphkehonaa
