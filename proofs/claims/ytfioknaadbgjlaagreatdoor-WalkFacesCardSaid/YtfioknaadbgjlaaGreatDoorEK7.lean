/- Kit. -/
import Derived.Test.YtfioknaadbgjlaaGreatDoorEK6
import Derived.Test.YtfioknaadbgjlaaGreatDoorProg
import Derived.Test.YtfioknaadbgjlaaGreatDoorEK1
import Derived.WalkKit
import Derived.WalkSpells
import Derived.IntWalk
import Derived.Lib.Hide
import Derived.Laws.Rows
import Derived.Laws.NewBlocks
import Derived.Below
import Derived.KernelRfl
import Derived.Test.YtfioknaadbgjlaaGreatDoorEK2
import Derived.Laws.Runes
import Derived.Laws.RangeString
import Derived.LoopTactic
import Derived.Deep.LoopGhost
import Derived.Laws.AppendOwnNone
import Derived.Deep.RegionHeld3
import Derived.Handy
import Derived.PlainAid
import Derived.Laws.IdiomStrings
import Derived.Deep.QuietTactic
import Derived.BigQuiet
set_option maxRecDepth 100000
set_option linter.unusedVariables false
set_option linter.unusedSimpArgs false
namespace Go.Proofs.YtfioknaadbgjlaaGreatDoor.F
open Go.RowKit
def openB (r : Int) : Bool := decide (44032 ≤ r ∧ r ≤ 55203 ∧ (r - 44032) % 28 = 0)
set_option maxHeartbeats 1000000 in
theorem open_c (r : Int) (w : World) : Calls Tryz.prog 225 #[.int .i32 r] w fun e w' => e = .returned (.bool (openB r)) ∧ w' = w := by
  by_cases h : 44032 ≤ r ∧ r ≤ 55203
  · have c1 := within_yes r 44032 11172 h.1 (by omega) (by decide) (by decide) (by decide)
    obtain ⟨h1, h2⟩ := h
    have hw : IntKind.i32.wrap (r - 44032) = r - 44032 := by rw [IntKind.wrap_i32]; omega
    obtain ⟨K, hK⟩ : ∃ K : Int, r - 44032 = K := ⟨_, rfl⟩
    have k0 : 0 ≤ K := by omega
    have k1 : K ≤ 11171 := by omega
    by_cases h0 : K % 28 = 0
    · have HX := Lib.hid (show openB r = true from decide_eq_true ⟨h1, h2, by rw [hK]; exact h0⟩)
      go_enter Tryz.func225, Tryz.ntmps225
      go_wp2_with fail
      refine (c1 _).mono ?_
      rintro e w' ⟨rfl, rfl⟩
      go_wp2
      go_ret
      exact ⟨by rw [HX.out]; first | rfl | (simp [h0]), rfl⟩
    · have HX := Lib.hid (show openB r = false from decide_eq_false fun hh => h0 (by rw [← hK]; exact hh.2.2))
      have h0' : (K % 28 == 0) = false := by rw [beq_eq_false_iff_ne]; exact h0
      go_enter Tryz.func225, Tryz.ntmps225
      go_wp2_with fail
      refine (c1 _).mono ?_
      rintro e w' ⟨rfl, rfl⟩
      go_wp2
      go_ret
      exact ⟨by rw [HX.out]; first | rfl | (simp [h0]), rfl⟩
  · have c1 := within_no r 44032 11172 (by omega) (by decide) (by decide) (by decide)
    have HX := Lib.hid (show openB r = false from decide_eq_false fun hh => h ⟨hh.1, hh.2.1⟩)
    clear h
    go_enter Tryz.func225, Tryz.ntmps225
    go_wp2_with fail
    refine (c1 _).mono ?_
    rintro e w' ⟨rfl, rfl⟩
    go_wp2
    go_ret
    exact ⟨by rw [HX.out]; rfl, rfl⟩
def hangI (a b : Int) : Int :=
  if 4352 ≤ a ∧ a ≤ 4370 ∧ 4449 ≤ b ∧ b ≤ 4469 then 44032 + (a - 4352) * 588 + (b - 4449) * 28
  else if 44032 ≤ a ∧ a ≤ 55203 ∧ (a - 44032) % 28 = 0 ∧ 4520 ≤ b ∧ b ≤ 4546 then a + (b - 4519)
  else 0
theorem hangI_lv {a b : Int} (h : 4352 ≤ a ∧ a ≤ 4370 ∧ 4449 ≤ b ∧ b ≤ 4469) : hangI a b = 44032 + (a - 4352) * 588 + (b - 4449) * 28 := if_pos h
theorem hangI_lvt {a b : Int} (h : 44032 ≤ a ∧ a ≤ 55203 ∧ (a - 44032) % 28 = 0 ∧ 4520 ≤ b ∧ b ≤ 4546) : hangI a b = a + (b - 4519) := by
  unfold hangI; rw [if_neg (by omega), if_pos h]
theorem hangI_no {a b : Int} (h : ¬ (4352 ≤ a ∧ a ≤ 4370 ∧ 4449 ≤ b ∧ b ≤ 4469)) (h' : ¬ (44032 ≤ a ∧ a ≤ 55203 ∧ (a - 44032) % 28 = 0 ∧ 4520 ≤ b ∧ b ≤ 4546)) : hangI a b = 0 := by
  unfold hangI; rw [if_neg h, if_neg h']
def HangPost (a b : Int) (w : World) (e : Ending) (w' : World) : Prop := e = .returned (.tuple #[.int .i32 (hangI a b), .bool (decide (0 < hangI a b))]) ∧ w' = w
set_option maxHeartbeats 1000000 in
theorem hang_lv (a b : Int) (h : 4352 ≤ a ∧ a ≤ 4370 ∧ 4449 ≤ b ∧ b ≤ 4469) (w : World) : Calls Tryz.prog 205 #[.int .i32 a, .int .i32 b] w (HangPost a b w) := by
  have c1 := within_yes a 4352 19 h.1 (by omega) (by decide) (by decide) (by decide)
  have c2 := within_yes b 4449 21 h.2.2.1 (by omega) (by decide) (by decide) (by decide)
  have HX := Lib.hid (show hangI a b = 44032 + 588 * (a - 4352) + 28 * (b - 4449) by rw [hangI_lv h]; omega)
  have HT := Lib.hid (show decide (0 < hangI a b) = true by rw [decide_eq_true_eq, hangI_lv h]; omega)
  unfold HangPost
  obtain ⟨h1, h2, h3, h4⟩ := h
  go_enter Tryz.func205, Tryz.ntmps205
  go_wp2_with fail
  refine (c1 _).mono ?_
  rintro e w' ⟨rfl, rfl⟩
  go_wp2_with fail
  refine (c2 _).mono ?_
  rintro e w' ⟨rfl, rfl⟩
  go_wp2
  go_ret2
  exact ⟨by rw [HT.out, HX.out]; rfl, rfl⟩
set_option maxHeartbeats 1000000 in
theorem hang_lvt (a b : Int) (h : 44032 ≤ a ∧ a ≤ 55203 ∧ (a - 44032) % 28 = 0 ∧ 4520 ≤ b ∧ b ≤ 4546) (w : World) : Calls Tryz.prog 205 #[.int .i32 a, .int .i32 b] w (HangPost a b w) := by
  have c1 := within_no a 4352 19 (by omega) (by decide) (by decide) (by decide)
  have c2 := within_yes b 4520 27 h.2.2.2.1 (by omega) (by decide) (by decide) (by decide)
  have c3 := open_c a
  rw [show openB a = true from decide_eq_true ⟨h.1, h.2.1, h.2.2.1⟩] at c3
  have HX := Lib.hid (show hangI a b = a + b - 4520 + 1 by rw [hangI_lvt h]; omega)
  have HT := Lib.hid (show decide (0 < hangI a b) = true by rw [decide_eq_true_eq, hangI_lvt h]; omega)
  unfold HangPost
  obtain ⟨h1, h2, h3, h4, h5⟩ := h
  go_enter Tryz.func205, Tryz.ntmps205
  go_wp2_with fail
  refine (c1 _).mono ?_
  rintro e w' ⟨rfl, rfl⟩
  go_wp2_with fail
  refine (c3 _).mono ?_
  rintro e w' ⟨rfl, rfl⟩
  go_wp2_with fail
  refine (c2 _).mono ?_
  rintro e w' ⟨rfl, rfl⟩
  go_wp2
  go_ret2
  exact ⟨by rw [HT.out, HX.out]; rfl, rfl⟩
set_option maxHeartbeats 1000000 in
theorem hang_no (a b : Int) (h : ¬ (4352 ≤ a ∧ a ≤ 4370 ∧ 4449 ≤ b ∧ b ≤ 4469)) (h' : ¬ (44032 ≤ a ∧ a ≤ 55203 ∧ (a - 44032) % 28 = 0 ∧ 4520 ≤ b ∧ b ≤ 4546)) (w : World) : Calls Tryz.prog 205 #[.int .i32 a, .int .i32 b] w (HangPost a b w) := by
  have HX := Lib.hid (hangI_no h h')
  have HT := Lib.hid (show decide (0 < hangI a b) = false by rw [decide_eq_false_iff_not, hangI_no h h']; omega)
  unfold HangPost
  by_cases ha : 4352 ≤ a ∧ a ≤ 4370
  · have c1 := within_yes a 4352 19 ha.1 (by omega) (by decide) (by decide) (by decide)
    have c2 := within_no b 4449 21 (by omega) (by decide) (by decide) (by decide)
    have c3 := open_c a
    rw [show openB a = false from decide_eq_false (by omega)] at c3
    clear h h' ha
    go_enter Tryz.func205, Tryz.ntmps205
    go_wp2_with fail
    refine (c1 _).mono ?_
    rintro e w' ⟨rfl, rfl⟩
    go_wp2_with fail
    refine (c2 _).mono ?_
    rintro e w' ⟨rfl, rfl⟩
    go_wp2_with fail
    refine (c3 _).mono ?_
    rintro e w' ⟨rfl, rfl⟩
    go_wp2
    go_ret2
    exact ⟨by rw [HT.out, HX.out]; rfl, rfl⟩
  · have c1 := within_no a 4352 19 (by omega) (by decide) (by decide) (by decide)
    by_cases ho : 44032 ≤ a ∧ a ≤ 55203 ∧ (a - 44032) % 28 = 0
    · have c2 := within_no b 4520 27 (by omega) (by decide) (by decide) (by decide)
      have c3 := open_c a
      rw [show openB a = true from decide_eq_true ho] at c3
      clear h h' ha ho
      go_enter Tryz.func205, Tryz.ntmps205
      go_wp2_with fail
      refine (c1 _).mono ?_
      rintro e w' ⟨rfl, rfl⟩
      go_wp2_with fail
      refine (c3 _).mono ?_
      rintro e w' ⟨rfl, rfl⟩
      go_wp2_with fail
      refine (c2 _).mono ?_
      rintro e w' ⟨rfl, rfl⟩
      go_wp2
      go_ret2
      exact ⟨by rw [HT.out, HX.out]; rfl, rfl⟩
    · have c3 := open_c a
      rw [show openB a = false from decide_eq_false ho] at c3
      clear h h' ha ho
      go_enter Tryz.func205, Tryz.ntmps205
      go_wp2_with fail
      refine (c1 _).mono ?_
      rintro e w' ⟨rfl, rfl⟩
      go_wp2_with fail
      refine (c3 _).mono ?_
      rintro e w' ⟨rfl, rfl⟩
      go_wp2
      go_ret2
      exact ⟨by rw [HT.out, HX.out]; rfl, rfl⟩
theorem hang_c (a b : Int) (w : World) : Calls Tryz.prog 205 #[.int .i32 a, .int .i32 b] w (HangPost a b w) := by
  by_cases h : 4352 ≤ a ∧ a ≤ 4370 ∧ 4449 ≤ b ∧ b ≤ 4469
  · exact hang_lv a b h w
  · by_cases h' : 44032 ≤ a ∧ a ≤ 55203 ∧ (a - 44032) % 28 = 0 ∧ 4520 ≤ b ∧ b ≤ 4546
    · exact hang_lvt a b h' w
    · exact hang_no a b h h' w
/-- A syllable's pair. -/
def sylR (r : Int) : Int × Int × Bool := if r < 44032 ∨ 55203 < r then (0, 0, false) else if 0 < (r - 44032) % 28 then (r - (r - 44032) % 28, 4519 + (r - 44032) % 28, true) else (4352 + (r - 44032) / 588, 4449 + (r - 44032) % 588 / 28, true)
set_option maxHeartbeats 1000000 in
theorem syl_c (r : Int) (w : World) : Calls Tryz.prog 219 #[.int .i32 r] w fun e w' => e = .returned (.tuple #[.int .i32 (sylR r).1, .int .i32 (sylR r).2.1, .bool (sylR r).2.2]) ∧ w' = w := by
  by_cases h : r < 44032 ∨ 55203 < r
  · have HX := Lib.hid (show sylR r = (0, 0, false) from if_pos h)
    have c1 := within_no r 44032 11172 (by omega) (by decide) (by decide) (by decide)
    clear h
    go_enter Tryz.func219, Tryz.ntmps219
    go_wp2_with fail
    refine (c1 _).mono ?_
    rintro e w' ⟨rfl, rfl⟩
    go_wp2
    go_ret3
    exact ⟨by rw [HX.out]; rfl, rfl⟩
  · have c1 := within_yes r 44032 11172 (by omega) (by omega) (by decide) (by decide) (by decide)
    have f1 : (44032 : Int) ≤ r := by omega
    have f2 : r ≤ (55203 : Int) := by omega
    have hw : IntKind.i32.wrap (r - 44032) = r - 44032 := by rw [IntKind.wrap_i32]; omega
    obtain ⟨K, hK⟩ : ∃ K : Int, r - 44032 = K := ⟨_, rfl⟩
    have k0 : 0 ≤ K := by omega
    have k1 : K ≤ 11171 := by omega
    by_cases r0 : 0 < K % 28
    · have HX := Lib.hid (show sylR r = (r - K % 28, 4520 + K % 28 - 1, true) by unfold sylR; rw [if_neg h, hK, if_pos r0, show 4520 + K % 28 - 1 = 4519 + K % 28 by omega])
      have q0 : 0 ≤ K % 28 := by omega
      have q1 : K % 28 < 28 := by omega
      have q2 : (K % 28 == 0) = false := by rw [beq_eq_false_iff_ne]; omega
      clear h
      go_enter Tryz.func219, Tryz.ntmps219
      go_wp2_with fail
      refine (c1 _).mono ?_
      rintro e w' ⟨rfl, rfl⟩
      go_wp2
      go_ret3
      exact ⟨by rw [HX.out]; rfl, rfl⟩
    · have HX := Lib.hid (show sylR r = (4352 + K / 588, 4449 + K % 588 / 28, true) by unfold sylR; rw [if_neg h, hK, if_neg r0])
      have q2 : K % 28 = 0 := by omega
      clear h
      go_enter Tryz.func219, Tryz.ntmps219
      go_wp2_with fail
      refine (c1 _).mono ?_
      rintro e w' ⟨rfl, rfl⟩
      go_wp2
      go_ret3
      exact ⟨by rw [HX.out]; rfl, rfl⟩
end Go.Proofs.YtfioknaadbgjlaaGreatDoor.F
namespace Go.Proofs.YtfioknaadbgjlaaGreatDoor.F
open Go.RowKit
def rowIx (b : Int) : Option Nat := (List.range 13).find? (fun n => decide (markN n = b))
def rowLs (b : Int) : List Int := match rowIx b with | some n => lettersN n | none => []
def rowMs (b : Int) : List Int := match rowIx b with | some n => madeN n | none => []
def RowPost (x y : ByteArray) (w : World) (e : Ending) (w' : World) : Prop := e = .returned (.agg #[.string x, .string y]) ∧ Below w.heap.size w w'
set_option maxHeartbeats 1000000 in
set_option maxRecDepth 100000 in
theorem row_0 (w : World) : Calls Tryz.prog 203 #[.int .i32 768] w (RowPost ⟨#[65, 69, 73, 79, 85, 97, 101, 105, 111, 117]⟩ ⟨#[195, 128, 195, 136, 195, 140, 195, 146, 195, 153, 195, 160, 195, 168, 195, 172, 195, 178, 195, 185]⟩ w) := by
  go_enter Tryz.func203, Tryz.ntmps203
  go_wp2
  refine bodyPost_ret (results_cell_row Tryz.results203 _ _ _ _ _ _ _ rfl (heap_alloc_new _ _) Tryz.underlying247 rfl (by kernel_rfl)) rfl ⟨rfl, (Below.refl _ _).alloc (Nat.le_refl _) _⟩
set_option maxHeartbeats 1000000 in
set_option maxRecDepth 100000 in
theorem row_1 (w : World) : Calls Tryz.prog 203 #[.int .i32 769] w (RowPost ⟨#[65, 69, 73, 79, 85, 89, 97, 101, 105, 111, 117, 121, 67, 99, 76, 108, 78, 110, 82, 114, 83, 115, 90, 122]⟩ ⟨#[195, 129, 195, 137, 195, 141, 195, 147, 195, 154, 195, 157, 195, 161, 195, 169, 195, 173, 195, 179, 195, 186, 195, 189, 196, 134, 196, 135, 196, 185, 196, 186, 197, 131, 197, 132, 197, 148, 197, 149, 197, 154, 197, 155, 197, 185, 197, 186]⟩ w) := by
  go_enter Tryz.func203, Tryz.ntmps203
  go_wp2
  refine bodyPost_ret (results_cell_row Tryz.results203 _ _ _ _ _ _ _ rfl (heap_alloc_new _ _) Tryz.underlying247 rfl (by kernel_rfl)) rfl ⟨rfl, (Below.refl _ _).alloc (Nat.le_refl _) _⟩
set_option maxHeartbeats 1000000 in
set_option maxRecDepth 100000 in
theorem row_2 (w : World) : Calls Tryz.prog 203 #[.int .i32 770] w (RowPost ⟨#[65, 69, 73, 79, 85, 97, 101, 105, 111, 117, 67, 99, 71, 103, 72, 104, 74, 106, 83, 115, 87, 119, 89, 121]⟩ ⟨#[195, 130, 195, 138, 195, 142, 195, 148, 195, 155, 195, 162, 195, 170, 195, 174, 195, 180, 195, 187, 196, 136, 196, 137, 196, 156, 196, 157, 196, 164, 196, 165, 196, 180, 196, 181, 197, 156, 197, 157, 197, 180, 197, 181, 197, 182, 197, 183]⟩ w) := by
  go_enter Tryz.func203, Tryz.ntmps203
  go_wp2
  refine bodyPost_ret (results_cell_row Tryz.results203 _ _ _ _ _ _ _ rfl (heap_alloc_new _ _) Tryz.underlying247 rfl (by kernel_rfl)) rfl ⟨rfl, (Below.refl _ _).alloc (Nat.le_refl _) _⟩
set_option maxHeartbeats 1000000 in
set_option maxRecDepth 100000 in
theorem row_3 (w : World) : Calls Tryz.prog 203 #[.int .i32 771] w (RowPost ⟨#[65, 78, 79, 97, 110, 111, 73, 105, 85, 117]⟩ ⟨#[195, 131, 195, 145, 195, 149, 195, 163, 195, 177, 195, 181, 196, 168, 196, 169, 197, 168, 197, 169]⟩ w) := by
  go_enter Tryz.func203, Tryz.ntmps203
  go_wp2
  refine bodyPost_ret (results_cell_row Tryz.results203 _ _ _ _ _ _ _ rfl (heap_alloc_new _ _) Tryz.underlying247 rfl (by kernel_rfl)) rfl ⟨rfl, (Below.refl _ _).alloc (Nat.le_refl _) _⟩
set_option maxHeartbeats 1000000 in
set_option maxRecDepth 100000 in
theorem row_4 (w : World) : Calls Tryz.prog 203 #[.int .i32 772] w (RowPost ⟨#[65, 97, 69, 101, 73, 105, 79, 111, 85, 117]⟩ ⟨#[196, 128, 196, 129, 196, 146, 196, 147, 196, 170, 196, 171, 197, 140, 197, 141, 197, 170, 197, 171]⟩ w) := by
  go_enter Tryz.func203, Tryz.ntmps203
  go_wp2
  refine bodyPost_ret (results_cell_row Tryz.results203 _ _ _ _ _ _ _ rfl (heap_alloc_new _ _) Tryz.underlying247 rfl (by kernel_rfl)) rfl ⟨rfl, (Below.refl _ _).alloc (Nat.le_refl _) _⟩
set_option maxHeartbeats 1000000 in
set_option maxRecDepth 100000 in
theorem row_5 (w : World) : Calls Tryz.prog 203 #[.int .i32 774] w (RowPost ⟨#[65, 97, 69, 101, 71, 103, 73, 105, 79, 111, 85, 117]⟩ ⟨#[196, 130, 196, 131, 196, 148, 196, 149, 196, 158, 196, 159, 196, 172, 196, 173, 197, 142, 197, 143, 197, 172, 197, 173]⟩ w) := by
  go_enter Tryz.func203, Tryz.ntmps203
  go_wp2
  refine bodyPost_ret (results_cell_row Tryz.results203 _ _ _ _ _ _ _ rfl (heap_alloc_new _ _) Tryz.underlying247 rfl (by kernel_rfl)) rfl ⟨rfl, (Below.refl _ _).alloc (Nat.le_refl _) _⟩
set_option maxHeartbeats 1000000 in
set_option maxRecDepth 100000 in
theorem row_6 (w : World) : Calls Tryz.prog 203 #[.int .i32 775] w (RowPost ⟨#[67, 99, 69, 101, 71, 103, 73, 90, 122]⟩ ⟨#[196, 138, 196, 139, 196, 150, 196, 151, 196, 160, 196, 161, 196, 176, 197, 187, 197, 188]⟩ w) := by
  go_enter Tryz.func203, Tryz.ntmps203
  go_wp2
  refine bodyPost_ret (results_cell_row Tryz.results203 _ _ _ _ _ _ _ rfl (heap_alloc_new _ _) Tryz.underlying247 rfl (by kernel_rfl)) rfl ⟨rfl, (Below.refl _ _).alloc (Nat.le_refl _) _⟩
set_option maxHeartbeats 1000000 in
set_option maxRecDepth 100000 in
theorem row_7 (w : World) : Calls Tryz.prog 203 #[.int .i32 776] w (RowPost ⟨#[65, 69, 73, 79, 85, 97, 101, 105, 111, 117, 121, 89]⟩ ⟨#[195, 132, 195, 139, 195, 143, 195, 150, 195, 156, 195, 164, 195, 171, 195, 175, 195, 182, 195, 188, 195, 191, 197, 184]⟩ w) := by
  go_enter Tryz.func203, Tryz.ntmps203
  go_wp2
  refine bodyPost_ret (results_cell_row Tryz.results203 _ _ _ _ _ _ _ rfl (heap_alloc_new _ _) Tryz.underlying247 rfl (by kernel_rfl)) rfl ⟨rfl, (Below.refl _ _).alloc (Nat.le_refl _) _⟩
set_option maxHeartbeats 1000000 in
set_option maxRecDepth 100000 in
theorem row_8 (w : World) : Calls Tryz.prog 203 #[.int .i32 778] w (RowPost ⟨#[65, 97, 85, 117]⟩ ⟨#[195, 133, 195, 165, 197, 174, 197, 175]⟩ w) := by
  go_enter Tryz.func203, Tryz.ntmps203
  go_wp2
  refine bodyPost_ret (results_cell_row Tryz.results203 _ _ _ _ _ _ _ rfl (heap_alloc_new _ _) Tryz.underlying247 rfl (by kernel_rfl)) rfl ⟨rfl, (Below.refl _ _).alloc (Nat.le_refl _) _⟩
set_option maxHeartbeats 1000000 in
set_option maxRecDepth 100000 in
theorem row_9 (w : World) : Calls Tryz.prog 203 #[.int .i32 779] w (RowPost ⟨#[79, 111, 85, 117]⟩ ⟨#[197, 144, 197, 145, 197, 176, 197, 177]⟩ w) := by
  go_enter Tryz.func203, Tryz.ntmps203
  go_wp2
  refine bodyPost_ret (results_cell_row Tryz.results203 _ _ _ _ _ _ _ rfl (heap_alloc_new _ _) Tryz.underlying247 rfl (by kernel_rfl)) rfl ⟨rfl, (Below.refl _ _).alloc (Nat.le_refl _) _⟩
set_option maxHeartbeats 1000000 in
set_option maxRecDepth 100000 in
theorem row_10 (w : World) : Calls Tryz.prog 203 #[.int .i32 780] w (RowPost ⟨#[67, 99, 68, 100, 69, 101, 78, 110, 82, 114, 83, 115, 84, 116, 90, 122]⟩ ⟨#[196, 140, 196, 141, 196, 142, 196, 143, 196, 154, 196, 155, 197, 135, 197, 136, 197, 152, 197, 153, 197, 160, 197, 161, 197, 164, 197, 165, 197, 189, 197, 190]⟩ w) := by
  go_enter Tryz.func203, Tryz.ntmps203
  go_wp2
  refine bodyPost_ret (results_cell_row Tryz.results203 _ _ _ _ _ _ _ rfl (heap_alloc_new _ _) Tryz.underlying247 rfl (by kernel_rfl)) rfl ⟨rfl, (Below.refl _ _).alloc (Nat.le_refl _) _⟩
set_option maxHeartbeats 1000000 in
set_option maxRecDepth 100000 in
theorem row_11 (w : World) : Calls Tryz.prog 203 #[.int .i32 807] w (RowPost ⟨#[67, 99, 71, 103, 75, 107, 76, 108, 78, 110, 82, 114, 83, 115, 84, 116]⟩ ⟨#[195, 135, 195, 167, 196, 162, 196, 163, 196, 182, 196, 183, 196, 187, 196, 188, 197, 133, 197, 134, 197, 150, 197, 151, 197, 158, 197, 159, 197, 162, 197, 163]⟩ w) := by
  go_enter Tryz.func203, Tryz.ntmps203
  go_wp2
  refine bodyPost_ret (results_cell_row Tryz.results203 _ _ _ _ _ _ _ rfl (heap_alloc_new _ _) Tryz.underlying247 rfl (by kernel_rfl)) rfl ⟨rfl, (Below.refl _ _).alloc (Nat.le_refl _) _⟩
set_option maxHeartbeats 1000000 in
set_option maxRecDepth 100000 in
theorem row_12 (w : World) : Calls Tryz.prog 203 #[.int .i32 808] w (RowPost ⟨#[65, 97, 69, 101, 73, 105, 85, 117]⟩ ⟨#[196, 132, 196, 133, 196, 152, 196, 153, 196, 174, 196, 175, 197, 178, 197, 179]⟩ w) := by
  go_enter Tryz.func203, Tryz.ntmps203
  go_wp2
  refine bodyPost_ret (results_cell_row Tryz.results203 _ _ _ _ _ _ _ rfl (heap_alloc_new _ _) Tryz.underlying247 rfl (by kernel_rfl)) rfl ⟨rfl, (Below.refl _ _).alloc (Nat.le_refl _) _⟩
set_option maxHeartbeats 1000000 in
set_option maxRecDepth 100000 in
theorem row_no (b : Int) (h : ∀ k : Nat, k < 13 → markN k ≠ b) (w : World) : Calls Tryz.prog 203 #[.int .i32 b] w (RowPost ⟨#[]⟩ ⟨#[]⟩ w) := by
  have e0 : (b == 768) = false := by rw [beq_eq_false_iff_ne]; exact fun h0 => h 0 (by decide) h0.symm
  have e1 : (b == 769) = false := by rw [beq_eq_false_iff_ne]; exact fun h0 => h 1 (by decide) h0.symm
  have e2 : (b == 770) = false := by rw [beq_eq_false_iff_ne]; exact fun h0 => h 2 (by decide) h0.symm
  have e3 : (b == 771) = false := by rw [beq_eq_false_iff_ne]; exact fun h0 => h 3 (by decide) h0.symm
  have e4 : (b == 772) = false := by rw [beq_eq_false_iff_ne]; exact fun h0 => h 4 (by decide) h0.symm
  have e5 : (b == 774) = false := by rw [beq_eq_false_iff_ne]; exact fun h0 => h 5 (by decide) h0.symm
  have e6 : (b == 775) = false := by rw [beq_eq_false_iff_ne]; exact fun h0 => h 6 (by decide) h0.symm
  have e7 : (b == 776) = false := by rw [beq_eq_false_iff_ne]; exact fun h0 => h 7 (by decide) h0.symm
  have e8 : (b == 778) = false := by rw [beq_eq_false_iff_ne]; exact fun h0 => h 8 (by decide) h0.symm
  have e9 : (b == 779) = false := by rw [beq_eq_false_iff_ne]; exact fun h0 => h 9 (by decide) h0.symm
  have e10 : (b == 780) = false := by rw [beq_eq_false_iff_ne]; exact fun h0 => h 10 (by decide) h0.symm
  have e11 : (b == 807) = false := by rw [beq_eq_false_iff_ne]; exact fun h0 => h 11 (by decide) h0.symm
  have e12 : (b == 808) = false := by rw [beq_eq_false_iff_ne]; exact fun h0 => h 12 (by decide) h0.symm
  clear h
  go_enter Tryz.func203, Tryz.ntmps203
  go_wp2
  refine bodyPost_ret (results_cell_row Tryz.results203 _ _ _ _ _ _ _ rfl (heap_alloc_new _ _) Tryz.underlying247 rfl (by kernel_rfl)) rfl ⟨rfl, (Below.refl _ _).alloc (Nat.le_refl _) _⟩
theorem rowIx_some {b : Int} {n : Nat} (h : rowIx b = some n) : n < 13 ∧ markN n = b := by
  have h1 := List.find?_some h
  have h2 := List.mem_of_find?_eq_some h
  exact ⟨List.mem_range.1 h2, of_decide_eq_true h1⟩
theorem rowIx_none {b : Int} (h : rowIx b = none) : ∀ k : Nat, k < 13 → markN k ≠ b := by
  intro k hk e
  have := List.find?_eq_none.1 h k (List.mem_range.2 hk)
  exact this (decide_eq_true e)
theorem row_c (b : Int) (w : World) : Calls Tryz.prog 203 #[.int .i32 b] w (RowPost (txt (rowLs b)) (txt (rowMs b)) w) := by
  unfold rowLs rowMs
  cases hx : rowIx b with
  | none =>
    have := row_no b (rowIx_none hx) w
    exact this
  | some n =>
    obtain ⟨hn, rfl⟩ := rowIx_some hx
    clear hx
    simp only
    by_cases h0 : n = 0
    · subst h0
      rw [show markN 0 = 768 from rfl, show txt (lettersN 0) = ⟨#[65, 69, 73, 79, 85, 97, 101, 105, 111, 117]⟩ by decide +kernel, show txt (madeN 0) = ⟨#[195, 128, 195, 136, 195, 140, 195, 146, 195, 153, 195, 160, 195, 168, 195, 172, 195, 178, 195, 185]⟩ by decide +kernel]
      exact row_0 w
    by_cases h1 : n = 1
    · subst h1
      rw [show markN 1 = 769 from rfl, show txt (lettersN 1) = ⟨#[65, 69, 73, 79, 85, 89, 97, 101, 105, 111, 117, 121, 67, 99, 76, 108, 78, 110, 82, 114, 83, 115, 90, 122]⟩ by decide +kernel, show txt (madeN 1) = ⟨#[195, 129, 195, 137, 195, 141, 195, 147, 195, 154, 195, 157, 195, 161, 195, 169, 195, 173, 195, 179, 195, 186, 195, 189, 196, 134, 196, 135, 196, 185, 196, 186, 197, 131, 197, 132, 197, 148, 197, 149, 197, 154, 197, 155, 197, 185, 197, 186]⟩ by decide +kernel]
      exact row_1 w
    by_cases h2 : n = 2
    · subst h2
      rw [show markN 2 = 770 from rfl, show txt (lettersN 2) = ⟨#[65, 69, 73, 79, 85, 97, 101, 105, 111, 117, 67, 99, 71, 103, 72, 104, 74, 106, 83, 115, 87, 119, 89, 121]⟩ by decide +kernel, show txt (madeN 2) = ⟨#[195, 130, 195, 138, 195, 142, 195, 148, 195, 155, 195, 162, 195, 170, 195, 174, 195, 180, 195, 187, 196, 136, 196, 137, 196, 156, 196, 157, 196, 164, 196, 165, 196, 180, 196, 181, 197, 156, 197, 157, 197, 180, 197, 181, 197, 182, 197, 183]⟩ by decide +kernel]
      exact row_2 w
    by_cases h3 : n = 3
    · subst h3
      rw [show markN 3 = 771 from rfl, show txt (lettersN 3) = ⟨#[65, 78, 79, 97, 110, 111, 73, 105, 85, 117]⟩ by decide +kernel, show txt (madeN 3) = ⟨#[195, 131, 195, 145, 195, 149, 195, 163, 195, 177, 195, 181, 196, 168, 196, 169, 197, 168, 197, 169]⟩ by decide +kernel]
      exact row_3 w
    by_cases h4 : n = 4
    · subst h4
      rw [show markN 4 = 772 from rfl, show txt (lettersN 4) = ⟨#[65, 97, 69, 101, 73, 105, 79, 111, 85, 117]⟩ by decide +kernel, show txt (madeN 4) = ⟨#[196, 128, 196, 129, 196, 146, 196, 147, 196, 170, 196, 171, 197, 140, 197, 141, 197, 170, 197, 171]⟩ by decide +kernel]
      exact row_4 w
    by_cases h5 : n = 5
    · subst h5
      rw [show markN 5 = 774 from rfl, show txt (lettersN 5) = ⟨#[65, 97, 69, 101, 71, 103, 73, 105, 79, 111, 85, 117]⟩ by decide +kernel, show txt (madeN 5) = ⟨#[196, 130, 196, 131, 196, 148, 196, 149, 196, 158, 196, 159, 196, 172, 196, 173, 197, 142, 197, 143, 197, 172, 197, 173]⟩ by decide +kernel]
      exact row_5 w
    by_cases h6 : n = 6
    · subst h6
      rw [show markN 6 = 775 from rfl, show txt (lettersN 6) = ⟨#[67, 99, 69, 101, 71, 103, 73, 90, 122]⟩ by decide +kernel, show txt (madeN 6) = ⟨#[196, 138, 196, 139, 196, 150, 196, 151, 196, 160, 196, 161, 196, 176, 197, 187, 197, 188]⟩ by decide +kernel]
      exact row_6 w
    by_cases h7 : n = 7
    · subst h7
      rw [show markN 7 = 776 from rfl, show txt (lettersN 7) = ⟨#[65, 69, 73, 79, 85, 97, 101, 105, 111, 117, 121, 89]⟩ by decide +kernel, show txt (madeN 7) = ⟨#[195, 132, 195, 139, 195, 143, 195, 150, 195, 156, 195, 164, 195, 171, 195, 175, 195, 182, 195, 188, 195, 191, 197, 184]⟩ by decide +kernel]
      exact row_7 w
    by_cases h8 : n = 8
    · subst h8
      rw [show markN 8 = 778 from rfl, show txt (lettersN 8) = ⟨#[65, 97, 85, 117]⟩ by decide +kernel, show txt (madeN 8) = ⟨#[195, 133, 195, 165, 197, 174, 197, 175]⟩ by decide +kernel]
      exact row_8 w
    by_cases h9 : n = 9
    · subst h9
      rw [show markN 9 = 779 from rfl, show txt (lettersN 9) = ⟨#[79, 111, 85, 117]⟩ by decide +kernel, show txt (madeN 9) = ⟨#[197, 144, 197, 145, 197, 176, 197, 177]⟩ by decide +kernel]
      exact row_9 w
    by_cases h10 : n = 10
    · subst h10
      rw [show markN 10 = 780 from rfl, show txt (lettersN 10) = ⟨#[67, 99, 68, 100, 69, 101, 78, 110, 82, 114, 83, 115, 84, 116, 90, 122]⟩ by decide +kernel, show txt (madeN 10) = ⟨#[196, 140, 196, 141, 196, 142, 196, 143, 196, 154, 196, 155, 197, 135, 197, 136, 197, 152, 197, 153, 197, 160, 197, 161, 197, 164, 197, 165, 197, 189, 197, 190]⟩ by decide +kernel]
      exact row_10 w
    by_cases h11 : n = 11
    · subst h11
      rw [show markN 11 = 807 from rfl, show txt (lettersN 11) = ⟨#[67, 99, 71, 103, 75, 107, 76, 108, 78, 110, 82, 114, 83, 115, 84, 116]⟩ by decide +kernel, show txt (madeN 11) = ⟨#[195, 135, 195, 167, 196, 162, 196, 163, 196, 182, 196, 183, 196, 187, 196, 188, 197, 133, 197, 134, 197, 150, 197, 151, 197, 158, 197, 159, 197, 162, 197, 163]⟩ by decide +kernel]
      exact row_11 w
    obtain rfl : n = 12 := by omega
    rw [show markN 12 = 808 from rfl, show txt (lettersN 12) = ⟨#[65, 97, 69, 101, 73, 105, 85, 117]⟩ by decide +kernel, show txt (madeN 12) = ⟨#[196, 132, 196, 133, 196, 152, 196, 153, 196, 174, 196, 175, 197, 178, 197, 179]⟩ by decide +kernel]
    exact row_12 w
end Go.Proofs.YtfioknaadbgjlaaGreatDoor.F
namespace Go.Proofs.YtfioknaadbgjlaaGreatDoor.F
open Go.RowKit
theorem at_roundC {b : ByteArray} {pos : Nat} {rest : List Int} (hp : pos < b.size) (hr : runesL (b.data.toList.drop pos) = some rest) :
    ∃ R K rest', Utf8.decode b pos = (R, K) ∧ rest = (R : Int) :: rest' ∧ 1 ≤ K ∧ pos + K ≤ b.size ∧ R ≤ 1114111 ∧ runesL (b.data.toList.drop (pos + K)) = some rest' := by
  have hz : b.data.toList.length = b.size := by simp
  have hne : b.data.toList.drop pos ≠ [] := by
    intro h
    have := congrArg List.length h
    rw [List.length_drop, List.length_nil] at this
    omega
  rw [runesL_step hne] at hr
  rcases nextL_facts (b.data.toList.drop pos) with h0 | ⟨_, hd, hR, h1, h4, hle, he⟩
  · rw [h0, if_pos rfl] at hr; cases hr
  · rw [if_neg (by omega), List.drop_drop] at hr
    obtain ⟨rest', h', rfl⟩ := Option.map_eq_some_iff.1 hr
    have hdd := Lib.decodeL_drop b pos
    rw [hd, hdd] at h1 hle hR h'
    rw [List.length_drop, hz] at hle
    have hi := isR_is hR
    exact ⟨(Utf8.decode b pos).1, (Utf8.decode b pos).2, rest', rfl, by rw [hd, hdd], h1, by omega, by omega, h'⟩
theorem at_end {b : ByteArray} {pos : Nat} {rest : List Int} (hp : ¬ pos < b.size) (hr : runesL (b.data.toList.drop pos) = some rest) : rest = [] := by
  rw [List.drop_eq_nil_of_le (by simp; omega), runesL_nil] at hr
  cases hr; rfl
set_option maxHeartbeats 1000000 in
theorem runeAt_c (b : ByteArray) (rs : List Int) (k : Nat) (hr : runesL b.data.toList = some rs) (hs : b.size ≤ 4000) (hk : k ≤ 1000) (w : World) :
    Calls Tryz.prog 230 #[.string b, .int .i64 k] w fun e w' => e = .returned (.int .i32 (rs.getD k 0)) ∧ Below w.heap.size w w' := by
  have HR := Lib.hid hr
  clear hr
  obtain ⟨X, hX⟩ : ∃ X, rs.getD k 0 = X := ⟨_, rfl⟩
  rw [hX]
  have H0 := Lib.hid hX
  clear hX
  go_enter Tryz.func230, Tryz.ntmps230
  go_wp2
  have hb0 : ∀ p, Below w.heap.size w (w.iter b p) := fun p => (Below.refl _ _).alloc (Nat.le_refl _) _
  go_loopw [1] (fun n w' => ∃ (pos j : Nat) (rest : List Int), w' = w.iter b pos ∧ n = .int .i64 j ∧ pos ≤ b.size ∧ j ≤ 1000 ∧ runesL (b.data.toList.drop pos) = some rest ∧ Hid (rest.getD j 0 = X)) (fun _ w' => b.size - w'.iterPos w.heap.size)
  case atStart => exact ⟨0, k, rs, rfl, by go_num, by omega, by omega, by rw [List.drop_zero]; exact HR.out, H0⟩
  case round =>
    obtain ⟨pos, j, rest, rfl, rfl, hp0, ha, hrest, HA⟩ := hrel
    have HS := Lib.hid hrest
    clear hrest
    by_cases hp : pos < b.size
    · have hnx : ∀ ty, (Instr.next (.pointer (some ⟨w.heap.size, 0, none⟩)) true ty).run Tryz.prog (w.iter b pos) = _ := fun ty => run_next_any w b pos ty hp
      obtain ⟨R, K, rest', hd, hrr, hK, hK', hR, hr'⟩ := at_roundC hp HS.out
      rw [hd] at hnx
      have HR' := Lib.hid hr'
      clear hr' hd
      by_cases h0 : j = 0
      · subst h0
        have HX := Lib.hid (show X = (R : Int) by rw [← HA.out, hrr]; rfl)
        clear hrr
        go_wp2
        go_ret
        exact ⟨by rw [HX.out]; rfl, hb0 _⟩
      · obtain ⟨i, rfl⟩ : ∃ i, j = i + 1 := ⟨j - 1, by omega⟩
        have HX := Lib.hid (show rest'.getD i 0 = X by rw [← HA.out, hrr]; rfl)
        have h0' : (((i + 1 : Nat) : Int) == 0) = false := by rw [beq_eq_false_iff_ne]; omega
        have h0'' : (((i : Int) + 1) == 0) = false := by rw [beq_eq_false_iff_ne]; omega
        clear hrr h0
        go_wp2
        go_roundw
        case rel => exact ⟨pos + K, i, rest', rfl, by go_num, by omega, by omega, HR'.out, HX⟩
        case measure => simp; omega
    · have hnx : ∀ ty, (Instr.next (.pointer (some ⟨w.heap.size, 0, none⟩)) true ty).run Tryz.prog (w.iter b pos) = _ := fun ty => run_next_end w b pos ty hp
      have HX := Lib.hid (show X = 0 by rw [← HA.out, at_end hp HS.out]; rfl)
      go_wp2
      go_ret
      exact ⟨by rw [HX.out]; rfl, hb0 _⟩
def acrI (l m : List Int) (r : Int) : Option Int := ((l.zip m).find? fun p => decide (p.1 = r)).map (·.2)
theorem drop_head {l rest' : List Int} {R : Int} {j : Nat} (h : R :: rest' = l.drop j) : j < l.length ∧ l.getD j 0 = R ∧ rest' = l.drop (j + 1) := by
  have hl := congrArg List.length h
  simp at hl
  have hj : j < l.length := by omega
  rw [List.drop_eq_getElem_cons hj] at h
  cases h
  exact ⟨hj, by simp [List.getD_eq_getElem?_getD, List.getElem?_eq_getElem hj], rfl⟩
def RelAc (l : List Int) (b : ByteArray) (r : Int) (w : World) (n : Value) (w' : World) : Prop :=
  ∃ (pos j : Nat), w' = w.iter b pos ∧ n = .int .i64 j ∧ pos ≤ b.size ∧ j ≤ l.length ∧ runesL (b.data.toList.drop pos) = some (l.drop j) ∧ ∀ i, i < j → l.getD i 0 ≠ r
set_option maxHeartbeats 1000000 in
theorem across_c (b c : ByteArray) (l m : List Int) (r : Int) (hr : runesL b.data.toList = some l) (hr' : runesL c.data.toList = some m) (hl : l.length = m.length) (hs : b.size ≤ 4000) (hs' : c.size ≤ 4000) (hk : l.length ≤ 900) (w : World) :
    Calls Tryz.prog 223 #[.string b, .int .i32 r, .string c] w fun e w' => e = .returned (.tuple #[.int .i32 ((acrI l m r).getD 0), .bool (acrI l m r).isSome]) ∧ Below w.heap.size w w' := by
  have HR := Lib.hid hr
  have HL := Lib.hid hl
  have cA := fun k hk w => runeAt_c c m k hr' hs' hk w
  obtain ⟨n, hn⟩ : ∃ n, l.length = n := ⟨_, rfl⟩
  have HN := Lib.hid hn
  rw [hn] at hk
  obtain ⟨A, hA⟩ : ∃ A, acrI l m r = A := ⟨_, rfl⟩
  have H1 := Lib.hid (show ∀ i, i < l.length → l.getD i 0 = r → (∀ j, j < i → l.getD j 0 ≠ r) → A = some (m.getD i 0) from fun i h1 h2 h3 => hA.symm.trans (zip_find1 hl h1 h2 h3))
  have H2 := Lib.hid (show (∀ j, j < l.length → l.getD j 0 ≠ r) → A = none from fun h => hA.symm.trans (zip_none1 h))
  rw [hA]
  clear hr hr' hl hA hn
  go_enter Tryz.func223, Tryz.ntmps223
  go_wp2
  have hb0 : ∀ p, Below w.heap.size w (w.iter b p) := fun p => (Below.refl _ _).alloc (Nat.le_refl _) _
  go_loopw [8] (fun n w' => RelAc l b r w n w') (fun _ w' => b.size - w'.iterPos w.heap.size)
  case atStart => exact ⟨0, 0, rfl, by go_num, by omega, by omega, by rw [List.drop_zero]; exact HR.out, fun i hi => by omega⟩
  case round =>
    obtain ⟨pos, j, rfl, rfl, hp0, hj, hrest, hno⟩ := hrel
    rw [HN.out] at hj
    have HS := Lib.hid hrest
    have HNO := Lib.hid hno
    clear hno hrest
    by_cases hp : pos < b.size
    · have hnx : ∀ ty, (Instr.next (.pointer (some ⟨w.heap.size, 0, none⟩)) true ty).run Tryz.prog (w.iter b pos) = _ := fun ty => run_next_any w b pos ty hp
      obtain ⟨R, K, rest', hd, hrr, hK, hK', hR, hrest'⟩ := at_roundC hp HS.out
      rw [hd] at hnx
      obtain ⟨hjl, hg, hre⟩ := drop_head hrr.symm
      rw [hre] at hrest'
      rw [HN.out] at hjl
      have HR' := Lib.hid hrest'
      clear hrest' hd hrr hre
      by_cases h0 : (R : Int) = r
      · have HX := Lib.hid (H1.out j (by rw [HN.out]; exact hjl) (hg.trans h0) HNO.out)
        obtain ⟨y, hy⟩ : ∃ y, m.getD j 0 = y := ⟨_, rfl⟩
        have c1 := cA j (by omega)
        rw [hy] at HX c1
        clear hy hg
        rw [h0] at hnx
        clear h0
        go_wp2_with fail
        refine (c1 _).mono ?_
        rintro e w1 ⟨rfl, hb1⟩
        have hbb := below_step (hb0 _) hb1
        clear hb1
        go_wp2
        go_ret2
        exact ⟨by rw [HX.out]; rfl, hbb⟩
      · have HX := Lib.hid (ne_next HNO.out (by rw [hg]; exact h0))
        have h0' : ((R : Int) == r) = false := by rw [beq_eq_false_iff_ne]; exact h0
        clear h0 hg
        go_wp2
        go_roundw
        case rel => exact ⟨pos + K, j + 1, rfl, by go_num, by omega, by rw [HN.out]; omega, HR'.out, HX.out⟩
        case measure => simp; omega
    · have hnx : ∀ ty, (Instr.next (.pointer (some ⟨w.heap.size, 0, none⟩)) true ty).run Tryz.prog (w.iter b pos) = _ := fun ty => run_next_end w b pos ty hp
      have HX := Lib.hid (H2.out (fun i hi => HNO.out i (by
        have := congrArg List.length (at_end hp HS.out)
        rw [List.length_drop, List.length_nil] at this
        omega)))
      go_wp2
      go_ret2
      exact ⟨by rw [HX.out]; rfl, hb0 _⟩
end Go.Proofs.YtfioknaadbgjlaaGreatDoor.F
namespace Go.Proofs.YtfioknaadbgjlaaGreatDoor.F
open Go.RowKit
set_option maxHeartbeats 1000000 in
theorem makes_c (b c : ByteArray) (l m : List Int) (r : Int) (hr : runesL b.data.toList = some l) (hr' : runesL c.data.toList = some m) (hl : l.length = m.length) (hs : b.size ≤ 4000) (hs' : c.size ≤ 4000) (hk : l.length ≤ 900) (w : World) :
    Calls Tryz.prog 204 #[.agg #[.string b, .string c], .int .i32 r] w fun e w' => e = .returned (.tuple #[.int .i32 ((acrI l m r).getD 0), .bool (acrI l m r).isSome]) ∧ Below w.heap.size w w' := by
  have cA := fun w => across_c b c l m r hr hr' hl hs hs' hk w
  generalize acrI l m r = A at cA ⊢
  clear hr hr' hl hk
  go_enter Tryz.func204, Tryz.ntmps204
  go_wp2_with fail
  refine (cA _).mono ?_
  rintro e w1 ⟨rfl, hb⟩
  have hbb := below_step ((Below.refl _ w).alloc (Nat.le_refl _) _) hb
  clear hb
  go_wp2
  go_ret2
  exact ⟨rfl, hbb⟩
set_option maxHeartbeats 1000000 in
theorem comes_c (b c : ByteArray) (l m : List Int) (r : Int) (hr : runesL b.data.toList = some l) (hr' : runesL c.data.toList = some m) (hl : l.length = m.length) (hs : b.size ≤ 4000) (hs' : c.size ≤ 4000) (hk : m.length ≤ 900) (w : World) :
    Calls Tryz.prog 220 #[.agg #[.string b, .string c], .int .i32 r] w fun e w' => e = .returned (.tuple #[.int .i32 ((acrI m l r).getD 0), .bool (acrI m l r).isSome]) ∧ Below w.heap.size w w' := by
  have cA := fun w => across_c c b m l r hr' hr hl.symm hs' hs hk w
  generalize acrI m l r = A at cA ⊢
  clear hr hr' hl hk
  go_enter Tryz.func220, Tryz.ntmps220
  go_wp2_with fail
  refine (cA _).mono ?_
  rintro e w1 ⟨rfl, hb⟩
  have hbb := below_step ((Below.refl _ w).alloc (Nat.le_refl _) _) hb
  clear hb
  go_wp2
  go_ret2
  exact ⟨rfl, hbb⟩
theorem acr_swap (l m : List Int) (hl : l.length = m.length) (r : Int) : acrI m l r = ((l.zip m).find? fun p => decide (p.2 = r)).map (·.1) := by
  unfold acrI
  by_cases h : ∃ i, i < m.length ∧ m.getD i 0 = r
  · classical
    have hf : ∃ i, (i < m.length ∧ m.getD i 0 = r) ∧ ∀ j, j < i → m.getD j 0 ≠ r := by
      obtain ⟨i, hi, he⟩ := h
      induction i using Nat.strongRecOn with
      | _ i ih =>
        by_cases hno : ∀ j, j < i → m.getD j 0 ≠ r
        · exact ⟨i, ⟨hi, he⟩, hno⟩
        · obtain ⟨j, hj⟩ := Classical.not_forall.1 hno
          obtain ⟨hji, hje⟩ := Classical.not_imp.1 hj
          exact ih j hji (by omega) (Classical.not_not.1 hje)
    obtain ⟨i, ⟨hi, he⟩, hno⟩ := hf
    rw [zip_find1 hl.symm hi he hno, zip_find2 hl hi he hno]
  · have hno : ∀ i, i < m.length → m.getD i 0 ≠ r := fun i hi he => h ⟨i, hi, he⟩
    rw [zip_none1 hno, zip_none2 hno]
def rowsFit (b : Int) : Prop := (rowLs b).length = (rowMs b).length ∧ (rowLs b).length ≤ 40 ∧ (rowLs b).all isR = true ∧ (rowMs b).all isR = true
theorem rows_fit (b : Int) : rowsFit b := by
  unfold rowsFit rowLs rowMs
  cases hx : rowIx b with
  | none => exact ⟨rfl, by decide, rfl, rfl⟩
  | some n =>
    have := table_at (rowIx_some hx).1
    exact ⟨this.1, this.2.2.1, this.2.2.2.1, this.2.2.2.2.1⟩
theorem marks_apart : ∀ i : Nat, i < 13 → ∀ j : Nat, j < 13 → markN i = markN j → i = j := by decide +kernel
theorem marks_up : ∀ i : Nat, i < 13 → ∀ j : Nat, j < i → markN j < markN i := by decide +kernel
theorem made_upto : ∀ n : Nat, n < 13 → ∀ x ∈ madeN n, 192 ≤ x ∧ x ≤ 382 := by decide +kernel
theorem pairT_row (a b : Int) : pairT a b = acrI (rowLs b) (rowMs b) a := by
  unfold rowLs rowMs
  cases hx : rowIx b with
  | none =>
    have hno := rowIx_none hx
    show _ = none
    exact firstSome_none fun j hj => by unfold pairF; rw [if_neg (hno j hj)]
  | some n =>
    obtain ⟨hn, hm⟩ := rowIx_some hx
    have hf : pairF a b n = acrI (lettersN n) (madeN n) a := by unfold pairF; rw [if_pos hm]; rfl
    have hno : ∀ j, j < 13 → j ≠ n → pairF a b j = none := fun j hj hjn => by
      unfold pairF
      rw [if_neg fun e => hjn (marks_apart j hj n hn (by rw [e, hm]))]
    simp only
    rw [← hf]
    cases hc : pairF a b n with
    | some x => exact firstSome_at hn (fun j hj => hno j (by omega) (by omega)) hc
    | none =>
      refine firstSome_none fun j hj => ?_
      by_cases e : j = n
      · rw [e]; exact hc
      · exact hno j hj e
theorem rowSplit_is (n : Nat) (h : n < 13) (r : Int) : rowSplit n r = acrI (madeN n) (lettersN n) r := (acr_swap _ _ (table_at h).1 r).symm
theorem pairI_some {a b x : Int} (h : pairT a b = some x) : pairI a b = x ∧ 0 < x := by
  refine ⟨by unfold pairI; rw [h], ?_⟩
  obtain ⟨n, hn, hm, hz⟩ := pairT_spec h
  have := back_at hn hz
  simp only at this
  omega
theorem pairI_hang {a b : Int} (h : pairT a b = none) : pairI a b = hangI a b := by unfold pairI; rw [h]; rfl
def PairPost (a b : Int) (w : World) (e : Ending) (w' : World) : Prop := e = .returned (.tuple #[.int .i32 (pairI a b), .bool (decide (0 < pairI a b))]) ∧ Below w.heap.size w w'
set_option maxHeartbeats 1000000 in
theorem paircp_c (a b : Int) (w : World) : Calls Tryz.prog 177 #[.int .i32 a, .int .i32 b] w (PairPost a b w) := by
  have cR := fun w => row_c b w
  obtain ⟨f1, f2, f3, f4⟩ := rows_fit b
  have cM := fun w => makes_c (txt (rowLs b)) (txt (rowMs b)) (rowLs b) (rowMs b) a (txt_runes f3) (txt_runes f4) f1 (by have := txt_size (rowLs b); omega) (by have := txt_size (rowMs b); omega) (by omega) w
  rw [← pairT_row a b] at cM
  clear f1 f2 f3 f4
  generalize txt (rowLs b) = x at cR cM
  generalize txt (rowMs b) = y at cR cM
  unfold PairPost
  cases hp : pairT a b with
  | some z =>
    rw [hp] at cM
    obtain ⟨hz, hz0⟩ := pairI_some hp
    have HX := Lib.hid hz
    have HT := Lib.hid (show decide (0 < pairI a b) = true by rw [hz]; exact decide_eq_true hz0)
    clear hz hp
    go_enter Tryz.func177, Tryz.ntmps177
    go_wp2_with fail
    refine (cR _).mono ?_
    rintro e w1 ⟨rfl, hb1⟩
    go_wp2_with fail
    refine (cM _).mono ?_
    rintro e w2 ⟨rfl, hb2⟩
    have hbb := below_step hb1 hb2
    clear hb1 hb2
    go_wp2
    go_ret2
    exact ⟨by rw [HT.out, HX.out]; rfl, hbb⟩
  | none =>
    rw [hp] at cM
    have cH := fun w => hang_c a b w
    unfold HangPost at cH
    have HX := Lib.hid (pairI_hang hp)
    clear hp
    rw [HX.out]
    obtain ⟨D, hD⟩ : ∃ D, decide (0 < hangI a b) = D := ⟨_, rfl⟩
    rw [hD] at cH ⊢
    generalize hangI a b = X at cH ⊢
    clear HX hD
    go_enter Tryz.func177, Tryz.ntmps177
    go_wp2_with fail
    refine (cR _).mono ?_
    rintro e w1 ⟨rfl, hb1⟩
    go_wp2_with fail
    refine (cM _).mono ?_
    rintro e w2 ⟨rfl, hb2⟩
    have hbb := below_step hb1 hb2
    clear hb1 hb2
    go_wp2_with fail
    refine (cH _).mono ?_
    rintro e w3 ⟨rfl, rfl⟩
    go_wp2
    go_ret2
    exact ⟨rfl, hbb⟩
theorem splitT_upto {r : Int} {x : Int × Int} (h : splitT r = some x) : 192 ≤ r ∧ r ≤ 382 := by
  obtain ⟨n, hn, hm, hz⟩ := splitT_spec h
  exact made_upto n hn r (List.of_mem_zip hz).2
theorem splitR_none {r : Int} (h : splitT r = none) : splitR r = sylR r := by
  unfold splitR sylR splitI
  rw [h]
  simp only
  by_cases h1 : r < 44032 ∨ 55203 < r
  · rw [if_pos h1, if_pos h1]
  · rw [if_neg h1, if_neg h1]
    by_cases h2 : 0 < (r - 44032) % 28
    · rw [if_pos h2, if_pos h2]
    · rw [if_neg h2, if_neg h2]
def SplitPost (r : Int) (w : World) (e : Ending) (w' : World) : Prop := e = .returned (.tuple #[.int .i32 (splitR r).1, .int .i32 (splitR r).2.1, .bool (splitR r).2.2]) ∧ Below w.heap.size w w'
set_option maxHeartbeats 1000000 in
theorem splitcp_far (r : Int) (h : r < 192 ∨ 382 < r) (w : World) : Calls Tryz.prog 201 #[.int .i32 r] w (SplitPost r w) := by
  have hs : splitR r = sylR r := by
    apply splitR_none
    cases hc : splitT r with
    | none => rfl
    | some x => have := splitT_upto hc; omega
  have cS := fun w => syl_c r w
  unfold SplitPost
  rw [hs]
  generalize sylR r = X at cS ⊢
  clear hs
  rcases h with h | h
  · have e1 : decide (r < 192) = true := decide_eq_true h
    go_enter Tryz.func201, Tryz.ntmps201
    go_wp2_with fail
    refine (cS _).mono ?_
    rintro e w1 ⟨rfl, rfl⟩
    go_wp2
    go_ret3
    exact ⟨rfl, Below.refl _ _⟩
  · have h' : ¬ (r < 192) := by omega
    go_enter Tryz.func201, Tryz.ntmps201
    go_wp2_with fail
    refine (cS _).mono ?_
    rintro e w1 ⟨rfl, rfl⟩
    go_wp2
    go_ret3
    exact ⟨rfl, Below.refl _ _⟩
def RelSp (r : Int) (w0 : World) (mv : Value) (wr : World) : Prop :=
  ∃ m : Int, mv = .int .i32 m ∧ 768 ≤ m ∧ m ≤ 809 ∧ (∀ k : Nat, k < 13 → markN k < m → splitF r k = none) ∧ Below w0.heap.size w0 wr
theorem relsp_more {r m : Int} (h : ∀ k : Nat, k < 13 → markN k < m → splitF r k = none) (hx : ∀ k : Nat, k < 13 → markN k = m → splitF r k = none) : ∀ k : Nat, k < 13 → markN k < m + 1 → splitF r k = none := by
  intro k hk hm
  by_cases e : markN k = m
  · exact hx k hk e
  · exact h k hk (by omega)
set_option maxHeartbeats 1000000 in
theorem splitcp_near (r : Int) (h1 : 192 ≤ r) (h2 : r ≤ 382) (w : World) : Calls Tryz.prog 201 #[.int .i32 r] w (SplitPost r w) := by
  have h1' : ¬ (r < 192) := by omega
  have h2' : ¬ (382 < r) := by omega
  unfold SplitPost
  obtain ⟨X, hX⟩ : ∃ X, splitR r = X := ⟨_, rfl⟩
  rw [hX]
  have H0 := Lib.hid hX
  clear hX
  go_enter Tryz.func201, Tryz.ntmps201
  go_wp2
  go_loopw [5] (fun mv wr => RelSp r w mv wr) (fun mv _ => (809 - intOf mv).toNat)
  case atStart => exact ⟨768, rfl, by omega, by omega, fun k hk hm => by have := table_at hk; omega, Below.refl _ _⟩
  case round =>
    obtain ⟨m, rfl, hm0, hm1, hno, hbel⟩ := hrel
    have HNO := Lib.hid hno
    clear hno
    by_cases hlt : m ≤ 808
    · have cR := fun w => row_c m w
      obtain ⟨f1, f2, f3, f4⟩ := rows_fit m
      have cM := fun w => comes_c (txt (rowLs m)) (txt (rowMs m)) (rowLs m) (rowMs m) r (txt_runes f3) (txt_runes f4) f1 (by have := txt_size (rowLs m); omega) (by have := txt_size (rowMs m); omega) (by omega) w
      clear f1 f2 f3 f4
      generalize txt (rowLs m) = x at cR cM
      generalize txt (rowMs m) = y at cR cM
      cases hp : acrI (rowMs m) (rowLs m) r with
      | some z =>
        rw [hp] at cM
        have HX : Hid (X = (z, m, true)) := by
          refine Lib.hid ?_
          rw [← H0.out]
          unfold rowMs rowLs at hp
          cases hx : rowIx m with
          | none => rw [hx] at hp; cases hp
          | some n =>
            rw [hx] at hp
            obtain ⟨hn, hmn⟩ := rowIx_some hx
            simp only at hp
            rw [← rowSplit_is n hn] at hp
            have := splitR_at (firstSome_at (f := splitF r) (x := (z, m)) hn (fun j hj => HNO.out j (by omega) (by have := marks_up n hn j hj; omega)) (by unfold splitF; rw [hp, hmn]; rfl))
            exact this
        clear hp
        go_wp2_with fail
        refine (cR _).mono ?_
        rintro e w1 ⟨rfl, hb1⟩
        go_wp2_with fail
        refine (cM _).mono ?_
        rintro e w2 ⟨rfl, hb2⟩
        have hbb := below_step (below_step hbel hb1) hb2
        clear hb1 hb2 hbel
        go_wp2
        go_ret3
        exact ⟨by rw [HX.out]; rfl, hbb⟩
      | none =>
        rw [hp] at cM
        have HM : Hid (∀ k : Nat, k < 13 → markN k < m + 1 → splitF r k = none) := by
          refine Lib.hid (relsp_more HNO.out fun k hk hmk => ?_)
          have hx : rowIx m = some k := by
            cases hx : rowIx m with
            | none => exact absurd hmk (rowIx_none hx k hk)
            | some n =>
              obtain ⟨hn, hmn⟩ := rowIx_some hx
              rw [marks_apart n hn k hk (by rw [hmn, hmk])]
          unfold rowMs rowLs at hp
          rw [hx] at hp
          simp only at hp
          rw [← rowSplit_is k hk] at hp
          unfold splitF
          rw [hp]; rfl
        clear hp
        go_wp2_with fail
        refine (cR _).mono ?_
        rintro e w1 ⟨rfl, hb1⟩
        go_wp2_with fail
        refine (cM _).mono ?_
        rintro e w2 ⟨rfl, hb2⟩
        have hbb := below_step (below_step hbel hb1) hb2
        clear hb1 hb2 hbel
        go_wp2
        go_roundw
        case rel => exact ⟨m + 1, by go_num, by omega, by omega, HM.out, hbb⟩
        case measure => simp [intOf]; omega
    · have hm : m = 809 := by omega
      subst hm
      have HX : Hid (X = (0, 0, false)) := by
        refine Lib.hid ?_
        rw [← H0.out, splitR_none (firstSome_none fun k hk => HNO.out k hk (by have := table_at hk; omega))]
        unfold sylR
        rw [if_pos (by omega)]
      clear hlt
      go_wp2
      go_ret3
      exact ⟨by rw [HX.out]; rfl, hbel⟩
theorem splitcp_c (r : Int) (w : World) : Calls Tryz.prog 201 #[.int .i32 r] w (SplitPost r w) := by
  by_cases h : r < 192 ∨ 382 < r
  · exact splitcp_far r h w
  · exact splitcp_near r (by omega) (by omega) w
end Go.Proofs.YtfioknaadbgjlaaGreatDoor.F
namespace Go.Proofs.YtfioknaadbgjlaaGreatDoor.F
open Go.RowKit Go.Sort
theorem getD_three (D U R : List Int) (k : Nat) : (D ++ (U ++ R)).getD k 0 = if k < D.length then D.getD k 0 else if k < D.length + U.length then U.getD (k - D.length) 0 else R.getD (k - D.length - U.length) 0 := by
  simp only [List.getD_eq_getElem?_getD]
  by_cases h1 : k < D.length
  · rw [if_pos h1, List.getElem?_append_left h1]
  · rw [if_neg h1, List.getElem?_append_right (by omega)]
    by_cases h2 : k < D.length + U.length
    · rw [if_pos h2, List.getElem?_append_left (by omega)]
    · rw [if_neg h2, List.getElem?_append_right (by omega)]
theorem putCells_sub (off : Nat) (D U R M : List Int) (h : M.length = U.length) (c : Array Value) :
    putCells encSo (off + D.length) M.toArray (putCells encSo off (D ++ (U ++ R)).toArray c) = putCells encSo off (D ++ (M ++ R)).toArray c := by
  unfold putCells
  apply Array.ext_getElem?
  intro k
  simp only [Array.getElem?_mapIdx, Option.map_map]
  cases c[k]? with
  | none => rfl
  | some x =>
    simp only [Option.map_some, Function.comp, toArray_at, List.size_toArray, List.length_append, getD_three, h]
    congr 1
    by_cases h1 : off ≤ k ∧ k < off + (D.length + (U.length + R.length))
    · rw [if_pos h1, if_pos h1]
      by_cases h2 : off + D.length ≤ k ∧ k < off + D.length + U.length
      · rw [if_pos h2, if_neg (by omega), if_pos (by omega), Nat.sub_sub]
      · rw [if_neg h2]
        congr 1
        by_cases h3 : k - off < D.length
        · rw [if_pos h3, if_pos h3]
        · rw [if_neg h3, if_neg h3, if_neg (by omega), if_neg (by omega)]
    · rw [if_neg h1, if_neg h1, if_neg (by omega)]
theorem RW_sub (w : World) (g off : Nat) (D U R M : List Int) (h : M.length = U.length) (k m : Nat) : RW (RW w g off (D ++ (U ++ R)) k) g (off + D.length) M m = RW w g off (D ++ (M ++ R)) (k + m) := by
  have h1 : putRow encSo (putRow encSo w g off (D ++ (U ++ R)).toArray) g (off + D.length) M.toArray = putRow encSo w g off (D ++ (M ++ R)).toArray := by
    unfold putRow
    rw [mapBlock_mapBlock]
    congr 1
    funext c
    exact putCells_sub off D U R M h c
  unfold RW
  have h2 : putRow encSo ((putRow encSo w g off (D ++ (U ++ R)).toArray).drewN k) g (off + D.length) M.toArray = (putRow encSo (putRow encSo w g off (D ++ (U ++ R)).toArray) g (off + D.length) M.toArray).drewN k := by
    induction k with
    | zero => rfl
    | succ k ih =>
      show putRow encSo ((putRow encSo w g off (D ++ (U ++ R)).toArray).drewN k).drew g (off + D.length) M.toArray = _
      rw [← putRow_drew, ih]; rfl
  rw [h2, h1, World.drewN_drewN]
theorem ordered_append (c : Int → Int) : ∀ (A B : List Int), orderedM c A → orderedM c B → (∀ x y, A.getLast? = some x → B.head? = some y → wrongB c x y = false) → orderedM c (A ++ B)
  | [], B, _, hB, _ => hB
  | [x], [], hA, _, _ => hA
  | [x], y :: B, _, hB, h => ⟨h x y rfl rfl, hB⟩
  | x :: x' :: A, B, hA, hB, h => by
    have ih := ordered_append c (x' :: A) B hA.2 hB (fun p q hp hq => h p q (by rw [List.getLast?_cons_cons]; exact hp) hq)
    exact ⟨hA.1, ih⟩
theorem sorted_ordered : ∀ {U : List Int}, SortedM U → orderedM classI U
  | [], _ => trivial
  | [x], _ => trivial
  | x :: y :: U, h => by
    unfold SortedM at h
    rw [List.pairwise_cons] at h
    have := h.1 y (by simp)
    exact ⟨wrong_no classI (by omega), sorted_ordered h.2⟩
def Ends0 (D : List Int) : Prop := ∀ z, D.getLast? = some z → classI z = 0
theorem ordered_run {D U : List Int} (hD : orderedM classI D) (h0 : Ends0 D) (hU : SortedM U) : orderedM classI (D ++ U) :=
  ordered_append classI D U hD (sorted_ordered hU) fun x y hx _ => wrong_no classI (by have := h0 x hx; have := class_bounds y; omega)
theorem ordered_close {D : List Int} {x : Int} (hD : orderedM classI D) (hx : classI x = 0) : orderedM classI (D ++ [x]) :=
  ordered_append classI D [x] hD trivial fun p q _ hq => by simp at hq; subst hq; exact wrong_no classI (by omega)
theorem ends_close (D : List Int) {x : Int} (hx : classI x = 0) : Ends0 (D ++ [x]) := fun z hz => by simp at hz; subst hz; exact hx
def marksN (L : List Int) : Nat := L.countP fun x => decide (0 < classI x)
theorem marks_perm {L M : List Int} (h : L.Perm M) : marksN L = marksN M := h.countP_eq _
theorem marks_run {D U R : List Int} (hU : PosM U) : U.length ≤ marksN (D ++ (U ++ R)) := by
  unfold marksN
  rw [List.countP_append, List.countP_append]
  have : U.countP (fun x => decide (0 < classI x)) = U.length := by
    rw [List.countP_eq_length]
    exact fun x hx => decide_eq_true (hU x hx)
  omega
def OrdRel (w : World) (g off : Nat) (L : List Int) (bv tv : Value) (wr : World) : Prop :=
  ∃ (D U R : List Int) (k : Nat), bv = .int .i64 D.length ∧ tv = .int .i64 (D.length + U.length : Nat) ∧ SwapsM classI L (D ++ (U ++ R)) ∧ orderedM classI D ∧ Ends0 D ∧ PosM U ∧ wr = RW w g off (D ++ (U ++ R)) k
/-- The run is put in order, wherever it stands in the row. -/
theorem run_in (w : World) (g off N : Nat) (L : List Int) (hH : Holds encSo w g off L.toArray) (D U R : List Int) (hs : SwapsM classI L (D ++ (U ++ R))) (hU : PosM U) (hm : marksN L ≤ 999999) (n cap k : Nat) (hn : U.length = n) :
    Calls Tryz.prog 202 #[.slice (some ⟨g, off + D.length, none⟩) n cap] (RW w g off (D ++ (U ++ R)) k)
      fun e w' => e = .returned (.tuple #[]) ∧ ∃ M m, SwapsM classI L (D ++ (M ++ R)) ∧ SortedM M ∧ M.length = n ∧ w' = RW w g off (D ++ (M ++ R)) m := by
  subst hn
  by_cases h0 : U.length = 0
  · have : U = [] := List.eq_nil_of_length_eq_zero h0
    subst this
    refine (orderRun_none _ cap _).mono ?_
    rintro e w' ⟨rfl, rfl⟩
    exact ⟨rfl, [], k, hs, by unfold SortedM; simp, rfl, rfl⟩
  · have hl : U.length < 1000000 := by
      have h1 := marks_run (D := D) (R := R) hU
      have h2 := marks_perm hs.perm
      omega
    have hHs : Holds encSo (RW w g off (D ++ (U ++ R)) k) g (off + D.length) U.toArray := by
      intro j hj
      have hj' : j < U.length := by simpa using hj
      have := RW_cell (m := k) (i := D.length + j) hH hs.length.symm (by simp; omega)
      rw [getD_three, if_neg (by omega), if_pos (by omega), Nat.add_sub_cancel_left, ← Nat.add_assoc] at this
      rw [toArray_at]
      exact this
    refine (orderRun_c _ g (off + D.length) cap U.length U hHs rfl hl hU).mono ?_
    rintro e w' ⟨rfl, M, m, h1, h2, rfl⟩
    refine ⟨rfl, M, k + m, ?_, h2, h1.length.symm, RW_sub w g off D U R M h1.length.symm k m⟩
    have := h1.within D R
    rw [List.append_assoc, List.append_assoc] at this
    exact hs.trans this
theorem order_none (cap : Nat) (v : Option Addr) (hv : v = none) (w : World) (hcap : cap = 0) : Calls Tryz.prog 175 #[.slice v 0 cap] w fun e w' => e = .returned (.tuple #[]) ∧ w' = w := by
  subst hv hcap
  have c := fun v cap => orderRun_none v cap w
  go_enter Tryz.func175, Tryz.ntmps175
  go_wp2
  refine wp_loop_rounds 1 ?_
  rw [rounds_succ]
  go_wp2_with fail
  refine (c _ _).mono ?_
  rintro e w' ⟨rfl, rfl⟩
  go_wp2
  go_end0
  exact ⟨rfl, rfl⟩
set_option maxHeartbeats 4000000 in
set_option maxRecDepth 100000 in
theorem order_c (w : World) (g off cap N : Nat) (L : List Int) (hH : Holds encSo w g off L.toArray) (hN : L.length = N) (hsz : N < 1000000) (hcap : N ≤ cap) (hm : marksN L ≤ 999999) :
    Calls Tryz.prog 175 #[.slice (some ⟨g, off, none⟩) N cap] w fun e w' => e = .returned (.tuple #[]) ∧ ∃ m, w' = RW w g off (sortM classI L) m := by
  have HS : Hid (OrdRel w g off L (.int .i64 0) (.int .i64 0) w) := Lib.hid ⟨[], [], L, 0, rfl, rfl, .same _, trivial, (fun z hz => nomatch hz), (fun x hx => nomatch hx), (RW_start hH).symm⟩
  have HH := Lib.hid hH
  have HN := Lib.hid hN
  have HM := Lib.hid hm
  clear hH hN hm
  go_enter Tryz.func175, Tryz.ntmps175
  go_wp2
  go_loopw [2, 7] (fun bv tv wr => OrdRel w g off L bv tv wr) (fun _ tv _ => N - (intOf tv).toNat)
  case atStart => exact HS.out
  case round =>
    obtain ⟨D, U, R, k, rfl, rfl, hs, hD, h0, hU, rfl⟩ := hrel
    obtain ⟨b, hb⟩ : ∃ b, D.length = b := ⟨_, rfl⟩
    obtain ⟨u, hu⟩ : ∃ u, U.length = u := ⟨_, rfl⟩
    obtain ⟨t, ht⟩ : ∃ t, b + u = t := ⟨_, rfl⟩
    have hl := hs.length
    rw [HN.out, List.length_append, List.length_append, hb, hu] at hl
    rw [hb, hu, ht]
    obtain ⟨wq, hwq⟩ : ∃ wq, RW w g off (D ++ (U ++ R)) k = wq := ⟨_, rfl⟩
    rw [hwq]
    have btz : (b : Int) ≤ (t : Int) := by omega
    have btn : b ≤ t := by omega
    have tbu : t - b = u := by omega
    have htc : t ≤ cap := by omega
    have hut : u ≤ t - b := by omega
    have CR : Hid (∀ (ad : Option Addr) (cp : Nat), u = 0 ∨ ad = some ⟨g, off + b, none⟩ → Calls Tryz.prog 202 #[.slice ad u cp] wq
        fun e w' => e = .returned (.tuple #[]) ∧ ∃ M m, SwapsM classI L (D ++ (M ++ R)) ∧ SortedM M ∧ M.length = u ∧ w' = RW w g off (D ++ (M ++ R)) m) := Lib.hid fun ad cp h => by
      rcases h with h | rfl
      · have hU0 : U = [] := List.eq_nil_of_length_eq_zero (by omega)
        have := orderRun_none ad cp wq
        rw [← h] at this
        refine this.mono ?_
        rintro e w' ⟨rfl, rfl⟩
        rw [hU0] at hs hwq
        exact ⟨rfl, [], k, hs, by unfold SortedM; simp, h.symm, hwq.symm⟩
      · have := run_in w g off N L HH.out D U R hs hU HM.out u cp k hu
        rw [hwq, hb] at this
        exact this
    cases R with
    | nil =>
      have htN : t = N := by simp at hl; omega
      have HF : Hid (∀ M m, SwapsM classI L (D ++ (M ++ [])) → SortedM M → RW w g off (D ++ (M ++ [])) m = RW w g off (sortM classI L) m) := Lib.hid fun M m h1 h2 => by
        rw [← h1.ordered classI (by rw [List.append_nil]; exact ordered_run hD h0 h2)]
      subst htN
      have hge : ¬ ((t : Int) < (t : Int)) := by omega
      have hbc : (b : Int) ≤ (cap : Int) := by omega
      clear hs hD h0 hU hb hu ht hl hwq
      go_wp2_with fail
      all_goals
        refine (CR.out _ _ (by first | exact Or.inr rfl | exact Or.inl (by omega))).mono ?_
        rintro e w' ⟨rfl, M, m, h1, h2, h3, rfl⟩
        rw [HF.out M m h1 h2]
        clear CR HF h1 h2 h3
        go_wp2
        go_end0
        exact ⟨rfl, m, rfl⟩
    | cons x R =>
      simp only [List.length_cons] at hl
      have htN : t < N := by omega
      have htz : (t : Int) < (N : Int) := by omega
      have hlen : (D ++ (U ++ x :: R)).length = L.length := hs.length.symm
      have k1 := RW_cell (m := k) (i := t) HH.out hlen (by rw [hlen, HN.out]; exact htN)
      have v1 : (D ++ (U ++ x :: R)).getD t 0 = x := by
        have := getD_mid (D ++ U) R x
        rw [List.length_append, hb, hu, ht, List.append_assoc] at this
        exact this
      rw [v1, hwq] at k1
      obtain ⟨c1, f1⟩ := k1
      have cC := fun w => cls_c x w
      have wt : IntKind.i64.wrap ((t : Int) + 1) = ((t + 1 : Nat) : Int) := by rw [IntKind.wrap_i64]; omega
      by_cases hx : classI x = 0
      · have HF : Hid (∀ M m, SwapsM classI L (D ++ (M ++ x :: R)) → SortedM M → M.length = u → OrdRel w g off L (.int .i64 ((t + 1 : Nat) : Int)) (.int .i64 ((t + 1 : Nat) : Int)) (RW w g off (D ++ (M ++ x :: R)) m)) := Lib.hid fun M m h1 h2 h3 =>
          ⟨(D ++ M) ++ [x], [], R, m, by simp only [List.length_append, List.length_singleton]; rw [hb, h3, ht], by simp only [List.length_append, List.length_singleton, List.length_nil]; rw [hb, h3, ht], by simpa using h1, ordered_close (ordered_run hD h0 h2) hx, ends_close _ hx, (fun z hz => nomatch hz), by simp⟩
        rw [hx] at cC
        have hbcap : b ≠ cap := by omega
        have hbc : (b : Int) ≤ (t : Int) := by omega
        have htcz : (t : Int) ≤ (cap : Int) := by omega
        clear hs hD h0 hU hb hu ht hl hwq v1 hlen hx
        go_wp2_with fail
        refine (cC _).mono ?_
        rintro e w' ⟨rfl, rfl⟩
        go_wp2_with fail
        all_goals
          refine (CR.out _ _ (by first | exact Or.inr rfl | exact Or.inl (by omega))).mono ?_
          rintro e w' ⟨rfl, M, m, h1, h2, h3, rfl⟩
          have HO := Lib.hid (HF.out M m h1 h2 h3)
          clear CR HF h1 h2 h3
          go_wp2
          go_roundw
          case rel => exact HO.out
          case measure => simp [intOf]; omega
      · have HF : Hid (OrdRel w g off L (.int .i64 b) (.int .i64 ((t + 1 : Nat) : Int)) wq) := Lib.hid
          ⟨D, U ++ [x], R, k, by rw [hb], by rw [List.length_append, hb, hu, List.length_singleton, ← Nat.add_assoc, ht], by simpa using hs, hD, h0, fun z hz => by
            rcases List.mem_append.1 hz with hz | hz
            · exact hU z hz
            · simp at hz; subst hz; have := class_bounds z; omega, by rw [← hwq]; simp⟩
        have hx' : (classI x == 0) = false := by rw [beq_eq_false_iff_ne]; exact hx
        generalize classI x = cx at *
        clear hs hD h0 hU hb hu ht hl hwq v1 hlen CR
        go_wp2_with fail
        refine (cC _).mono ?_
        rintro e w' ⟨rfl, rfl⟩
        go_wp2
        go_roundw
        case rel => exact HF.out
        case measure => simp [intOf]; omega
end Go.Proofs.YtfioknaadbgjlaaGreatDoor.F
namespace Go.Proofs.YtfioknaadbgjlaaGreatDoor.F
open Go.RowKit Go.Sort
/-- The slice v holds the list xs, in a block of the call's own. -/
abbrev OwnI (B : Nat) (w : World) (v : Value) (xs : List Int) : Prop := w.ownsRow B 21 1 v xs.length (xs.map (Value.int .i32))
theorem OwnI.nil (B : Nat) (w : World) : OwnI B w (.slice none 0 0) [] := World.ownsRow_nil _ _ _ _
theorem OwnI.below {B : Nat} {w w' : World} {v : Value} {xs : List Int} (h : OwnI B w v xs) (hb : Below w.heap.size w w') : OwnI B w' v xs :=
  h.kept (grown_of_below hb none) (by cases h : v.ownBlock with | none => exact Or.inl rfl | some x => exact Or.inr (by simp))
theorem OwnI.more {B : Nat} {w : World} {v : Value} {xs ys : List Int} {n : Nat} {zs : List Value} (h : w.ownsRow B 21 1 v n zs) (hn : n = (xs ++ ys).length) (hz : zs = xs.map (Value.int .i32) ++ ys.map (Value.int .i32)) : OwnI B w v (xs ++ ys) := by
  subst hn hz
  unfold OwnI
  rw [List.map_append]
  exact h
theorem below_RW {B g : Nat} (w : World) (off : Nat) (L : List Int) (m : Nat) (hB : B ≤ g) : Below B w (RW w g off L m) := by
  unfold RW
  have h : Below B w (putRow encSo w g off L.toArray) := by
    refine ⟨rfl, rfl, rfl, ?_, ?_⟩
    · simp [putRow, mapBlock]
    · intro k hk
      have : g ≠ k := by omega
      simp [putRow, mapBlock, Array.getElem?_modify, this]
  exact below_drewN' h m
theorem OwnI.holds {B g cap : Nat} {w : World} {xs : List Int} (h : OwnI B w (.slice (some ⟨g, 0, none⟩) xs.length cap) xs) : Holds encSo w g 0 xs.toArray ∧ xs.length ≤ cap ∧ B ≤ g ∧ g < w.heap.size := by
  rcases h.2 with ⟨hv, _⟩ | ⟨g', cap', cur, hv, hg, hb, hn, hm, hs, ht⟩
  · cases hv
  · cases hv
    refine ⟨fun j hj => ?_, hn, hg, (Array.getElem?_eq_some_iff.1 hb).1⟩
    have hj' : j < xs.length := by simpa using hj
    refine ⟨?_, by simp [World.frozen?, hb]⟩
    rw [toArray_at]
    have h1 : (cur.toList.take (xs.length * 1))[j]? = (xs.map (Value.int .i32))[j]? := by rw [ht]
    rw [List.getElem?_take_of_lt (by omega)] at h1
    simp only [World.cell?, hb, Nat.zero_add]
    simp only [Option.isSome_none, Bool.false_eq_true, if_false]
    rw [← Array.getElem?_toList, h1]
    simp [hj', List.getD_eq_getElem?_getD]
theorem OwnI.form {B : Nat} {w : World} {v : Value} {xs : List Int} (h : OwnI B w v xs) (hn : xs ≠ []) : ∃ g cap, v = .slice (some ⟨g, 0, none⟩) xs.length cap := by
  rcases h.2 with ⟨_, h0⟩ | ⟨g', cap', cur, hv, _⟩
  · exact absurd (List.eq_nil_of_length_eq_zero h0) hn
  · exact ⟨g', cap', hv⟩
def AppPost (B : Nat) (xs : List Int) (r : Int) (w : World) (e : Ending) (w' : World) : Prop := ∃ v', e = .returned v' ∧ OwnI B w' v' (xs ++ full1 r) ∧ Below B w w'
def AppSays (r : Int) : Prop := ∀ (B : Nat) (xs : List Int) (v : Value) (w : World), OwnI B w v xs → xs.length ≤ 100000 → B ≤ w.heap.size → Calls Tryz.prog 174 #[v, .int .i32 r] w (AppPost B xs r w)
theorem splitR_of_none {r : Int} (h : splitI r = none) : splitR r = (0, 0, false) := by unfold splitR; rw [h]
theorem splitR_of_some {r : Int} {p : Int × Int} (h : splitI r = some p) : splitR r = (p.1, p.2, true) := by unfold splitR; rw [h]
set_option maxHeartbeats 1000000 in
theorem app_whole {r : Int} (hs : splitI r = none) : AppSays r := by
  intro B xs v w hown hlen hB
  obtain ⟨i0, hi, hz0, hz1, hz2⟩ := info_parts infoInt32
  have cS := fun w => splitcp_c r w
  unfold SplitPost at cS
  rw [splitR_of_none hs] at cS
  have HF := Lib.hid (full1_none hs)
  have HO := Lib.hid hown
  clear hown hs
  go_enter Tryz.func174, Tryz.ntmps174
  go_wp2_with fail
  refine (cS _).mono ?_
  rintro e w1 ⟨rfl, hb1⟩
  have hown1 := HO.out.below hb1
  go_wp2_with (at_builtin; refine wpList_append_own _ rfl _ _ 113 rfl B 21 i0 (.int .i32 0) 1 4 Tryz.underlying113 hi hz0 hz1 hz2 rfl (by decide) _ _ _ rfl (hown1.alloc _) ⟨w1.heap.size, 0, none⟩ 1 1 [.int .i32 r] rfl rfl ?c1 ?c2 ?c3 ?c4 ?c5 ?_)
  case c1 =>
    intro j u hj
    match j, hj with
    | 0, hj => simp at hj; subst hj; simp [Addr.add]
  case c2 => intro u hu; simp at hu; subst hu; rfl
  case c3 => unfold maxLen; omega
  case c4 => omega
  case c5 => have h1 := hb1.size; simp; omega
  intro v' w2 hown' hgrow _
  have HO2 : Hid (OwnI B w2 v' (xs ++ full1 r)) := Lib.hid (OwnI.more (ys := full1 r) hown' (by rw [HF.out]; simp) (by rw [HF.out]; simp))
  have HBB : Hid (Below B w w2) := Lib.hid (((hb1.mono hB).alloc (by have := hb1.size; omega) _).grown hgrow (by simp; have := hb1.size; omega) (fun j hj => (hown1.lt j hj).1))
  clear hown' hgrow hown1
  go_wp2
  go_ret
  exact ⟨_, rfl, HO2.out, HBB.out⟩
set_option maxHeartbeats 1000000 in
theorem app_part {r : Int} {p : Int × Int} (hs : splitI r = some p) (h1 : AppSays p.1) : AppSays r := by
  intro B xs v w hown hlen hB
  obtain ⟨i0, hi, hz0, hz1, hz2⟩ := info_parts infoInt32
  have cS := fun w => splitcp_c r w
  unfold SplitPost at cS
  rw [splitR_of_some hs] at cS
  have HF := Lib.hid (show full1 r = full1 p.1 ++ [p.2] by rw [full1_some hs, full1_none (split_second hs)])
  obtain ⟨p1, p2⟩ := p
  simp only at cS HF h1
  have H1 := Lib.hid h1
  have HO := Lib.hid hown
  have HLN := Lib.hid (full1_length p1)
  clear hown hs h1
  go_enter Tryz.func174, Tryz.ntmps174
  go_wp2_with fail
  refine (cS _).mono ?_
  rintro e w1 ⟨rfl, hb1⟩
  have cA := H1.out B xs v w1 (HO.out.below hb1) hlen (by have := hb1.size; omega)
  clear cS HO H1
  go_wp2_with fail
  refine cA.mono ?_
  rintro e w2 ⟨v2, rfl, hown1, hb2⟩
  have hl := HLN.out
  clear cA
  go_wp2_with (at_builtin; refine wpList_append_own _ rfl _ _ 113 rfl B 21 i0 (.int .i32 0) 1 4 Tryz.underlying113 hi hz0 hz1 hz2 rfl (by decide) _ _ _ rfl (hown1.alloc _) ⟨w2.heap.size, 0, none⟩ 1 1 [.int .i32 p2] rfl rfl ?c1 ?c2 ?c3 ?c4 ?c5 ?_)
  case c1 =>
    intro j u hj
    match j, hj with
    | 0, hj => simp at hj; subst hj; simp [Addr.add]
  case c2 => intro u hu; simp at hu; subst hu; rfl
  case c3 => rw [List.length_append]; unfold maxLen; omega
  case c4 => rw [List.length_append]; omega
  case c5 => have h1 := hb1.size; have h2 := hb2.size; simp; omega
  intro v' w3 hown' hgrow _
  have HO2 : Hid (OwnI B w3 v' (xs ++ full1 r)) := Lib.hid (OwnI.more (ys := full1 r) hown' (by rw [HF.out]; simp; omega) (by rw [HF.out]; simp))
  have HBB : Hid (Below B w w3) := Lib.hid ((((hb1.mono hB).trans hb2).alloc (by have := hb1.size; have := hb2.size; omega) _).grown hgrow (by simp; have := hb1.size; have := hb2.size; omega) (fun j hj => (hown1.lt j hj).1))
  clear hown' hgrow hown1
  go_wp2
  go_ret
  exact ⟨_, rfl, HO2.out, HBB.out⟩
theorem app_c (r : Int) : AppSays r := by
  cases hs : splitI r with
  | none => exact app_whole hs
  | some p =>
    refine app_part hs ?_
    cases h2 : splitI p.1 with
    | none => exact app_whole h2
    | some q => exact app_part h2 (app_whole (split_first hs h2).1)
/-- The part of the list that has been taken apart. -/
def ApRel (w0 : World) (l : List Int) (ov iv : Value) (wr : World) : Prop :=
  ∃ i, i ≤ l.length ∧ iv = .int .i64 (i : Nat) ∧ OwnI w0.heap.size wr ov (fullL (l.take i)) ∧ (fullL (l.take i) = [] → ov = .slice none 0 0) ∧ Below w0.heap.size w0 wr
theorem full_step {l : List Int} {i : Nat} (h : i < l.length) : fullL (l.take (i + 1)) = fullL (l.take i) ++ full1 (l.getD i 0) := by
  rw [List.take_add_one, fullL_append]
  congr 1
  simp [List.getD_eq_getElem?_getD, List.getElem?_eq_getElem h, fullL]
theorem full_ne (xs : List Int) (r : Int) : xs ++ full1 r ≠ [] := by
  intro h
  have := congrArg List.length h
  have h1 := full1_pos r
  rw [List.length_append, List.length_nil] at this
  omega
def ApartPost (l : List Int) (w : World) (e : Ending) (w' : World) : Prop := ∃ v', e = .returned v' ∧ SliceIs w' v' (apartI l) ∧ (v' = .slice none 0 0 ∨ ∃ ad cap, v' = .slice (some ad) (apartI l).length cap) ∧ Below w.heap.size w w'
set_option maxHeartbeats 2000000 in
theorem apart_c (l : List Int) (v : Value) (w : World) (hv : SliceIs w v l) (hs : l.length ≤ 1000) (hm : marksN (fullL l) ≤ 999999) : Calls Tryz.prog 138 #[v] w (ApartPost l w) := by
  obtain ⟨a, cap, hva⟩ := hv.len
  have HV := Lib.hid hv
  have HM := Lib.hid hm
  obtain ⟨n, hn⟩ : ∃ n, l.length = n := ⟨_, rfl⟩
  have HN := Lib.hid hn
  subst hva
  rw [hn] at HV ⊢
  rw [hn] at hs
  clear hv hm hn
  go_enter Tryz.func138, Tryz.ntmps138
  go_wp2
  go_loopw [3, 8] (fun ov iv wr => ApRel w l ov iv wr) (fun _ iv _ => n - (intOf iv).toNat)
  case atStart => exact ⟨0, by omega, rfl, by simpa [fullL] using OwnI.nil _ _, fun _ => rfl, Below.refl _ _⟩
  case round =>
    obtain ⟨i, hi, rfl, hown, hnil, hbel⟩ := hrel
    rw [HN.out] at hi
    have HO := Lib.hid hown
    have HNIL := Lib.hid hnil
    clear hown hnil
    by_cases hlt : i < n
    · have hltz : (i : Int) < (n : Int) := by omega
      obtain ⟨x, hx⟩ : ∃ x, l.getD i 0 = x := ⟨_, rfl⟩
      have HST := Lib.hid (full_step (l := l) (i := i) (by rw [HN.out]; exact hlt))
      rw [hx] at HST
      obtain ⟨g, off, cp, hg, hvv, hc⟩ : ∃ g off cp, g < w.heap.size ∧ Value.slice a n cap = .slice (some ⟨g, off, none⟩) n cp ∧ w.cell? ⟨g, off + i, none⟩ = some (.int .i32 x) := by
        rcases HV.out with ⟨h0, _⟩ | ⟨g, off, cp, hg, hvv, hc⟩
        · have := HN.out; rw [h0] at this; simp at this; omega
        · exact ⟨g, off, cp, hg, by rw [hvv, HN.out], by rw [hc i (by rw [HN.out]; exact hlt), hx]⟩
      cases hvv
      have c1 : wr.cell? ⟨g, off + i, none⟩ = some (.int .i32 x) := by rw [hbel.cell (p := ⟨g, off + i, none⟩) hg]; exact hc
      have hl3 := fullL_length (l.take i)
      rw [List.length_take, HN.out] at hl3
      have cA := app_c x w.heap.size (fullL (l.take i)) u3 wr HO.out (by omega) hbel.size
      have wi : IntKind.i64.wrap ((i : Int) + 1) = ((i + 1 : Nat) : Int) := by rw [IntKind.wrap_i64]; omega
      clear hc hx hl3
      go_wp2_with fail
      refine cA.mono ?_
      rintro e w1 ⟨v', rfl, ho, hb⟩
      have HR : Hid (ApRel w l v' (.int .i64 ((i + 1 : Nat) : Int)) w1) := Lib.hid ⟨i + 1, by rw [HN.out]; omega, rfl, by rw [HST.out]; exact ho, fun h => by rw [HST.out] at h; exact absurd h (full_ne _ _), hbel.trans hb⟩
      clear ho hb cA
      go_wp2
      go_roundw
      case rel => exact HR.out
      case measure => simp [intOf]; omega
    · have hin : i = n := by omega
      subst hin
      have HT : Hid (l.take i = l) := Lib.hid (List.take_of_length_le (by rw [HN.out]; omega))
      rw [HT.out] at HO HNIL
      have hge : ¬ ((i : Int) < (i : Int)) := by omega
      by_cases h0 : fullL l = []
      · have hov := HNIL.out h0
        subst hov
        have HX : Hid (ApartPost l w (.returned (.slice none 0 0)) wr) := Lib.hid ⟨_, rfl, by unfold apartI; rw [h0]; exact SliceIs.nil _, Or.inl rfl, hbel⟩
        have cO := order_none 0 none rfl wr rfl
        clear h0
        go_wp2_with fail
        refine cO.mono ?_
        rintro e w1 ⟨rfl, rfl⟩
        go_wp2
        go_ret
        exact HX.out
      · obtain ⟨g, cp, hov⟩ := OwnI.form HO.out h0
        subst hov
        obtain ⟨hH, hcp, hgB, hgw⟩ := OwnI.holds HO.out
        obtain ⟨k, hk⟩ : ∃ k, (fullL l).length = k := ⟨_, rfl⟩
        rw [hk] at hcp HO ⊢
        have hk3 := fullL_length l
        have cO := order_c wr g 0 cp k (fullL l) hH hk (by rw [hk, HN.out] at hk3; omega) hcp HM.out
        have HX : Hid (∀ m, ApartPost l w (.returned (.slice (some ⟨g, 0, none⟩) k cp)) (RW wr g 0 (sortM classI (fullL l)) m)) := Lib.hid fun m => by
          have hlen : (sortM classI (fullL l)).length = k := (sortM_perm classI (fullL l)).length_eq.trans hk
          have hal : (apartI l).length = k := hlen
          refine ⟨_, rfl, ?_, Or.inr ⟨_, cp, by rw [hal]⟩, hbel.trans (below_RW wr 0 _ m hgB)⟩
          refine Or.inr ⟨g, 0, cp, ?_, by rw [hal], fun j hj => ?_⟩
          · have := (below_RW (B := 0) wr (g := g) 0 (sortM classI (fullL l)) m (by omega)).size
            omega
          · exact (RW_cell (m := m) (i := j) hH (hlen.trans hk.symm) hj).1
        clear h0 hH hk hk3 hcp
        go_wp2_with fail
        refine cO.mono ?_
        rintro e w1 ⟨rfl, m, rfl⟩
        go_wp2
        go_ret
        exact HX.out m
end Go.Proofs.YtfioknaadbgjlaaGreatDoor.F
namespace Go.Proofs.YtfioknaadbgjlaaGreatDoor.F
open Go.RowKit
set_option maxHeartbeats 1000000 in
theorem eq_len (a b : Option Addr) (n m c d : Nat) (hnm : n ≠ m) (w : World) :
    Calls Tryz.prog 137 #[.slice a n c, .slice b m d] w fun e w' => e = .returned (.bool false) ∧ Below w.heap.size w w' := by
  have h1 : ((n : Int) == (m : Int)) = false := by rw [beq_eq_false_iff_ne]; omega
  have h2 : ¬ ((n : Int) = (m : Int)) := by omega
  clear hnm
  go_enter Tryz.func137, Tryz.ntmps137
  go_wp2
  go_ret
  exact ⟨rfl, Below.refl _ _⟩
set_option maxHeartbeats 1000000 in
theorem eq_nil (a b : Option Addr) (c d : Nat) (w : World) :
    Calls Tryz.prog 137 #[.slice a 0 c, .slice b 0 d] w fun e w' => e = .returned (.bool true) ∧ Below w.heap.size w w' := by
  go_enter Tryz.func137, Tryz.ntmps137
  go_wp2
  refine wp_loop_rounds 1 ?_
  rw [rounds_succ]
  go_wp2
  go_ret
  exact ⟨rfl, Below.refl _ _⟩
set_option maxHeartbeats 1000000 in
theorem eq_in (la lb : List Int) (hl : la.length = lb.length) (hs : la.length ≤ 1000) (g off cap g' off' cap' : Nat) (w : World) (hg : g < w.heap.size) (hg' : g' < w.heap.size)
    (hc : ∀ j, j < la.length → w.cell? ⟨g, off + j, none⟩ = some (.int .i32 (la.getD j 0))) (hc' : ∀ j, j < la.length → w.cell? ⟨g', off' + j, none⟩ = some (.int .i32 (lb.getD j 0))) :
    Calls Tryz.prog 137 #[.slice (some ⟨g, off, none⟩) la.length cap, .slice (some ⟨g', off', none⟩) la.length cap'] w fun e w' => e = .returned (.bool (decide (la = lb))) ∧ Below w.heap.size w w' := by
  obtain ⟨n, hn⟩ : ∃ n, la.length = n := ⟨_, rfl⟩
  have HL := Lib.hid hl
  have HC := Lib.hid hc
  have HC' := Lib.hid hc'
  clear hl hc hc'
  obtain ⟨R, hR⟩ : ∃ R, decide (la = lb) = R := ⟨_, rfl⟩
  rw [hR, hn]
  rw [hn] at hs
  have HN := Lib.hid hn
  have HR := Lib.hid hR
  clear hn hR
  go_enter Tryz.func137, Tryz.ntmps137
  go_wp2
  go_loopw [13] (fun iv wr => RelS la lb w iv wr) (fun iv _ => n - (intOf iv).toNat)
  case atStart => exact ⟨0, by omega, rfl, fun j hj => by omega, Below.refl _ _⟩
  case round =>
    obtain ⟨i, hi, rfl, heq, hbel⟩ := hrel
    rw [HN.out] at hi
    have HE := Lib.hid heq
    clear heq
    by_cases hlt : i < n
    · obtain ⟨x, hx⟩ : ∃ x, la.getD i 0 = x := ⟨_, rfl⟩
      obtain ⟨y, hy⟩ : ∃ y, lb.getD i 0 = y := ⟨_, rfl⟩
      have c1 : wr.cell? ⟨g, off + i, none⟩ = some (.int .i32 x) := by rw [hbel.cell (p := ⟨g, off + i, none⟩) hg, HC.out i (by rw [HN.out]; exact hlt), hx]
      have c2 : wr.cell? ⟨g', off' + i, none⟩ = some (.int .i32 y) := by rw [hbel.cell (p := ⟨g', off' + i, none⟩) hg', HC'.out i (by rw [HN.out]; exact hlt), hy]
      have hltz : (i : Int) < (n : Int) := by omega
      by_cases hxy : x = y
      · have HS := Lib.hid (same_step HE.out (hx.trans (hxy.trans hy.symm)))
        subst hxy
        clear hx hy
        go_wp2
        go_quiet (fail)
        go_wp2
        go_roundw
        case rel => exact ⟨i + 1, by rw [HN.out]; omega, by go_num, HS.out, below_drewN' hbel _⟩
        case measure => simp [intOf]; omega
      · have hne : (x == y) = false := by rw [beq_eq_false_iff_ne]; exact hxy
        have HF : Hid (R = false) := by
          rw [← HR.out]
          refine decide_eq_false fun h => hxy ?_
          rw [← hx, ← hy, h]
        clear hx hy hxy
        go_wp2
        go_quiet (fail)
        go_wp2
        go_ret
        exact ⟨by rw [HF.out]; rfl, below_drewN' hbel _⟩
    · have hin : i = n := by omega
      have HT : Hid (R = true) := by
        rw [← HR.out]
        exact decide_eq_true (same_all HL.out (fun j hj => HE.out j (by rw [HN.out] at hj; omega)))
      have hge : ¬ ((i : Int) < (n : Int)) := by omega
      clear hin
      go_wp2
      go_ret
      exact ⟨by rw [HT.out]; rfl, hbel⟩
theorem eq_c {va vb : Value} {la lb : List Int} {w : World} (ha : SliceIs w va la) (hb : SliceIs w vb lb) (hs : la.length ≤ 1000) :
    Calls Tryz.prog 137 #[va, vb] w fun e w' => e = .returned (.bool (decide (la = lb))) ∧ Below w.heap.size w w' := by
  by_cases hl : la.length = lb.length
  · rcases ha with ⟨rfl, a, cap, rfl⟩ | ⟨g, off, cap, hg, rfl, hc⟩
    · have : lb = [] := List.eq_nil_of_length_eq_zero (by rw [← hl]; rfl)
      subst this
      obtain ⟨b, d, rfl⟩ := hb.len
      exact eq_nil a b cap d w
    · rcases hb with ⟨rfl, b, cap', rfl⟩ | ⟨g', off', cap', hg', rfl, hc'⟩
      · have : la = [] := List.eq_nil_of_length_eq_zero (by rw [hl]; rfl)
        subst this
        exact eq_nil _ b cap cap' w
      · rw [← hl]
        exact eq_in la lb hl hs g off cap g' off' cap' w hg hg' hc (fun j hj => hc' j (by omega))
  · obtain ⟨a, c, rfl⟩ := ha.len
    obtain ⟨b, d, rfl⟩ := hb.len
    have : decide (la = lb) = false := decide_eq_false fun h => hl (by rw [h])
    rw [this]
    exact eq_len a b _ _ c d hl w
def StablePost (l : List Int) (w : World) (e : Ending) (w' : World) : Prop := e = .returned (.bool (decide (l = apartI l))) ∧ Below w.heap.size w w'
set_option maxHeartbeats 1000000 in
theorem stablecp_c (l : List Int) (v : Value) (w : World) (hv : SliceIs w v l) (hs : l.length ≤ 1000) (hm : marksN (fullL l) ≤ 999999) : Calls Tryz.prog 99 #[v] w (StablePost l w) := by
  have cA := apart_c l v w hv hs hm
  have HV := Lib.hid hv
  clear hv hm
  go_enter Tryz.func99, Tryz.ntmps99
  go_wp2_with fail
  refine cA.mono ?_
  rintro e w1 ⟨v', rfl, h1, _, hb⟩
  have cE := eq_c (HV.out.kept hb) h1 hs
  have HB := Lib.hid hb
  clear h1 hb cA
  go_wp2_with fail
  refine cE.mono ?_
  rintro e w2 ⟨rfl, hb2⟩
  have HB2 := Lib.hid (below_step HB.out hb2)
  clear hb2 cE
  go_wp2
  go_ret
  exact ⟨rfl, HB2.out⟩
end Go.Proofs.YtfioknaadbgjlaaGreatDoor.F
namespace Go.Proofs.YtfioknaadbgjlaaGreatDoor.F
open Go.RowKit Go.Sort
theorem below_set {B g : Nat} (w : World) (i : Nat) (v : Value) (hB : B ≤ g) : Below B w (w.setCell ⟨g, i, none⟩ v) := by
  rw [setCell_eq]
  refine ⟨rfl, rfl, rfl, ?_, ?_⟩
  · simp [mapBlock]
  · intro k hk
    have : g ≠ k := by omega
    simp [mapBlock, Array.getElem?_modify, this]
theorem OwnI.set {B g n cap i : Nat} {w : World} {xs : List Int} (x : Int) (h : OwnI B w (.slice (some ⟨g, 0, none⟩) n cap) xs) : OwnI B (w.setCell ⟨g, i, none⟩ (.int .i32 x)) (.slice (some ⟨g, 0, none⟩) n cap) (xs.set i x) := by
  refine ⟨by simp, ?_⟩
  rcases h.2 with ⟨hv, _⟩ | ⟨g', cap', cur, hv, hg, hb, hn, hm, hs, ht⟩
  · cases hv
  · cases hv
    refine Or.inr ⟨g, cap, cur.setIfInBounds i (.int .i32 x), by simp, hg, ?_, by simpa using hn, hm, by simpa using hs, ?_⟩
    · rw [setCell_eq]
      simp [mapBlock, Array.getElem?_modify, hb, onCells]
    · rw [Array.toList_setIfInBounds, List.length_set, List.map_set, List.take_set, ht]
def ReachPost (ms : List Int) (r : Int) (w : World) (e : Ending) (w' : World) : Prop := e = .returned (.bool (mayB ms r)) ∧ Below w.heap.size w w'
set_option maxHeartbeats 1000000 in
theorem reach_nil (a : Option Addr) (cap : Nat) (r : Int) (w : World) : Calls Tryz.prog 176 #[.slice a 0 cap, .int .i32 r] w (ReachPost [] r w) := by
  go_enter Tryz.func176, Tryz.ntmps176
  go_wp2
  go_quiet (fail)
  go_wp2
  go_ret
  exact ⟨rfl, below_drewN' (Below.refl _ _) _⟩
set_option maxHeartbeats 1000000 in
theorem reach_some (g off k cap : Nat) (ms : List Int) (z r : Int) (hz : ms.getLast? = some z) (w : World) (hc : w.cell? ⟨g, off + k, none⟩ = some (.int .i32 z)) (hk : k < 100000) :
    Calls Tryz.prog 176 #[.slice (some ⟨g, off, none⟩) (k + 1) cap, .int .i32 r] w (ReachPost ms r w) := by
  have cC := fun x w => cls_c x w
  have HM := Lib.hid (show mayB ms r = decide (classI z < classI r) by unfold mayB; rw [hz])
  unfold ReachPost
  rw [HM.out]
  have wk : IntKind.i64.wrap (((k + 1 : Nat) : Int) - 1) = (k : Int) := by rw [IntKind.wrap_i64]; omega
  have wk' : IntKind.i64.wrap ((k : Int)) = (k : Int) := by rw [IntKind.wrap_i64]; omega
  have hne : (((k + 1 : Nat) : Int) == 0) = false := by rw [beq_eq_false_iff_ne]; omega
  have hne' : (((k : Int) + 1) == 0) = false := by rw [beq_eq_false_iff_ne]; omega
  go_enter Tryz.func176, Tryz.ntmps176
  go_wp2
  go_quiet ((go_at_call 100; exact Calls.quiet_of_same ((cC _ _).mono fun _ _ h => ⟨h.1, h.2⟩)))
  go_wp2
  go_ret
  exact ⟨rfl, below_drewN' (Below.refl _ _) _⟩
theorem reach_c (v : Value) (ms : List Int) (r : Int) (w : World) (hv : SliceIs w v ms) (hs : ms.length < 100000) : Calls Tryz.prog 176 #[v, .int .i32 r] w (ReachPost ms r w) := by
  rcases List.eq_nil_or_concat ms with h0 | ⟨m, z, h0⟩
  · subst h0
    obtain ⟨a, cap, rfl⟩ := hv.len
    exact reach_nil a cap r w
  · rw [List.concat_eq_append] at h0
    subst h0
    rcases hv with ⟨h0, _⟩ | ⟨g, off, cap, hg, rfl, hc⟩
    · simp at h0
    · have := hc m.length (by simp)
      rw [getD_mid m [] z] at this
      rw [List.length_append, List.length_singleton] at hs ⊢
      exact reach_some g off m.length cap (m ++ [z]) z r (by simp) w this (by omega)
end Go.Proofs.YtfioknaadbgjlaaGreatDoor.F
namespace Go.Proofs.YtfioknaadbgjlaaGreatDoor.F
open Go.RowKit Go.Sort
def baseOf (out : List Int) : Int := match lastBase out with
  | some (p, _, _) => (p.length : Int)
  | none => -1
theorem base_close {out : List Int} {x : Int} (h : classI x = 0) : baseOf (out ++ [x]) = (out.length : Int) := by
  unfold baseOf; rw [lastBase_at out h (fun y hy => by cases hy)]
theorem base_mark {out : List Int} {x : Int} (h : ¬ classI x = 0) : baseOf (out ++ [x]) = baseOf out := by
  have hx : 0 < classI x := by have := classI_nn x; omega
  unfold baseOf
  cases hb : lastBase out with
  | none =>
    have := lastBase_none hb
    rw [lastBase_pos (fun y hy => by
      rcases List.mem_append.1 hy with hy | hy
      · exact this y hy
      · simp at hy; subst hy; exact hx)]
  | some q =>
    obtain ⟨p, b, ms⟩ := q
    obtain ⟨ho, hb0, hms⟩ := lastBase_some hb
    have e : out ++ [x] = p ++ b :: (ms ++ [x]) := by rw [ho]; simp
    rw [e, lastBase_at p hb0 (fun y hy => by
      rcases List.mem_append.1 hy with hy | hy
      · exact hms y hy
      · simp at hy; subst hy; exact hx)]
theorem base_made {p ms : List Int} {b r : Int} (h : 0 < pairI b r) (hms : PosL ms) : baseOf (p ++ pairI b r :: ms) = (p.length : Int) := by
  unfold baseOf; rw [lastBase_at p (class_made h) hms]
theorem set_at {p ms : List Int} {b x : Int} : (p ++ b :: ms).set p.length x = p ++ x :: ms := by simp
theorem tog_take {l : List Int} {i : Nat} (h : i < l.length) : togI (l.take (i + 1)) = togStep (togI (l.take i)) (l.getD i 0) := by
  rw [List.take_add_one, show l[i]?.toList = [l.getD i 0] by simp [List.getD_eq_getElem?_getD, List.getElem?_eq_getElem h], togI_snoc]
/-- What has been put together of the first i. -/
def TogRel (w0 : World) (l : List Int) (ov bv iv : Value) (wr : World) : Prop :=
  ∃ i, i ≤ l.length ∧ iv = .int .i64 (i : Nat) ∧ OwnI w0.heap.size wr ov (togI (l.take i)) ∧ bv = .int .i64 (baseOf (togI (l.take i))) ∧ Below w0.heap.size w0 wr
def TogPost (l : List Int) (w : World) (e : Ending) (w' : World) : Prop := ∃ v', e = .returned v' ∧ SliceIs w' v' (togI l) ∧ Below w.heap.size w w'
set_option maxHeartbeats 3000000 in
set_option maxRecDepth 100000 in
theorem together_c (l : List Int) (v : Value) (w : World) (hv : SliceIs w v l) (hs : l.length ≤ 1000) : Calls Tryz.prog 140 #[v] w (TogPost l w) := by
  obtain ⟨i0, hi0, hz0, hz1, hz2⟩ := info_parts infoInt32
  obtain ⟨a, cap, hva⟩ := hv.len
  have HV := Lib.hid hv
  obtain ⟨n, hn⟩ : ∃ n, l.length = n := ⟨_, rfl⟩
  have HN := Lib.hid hn
  subst hva
  rw [hn] at HV ⊢
  rw [hn] at hs
  clear hv hn
  go_enter Tryz.func140, Tryz.ntmps140
  go_wp2
  go_loopw [3, 4, 11] (fun ov bv iv wr => TogRel w l ov bv iv wr) (fun _ _ iv _ => n - (intOf iv).toNat)
  case atStart => exact ⟨0, by omega, rfl, by simpa [togI] using OwnI.nil _ _, rfl, Below.refl _ _⟩
  case round =>
    obtain ⟨i, hi, rfl, hown, rfl, hbel⟩ := hrel
    rw [HN.out] at hi
    by_cases hlt : i < n
    · have hltz : (i : Int) < (n : Int) := by omega
      obtain ⟨x, hx⟩ : ∃ x, l.getD i 0 = x := ⟨_, rfl⟩
      have HST := Lib.hid (tog_take (l := l) (i := i) (by rw [HN.out]; exact hlt))
      rw [hx] at HST
      obtain ⟨g, off, cp, hg, hvv, hc⟩ : ∃ g off cp, g < w.heap.size ∧ Value.slice a n cap = .slice (some ⟨g, off, none⟩) n cp ∧ w.cell? ⟨g, off + i, none⟩ = some (.int .i32 x) := by
        rcases HV.out with ⟨h0, _⟩ | ⟨g, off, cp, hg, hvv, hc⟩
        · have := HN.out; rw [h0] at this; simp at this; omega
        · exact ⟨g, off, cp, hg, by rw [hvv, HN.out], by rw [hc i (by rw [HN.out]; exact hlt), hx]⟩
      cases hvv
      have c1 : wr.cell? ⟨g, off + i, none⟩ = some (.int .i32 x) := by rw [hbel.cell (p := ⟨g, off + i, none⟩) hg]; exact hc
      have hol := togI_length (l.take i)
      rw [List.length_take, HN.out] at hol
      have hol : (togI (l.take i)).length ≤ i := by omega
      obtain ⟨out, hout⟩ : ∃ out, togI (l.take i) = out := ⟨_, rfl⟩
      rw [hout] at HST hown hol ⊢
      have cC := fun w => cls_c x w
      have wi : IntKind.i64.wrap ((i : Int) + 1) = ((i + 1 : Nat) : Int) := by rw [IntKind.wrap_i64]; omega
      -- the two ways in which x goes behind the others
      have HA0 : Hid (classI x = 0 → togStep out x = out ++ [x] → ∀ ov w', OwnI w.heap.size w' ov (out ++ [x]) → Below w.heap.size w w' → TogRel w l ov (.int .i64 (out.length : Nat)) (.int .i64 ((i + 1 : Nat) : Int)) w') := Lib.hid fun h0 hst ov w' ho hb =>
        ⟨i + 1, by rw [HN.out]; omega, rfl, by rw [HST.out, hst]; exact ho, by rw [HST.out, hst, base_close h0], hb⟩
      have HA1 : Hid (¬ classI x = 0 → togStep out x = out ++ [x] → ∀ ov w', OwnI w.heap.size w' ov (out ++ [x]) → Below w.heap.size w w' → TogRel w l ov (.int .i64 (baseOf out)) (.int .i64 ((i + 1 : Nat) : Int)) w') := Lib.hid fun h0 hst ov w' ho hb =>
        ⟨i + 1, by rw [HN.out]; omega, rfl, by rw [HST.out, hst]; exact ho, by rw [HST.out, hst, base_mark h0], hb⟩
      have HMP : Hid (∀ p b ms, togStep out x = p ++ pairI b x :: ms → 0 < pairI b x → PosL ms → ∀ ov w', OwnI w.heap.size w' ov (p ++ pairI b x :: ms) → Below w.heap.size w w' → TogRel w l ov (.int .i64 (p.length : Nat)) (.int .i64 ((i + 1 : Nat) : Int)) w') := Lib.hid fun p b ms hst h0 hms ov w' ho hb =>
        ⟨i + 1, by rw [HN.out]; omega, rfl, by rw [HST.out, hst]; exact ho, by rw [HST.out, hst, base_made h0 hms], hb⟩
      have HO := Lib.hid hown
      have HBEL := Lib.hid hbel
      have hwB := hbel.size
      have HXL : Hid (out.length ≤ i) := Lib.hid hol
      have hol : (out.length : Int) ≤ 1000 := by omega
      have hol' : out.length ≤ 1000 := by omega
      clear hx hc hown hbel hout HST
      cases hb : lastBase out with
      | none =>
        have hst : togStep out x = out ++ [x] := by unfold togStep; rw [hb]
        have hbo : baseOf out = -1 := by unfold baseOf; rw [hb]
        rw [hbo] at HA1 ⊢
        clear hb hbo
        obtain ⟨ao, co, hov⟩ := (SliceIs.own HO.out).len
        subst hov
        by_cases h0 : classI x = 0
        · have HE := Lib.hid (HA0.out h0 hst)
          rw [h0] at cC
          clear h0 HA0 HA1 HMP
          go_wp2_with fail
          refine (cC _).mono ?_
          rintro e w' ⟨rfl, hweq⟩
          rw [hweq]
          clear hweq w'
          have hown1 := HO.out
          have hbl1 := HBEL.out
          go_wp2_with (at_builtin; refine wpList_append_own _ rfl _ _ 113 rfl w.heap.size 21 i0 (.int .i32 0) 1 4 Tryz.underlying113 hi0 hz0 hz1 hz2 rfl (by decide) _ _ _ rfl (hown1.alloc _) ⟨wr.heap.size, 0, none⟩ 1 1 [.int .i32 x] rfl rfl ?c1 ?c2 ?c3 ?c4 ?c5 ?_)
          case c1 =>
            intro j u hj
            match j, hj with
            | 0, hj => simp at hj; subst hj; simp [Addr.add]
          case c2 => intro u hu; simp at hu; subst hu; rfl
          case c3 => unfold maxLen; omega
          case c4 => omega
          case c5 => have := hbl1.size; simp; omega
          intro v' w9 hown' hgrow _
          have HR := Lib.hid (HE.out v' w9 (OwnI.more (ys := [x]) hown' (by simp) (by simp)) ((hbl1.alloc hbl1.size _).grown hgrow (by have := hbl1.size; simp; omega) (fun j hj => (hown1.lt j hj).1)))
          clear hown' hgrow hown1 hbl1 HE
          go_wp2
          go_roundw
          case rel => exact HR.out
          case measure => simp [intOf]; omega
        · have HE := Lib.hid (HA1.out h0 hst)
          have h0' : (classI x == 0) = false := by rw [beq_eq_false_iff_ne]; exact h0
          clear h0 HA0 HA1 HMP
          generalize classI x = cx at *
          go_wp2_with fail
          refine (cC _).mono ?_
          rintro e w' ⟨rfl, hweq⟩
          rw [hweq]
          clear hweq w'
          have hown1 := HO.out
          have hbl1 := HBEL.out
          go_wp2_with (at_builtin; refine wpList_append_own _ rfl _ _ 113 rfl w.heap.size 21 i0 (.int .i32 0) 1 4 Tryz.underlying113 hi0 hz0 hz1 hz2 rfl (by decide) _ _ _ rfl (hown1.alloc _) ⟨wr.heap.size, 0, none⟩ 1 1 [.int .i32 x] rfl rfl ?c1 ?c2 ?c3 ?c4 ?c5 ?_)
          case c1 =>
            intro j u hj
            match j, hj with
            | 0, hj => simp at hj; subst hj; simp [Addr.add]
          case c2 => intro u hu; simp at hu; subst hu; rfl
          case c3 => unfold maxLen; omega
          case c4 => omega
          case c5 => have := hbl1.size; simp; omega
          intro v' w9 hown' hgrow _
          have HR := Lib.hid (HE.out v' w9 (OwnI.more (ys := [x]) hown' (by simp) (by simp)) ((hbl1.alloc hbl1.size _).grown hgrow (by have := hbl1.size; simp; omega) (fun j hj => (hown1.lt j hj).1)))
          clear hown' hgrow hown1 hbl1 HE
          go_wp2
          go_roundw
          case rel => exact HR.out
          case measure => simp [intOf]; omega
      | some q =>
        obtain ⟨p, b, ms⟩ := q
        obtain ⟨ho, hb0, hms⟩ := lastBase_some hb
        have hbo : baseOf out = (p.length : Int) := by unfold baseOf; rw [hb]
        have hne : out ≠ [] := by rw [ho]; simp
        obtain ⟨G, cpo, hov⟩ := OwnI.form HO.out hne
        subst hov
        obtain ⟨hH, hcp, hgB, hgw⟩ := OwnI.holds HO.out
        obtain ⟨k, hk⟩ : ∃ k, p.length = k := ⟨_, rfl⟩
        obtain ⟨o, hoo⟩ : ∃ o, out.length = o := ⟨_, rfl⟩
        have hlen := congrArg List.length ho
        rw [List.length_append, List.length_cons, hk, hoo] at hlen
        rw [hoo] at hcp HO HXL hol' HA0 ⊢
        have kc := RW_cell (m := 0) (i := k) hH rfl (by rw [hoo]; omega)
        rw [RW_start hH, Nat.zero_add, ho, ← hk, getD_mid, hk] at kc
        obtain ⟨cb, fb⟩ := kc
        rw [hbo, hk] at HA1 ⊢
        have hko : k < o := by omega
        -- reaches is asked of what stands behind the base
        have CR : Hid (∀ (ad : Option Addr) (cq : Nat), (ad = some ⟨G, k + 1, none⟩ ∨ o - (k + 1) = 0) → Calls Tryz.prog 176 #[.slice ad (o - (k + 1)) cq, .int .i32 x] wr (ReachPost ms x wr)) := Lib.hid fun ad cq h => by
          refine reach_c _ ms x wr ?_ (by omega)
          rcases h with rfl | h
          · by_cases hm0 : ms = []
            · exact Or.inl ⟨hm0, _, cq, by rw [show o - (k + 1) = 0 by rw [hm0] at hlen; simp at hlen; omega]⟩
            · refine Or.inr ⟨G, k + 1, cq, hgw, by rw [show o - (k + 1) = ms.length by omega], fun j hj => ?_⟩
              have := RW_cell (m := 0) (i := k + 1 + j) hH rfl (by rw [hoo]; omega)
              rw [RW_start hH, Nat.zero_add, ho] at this
              have e := getD_three p [b] ms (k + 1 + j)
              rw [hk, if_neg (by omega), List.length_singleton, if_neg (by omega), show k + 1 + j - k - 1 = j by omega] at e
              rw [show p ++ b :: ms = p ++ ([b] ++ ms) from rfl, e] at this
              exact this.1
          · exact Or.inl ⟨List.eq_nil_of_length_eq_zero (by omega), ad, cq, by rw [h]⟩
        have wk : IntKind.i64.wrap ((k : Int) + 1) = ((k + 1 : Nat) : Int) := by rw [IntKind.wrap_i64]; omega
        have wk' : IntKind.i64.wrap ((k : Int) + 1) = (k : Int) + 1 := by rw [IntKind.wrap_i64]; omega
        have hkn : ((k : Int) + 1).toNat = k + 1 := by omega
        have k0 : (0 : Int) ≤ (k : Int) := by omega
        have k1 : (k : Int) + 1 ≤ (o : Int) := by omega
        have k1' : (0 : Int) ≤ (k : Int) + 1 := by omega
        have k2 : (o : Int) ≤ (cpo : Int) := by omega
        have kz : (k : Int) < (o : Int) := by omega
        by_cases hmay : mayB ms x = true
        · have cP := fun w => paircp_c b x w
          unfold PairPost at cP
          by_cases hp : 0 < pairI b x
          · have hst : togStep out x = p ++ pairI b x :: ms := by unfold togStep; rw [hb]; simp only; rw [if_pos ⟨hmay, hp⟩]
            have HE := Lib.hid (HMP.out p b ms hst hp hms)
            rw [hk] at HE
            have hdp : decide (0 < pairI b x) = true := decide_eq_true hp
            rw [hdp] at cP
            have HSET : Hid (∀ y : Int, out.set k y = p ++ y :: ms) := Lib.hid fun y => by rw [ho, ← hk]; exact set_at
            obtain ⟨made, hmade⟩ : ∃ made, pairI b x = made := ⟨_, rfl⟩
            rw [hmade] at HE cP
            clear hmade hp hst hdp HA0 HA1 HMP hlen hk hoo ho hb hb0 hms hH hne hbo cC
            have CB := Lib.hid cb
            have FB := Lib.hid fb
            clear cb fb
            go_wp2_with fail
            all_goals by_cases hcq : cpo = k + 1
            all_goals try (exfalso; omega)
            all_goals
              try rw [hcq] at HO
              refine (CR.out _ _ (by first | exact Or.inl rfl | exact Or.inr (by omega))).mono ?_
              unfold ReachPost
              rw [hmay]
              rintro e w1 ⟨rfl, hb1⟩
              have cb1 : w1.cell? ⟨G, k, none⟩ = some (.int .i32 b) := by rw [hb1.cell (p := ⟨G, k, none⟩) hgw]; exact CB.out
              go_wp2_with fail
              refine (cP _).mono ?_
              rintro e w2 ⟨rfl, hb2⟩
              have hb12 := below_step hb1 hb2
              have HOW := Lib.hid ((HO.out.below hb12).set (i := k) made)
              have cb2 : w2.cell? ⟨G, k, none⟩ = some (.int .i32 b) := by rw [hb12.cell (p := ⟨G, k, none⟩) hgw]; exact CB.out
              have fb2 : w2.frozen? ⟨G, k, none⟩ = false := by
                have := FB.out
                simp only [World.frozen?, hb12.block G hgw] at this ⊢
                exact this
              have HB3 := Lib.hid ((HBEL.out.trans (hb12.mono hwB)).trans (below_set w2 k (.int .i32 made) hgB))
              clear hb1 hb2 hb12 cb1
              go_wp2
              go_roundw
              case rel => exact HE.out _ _ (by rw [← HSET.out made]; exact HOW.out) HB3.out
              case measure => simp [intOf]; omega
          · have hst : togStep out x = out ++ [x] := by unfold togStep; rw [hb]; simp only; rw [if_neg fun hh => hp hh.2]
            have hdp : decide (0 < pairI b x) = false := decide_eq_false hp
            rw [hdp] at cP
            generalize pairI b x = made at cP
            clear hdp hlen hk hoo ho hb hb0 hms hH hne hbo fb HMP
            have CB := Lib.hid cb
            clear cb
            go_wp2_with fail
            all_goals by_cases hcq : cpo = k + 1
            all_goals try (exfalso; omega)
            all_goals
              try rw [hcq] at HO
              refine (CR.out _ _ (by first | exact Or.inl rfl | exact Or.inr (by omega))).mono ?_
              unfold ReachPost
              rw [hmay]
              rintro e w1 ⟨rfl, hb1⟩
              have cb1 : w1.cell? ⟨G, k, none⟩ = some (.int .i32 b) := by rw [hb1.cell (p := ⟨G, k, none⟩) hgw]; exact CB.out
              go_wp2_with fail
              refine (cP _).mono ?_
              rintro e w2 ⟨rfl, hb2⟩
              have hb12 := below_step hb1 hb2
              have HOW := Lib.hid (HO.out.below hb12)
              have HB3 := Lib.hid (HBEL.out.trans (hb12.mono hwB))
              clear hb1 hb2 hb12 cb1
              by_cases h0 : classI x = 0
              · have HE := Lib.hid (HA0.out h0 hst)
                rw [h0] at cC
                clear h0 HA0 HA1
                go_wp2_with fail
                refine (cC _).mono ?_
                rintro e w' ⟨rfl, hweq⟩
                rw [hweq]
                clear hweq w'
                have hown1 := HOW.out
                have hbl1 := HB3.out
                go_wp2_with (at_builtin; refine wpList_append_own _ rfl _ _ 113 rfl w.heap.size 21 i0 (.int .i32 0) 1 4 Tryz.underlying113 hi0 hz0 hz1 hz2 rfl (by decide) _ _ _ rfl (hown1.alloc _) ⟨w2.heap.size, 0, none⟩ 1 1 [.int .i32 x] rfl rfl ?c1 ?c2 ?c3 ?c4 ?c5 ?_)
                case c1 =>
                  intro j u hj
                  match j, hj with
                  | 0, hj => simp at hj; subst hj; simp [Addr.add]
                case c2 => intro u hu; simp at hu; subst hu; rfl
                case c3 => unfold maxLen; omega
                case c4 => omega
                case c5 => have := hbl1.size; simp; omega
                intro v' w9 hown' hgrow _
                have HR := Lib.hid (HE.out v' w9 (OwnI.more (ys := [x]) hown' (by simp) (by simp)) ((hbl1.alloc hbl1.size _).grown hgrow (by have := hbl1.size; simp; omega) (fun j hj => (hown1.lt j hj).1)))
                clear hown' hgrow hown1 hbl1 HE
                go_wp2
                go_roundw
                case rel => exact HR.out
                case measure => simp [intOf]; omega
              · have HE := Lib.hid (HA1.out h0 hst)
                have h0' : (classI x == 0) = false := by rw [beq_eq_false_iff_ne]; exact h0
                clear h0 HA0 HA1
                generalize classI x = cx at *
                go_wp2_with fail
                refine (cC _).mono ?_
                rintro e w' ⟨rfl, hweq⟩
                rw [hweq]
                clear hweq w'
                have hown1 := HOW.out
                have hbl1 := HB3.out
                go_wp2_with (at_builtin; refine wpList_append_own _ rfl _ _ 113 rfl w.heap.size 21 i0 (.int .i32 0) 1 4 Tryz.underlying113 hi0 hz0 hz1 hz2 rfl (by decide) _ _ _ rfl (hown1.alloc _) ⟨w2.heap.size, 0, none⟩ 1 1 [.int .i32 x] rfl rfl ?c1 ?c2 ?c3 ?c4 ?c5 ?_)
                case c1 =>
                  intro j u hj
                  match j, hj with
                  | 0, hj => simp at hj; subst hj; simp [Addr.add]
                case c2 => intro u hu; simp at hu; subst hu; rfl
                case c3 => unfold maxLen; omega
                case c4 => omega
                case c5 => have := hbl1.size; simp; omega
                intro v' w9 hown' hgrow _
                have HR := Lib.hid (HE.out v' w9 (OwnI.more (ys := [x]) hown' (by simp) (by simp)) ((hbl1.alloc hbl1.size _).grown hgrow (by have := hbl1.size; simp; omega) (fun j hj => (hown1.lt j hj).1)))
                clear hown' hgrow hown1 hbl1 HE
                go_wp2
                go_roundw
                case rel => exact HR.out
                case measure => simp [intOf]; omega
        · have hst : togStep out x = out ++ [x] := by unfold togStep; rw [hb]; simp only; rw [if_neg fun hh => hmay hh.1]
          have hmf : mayB ms x = false := by simpa using hmay
          clear hlen hk hoo ho hb hb0 hms hH hne hbo cb fb hmay HMP
          go_wp2_with fail
          all_goals by_cases hcq : cpo = k + 1
          all_goals try (exfalso; omega)
          all_goals
            try rw [hcq] at HO
            refine (CR.out _ _ (by first | exact Or.inl rfl | exact Or.inr (by omega))).mono ?_
            unfold ReachPost
            rw [hmf]
            rintro e w1 ⟨rfl, hb1⟩
            have HOW := Lib.hid (HO.out.below hb1)
            have HB3 := Lib.hid (HBEL.out.trans (hb1.mono hwB))
            clear hb1
            by_cases h0 : classI x = 0
            · have HE := Lib.hid (HA0.out h0 hst)
              rw [h0] at cC
              clear h0 HA0 HA1
              go_wp2_with fail
              refine (cC _).mono ?_
              rintro e w' ⟨rfl, hweq⟩
              rw [hweq]
              clear hweq w'
              have hown1 := HOW.out
              have hbl1 := HB3.out
              go_wp2_with (at_builtin; refine wpList_append_own _ rfl _ _ 113 rfl w.heap.size 21 i0 (.int .i32 0) 1 4 Tryz.underlying113 hi0 hz0 hz1 hz2 rfl (by decide) _ _ _ rfl (hown1.alloc _) ⟨w1.heap.size, 0, none⟩ 1 1 [.int .i32 x] rfl rfl ?c1 ?c2 ?c3 ?c4 ?c5 ?_)
              case c1 =>
                intro j u hj
                match j, hj with
                | 0, hj => simp at hj; subst hj; simp [Addr.add]
              case c2 => intro u hu; simp at hu; subst hu; rfl
              case c3 => unfold maxLen; omega
              case c4 => omega
              case c5 => have := hbl1.size; simp; omega
              intro v' w9 hown' hgrow _
              have HR := Lib.hid (HE.out v' w9 (OwnI.more (ys := [x]) hown' (by simp) (by simp)) ((hbl1.alloc hbl1.size _).grown hgrow (by have := hbl1.size; simp; omega) (fun j hj => (hown1.lt j hj).1)))
              clear hown' hgrow hown1 hbl1 HE
              go_wp2
              go_roundw
              case rel => exact HR.out
              case measure => simp [intOf]; omega
            · have HE := Lib.hid (HA1.out h0 hst)
              have h0' : (classI x == 0) = false := by rw [beq_eq_false_iff_ne]; exact h0
              clear h0 HA0 HA1
              generalize classI x = cx at *
              go_wp2_with fail
              refine (cC _).mono ?_
              rintro e w' ⟨rfl, hweq⟩
              rw [hweq]
              clear hweq w'
              have hown1 := HOW.out
              have hbl1 := HB3.out
              go_wp2_with (at_builtin; refine wpList_append_own _ rfl _ _ 113 rfl w.heap.size 21 i0 (.int .i32 0) 1 4 Tryz.underlying113 hi0 hz0 hz1 hz2 rfl (by decide) _ _ _ rfl (hown1.alloc _) ⟨w1.heap.size, 0, none⟩ 1 1 [.int .i32 x] rfl rfl ?c1 ?c2 ?c3 ?c4 ?c5 ?_)
              case c1 =>
                intro j u hj
                match j, hj with
                | 0, hj => simp at hj; subst hj; simp [Addr.add]
              case c2 => intro u hu; simp at hu; subst hu; rfl
              case c3 => unfold maxLen; omega
              case c4 => omega
              case c5 => have := hbl1.size; simp; omega
              intro v' w9 hown' hgrow _
              have HR := Lib.hid (HE.out v' w9 (OwnI.more (ys := [x]) hown' (by simp) (by simp)) ((hbl1.alloc hbl1.size _).grown hgrow (by have := hbl1.size; simp; omega) (fun j hj => (hown1.lt j hj).1)))
              clear hown' hgrow hown1 hbl1 HE
              go_wp2
              go_roundw
              case rel => exact HR.out
              case measure => simp [intOf]; omega
    · have hin : i = n := by omega
      subst hin
      have HT : Hid (l.take i = l) := Lib.hid (List.take_of_length_le (by rw [HN.out]; omega))
      rw [HT.out] at hown ⊢
      have hge : ¬ ((i : Int) < (i : Int)) := by omega
      have HX := Lib.hid (show SliceIs wr u3 (togI l) from SliceIs.own hown)
      clear hown
      go_wp2
      go_ret
      exact ⟨_, rfl, HX.out, hbel⟩
end Go.Proofs.YtfioknaadbgjlaaGreatDoor.F
namespace Go.Proofs.YtfioknaadbgjlaaGreatDoor.F
open Go.RowKit Go.Sort
/-- The slice v holds l; nil has no room. -/
def SliceOk (w : World) (v : Value) (l : List Int) : Prop := SliceIs w v l ∧ (v = .slice none 0 0 ∨ ∃ ad cap, v = .slice (some ad) l.length cap)
theorem marks_one (r : Int) : marksN (full1 r) ≤ 1 := by
  have h1 : ∀ x : Int, marksN [x] ≤ 1 := fun x => by unfold marksN; rw [List.countP_cons]; split <;> simp
  have h0 : ∀ x : Int, classI x = 0 → marksN [x] = 0 := fun x hx => by unfold marksN; rw [List.countP_cons, if_neg (by rw [hx]; simp)]; rfl
  cases hs : splitI r with
  | none => rw [full1_none hs]; exact h1 r
  | some p =>
    obtain ⟨a, b⟩ := p
    have hc := splitI_cases hs
    simp only at hc
    cases h2 : splitI a with
    | none =>
      have e : full1 r = [a] ++ [b] := by unfold full1; rw [hs]; simp only; rw [h2]; rfl
      have ha : classI a = 0 := classI_far (by omega)
      have := h1 b
      have := h0 a ha
      rw [e]
      unfold marksN at *
      rw [List.countP_append]; omega
    | some q =>
      obtain ⟨q1, q2⟩ := q
      have hc2 := splitI_cases h2
      simp only at hc2
      have e : full1 r = [q1] ++ ([q2] ++ [b]) := by unfold full1; rw [hs]; simp only; rw [h2]; rfl
      have ha : classI q1 = 0 := classI_far (by omega)
      have hb : classI q2 = 0 := classI_far (by omega)
      have := h1 b
      have := h0 q1 ha
      have := h0 q2 hb
      rw [e]
      unfold marksN at *
      rw [List.countP_append, List.countP_append]; omega
theorem marks_full : ∀ l : List Int, marksN (fullL l) ≤ l.length
  | [] => by simp [marksN, fullL]
  | r :: l => by
    have h1 := marks_one r
    have h2 := marks_full l
    rw [fullL_cons, List.length_cons]
    unfold marksN at *
    rw [List.countP_append]; omega
end Go.Proofs.YtfioknaadbgjlaaGreatDoor.F
namespace Go.Proofs.YtfioknaadbgjlaaGreatDoor.F
open Go.RowKit Go.Sort
theorem OwnI.cell {B g n cap j : Nat} {w : World} {xs : List Int} (h : OwnI B w (.slice (some ⟨g, 0, none⟩) n cap) xs) (hn : xs.length = n) (hj : j < n) :
    w.cell? ⟨g, j, none⟩ = some (.int .i32 (xs.getD j 0)) ∧ w.frozen? ⟨g, j, none⟩ = false := by
  subst hn
  have := h.holds.1 j (by simpa using hj)
  rw [toArray_at, Nat.zero_add] at this
  exact this
/-- A part of an own slice. -/
theorem OwnI.part {B g n cap : Nat} {w : World} {xs ys zs : List Int} (h : OwnI B w (.slice (some ⟨g, 0, none⟩) n cap) (xs ++ (ys ++ zs))) (hn : (xs ++ (ys ++ zs)).length = n) (cp : Nat) :
    SliceOk w (.slice (some ⟨g, xs.length, none⟩) ys.length cp) ys := by
  have hb := h
  subst hn
  refine ⟨Or.inr ⟨g, xs.length, cp, hb.holds.2.2.2, rfl, fun j hj => ?_⟩, Or.inr ⟨_, cp, rfl⟩⟩
  have := (h.cell (j := xs.length + j) rfl (by simp; omega)).1
  rw [getD_three, if_neg (by omega), if_pos (by omega), Nat.add_sub_cancel_left] at this
  exact this
theorem OwnI.mono {B B' : Nat} {w : World} {v : Value} {xs : List Int} (h : OwnI B' w v xs) (hB : B ≤ B') : OwnI B w v xs := by
  refine ⟨h.1, ?_⟩
  rcases h.2 with h0 | ⟨g, cap, cur, hv, hg, rest⟩
  · exact Or.inl h0
  · exact Or.inr ⟨g, cap, cur, hv, Nat.le_trans hB hg, rest⟩
end Go.Proofs.YtfioknaadbgjlaaGreatDoor.F
namespace Go.Proofs.YtfioknaadbgjlaaGreatDoor.F
open Go.RowKit Go.Sort
end Go.Proofs.YtfioknaadbgjlaaGreatDoor.F
namespace Go.Proofs.YtfioknaadbgjlaaGreatDoor.F
open Go.RowKit
def resT : List Int := [34, 37, 42, 47, 58, 60, 62, 63, 92, 124]
def reservedI (r : Int) : Bool := decide (r ∈ resT ∨ (0 ≤ r ∧ r < 32) ∨ r = 127)
end Go.Proofs.YtfioknaadbgjlaaGreatDoor.F
namespace Go.Proofs.YtfioknaadbgjlaaGreatDoor.F
open Go.RowKit
def hexT : List UInt8 := [48, 49, 50, 51, 52, 53, 54, 55, 56, 57, 97, 98, 99, 100, 101, 102]
def escB (x : UInt8) : List UInt8 := [37, hexT.getD (x.toNat / 16) 0, hexT.getD (x.toNat % 16) 0]
def escL (l : List UInt8) : List UInt8 := l.flatMap escB
theorem escL_length : ∀ l : List UInt8, (escL l).length = 3 * l.length
  | [] => rfl
  | x :: l => by
    have ih := escL_length l
    simp only [escL, List.flatMap_cons, List.length_append] at ih ⊢
    rw [ih]; simp [escB]; omega
theorem esc_step {b : ByteArray} {i x : Nat} (hi : i < b.size) (hx : Go.PlainAid.bt b i = (x : Int)) : escL (b.data.toList.take (i + 1)) = escL (b.data.toList.take i) ++ [37, hexT.getD (x / 16) 0, hexT.getD (x % 16) 0] := by
  have hl : i < b.data.toList.length := by simpa using hi
  have h1 := Go.PlainAid.get_bt b i hi
  rw [hx] at h1
  have h2 : (b[i]'hi).toNat = x := by omega
  have h3 : b.data.toList[i] = b[i]'hi := by simp [ByteArray.getElem_eq_getElem_data]
  rw [List.take_add_one, List.getElem?_eq_getElem hl, h3]
  simp only [escL, List.flatMap_append, Option.toList_some, List.flatMap_cons, List.flatMap_nil, List.append_nil, escB, h2]
end Go.Proofs.YtfioknaadbgjlaaGreatDoor.F
namespace Go.Proofs.YtfioknaadbgjlaaGreatDoor.F
open Go.RowKit Go.Sort
end Go.Proofs.YtfioknaadbgjlaaGreatDoor.F
