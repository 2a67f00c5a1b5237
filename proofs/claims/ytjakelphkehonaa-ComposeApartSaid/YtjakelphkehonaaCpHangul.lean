/-
  The contracts of compose's isOpen, joinHangul, splitHangul; memory stays.
-/
import Derived.Test.YtjakelphkehonaaCpSmall
namespace Go.Proofs.Ytjakelphkehonaa
open Go.RowKit
set_option linter.unusedVariables false

def openB (r : Int) : Bool := decide (44032 ≤ r ∧ r ≤ 55203 ∧ (r - 44032) % 28 = 0)
set_option maxHeartbeats 1000000 in
theorem open_c (r : Int) (w : World) : Calls Try.prog 37 #[.int .i32 r] w fun e w' => e = .returned (.bool (openB r)) ∧ w' = w := by
  by_cases h : 44032 ≤ r ∧ r ≤ 55203
  · have c1 := within_yes r 44032 11172 h.1 (by omega) (by decide) (by decide) (by decide)
    obtain ⟨h1, h2⟩ := h
    have hw : IntKind.i32.wrap (r - 44032) = r - 44032 := by rw [IntKind.wrap_i32]; omega
    obtain ⟨K, hK⟩ : ∃ K : Int, r - 44032 = K := ⟨_, rfl⟩
    have k0 : 0 ≤ K := by omega
    have k1 : K ≤ 11171 := by omega
    by_cases h0 : K % 28 = 0
    · have HX := Lib.hid (show openB r = true from decide_eq_true ⟨h1, h2, by rw [hK]; exact h0⟩)
      go_enter Try.func37, Try.ntmps37
      go_wp2_with fail
      refine (c1 _).mono ?_
      rintro e w' ⟨rfl, rfl⟩
      go_wp2
      go_ret
      exact ⟨by rw [HX.out]; first | rfl | (simp [h0]), rfl⟩
    · have HX := Lib.hid (show openB r = false from decide_eq_false fun hh => h0 (by rw [← hK]; exact hh.2.2))
      have h0' : (K % 28 == 0) = false := by rw [beq_eq_false_iff_ne]; exact h0
      go_enter Try.func37, Try.ntmps37
      go_wp2_with fail
      refine (c1 _).mono ?_
      rintro e w' ⟨rfl, rfl⟩
      go_wp2
      go_ret
      exact ⟨by rw [HX.out]; first | rfl | (simp [h0]), rfl⟩
  · have c1 := within_no r 44032 11172 (by omega) (by decide) (by decide) (by decide)
    have HX := Lib.hid (show openB r = false from decide_eq_false fun hh => h ⟨hh.1, hh.2.1⟩)
    clear h
    go_enter Try.func37, Try.ntmps37
    go_wp2_with fail
    refine (c1 _).mono ?_
    rintro e w' ⟨rfl, rfl⟩
    go_wp2
    go_ret
    exact ⟨by rw [HX.out]; rfl, rfl⟩

def hangI (a b : Int) : Int :=
  if 4352 ≤ a ∧ a ≤ 4370 ∧ 4449 ≤ b ∧ b ≤ 4469 then 44032 + (a - 4352) * 588 + (b - 4449) * 28
  else if 44032 ≤ a ∧ a ≤ 55203 ∧ (a - 44032) % 28 = 0 ∧ 4520 ≤ b ∧ b ≤ 4546 then a + (b - 4519)
  else 0
theorem hangI_lv {a b : Int} (h : 4352 ≤ a ∧ a ≤ 4370 ∧ 4449 ≤ b ∧ b ≤ 4469) : hangI a b = 44032 + (a - 4352) * 588 + (b - 4449) * 28 := if_pos h
theorem hangI_lvt {a b : Int} (h : 44032 ≤ a ∧ a ≤ 55203 ∧ (a - 44032) % 28 = 0 ∧ 4520 ≤ b ∧ b ≤ 4546) : hangI a b = a + (b - 4519) := by
  unfold hangI; rw [if_neg (by omega), if_pos h]
theorem hangI_no {a b : Int} (h : ¬ (4352 ≤ a ∧ a ≤ 4370 ∧ 4449 ≤ b ∧ b ≤ 4469)) (h' : ¬ (44032 ≤ a ∧ a ≤ 55203 ∧ (a - 44032) % 28 = 0 ∧ 4520 ≤ b ∧ b ≤ 4546)) : hangI a b = 0 := by
  unfold hangI; rw [if_neg h, if_neg h']

def HangPost (a b : Int) (w : World) (e : Ending) (w' : World) : Prop := e = .returned (.tuple #[.int .i32 (hangI a b), .bool (decide (0 < hangI a b))]) ∧ w' = w

set_option maxHeartbeats 1000000 in
theorem hang_lv (a b : Int) (h : 4352 ≤ a ∧ a ≤ 4370 ∧ 4449 ≤ b ∧ b ≤ 4469) (w : World) : Calls Try.prog 29 #[.int .i32 a, .int .i32 b] w (HangPost a b w) := by
  have c1 := within_yes a 4352 19 h.1 (by omega) (by decide) (by decide) (by decide)
  have c2 := within_yes b 4449 21 h.2.2.1 (by omega) (by decide) (by decide) (by decide)
  have HX := Lib.hid (show hangI a b = 44032 + 588 * (a - 4352) + 28 * (b - 4449) by rw [hangI_lv h]; omega)
  have HT := Lib.hid (show decide (0 < hangI a b) = true by rw [decide_eq_true_eq, hangI_lv h]; omega)
  unfold HangPost
  obtain ⟨h1, h2, h3, h4⟩ := h
  go_enter Try.func29, Try.ntmps29
  go_wp2_with fail
  refine (c1 _).mono ?_
  rintro e w' ⟨rfl, rfl⟩
  go_wp2_with fail
  refine (c2 _).mono ?_
  rintro e w' ⟨rfl, rfl⟩
  go_wp2
  go_ret2
  exact ⟨by rw [HT.out, HX.out]; rfl, rfl⟩
set_option maxHeartbeats 1000000 in
theorem hang_lvt (a b : Int) (h : 44032 ≤ a ∧ a ≤ 55203 ∧ (a - 44032) % 28 = 0 ∧ 4520 ≤ b ∧ b ≤ 4546) (w : World) : Calls Try.prog 29 #[.int .i32 a, .int .i32 b] w (HangPost a b w) := by
  have c1 := within_no a 4352 19 (by omega) (by decide) (by decide) (by decide)
  have c2 := within_yes b 4520 27 h.2.2.2.1 (by omega) (by decide) (by decide) (by decide)
  have c3 := open_c a
  rw [show openB a = true from decide_eq_true ⟨h.1, h.2.1, h.2.2.1⟩] at c3
  have HX := Lib.hid (show hangI a b = a + b - 4520 + 1 by rw [hangI_lvt h]; omega)
  have HT := Lib.hid (show decide (0 < hangI a b) = true by rw [decide_eq_true_eq, hangI_lvt h]; omega)
  unfold HangPost
  obtain ⟨h1, h2, h3, h4, h5⟩ := h
  go_enter Try.func29, Try.ntmps29
  go_wp2_with fail
  refine (c1 _).mono ?_
  rintro e w' ⟨rfl, rfl⟩
  go_wp2_with fail
  refine (c3 _).mono ?_
  rintro e w' ⟨rfl, rfl⟩
  go_wp2_with fail
  refine (c2 _).mono ?_
  rintro e w' ⟨rfl, rfl⟩
  go_wp2
  go_ret2
  exact ⟨by rw [HT.out, HX.out]; rfl, rfl⟩
set_option maxHeartbeats 1000000 in
theorem hang_no (a b : Int) (h : ¬ (4352 ≤ a ∧ a ≤ 4370 ∧ 4449 ≤ b ∧ b ≤ 4469)) (h' : ¬ (44032 ≤ a ∧ a ≤ 55203 ∧ (a - 44032) % 28 = 0 ∧ 4520 ≤ b ∧ b ≤ 4546)) (w : World) : Calls Try.prog 29 #[.int .i32 a, .int .i32 b] w (HangPost a b w) := by
  have HX := Lib.hid (hangI_no h h')
  have HT := Lib.hid (show decide (0 < hangI a b) = false by rw [decide_eq_false_iff_not, hangI_no h h']; omega)
  unfold HangPost
  by_cases ha : 4352 ≤ a ∧ a ≤ 4370
  · have c1 := within_yes a 4352 19 ha.1 (by omega) (by decide) (by decide) (by decide)
    have c2 := within_no b 4449 21 (by omega) (by decide) (by decide) (by decide)
    have c3 := open_c a
    rw [show openB a = false from decide_eq_false (by omega)] at c3
    clear h h' ha
    go_enter Try.func29, Try.ntmps29
    go_wp2_with fail
    refine (c1 _).mono ?_
    rintro e w' ⟨rfl, rfl⟩
    go_wp2_with fail
    refine (c2 _).mono ?_
    rintro e w' ⟨rfl, rfl⟩
    go_wp2_with fail
    refine (c3 _).mono ?_
    rintro e w' ⟨rfl, rfl⟩
    go_wp2
    go_ret2
    exact ⟨by rw [HT.out, HX.out]; rfl, rfl⟩
  · have c1 := within_no a 4352 19 (by omega) (by decide) (by decide) (by decide)
    by_cases ho : 44032 ≤ a ∧ a ≤ 55203 ∧ (a - 44032) % 28 = 0
    · have c2 := within_no b 4520 27 (by omega) (by decide) (by decide) (by decide)
      have c3 := open_c a
      rw [show openB a = true from decide_eq_true ho] at c3
      clear h h' ha ho
      go_enter Try.func29, Try.ntmps29
      go_wp2_with fail
      refine (c1 _).mono ?_
      rintro e w' ⟨rfl, rfl⟩
      go_wp2_with fail
      refine (c3 _).mono ?_
      rintro e w' ⟨rfl, rfl⟩
      go_wp2_with fail
      refine (c2 _).mono ?_
      rintro e w' ⟨rfl, rfl⟩
      go_wp2
      go_ret2
      exact ⟨by rw [HT.out, HX.out]; rfl, rfl⟩
    · have c3 := open_c a
      rw [show openB a = false from decide_eq_false ho] at c3
      clear h h' ha ho
      go_enter Try.func29, Try.ntmps29
      go_wp2_with fail
      refine (c1 _).mono ?_
      rintro e w' ⟨rfl, rfl⟩
      go_wp2_with fail
      refine (c3 _).mono ?_
      rintro e w' ⟨rfl, rfl⟩
      go_wp2
      go_ret2
      exact ⟨by rw [HT.out, HX.out]; rfl, rfl⟩
theorem hang_c (a b : Int) (w : World) : Calls Try.prog 29 #[.int .i32 a, .int .i32 b] w (HangPost a b w) := by
  by_cases h : 4352 ≤ a ∧ a ≤ 4370 ∧ 4449 ≤ b ∧ b ≤ 4469
  · exact hang_lv a b h w
  · by_cases h' : 44032 ≤ a ∧ a ≤ 55203 ∧ (a - 44032) % 28 = 0 ∧ 4520 ≤ b ∧ b ≤ 4546
    · exact hang_lvt a b h' w
    · exact hang_no a b h h' w

/-- A syllable's pair. -/
def sylR (r : Int) : Int × Int × Bool := if r < 44032 ∨ 55203 < r then (0, 0, false) else if 0 < (r - 44032) % 28 then (r - (r - 44032) % 28, 4519 + (r - 44032) % 28, true) else (4352 + (r - 44032) / 588, 4449 + (r - 44032) % 588 / 28, true)
set_option maxHeartbeats 1000000 in
theorem syl_c (r : Int) (w : World) : Calls Try.prog 30 #[.int .i32 r] w fun e w' => e = .returned (.tuple #[.int .i32 (sylR r).1, .int .i32 (sylR r).2.1, .bool (sylR r).2.2]) ∧ w' = w := by
  by_cases h : r < 44032 ∨ 55203 < r
  · have HX := Lib.hid (show sylR r = (0, 0, false) from if_pos h)
    have c1 := within_no r 44032 11172 (by omega) (by decide) (by decide) (by decide)
    clear h
    go_enter Try.func30, Try.ntmps30
    go_wp2_with fail
    refine (c1 _).mono ?_
    rintro e w' ⟨rfl, rfl⟩
    go_wp2
    go_ret3
    exact ⟨by rw [HX.out]; rfl, rfl⟩
  · have c1 := within_yes r 44032 11172 (by omega) (by omega) (by decide) (by decide) (by decide)
    have f1 : (44032 : Int) ≤ r := by omega
    have f2 : r ≤ (55203 : Int) := by omega
    have hw : IntKind.i32.wrap (r - 44032) = r - 44032 := by rw [IntKind.wrap_i32]; omega
    obtain ⟨K, hK⟩ : ∃ K : Int, r - 44032 = K := ⟨_, rfl⟩
    have k0 : 0 ≤ K := by omega
    have k1 : K ≤ 11171 := by omega
    by_cases r0 : 0 < K % 28
    · have HX := Lib.hid (show sylR r = (r - K % 28, 4520 + K % 28 - 1, true) by unfold sylR; rw [if_neg h, hK, if_pos r0, show 4520 + K % 28 - 1 = 4519 + K % 28 by omega])
      have q0 : 0 ≤ K % 28 := by omega
      have q1 : K % 28 < 28 := by omega
      have q2 : (K % 28 == 0) = false := by rw [beq_eq_false_iff_ne]; omega
      clear h
      go_enter Try.func30, Try.ntmps30
      go_wp2_with fail
      refine (c1 _).mono ?_
      rintro e w' ⟨rfl, rfl⟩
      go_wp2
      go_ret3
      exact ⟨by rw [HX.out]; rfl, rfl⟩
    · have HX := Lib.hid (show sylR r = (4352 + K / 588, 4449 + K % 588 / 28, true) by unfold sylR; rw [if_neg h, hK, if_neg r0])
      have q2 : K % 28 = 0 := by omega
      clear h
      go_enter Try.func30, Try.ntmps30
      go_wp2_with fail
      refine (c1 _).mono ?_
      rintro e w' ⟨rfl, rfl⟩
      go_wp2
      go_ret3
      exact ⟨by rw [HX.out]; rfl, rfl⟩
end Go.Proofs.Ytjakelphkehonaa
