/-
  The third laws' awake, ComposePairs and ComposeBack answer true.
-/
import Derived.Test.YtjakelphkehonaaCpPair
import Derived.Test.YtjakelphkehonaaTogMath
namespace Go.Proofs.Ytjakelphkehonaa
open Go.RowKit
set_option linter.unusedVariables false

theorem pair_e9 : pairI 101 769 = 233 := by decide +kernel
theorem class_327 : classI 807 = 202 := by decide +kernel
set_option maxHeartbeats 1000000 in
theorem awake3_c (w : World) : Calls Try.prog 11 #[] w fun e w' => e = .returned (.bool true) ∧ Below w.heap.size w w' := by
  have cP := paircp_c 101 769 w
  unfold PairPost at cP
  rw [pair_e9, show decide ((0 : Int) < 233) = true from rfl] at cP
  have cC := fun w => cls_c 807 w
  rw [class_327] at cC
  go_enter Try.func11, Try.ntmps11
  go_wp2_with fail
  refine cP.mono ?_
  rintro e w1 ⟨rfl, hb1⟩
  go_wp2_with fail
  refine (cC _).mono ?_
  rintro e w2 ⟨rfl, rfl⟩
  go_wp2
  go_ret
  exact ⟨rfl, hb1⟩

set_option maxHeartbeats 2000000 in
theorem pairs_law (a b r : Int) (ha : -2147483648 ≤ a) (ha' : a ≤ 2147483647) (hb : -2147483648 ≤ b) (hb' : b ≤ 2147483647) (hr : -2147483648 ≤ r) (hr' : r ≤ 2147483647) (w : World) :
    Calls Try.prog 5 #[.int .i32 a, .int .i32 b, .int .i32 r] w fun e w' => e = .returned (.bool true) ∧ Below w.heap.size w w' := by
  have c1 := fun w => paircp_c a b w
  have c2 := fun w => splitcp_c r w
  have c3 := fun w => pair_c a b ha ha' hb hb' w
  have c4 := fun w => split_c r hr hr' w
  have c5 := fun w => awake3_c w
  have c6 := fun w => cls_c r w
  have c7 := fun w => class_c r w
  unfold PairPost at c1
  unfold SplitPost at c2
  generalize pairI a b = x at *
  generalize splitR r = s at *
  generalize classI r = c at *
  obtain ⟨s1, s2, s3⟩ := s
  simp only at c2 c4
  clear ha ha' hb hb' hr hr'
  have hd : ∃ D, decide (0 < x) = D ∧ (0 < x ↔ D = true) := ⟨_, rfl, by simp⟩
  by_cases hx : 0 < x
  · rw [decide_eq_true hx] at c1
    clear hd
    go_enter Try.func5, Try.ntmps5
    go_wp2_with fail
    refine (c1 _).mono ?_
    rintro e w1 ⟨rfl, hb1⟩
    go_wp2_with fail
    refine (c2 _).mono ?_
    rintro e w2 ⟨rfl, hb2⟩
    go_wp2_with fail
    refine (c3 _).mono ?_
    rintro e w3 ⟨rfl, hb3⟩
    go_wp2_with fail
    refine (c4 _).mono ?_
    rintro e w4 ⟨rfl, hb4⟩
    go_wp2_with fail
    refine (c5 _).mono ?_
    rintro e w5 ⟨rfl, hb5⟩
    go_wp2_with fail
    refine (c6 _).mono ?_
    rintro e w6 ⟨rfl, h6⟩
    rw [h6]
    go_wp2_with fail
    refine (c7 _).mono ?_
    rintro e w7 ⟨rfl, h7⟩
    rw [← h7]
    have HB := Lib.hid (below_step (below_step (below_step (below_step hb1 hb2) hb3) hb4) hb5)
    clear hb1 hb2 hb3 hb4 hb5 h6 h7
    go_wp2
    go_ret
    exact ⟨rfl, HB.out⟩
  · rw [decide_eq_false hx] at c1
    clear hd
    have HD := Lib.hid (show decide (0 < x) = false from decide_eq_false hx)
    go_enter Try.func5, Try.ntmps5
    go_wp2_with fail
    refine (c1 _).mono ?_
    rintro e w1 ⟨rfl, hb1⟩
    go_wp2_with fail
    refine (c2 _).mono ?_
    rintro e w2 ⟨rfl, hb2⟩
    go_wp2_with fail
    refine (c3 _).mono ?_
    rintro e w3 ⟨rfl, hb3⟩
    go_wp2_with fail
    refine (c4 _).mono ?_
    rintro e w4 ⟨rfl, hb4⟩
    go_wp2_with fail
    refine (c5 _).mono ?_
    rintro e w5 ⟨rfl, hb5⟩
    go_wp2_with fail
    refine (c6 _).mono ?_
    rintro e w6 ⟨rfl, h6⟩
    rw [h6]
    go_wp2_with fail
    refine (c7 _).mono ?_
    rintro e w7 ⟨rfl, h7⟩
    rw [← h7]
    have HB := Lib.hid (below_step (below_step (below_step (below_step hb1 hb2) hb3) hb4) hb5)
    clear hb1 hb2 hb3 hb4 hb5 h6 h7
    go_wp2
    go_ret
    exact ⟨by rw [HD.out]; rfl, HB.out⟩

/-- The second half of ComposeBack: what the third one is split into. -/
def BackB (r : Int) (s : Int × Int × Bool) : Prop := (s = (0, 0, false)) ∨ (s.2.2 = true ∧ pairI s.1 s.2.1 = r ∧ 0 < r)
theorem back_b (r : Int) : BackB r (splitR r) := by
  unfold splitR
  cases h : splitI r with
  | none => exact Or.inl rfl
  | some p =>
    refine Or.inr ⟨rfl, split_back h, ?_⟩
    rcases splitI_cases h with h | h | h <;> omega
set_option maxHeartbeats 2000000 in
theorem back_law (a b r : Int) (w : World) :
    Calls Try.prog 6 #[.int .i32 a, .int .i32 b, .int .i32 r] w fun e w' => e = .returned (.bool true) ∧ Below w.heap.size w w' := by
  have c1 := fun w => paircp_c a b w
  have c2 := fun w => splitcp_c r w
  have c5 := fun w => awake3_c w
  unfold PairPost at c1
  unfold SplitPost at c2
  have hx : (¬ 0 < pairI a b) ∨ (0 < pairI a b ∧ splitR (pairI a b) = (a, b, true)) := by
    by_cases h : 0 < pairI a b
    · exact Or.inr ⟨h, by unfold splitR; rw [pair_back h]⟩
    · exact Or.inl h
  have hr := back_b r
  have c3 := fun w => splitcp_c (pairI a b) w
  unfold SplitPost at c3
  have c4 := fun p q w => paircp_c p q w
  unfold PairPost at c4
  generalize pairI a b = x at *
  generalize splitR r = s at *
  obtain ⟨s1, s2, s3⟩ := s
  unfold BackB at hr
  simp only at c2 hr
  have c6 := fun w => c4 s1 s2 w
  clear c4
  rcases hx with hx | ⟨hx, hs⟩
  · rw [decide_eq_false hx] at c1
    rcases hr with hr | ⟨rfl, hp, hr0⟩
    · simp only [Prod.mk.injEq] at hr
      obtain ⟨rfl, rfl, rfl⟩ := hr
      go_enter Try.func6, Try.ntmps6
      go_wp2_with fail
      refine (c1 _).mono ?_
      rintro e w1 ⟨rfl, hb1⟩
      go_wp2_with fail
      refine (c2 _).mono ?_
      rintro e w3 ⟨rfl, hb3⟩
      have hb3 := below_step hb1 hb3
      go_wp2_with fail
      refine (c5 _).mono ?_
      rintro e w5 ⟨rfl, hb5⟩
      have HB := Lib.hid (below_step hb3 hb5)
      clear hb5 hb3
      go_wp2
      go_ret
      exact ⟨rfl, HB.out⟩
    · rw [hp, decide_eq_true hr0] at c6
      go_enter Try.func6, Try.ntmps6
      go_wp2_with fail
      refine (c1 _).mono ?_
      rintro e w1 ⟨rfl, hb1⟩
      go_wp2_with fail
      refine (c2 _).mono ?_
      rintro e w3 ⟨rfl, hb3⟩
      have hb3 := below_step hb1 hb3
      go_wp2_with fail
      refine (c6 _).mono ?_
      rintro e w4 ⟨rfl, hb4⟩
      have hb4 := below_step hb3 hb4
      go_wp2_with fail
      refine (c5 _).mono ?_
      rintro e w5 ⟨rfl, hb5⟩
      have HB := Lib.hid (below_step hb4 hb5)
      clear hb5 hb4
      go_wp2
      go_ret
      exact ⟨rfl, HB.out⟩
  · rw [decide_eq_true hx] at c1
    rw [hs] at c3
    rcases hr with hr | ⟨rfl, hp, hr0⟩
    · simp only [Prod.mk.injEq] at hr
      obtain ⟨rfl, rfl, rfl⟩ := hr
      go_enter Try.func6, Try.ntmps6
      go_wp2_with fail
      refine (c1 _).mono ?_
      rintro e w1 ⟨rfl, hb1⟩
      go_wp2_with fail
      refine (c3 _).mono ?_
      rintro e w2 ⟨rfl, hb2⟩
      have hb2 := below_step hb1 hb2
      go_wp2_with fail
      refine (c2 _).mono ?_
      rintro e w3 ⟨rfl, hb3⟩
      have hb3 := below_step hb2 hb3
      go_wp2_with fail
      refine (c5 _).mono ?_
      rintro e w5 ⟨rfl, hb5⟩
      have HB := Lib.hid (below_step hb3 hb5)
      clear hb5 hb3
      go_wp2
      go_ret
      exact ⟨rfl, HB.out⟩
    · rw [hp, decide_eq_true hr0] at c6
      go_enter Try.func6, Try.ntmps6
      go_wp2_with fail
      refine (c1 _).mono ?_
      rintro e w1 ⟨rfl, hb1⟩
      go_wp2_with fail
      refine (c3 _).mono ?_
      rintro e w2 ⟨rfl, hb2⟩
      have hb2 := below_step hb1 hb2
      go_wp2_with fail
      refine (c2 _).mono ?_
      rintro e w3 ⟨rfl, hb3⟩
      have hb3 := below_step hb2 hb3
      go_wp2_with fail
      refine (c6 _).mono ?_
      rintro e w4 ⟨rfl, hb4⟩
      have hb4 := below_step hb3 hb4
      go_wp2_with fail
      refine (c5 _).mono ?_
      rintro e w5 ⟨rfl, hb5⟩
      have HB := Lib.hid (below_step hb4 hb5)
      clear hb5 hb4
      go_wp2
      go_ret
      exact ⟨rfl, HB.out⟩
end Go.Proofs.Ytjakelphkehonaa
