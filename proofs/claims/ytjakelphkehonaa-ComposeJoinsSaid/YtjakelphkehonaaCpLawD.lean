/-
  ComposeHangul answers true: the walk.
-/
import Derived.Test.YtjakelphkehonaaCpLawC
namespace Go.Proofs.Ytjakelphkehonaa
open Go.RowKit Go.Sort
set_option linter.unusedVariables false

theorem cell_new (w : World) (cur : Array Value) (e : TypeId) (k : Nat) : (w.alloc (.cells cur e)).cell? ⟨w.heap.size, k, none⟩ = cur[k]? := by
  simp only [World.cell?, heap_alloc_new]
  rfl
set_option maxHeartbeats 2000000 in
theorem hangul_law (l v t : Int) (hl : 0 ≤ l ∧ l ≤ 255) (hv : 0 ≤ v ∧ v ≤ 255) (ht : 0 ≤ t ∧ t ≤ 255) (w : World) :
    Calls Try.prog 3 #[.int .u8 l, .int .u8 v, .int .u8 t] w (LawPost w) := by
  obtain ⟨l0, l1⟩ := hl
  obtain ⟨v0, v1⟩ := hv
  obtain ⟨t0, t1⟩ := ht
  obtain ⟨p, hp⟩ : ∃ p, l % 19 = p := ⟨_, rfl⟩
  obtain ⟨q, hq⟩ : ∃ q, v % 21 = q := ⟨_, rfl⟩
  obtain ⟨s, hs⟩ : ∃ s, t % 27 = s := ⟨_, rfl⟩
  have p0 : 0 ≤ p := by omega
  have p1 : p ≤ 18 := by omega
  have q0 : 0 ≤ q := by omega
  have q1 : q ≤ 20 := by omega
  have s0 : 0 ≤ s := by omega
  have s1 : s ≤ 26 := by omega
  have c5 := fun w => awake3_c w
  have hT := hangul_tog ⟨p0, p1⟩ ⟨q0, q1⟩ ⟨s0, s1⟩
  have hW := hangul_whole ⟨p0, p1⟩ ⟨q0, q1⟩ ⟨s0, s1⟩
  have hA := hangul_apart ⟨p0, p1⟩ ⟨q0, q1⟩ ⟨s0, s1⟩
  obtain ⟨S, hS⟩ : ∃ S, 44032 + p * 588 + q * 28 + s + 1 = S := ⟨_, rfl⟩
  rw [hS] at hT hA
  have S0 : 44032 ≤ S := by omega
  have S1 : S ≤ 55203 := by omega
  obtain ⟨A, hAA⟩ : ∃ A, [4352 + p, 4449 + q, 4520 + s] = A := ⟨_, rfl⟩
  have hAl : A.length = 3 := by rw [← hAA]; rfl
  rw [hAA] at hT hW hA
  obtain ⟨W1, hW1⟩ : ∃ W1, w.alloc (.cells #[.int .i32 (4352 + p), .int .i32 (4449 + q), .int .i32 (4520 + s)] 21) = W1 := ⟨_, rfl⟩
  have HSI : Hid (SliceIs W1 (.slice (some ⟨w.heap.size, 0, none⟩) 3 3) A) := Lib.hid (by
    refine Or.inr ⟨w.heap.size, 0, 3, by rw [← hW1]; simp, by rw [hAl], fun j hj => ?_⟩
    rw [hAl] at hj
    rw [← hW1, ← hAA]
    match j, hj with
    | 0, _ => exact cell_new _ _ _ _
    | 1, _ => exact cell_new _ _ _ _
    | 2, _ => exact cell_new _ _ _ _)
  have HBW : Hid (Below w.heap.size w W1) := Lib.hid (by rw [← hW1]; exact (Below.refl _ _).alloc (Nat.le_refl _) _)
  have HT := Lib.hid hT
  have HA := Lib.hid hA
  have HW := Lib.hid hW
  have HAL := Lib.hid hAl
  have hm1 : marksN (fullL [S]) ≤ 40 := by have := marks_full [S]; simp at this; omega
  have HM1 := Lib.hid hm1
  have hm2 : marksN (fullL A) ≤ 40 := by have := marks_full A; omega
  have HM2 := Lib.hid hm2
  clear hT hW hA hS hAA hAl hm1 hm2
  unfold LawPost
  go_enter Try.func3, Try.ntmps3
  go_wp2_with fail
  try rw [hW1]
  clear hW1
  have c1 := together_c A _ W1 HSI.out (by rw [HAL.out]; omega)
  unfold TogPost at c1
  rw [HT.out] at c1
  refine c1.mono ?_
  rintro e w2 ⟨vt, rfl, st, hb2⟩
  have sA := HSI.out.kept hb2
  have hbb := below_step HBW.out hb2
  clear c1 hb2 HSI HBW
  obtain ⟨g, off, cap, hg, hvt, hc⟩ : ∃ g off cap, g < w2.heap.size ∧ vt = .slice (some ⟨g, off, none⟩) 1 cap ∧ w2.cell? ⟨g, off, none⟩ = some (.int .i32 S) := by
    rcases st with ⟨h0, _⟩ | ⟨g, off, cap, hg, hv, hc⟩
    · cases h0
    · exact ⟨g, off, cap, hg, hv, hc 0 (by simp)⟩
  subst hvt
  have HST := Lib.hid st
  have HSA := Lib.hid sA
  clear st sA
  go_wp2_with fail
  refine (c5 _).mono ?_
  rintro e w3 ⟨rfl, hb3⟩
  have hc3 : w3.cell? ⟨g, off, none⟩ = some (.int .i32 S) := by rw [hb3.cell (p := ⟨g, off, none⟩) hg]; exact hc
  have st3 := HST.out.kept hb3
  have sA3 := HSA.out.kept hb3
  have hbb3 := below_step hbb hb3
  have c2 := apart_c [S] _ w3 st3 (by simp) HM1.out
  unfold ApartPost at c2
  rw [HA.out] at c2
  clear hb3 hbb hc HST HSA hg
  go_wp2_with fail
  refine c2.mono ?_
  rintro e w4 ⟨va, rfl, s4, _, hb4⟩
  have st4 := st3.kept hb4
  have sA4 := sA3.kept hb4
  have c3 := same_c s4 sA4 (by rw [HAL.out]; omega)
  rw [decide_eq_true rfl] at c3
  have hbb4 := below_step hbb3 hb4
  clear c2 hb4 hbb3 st3 sA3 s4 hc3
  go_wp2_with fail
  refine c3.mono ?_
  rintro e w5 ⟨rfl, hb5⟩
  have st5 := st4.kept hb5
  have c4 := stablecp_c A _ w5 (sA4.kept hb5) (by rw [HAL.out]; omega) HM2.out
  unfold StablePost at c4
  rw [HW.out, decide_eq_true rfl] at c4
  have hbb5 := below_step hbb4 hb5
  clear c3 hb5 hbb4 st4 sA4
  go_wp2_with fail
  refine c4.mono ?_
  rintro e w6 ⟨rfl, hb6⟩
  have c6 := stablecp_c [S] _ w6 (st5.kept hb6) (by simp) HM1.out
  unfold StablePost at c6
  rw [decide_eq_false (show ¬ [S] = apartI [S] from fun h => by
    have := congrArg List.length h
    rw [HA.out, HAL.out] at this
    simp at this)] at c6
  have hbb6 := below_step hbb5 hb6
  clear c4 hb6 hbb5 st5
  go_wp2_with fail
  refine c6.mono ?_
  rintro e w7 ⟨rfl, hb7⟩
  have HB := Lib.hid (below_step hbb6 hb7)
  clear c6 hb7 hbb6
  go_wp2
  go_ret
  exact ⟨rfl, HB.out⟩
end Go.Proofs.Ytjakelphkehonaa
