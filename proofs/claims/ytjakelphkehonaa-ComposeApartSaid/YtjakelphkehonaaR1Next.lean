/-
  The contract of the first reference's Next: it returns what 'nextG' says.
-/
import Derived.Test.YtjakelphkehonaaR1Is
import Derived.Test.YtjakelphkehonaaR1Bytes
import Derived.Test.YtjakelphkehonaaNextG
import Derived.Handy
import Derived.PlainAid
import Derived.Deep.RegionWith
import Derived.Deep.RegionHeld3
import Derived.Deep.QuietTactic
import Derived.BigQuiet
import Derived.LoopTactic
namespace Go.Proofs.Ytjakelphkehonaa
open Go.RowKit
set_option linter.unusedVariables false

def RelN (b : ByteArray) (k : Nat) (w0 : World) (sv : Value) (wr : World) : Prop :=
  ∃ s : Nat, 1 ≤ s ∧ s ≤ 5 ∧ sv = .int .i64 s ∧ (∀ t, 1 ≤ t → t < s → ¬ Hit t (b.data.toList.drop k)) ∧ Below w0.heap.size w0 wr

theorem rel_more {s : Nat} {l : List UInt8} (h : ∀ t, 1 ≤ t → t < s → ¬ Hit t l) (h' : ¬ Hit s l) : ∀ t, 1 ≤ t → t < s + 1 → ¬ Hit t l := by
  intro t h1 h2
  by_cases e : t = s
  · subst e; exact h'
  · exact h t h1 (by omega)

set_option maxHeartbeats 4000000 in
theorem refNext_in (b : ByteArray) (k : Nat) (hk : k < b.size) (hs : b.size ≤ 4000) (w : World) :
    Calls Try.prog 38 #[.string b, .int .i64 k] w fun e w' => e = .returned (.tuple #[.int .i32 (nextG b k).1, .int .i64 (nextG b k).2]) ∧ Below w.heap.size w w' := by
  have hkz : (k : Int) < (b.size : Int) := by omega
  have hk0 : ¬ (k : Int) < 0 := by omega
  have ix2 : ∀ w : World, (Instr.index 54 (.agg #[.int .i64 0, .int .i64 0, .int .i64 32, .int .i64 16, .int .i64 8]) (.int .i64 2)).run Try.prog w = .ok (.int .i64 32) w := fun _ => by kernel_rfl
  have ix3 : ∀ w : World, (Instr.index 54 (.agg #[.int .i64 0, .int .i64 0, .int .i64 32, .int .i64 16, .int .i64 8]) (.int .i64 3)).run Try.prog w = .ok (.int .i64 16) w := fun _ => by kernel_rfl
  have ix4 : ∀ w : World, (Instr.index 54 (.agg #[.int .i64 0, .int .i64 0, .int .i64 32, .int .i64 16, .int .i64 8]) (.int .i64 4)).run Try.prog w = .ok (.int .i64 8) w := fun _ => by kernel_rfl
  go_enter Try.func38, Try.ntmps38
  go_wp2
  go_loopw [6] (fun sv wr => RelN b k w sv wr) (fun sv _ => 5 - (intOf sv).toNat)
  case atStart => exact ⟨1, by omega, by omega, rfl, fun t h1 h2 => by omega, Below.refl _ _⟩
  case round =>
    obtain ⟨s, h1, h5, rfl, hno, hbel⟩ := hrel
    have HNO := Lib.hid hno
    clear hno
    by_cases h4 : s = 5
    · subst h4
      have HZ : Hid (nextG b k = (0, 0)) := by rw [nextG_L hk]; exact no_hit (fun t ha hb => HNO.out t ha (by omega))
      go_wp2
      go_ret2
      exact ⟨by rw [HZ.out]; rfl, hbel⟩
    · by_cases hfit : k + s ≤ b.size
      · obtain rfl | rfl | rfl | rfl : s = 1 ∨ s = 2 ∨ s = 3 ∨ s = 4 := by omega
        · have f1 : ¬ ((b.size : Int) - (k : Int) < 1) := by omega
          have hB := Go.PlainAid.get_bt b
          obtain ⟨A, hA⟩ : ∃ A : Int, Go.PlainAid.bt b k = A := ⟨_, rfl⟩
          have gA0 : 0 ≤ A := by have := Go.PlainAid.bt_nonneg b k; omega
          have gA : A ≤ 255 := by have := Go.PlainAid.bt_le b k; omega
          have hNL : (numL 1 (b.data.toList.drop k) : Int) = A := by have := gB_bt b k 0; unfold numL; rw [if_pos rfl, this]; exact hA
          have hw1 : wrap32 A = A := by unfold wrap32; omega
          have hw2 : IntKind.i32.wrap A = A := by rw [IntKind.wrap_i32]; omega
          have hI := refIs_c A
          by_cases hr : isR A = true
          · have hR := refBytes_c A hr
            have hQ := Bool.eq_false_or_eq_true ((Utf8.encode A).toList == (b.extract k (k + 1)).toList)
            rcases hQ with hq | hq
            · have hx := hit_next (by omega) (hit_yes hfit hNL hr hq)
              rw [← nextG_L hk] at hx
              have HX : Hid (((nextG b k).1 : Int) = A ∧ ((nextG b k).2 : Int) = 1) := by rw [hx]; exact ⟨hNL, rfl⟩
              rw [hr] at hI
              clear hr hx hNL
              generalize Utf8.encode A = en at *
              go_wp2
              go_rounds 2
              have s0 : IntKind.i64.wrap ((k : Int) + 1) = (k : Int) + 1 := IntWalk.i64_in _ (by omega)
              have s1 : (0 : Int) ≤ (k : Int) + 1 := by omega
              have s2 : (0 : Int) ≤ (k : Int) := by omega
              have s3 : (k : Int) ≤ (k : Int) + 1 := by omega
              have s4 : (k : Int) + 1 ≤ (b.size : Int) := by omega
              have s5 : ((k : Int) + 1).toNat = k + 1 := by omega
              go_region_held3 (fun w' => Below w.heap.size w w') (first | assumption | exact Below.drew ‹_› | exact below_step ‹_› ‹_›) (first | (go_at_call 42; refine (hI _).mono ?_; rintro e w' ⟨rfl, rfl⟩) | (go_at_call 43; refine (hR _).mono ?_; rintro e w' ⟨rfl, hb⟩))
              go_wp2
              go_ret2
              exact ⟨by rw [HX.out.1, HX.out.2]; rfl, by assumption⟩
            · have hx := hit_no hNL hr hq
              have HX := Lib.hid hx
              rw [hr] at hI
              clear hr hx hNL
              generalize Utf8.encode A = en at *
              go_wp2
              go_rounds 2
              have s0 : IntKind.i64.wrap ((k : Int) + 1) = (k : Int) + 1 := IntWalk.i64_in _ (by omega)
              have s1 : (0 : Int) ≤ (k : Int) + 1 := by omega
              have s2 : (0 : Int) ≤ (k : Int) := by omega
              have s3 : (k : Int) ≤ (k : Int) + 1 := by omega
              have s4 : (k : Int) + 1 ≤ (b.size : Int) := by omega
              have s5 : ((k : Int) + 1).toNat = k + 1 := by omega
              go_region_held3 (fun w' => Below w.heap.size w w') (first | assumption | exact Below.drew ‹_› | exact below_step ‹_› ‹_›) (first | (go_at_call 42; refine (hI _).mono ?_; rintro e w' ⟨rfl, rfl⟩) | (go_at_call 43; refine (hR _).mono ?_; rintro e w' ⟨rfl, hb⟩))
              go_wp2
              go_roundw
              case rel => exact ⟨2, by omega, by omega, rfl, rel_more HNO.out HX.out, by first | assumption | exact below_drewN hbel _⟩
              case measure => simp [intOf]
          · have hr' : isR A = false := by simpa using hr
            have hx := hit_not hNL hr'
            have HX := Lib.hid hx
            rw [hr'] at hI
            clear hr hr' hx hNL
            go_wp2
            go_rounds 2
            have s0 : IntKind.i64.wrap ((k : Int) + 1) = (k : Int) + 1 := IntWalk.i64_in _ (by omega)
            have s1 : (0 : Int) ≤ (k : Int) + 1 := by omega
            have s2 : (0 : Int) ≤ (k : Int) := by omega
            have s3 : (k : Int) ≤ (k : Int) + 1 := by omega
            have s4 : (k : Int) + 1 ≤ (b.size : Int) := by omega
            have s5 : ((k : Int) + 1).toNat = k + 1 := by omega
            go_quiet ((go_at_call 42; exact Calls.quiet_of_same ((hI _).mono fun _ _ h => ⟨h.1, h.2.symm⟩)))
            go_wp2
            go_roundw
            case rel => exact ⟨2, by omega, by omega, rfl, rel_more HNO.out HX.out, by first | assumption | exact below_drewN hbel _⟩
            case measure => simp [intOf]
        · have f1 : ¬ ((b.size : Int) - (k : Int) < 2) := by omega
          have hB := Go.PlainAid.get_bt b
          obtain ⟨A, hA⟩ : ∃ A : Int, Go.PlainAid.bt b k = A := ⟨_, rfl⟩
          obtain ⟨B, hB⟩ : ∃ B : Int, Go.PlainAid.bt b (k + 1) = B := ⟨_, rfl⟩
          have gA0 : 0 ≤ A := by have := Go.PlainAid.bt_nonneg b k; omega
          have gA : A ≤ 255 := by have := Go.PlainAid.bt_le b k; omega
          have gB0 : 0 ≤ B := by have := Go.PlainAid.bt_nonneg b (k + 1); omega
          have gB : B ≤ 255 := by have := Go.PlainAid.bt_le b (k + 1); omega
          obtain ⟨N, hN⟩ : ∃ N : Int, A % 32 * 64 + B % 64 = N := ⟨_, rfl⟩
          have gN0 : 0 ≤ N := by omega
          have gN : N ≤ 2097151 := by omega
          have hNL : (numL 2 (b.data.toList.drop k) : Int) = N := by
            have e0 := gB_bt b k 0
            rw [show Go.PlainAid.bt b (k + 0) = A from hA] at e0
            have e1 := gB_bt b k 1
            rw [show Go.PlainAid.bt b (k + 1) = B from hB] at e1
            unfold numL
            rw [if_neg (by omega), if_pos rfl]
            omega
          have hw1 : wrap32 N = N := by unfold wrap32; omega
          have hw2 : IntKind.i32.wrap N = N := by rw [IntKind.wrap_i32]; omega
          have hI := refIs_c N
          by_cases hr : isR N = true
          · have hR := refBytes_c N hr
            have hQ := Bool.eq_false_or_eq_true ((Utf8.encode N).toList == (b.extract k (k + 2)).toList)
            rcases hQ with hq | hq
            · have hx := hit_next (by omega) (hit_yes hfit hNL hr hq)
              rw [← nextG_L hk] at hx
              have HX : Hid (((nextG b k).1 : Int) = N ∧ ((nextG b k).2 : Int) = 2) := by rw [hx]; exact ⟨hNL, rfl⟩
              rw [hr] at hI
              clear hr hx hNL
              generalize Utf8.encode N = en at *
              go_wp2
              go_rounds 3
              have s0 : IntKind.i64.wrap ((k : Int) + 2) = (k : Int) + 2 := IntWalk.i64_in _ (by omega)
              have s1 : (0 : Int) ≤ (k : Int) + 2 := by omega
              have s2 : (0 : Int) ≤ (k : Int) := by omega
              have s3 : (k : Int) ≤ (k : Int) + 2 := by omega
              have s4 : (k : Int) + 2 ≤ (b.size : Int) := by omega
              have s5 : ((k : Int) + 2).toNat = k + 2 := by omega
              go_region_held3 (fun w' => Below w.heap.size w w') (first | assumption | exact Below.drew ‹_› | exact below_step ‹_› ‹_›) (first | (go_at_call 42; refine (hI _).mono ?_; rintro e w' ⟨rfl, rfl⟩) | (go_at_call 43; refine (hR _).mono ?_; rintro e w' ⟨rfl, hb⟩))
              go_wp2
              go_ret2
              exact ⟨by rw [HX.out.1, HX.out.2]; rfl, by assumption⟩
            · have hx := hit_no hNL hr hq
              have HX := Lib.hid hx
              rw [hr] at hI
              clear hr hx hNL
              generalize Utf8.encode N = en at *
              go_wp2
              go_rounds 3
              have s0 : IntKind.i64.wrap ((k : Int) + 2) = (k : Int) + 2 := IntWalk.i64_in _ (by omega)
              have s1 : (0 : Int) ≤ (k : Int) + 2 := by omega
              have s2 : (0 : Int) ≤ (k : Int) := by omega
              have s3 : (k : Int) ≤ (k : Int) + 2 := by omega
              have s4 : (k : Int) + 2 ≤ (b.size : Int) := by omega
              have s5 : ((k : Int) + 2).toNat = k + 2 := by omega
              go_region_held3 (fun w' => Below w.heap.size w w') (first | assumption | exact Below.drew ‹_› | exact below_step ‹_› ‹_›) (first | (go_at_call 42; refine (hI _).mono ?_; rintro e w' ⟨rfl, rfl⟩) | (go_at_call 43; refine (hR _).mono ?_; rintro e w' ⟨rfl, hb⟩))
              go_wp2
              go_roundw
              case rel => exact ⟨3, by omega, by omega, rfl, rel_more HNO.out HX.out, by first | assumption | exact below_drewN hbel _⟩
              case measure => simp [intOf]
          · have hr' : isR N = false := by simpa using hr
            have hx := hit_not hNL hr'
            have HX := Lib.hid hx
            rw [hr'] at hI
            clear hr hr' hx hNL
            go_wp2
            go_rounds 3
            have s0 : IntKind.i64.wrap ((k : Int) + 2) = (k : Int) + 2 := IntWalk.i64_in _ (by omega)
            have s1 : (0 : Int) ≤ (k : Int) + 2 := by omega
            have s2 : (0 : Int) ≤ (k : Int) := by omega
            have s3 : (k : Int) ≤ (k : Int) + 2 := by omega
            have s4 : (k : Int) + 2 ≤ (b.size : Int) := by omega
            have s5 : ((k : Int) + 2).toNat = k + 2 := by omega
            go_quiet ((go_at_call 42; exact Calls.quiet_of_same ((hI _).mono fun _ _ h => ⟨h.1, h.2.symm⟩)))
            go_wp2
            go_roundw
            case rel => exact ⟨3, by omega, by omega, rfl, rel_more HNO.out HX.out, by first | assumption | exact below_drewN hbel _⟩
            case measure => simp [intOf]
        · have f1 : ¬ ((b.size : Int) - (k : Int) < 3) := by omega
          have hB := Go.PlainAid.get_bt b
          obtain ⟨A, hA⟩ : ∃ A : Int, Go.PlainAid.bt b k = A := ⟨_, rfl⟩
          obtain ⟨B, hB⟩ : ∃ B : Int, Go.PlainAid.bt b (k + 1) = B := ⟨_, rfl⟩
          obtain ⟨C, hC⟩ : ∃ C : Int, Go.PlainAid.bt b (k + 2) = C := ⟨_, rfl⟩
          have gA0 : 0 ≤ A := by have := Go.PlainAid.bt_nonneg b k; omega
          have gA : A ≤ 255 := by have := Go.PlainAid.bt_le b k; omega
          have gB0 : 0 ≤ B := by have := Go.PlainAid.bt_nonneg b (k + 1); omega
          have gB : B ≤ 255 := by have := Go.PlainAid.bt_le b (k + 1); omega
          have gC0 : 0 ≤ C := by have := Go.PlainAid.bt_nonneg b (k + 2); omega
          have gC : C ≤ 255 := by have := Go.PlainAid.bt_le b (k + 2); omega
          obtain ⟨N, hN⟩ : ∃ N : Int, (A % 16 * 64 + B % 64) * 64 + C % 64 = N := ⟨_, rfl⟩
          have gN0 : 0 ≤ N := by omega
          have gN : N ≤ 2097151 := by omega
          have hNL : (numL 3 (b.data.toList.drop k) : Int) = N := by
            have e0 := gB_bt b k 0
            rw [show Go.PlainAid.bt b (k + 0) = A from hA] at e0
            have e1 := gB_bt b k 1
            rw [show Go.PlainAid.bt b (k + 1) = B from hB] at e1
            have e2 := gB_bt b k 2
            rw [show Go.PlainAid.bt b (k + 2) = C from hC] at e2
            unfold numL
            rw [if_neg (by omega), if_neg (by omega), if_pos rfl]
            omega
          have hw1 : wrap32 N = N := by unfold wrap32; omega
          have hw2 : IntKind.i32.wrap N = N := by rw [IntKind.wrap_i32]; omega
          have hI := refIs_c N
          by_cases hr : isR N = true
          · have hR := refBytes_c N hr
            have hQ := Bool.eq_false_or_eq_true ((Utf8.encode N).toList == (b.extract k (k + 3)).toList)
            rcases hQ with hq | hq
            · have hx := hit_next (by omega) (hit_yes hfit hNL hr hq)
              rw [← nextG_L hk] at hx
              have HX : Hid (((nextG b k).1 : Int) = N ∧ ((nextG b k).2 : Int) = 3) := by rw [hx]; exact ⟨hNL, rfl⟩
              rw [hr] at hI
              clear hr hx hNL
              generalize Utf8.encode N = en at *
              go_wp2
              go_rounds 4
              have s0 : IntKind.i64.wrap ((k : Int) + 3) = (k : Int) + 3 := IntWalk.i64_in _ (by omega)
              have s1 : (0 : Int) ≤ (k : Int) + 3 := by omega
              have s2 : (0 : Int) ≤ (k : Int) := by omega
              have s3 : (k : Int) ≤ (k : Int) + 3 := by omega
              have s4 : (k : Int) + 3 ≤ (b.size : Int) := by omega
              have s5 : ((k : Int) + 3).toNat = k + 3 := by omega
              go_region_held3 (fun w' => Below w.heap.size w w') (first | assumption | exact Below.drew ‹_› | exact below_step ‹_› ‹_›) (first | (go_at_call 42; refine (hI _).mono ?_; rintro e w' ⟨rfl, rfl⟩) | (go_at_call 43; refine (hR _).mono ?_; rintro e w' ⟨rfl, hb⟩))
              go_wp2
              go_ret2
              exact ⟨by rw [HX.out.1, HX.out.2]; rfl, by assumption⟩
            · have hx := hit_no hNL hr hq
              have HX := Lib.hid hx
              rw [hr] at hI
              clear hr hx hNL
              generalize Utf8.encode N = en at *
              go_wp2
              go_rounds 4
              have s0 : IntKind.i64.wrap ((k : Int) + 3) = (k : Int) + 3 := IntWalk.i64_in _ (by omega)
              have s1 : (0 : Int) ≤ (k : Int) + 3 := by omega
              have s2 : (0 : Int) ≤ (k : Int) := by omega
              have s3 : (k : Int) ≤ (k : Int) + 3 := by omega
              have s4 : (k : Int) + 3 ≤ (b.size : Int) := by omega
              have s5 : ((k : Int) + 3).toNat = k + 3 := by omega
              go_region_held3 (fun w' => Below w.heap.size w w') (first | assumption | exact Below.drew ‹_› | exact below_step ‹_› ‹_›) (first | (go_at_call 42; refine (hI _).mono ?_; rintro e w' ⟨rfl, rfl⟩) | (go_at_call 43; refine (hR _).mono ?_; rintro e w' ⟨rfl, hb⟩))
              go_wp2
              go_roundw
              case rel => exact ⟨4, by omega, by omega, rfl, rel_more HNO.out HX.out, by first | assumption | exact below_drewN hbel _⟩
              case measure => simp [intOf]
          · have hr' : isR N = false := by simpa using hr
            have hx := hit_not hNL hr'
            have HX := Lib.hid hx
            rw [hr'] at hI
            clear hr hr' hx hNL
            go_wp2
            go_rounds 4
            have s0 : IntKind.i64.wrap ((k : Int) + 3) = (k : Int) + 3 := IntWalk.i64_in _ (by omega)
            have s1 : (0 : Int) ≤ (k : Int) + 3 := by omega
            have s2 : (0 : Int) ≤ (k : Int) := by omega
            have s3 : (k : Int) ≤ (k : Int) + 3 := by omega
            have s4 : (k : Int) + 3 ≤ (b.size : Int) := by omega
            have s5 : ((k : Int) + 3).toNat = k + 3 := by omega
            go_quiet ((go_at_call 42; exact Calls.quiet_of_same ((hI _).mono fun _ _ h => ⟨h.1, h.2.symm⟩)))
            go_wp2
            go_roundw
            case rel => exact ⟨4, by omega, by omega, rfl, rel_more HNO.out HX.out, by first | assumption | exact below_drewN hbel _⟩
            case measure => simp [intOf]
        · have f1 : ¬ ((b.size : Int) - (k : Int) < 4) := by omega
          have hB := Go.PlainAid.get_bt b
          obtain ⟨A, hA⟩ : ∃ A : Int, Go.PlainAid.bt b k = A := ⟨_, rfl⟩
          obtain ⟨B, hB⟩ : ∃ B : Int, Go.PlainAid.bt b (k + 1) = B := ⟨_, rfl⟩
          obtain ⟨C, hC⟩ : ∃ C : Int, Go.PlainAid.bt b (k + 2) = C := ⟨_, rfl⟩
          obtain ⟨D, hD⟩ : ∃ D : Int, Go.PlainAid.bt b (k + 3) = D := ⟨_, rfl⟩
          have gA0 : 0 ≤ A := by have := Go.PlainAid.bt_nonneg b k; omega
          have gA : A ≤ 255 := by have := Go.PlainAid.bt_le b k; omega
          have gB0 : 0 ≤ B := by have := Go.PlainAid.bt_nonneg b (k + 1); omega
          have gB : B ≤ 255 := by have := Go.PlainAid.bt_le b (k + 1); omega
          have gC0 : 0 ≤ C := by have := Go.PlainAid.bt_nonneg b (k + 2); omega
          have gC : C ≤ 255 := by have := Go.PlainAid.bt_le b (k + 2); omega
          have gD0 : 0 ≤ D := by have := Go.PlainAid.bt_nonneg b (k + 3); omega
          have gD : D ≤ 255 := by have := Go.PlainAid.bt_le b (k + 3); omega
          obtain ⟨N, hN⟩ : ∃ N : Int, ((A % 8 * 64 + B % 64) * 64 + C % 64) * 64 + D % 64 = N := ⟨_, rfl⟩
          have gN0 : 0 ≤ N := by omega
          have gN : N ≤ 2097151 := by omega
          have hNL : (numL 4 (b.data.toList.drop k) : Int) = N := by
            have e0 := gB_bt b k 0
            rw [show Go.PlainAid.bt b (k + 0) = A from hA] at e0
            have e1 := gB_bt b k 1
            rw [show Go.PlainAid.bt b (k + 1) = B from hB] at e1
            have e2 := gB_bt b k 2
            rw [show Go.PlainAid.bt b (k + 2) = C from hC] at e2
            have e3 := gB_bt b k 3
            rw [show Go.PlainAid.bt b (k + 3) = D from hD] at e3
            unfold numL
            rw [if_neg (by omega), if_neg (by omega), if_neg (by omega)]
            omega
          have hw1 : wrap32 N = N := by unfold wrap32; omega
          have hw2 : IntKind.i32.wrap N = N := by rw [IntKind.wrap_i32]; omega
          have hI := refIs_c N
          by_cases hr : isR N = true
          · have hR := refBytes_c N hr
            have hQ := Bool.eq_false_or_eq_true ((Utf8.encode N).toList == (b.extract k (k + 4)).toList)
            rcases hQ with hq | hq
            · have hx := hit_next (by omega) (hit_yes hfit hNL hr hq)
              rw [← nextG_L hk] at hx
              have HX : Hid (((nextG b k).1 : Int) = N ∧ ((nextG b k).2 : Int) = 4) := by rw [hx]; exact ⟨hNL, rfl⟩
              rw [hr] at hI
              clear hr hx hNL
              generalize Utf8.encode N = en at *
              go_wp2
              go_rounds 5
              have s0 : IntKind.i64.wrap ((k : Int) + 4) = (k : Int) + 4 := IntWalk.i64_in _ (by omega)
              have s1 : (0 : Int) ≤ (k : Int) + 4 := by omega
              have s2 : (0 : Int) ≤ (k : Int) := by omega
              have s3 : (k : Int) ≤ (k : Int) + 4 := by omega
              have s4 : (k : Int) + 4 ≤ (b.size : Int) := by omega
              have s5 : ((k : Int) + 4).toNat = k + 4 := by omega
              go_region_held3 (fun w' => Below w.heap.size w w') (first | assumption | exact Below.drew ‹_› | exact below_step ‹_› ‹_›) (first | (go_at_call 42; refine (hI _).mono ?_; rintro e w' ⟨rfl, rfl⟩) | (go_at_call 43; refine (hR _).mono ?_; rintro e w' ⟨rfl, hb⟩))
              go_wp2
              go_ret2
              exact ⟨by rw [HX.out.1, HX.out.2]; rfl, by assumption⟩
            · have hx := hit_no hNL hr hq
              have HX := Lib.hid hx
              rw [hr] at hI
              clear hr hx hNL
              generalize Utf8.encode N = en at *
              go_wp2
              go_rounds 5
              have s0 : IntKind.i64.wrap ((k : Int) + 4) = (k : Int) + 4 := IntWalk.i64_in _ (by omega)
              have s1 : (0 : Int) ≤ (k : Int) + 4 := by omega
              have s2 : (0 : Int) ≤ (k : Int) := by omega
              have s3 : (k : Int) ≤ (k : Int) + 4 := by omega
              have s4 : (k : Int) + 4 ≤ (b.size : Int) := by omega
              have s5 : ((k : Int) + 4).toNat = k + 4 := by omega
              go_region_held3 (fun w' => Below w.heap.size w w') (first | assumption | exact Below.drew ‹_› | exact below_step ‹_› ‹_›) (first | (go_at_call 42; refine (hI _).mono ?_; rintro e w' ⟨rfl, rfl⟩) | (go_at_call 43; refine (hR _).mono ?_; rintro e w' ⟨rfl, hb⟩))
              go_wp2
              go_roundw
              case rel => exact ⟨5, by omega, by omega, rfl, rel_more HNO.out HX.out, by first | assumption | exact below_drewN hbel _⟩
              case measure => simp [intOf]
          · have hr' : isR N = false := by simpa using hr
            have hx := hit_not hNL hr'
            have HX := Lib.hid hx
            rw [hr'] at hI
            clear hr hr' hx hNL
            go_wp2
            go_rounds 5
            have s0 : IntKind.i64.wrap ((k : Int) + 4) = (k : Int) + 4 := IntWalk.i64_in _ (by omega)
            have s1 : (0 : Int) ≤ (k : Int) + 4 := by omega
            have s2 : (0 : Int) ≤ (k : Int) := by omega
            have s3 : (k : Int) ≤ (k : Int) + 4 := by omega
            have s4 : (k : Int) + 4 ≤ (b.size : Int) := by omega
            have s5 : ((k : Int) + 4).toNat = k + 4 := by omega
            go_quiet ((go_at_call 42; exact Calls.quiet_of_same ((hI _).mono fun _ _ h => ⟨h.1, h.2.symm⟩)))
            go_wp2
            go_roundw
            case rel => exact ⟨5, by omega, by omega, rfl, rel_more HNO.out HX.out, by first | assumption | exact below_drewN hbel _⟩
            case measure => simp [intOf]
      · have HZ : Hid (nextG b k = (0, 0)) := by rw [nextG_L hk]; exact no_hit (fun t ha hb => if h : t < s then HNO.out t ha h else hit_long (by omega) hk)
        have f1 : (b.size : Int) - (k : Int) < (s : Int) := by omega
        have f2 : (s : Int) ≤ 4 := by omega
        go_wp2
        go_ret2
        exact ⟨by rw [HZ.out]; rfl, hbel⟩

set_option maxHeartbeats 1000000 in
theorem refNext_out (b : ByteArray) (a : Int) (ha : a < 0 ∨ (b.size : Int) ≤ a) (hs : b.size ≤ 4000) (w : World) :
    Calls Try.prog 38 #[.string b, .int .i64 a] w fun e w' => e = .returned (.tuple #[.int .i32 (nextG b a).1, .int .i64 (nextG b a).2]) ∧ Below w.heap.size w w' := by
  rw [nextG_out ha]
  by_cases h0 : a < 0
  · clear ha
    go_enter Try.func38, Try.ntmps38
    go_wp2
    go_rounds 1
    go_ret2
    exact ⟨rfl, Below.refl _ _⟩
  · have h1 : (b.size : Int) ≤ a := by omega
    clear ha
    go_enter Try.func38, Try.ntmps38
    go_wp2
    go_rounds 1
    go_ret2
    exact ⟨rfl, Below.refl _ _⟩

theorem refNext_c (b : ByteArray) (a : Int) (hs : b.size ≤ 4000) (w : World) :
    Calls Try.prog 38 #[.string b, .int .i64 a] w fun e w' => e = .returned (.tuple #[.int .i32 (nextG b a).1, .int .i64 (nextG b a).2]) ∧ Below w.heap.size w w' := by
  by_cases h : a < 0 ∨ (b.size : Int) ≤ a
  · exact refNext_out b a h hs w
  · obtain ⟨k, rfl⟩ : ∃ k : Nat, a = (k : Int) := ⟨a.toNat, by omega⟩
    exact refNext_in b k (by omega) hs w
end Go.Proofs.Ytjakelphkehonaa
