/-
  The contracts of the order of two marks, and of the library's swapRangeCmpFunc at characters: the row that it leaves.
-/
import Derived.Test.YtjakelphkehonaaProg
import Derived.Test.YtjakelphkehonaaSoKit
import Derived.Test.YtjakelphkehonaaCpSmall
import Derived.WalkSpells
import Derived.IntWalk
import Derived.LoopTactic
import Derived.Deep.LoopGhost
import Derived.Deep.QuietTactic
import Derived.BigQuiet
import Derived.BigRegion
namespace Go.Proofs.Ytjakelphkehonaa
open Go.RowKit Go.Sort
set_option linter.unusedVariables false

set_option maxHeartbeats 1000000 in
theorem cmp_c (x y : Int) (w : World) : Calls Try.prog 40 #[.int .i32 x, .int .i32 y] w fun e w' => e = .returned (.int .i64 (classI x - classI y)) ∧ w' = w := by
  have c1 := fun w => cls_c x w
  have c2 := fun w => cls_c y w
  have b1 : 0 ≤ classI x ∧ classI x ≤ 230 := by rw [class_is]; unfold classB; split <;> (try split) <;> omega
  have b2 : 0 ≤ classI y ∧ classI y ≤ 230 := by rw [class_is]; unfold classB; split <;> (try split) <;> omega
  generalize classI x = p at *
  generalize classI y = q at *
  obtain ⟨b1, b1'⟩ := b1
  obtain ⟨b2, b2'⟩ := b2
  go_enter Try.func40, Try.ntmps40
  go_wp2_with fail
  refine (c1 _).mono ?_
  rintro e w' ⟨rfl, rfl⟩
  go_wp2_with fail
  refine (c2 _).mono ?_
  rintro e w' ⟨rfl, rfl⟩
  go_wp2
  go_ret
  exact ⟨rfl, rfl⟩

def SwapRel (w : World) (g off : Nat) (P U Q V T : List Int) (iv : Value) (wr : World) : Prop :=
  ∃ (U1 U2 V1 V2 : List Int) (m : Nat), U = U1 ++ U2 ∧ V = V1 ++ V2 ∧ U1.length = V1.length ∧ iv = .int .i64 U1.length ∧ wr = RW w g off (P ++ (V1 ++ (U2 ++ (Q ++ (U1 ++ (V2 ++ T)))))) m

set_option maxHeartbeats 2000000 in
set_option maxRecDepth 100000 in
theorem swapRange_c (w : World) (g off cap N : Nat) (F : Value) (L0 : List Int) (hH : Holds encI w g off L0.toArray) (hN : L0.length = N) (hsz : N < 1000000) (P U Q V T : List Int) (hUV : U.length = V.length) (hL : (P ++ (U ++ (Q ++ (V ++ T)))).length = N) (m : Nat) :
    Calls Try.prog 48 #[.slice (some ⟨g, off, none⟩) N cap, .int .i64 P.length, .int .i64 (P.length + U.length + Q.length : Nat), .int .i64 U.length, F] (RW w g off (P ++ (U ++ (Q ++ (V ++ T)))) m)
      fun e w' => e = .returned (.tuple #[]) ∧ ∃ m', w' = RW w g off (P ++ (V ++ (Q ++ (U ++ T)))) m' := by
  obtain ⟨a, ha⟩ : ∃ a, P.length = a := ⟨_, rfl⟩
  obtain ⟨n, hn⟩ : ∃ n, U.length = n := ⟨_, rfl⟩
  obtain ⟨b, hb⟩ : ∃ b, P.length + U.length + Q.length = b := ⟨_, rfl⟩
  obtain ⟨W0, hW0⟩ : ∃ W0, RW w g off (P ++ (U ++ (Q ++ (V ++ T)))) m = W0 := ⟨_, rfl⟩
  rw [hb, ha, hn, hW0]
  have HS : Hid (SwapRel w g off P U Q V T (.int .i64 0) W0) := ⟨[], U, [], V, m, rfl, rfl, rfl, rfl, by rw [← hW0]; rfl⟩
  have hlen : a + n + Q.length + n + T.length = N := by
    rw [← hL, ← ha, ← hn]
    simp only [List.length_append]
    omega
  have HBE : Hid (b = a + n + Q.length) := Lib.hid (by omega)
  have HLEN : Hid (a + n + Q.length + n + T.length = N) := Lib.hid hlen
  clear hlen
  have HH := Lib.hid hH
  have HN := Lib.hid hN
  have HA := Lib.hid ha
  have HU := Lib.hid hn
  have HV := Lib.hid (hUV.symm.trans hn)
  clear hH hN ha hn hb hL hUV hW0
  go_enter Try.func48, Try.ntmps48
  go_wp2
  go_loopw [10] (fun iv wr => SwapRel w g off P U Q V T iv wr) (fun iv _ => n - (intOf iv).toNat)
  case atStart => exact HS.out
  case round =>
    obtain ⟨U1, U2, V1, V2, m1, hU, hV, h12, rfl, rfl⟩ := hrel
    obtain ⟨i, hi⟩ : ∃ i, U1.length = i := ⟨_, rfl⟩
    have hu := congrArg List.length hU
    have hv := congrArg List.length hV
    rw [List.length_append, HU.out] at hu
    rw [List.length_append, HV.out] at hv
    rw [hi]
    by_cases hlt : i < n
    · have hltz : (i : Int) < (n : Int) := by omega
      cases U2 with
      | nil => simp at hu; omega
      | cons x U2 =>
      cases V2 with
      | nil => simp at hv; omega
      | cons y V2 =>
      have hbe := HBE.out
      have hlen := HLEN.out
      obtain ⟨wq, hwq⟩ : ∃ wq, RW w g off (P ++ (V1 ++ (x :: U2 ++ (Q ++ (U1 ++ (y :: V2 ++ T)))))) m1 = wq := ⟨_, rfl⟩
      have e1 : P ++ (V1 ++ (x :: U2 ++ (Q ++ (U1 ++ (y :: V2 ++ T))))) = (P ++ V1) ++ x :: ((U2 ++ (Q ++ U1)) ++ y :: (V2 ++ T)) := by simp only [List.append_assoc, List.cons_append]
      have l1 : (P ++ V1).length = a + i := by rw [List.length_append, HA.out, ← h12, hi]
      simp only [List.length_cons] at hu hv
      have l2 : (P ++ V1).length + 1 + (U2 ++ (Q ++ U1)).length = b + i := by
        rw [l1]; simp only [List.length_append]; omega
      have hll : ((P ++ V1) ++ x :: ((U2 ++ (Q ++ U1)) ++ y :: (V2 ++ T))).length = L0.length := by
        rw [HN.out]
        rw [List.length_append, l1]
        simp only [List.length_append, List.length_cons]
        omega
      rw [hwq]
      rw [e1] at hwq
      have k1 := RW_cell (m := m1) (i := a + i) HH.out hll (by rw [List.length_append, l1, List.length_cons]; omega)
      have k2 := RW_cell (m := m1) (i := b + i) HH.out hll (by rw [← l2]; simp only [List.length_append, List.length_cons]; omega)
      have v1 : ((P ++ V1) ++ x :: ((U2 ++ (Q ++ U1)) ++ y :: (V2 ++ T))).getD (a + i) 0 = x := by rw [← l1]; exact getD_mid _ _ x
      have v2 : ((P ++ V1) ++ x :: ((U2 ++ (Q ++ U1)) ++ y :: (V2 ++ T))).getD (b + i) 0 = y := by
        rw [← l2]; exact getD_two _ _ _ x y
      have HSW : Hid (((wq.setCell ⟨g, off + (a + i), none⟩ (.int .i32 y)).setCell ⟨g, off + (b + i), none⟩ (.int .i32 x)).drew = RW w g off (P ++ ((V1 ++ [y]) ++ (U2 ++ (Q ++ ((U1 ++ [x]) ++ (V2 ++ T)))))) (m1 + 1)) := by
        refine Lib.hid ?_
        have h := RW_swap w g off ((P ++ V1) ++ x :: ((U2 ++ (Q ++ U1)) ++ y :: (V2 ++ T))) m1 (a + i) (b + i) (by rw [hll, HN.out]; omega) (by rw [hll, HN.out]; omega)
        rw [v1, v2, ← l2, ← l1, swpL_at, l2, l1, hwq] at h
        rw [h]
        congr 1
        simp
      rw [v1, hwq] at k1
      rw [v2, hwq] at k2
      obtain ⟨p, hp⟩ : ∃ p, a + i = p := ⟨_, rfl⟩
      obtain ⟨q, hq⟩ : ∃ q, b + i = q := ⟨_, rfl⟩
      rw [hp] at k1 HSW
      rw [hq] at k2 HSW
      obtain ⟨c1, f1⟩ := k1
      obtain ⟨c2, f2⟩ := k2
      have w1 : IntKind.i64.wrap ((a : Int) + (i : Int)) = (p : Int) := by rw [IntKind.wrap_i64]; omega
      have w2 : IntKind.i64.wrap ((b : Int) + (i : Int)) = (q : Int) := by rw [IntKind.wrap_i64]; omega
      have p1 : (p : Int) < (N : Int) := by omega
      have p2 : (q : Int) < (N : Int) := by omega
      have hn6 : n < 1000000 := by omega
      have hpq : p ≠ q := by omega
      have hqp : q ≠ p := by omega
      have HI := Lib.hid hi
      have HUU := Lib.hid hU
      have HVV := Lib.hid hV
      have H12 := Lib.hid h12
      clear hu hv hU hV h12 hwq e1 l1 l2 hll v1 v2 hp hq hi hbe hlen
      go_wp2_with fail
      go_big_region
      all_goals go_wp2
      go_roundw
      case rel => exact ⟨U1 ++ [x], U2, V1 ++ [y], V2, m1 + 1, by rw [HUU.out]; simp, by rw [HVV.out]; simp, by simp [H12.out], by rw [List.length_append, HI.out, List.length_singleton]; go_num, HSW.out⟩
      case measure => simp [intOf]; omega
    · have hin : i = n := by omega
      have hU2 : U2 = [] := List.eq_nil_of_length_eq_zero (by omega)
      have hV2 : V2 = [] := List.eq_nil_of_length_eq_zero (by omega)
      subst hU2 hV2
      simp only [List.append_nil] at hU hV
      have hge : ¬ ((i : Int) < (n : Int)) := by omega
      have HX : Hid (P ++ (V1 ++ ([] ++ (Q ++ (U1 ++ ([] ++ T))))) = P ++ (V ++ (Q ++ (U ++ T)))) := Lib.hid (by rw [hU, hV]; simp)
      clear hin hu hv hi
      go_wp2
      go_end0
      exact ⟨rfl, m1, by first | rfl | rw [HX.out]⟩
end Go.Proofs.Ytjakelphkehonaa
