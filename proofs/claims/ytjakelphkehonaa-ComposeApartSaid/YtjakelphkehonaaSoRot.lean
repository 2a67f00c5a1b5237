/-
  The contract of the library's rotateCmpFunc at characters: two neighbouring parts of a row changed about.
-/
import Derived.Test.YtjakelphkehonaaSoSwap
namespace Go.Proofs.Ytjakelphkehonaa
open Go.RowKit Go.Sort
set_option linter.unusedVariables false

def RotRel (w : World) (g off N M : Nat) (G : List Int) (iv jv : Value) (wr : World) : Prop :=
  ∃ (P U V T : List Int) (k : Nat), P.length + U.length = M ∧ (P ++ (U ++ (V ++ T))).length = N ∧ 1 ≤ U.length ∧ 1 ≤ V.length ∧ iv = .int .i64 U.length ∧ jv = .int .i64 V.length ∧ P ++ (V ++ (U ++ T)) = G ∧ wr = RW w g off (P ++ (U ++ (V ++ T))) k

set_option maxHeartbeats 2000000 in
set_option maxRecDepth 100000 in
theorem rotate_c (w : World) (g off cap N : Nat) (F : Value) (L0 : List Int) (hH : Holds encI w g off L0.toArray) (hN : L0.length = N) (hsz : N < 1000000) (P A B T : List Int) (hA : 1 ≤ A.length) (hB : 1 ≤ B.length) (hL : (P ++ (A ++ (B ++ T))).length = N) (a M b : Nat) (ha : P.length = a) (hM : a + A.length = M) (hb : M + B.length = b) (m : Nat) :
    Calls Try.prog 47 #[.slice (some ⟨g, off, none⟩) N cap, .int .i64 a, .int .i64 M, .int .i64 b, F] (RW w g off (P ++ (A ++ (B ++ T))) m)
      fun e w' => e = .returned (.tuple #[]) ∧ ∃ m', w' = RW w g off (P ++ (B ++ (A ++ T))) m' := by
  obtain ⟨W0, hW0⟩ : ∃ W0, RW w g off (P ++ (A ++ (B ++ T))) m = W0 := ⟨_, rfl⟩
  obtain ⟨na, hna⟩ : ∃ n, A.length = n := ⟨_, rfl⟩
  obtain ⟨nb, hnb⟩ : ∃ n, B.length = n := ⟨_, rfl⟩
  obtain ⟨G, hG⟩ : ∃ G, P ++ (B ++ (A ++ T)) = G := ⟨_, rfl⟩
  rw [hW0, hG]
  have HS : Hid (RotRel w g off N M G (.int .i64 na) (.int .i64 nb) W0) := ⟨P, A, B, T, m, by omega, hL, hA, hB, by rw [hna], by rw [hnb], hG, hW0.symm⟩
  have hlen := hL
  rw [List.length_append, List.length_append, List.length_append] at hlen
  have hb6 : b < 1000000 := by omega
  have hM6 : M < 1000000 := by omega
  have w1 : IntKind.i64.wrap ((M : Int) - (a : Int)) = (na : Int) := by rw [IntKind.wrap_i64]; omega
  have w2 : IntKind.i64.wrap ((b : Int) - (M : Int)) = (nb : Int) := by rw [IntKind.wrap_i64]; omega
  have HH := Lib.hid hH
  have HN := Lib.hid hN
  clear hH hN hL hA hB ha hM hb hW0 hG hlen hna hnb
  go_enter Try.func47, Try.ntmps47
  go_wp2
  clear w1 w2
  go_loopw [10, 11] (fun iv jv wr => RotRel w g off N M G iv jv wr) (fun iv jv _ => (intOf iv).toNat + (intOf jv).toNat)
  case atStart => exact HS.out
  case round =>
    obtain ⟨P1, U, V, T1, k, hPU, hlen, hU1, hV1, rfl, rfl, hG, rfl⟩ := hrel
    obtain ⟨i, hi⟩ : ∃ i, U.length = i := ⟨_, rfl⟩
    obtain ⟨j, hj⟩ : ∃ j, V.length = j := ⟨_, rfl⟩
    obtain ⟨p, hp⟩ : ∃ p, P1.length = p := ⟨_, rfl⟩
    have hl := hlen
    rw [List.length_append, List.length_append, List.length_append, hi, hj, hp] at hl
    rw [hi] at hU1 hPU
    rw [hj] at hV1
    rw [hp] at hPU
    rw [hi, hj]
    have wp : IntKind.i64.wrap ((M : Int) - (i : Int)) = (p : Int) := by rw [IntKind.wrap_i64]; omega
    obtain ⟨wq, hwq⟩ : ∃ wq, RW w g off (P1 ++ (U ++ (V ++ T1))) k = wq := ⟨_, rfl⟩
    rw [hwq]
    by_cases hij : i = j
    · subst hij
      have c := swapRange_c w g off cap N F L0 HH.out HN.out hsz P1 U [] V T1 (by rw [hi, hj]) hlen k
      rw [show P1 ++ (U ++ ([] ++ (V ++ T1))) = P1 ++ (U ++ (V ++ T1)) from rfl, hwq, show P1 ++ (V ++ ([] ++ (U ++ T1))) = G from hG, hp, hi, show p + i + ([] : List Int).length = M from hPU] at c
      clear hwq hG hlen hl hi hj hp hPU
      go_wp2_with fail
      refine c.mono ?_
      rintro e w' ⟨rfl, m', rfl⟩
      go_wp2
      go_end0
      exact ⟨rfl, m', rfl⟩
    · have hne : ((i : Int) == (j : Int)) = false := by rw [beq_eq_false_iff_ne]; omega
      by_cases hgt : j < i
      · have hgtz : (j : Int) < (i : Int) := by omega
        have c := swapRange_c w g off cap N F L0 HH.out HN.out hsz P1 (U.take j) (U.drop j) V T1 (by rw [List.length_take, hi, hj]; omega)
        have e1 : P1 ++ (U.take j ++ (U.drop j ++ (V ++ T1))) = P1 ++ (U ++ (V ++ T1)) := by rw [← List.append_assoc (U.take j), List.take_append_drop]
        have l1 : (U.take j).length = j := by rw [List.length_take, hi]; omega
        have l2 : (U.drop j).length = i - j := by rw [List.length_drop, hi]
        have c := c (by rw [e1]; exact hlen) k
        rw [e1, hwq, hp, l1, l2, show p + j + (i - j) = M by omega] at c
        have HX : ∀ m', Hid (RotRel w g off N M G (.int .i64 ((i - j : Nat) : Int)) (.int .i64 j) (RW w g off (P1 ++ (V ++ (U.drop j ++ (U.take j ++ T1)))) m')) := fun m' =>
          Lib.hid ⟨P1 ++ V, U.drop j, U.take j, T1, m', by rw [List.length_append, l2]; omega, by
            simp only [List.length_append, l1, l2, hp, hj]; omega, by omega, by omega, by rw [l2], by rw [l1], by
            rw [← hG, List.append_assoc, ← List.append_assoc (U.take j), List.take_append_drop], by rw [List.append_assoc]⟩
        generalize U.take j = UT at *
        generalize U.drop j = UD at *
        have wd : IntKind.i64.wrap ((i : Int) - (j : Int)) = ((i - j : Nat) : Int) := by rw [IntKind.wrap_i64]; omega
        obtain ⟨d, hd⟩ : ∃ d, i - j = d := ⟨_, rfl⟩
        have hdi : d < i := by omega
        rw [hd] at wd HX
        clear hwq hG hlen hl hi hj hp hPU e1 l1 l2 hd hij
        go_wp2_with fail
        refine c.mono ?_
        rintro e w' ⟨rfl, m', rfl⟩
        go_wp2
        go_roundw
        case rel => exact (HX m').out
        case measure => simp [intOf]; omega
      · have hgtz : ¬ ((j : Int) < (i : Int)) := by omega
        have hlt : i < j := by omega
        have c := swapRange_c w g off cap N F L0 HH.out HN.out hsz P1 U (V.take (j - i)) (V.drop (j - i)) T1 (by rw [List.length_drop, hi, hj]; omega)
        have e1 : P1 ++ (U ++ (V.take (j - i) ++ (V.drop (j - i) ++ T1))) = P1 ++ (U ++ (V ++ T1)) := by rw [← List.append_assoc (V.take (j - i)), List.take_append_drop]
        have l1 : (V.take (j - i)).length = j - i := by rw [List.length_take, hj]; omega
        have l2 : (V.drop (j - i)).length = i := by rw [List.length_drop, hj]; omega
        have c := c (by rw [e1]; exact hlen) k
        obtain ⟨q, hq⟩ : ∃ q, M + j - i = q := ⟨_, rfl⟩
        rw [e1, hwq, hp, hi, l1, show p + i + (j - i) = q by omega] at c
        have HX : ∀ m', Hid (RotRel w g off N M G (.int .i64 i) (.int .i64 ((j - i : Nat) : Int)) (RW w g off (P1 ++ (V.drop (j - i) ++ (V.take (j - i) ++ (U ++ T1)))) m')) := fun m' =>
          Lib.hid ⟨P1, V.drop (j - i), V.take (j - i), U ++ T1, m', by rw [hp, l2]; omega, by
            simp only [List.length_append, l1, l2, hp, hi]; omega, by omega, by omega, by rw [l2], by rw [l1], by
            rw [← hG, ← List.append_assoc (V.take (j - i)), List.take_append_drop], rfl⟩
        generalize V.take (j - i) = UT at *
        generalize V.drop (j - i) = UD at *
        have wd : IntKind.i64.wrap ((j : Int) - (i : Int)) = ((j - i : Nat) : Int) := by rw [IntKind.wrap_i64]; omega
        have ws : IntKind.i64.wrap ((M : Int) + (j : Int)) = (M : Int) + (j : Int) := by rw [IntKind.wrap_i64]; omega
        have wr1 : IntKind.i64.wrap ((M : Int) + (j : Int) - (i : Int)) = (q : Int) := by rw [IntKind.wrap_i64]; omega
        obtain ⟨d, hd⟩ : ∃ d, j - i = d := ⟨_, rfl⟩
        have hdi : d < j := by omega
        rw [hd] at wd HX
        clear hwq hG hlen hl hi hj hp hPU e1 l1 l2 hd hij hq
        go_wp2_with fail
        refine c.mono ?_
        rintro e w' ⟨rfl, m', rfl⟩
        go_wp2
        go_roundw
        case rel => exact (HX m').out
        case measure => simp [intOf]; omega
end Go.Proofs.Ytjakelphkehonaa
