/-
  The law BankArgs.
-/
import Derived.Test.YtkmfblbkaihbdaaBkDevG
namespace Go.Proofs.Ytkmfblbkaihbdaa
open Go.RowKit Go.Sort
set_option linter.unusedVariables false

set_option maxHeartbeats 8000000 in
set_option maxRecDepth 100000 in
theorem args7_walk (x fr sz at_ : Int) (hx0 : 0 ≤ x) (hx1 : x ≤ 255) (hf : -9223372036854775808 ≤ fr ∧ fr ≤ 9223372036854775807) (hs : -9223372036854775808 ≤ sz ∧ sz ≤ 9223372036854775807) (ht : -9223372036854775808 ≤ at_ ∧ at_ ≤ 9223372036854775807) (w : World) :
    Calls Try.prog 8 #[.int .u8 x, .agg #[.int .i64 fr, .int .i64 sz, .int .i64 at_]] w fun e w' => e = .returned (.bool true) ∧ Below w.heap.size w w' := by
  obtain ⟨X, rfl⟩ : ∃ X : Nat, x = X := ⟨x.toNat, by omega⟩
  obtain ⟨n, hn⟩ : ∃ n, X % 20 = n := ⟨_, rfl⟩
  have hn1 : (X : Int) % 20 = (n : Int) := by omega
  have hn2 : (X : Int).tmod 20 = (n : Int) := by rw [Int.tmod_eq_emod_of_nonneg (by omega)]; exact hn1
  have hn20 : n < 20 := by omega
  have hnw : IntKind.i64.wrap (n : Int) = (n : Int) := by rw [IntKind.wrap_i64]; omega
  have cA := awake7_c
  have cN := fun W => newG (n : Int) n (sizeI_nat n (by omega)) W
  have cT := ht
  clear hn hx0 hx1
  by_cases c1 : 1 ≤ sz
  · by_cases c2 : sz ≤ (n : Int)
    · have hwn : IntKind.i64.wrap ((n : Int) - sz) = (n : Int) - sz := by rw [IntKind.wrap_i64]; omega
      by_cases c3 : 0 ≤ fr
      · by_cases c4 : fr ≤ (n : Int) - sz
        · by_cases c5 : at_ < 1
          · have c6 : ¬ (1 ≤ at_) := by omega
            have hq : openN n fr sz = 0 := by unfold openN; rw [if_neg (by omega), if_neg (by omega)]
            have hg : oneI n fr sz at_ = 1 := by unfold oneI; rw [hq]; rw [if_pos rfl, if_pos (by omega)]
            have hsc : Hid (∀ b W, DevG w.heap.size b n 0 W → Calls Try.prog 14 #[.pointer (some ⟨b, 0, none⟩), .int .i64 fr, .int .i64 sz] W fun e w' => ∃ u x, e = .returned (.tuple #[u, .int .i64 x, .int .i64 0]) ∧ Below W.heap.size W w') := Lib.hid (fun b W h => by have h1 := scanG h fr sz; rw [hq] at h1; exact h1)
            have hwi : Hid (∀ b W, DevG w.heap.size b n 0 W → w.heap.size ≤ W.heap.size → Calls Try.prog 20 #[.pointer (some ⟨b, 0, none⟩), .int .i64 fr, .int .i64 sz, .int .i64 at_] W fun e w' => e = .returned (.int .i64 0) ∧ DevG w.heap.size b n (0 + n) w' ∧ Below w.heap.size W w') := Lib.hid (fun b W h hB => by have h1 := wipeG h fr sz at_ cT.2 (by omega) hB; rw [hq] at h1; exact h1)
            have hwr : Hid (∀ b W, DevG w.heap.size b n (0 + n) W → w.heap.size ≤ W.heap.size → Calls Try.prog 13 #[.pointer (some ⟨b, 0, none⟩), .int .i64 fr, .int .i64 sz, .int .i64 at_, .string ⟨#[120]⟩] W fun e w' => ∃ x, e = .returned (.tuple #[.int .i64 x, .int .i64 1]) ∧ DevG w.heap.size b n (0 + n + 1) w' ∧ Below w.heap.size W w') := Lib.hid (fun b W h hB => by have h1 := writeG h fr sz at_ ⟨#[120]⟩ rfl cT (by omega) hB; rw [hg] at h1; exact h1)
            clear hq hg cT ht hf hs
            go_enter Try.func8, Try.ntmps8
            go_wp2
            go_quiet (fail)
            have HB0 : Hid (Below w.heap.size w ((w.alloc (.cells #[.int .i64 fr, .int .i64 sz, .int .i64 at_] 58)).drewN nq)) := Lib.hid (Below.drewS ((Below.refl _ _).alloc (Nat.le_refl _) _) nq)
            generalize ((w.alloc (.cells #[.int .i64 fr, .int .i64 sz, .int .i64 at_] 58)).drewN nq) = w0 at *
            go_wp2_with fail
            refine (cA _).mono ?_
            rintro e w1 ⟨rfl, hb1⟩
            have HB1 : Hid (Below w.heap.size w w1) := Lib.hid (HB0.out.trans (hb1.mono HB0.out.size))
            clear hb1 cA
            go_wp2_with fail
            refine (cN _).mono ?_
            rintro e w2 ⟨b, rfl, hd2, hb2⟩
            have HB2 : Hid (Below w.heap.size w w2) := Lib.hid (HB1.out.trans (hb2.mono HB1.out.size))
            have HD2 := Lib.hid (hd2.base HB1.out.size)
            clear hb2 hd2 cN
            go_wp2_with fail
            refine (hsc.out _ _ HD2.out).mono ?_
            rintro e w3 ⟨u3, x3, rfl, hb3⟩
            have HB3 : Hid (Below w.heap.size w w3) := Lib.hid (HB2.out.trans (hb3.mono HB2.out.size))
            have HD3 := Lib.hid (HD2.out.below hb3)
            clear hb3
            go_wp2_with fail
            refine (hwi.out _ _ HD3.out HB3.out.size).mono ?_
            rintro e w4 ⟨rfl, hd4, hb4⟩
            have HB4 : Hid (Below w.heap.size w w4) := Lib.hid (HB3.out.trans hb4)
            have HD4 := Lib.hid hd4
            clear hb4 hd4
            go_wp2_with fail
            refine (hwr.out _ _ HD4.out HB4.out.size).mono ?_
            rintro e w5 ⟨x5, rfl, hd5, hb5⟩
            have HB5 : Hid (Below w.heap.size w w5) := Lib.hid (HB4.out.trans hb5)
            have HD5 := Lib.hid hd5
            clear hb5 hd5
            go_wp2_with fail
            refine (cutG HD5.out).mono ?_
            rintro e w6 ⟨rfl, hd6, hb6⟩
            have HB6 : Hid (Below w.heap.size w w6) := Lib.hid (HB5.out.trans hb6)
            have HD6 := Lib.hid hd6
            clear hb6 hd6
            go_wp2_with fail
            refine (scanC HD6.out _ _).mono ?_
            rintro e w7 ⟨rfl, hb7⟩
            have HB7 : Hid (Below w.heap.size w w7) := Lib.hid (HB6.out.trans (hb7.mono HB6.out.size))
            have HD7 := Lib.hid (HD6.out.below hb7)
            clear hb7
            go_wp2_with fail
            refine (writeC HD7.out _ _ _ _).mono ?_
            rintro e w8 ⟨rfl, hb8⟩
            have HB8 : Hid (Below w.heap.size w w8) := Lib.hid (HB7.out.trans (hb8.mono HB7.out.size))
            have HD8 := Lib.hid (HD7.out.below hb8)
            clear hb8
            go_wp2_with fail
            refine (wipeC HD8.out _ _ _).mono ?_
            rintro e w9 ⟨rfl, hb9⟩
            have HB9 : Hid (Below w.heap.size w w9) := Lib.hid (HB8.out.trans (hb9.mono HB8.out.size))
            clear hb9
            go_wp2
            go_ret
            exact ⟨rfl, HB9.out⟩
          · have c6 : 1 ≤ at_ := by omega
            by_cases c7 : at_ < sz
            · skip
              have hq : openN n fr sz = 0 := by unfold openN; rw [if_neg (by omega), if_neg (by omega)]
              have hg : oneI n fr sz at_ = 0 := by unfold oneI; rw [hq]; rw [if_pos rfl, if_neg (by omega), if_neg (by omega)]
              have hsc : Hid (∀ b W, DevG w.heap.size b n 0 W → Calls Try.prog 14 #[.pointer (some ⟨b, 0, none⟩), .int .i64 fr, .int .i64 sz] W fun e w' => ∃ u x, e = .returned (.tuple #[u, .int .i64 x, .int .i64 0]) ∧ Below W.heap.size W w') := Lib.hid (fun b W h => by have h1 := scanG h fr sz; rw [hq] at h1; exact h1)
              have hwi : Hid (∀ b W, DevG w.heap.size b n 0 W → w.heap.size ≤ W.heap.size → Calls Try.prog 20 #[.pointer (some ⟨b, 0, none⟩), .int .i64 fr, .int .i64 sz, .int .i64 at_] W fun e w' => e = .returned (.int .i64 0) ∧ DevG w.heap.size b n (0 + n) w' ∧ Below w.heap.size W w') := Lib.hid (fun b W h hB => by have h1 := wipeG h fr sz at_ cT.2 (by omega) hB; rw [hq] at h1; exact h1)
              have hwr : Hid (∀ b W, DevG w.heap.size b n (0 + n) W → w.heap.size ≤ W.heap.size → Calls Try.prog 13 #[.pointer (some ⟨b, 0, none⟩), .int .i64 fr, .int .i64 sz, .int .i64 at_, .string ⟨#[120]⟩] W fun e w' => ∃ x, e = .returned (.tuple #[.int .i64 x, .int .i64 0]) ∧ DevG w.heap.size b n (0 + n + 1) w' ∧ Below w.heap.size W w') := Lib.hid (fun b W h hB => by have h1 := writeG h fr sz at_ ⟨#[120]⟩ rfl cT (by omega) hB; rw [hg] at h1; exact h1)
              clear hq hg cT ht hf hs
              go_enter Try.func8, Try.ntmps8
              go_wp2
              go_quiet (fail)
              have HB0 : Hid (Below w.heap.size w ((w.alloc (.cells #[.int .i64 fr, .int .i64 sz, .int .i64 at_] 58)).drewN nq)) := Lib.hid (Below.drewS ((Below.refl _ _).alloc (Nat.le_refl _) _) nq)
              generalize ((w.alloc (.cells #[.int .i64 fr, .int .i64 sz, .int .i64 at_] 58)).drewN nq) = w0 at *
              go_wp2_with fail
              refine (cA _).mono ?_
              rintro e w1 ⟨rfl, hb1⟩
              have HB1 : Hid (Below w.heap.size w w1) := Lib.hid (HB0.out.trans (hb1.mono HB0.out.size))
              clear hb1 cA
              go_wp2_with fail
              refine (cN _).mono ?_
              rintro e w2 ⟨b, rfl, hd2, hb2⟩
              have HB2 : Hid (Below w.heap.size w w2) := Lib.hid (HB1.out.trans (hb2.mono HB1.out.size))
              have HD2 := Lib.hid (hd2.base HB1.out.size)
              clear hb2 hd2 cN
              go_wp2_with fail
              refine (hsc.out _ _ HD2.out).mono ?_
              rintro e w3 ⟨u3, x3, rfl, hb3⟩
              have HB3 : Hid (Below w.heap.size w w3) := Lib.hid (HB2.out.trans (hb3.mono HB2.out.size))
              have HD3 := Lib.hid (HD2.out.below hb3)
              clear hb3
              go_wp2_with fail
              refine (hwi.out _ _ HD3.out HB3.out.size).mono ?_
              rintro e w4 ⟨rfl, hd4, hb4⟩
              have HB4 : Hid (Below w.heap.size w w4) := Lib.hid (HB3.out.trans hb4)
              have HD4 := Lib.hid hd4
              clear hb4 hd4
              go_wp2_with fail
              refine (hwr.out _ _ HD4.out HB4.out.size).mono ?_
              rintro e w5 ⟨x5, rfl, hd5, hb5⟩
              have HB5 : Hid (Below w.heap.size w w5) := Lib.hid (HB4.out.trans hb5)
              have HD5 := Lib.hid hd5
              clear hb5 hd5
              go_wp2_with fail
              refine (cutG HD5.out).mono ?_
              rintro e w6 ⟨rfl, hd6, hb6⟩
              have HB6 : Hid (Below w.heap.size w w6) := Lib.hid (HB5.out.trans hb6)
              have HD6 := Lib.hid hd6
              clear hb6 hd6
              go_wp2_with fail
              refine (scanC HD6.out _ _).mono ?_
              rintro e w7 ⟨rfl, hb7⟩
              have HB7 : Hid (Below w.heap.size w w7) := Lib.hid (HB6.out.trans (hb7.mono HB6.out.size))
              have HD7 := Lib.hid (HD6.out.below hb7)
              clear hb7
              go_wp2_with fail
              refine (writeC HD7.out _ _ _ _).mono ?_
              rintro e w8 ⟨rfl, hb8⟩
              have HB8 : Hid (Below w.heap.size w w8) := Lib.hid (HB7.out.trans (hb8.mono HB7.out.size))
              have HD8 := Lib.hid (HD7.out.below hb8)
              clear hb8
              go_wp2_with fail
              refine (wipeC HD8.out _ _ _).mono ?_
              rintro e w9 ⟨rfl, hb9⟩
              have HB9 : Hid (Below w.heap.size w w9) := Lib.hid (HB8.out.trans (hb9.mono HB8.out.size))
              clear hb9
              go_wp2
              go_ret
              exact ⟨rfl, HB9.out⟩
            · skip
              have hq : openN n fr sz = 0 := by unfold openN; rw [if_neg (by omega), if_neg (by omega)]
              have hg : oneI n fr sz at_ = 11 := by unfold oneI; rw [hq]; rw [if_pos rfl, if_neg (by omega), if_pos (by omega)]
              have hsc : Hid (∀ b W, DevG w.heap.size b n 0 W → Calls Try.prog 14 #[.pointer (some ⟨b, 0, none⟩), .int .i64 fr, .int .i64 sz] W fun e w' => ∃ u x, e = .returned (.tuple #[u, .int .i64 x, .int .i64 0]) ∧ Below W.heap.size W w') := Lib.hid (fun b W h => by have h1 := scanG h fr sz; rw [hq] at h1; exact h1)
              have hwi : Hid (∀ b W, DevG w.heap.size b n 0 W → w.heap.size ≤ W.heap.size → Calls Try.prog 20 #[.pointer (some ⟨b, 0, none⟩), .int .i64 fr, .int .i64 sz, .int .i64 at_] W fun e w' => e = .returned (.int .i64 0) ∧ DevG w.heap.size b n (0 + n) w' ∧ Below w.heap.size W w') := Lib.hid (fun b W h hB => by have h1 := wipeG h fr sz at_ cT.2 (by omega) hB; rw [hq] at h1; exact h1)
              have hwr : Hid (∀ b W, DevG w.heap.size b n (0 + n) W → w.heap.size ≤ W.heap.size → Calls Try.prog 13 #[.pointer (some ⟨b, 0, none⟩), .int .i64 fr, .int .i64 sz, .int .i64 at_, .string ⟨#[120]⟩] W fun e w' => ∃ x, e = .returned (.tuple #[.int .i64 x, .int .i64 11]) ∧ DevG w.heap.size b n (0 + n + 1) w' ∧ Below w.heap.size W w') := Lib.hid (fun b W h hB => by have h1 := writeG h fr sz at_ ⟨#[120]⟩ rfl cT (by omega) hB; rw [hg] at h1; exact h1)
              clear hq hg cT ht hf hs
              go_enter Try.func8, Try.ntmps8
              go_wp2
              go_quiet (fail)
              have HB0 : Hid (Below w.heap.size w ((w.alloc (.cells #[.int .i64 fr, .int .i64 sz, .int .i64 at_] 58)).drewN nq)) := Lib.hid (Below.drewS ((Below.refl _ _).alloc (Nat.le_refl _) _) nq)
              generalize ((w.alloc (.cells #[.int .i64 fr, .int .i64 sz, .int .i64 at_] 58)).drewN nq) = w0 at *
              go_wp2_with fail
              refine (cA _).mono ?_
              rintro e w1 ⟨rfl, hb1⟩
              have HB1 : Hid (Below w.heap.size w w1) := Lib.hid (HB0.out.trans (hb1.mono HB0.out.size))
              clear hb1 cA
              go_wp2_with fail
              refine (cN _).mono ?_
              rintro e w2 ⟨b, rfl, hd2, hb2⟩
              have HB2 : Hid (Below w.heap.size w w2) := Lib.hid (HB1.out.trans (hb2.mono HB1.out.size))
              have HD2 := Lib.hid (hd2.base HB1.out.size)
              clear hb2 hd2 cN
              go_wp2_with fail
              refine (hsc.out _ _ HD2.out).mono ?_
              rintro e w3 ⟨u3, x3, rfl, hb3⟩
              have HB3 : Hid (Below w.heap.size w w3) := Lib.hid (HB2.out.trans (hb3.mono HB2.out.size))
              have HD3 := Lib.hid (HD2.out.below hb3)
              clear hb3
              go_wp2_with fail
              refine (hwi.out _ _ HD3.out HB3.out.size).mono ?_
              rintro e w4 ⟨rfl, hd4, hb4⟩
              have HB4 : Hid (Below w.heap.size w w4) := Lib.hid (HB3.out.trans hb4)
              have HD4 := Lib.hid hd4
              clear hb4 hd4
              go_wp2_with fail
              refine (hwr.out _ _ HD4.out HB4.out.size).mono ?_
              rintro e w5 ⟨x5, rfl, hd5, hb5⟩
              have HB5 : Hid (Below w.heap.size w w5) := Lib.hid (HB4.out.trans hb5)
              have HD5 := Lib.hid hd5
              clear hb5 hd5
              go_wp2_with fail
              refine (cutG HD5.out).mono ?_
              rintro e w6 ⟨rfl, hd6, hb6⟩
              have HB6 : Hid (Below w.heap.size w w6) := Lib.hid (HB5.out.trans hb6)
              have HD6 := Lib.hid hd6
              clear hb6 hd6
              go_wp2_with fail
              refine (scanC HD6.out _ _).mono ?_
              rintro e w7 ⟨rfl, hb7⟩
              have HB7 : Hid (Below w.heap.size w w7) := Lib.hid (HB6.out.trans (hb7.mono HB6.out.size))
              have HD7 := Lib.hid (HD6.out.below hb7)
              clear hb7
              go_wp2_with fail
              refine (writeC HD7.out _ _ _ _).mono ?_
              rintro e w8 ⟨rfl, hb8⟩
              have HB8 : Hid (Below w.heap.size w w8) := Lib.hid (HB7.out.trans (hb8.mono HB7.out.size))
              have HD8 := Lib.hid (HD7.out.below hb8)
              clear hb8
              go_wp2_with fail
              refine (wipeC HD8.out _ _ _).mono ?_
              rintro e w9 ⟨rfl, hb9⟩
              have HB9 : Hid (Below w.heap.size w w9) := Lib.hid (HB8.out.trans (hb9.mono HB8.out.size))
              clear hb9
              go_wp2
              go_ret
              exact ⟨rfl, HB9.out⟩
        · have c4d : decide (fr ≤ (n : Int) - sz) = false := decide_eq_false c4
          have hq : openN n fr sz = 1 := by unfold openN; (split; rfl; rw [if_pos (by omega)])
          have hg : oneI n fr sz at_ = 1 := by unfold oneI; rw [hq]; rfl
          have hsc : Hid (∀ b W, DevG w.heap.size b n 0 W → Calls Try.prog 14 #[.pointer (some ⟨b, 0, none⟩), .int .i64 fr, .int .i64 sz] W fun e w' => ∃ u x, e = .returned (.tuple #[u, .int .i64 x, .int .i64 1]) ∧ Below W.heap.size W w') := Lib.hid (fun b W h => by have h1 := scanG h fr sz; rw [hq] at h1; exact h1)
          have hwi : Hid (∀ b W, DevG w.heap.size b n 0 W → w.heap.size ≤ W.heap.size → Calls Try.prog 20 #[.pointer (some ⟨b, 0, none⟩), .int .i64 fr, .int .i64 sz, .int .i64 at_] W fun e w' => e = .returned (.int .i64 1) ∧ DevG w.heap.size b n (0 + n) w' ∧ Below w.heap.size W w') := Lib.hid (fun b W h hB => by have h1 := wipeG h fr sz at_ cT.2 (by omega) hB; rw [hq] at h1; exact h1)
          have hwr : Hid (∀ b W, DevG w.heap.size b n (0 + n) W → w.heap.size ≤ W.heap.size → Calls Try.prog 13 #[.pointer (some ⟨b, 0, none⟩), .int .i64 fr, .int .i64 sz, .int .i64 at_, .string ⟨#[120]⟩] W fun e w' => ∃ x, e = .returned (.tuple #[.int .i64 x, .int .i64 1]) ∧ DevG w.heap.size b n (0 + n + 1) w' ∧ Below w.heap.size W w') := Lib.hid (fun b W h hB => by have h1 := writeG h fr sz at_ ⟨#[120]⟩ rfl cT (by omega) hB; rw [hg] at h1; exact h1)
          clear hq hg cT ht hf hs
          go_enter Try.func8, Try.ntmps8
          go_wp2
          go_quiet (fail)
          have HB0 : Hid (Below w.heap.size w ((w.alloc (.cells #[.int .i64 fr, .int .i64 sz, .int .i64 at_] 58)).drewN nq)) := Lib.hid (Below.drewS ((Below.refl _ _).alloc (Nat.le_refl _) _) nq)
          generalize ((w.alloc (.cells #[.int .i64 fr, .int .i64 sz, .int .i64 at_] 58)).drewN nq) = w0 at *
          go_wp2_with fail
          refine (cA _).mono ?_
          rintro e w1 ⟨rfl, hb1⟩
          have HB1 : Hid (Below w.heap.size w w1) := Lib.hid (HB0.out.trans (hb1.mono HB0.out.size))
          clear hb1 cA
          go_wp2_with fail
          refine (cN _).mono ?_
          rintro e w2 ⟨b, rfl, hd2, hb2⟩
          have HB2 : Hid (Below w.heap.size w w2) := Lib.hid (HB1.out.trans (hb2.mono HB1.out.size))
          have HD2 := Lib.hid (hd2.base HB1.out.size)
          clear hb2 hd2 cN
          go_wp2_with fail
          refine (hsc.out _ _ HD2.out).mono ?_
          rintro e w3 ⟨u3, x3, rfl, hb3⟩
          have HB3 : Hid (Below w.heap.size w w3) := Lib.hid (HB2.out.trans (hb3.mono HB2.out.size))
          have HD3 := Lib.hid (HD2.out.below hb3)
          clear hb3
          go_wp2_with fail
          refine (hwi.out _ _ HD3.out HB3.out.size).mono ?_
          rintro e w4 ⟨rfl, hd4, hb4⟩
          have HB4 : Hid (Below w.heap.size w w4) := Lib.hid (HB3.out.trans hb4)
          have HD4 := Lib.hid hd4
          clear hb4 hd4
          go_wp2_with fail
          refine (hwr.out _ _ HD4.out HB4.out.size).mono ?_
          rintro e w5 ⟨x5, rfl, hd5, hb5⟩
          have HB5 : Hid (Below w.heap.size w w5) := Lib.hid (HB4.out.trans hb5)
          have HD5 := Lib.hid hd5
          clear hb5 hd5
          go_wp2_with fail
          refine (cutG HD5.out).mono ?_
          rintro e w6 ⟨rfl, hd6, hb6⟩
          have HB6 : Hid (Below w.heap.size w w6) := Lib.hid (HB5.out.trans hb6)
          have HD6 := Lib.hid hd6
          clear hb6 hd6
          go_wp2_with fail
          refine (scanC HD6.out _ _).mono ?_
          rintro e w7 ⟨rfl, hb7⟩
          have HB7 : Hid (Below w.heap.size w w7) := Lib.hid (HB6.out.trans (hb7.mono HB6.out.size))
          have HD7 := Lib.hid (HD6.out.below hb7)
          clear hb7
          go_wp2_with fail
          refine (writeC HD7.out _ _ _ _).mono ?_
          rintro e w8 ⟨rfl, hb8⟩
          have HB8 : Hid (Below w.heap.size w w8) := Lib.hid (HB7.out.trans (hb8.mono HB7.out.size))
          have HD8 := Lib.hid (HD7.out.below hb8)
          clear hb8
          go_wp2_with fail
          refine (wipeC HD8.out _ _ _).mono ?_
          rintro e w9 ⟨rfl, hb9⟩
          have HB9 : Hid (Below w.heap.size w w9) := Lib.hid (HB8.out.trans (hb9.mono HB8.out.size))
          clear hb9
          go_wp2
          go_ret
          exact ⟨rfl, HB9.out⟩
      · skip
        have hq : openN n fr sz = 1 := by unfold openN; (split; rfl; rw [if_pos (by omega)])
        have hg : oneI n fr sz at_ = 1 := by unfold oneI; rw [hq]; rfl
        have hsc : Hid (∀ b W, DevG w.heap.size b n 0 W → Calls Try.prog 14 #[.pointer (some ⟨b, 0, none⟩), .int .i64 fr, .int .i64 sz] W fun e w' => ∃ u x, e = .returned (.tuple #[u, .int .i64 x, .int .i64 1]) ∧ Below W.heap.size W w') := Lib.hid (fun b W h => by have h1 := scanG h fr sz; rw [hq] at h1; exact h1)
        have hwi : Hid (∀ b W, DevG w.heap.size b n 0 W → w.heap.size ≤ W.heap.size → Calls Try.prog 20 #[.pointer (some ⟨b, 0, none⟩), .int .i64 fr, .int .i64 sz, .int .i64 at_] W fun e w' => e = .returned (.int .i64 1) ∧ DevG w.heap.size b n (0 + n) w' ∧ Below w.heap.size W w') := Lib.hid (fun b W h hB => by have h1 := wipeG h fr sz at_ cT.2 (by omega) hB; rw [hq] at h1; exact h1)
        have hwr : Hid (∀ b W, DevG w.heap.size b n (0 + n) W → w.heap.size ≤ W.heap.size → Calls Try.prog 13 #[.pointer (some ⟨b, 0, none⟩), .int .i64 fr, .int .i64 sz, .int .i64 at_, .string ⟨#[120]⟩] W fun e w' => ∃ x, e = .returned (.tuple #[.int .i64 x, .int .i64 1]) ∧ DevG w.heap.size b n (0 + n + 1) w' ∧ Below w.heap.size W w') := Lib.hid (fun b W h hB => by have h1 := writeG h fr sz at_ ⟨#[120]⟩ rfl cT (by omega) hB; rw [hg] at h1; exact h1)
        clear hq hg cT ht hf hs
        go_enter Try.func8, Try.ntmps8
        go_wp2
        go_quiet (fail)
        have HB0 : Hid (Below w.heap.size w ((w.alloc (.cells #[.int .i64 fr, .int .i64 sz, .int .i64 at_] 58)).drewN nq)) := Lib.hid (Below.drewS ((Below.refl _ _).alloc (Nat.le_refl _) _) nq)
        generalize ((w.alloc (.cells #[.int .i64 fr, .int .i64 sz, .int .i64 at_] 58)).drewN nq) = w0 at *
        go_wp2_with fail
        refine (cA _).mono ?_
        rintro e w1 ⟨rfl, hb1⟩
        have HB1 : Hid (Below w.heap.size w w1) := Lib.hid (HB0.out.trans (hb1.mono HB0.out.size))
        clear hb1 cA
        go_wp2_with fail
        refine (cN _).mono ?_
        rintro e w2 ⟨b, rfl, hd2, hb2⟩
        have HB2 : Hid (Below w.heap.size w w2) := Lib.hid (HB1.out.trans (hb2.mono HB1.out.size))
        have HD2 := Lib.hid (hd2.base HB1.out.size)
        clear hb2 hd2 cN
        go_wp2_with fail
        refine (hsc.out _ _ HD2.out).mono ?_
        rintro e w3 ⟨u3, x3, rfl, hb3⟩
        have HB3 : Hid (Below w.heap.size w w3) := Lib.hid (HB2.out.trans (hb3.mono HB2.out.size))
        have HD3 := Lib.hid (HD2.out.below hb3)
        clear hb3
        go_wp2_with fail
        refine (hwi.out _ _ HD3.out HB3.out.size).mono ?_
        rintro e w4 ⟨rfl, hd4, hb4⟩
        have HB4 : Hid (Below w.heap.size w w4) := Lib.hid (HB3.out.trans hb4)
        have HD4 := Lib.hid hd4
        clear hb4 hd4
        go_wp2_with fail
        refine (hwr.out _ _ HD4.out HB4.out.size).mono ?_
        rintro e w5 ⟨x5, rfl, hd5, hb5⟩
        have HB5 : Hid (Below w.heap.size w w5) := Lib.hid (HB4.out.trans hb5)
        have HD5 := Lib.hid hd5
        clear hb5 hd5
        go_wp2_with fail
        refine (cutG HD5.out).mono ?_
        rintro e w6 ⟨rfl, hd6, hb6⟩
        have HB6 : Hid (Below w.heap.size w w6) := Lib.hid (HB5.out.trans hb6)
        have HD6 := Lib.hid hd6
        clear hb6 hd6
        go_wp2_with fail
        refine (scanC HD6.out _ _).mono ?_
        rintro e w7 ⟨rfl, hb7⟩
        have HB7 : Hid (Below w.heap.size w w7) := Lib.hid (HB6.out.trans (hb7.mono HB6.out.size))
        have HD7 := Lib.hid (HD6.out.below hb7)
        clear hb7
        go_wp2_with fail
        refine (writeC HD7.out _ _ _ _).mono ?_
        rintro e w8 ⟨rfl, hb8⟩
        have HB8 : Hid (Below w.heap.size w w8) := Lib.hid (HB7.out.trans (hb8.mono HB7.out.size))
        have HD8 := Lib.hid (HD7.out.below hb8)
        clear hb8
        go_wp2_with fail
        refine (wipeC HD8.out _ _ _).mono ?_
        rintro e w9 ⟨rfl, hb9⟩
        have HB9 : Hid (Below w.heap.size w w9) := Lib.hid (HB8.out.trans (hb9.mono HB8.out.size))
        clear hb9
        go_wp2
        go_ret
        exact ⟨rfl, HB9.out⟩
    · skip
      have hq : openN n fr sz = 1 := by unfold openN; (split; rfl; rw [if_pos (by omega)])
      have hg : oneI n fr sz at_ = 1 := by unfold oneI; rw [hq]; rfl
      have hsc : Hid (∀ b W, DevG w.heap.size b n 0 W → Calls Try.prog 14 #[.pointer (some ⟨b, 0, none⟩), .int .i64 fr, .int .i64 sz] W fun e w' => ∃ u x, e = .returned (.tuple #[u, .int .i64 x, .int .i64 1]) ∧ Below W.heap.size W w') := Lib.hid (fun b W h => by have h1 := scanG h fr sz; rw [hq] at h1; exact h1)
      have hwi : Hid (∀ b W, DevG w.heap.size b n 0 W → w.heap.size ≤ W.heap.size → Calls Try.prog 20 #[.pointer (some ⟨b, 0, none⟩), .int .i64 fr, .int .i64 sz, .int .i64 at_] W fun e w' => e = .returned (.int .i64 1) ∧ DevG w.heap.size b n (0 + n) w' ∧ Below w.heap.size W w') := Lib.hid (fun b W h hB => by have h1 := wipeG h fr sz at_ cT.2 (by omega) hB; rw [hq] at h1; exact h1)
      have hwr : Hid (∀ b W, DevG w.heap.size b n (0 + n) W → w.heap.size ≤ W.heap.size → Calls Try.prog 13 #[.pointer (some ⟨b, 0, none⟩), .int .i64 fr, .int .i64 sz, .int .i64 at_, .string ⟨#[120]⟩] W fun e w' => ∃ x, e = .returned (.tuple #[.int .i64 x, .int .i64 1]) ∧ DevG w.heap.size b n (0 + n + 1) w' ∧ Below w.heap.size W w') := Lib.hid (fun b W h hB => by have h1 := writeG h fr sz at_ ⟨#[120]⟩ rfl cT (by omega) hB; rw [hg] at h1; exact h1)
      clear hq hg cT ht hf hs
      go_enter Try.func8, Try.ntmps8
      go_wp2
      go_quiet (fail)
      have HB0 : Hid (Below w.heap.size w ((w.alloc (.cells #[.int .i64 fr, .int .i64 sz, .int .i64 at_] 58)).drewN nq)) := Lib.hid (Below.drewS ((Below.refl _ _).alloc (Nat.le_refl _) _) nq)
      generalize ((w.alloc (.cells #[.int .i64 fr, .int .i64 sz, .int .i64 at_] 58)).drewN nq) = w0 at *
      go_wp2_with fail
      refine (cA _).mono ?_
      rintro e w1 ⟨rfl, hb1⟩
      have HB1 : Hid (Below w.heap.size w w1) := Lib.hid (HB0.out.trans (hb1.mono HB0.out.size))
      clear hb1 cA
      go_wp2_with fail
      refine (cN _).mono ?_
      rintro e w2 ⟨b, rfl, hd2, hb2⟩
      have HB2 : Hid (Below w.heap.size w w2) := Lib.hid (HB1.out.trans (hb2.mono HB1.out.size))
      have HD2 := Lib.hid (hd2.base HB1.out.size)
      clear hb2 hd2 cN
      go_wp2_with fail
      refine (hsc.out _ _ HD2.out).mono ?_
      rintro e w3 ⟨u3, x3, rfl, hb3⟩
      have HB3 : Hid (Below w.heap.size w w3) := Lib.hid (HB2.out.trans (hb3.mono HB2.out.size))
      have HD3 := Lib.hid (HD2.out.below hb3)
      clear hb3
      go_wp2_with fail
      refine (hwi.out _ _ HD3.out HB3.out.size).mono ?_
      rintro e w4 ⟨rfl, hd4, hb4⟩
      have HB4 : Hid (Below w.heap.size w w4) := Lib.hid (HB3.out.trans hb4)
      have HD4 := Lib.hid hd4
      clear hb4 hd4
      go_wp2_with fail
      refine (hwr.out _ _ HD4.out HB4.out.size).mono ?_
      rintro e w5 ⟨x5, rfl, hd5, hb5⟩
      have HB5 : Hid (Below w.heap.size w w5) := Lib.hid (HB4.out.trans hb5)
      have HD5 := Lib.hid hd5
      clear hb5 hd5
      go_wp2_with fail
      refine (cutG HD5.out).mono ?_
      rintro e w6 ⟨rfl, hd6, hb6⟩
      have HB6 : Hid (Below w.heap.size w w6) := Lib.hid (HB5.out.trans hb6)
      have HD6 := Lib.hid hd6
      clear hb6 hd6
      go_wp2_with fail
      refine (scanC HD6.out _ _).mono ?_
      rintro e w7 ⟨rfl, hb7⟩
      have HB7 : Hid (Below w.heap.size w w7) := Lib.hid (HB6.out.trans (hb7.mono HB6.out.size))
      have HD7 := Lib.hid (HD6.out.below hb7)
      clear hb7
      go_wp2_with fail
      refine (writeC HD7.out _ _ _ _).mono ?_
      rintro e w8 ⟨rfl, hb8⟩
      have HB8 : Hid (Below w.heap.size w w8) := Lib.hid (HB7.out.trans (hb8.mono HB7.out.size))
      have HD8 := Lib.hid (HD7.out.below hb8)
      clear hb8
      go_wp2_with fail
      refine (wipeC HD8.out _ _ _).mono ?_
      rintro e w9 ⟨rfl, hb9⟩
      have HB9 : Hid (Below w.heap.size w w9) := Lib.hid (HB8.out.trans (hb9.mono HB8.out.size))
      clear hb9
      go_wp2
      go_ret
      exact ⟨rfl, HB9.out⟩
  · skip
    have hq : openN n fr sz = 1 := by unfold openN; (split; rfl; rw [if_pos (by omega)])
    have hg : oneI n fr sz at_ = 1 := by unfold oneI; rw [hq]; rfl
    have hsc : Hid (∀ b W, DevG w.heap.size b n 0 W → Calls Try.prog 14 #[.pointer (some ⟨b, 0, none⟩), .int .i64 fr, .int .i64 sz] W fun e w' => ∃ u x, e = .returned (.tuple #[u, .int .i64 x, .int .i64 1]) ∧ Below W.heap.size W w') := Lib.hid (fun b W h => by have h1 := scanG h fr sz; rw [hq] at h1; exact h1)
    have hwi : Hid (∀ b W, DevG w.heap.size b n 0 W → w.heap.size ≤ W.heap.size → Calls Try.prog 20 #[.pointer (some ⟨b, 0, none⟩), .int .i64 fr, .int .i64 sz, .int .i64 at_] W fun e w' => e = .returned (.int .i64 1) ∧ DevG w.heap.size b n (0 + n) w' ∧ Below w.heap.size W w') := Lib.hid (fun b W h hB => by have h1 := wipeG h fr sz at_ cT.2 (by omega) hB; rw [hq] at h1; exact h1)
    have hwr : Hid (∀ b W, DevG w.heap.size b n (0 + n) W → w.heap.size ≤ W.heap.size → Calls Try.prog 13 #[.pointer (some ⟨b, 0, none⟩), .int .i64 fr, .int .i64 sz, .int .i64 at_, .string ⟨#[120]⟩] W fun e w' => ∃ x, e = .returned (.tuple #[.int .i64 x, .int .i64 1]) ∧ DevG w.heap.size b n (0 + n + 1) w' ∧ Below w.heap.size W w') := Lib.hid (fun b W h hB => by have h1 := writeG h fr sz at_ ⟨#[120]⟩ rfl cT (by omega) hB; rw [hg] at h1; exact h1)
    clear hq hg cT ht hf hs
    go_enter Try.func8, Try.ntmps8
    go_wp2
    go_quiet (fail)
    have HB0 : Hid (Below w.heap.size w ((w.alloc (.cells #[.int .i64 fr, .int .i64 sz, .int .i64 at_] 58)).drewN nq)) := Lib.hid (Below.drewS ((Below.refl _ _).alloc (Nat.le_refl _) _) nq)
    generalize ((w.alloc (.cells #[.int .i64 fr, .int .i64 sz, .int .i64 at_] 58)).drewN nq) = w0 at *
    go_wp2_with fail
    refine (cA _).mono ?_
    rintro e w1 ⟨rfl, hb1⟩
    have HB1 : Hid (Below w.heap.size w w1) := Lib.hid (HB0.out.trans (hb1.mono HB0.out.size))
    clear hb1 cA
    go_wp2_with fail
    refine (cN _).mono ?_
    rintro e w2 ⟨b, rfl, hd2, hb2⟩
    have HB2 : Hid (Below w.heap.size w w2) := Lib.hid (HB1.out.trans (hb2.mono HB1.out.size))
    have HD2 := Lib.hid (hd2.base HB1.out.size)
    clear hb2 hd2 cN
    go_wp2_with fail
    refine (hsc.out _ _ HD2.out).mono ?_
    rintro e w3 ⟨u3, x3, rfl, hb3⟩
    have HB3 : Hid (Below w.heap.size w w3) := Lib.hid (HB2.out.trans (hb3.mono HB2.out.size))
    have HD3 := Lib.hid (HD2.out.below hb3)
    clear hb3
    go_wp2_with fail
    refine (hwi.out _ _ HD3.out HB3.out.size).mono ?_
    rintro e w4 ⟨rfl, hd4, hb4⟩
    have HB4 : Hid (Below w.heap.size w w4) := Lib.hid (HB3.out.trans hb4)
    have HD4 := Lib.hid hd4
    clear hb4 hd4
    go_wp2_with fail
    refine (hwr.out _ _ HD4.out HB4.out.size).mono ?_
    rintro e w5 ⟨x5, rfl, hd5, hb5⟩
    have HB5 : Hid (Below w.heap.size w w5) := Lib.hid (HB4.out.trans hb5)
    have HD5 := Lib.hid hd5
    clear hb5 hd5
    go_wp2_with fail
    refine (cutG HD5.out).mono ?_
    rintro e w6 ⟨rfl, hd6, hb6⟩
    have HB6 : Hid (Below w.heap.size w w6) := Lib.hid (HB5.out.trans hb6)
    have HD6 := Lib.hid hd6
    clear hb6 hd6
    go_wp2_with fail
    refine (scanC HD6.out _ _).mono ?_
    rintro e w7 ⟨rfl, hb7⟩
    have HB7 : Hid (Below w.heap.size w w7) := Lib.hid (HB6.out.trans (hb7.mono HB6.out.size))
    have HD7 := Lib.hid (HD6.out.below hb7)
    clear hb7
    go_wp2_with fail
    refine (writeC HD7.out _ _ _ _).mono ?_
    rintro e w8 ⟨rfl, hb8⟩
    have HB8 : Hid (Below w.heap.size w w8) := Lib.hid (HB7.out.trans (hb8.mono HB7.out.size))
    have HD8 := Lib.hid (HD7.out.below hb8)
    clear hb8
    go_wp2_with fail
    refine (wipeC HD8.out _ _ _).mono ?_
    rintro e w9 ⟨rfl, hb9⟩
    have HB9 : Hid (Below w.heap.size w w9) := Lib.hid (HB8.out.trans (hb9.mono HB8.out.size))
    clear hb9
    go_wp2
    go_ret
    exact ⟨rfl, HB9.out⟩
end Go.Proofs.Ytkmfblbkaihbdaa
