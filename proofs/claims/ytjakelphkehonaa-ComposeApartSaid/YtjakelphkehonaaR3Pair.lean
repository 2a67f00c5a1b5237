/-
  The contract of the third reference's Pair.
-/
import Derived.Test.YtjakelphkehonaaR3Line
import Derived.Test.YtjakelphkehonaaR1All
namespace Go.Proofs.Ytjakelphkehonaa
open Go.RowKit
set_option linter.unusedVariables false

theorem pairI_none {a b : Int} (h : pairT a b = none) : pairI a b = (if 4352 ≤ a ∧ a ≤ 4370 ∧ 4449 ≤ b ∧ b ≤ 4469 then 44032 + (a - 4352) * 588 + (b - 4449) * 28 else if 44032 ≤ a ∧ a ≤ 55203 ∧ (a - 44032) % 28 = 0 ∧ 4520 ≤ b ∧ b ≤ 4546 then a + (b - 4519) else 0) := by unfold pairI; rw [h]
theorem pairF_no {a b : Int} {n : Nat} (h : markN n ≠ b) : pairF a b n = none := by unfold pairF; rw [if_neg h]
theorem none_next {α : Type} {f : Nat → Option α} {n : Nat} (h : ∀ j, j < n → f j = none) (h' : f n = none) : ∀ j, j < n + 1 → f j = none := by
  intro j hj
  by_cases e : j = n
  · subst e; exact h'
  · exact h j (by omega)
theorem ne_next {l : List Int} {a : Int} {i : Nat} (h : ∀ j, j < i → l.getD j 0 ≠ a) (h' : l.getD i 0 ≠ a) : ∀ j, j < i + 1 → l.getD j 0 ≠ a := by
  intro j hj
  by_cases e : j = i
  · subst e; exact h'
  · exact h j (by omega)
/-- A slice that holds at least one number, by its cells. -/
theorem SliceIs.cells {w : World} {v : Value} {l : List Int} (h : SliceIs w v l) (hl : 1 ≤ l.length) :
    ∃ g off cap, g < w.heap.size ∧ v = .slice (some ⟨g, off, none⟩) l.length cap ∧ ∀ j, j < l.length → w.cell? ⟨g, off + j, none⟩ = some (.int .i32 (l.getD j 0)) := by
  rcases h with ⟨rfl, _⟩ | h
  · simp at hl
  · exact h

def RelP (a b : Int) (w0 : World) (nv : Value) (wr : World) : Prop :=
  ∃ n : Nat, n ≤ 13 ∧ nv = .int .i64 n ∧ (∀ k : Nat, k < n → pairF a b k = none) ∧ Below w0.heap.size w0 wr
def RelQ (l : List Int) (a : Int) (iv : Value) : Prop :=
  ∃ i : Nat, i ≤ l.length ∧ iv = .int .i64 i ∧ (∀ j : Nat, j < i → l.getD j 0 ≠ a)

set_option maxHeartbeats 4000000 in
set_option maxRecDepth 100000 in
theorem pair_c (a b : Int) (ha : -2147483648 ≤ a) (ha' : a ≤ 2147483647) (hb : -2147483648 ≤ b) (hb' : b ≤ 2147483647) (w : World) :
    Calls Try.prog 18 #[.int .i32 a, .int .i32 b] w fun e w' => e = .returned (.int .i32 (pairI a b)) ∧ Below w.heap.size w w' := by
  go_enter Try.func18, Try.ntmps18
  go_wp2
  go_loopw [5] (fun nv wr => RelP a b w nv wr) (fun nv _ => 13 - (intOf nv).toNat)
  case atStart => exact ⟨0, by omega, rfl, fun k hk => by omega, Below.refl _ _⟩
  case round =>
    obtain ⟨n, hn, rfl, hno, hbel⟩ := hrel
    have HNO := Lib.hid hno
    clear hno
    by_cases hlt : n < 13
    · have hz : (n : Int) < 13 := by omega
      have cL := line_c n hlt
      obtain ⟨t1, t2, t3, t4, t5, t6, t7⟩ := table_at hlt
      have cX := fun w => refAll_c (txt (lettersN n)) (by have := txt_size (lettersN n); omega) w
      have cY := fun w => refAll_c (txt (madeN n)) (by have := txt_size (madeN n); omega) w
      simp only [txt_runes t4] at cX
      simp only [txt_runes t5] at cY
      generalize txt (lettersN n) = tx at *
      generalize txt (madeN n) = ty at *
      clear t4 t5
      have hF : pairF a b n = if markN n = b then rowPair n a else none := rfl
      have hrs : ∀ i, i < (lettersN n).length → (lettersN n).getD i 0 = a → (∀ j, j < i → (lettersN n).getD j 0 ≠ a) → rowPair n a = some ((madeN n).getD i 0) := fun i h1 h2 h3 => zip_find1 t1 h1 h2 h3
      have hrn : (∀ j, j < (lettersN n).length → (lettersN n).getD j 0 ≠ a) → rowPair n a = none := fun h => zip_none1 h
      generalize lettersN n = lx at *
      generalize madeN n = ly at *
      obtain ⟨m, hm⟩ : ∃ m, markN n = m := ⟨_, rfl⟩
      rw [hm] at cL hF t6 t7
      clear hm
      obtain ⟨N, hN⟩ : ∃ N, lx.length = N := ⟨_, rfl⟩
      have HLN := Lib.hid hN
      have HLY := Lib.hid (t1.symm.trans hN)
      rw [hN] at t2 t3
      have HRS := Lib.hid hrs
      have HRN := Lib.hid hrn
      have HF := Lib.hid hF
      clear hrs hrn hF hN t1
      go_wp2_with fail
      refine (cL _).mono ?_
      rintro e w' ⟨rfl, rfl⟩
      go_wp2_with fail
      refine (cX _).mono ?_
      rintro e w1 ⟨v1, he, hs1, hb1⟩
      have he' : e = .returned (.tuple #[v1, .bool true]) := he
      subst he'
      have HS1 := Lib.hid hs1
      clear he hs1
      go_wp2_with fail
      refine (cY _).mono ?_
      rintro e w2 ⟨v2, he, hs2, hb2⟩
      have he' : e = .returned (.tuple #[v2, .bool true]) := he
      subst he'
      obtain ⟨g1, o1, c1, hg1, hv1, hc1⟩ := (HS1.out.kept hb2).cells (show 1 ≤ lx.length by rw [HLN.out]; exact t2)
      obtain ⟨g2, o2, c2, hg2, hv2, hc2⟩ := SliceIs.cells hs2 (show 1 ≤ ly.length by rw [HLY.out]; exact t2)
      have hv1' : v1 = .slice (some ⟨g1, o1, none⟩) N c1 := by rw [hv1]; exact congrArg (fun k => Value.slice (some ⟨g1, o1, none⟩) k c1) HLN.out
      have hv2' : v2 = .slice (some ⟨g2, o2, none⟩) N c2 := by rw [hv2]; exact congrArg (fun k => Value.slice (some ⟨g2, o2, none⟩) k c2) HLY.out
      subst hv1' hv2'
      have HC1 := Lib.hid hc1
      have HC2 := Lib.hid hc2
      have hbb := below_step (below_step hbel hb1) hb2
      clear he hs2 hv1 hv2 hc1 hc2 hb1 hb2 hbel cX cY cL HS1
      by_cases hmb : m = b
      · subst hmb
        obtain ⟨wq, hwq⟩ : ∃ wq : World, wq = w2 := ⟨_, rfl⟩
        subst hwq
        go_wp2
        go_loop [13] (fun iv => RelQ lx a iv) (fun iv => N - (intOf iv).toNat)
        case atStart => exact ⟨0, by omega, rfl, fun j hj => by omega⟩
        case round =>
          obtain ⟨i, hi, rfl, hni⟩ := hrel
          rw [HLN.out] at hi
          have HNI := Lib.hid hni
          clear hni
          by_cases hil : i < N
          · have hilz : (i : Int) < (N : Int) := by omega
            obtain ⟨x, hx⟩ : ∃ x, lx.getD i 0 = x := ⟨_, rfl⟩
            obtain ⟨y, hy⟩ : ∃ y, ly.getD i 0 = y := ⟨_, rfl⟩
            have d1 : wq.cell? ⟨g1, o1 + i, none⟩ = some (.int .i32 x) := by rw [← hx]; exact HC1.out i (by show i < lx.length; rw [HLN.out]; exact hil)
            have d2 : wq.cell? ⟨g2, o2 + i, none⟩ = some (.int .i32 y) := by rw [← hy]; exact HC2.out i (by show i < ly.length; rw [HLY.out]; exact hil)
            by_cases hxa : x = a
            · have HX := Lib.hid (show pairI a m = y by
                unfold pairI pairT
                rw [firstSome_at hlt HNO.out ((HF.out.trans (if_pos (by first | trivial | rfl))).trans (HRS.out i (by rw [HLN.out]; exact hil) (hx.trans hxa) HNI.out))]
                exact hy)
              subst hxa
              clear hx hy
              go_wp2
              go_ret
              exact ⟨by rw [HX.out]; rfl, hbb⟩
            · have HM := Lib.hid (ne_next HNI.out (by rw [hx]; exact hxa))
              have hxa' : (x == a) = false := by rw [beq_eq_false_iff_ne]; exact hxa
              clear hx hy hxa
              go_wp2
              go_round
              case rel => exact ⟨i + 1, by rw [HLN.out]; omega, by go_num, HM.out⟩
              case measure => simp [intOf]; omega
          · have hie : i = N := by omega
            have HM := Lib.hid (none_next HNO.out ((HF.out.trans (if_pos (by first | trivial | rfl))).trans (HRN.out (fun j hj => HNI.out j (by rw [HLN.out] at hj; omega)))))
            have hge : ¬ ((i : Int) < (N : Int)) := by omega
            clear hie
            go_wp2
            go_roundw
            case rel => exact ⟨n + 1, by omega, by go_num, HM.out, hbb⟩
            case measure => simp [intOf]; omega
      · have hmb' : (m == b) = false := by rw [beq_eq_false_iff_ne]; exact hmb
        have HM := Lib.hid (none_next HNO.out (by rw [HF.out, if_neg hmb]))
        clear hmb
        have hNz : (0 : Int) < (N : Int) := by omega
        go_wp2
        refine wp_loop_rounds 1 ?_
        rw [rounds_succ]
        go_wp2
        go_roundw
        case rel => exact ⟨n + 1, by omega, by go_num, HM.out, hbb⟩
        case measure => simp [intOf]; omega
    · have hne : n = 13 := by omega
      subst hne
      have HP := Lib.hid (show pairT a b = none from firstSome_none HNO.out)
      by_cases a1 : a < 4352
      · have HX := Lib.hid (show pairI a b = 0 by rw [pairI_none HP.out, if_neg (by omega), if_neg (by omega)])
        have f1 : ¬ ((4352 : Int) ≤ a) := by omega
        have f2 : ¬ ((44032 : Int) ≤ a) := by omega
        go_wp2
        go_ret
        exact ⟨by rw [HX.out]; rfl, hbel⟩
      have f1 : (4352 : Int) ≤ a := by omega
      clear a1
      by_cases a2 : a ≤ 4370
      · have f2 : ¬ ((44032 : Int) ≤ a) := by omega
        by_cases b1 : b < 4449
        · have HX := Lib.hid (show pairI a b = 0 by rw [pairI_none HP.out, if_neg (by omega), if_neg (by omega)])
          have f3 : ¬ ((4449 : Int) ≤ b) := by omega
          go_wp2
          go_ret
          exact ⟨by rw [HX.out]; rfl, hbel⟩
        have f3 : (4449 : Int) ≤ b := by omega
        clear b1
        by_cases b2 : b ≤ 4469
        · have HX := Lib.hid (show pairI a b = 44032 + (a - 4352) * 588 + (b - 4449) * 28 by rw [pairI_none HP.out, if_pos (by omega)])
          go_wp2
          go_ret
          exact ⟨by rw [HX.out]; rfl, hbel⟩
        have HX := Lib.hid (show pairI a b = 0 by rw [pairI_none HP.out, if_neg (by omega), if_neg (by omega)])
        go_wp2
        go_ret
        exact ⟨by rw [HX.out]; rfl, hbel⟩
      by_cases a3 : a < 44032
      · have HX := Lib.hid (show pairI a b = 0 by rw [pairI_none HP.out, if_neg (by omega), if_neg (by omega)])
        have f2 : ¬ ((44032 : Int) ≤ a) := by omega
        go_wp2
        go_ret
        exact ⟨by rw [HX.out]; rfl, hbel⟩
      have f2 : (44032 : Int) ≤ a := by omega
      clear a3
      by_cases a4 : a ≤ 55203
      · by_cases r0 : (a - 44032) % 28 = 0
        · have f4 : ((a - 44032) % 28 == 0) = true := by rw [beq_iff_eq]; exact r0
          by_cases b1 : b < 4520
          · have HX := Lib.hid (show pairI a b = 0 by rw [pairI_none HP.out, if_neg (by omega), if_neg (by omega)])
            have f3 : ¬ ((4520 : Int) ≤ b) := by omega
            clear r0
            go_wp2
            go_ret
            exact ⟨by rw [HX.out]; rfl, hbel⟩
          have f3 : (4520 : Int) ≤ b := by omega
          clear b1
          by_cases b2 : b ≤ 4546
          · have HX := Lib.hid (show pairI a b = a + (b - 4519) by rw [pairI_none HP.out, if_neg (by omega), if_pos (by omega)])
            clear r0
            go_wp2
            go_ret
            exact ⟨by rw [HX.out]; rfl, hbel⟩
          have HX := Lib.hid (show pairI a b = 0 by rw [pairI_none HP.out, if_neg (by omega), if_neg (by omega)])
          clear r0
          go_wp2
          go_ret
          exact ⟨by rw [HX.out]; rfl, hbel⟩
        · have f4 : ((a - 44032) % 28 == 0) = false := by rw [beq_eq_false_iff_ne]; exact r0
          have HX := Lib.hid (show pairI a b = 0 by rw [pairI_none HP.out, if_neg (by omega), if_neg (by omega)])
          clear r0
          go_wp2
          go_ret
          exact ⟨by rw [HX.out]; rfl, hbel⟩
      have HX := Lib.hid (show pairI a b = 0 by rw [pairI_none HP.out, if_neg (by omega), if_neg (by omega)])
      go_wp2
      go_ret
      exact ⟨by rw [HX.out]; rfl, hbel⟩
end Go.Proofs.Ytjakelphkehonaa
