/-
  The contract of the third reference's Split.
-/
import Derived.Test.YtjakelphkehonaaR3Pair
namespace Go.Proofs.Ytjakelphkehonaa
open Go.RowKit
set_option linter.unusedVariables false

def splitR (r : Int) : Int × Int × Bool := match splitI r with
  | some x => (x.1, x.2, true)
  | none => (0, 0, false)
theorem splitR_at {r : Int} {x : Int × Int} (h : splitT r = some x) : splitR r = (x.1, x.2, true) := by unfold splitR splitI; rw [h]
theorem splitI_none {r : Int} (h : splitT r = none) : splitI r = (if r < 44032 ∨ 55203 < r then none else if 0 < (r - 44032) % 28 then some (r - (r - 44032) % 28, 4519 + (r - 44032) % 28) else some (4352 + (r - 44032) / 588, 4449 + (r - 44032) % 588 / 28)) := by unfold splitI; rw [h]

def RelV (r : Int) (w0 : World) (nv : Value) (wr : World) : Prop :=
  ∃ n : Nat, n ≤ 13 ∧ nv = .int .i64 n ∧ (∀ k : Nat, k < n → splitF r k = none) ∧ Below w0.heap.size w0 wr

set_option maxHeartbeats 4000000 in
set_option maxRecDepth 100000 in
theorem split_c (r : Int) (ha : -2147483648 ≤ r) (ha' : r ≤ 2147483647) (w : World) :
    Calls Try.prog 19 #[.int .i32 r] w fun e w' => e = .returned (.tuple #[.int .i32 (splitR r).1, .int .i32 (splitR r).2.1, .bool (splitR r).2.2]) ∧ Below w.heap.size w w' := by
  go_enter Try.func19, Try.ntmps19
  go_wp2
  go_loopw [5] (fun nv wr => RelV r w nv wr) (fun nv _ => 13 - (intOf nv).toNat)
  case atStart => exact ⟨0, by omega, rfl, fun k hk => by omega, Below.refl _ _⟩
  case round =>
    obtain ⟨n, hn, rfl, hno, hbel⟩ := hrel
    have HNO := Lib.hid hno
    clear hno
    by_cases hlt : n < 13
    · have hz : (n : Int) < 13 := by omega
      have cL := line_c n hlt
      obtain ⟨t1, t2, t3, t4, t5, t6, t7⟩ := table_at hlt
      have cX := fun w => refAll_c (txt (lettersN n)) (by have := txt_size (lettersN n); omega) w
      have cY := fun w => refAll_c (txt (madeN n)) (by have := txt_size (madeN n); omega) w
      simp only [txt_runes t4] at cX
      simp only [txt_runes t5] at cY
      generalize txt (lettersN n) = tx at *
      generalize txt (madeN n) = ty at *
      clear t4 t5
      have hF : splitF r n = (rowSplit n r).map fun a => (a, markN n) := rfl
      have hrs : ∀ i, i < (madeN n).length → (madeN n).getD i 0 = r → (∀ j, j < i → (madeN n).getD j 0 ≠ r) → rowSplit n r = some ((lettersN n).getD i 0) := fun i h1 h2 h3 => zip_find2 t1 h1 h2 h3
      have hrn : (∀ j, j < (madeN n).length → (madeN n).getD j 0 ≠ r) → rowSplit n r = none := fun h => zip_none2 h
      generalize lettersN n = lx at *
      generalize madeN n = ly at *
      obtain ⟨m, hm⟩ : ∃ m, markN n = m := ⟨_, rfl⟩
      rw [hm] at cL hF t6 t7
      clear hm
      obtain ⟨N, hN⟩ : ∃ N, lx.length = N := ⟨_, rfl⟩
      have HLN := Lib.hid hN
      have HLY := Lib.hid (t1.symm.trans hN)
      rw [hN] at t2 t3
      have HRS := Lib.hid hrs
      have HRN := Lib.hid hrn
      have HF := Lib.hid hF
      clear hrs hrn hF hN t1
      go_wp2_with fail
      refine (cL _).mono ?_
      rintro e w' ⟨rfl, rfl⟩
      go_wp2_with fail
      refine (cX _).mono ?_
      rintro e w1 ⟨v1, he, hs1, hb1⟩
      have he' : e = .returned (.tuple #[v1, .bool true]) := he
      subst he'
      have HS1 := Lib.hid hs1
      clear he hs1
      go_wp2_with fail
      refine (cY _).mono ?_
      rintro e w2 ⟨v2, he, hs2, hb2⟩
      have he' : e = .returned (.tuple #[v2, .bool true]) := he
      subst he'
      obtain ⟨g1, o1, c1, hg1, hv1, hc1⟩ := (HS1.out.kept hb2).cells (show 1 ≤ lx.length by rw [HLN.out]; exact t2)
      obtain ⟨g2, o2, c2, hg2, hv2, hc2⟩ := SliceIs.cells hs2 (show 1 ≤ ly.length by rw [HLY.out]; exact t2)
      have hv1' : v1 = .slice (some ⟨g1, o1, none⟩) N c1 := by rw [hv1]; exact congrArg (fun k => Value.slice (some ⟨g1, o1, none⟩) k c1) HLN.out
      have hv2' : v2 = .slice (some ⟨g2, o2, none⟩) N c2 := by rw [hv2]; exact congrArg (fun k => Value.slice (some ⟨g2, o2, none⟩) k c2) HLY.out
      subst hv1' hv2'
      have HC1 := Lib.hid hc1
      have HC2 := Lib.hid hc2
      have hbb := below_step (below_step hbel hb1) hb2
      clear he hs2 hv1 hv2 hc1 hc2 hb1 hb2 hbel cX cY cL HS1
      obtain ⟨wq, hwq⟩ : ∃ wq : World, wq = w2 := ⟨_, rfl⟩
      subst hwq
      go_wp2
      go_loop [13] (fun iv => RelQ ly r iv) (fun iv => N - (intOf iv).toNat)
      case atStart => exact ⟨0, by omega, rfl, fun j hj => by omega⟩
      case round =>
        obtain ⟨i, hi, rfl, hni⟩ := hrel
        rw [HLY.out] at hi
        have HNI := Lib.hid hni
        clear hni
        by_cases hil : i < N
        · have hilz : (i : Int) < (N : Int) := by omega
          obtain ⟨x, hx⟩ : ∃ x, lx.getD i 0 = x := ⟨_, rfl⟩
          obtain ⟨y, hy⟩ : ∃ y, ly.getD i 0 = y := ⟨_, rfl⟩
          have d1 : wq.cell? ⟨g1, o1 + i, none⟩ = some (.int .i32 x) := by rw [← hx]; exact HC1.out i (by show i < lx.length; rw [HLN.out]; exact hil)
          have d2 : wq.cell? ⟨g2, o2 + i, none⟩ = some (.int .i32 y) := by rw [← hy]; exact HC2.out i (by show i < ly.length; rw [HLY.out]; exact hil)
          by_cases hya : y = r
          · have HX := Lib.hid (splitR_at (firstSome_at (x := (x, m)) hlt HNO.out (by rw [HF.out, HRS.out i (by rw [HLY.out]; exact hil) (hy.trans hya) HNI.out, hx]; rfl)))
            subst hya
            clear hx hy
            go_wp2
            go_ret3
            exact ⟨by rw [HX.out]; rfl, hbb⟩
          · have HM := Lib.hid (ne_next HNI.out (by rw [hy]; exact hya))
            have hya' : (y == r) = false := by rw [beq_eq_false_iff_ne]; exact hya
            clear hx hy hya
            go_wp2
            go_round
            case rel => exact ⟨i + 1, by rw [HLY.out]; omega, by go_num, HM.out⟩
            case measure => simp [intOf]; omega
        · have hie : i = N := by omega
          have HM := Lib.hid (none_next HNO.out (by rw [HF.out, HRN.out (fun j hj => HNI.out j (by rw [HLY.out] at hj; omega))]; rfl))
          have hge : ¬ ((i : Int) < (N : Int)) := by omega
          clear hie
          go_wp2
          go_roundw
          case rel => exact ⟨n + 1, by omega, by go_num, HM.out, hbb⟩
          case measure => simp [intOf]; omega
    · have hne : n = 13 := by omega
      subst hne
      have HP := Lib.hid (show splitT r = none from firstSome_none HNO.out)
      by_cases a1 : r < 44032
      · have HX := Lib.hid (show splitR r = (0, 0, false) by unfold splitR; rw [splitI_none HP.out, if_pos (Or.inl a1)])
        go_wp2
        go_ret3
        exact ⟨by rw [HX.out]; rfl, hbel⟩
      · by_cases a2 : 55203 < r
        · have HX := Lib.hid (show splitR r = (0, 0, false) by unfold splitR; rw [splitI_none HP.out, if_pos (Or.inr a2)])
          go_wp2
          go_ret3
          exact ⟨by rw [HX.out]; rfl, hbel⟩
        · have f1 : (44032 : Int) ≤ r := by omega
          have f2 : r ≤ (55203 : Int) := by omega
          obtain ⟨K, hK⟩ : ∃ K : Int, r - 44032 = K := ⟨_, rfl⟩
          have k0 : 0 ≤ K := by omega
          have k1 : K ≤ 11171 := by omega
          by_cases r0 : 0 < K % 28
          · have HX := Lib.hid (show splitR r = (r - K % 28, 4519 + K % 28, true) by unfold splitR; rw [splitI_none HP.out, if_neg (by omega), hK, if_pos r0])
            have q0 : 0 ≤ K % 28 := by omega
            have q1 : K % 28 < 28 := by omega
            clear a1 a2
            go_wp2
            go_ret3
            exact ⟨by rw [HX.out]; rfl, hbel⟩
          · have HX := Lib.hid (show splitR r = (4352 + K / 588, 4449 + K % 588 / 28, true) by unfold splitR; rw [splitI_none HP.out, if_neg (by omega), hK, if_neg r0])
            clear a1 a2
            go_wp2
            go_ret3
            exact ⟨by rw [HX.out]; rfl, hbel⟩
end Go.Proofs.Ytjakelphkehonaa
