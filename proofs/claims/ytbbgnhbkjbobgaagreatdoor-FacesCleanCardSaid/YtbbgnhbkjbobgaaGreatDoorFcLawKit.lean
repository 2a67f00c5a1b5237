/-
  The fourteenth laws' awake answers true; the reference's Few.
-/
import Derived.Test.YtbbgnhbkjbobgaaGreatDoorFcOf
namespace Go.Proofs.YtbbgnhbkjbobgaaGreatDoor
open Go.RowKit Go.Sort
set_option linter.unusedVariables false

theorem pres_e9 : presL 1 [233] = [195, 169] := by decide +kernel
theorem long_a : longB 1 [97] = false := by decide +kernel
set_option maxHeartbeats 1000000 in
theorem awake14_c (w : World) (hT : Tabs w) (hB : Base w) : Calls Tryz.prog 7 #[] w fun e w' => e = .returned (.bool true) ∧ Below w.heap.size w w' := by
  have cO := of_c 1 (by decide) (by decide) ⟨⟨#[233]⟩, 0, false, 0, 0⟩ ⟨by decide, by decide, by decide⟩ w hT hB
  rw [face_plain rfl, show (⟨⟨#[233]⟩, 0, false, 0, 0⟩ : Ent).name.data.toList = [233] from rfl, pres_e9] at cO
  have HF : Hid (∀ w1, Below w.heap.size w w1 → Calls Tryz.prog 12 #[.int .i64 1, .agg #[.string ⟨#[97]⟩, .int .i64 0, .bool false, .int .i64 0, .int .i64 0]] w1 fun r w' => r = .returned (.bool true) ∧ Below w1.heap.size w1 w') := Lib.hid (fun w1 h1 => by
    have h := fits_c 1 (by decide) (by decide) ⟨⟨#[97]⟩, 0, false, 0, 0⟩ ⟨by decide, by decide, by decide⟩ w1 (hT.step h1)
    unfold fitB entV at h
    rw [show (⟨⟨#[97]⟩, 0, false, 0, 0⟩ : Ent).name.data.toList = [97] from rfl, long_a] at h
    exact h)
  unfold entV at cO
  clear hT hB
  go_enter Tryz.func7, Tryz.ntmps7
  go_wp2_with fail
  refine cO.mono ?_
  rintro e w1 ⟨rfl, hb1⟩
  have cF := HF.out w1 hb1
  have HB1 := Lib.hid hb1
  clear cO hb1
  go_wp2_with fail
  refine cF.mono ?_
  rintro e w2 ⟨rfl, hb2⟩
  go_wp2
  go_ret
  exact ⟨by first | rfl | simp, HB1.out.trans (hb2.mono HB1.out.size)⟩

def fewE (l : List Ent) (n : Nat) : Bool := (l.take 100).all (fun e => decide (e.name.size ≤ 300)) && decide (l.length ≤ n)
theorem take100 {l : List Ent} {i : Nat} {x : Ent} (hx : l[i]? = some x) (h : i < 100) : (l.drop i).take (100 - i) = x :: (l.drop (i + 1)).take (100 - (i + 1)) := by
  rw [drop_eq_cons hx]
  obtain ⟨m, hm⟩ : ∃ m, 100 - i = m + 1 := ⟨99 - i, by omega⟩
  rw [hm, List.take_succ_cons, show 100 - (i + 1) = m by omega]
theorem fewE_spec {l : List Ent} {n : Nat} (hn : n ≤ 100) : fewE l n = true ↔ (l.length ≤ n ∧ ∀ e ∈ l, e.name.size ≤ 300) := by
  unfold fewE
  rw [Bool.and_eq_true, decide_eq_true_iff, List.all_eq_true]
  constructor
  · rintro ⟨h1, h2⟩
    rw [List.take_of_length_le (by omega)] at h1
    exact ⟨h2, fun e he => of_decide_eq_true (h1 e he)⟩
  · rintro ⟨h1, h2⟩
    refine ⟨fun e he => decide_eq_true (h2 e (List.mem_of_mem_take he)), h1⟩
set_option maxHeartbeats 1000000 in
theorem few14_c (v : Value) (l : List Ent) (n : Nat) (w : World) (hv : EntsIs w v l) (hl : l.length ≤ 9223372036854775807) (hn : n ≤ 1000) (hs : ∀ x ∈ l, x.name.size ≤ 9223372036854775807) :
    Calls Tryz.prog 8 #[v, .int .i64 (n : Int)] w fun e w' => e = .returned (.bool (fewE l n)) ∧ Below w.heap.size w w' := by
  obtain ⟨a, cap, rfl⟩ := hv.len
  obtain ⟨R, hR⟩ : ∃ R, fewE l n = R := ⟨_, rfl⟩
  rw [hR]
  have HRR := Lib.hid hR
  have HV := Lib.hid hv
  obtain ⟨m, hm⟩ : ∃ m, l.length = m := ⟨_, rfl⟩
  have HM := Lib.hid hm
  rw [hm] at hl ⊢
  have HS := Lib.hid hs
  clear hv hm hR hs
  go_enter Tryz.func8, Tryz.ntmps8
  go_wp2
  go_loop [5] (fun iv => ∃ i : Nat, i ≤ m ∧ i ≤ 100 ∧ iv = .int .i64 i ∧ (((l.drop i).take (100 - i)).all (fun e => decide (e.name.size ≤ 300)) && decide (l.length ≤ n)) = R) (fun iv => 101 - (intOf iv).toNat)
  case atStart => exact ⟨0, by omega, by omega, rfl, HRR.out⟩
  case round =>
    obtain ⟨i, hi, hi5, rfl, hgo⟩ := hrel
    have HGO := Lib.hid hgo
    clear hgo
    by_cases him : i < m ∧ i < 100
    · obtain ⟨h1, h2⟩ := him
      have h1z : (i : Int) < (m : Int) := by omega
      have h2z : (i : Int) < 100 := by omega
      obtain ⟨x, hx⟩ : ∃ x, l[i]? = some x := ⟨_, List.getElem?_eq_getElem (by rw [HM.out]; omega)⟩
      obtain ⟨g, off, rfl, hg, hr⟩ := HV.out.at hx
      obtain ⟨d0, d1, d2, d3, d4⟩ := ent_at hr
      have hsx := HS.out x (List.mem_of_getElem? hx)
      have HG : Hid ((decide (x.name.size ≤ 300) && (((l.drop (i + 1)).take (100 - (i + 1))).all (fun e => decide (e.name.size ≤ 300)) && decide (l.length ≤ n))) = R) := Lib.hid (by rw [← HGO.out, take100 hx h2, List.all_cons, Bool.and_assoc])
      generalize x.name = s at *
      clear hx hr hg
      by_cases hb : 300 < s.size
      · have HF : Hid (R = false) := Lib.hid (by
          rw [← HG.out, Bool.and_eq_false_iff]
          left
          exact decide_eq_false (by omega))
        have e1 : (300 : Int) < (s.size : Int) := by omega
        have e2 := decide_eq_true e1
        clear hb
        go_wp2
        go_ret
        exact ⟨by rw [HF.out]; rfl, Below.refl _ _⟩
      · have HF : Hid ((((l.drop (i + 1)).take (100 - (i + 1))).all (fun e => decide (e.name.size ≤ 300)) && decide (l.length ≤ n)) = R) := Lib.hid (by
          have h9 := HG.out
          rw [decide_eq_true (show s.size ≤ 300 by omega), Bool.true_and] at h9
          exact h9)
        have e1 : ¬ (300 : Int) < (s.size : Int) := by omega
        have e2 := decide_eq_false e1
        clear hb
        go_wp2
        go_round
        case rel => exact ⟨i + 1, by omega, by omega, by first | rfl | go_num, HF.out⟩
        case measure => simp [intOf]; omega
    · have HE : Hid (R = decide (m ≤ n)) := Lib.hid (by
        rw [← HGO.out, show (l.drop i).take (100 - i) = [] by
          by_cases h : i < m
          · rw [show 100 - i = 0 by omega, List.take_zero]
          · rw [List.drop_of_length_le (by rw [HM.out]; omega), List.take_nil], List.all_nil, Bool.true_and, HM.out])
      by_cases h1 : i < m
      · have h1z : (i : Int) < (m : Int) := by omega
        have h2z : ¬ (i : Int) < 100 := by omega
        clear him
        go_wp2
        go_ret
        exact ⟨by rw [HE.out]; rfl, Below.refl _ _⟩
      · have h1z : ¬ (i : Int) < (m : Int) := by omega
        clear him
        go_wp2
        go_ret
        exact ⟨by rw [HE.out]; rfl, Below.refl _ _⟩
end Go.Proofs.YtbbgnhbkjbobgaaGreatDoor
