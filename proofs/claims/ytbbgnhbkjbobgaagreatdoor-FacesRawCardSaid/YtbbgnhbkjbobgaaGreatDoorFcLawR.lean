/-
  The law FacesRaw of stage 14, walked: it answers true; what lay in memory stays.
-/
import Derived.Test.YtbbgnhbkjbobgaaGreatDoorFcRest
import Derived.Test.YtbbgnhbkjbobgaaGreatDoorFcLawKit
namespace Go.Proofs.YtbbgnhbkjbobgaaGreatDoor
open Go.RowKit Go.Sort
set_option linter.unusedVariables false

/-- What Raw answers. -/
def rawV (enc : Int) (b : ByteArray) : Value := if 255 < b.size then .tuple #[.string ⟨#[]⟩, .int .i64 4] else restV (restI enc b.data.toList)
theorem rest_form (o : Option (List UInt8)) : ∃ (s : ByteArray) (r : Int), restV o = .tuple #[.string s, .int .i64 r] := by
  cases o with
  | none => exact ⟨_, _, rfl⟩
  | some x => exact ⟨_, _, rfl⟩
set_option maxHeartbeats 1000000 in
theorem raw_c (enc : Int) (h0 : 0 ≤ enc) (h8 : enc ≤ 8) (b : ByteArray) (w : World) (hT : Tabs w) :
    Calls Tryz.prog 20 #[.int .i64 enc, .string b] w fun e w' => e = .returned (rawV enc b) ∧ Below w.heap.size w w' := by
  unfold rawV
  by_cases hb : 255 < b.size
  · have hz : (255 : Int) < (b.size : Int) := by omega
    rw [if_pos hb]
    clear hT h0 h8 hb
    go_enter Tryz.func20, Tryz.ntmps20
    go_wp2
    go_ret2
    exact ⟨rfl, Below.refl _ _⟩
  · have hz : ¬ (255 : Int) < (b.size : Int) := by omega
    have cR := restore_all enc h0 h8 b (by omega) w hT
    rw [if_neg hb]
    obtain ⟨s, r, hf⟩ := rest_form (restI enc b.data.toList)
    rw [hf] at cR ⊢
    clear hT h0 h8 hb hf
    go_enter Tryz.func20, Tryz.ntmps20
    go_wp2_with (go_at_call 36; refine cR.mono ?_; rintro e w1 ⟨rfl, hb1⟩)
    go_ret2
    exact ⟨rfl, hb1⟩
set_option maxHeartbeats 1000000 in
theorem rraw_c (enc : Int) (h0 : 0 ≤ enc) (h8 : enc ≤ 8) (b : ByteArray) (w : World) :
    Calls Tryz.prog 21 #[.int .i64 enc, .string b] w fun e w' => e = .returned (rawV enc b) ∧ Below w.heap.size w w' := by
  unfold rawV
  by_cases hb : 255 < b.size
  · have hz : (255 : Int) < (b.size : Int) := by omega
    rw [if_pos hb]
    clear h0 h8 hb
    go_enter Tryz.func21, Tryz.ntmps21
    go_wp2
    go_ret2
    exact ⟨rfl, Below.refl _ _⟩
  · have hz : ¬ (255 : Int) < (b.size : Int) := by omega
    have cR := rrest_c enc h0 h8 b (by omega) w
    rw [if_neg hb]
    obtain ⟨s, r, hf⟩ := rest_form (restI enc b.data.toList)
    rw [hf] at cR ⊢
    clear h0 h8 hb hf
    go_enter Tryz.func21, Tryz.ntmps21
    go_wp2_with (go_at_call 37; refine cR.mono ?_; rintro e w1 ⟨rfl, hb1⟩)
    go_ret2
    exact ⟨rfl, hb1⟩
/-- Either an error, or bytes that are presented so, and fit. -/
theorem raw_cases (enc : Int) (b : ByteArray) : (∃ (s : ByteArray) (r : Int), rawV enc b = .tuple #[.string s, .int .i64 r] ∧ (r == 0) = false) ∨ ∃ x : List UInt8, rawV enc b = .tuple #[.string ⟨x.toArray⟩, .int .i64 0] ∧ x.length ≤ 255 ∧ (⟨(presL enc x).toArray⟩ : ByteArray) = b ∧ longB enc x = false := by
  unfold rawV
  by_cases hb : 255 < b.size
  · rw [if_pos hb]
    exact Or.inl ⟨_, _, rfl, by decide⟩
  · rw [if_neg hb]
    cases hr : restI enc b.data.toList with
    | none => exact Or.inl ⟨_, _, rfl, by decide⟩
    | some x =>
      obtain ⟨hg, hp⟩ := restI_good hr
      have he : (⟨(presL enc x).toArray⟩ : ByteArray) = b := by
        rw [hp]
      refine Or.inr ⟨x, rfl, good_len hg, he, ?_⟩
      unfold longB
      rw [he]
      exact decide_eq_false (by omega)
set_option maxHeartbeats 2000000 in
set_option maxRecDepth 100000 in
theorem raw14_walk (x : Int) (hx0 : 0 ≤ x) (hx1 : x ≤ 255) (b : ByteArray) (w : World) (hs : b.size ≤ 9223372036854775807) (hT : Tabs w) (hB : Base w) :
    Calls Tryz.prog 5 #[.int .u8 x, .string b] w fun e w' => e = .returned (.bool true) ∧ Below w.heap.size w w' := by
  have cA := awake14_c w hT hB
  have HA : Hid (∀ w1, Below w.heap.size w w1 → Calls Tryz.prog 7 #[] w1 fun e w' => e = .returned (.bool true) ∧ Below w1.heap.size w1 w') := Lib.hid (fun w1 h1 => awake14_c w1 (hT.step h1) (hB.step h1))
  obtain ⟨E, hE⟩ : ∃ E, x % 9 = E := ⟨_, rfl⟩
  have hE0 : 0 ≤ E := by omega
  have hE8 : E ≤ 8 := by omega
  have hwE : IntKind.i64.wrap E = E := by rw [IntKind.wrap_i64]; omega
  by_cases h300 : b.size ≤ 300
  · have hz : ¬ ((300 : Int) < (b.size : Int)) := by omega
    have HR : Hid (∀ w1, Below w.heap.size w w1 → Calls Tryz.prog 20 #[.int .i64 E, .string b] w1 fun e w' => e = .returned (rawV E b) ∧ Below w1.heap.size w1 w') := Lib.hid (fun w1 h1 => raw_c E hE0 hE8 b w1 (hT.step h1))
    have HRR : Hid (∀ w1, Calls Tryz.prog 21 #[.int .i64 E, .string b] w1 fun e w' => e = .returned (rawV E b) ∧ Below w1.heap.size w1 w') := Lib.hid (fun w1 => rraw_c E hE0 hE8 b w1)
    rcases raw_cases E b with ⟨s, r, hv, hr⟩ | ⟨xs, hv, hxl, hpb, hlo⟩
    · rw [hv] at HR HRR
      have hr2 : (r != 0) = true := by rw [bne, hr]; rfl
      clear hT hB hs h300 hv
      go_enter Tryz.func5, Tryz.ntmps5
      go_wp2_with fail
      refine cA.mono ?_
      rintro e w1 ⟨rfl, hb1⟩
      have cR := HR.out w1 hb1
      have HB1 := Lib.hid hb1
      clear cA hb1
      go_wp2_with fail
      refine cR.mono ?_
      rintro e w2 ⟨rfl, hb2⟩
      have HB2 := Lib.hid (HB1.out.trans (hb2.mono HB1.out.size))
      have cRR := HRR.out w2
      clear cR hb2
      go_wp2_with fail
      refine cRR.mono ?_
      rintro e w3 ⟨rfl, hb3⟩
      have HB3 := Lib.hid (HB2.out.trans (hb3.mono HB2.out.size))
      clear cRR hb3
      go_wp2
      go_ret
      exact ⟨by first | rfl | simp, HB3.out⟩
    · rw [hv] at HR HRR
      have HP : Hid (∀ w1, Below w.heap.size w w1 → Calls Tryz.prog 22 #[.int .i64 E, .string ⟨xs.toArray⟩] w1 fun e w' => e = .returned (.string b) ∧ Below w1.heap.size w1 w') := Lib.hid (fun w1 h1 => by
        have h := present_c E hE0 hE8 ⟨xs.toArray⟩ (by rw [size_arr]; omega) w1 (hT.step h1)
        rw [show (⟨xs.toArray⟩ : ByteArray).data.toList = xs from rfl, hpb] at h
        exact h)
      have HF : Hid (∀ w1, Below w.heap.size w w1 → Calls Tryz.prog 12 #[.int .i64 E, .agg #[.string ⟨xs.toArray⟩, .int .i64 0, .bool false, .int .i64 0, .int .i64 0]] w1 fun e w' => e = .returned (.bool true) ∧ Below w1.heap.size w1 w') := Lib.hid (fun w1 h1 => by
        have h := fits_c E hE0 hE8 ⟨⟨xs.toArray⟩, 0, false, 0, 0⟩ ⟨by show (⟨xs.toArray⟩ : ByteArray).size ≤ 300; rw [size_arr]; omega, by show (-9223372036854775808 : Int) ≤ 0; decide, by show (0 : Int) ≤ 9223372036854775807; decide⟩ w1 (hT.step h1)
        unfold fitB entV at h
        rw [show (⟨⟨xs.toArray⟩, 0, false, 0, 0⟩ : Ent).name.data.toList = xs from rfl, hlo] at h
        exact h)
      generalize (⟨xs.toArray⟩ : ByteArray) = XB at *
      clear hT hB hs h300 hv hpb hlo hxl
      go_enter Tryz.func5, Tryz.ntmps5
      go_wp2_with fail
      refine cA.mono ?_
      rintro e w1 ⟨rfl, hb1⟩
      have cR := HR.out w1 hb1
      have HB1 := Lib.hid hb1
      clear cA hb1
      go_wp2_with fail
      refine cR.mono ?_
      rintro e w2 ⟨rfl, hb2⟩
      have HB2 := Lib.hid (HB1.out.trans (hb2.mono HB1.out.size))
      have cRR := HRR.out w2
      clear cR hb2
      go_wp2_with fail
      refine cRR.mono ?_
      rintro e w3 ⟨rfl, hb3⟩
      have HB3 := Lib.hid (HB2.out.trans (hb3.mono HB2.out.size))
      have cP := HP.out w3 HB3.out
      clear cRR hb3
      go_wp2_with fail
      refine cP.mono ?_
      rintro e w4 ⟨rfl, hb4⟩
      have HB4 := Lib.hid (HB3.out.trans (hb4.mono HB3.out.size))
      have cF := HF.out w4 HB4.out
      clear cP hb4
      go_wp2_with fail
      refine cF.mono ?_
      rintro e w5 ⟨rfl, hb5⟩
      have HB5 := Lib.hid (HB4.out.trans (hb5.mono HB4.out.size))
      clear cF hb5
      go_wp2
      go_ret
      exact ⟨by first | rfl | simp, HB5.out⟩
  · have hz : ((300 : Int) < (b.size : Int)) := by omega
    clear hT hB hs h300
    go_enter Tryz.func5, Tryz.ntmps5
    go_wp2_with fail
    refine cA.mono ?_
    rintro e w1 ⟨rfl, hb1⟩
    have HB1 := Lib.hid hb1
    have cA2 := HA.out w1 hb1
    clear cA hb1
    go_wp2_with fail
    refine cA2.mono ?_
    rintro e w2 ⟨rfl, hb2⟩
    have HB2 := Lib.hid (HB1.out.trans (hb2.mono HB1.out.size))
    clear cA2 hb2
    go_wp2
    go_ret
    exact ⟨rfl, HB2.out⟩
end Go.Proofs.YtbbgnhbkjbobgaaGreatDoor
