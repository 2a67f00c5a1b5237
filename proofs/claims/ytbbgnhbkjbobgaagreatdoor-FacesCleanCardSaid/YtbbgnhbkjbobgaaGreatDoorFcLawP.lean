/-
  The law FacesPick of stage 14, walked: it answers true; what lay in memory stays.
-/
import Derived.Test.YtbbgnhbkjbobgaaGreatDoorFcPick
import Derived.Test.YtbbgnhbkjbobgaaGreatDoorFcLawKit
namespace Go.Proofs.YtbbgnhbkjbobgaaGreatDoor
open Go.RowKit Go.Sort
set_option linter.unusedVariables false

/-- What an argument's entry is. -/
def EntArg (e : Ent) : Prop := e.name.size ≤ 9223372036854775807 ∧ -9223372036854775808 ≤ e.short ∧ e.short ≤ 9223372036854775807
theorem few_ok {l : List Ent} (hf : fewE l 12 = true) (h : ∀ e ∈ l, EntArg e) : l.length ≤ 12 ∧ ∀ e ∈ l, EntOk e := by
  obtain ⟨h1, h2⟩ := (fewE_spec (by decide)).1 hf
  exact ⟨h1, fun e he => ⟨h2 e he, (h e he).2⟩⟩
set_option maxHeartbeats 2000000 in
set_option maxRecDepth 100000 in
theorem pick14_walk (x : Int) (hx0 : 0 ≤ x) (hx1 : x ≤ 255) (v : Value) (l : List Ent) (r : ByteArray) (w : World) (hv : EntsIs w v l) (hl : l.length ≤ 9223372036854775807) (hok : ∀ e ∈ l, EntArg e) (hr : r.size ≤ 9223372036854775807) (hT : Tabs w) (hB : Base w) :
    Calls Tryz.prog 4 #[.int .u8 x, v, .string r] w fun e w' => e = .returned (.bool true) ∧ Below w.heap.size w w' := by
  have cA := awake14_c w hT hB
  have HA : Hid (∀ w1, Below w.heap.size w w1 → Calls Tryz.prog 7 #[] w1 fun e w' => e = .returned (.bool true) ∧ Below w1.heap.size w1 w') := Lib.hid (fun w1 h1 => awake14_c w1 (hT.step h1) (hB.step h1))
  have HF : Hid (∀ w1, Below w.heap.size w w1 → Calls Tryz.prog 8 #[v, .int .i64 12] w1 fun e w' => e = .returned (.bool (fewE l 12)) ∧ Below w1.heap.size w1 w') := Lib.hid (fun w1 h1 => few14_c v l 12 w1 (LstIs.kept hv h1) hl (by decide) (fun e he => (hok e he).1))
  obtain ⟨E, hE⟩ : ∃ E, x % 9 = E := ⟨_, rfl⟩
  have hE0 : 0 ≤ E := by omega
  have hE8 : E ≤ 8 := by omega
  have hwE : IntKind.i64.wrap E = E := by rw [IntKind.wrap_i64]; omega
  cases hf : fewE l 12 with
  | false =>
    rw [hf] at HF
    obtain ⟨a, cap, rfl⟩ := hv.len
    clear hv hl hok hr hT hB hf
    go_enter Tryz.func4, Tryz.ntmps4
    go_wp2_with fail
    refine cA.mono ?_
    rintro e w1 ⟨rfl, hb1⟩
    have cF := HF.out w1 hb1
    have HB1 := Lib.hid hb1
    clear cA hb1
    go_wp2_with fail
    refine cF.mono ?_
    rintro e w2 ⟨rfl, hb2⟩
    have HB2 := Lib.hid (HB1.out.trans (hb2.mono HB1.out.size))
    have cA2 := HA.out w2 HB2.out
    clear cF hb2
    go_wp2_with fail
    refine cA2.mono ?_
    rintro e w3 ⟨rfl, hb3⟩
    have HB3 := Lib.hid (HB2.out.trans (hb3.mono HB2.out.size))
    clear cA2 hb3
    go_wp2
    go_ret
    exact ⟨rfl, HB3.out⟩
  | true =>
    rw [hf] at HF
    obtain ⟨hl12, hoke⟩ := few_ok hf hok
    by_cases h300 : r.size ≤ 300
    · have hz : ¬ ((300 : Int) < (r.size : Int)) := by omega
      have HP : Hid (∀ w1, Below w.heap.size w w1 → Calls Tryz.prog 18 #[.int .i64 E, v, .string r] w1 fun e w' => e = .returned (.int .i64 (pickI E l r.data.toList)) ∧ Below w1.heap.size w1 w') := Lib.hid (fun w1 h1 => pick_c E hE0 hE8 v l r w1 (LstIs.kept hv h1) (by omega) hoke h300 (hT.step h1))
      have HR : Hid (∀ w1, Below w.heap.size w w1 → Calls Tryz.prog 19 #[.int .i64 E, v, .string r] w1 fun e w' => e = .returned (.int .i64 (pickI E l r.data.toList)) ∧ Below w1.heap.size w1 w') := Lib.hid (fun w1 h1 => rpick_c E hE0 hE8 v l r w1 (LstIs.kept hv h1) (by omega) hoke h300)
      obtain ⟨a, cap, rfl⟩ := hv.len
      generalize pickI E l r.data.toList = K at *
      clear hv hl hok hr hT hB hf h300 hoke hl12
      go_enter Tryz.func4, Tryz.ntmps4
      go_wp2_with fail
      refine cA.mono ?_
      rintro e w1 ⟨rfl, hb1⟩
      have cF := HF.out w1 hb1
      have HB1 := Lib.hid hb1
      clear cA hb1
      go_wp2_with fail
      refine cF.mono ?_
      rintro e w2 ⟨rfl, hb2⟩
      have HB2 := Lib.hid (HB1.out.trans (hb2.mono HB1.out.size))
      have cP := HP.out w2 HB2.out
      clear cF hb2
      go_wp2_with fail
      refine cP.mono ?_
      rintro e w3 ⟨rfl, hb3⟩
      have HB3 := Lib.hid (HB2.out.trans (hb3.mono HB2.out.size))
      have cR := HR.out w3 HB3.out
      clear cP hb3
      go_wp2_with fail
      refine cR.mono ?_
      rintro e w4 ⟨rfl, hb4⟩
      have HB4 := Lib.hid (HB3.out.trans (hb4.mono HB3.out.size))
      clear cR hb4
      go_wp2
      go_ret
      exact ⟨by simp, HB4.out⟩
    · have hz : ((300 : Int) < (r.size : Int)) := by omega
      obtain ⟨a, cap, rfl⟩ := hv.len
      clear hv hl hok hr hT hB hf h300 hoke hl12
      go_enter Tryz.func4, Tryz.ntmps4
      go_wp2_with fail
      refine cA.mono ?_
      rintro e w1 ⟨rfl, hb1⟩
      have cF := HF.out w1 hb1
      have HB1 := Lib.hid hb1
      clear cA hb1
      go_wp2_with fail
      refine cF.mono ?_
      rintro e w2 ⟨rfl, hb2⟩
      have HB2 := Lib.hid (HB1.out.trans (hb2.mono HB1.out.size))
      have cA2 := HA.out w2 HB2.out
      clear cF hb2
      go_wp2_with fail
      refine cA2.mono ?_
      rintro e w3 ⟨rfl, hb3⟩
      have HB3 := Lib.hid (HB2.out.trans (hb3.mono HB2.out.size))
      clear cA2 hb3
      go_wp2
      go_ret
      exact ⟨rfl, HB3.out⟩
end Go.Proofs.YtbbgnhbkjbobgaaGreatDoor
