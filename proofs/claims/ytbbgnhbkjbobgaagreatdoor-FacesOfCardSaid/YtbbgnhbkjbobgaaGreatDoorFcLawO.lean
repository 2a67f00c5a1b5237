/-
  The law FacesOf of stage 14, walked: it answers true; what lay in memory stays.
-/
import Derived.Test.YtbbgnhbkjbobgaaGreatDoorFcRFind
import Derived.Test.YtbbgnhbkjbobgaaGreatDoorFcClean
import Derived.Test.YtbbgnhbkjbobgaaGreatDoorFcLawP
namespace Go.Proofs.YtbbgnhbkjbobgaaGreatDoor
open Go.RowKit Go.Sort
set_option linter.unusedVariables false

theorem foundV_form (o : Option Ent) : ∃ z t, foundV o = .tuple #[entV z, .bool t] := by
  cases o with
  | none => exact ⟨noEnt, false, rfl⟩
  | some e => exact ⟨e, true, rfl⟩
set_option maxHeartbeats 8000000 in
set_option maxRecDepth 100000 in
theorem of14_walk (x : Int) (hx0 : 0 ≤ x) (hx1 : x ≤ 255) (v : Value) (l : List Ent) (r : ByteArray) (w : World) (hv : EntsIs w v l) (hl : l.length ≤ 9223372036854775807) (hok : ∀ e ∈ l, EntArg e) (hr : r.size ≤ 9223372036854775807) (hT : Tabs w) (hB : Base w) :
    Calls Tryz.prog 3 #[.int .u8 x, v, .string r] w fun e w' => e = .returned (.bool true) ∧ Below w.heap.size w w' := by
  have cA := awake14_c w hT hB
  have HA : Hid (∀ w1, Below w.heap.size w w1 → Calls Tryz.prog 7 #[] w1 fun e w' => e = .returned (.bool true) ∧ Below w1.heap.size w1 w') := Lib.hid (fun w1 h1 => awake14_c w1 (hT.step h1) (hB.step h1))
  have HF : Hid (∀ w1, Below w.heap.size w w1 → Calls Tryz.prog 8 #[v, .int .i64 12] w1 fun e w' => e = .returned (.bool (fewE l 12)) ∧ Below w1.heap.size w1 w') := Lib.hid (fun w1 h1 => few14_c v l 12 w1 (LstIs.kept hv h1) hl (by decide) (fun e he => (hok e he).1))
  obtain ⟨E, hE⟩ : ∃ E, x % 9 = E := ⟨_, rfl⟩
  have hE0 : 0 ≤ E := by omega
  have hE8 : E ≤ 8 := by omega
  have hwE : IntKind.i64.wrap E = E := by rw [IntKind.wrap_i64]; omega
  by_cases hgo : fewE l 12 = true ∧ r.size ≤ 300
  · obtain ⟨hf, h300⟩ := hgo
    rw [hf] at HF
    obtain ⟨hl12, hoke⟩ := few_ok hf hok
    have hz : ¬ ((300 : Int) < (r.size : Int)) := by omega
    have HNM : Hid (∀ w1, Below w.heap.size w w1 → Calls Tryz.prog 9 #[.int .i64 E, v] w1 (NamesPost (l.map (faceL E)) w1)) := Lib.hid (fun w1 h1 => names_c E hE0 hE8 v l w1 (LstIs.kept hv h1) (by omega) hoke (hT.step h1) (hB.step h1))
    have HO : Hid (∀ e ∈ l, ∀ w1, Below w.heap.size w w1 → Calls Tryz.prog 11 #[.int .i64 E, entV e] w1 fun r w' => r = .returned (.string ⟨(faceL E e).toArray⟩) ∧ Below w1.heap.size w1 w') := Lib.hid (fun e he w1 h1 => of_c E hE0 hE8 e (hoke e he) w1 (hT.step h1) (hB.step h1))
    have HRO : Hid (∀ e ∈ l, ∀ w1, Calls Tryz.prog 10 #[.int .i64 E, entV e] w1 fun r w' => r = .returned (.string ⟨(faceL E e).toArray⟩) ∧ Below w1.heap.size w1 w') := Lib.hid (fun e he w1 => rof_c E hE0 hE8 e (hoke e he) w1)
    have HFT : Hid (∀ e ∈ l, ∀ w1, Below w.heap.size w w1 → Calls Tryz.prog 12 #[.int .i64 E, entV e] w1 fun r w' => r = .returned (.bool (fitB E e)) ∧ Below w1.heap.size w1 w') := Lib.hid (fun e he w1 h1 => fits_c E hE0 hE8 e (hoke e he) w1 (hT.step h1))
    have HRL : Hid (∀ e ∈ l, ∀ w1, Calls Tryz.prog 13 #[.int .i64 E, .string e.name] w1 fun r w' => r = .returned (.bool (longB E e.name.data.toList)) ∧ Below w1.heap.size w1 w') := Lib.hid (fun e he w1 => rlong_c E hE0 hE8 e.name (hoke e he).1 w1)
    have HFI : Hid (∀ (s : ByteArray) w1, Below w.heap.size w w1 → Calls Tryz.prog 14 #[.int .i64 E, v, .string s] w1 fun e w' => e = .returned (foundV (faced E l s.data.toList)) ∧ Below w1.heap.size w1 w') := Lib.hid (fun s w1 h1 => ffind_c E hE0 hE8 v l s w1 (LstIs.kept hv h1) (by omega) hoke (hT.step h1) (hB.step h1))
    have HRF : Hid (∀ (s : ByteArray) w1, Below w.heap.size w w1 → Calls Tryz.prog 15 #[.int .i64 E, v, .string s] w1 fun e w' => e = .returned (foundV (faced E l s.data.toList)) ∧ Below w1.heap.size w1 w') := Lib.hid (fun s w1 h1 => rfind_c E hE0 hE8 v l s w1 (LstIs.kept hv h1) (by omega) hoke)
    have HC : Hid (∀ w1, Below w.heap.size w w1 → Calls Tryz.prog 16 #[.int .i64 E, v] w1 fun e w' => e = .returned (.bool (cleanB E l)) ∧ Below w1.heap.size w1 w') := Lib.hid (fun w1 h1 => clean_c E hE0 hE8 v l w1 (LstIs.kept hv h1) (by omega) hoke (hT.step h1) (hB.step h1))
    have HRC : Hid (∀ w1, Below w.heap.size w w1 → Calls Tryz.prog 17 #[.int .i64 E, v] w1 fun e w' => e = .returned (.bool (cleanB E l)) ∧ Below w1.heap.size w1 w') := Lib.hid (fun w1 h1 => rclean_c E hE0 hE8 v l w1 (LstIs.kept hv h1) (by omega) hoke)
    have HV := Lib.hid hv
    obtain ⟨a, cap, hva⟩ := hv.len
    obtain ⟨n, hn⟩ : ∃ n, l.length = n := ⟨_, rfl⟩
    have HN := Lib.hid hn
    rw [hn] at hva hl12
    subst hva
    clear hv hl hok hr hT hB hf h300 hoke hn
    go_enter Tryz.func3, Tryz.ntmps3
    go_wp2_with fail
    refine cA.mono ?_
    rintro e w1 ⟨rfl, hb1⟩
    have cF := HF.out w1 hb1
    have HB1 := Lib.hid hb1
    clear cA hb1
    go_wp2_with fail
    refine cF.mono ?_
    rintro e w2 ⟨rfl, hb2⟩
    have HB2 := Lib.hid (HB1.out.trans (hb2.mono HB1.out.size))
    have cN := HNM.out w2 HB2.out
    unfold NamesPost at cN
    rw [List.length_map, HN.out] at cN
    clear cF hb2
    go_wp2_with fail
    refine cN.mono ?_
    rintro e w3 ⟨rfl, htx, hb3⟩
    have HTX := Lib.hid htx
    have HB3 := Lib.hid (HB2.out.trans (hb3.mono HB2.out.size))
    have HLT := Lib.hid htx.lt
    clear cN htx hb3
    obtain ⟨b, hb⟩ : ∃ b, w2.heap.size = b := ⟨_, rfl⟩
    rw [hb] at HTX HLT
    (try rw [hb])
    clear hb
    go_wp2
    go_loopw [9, 2] (fun iv sv wr => ∃ (i : Nat) (s : ByteArray), iv = .int .i64 i ∧ i ≤ n ∧ sv = .string s ∧ Below w3.heap.size w3 wr) (fun iv _ _ => n - (intOf iv).toNat)
    case atStart => exact ⟨0, r, rfl, by omega, rfl, Below.refl _ _⟩
    case round =>
      obtain ⟨i, s, rfl, hi, rfl, hbr⟩ := hrel
      have HBR := Lib.hid hbr
      have HBW : Hid (Below w.heap.size w wr) := Lib.hid (HB3.out.trans (hbr.mono HB3.out.size))
      by_cases hin : i < n
      · have hiz : (i : Int) < (n : Int) := by omega
        obtain ⟨x, hx⟩ : ∃ x, l[i]? = some x := ⟨_, List.getElem?_eq_getElem (by rw [HN.out]; omega)⟩
        obtain ⟨g, off, rfl, hg, hrr⟩ := HV.out.at hx
        obtain ⟨d0, d1, d2, d3, d4⟩ := ent_at (rangeAt_below hrr hg HBW.out)
        have hm := List.mem_of_getElem? hx
        have k0 := cell_regrown d0
        have k1 := cell_regrown d1
        have k2 := cell_regrown d2
        have k3 := cell_regrown d3
        have k4 := cell_regrown d4
        have hc := (HTX.out.below HLT.out hbr).cell (j := i) (by rw [List.length_map, HN.out]; exact hin)
        have hgd : (l.map (faceL E)).getD i [] = faceL E x := by rw [List.getD_eq_getElem?_getD, List.getElem?_map, hx]; rfl
        rw [hgd] at hc
        have kc := cell_regrown hc
        have cO := regr (W := wr) (fun w1 h1 => HO.out x hm w1 (HBW.out.trans (h1.mono HBW.out.size)))
        have cR := regr (W := wr) (fun w1 h1 => HRO.out x hm w1)
        have cT := regr (W := wr) (fun w1 h1 => HFT.out x hm w1 (HBW.out.trans (h1.mono HBW.out.size)))
        have cL := regr (W := wr) (fun w1 h1 => HRL.out x hm w1)
        unfold entV at cO cR cT
        obtain ⟨S, hS⟩ : ∃ S, decide (¬ x.short = 0) = S := ⟨_, rfl⟩
        have hne : (x.short != 0) = S := by rw [← hS]; by_cases h : x.short = 0 <;> simp [h]
        unfold fitB at cT
        rw [hS] at cT
        generalize longB E x.name.data.toList = L at *
        have hsame : ((S == L) == (L == S)) = true := by cases S <;> cases L <;> rfl
        generalize (⟨(faceL E x).toArray⟩ : ByteArray) = F at *
        obtain ⟨nm, nd, dr, ck, sh⟩ := x
        simp only at *
        clear hx hrr hg hm hc hgd d0 d1 d2 d3 d4 hbr hS
        go_upto_region 10 with fail
        refine wp_region_quiet_below (by kernel_rfl) (by kernel_rfl) ?_
        repeat (quiet_step (with_reducible first | exact cR _ _ | exact cO _ _ | exact cT _ _ | exact cL _ _))
        refine wpQuiet_nil ?_
        intro _ hw'
        obtain ⟨⟨dq, osq⟩, hw''⟩ := hw'
        subst hw''
        have HB5 : Hid (Below w3.heap.size w3 (Go.Sort.grow (redrawn wr dq) osq)) := Lib.hid (HBR.out.trans ((below_regrown _ dq osq).mono HBR.out.size))
        have hkc := kc dq osq
        clear cO cR cT cL k0 k1 k2 k3 k4 kc
        generalize Go.Sort.grow (redrawn wr dq) osq = w5 at *
        go_wp2
        go_roundw
        case rel => exact ⟨i + 1, _, by first | rfl | go_num, by omega, rfl, HB5.out⟩
        case measure => simp [intOf]; omega
      · have hiz : ¬ ((i : Int) < (n : Int)) := by omega
        obtain ⟨z, t, hzt⟩ := foundV_form (faced E l s.data.toList)
        have cFi := HFI.out s wr HBW.out
        have HRF2 := Lib.hid (HRF.out s)
        rw [hzt] at cFi HRF2
        unfold entV at cFi HRF2
        obtain ⟨nm, nd, dr, ck, sh⟩ := z
        simp only at cFi HRF2
        clear hzt hbr
        go_upto_region 14 with (go_at_call 14; refine cFi.mono ?_; rintro e w4 ⟨rfl, hb4⟩)
        have hb4w := HBW.out.trans (hb4.mono HBW.out.size)
        have hbA : Below w.heap.size w (w4.alloc (.cells #[.string nm, .int .i64 nd, .bool dr, .int .i64 ck, .int .i64 sh] 29)) := hb4w.alloc hb4w.size _
        have HBA := Lib.hid hbA
        have HQ1 := Lib.hid (entsBlock ⟨nm, nd, dr, ck, sh⟩ w4)
        simp only at HQ1
        have cRf := HRF2.out _ hbA
        clear hbA hb4 hb4w cFi
        generalize w4.alloc (.cells #[.string nm, .int .i64 nd, .bool dr, .int .i64 ck, .int .i64 sh] 29) = W4 at *
        obtain ⟨q1, hq1⟩ : ∃ q1, w4.heap.size = q1 := ⟨_, rfl⟩
        rw [hq1] at HQ1
        (try rw [hq1])
        clear hq1
        go_upto_region 15 with (go_at_call 15; refine cRf.mono ?_; rintro e w5 ⟨rfl, hb5⟩)
        have hb5w := HBA.out.trans (hb5.mono HBA.out.size)
        have hbA : Below w.heap.size w (w5.alloc (.cells #[.string nm, .int .i64 nd, .bool dr, .int .i64 ck, .int .i64 sh] 29)) := hb5w.alloc hb5w.size _
        have HBB := Lib.hid hbA
        have HQ2 := Lib.hid (entsBlock ⟨nm, nd, dr, ck, sh⟩ w5)
        simp only at HQ2
        have HQ3 : Hid ((w5.alloc (.cells #[.string nm, .int .i64 nd, .bool dr, .int .i64 ck, .int .i64 sh] 29)).heap[q1]? = some (.cells #[.string nm, .int .i64 nd, .bool dr, .int .i64 ck, .int .i64 sh] 29 (0, 0))) := Lib.hid (by
          have hlt := lt_of_get HQ1.out
          rw [Below.heap_alloc _ _ _ (by have := hb5.size; omega)]
          exact (hb5.block q1 hlt).trans HQ1.out)
        have cC := HC.out _ hbA
        clear hbA hb5 hb5w cRf
        generalize w5.alloc (.cells #[.string nm, .int .i64 nd, .bool dr, .int .i64 ck, .int .i64 sh] 29) = W5 at *
        obtain ⟨q2, hq2⟩ : ∃ q2, w5.heap.size = q2 := ⟨_, rfl⟩
        rw [hq2] at HQ2
        (try rw [hq2])
        clear hq2
        obtain ⟨⟨p0, p1, p2, p3, p4⟩, _⟩ := five_cells HQ3.out
        obtain ⟨⟨r0, r1, r2, r3, r4⟩, _⟩ := five_cells HQ2.out
        have e1 := ent_eq ⟨nm, nd, dr, ck, sh⟩ ⟨nm, nd, dr, ck, sh⟩ W5
        have e2 := fun op a b => ent_guard op a b ⟨nm, nd, dr, ck, sh⟩ ⟨nm, nd, dr, ck, sh⟩ W5
        unfold entV at e1 e2
        rw [decide_eq_true rfl] at e1
        simp only at e1 e2
        generalize cleanB E l = C at *
        go_wp2_with fail
        refine cC.mono ?_
        rintro e w6 ⟨rfl, hb6⟩
        have HB6 := Lib.hid (HBB.out.trans (hb6.mono HBB.out.size))
        have cRC := HRC.out w6 HB6.out
        clear cC hb6
        go_wp2_with fail
        refine cRC.mono ?_
        rintro e w7 ⟨rfl, hb7⟩
        go_wp2
        go_ret
        exact ⟨by simp, HB6.out.trans (hb7.mono HB6.out.size)⟩
  · obtain ⟨F, hF⟩ : ∃ F, fewE l 12 = F := ⟨_, rfl⟩
    rw [hF] at HF hgo
    obtain ⟨a, cap, rfl⟩ := hv.len
    cases F with
    | false =>
      clear hv hl hok hr hT hB hF hgo
      go_enter Tryz.func3, Tryz.ntmps3
      go_wp2_with fail
      refine cA.mono ?_
      rintro e w1 ⟨rfl, hb1⟩
      have cF := HF.out w1 hb1
      have HB1 := Lib.hid hb1
      clear cA hb1
      go_wp2_with fail
      refine cF.mono ?_
      rintro e w2 ⟨rfl, hb2⟩
      have HB2 := Lib.hid (HB1.out.trans (hb2.mono HB1.out.size))
      have cA2 := HA.out w2 HB2.out
      clear cF hb2
      go_wp2_with fail
      refine cA2.mono ?_
      rintro e w3 ⟨rfl, hb3⟩
      have HB3 := Lib.hid (HB2.out.trans (hb3.mono HB2.out.size))
      clear cA2 hb3
      go_wp2
      go_ret
      exact ⟨rfl, HB3.out⟩
    | true =>
      have hz : ((300 : Int) < (r.size : Int)) := by
        have : ¬ r.size ≤ 300 := fun h => hgo ⟨rfl, h⟩
        omega
      clear hv hl hok hr hT hB hF hgo
      go_enter Tryz.func3, Tryz.ntmps3
      go_wp2_with fail
      refine cA.mono ?_
      rintro e w1 ⟨rfl, hb1⟩
      have cF := HF.out w1 hb1
      have HB1 := Lib.hid hb1
      clear cA hb1
      go_wp2_with fail
      refine cF.mono ?_
      rintro e w2 ⟨rfl, hb2⟩
      have HB2 := Lib.hid (HB1.out.trans (hb2.mono HB1.out.size))
      have cA2 := HA.out w2 HB2.out
      clear cF hb2
      go_wp2_with fail
      refine cA2.mono ?_
      rintro e w3 ⟨rfl, hb3⟩
      have HB3 := Lib.hid (HB2.out.trans (hb3.mono HB2.out.size))
      clear cA2 hb3
      go_wp2
      go_ret
      exact ⟨rfl, HB3.out⟩
end Go.Proofs.YtbbgnhbkjbobgaaGreatDoor
