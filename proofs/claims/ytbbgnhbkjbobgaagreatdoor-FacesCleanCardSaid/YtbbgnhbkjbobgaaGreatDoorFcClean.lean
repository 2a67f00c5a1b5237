/-
  The contracts of Clean: the project's (faces sorted by the library, and compacted), the reference's.
-/
import Derived.Test.YtbbgnhbkjbobgaaGreatDoorFcNames
import Derived.Test.YtbbgnhbkjbobgaaGreatDoorShelf
namespace Go.Proofs.YtbbgnhbkjbobgaaGreatDoor
open Go.RowKit Go.Sort
set_option linter.unusedVariables false

theorem clean_nofit {enc : Int} {l : List Ent} {i : Nat} {x : Ent} (hx : l[i]? = some x) (h : fitB enc x = false) : cleanB enc l = false := by
  unfold cleanB
  rw [Bool.and_eq_false_iff]; left
  rw [List.all_eq_false]
  exact ⟨x, List.mem_of_getElem? hx, by rw [h]; decide⟩
theorem clean_dup {enc : Int} {l : List Ent} {i k : Nat} {x y : Ent} (hk : k < i) (hx : l[i]? = some x) (hy : l[k]? = some y) (h : faceL enc y = faceL enc x) : cleanB enc l = false := by
  unfold cleanB
  rw [Bool.and_eq_false_iff]; right
  refine decide_eq_false (fun hn => ?_)
  obtain ⟨hi, rfl⟩ := List.getElem?_eq_some_iff.1 hx
  obtain ⟨hk', rfl⟩ := List.getElem?_eq_some_iff.1 hy
  rw [List.nodup_iff_pairwise_ne, List.pairwise_iff_getElem] at hn
  exact hn k i (by simpa using hk') (by simpa using hi) hk (by simpa using h)
/-- What was looked at so far fits, and has faces of its own. -/
def CleanTo (enc : Int) (l : List Ent) (i : Nat) : Prop := ∀ j x, j < i → l[j]? = some x → fitB enc x = true ∧ ∀ k y, k < j → l[k]? = some y → faceL enc y ≠ faceL enc x
theorem CleanTo.all {enc : Int} {l : List Ent} (h : CleanTo enc l l.length) : cleanB enc l = true := by
  unfold cleanB
  rw [Bool.and_eq_true, List.all_eq_true]
  refine ⟨fun x hx => ?_, decide_eq_true ?_⟩
  · obtain ⟨j, hj, rfl⟩ := List.getElem_of_mem hx
    exact (h j _ hj (List.getElem?_eq_getElem hj)).1
  · rw [List.nodup_iff_pairwise_ne, List.pairwise_iff_getElem]
    intro i j hi hj hij
    rw [List.getElem_map, List.getElem_map]
    rw [List.length_map] at hi hj
    exact (h j _ hj (List.getElem?_eq_getElem hj)).2 i _ hij (List.getElem?_eq_getElem hi)
theorem CleanTo.step {enc : Int} {l : List Ent} {i : Nat} {x : Ent} (h : CleanTo enc l i) (hx : l[i]? = some x) (hf : fitB enc x = true) (hd : ∀ k y, k < i → l[k]? = some y → faceL enc y ≠ faceL enc x) : CleanTo enc l (i + 1) := fun j y hj hy => by
  by_cases e : j = i
  · subst e
    rw [hx] at hy
    obtain rfl := Option.some.inj hy
    exact ⟨hf, hd⟩
  · exact h j y (by omega) hy
theorem clean_fits {enc : Int} {l : List Ent} (h : ∀ i x, i < l.length → l[i]? = some x → fitB enc x = true) : cleanB enc l = ((((Lib.compact ((l.map (faceL enc)).mergeSort fun x y => decide (x ≤ y))).length : Nat) : Int) == (l.length : Int)) := by
  have h1 : l.all (fitB enc) = true := List.all_eq_true.2 (fun x hx => by
    obtain ⟨j, hj, rfl⟩ := List.getElem_of_mem hx
    exact h j _ hj (List.getElem?_eq_getElem hj))
  unfold cleanB
  rw [h1, Bool.true_and, Bool.eq_iff_iff, decide_eq_true_iff, beq_iff_eq, ← compact_nodup, List.length_map]
  omega
theorem Txt.holds {b : Nat} {w : World} {xs : List (List UInt8)} (h : Txt b w xs) : Holds encStr w b 0 xs.toArray :=
  holds_of_block h (by rw [List.toList_toArray, List.take_of_length_le (by simp)])
theorem Txt.sorted {b n : Nat} {w : World} {xs ts : List (List UInt8)} (h : Txt b w xs) (hl : ts.length = xs.length) (os : Array Obj) : Txt b (Go.Sort.grow (putRow encStr (Sort.ahead w n) b 0 ts.toArray) os) ts := by
  unfold Txt at *
  rw [heap_sorted _ h]
  congr 2
  apply Array.ext'
  have := take_putCells (xs.map encStr).toArray ts (by simp; omega)
  rw [List.take_of_length_le (by simp [putCells]; omega)] at this
  rw [this]

set_option maxHeartbeats 4000000 in
set_option maxRecDepth 100000 in
theorem clean_c (enc : Int) (h0 : 0 ≤ enc) (h8 : enc ≤ 8) (v : Value) (l : List Ent) (w : World) (hv : EntsIs w v l) (hl : l.length ≤ 1000) (hok : ∀ e ∈ l, EntOk e) (hT : Tabs w) (hB : Base w) :
    Calls Tryz.prog 16 #[.int .i64 enc, v] w fun e w' => e = .returned (.bool (cleanB enc l)) ∧ Below w.heap.size w w' := by
  obtain ⟨a, cap, hva⟩ := hv.len
  obtain ⟨n, hn⟩ : ∃ n, l.length = n := ⟨_, rfl⟩
  have HV := Lib.hid hv
  have HN := Lib.hid hn
  have HF : Hid (∀ e ∈ l, ∀ w1, Below w.heap.size w w1 → Calls Tryz.prog 12 #[.int .i64 enc, entV e] w1 fun r w' => r = .returned (.bool (fitB enc e)) ∧ Below w1.heap.size w1 w') := Lib.hid (fun e he w1 h1 => fits_c enc h0 h8 e (hok e he) w1 (hT.step h1))
  have HNM : Hid (∀ w1, Below w.heap.size w w1 → Calls Tryz.prog 9 #[.int .i64 enc, v] w1 (NamesPost (l.map (faceL enc)) w1)) := Lib.hid (fun w1 h1 => names_c enc h0 h8 v l w1 (LstIs.kept hv h1) hl hok (hT.step h1) (hB.step h1))
  obtain ⟨C, hC⟩ : ∃ C, cleanB enc l = C := ⟨_, rfl⟩
  have HC := Lib.hid hC
  rw [hC]
  rw [hn] at hva hl
  subst hva
  clear hv hn hok hT hB h0 h8 hC
  go_enter Tryz.func16, Tryz.ntmps16
  go_wp2
  go_loopw [10] (fun iv wr => ∃ i : Nat, iv = .int .i64 i ∧ i ≤ n ∧ (∀ j x, j < i → l[j]? = some x → fitB enc x = true) ∧ Below w.heap.size w wr) (fun iv _ => n - (intOf iv).toNat)
  case atStart => exact ⟨0, rfl, by omega, fun j x hj => absurd hj (by omega), Below.refl _ _⟩
  case round =>
    obtain ⟨i, rfl, hi, hfit, hb⟩ := hrel
    have HFI := Lib.hid hfit
    have HB := Lib.hid hb
    clear hfit
    by_cases hin : i < n
    · have hiz : (i : Int) < (n : Int) := by omega
      obtain ⟨x, hx⟩ : ∃ x, l[i]? = some x := ⟨_, List.getElem?_eq_getElem (by rw [HN.out]; omega)⟩
      obtain ⟨g, off, rfl, hg, hrr⟩ := HV.out.at hx
      obtain ⟨d0, d1, d2, d3, d4⟩ := ent_at (rangeAt_below hrr hg hb)
      have HX := Lib.hid hx
      have HQ := Lib.hid (entsBlock x wr)
      have hbA : Below w.heap.size w (wr.alloc (.cells #[.string x.name, .int .i64 x.node, .bool x.dir, .int .i64 x.cookie, .int .i64 x.short] 29)) := hb.alloc hb.size _
      have HBA := Lib.hid hbA
      have cF := HF.out x (List.mem_of_getElem? hx) _ hbA
      unfold entV at cF
      obtain ⟨t, ht⟩ : ∃ t, fitB enc x = t := ⟨_, rfl⟩
      rw [ht] at cF
      have HT := Lib.hid ht
      obtain ⟨nm, nd, dr, ck, sh⟩ := x
      simp only at *
      clear hx hrr hg hb hbA ht
      go_upto_region 4 with fail
      generalize wr.alloc (.cells #[.string nm, .int .i64 nd, .bool dr, .int .i64 ck, .int .i64 sh] 29) = W0 at *
      obtain ⟨⟨q0, q1, q2, q3, q4⟩, _⟩ := five_cells HQ.out
      cases t with
      | false =>
        have HE : Hid (C = false) := Lib.hid (by rw [← HC.out]; exact clean_nofit HX.out HT.out)
        go_wp2_with (go_at_call 12; refine cF.mono ?_; rintro e w2 ⟨rfl, hb2⟩)
        go_ret
        exact ⟨by rw [HE.out]; rfl, HBA.out.trans (hb2.mono HBA.out.size)⟩
      | true =>
        have HE : Hid (∀ j x, j < i + 1 → l[j]? = some x → fitB enc x = true) := Lib.hid (fun j x hj hx => by
          by_cases e : j = i
          · subst e
            rw [HX.out] at hx
            obtain rfl := Option.some.inj hx
            exact HT.out
          · exact HFI.out j x (by omega) hx)
        go_wp2_with (go_at_call 12; refine cF.mono ?_; rintro e w2 ⟨rfl, hb2⟩)
        go_roundw
        case rel => exact ⟨i + 1, by first | rfl | go_num, by omega, HE.out, HBA.out.trans (hb2.mono HBA.out.size)⟩
        case measure => simp [intOf]; omega
    · have hiz : ¬ ((i : Int) < (n : Int)) := by omega
      have hin2 : i = n := by omega
      have HE : Hid (C = ((((Lib.compact ((l.map (faceL enc)).mergeSort fun x y => decide (x ≤ y))).length : Nat) : Int) == (n : Int))) := Lib.hid (by
        rw [← HC.out, ← HN.out]
        exact clean_fits (fun j x hj hx => HFI.out j x (by rw [HN.out] at hj; omega) hx))
      have cN := HNM.out wr hb
      unfold NamesPost at cN
      rw [List.length_map, HN.out] at cN
      clear hin2 hb
      go_wp2_with fail
      refine cN.mono ?_
      rintro e w1 ⟨rfl, htx, hb1⟩
      have HTX := Lib.hid htx
      have HB1 := Lib.hid (HB.out.trans (hb1.mono HB.out.size))
      obtain ⟨XS, hXS⟩ : ∃ XS, l.map (faceL enc) = XS := ⟨_, rfl⟩
      have hXn : XS.length = n := by rw [← hXS, List.length_map]; exact HN.out
      rw [hXS] at HTX HE
      have cS := Tryz.slices_Sort_string wr.heap.size 0 n XS w1 HTX.out.holds HTX.out.lt (by omega)
      rw [hXn] at cS
      have HXN := Lib.hid hXn
      have HWS := Lib.hid HB.out.size
      clear cN htx hb1 hXS hXn
      generalize wr.heap.size = b at *
      go_wp2_with fail
      refine cS.mono ?_
      rintro e w2 ⟨rfl, q, os, hw2⟩
      obtain ⟨TS, hTS⟩ : ∃ TS, (XS.mergeSort fun x y => decide (x ≤ y)) = TS := ⟨_, rfl⟩
      have hTn : TS.length = n := by rw [← hTS, (List.mergeSort_perm XS _).length_eq]; exact HXN.out
      rw [hTS] at hw2 HE
      have HT2 : Hid (Txt b w2 TS) := Lib.hid (by rw [hw2]; exact HTX.out.sorted (by rw [hTn, HXN.out]) os)
      have HB2 : Hid (Below w.heap.size w w2) := Lib.hid (by rw [hw2]; exact HB1.out.grown (grownBy_sorted _) HB1.out.size (fun k hk => by obtain rfl := Option.some.inj hk; exact HWS.out))
      have cC := Tryz.slices_Compact_string b 0 n TS w2 HT2.out.holds (by omega) (by omega)
      rw [hTn] at cC
      have hcl := compact_le TS
      obtain ⟨k, hk⟩ : ∃ k, (Lib.compact TS).length = k := ⟨_, rfl⟩
      rw [hk] at cC HE hcl
      clear cS hw2 hTS hk
      go_wp2_with fail
      refine cC.mono ?_
      rintro e w3 ⟨rfl, q3, hw3⟩
      have HB3 : Hid (Below w.heap.size w w3) := Lib.hid (by
        rw [hw3, ← Go.Sort.grow_empty (putRow encStr (Sort.ahead w2 q3) b 0 _)]
        exact HB2.out.grown (grownBy_sorted _) HB2.out.size (fun k hk => by obtain rfl := Option.some.inj hk; exact HWS.out))
      clear hw3 cC
      go_wp2
      go_ret
      exact ⟨by rw [HE.out]; rfl, HB3.out⟩
set_option maxHeartbeats 4000000 in
set_option maxRecDepth 100000 in
theorem rclean_c (enc : Int) (h0 : 0 ≤ enc) (h8 : enc ≤ 8) (v : Value) (l : List Ent) (w : World) (hv : EntsIs w v l) (hl : l.length ≤ 1000) (hok : ∀ e ∈ l, EntOk e) :
    Calls Tryz.prog 17 #[.int .i64 enc, v] w fun e w' => e = .returned (.bool (cleanB enc l)) ∧ Below w.heap.size w w' := by
  obtain ⟨a, cap, hva⟩ := hv.len
  obtain ⟨n, hn⟩ : ∃ n, l.length = n := ⟨_, rfl⟩
  have HV := Lib.hid hv
  have HN := Lib.hid hn
  have HL : Hid (∀ e ∈ l, ∀ w1, Calls Tryz.prog 13 #[.int .i64 enc, .string e.name] w1 fun r w' => r = .returned (.bool (longB enc e.name.data.toList)) ∧ Below w1.heap.size w1 w') := Lib.hid (fun e he w1 => rlong_c enc h0 h8 e.name (hok e he).1 w1)
  have HO : Hid (∀ e ∈ l, ∀ w1, Calls Tryz.prog 10 #[.int .i64 enc, entV e] w1 fun r w' => r = .returned (.string ⟨(faceL enc e).toArray⟩) ∧ Below w1.heap.size w1 w') := Lib.hid (fun e he w1 => rof_c enc h0 h8 e (hok e he) w1)
  obtain ⟨C, hC⟩ : ∃ C, cleanB enc l = C := ⟨_, rfl⟩
  have HC := Lib.hid hC
  rw [hC]
  rw [hn] at hva hl
  subst hva
  clear hv hn hok h0 h8 hC
  go_enter Tryz.func17, Tryz.ntmps17
  go_wp2
  go_loopw [5] (fun iv wr => ∃ i : Nat, iv = .int .i64 i ∧ i ≤ n ∧ CleanTo enc l i ∧ Below w.heap.size w wr) (fun iv _ => n - (intOf iv).toNat)
  case atStart => exact ⟨0, rfl, by omega, fun j x hj => absurd hj (by omega), Below.refl _ _⟩
  case round =>
    obtain ⟨i, rfl, hi, hct, hb⟩ := hrel
    have HCT := Lib.hid hct
    have HB := Lib.hid hb
    clear hct
    by_cases hin : i < n
    · have hiz : (i : Int) < (n : Int) := by omega
      obtain ⟨x, hx⟩ : ∃ x, l[i]? = some x := ⟨_, List.getElem?_eq_getElem (by rw [HN.out]; omega)⟩
      obtain ⟨g, off, rfl, hg, hrr⟩ := HV.out.at hx
      obtain ⟨d0, d1, d2, d3, d4⟩ := ent_at (rangeAt_below hrr hg hb)
      have k0 := cell_regrown d0
      have k4 := cell_regrown d4
      have HX := Lib.hid hx
      have HG := Lib.hid hg
      have cL := regr (W := wr) (fun w1 _ => HL.out x (List.mem_of_getElem? hx) w1)
      obtain ⟨S, hS⟩ : ∃ S, decide (¬ x.short = 0) = S := ⟨_, rfl⟩
      have hne : (x.short != 0) = S := by rw [← hS]; by_cases h : x.short = 0 <;> simp [h]
      obtain ⟨L, hLL⟩ : ∃ L, longB enc x.name.data.toList = L := ⟨_, rfl⟩
      rw [hLL] at cL
      have HT : Hid (fitB enc x = (S == L)) := Lib.hid (by unfold fitB; rw [hS, hLL])
      generalize x.name = nm at *
      generalize x.short = sh at *
      clear hx hrr hg hb hS hLL d0 d1 d2 d3 d4
      go_upto_region 4 with fail
      refine wp_region_quiet_below (by kernel_rfl) (by kernel_rfl) ?_
      repeat (quiet_step (first | exact cL _ _))
      refine wpQuiet_nil ?_
      intro _ hw'
      obtain ⟨⟨dq, osq⟩, hw''⟩ := hw'
      subst hw''
      have HB2 : Hid (Below w.heap.size w (Go.Sort.grow (redrawn wr dq) osq)) := Lib.hid (HB.out.trans ((below_regrown _ dq osq).mono HB.out.size))
      clear cL k0 k4
      generalize Go.Sort.grow (redrawn wr dq) osq = w2 at *
      cases ht : (L == S) with
      | false =>
        have hne2 : (L != S) = true := by rw [bne, ht]; rfl
        have HE : Hid (C = false) := Lib.hid (by
          rw [← HC.out]
          refine clean_nofit HX.out ?_
          rw [HT.out]
          revert ht
          cases L <;> cases S <;> simp)
        go_wp2
        go_ret
        exact ⟨by rw [HE.out]; rfl, HB2.out⟩
      | true =>
        have hne2 : (L != S) = false := by rw [bne, ht]; rfl
        have HF : Hid (fitB enc x = true) := Lib.hid (by
          rw [HT.out]
          revert ht
          cases L <;> cases S <;> simp)
        go_wp2
        go_loopw [6] (fun kv wr => ∃ k : Nat, kv = .int .i64 k ∧ k ≤ i ∧ (∀ j y, j < k → l[j]? = some y → faceL enc y ≠ faceL enc x) ∧ Below w.heap.size w wr) (fun kv _ => i - (intOf kv).toNat)
        case atStart => exact ⟨0, rfl, by omega, fun j y hj => absurd hj (by omega), HB2.out⟩
        case round =>
          obtain ⟨k, rfl, hk, hno, hb⟩ := hrel
          have HNO := Lib.hid hno
          have HBK := Lib.hid hb
          clear hno
          by_cases hki : k < i
          · have hkz : (k : Int) < (i : Int) := by omega
            have hknz : (k : Int) < (n : Int) := by omega
            obtain ⟨y, hy⟩ : ∃ y, l[k]? = some y := ⟨_, List.getElem?_eq_getElem (by rw [HN.out]; omega)⟩
            obtain ⟨g2, off2, hg2, hgl2, hrr2⟩ := HV.out.at hy
            obtain ⟨g3, off3, hg3, hgl3, hrr3⟩ := HV.out.at HX.out
            injection hg2 with hg2
            injection hg3 with hg3
            injection hg2 with e1 e2
            injection hg3 with e3 e4
            subst e1 e2 e3 e4
            obtain ⟨d0, d1, d2, d3, d4⟩ := ent_at (rangeAt_below hrr2 hgl2 hb)
            obtain ⟨c0, c1, c2, c3, c4⟩ := ent_at (rangeAt_below hrr3 hgl3 hb)
            have k0 := cell_regrown d0
            have k1 := cell_regrown d1
            have k2 := cell_regrown d2
            have k3 := cell_regrown d3
            have k4 := cell_regrown d4
            have m0 := cell_regrown c0
            have m1 := cell_regrown c1
            have m2 := cell_regrown c2
            have m3 := cell_regrown c3
            have m4 := cell_regrown c4
            have cY := regr (W := wr) (fun w1 _ => HO.out y (List.mem_of_getElem? hy) w1)
            have cX := regr (W := wr) (fun w1 _ => HO.out x (List.mem_of_getElem? HX.out) w1)
            unfold entV at cY cX
            have HY := Lib.hid hy
            obtain ⟨FY, hFY⟩ : ∃ F : ByteArray, (⟨(faceL enc y).toArray⟩ : ByteArray) = F := ⟨_, rfl⟩
            obtain ⟨FX, hFX⟩ : ∃ F : ByteArray, (⟨(faceL enc x).toArray⟩ : ByteArray) = F := ⟨_, rfl⟩
            have hcm : (FY.toList == FX.toList) = decide (faceL enc y = faceL enc x) := text_is' hFY hFX
            rw [hFY] at cY
            rw [hFX] at cX
            clear hy hrr2 hrr3 hgl2 hgl3 hb d0 d1 d2 d3 d4 c0 c1 c2 c3 c4 hFX hFY
            go_upto_region 9 with fail
            refine wp_region_quiet_below (by kernel_rfl) (by kernel_rfl) ?_
            repeat (quiet_step (with_reducible first | exact cY _ _ | exact cX _ _))
            refine wpQuiet_nil ?_
            intro _ hw'
            obtain ⟨⟨dq, osq⟩, hw''⟩ := hw'
            subst hw''
            have HB3 : Hid (Below w.heap.size w (Go.Sort.grow (redrawn wr dq) osq)) := Lib.hid (HBK.out.trans ((below_regrown _ dq osq).mono HBK.out.size))
            clear cY cX k0 k1 k2 k3 k4 m0 m1 m2 m3 m4
            generalize Go.Sort.grow (redrawn wr dq) osq = w3 at *
            cases ht : decide (faceL enc y = faceL enc x) with
            | true =>
              rw [ht] at hcm
              have HE : Hid (C = false) := Lib.hid (by rw [← HC.out]; exact clean_dup hki HX.out HY.out (of_decide_eq_true ht))
              clear ht
              go_wp2
              go_ret
              exact ⟨by rw [HE.out]; rfl, HB3.out⟩
            | false =>
              rw [ht] at hcm
              have HE : Hid (∀ j y, j < k + 1 → l[j]? = some y → faceL enc y ≠ faceL enc x) := Lib.hid (fun j z hj hz => by
                by_cases e : j = k
                · subst e
                  rw [HY.out] at hz
                  obtain rfl := Option.some.inj hz
                  exact of_decide_eq_false ht
                · exact HNO.out j z (by omega) hz)
              clear ht
              go_wp2
              go_roundw
              case rel => exact ⟨k + 1, by first | rfl | go_num, by omega, HE.out, HB3.out⟩
              case measure => simp [intOf]; omega
          · have hkz : ¬ ((k : Int) < (i : Int)) := by omega
            have HE : Hid (CleanTo enc l (i + 1)) := Lib.hid (HCT.out.step HX.out HF.out (fun j y hj hy => HNO.out j y (by omega) hy))
            clear hb
            go_wp2
            go_roundw
            case rel => exact ⟨i + 1, by first | rfl | go_num, by omega, HE.out, HBK.out⟩
            case measure => simp [intOf]; omega
    · have hiz : ¬ ((i : Int) < (n : Int)) := by omega
      have HE : Hid (C = true) := Lib.hid (by
        rw [← HC.out]
        have h := HCT.out
        rw [show i = l.length by rw [HN.out]; omega] at h
        exact h.all)
      clear hb
      go_wp2
      go_ret
      exact ⟨by rw [HE.out]; rfl, HB.out⟩
end Go.Proofs.YtbbgnhbkjbobgaaGreatDoor
