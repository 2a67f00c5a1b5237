/-
  The law EscapePlain of stage 4, walked: it answers true; what lay in memory stays.
-/
import Derived.Test.YtfmjhamnpgcdcaaDoorZEsLawC
import Derived.Test.YtfmjhamnpgcdcaaDoorZEsPlainM
import Derived.Test.YtfmjhamnpgcdcaaDoorZR2Kana
import Derived.OwnWalk
namespace Go.Proofs.YtfmjhamnpgcdcaaDoor
open Go.RowKit Go.Sort
set_option linter.unusedVariables false

/-- What has come up of the first j characters. -/
def PlainRel (E : Int) (l : List Int) (w0 : World) (gk : Nat) (rv iv : Value) (wr : World) : Prop :=
  ∃ (j : Nat) (raw : List UInt8), j + gk = l.length ∧ rv = .string ⟨raw.toArray⟩ ∧ iv = .int .i64 (j : Nat) ∧ bytesM E (l.take j) = some raw ∧ (∀ r ∈ l.take j, reservedI r = false) ∧ Below w0.heap.size w0 wr
theorem bs_append (a b : List UInt8) : (⟨a.toArray⟩ : ByteArray) ++ ⟨b.toArray⟩ = ⟨(a ++ b).toArray⟩ := by
  apply ByteArray.ext
  simp
set_option maxHeartbeats 4000000 in
set_option maxRecDepth 100000 in
theorem plain4_walk (x : Int) (hx0 : 0 ≤ x) (hx1 : x ≤ 255) (l : List Int) (v : Value) (w : World) (hv : SliceIs w v l) (hf : ∀ r ∈ l, -2147483648 ≤ r ∧ r ≤ 2147483647) (hlm : l.length ≤ 9223372036854775807) (hT : Tabs w) :
    Calls Tryd.prog 4 #[.int .u8 x, v] w fun e w' => e = .returned (.bool true) ∧ Below w.heap.size w w' := by
  have cA := awake4_c w hT
  have HA : Hid (∀ w1, Below w.heap.size w w1 → Calls Tryd.prog 7 #[] w1 fun e w' => e = .returned (.bool true) ∧ Below w1.heap.size w1 w') := Lib.hid (fun w1 h1 => awake4_c w1 (hT.step h1))
  obtain ⟨E, hE⟩ : ∃ E, x % 9 = E := ⟨_, rfl⟩
  have hE0 : 0 ≤ E := by omega
  have hE8 : E ≤ 8 := by omega
  have hwE : IntKind.i64.wrap E = E := by rw [IntKind.wrap_i64]; omega
  obtain ⟨a, cap, rfl⟩ := hv.len
  obtain ⟨n, hn⟩ : ∃ n, l.length = n := ⟨_, rfl⟩
  have HN := Lib.hid hn
  have HV := Lib.hid hv
  have HF := Lib.hid hf
  rw [hn] at hlm HV ⊢
  clear hv hn hf
  by_cases hbad : 40 < n ∨ n = 0
  · have hcase : (((40 : Int) < (n : Int)) ∧ ((n : Int) == 0) = false) ∨ (¬ ((40 : Int) < (n : Int)) ∧ ((n : Int) == 0) = true) := by
      rcases hbad with h | h
      · exact Or.inl ⟨by omega, by rw [beq_eq_false_iff_ne]; omega⟩
      · exact Or.inr ⟨by omega, by rw [beq_iff_eq]; omega⟩
    clear hbad hT
    rcases hcase with ⟨h1, h2⟩ | ⟨h1, h2⟩
    · go_enter Tryd.func4, Tryd.ntmps4
      go_wp2_with fail
      refine cA.mono ?_
      rintro e w1 ⟨rfl, hb1⟩
      have cA2 := HA.out w1 hb1
      go_wp2_with fail
      refine cA2.mono ?_
      rintro e w2 ⟨rfl, hb2⟩
      have HB := Lib.hid (below_step hb1 hb2)
      clear hb1 hb2 cA cA2
      go_wp2
      go_ret
      exact ⟨rfl, HB.out⟩
    · go_enter Tryd.func4, Tryd.ntmps4
      go_wp2_with fail
      refine cA.mono ?_
      rintro e w1 ⟨rfl, hb1⟩
      have cA2 := HA.out w1 hb1
      go_wp2_with fail
      refine cA2.mono ?_
      rintro e w2 ⟨rfl, hb2⟩
      have HB := Lib.hid (below_step hb1 hb2)
      clear hb1 hb2 cA cA2
      go_wp2
      go_ret
      exact ⟨rfl, HB.out⟩
  · have h40 : ¬ ((40 : Int) < (n : Int)) := by omega
    have hn0 : ((n : Int) == 0) = false := by rw [beq_eq_false_iff_ne]; omega
    have hn1 : 1 ≤ n := by omega
    have hn40 : n ≤ 40 := by omega
    clear hbad
    go_enter Tryd.func4, Tryd.ntmps4
    go_wp2_with fail
    refine cA.mono ?_
    rintro e w1 ⟨rfl, hb1⟩
    have HB1 := Lib.hid hb1
    clear hb1 cA
    go_wp2
    go_loopg [6, 7] n (fun gk rv iv wr => PlainRel E l w gk rv iv wr)
    case atStart => exact ⟨0, [], by rw [HN.out]; omega, rfl, rfl, rfl, (fun r hr => by simp at hr), HB1.out⟩
    case round =>
      obtain ⟨j, raw, hjg, rfl, rfl, hbm, hres, hbel⟩ := hrel
      rw [HN.out] at hjg
      have HBM := Lib.hid hbm
      have HRES := Lib.hid hres
      have hrl : raw.length ≤ 160 := by
        have h1 := bytesM_len hE0 _ _ hbm
        have h2 := HN.out
        rw [List.length_take] at h1
        omega
      have HBE := Lib.hid hbel
      clear hbm hres
      by_cases hlt : j < n
      · have hltz : (j : Int) < (n : Int) := by omega
        have hjl : j < l.length := by rw [HN.out]; exact hlt
        have hcell : ∃ g off, a = some ⟨g, off, none⟩ ∧ g < w.heap.size ∧ w.cell? ⟨g, off + j, none⟩ = some (.int .i32 (l.getD j 0)) := by
          rcases HV.out with ⟨h1, _⟩ | ⟨g, off, cap', hg, hvv, hc⟩
          · rw [h1] at hjl; exact absurd hjl (by simp)
          · refine ⟨g, off, ?_, hg, hc j hjl⟩
            injection hvv
        obtain ⟨g, off, rfl, hg, c0⟩ := hcell
        have hmem : l.getD j 0 ∈ l := by
          rw [List.getD_eq_getElem?_getD, List.getElem?_eq_getElem hjl]
          exact List.getElem_mem hjl
        have hfr := HF.out _ hmem
        have HTK : Hid (l.take (j + 1) = l.take j ++ [l.getD j 0]) := Lib.hid (by
          rw [List.take_add_one, show l[j]?.toList = [l.getD j 0] by simp [List.getD_eq_getElem?_getD, List.getElem?_eq_getElem hjl]])
        generalize l.getD j 0 = r at *
        have d0 : wr.cell? ⟨g, off + j, none⟩ = some (.int .i32 r) := by rw [hbel.cell (p := ⟨g, off + j, none⟩) hg]; exact c0
        have hwr : IntKind.i64.wrap r = r := by rw [IntKind.wrap_i64]; omega
        have j0 : (0 : Int) ≤ (j : Int) := by omega
        have HD : Hid (∀ W, Below w.heap.size w W → W.cell? ⟨g, off + j, none⟩ = some (.int .i32 r)) := Lib.hid (fun W h => by rw [h.cell (p := ⟨g, off + j, none⟩) hg]; exact c0)
        have cE := enc_c E r hE0 hfr.1 hfr.2 wr
        have cRes := refRes_c r
        cases hen : encI E r with
        | none =>
          rw [hen] at cE
          clear hen c0 hbel hmem hjl
          go_wp2_with fail
          refine cE.mono ?_
          rintro e w5 ⟨rfl, hb5⟩
          have HB5 : Hid (Below w.heap.size w w5) := Lib.hid (HBE.out.trans (hb5.mono HBE.out.size))
          clear hb5 cE
          go_wp2
          go_ret
          exact ⟨rfl, HB5.out⟩
        | some zs =>
          have hbb : encB E r = some (zs.map fun z => UInt8.ofNat z.toNat) := by unfold encB; rw [hen]; rfl
          rw [hen] at cE
          obtain ⟨bb, hbbe⟩ : ∃ bb, (zs.map fun z => UInt8.ofNat z.toNat) = bb := ⟨_, rfl⟩
          have hz9 : bsZ zs = ⟨bb.toArray⟩ := by unfold bsZ; rw [hbbe]
          rw [hbbe] at hbb
          have hbl := encB_short hE0 hbb
          have cE2 : Calls Tryd.prog 10 #[.int .i64 E, .int .i64 r] wr fun e w' => e = .returned (.tuple #[.string ⟨bb.toArray⟩, .bool true]) ∧ Below wr.heap.size wr w' := by
            rw [← hz9]; exact cE
          have HBB := Lib.hid hbb
          clear hbb hz9 hbbe hen cE c0 hmem hjl
          cases hrs : reservedI r with
          | true =>
            rw [hrs] at cRes
            clear hrs hbel
            go_upto_region 9 with (first | (go_at_call 10; refine cE2.mono ?_; rintro e w5 ⟨rfl, hb5⟩))
            have HB5 : Hid (Below w.heap.size w w5) := Lib.hid (HBE.out.trans (hb5.mono HBE.out.size))
            have d5 := HD.out w5 HB5.out
            clear hb5 cE2
            go_wp2_with (first | (go_at_call 11; refine (cRes _).mono ?_; rintro e w' ⟨rfl, hw'⟩; rw [hw']))
            go_ret
            exact ⟨rfl, HB5.out⟩
          | false =>
            rw [hrs] at cRes
            have HRS := Lib.hid hrs
            clear hrs hbel
            go_upto_region 9 with (first | (go_at_call 10; refine cE2.mono ?_; rintro e w5 ⟨rfl, hb5⟩))
            have HB5 : Hid (Below w.heap.size w w5) := Lib.hid (HBE.out.trans (hb5.mono HBE.out.size))
            have d5 := HD.out w5 HB5.out
            clear hb5 cE2
            go_cut [85] from 30 to 88 (fun c wx => (∃ B : Bool, c = .bool B) ∧ wx = w5)
            case first =>
              obtain ⟨R, hR⟩ : ∃ R : ByteArray, R = ⟨raw.toArray⟩ := ⟨_, rfl⟩
              have hRs : R.size ≤ 160 := by rw [hR]; show raw.toArray.size ≤ 160; simp; omega
              rw [← hR]
              obtain ⟨Q, hQ⟩ : ∃ Q : ByteArray, Q = ⟨bb.toArray⟩ := ⟨_, rfl⟩
              rw [← hQ]
              have HR := Lib.hid hR
              have HQ := Lib.hid hQ
              clear hR hQ HTK HBM HRES HRS HBB hrl hbl
              by_cases h6 : E = 6
              · have e6 : (E == 6) = true := by rw [beq_iff_eq]; exact h6
                clear h6
                by_cases hs0 : R.size = 0
                · have s0 : ¬ ((0 : Int) < (R.size : Int)) := by omega
                  go_wp2_with (first | (go_at_call 11; refine (cRes _).mono ?_; rintro e w' ⟨rfl, hw'⟩; rw [hw']))
                  obtain rfl := HR.out
                  obtain rfl := HQ.out
                  go_meet
                  exact ⟨⟨_, rfl⟩, rfl⟩
                · have s0 : (0 : Int) < (R.size : Int) := by omega
                  have hB := Go.PlainAid.get_bt R
                  have hw1 : IntKind.i64.wrap ((R.size : Int) - 1) = ((R.size - 1 : Nat) : Int) := by rw [IntKind.wrap_i64]; omega
                  have q0 : (0 : Int) ≤ ((R.size - 1 : Nat) : Int) := by omega
                  have q1 : ((R.size - 1 : Nat) : Int) < (R.size : Int) := by omega
                  have q2 : (((R.size - 1 : Nat) : Int)).toNat = R.size - 1 := by omega
                  obtain ⟨z, hz⟩ : ∃ z, Go.PlainAid.bt R (R.size - 1) = z := ⟨_, rfl⟩
                  by_cases h130 : 130 ≤ z
                  · have c1 : ¬ (z < 130) := by omega
                    by_cases h132 : z ≤ 132
                    · have c2 : ¬ (132 < z) := by omega
                      obtain ⟨B1, hB1⟩ : ∃ B1, ((Q.size : Int) == 1) = B1 := ⟨_, rfl⟩
                      go_wp2_with (first | (go_at_call 11; refine (cRes _).mono ?_; rintro e w' ⟨rfl, hw'⟩; rw [hw']))
                      obtain rfl := HR.out
                      obtain rfl := HQ.out
                      go_meet
                      exact ⟨⟨_, rfl⟩, rfl⟩
                    · have c2 : 132 < z := by omega
                      go_wp2_with (first | (go_at_call 11; refine (cRes _).mono ?_; rintro e w' ⟨rfl, hw'⟩; rw [hw']))
                      obtain rfl := HR.out
                      obtain rfl := HQ.out
                      go_meet
                      exact ⟨⟨_, rfl⟩, rfl⟩
                  · have c1 : z < 130 := by omega
                    go_wp2_with (first | (go_at_call 11; refine (cRes _).mono ?_; rintro e w' ⟨rfl, hw'⟩; rw [hw']))
                    obtain rfl := HR.out
                    obtain rfl := HQ.out
                    go_meet
                    exact ⟨⟨_, rfl⟩, rfl⟩
              · have e6 : (E == 6) = false := by rw [beq_eq_false_iff_ne]; exact h6
                clear h6
                go_wp2_with (first | (go_at_call 11; refine (cRes _).mono ?_; rintro e w' ⟨rfl, hw'⟩; rw [hw']))
                obtain rfl := HR.out
                obtain rfl := HQ.out
                go_meet
                exact ⟨⟨_, rfl⟩, rfl⟩
            case rest =>
              obtain ⟨⟨B, hc1⟩, hc2⟩ := hcut
              subst hc1
              subst hc2
              cases B with
              | true =>
                go_wp2
                go_ret
                exact ⟨rfl, HB5.out⟩
              | false =>
                have hsum : ¬ (9223372036854775807 < (⟨raw.toArray⟩ : ByteArray).size + (⟨bb.toArray⟩ : ByteArray).size) := by
                  show ¬ (9223372036854775807 < raw.toArray.size + bb.toArray.size)
                  simp; omega
                have hap := bs_append raw bb
                have HBM9 : Hid (bytesM E (l.take (j + 1)) = some (raw ++ bb)) := Lib.hid (by rw [HTK.out]; exact bytesM_snoc HBB.out HBM.out)
                have HRES9 : Hid (∀ q ∈ l.take (j + 1), reservedI q = false) := Lib.hid (fun q hq => by
                  rw [HTK.out] at hq
                  rcases List.mem_append.1 hq with h | h
                  · exact HRES.out q h
                  · have e : q = r := by simpa using h
                    rw [e]; exact HRS.out)
                go_wp2
                go_roundg (n - (j + 1))
                case measure => omega
                case rel => exact ⟨j + 1, raw ++ bb, by rw [HN.out]; omega, by first | rfl | rw [hap], by first | rfl | go_num, HBM9.out, HRES9.out, HB5.out⟩
      · have hje : j = n := by omega
        have hge : ¬ ((j : Int) < (n : Int)) := by omega
        subst hje
        have htk : l.take j = l := List.take_of_length_le (by rw [HN.out]; exact Nat.le_refl _)
        have hbm : bytesM E l = some raw := by have := HBM.out; rw [htk] at this; exact this
        have hres : ∀ r ∈ l, reservedI r = false := by have := HRES.out; rw [htk] at this; exact this
        obtain ⟨z, hz⟩ : ∃ z, l.getD (j - 1) 0 = z := ⟨_, rfl⟩
        obtain ⟨h0, hh0⟩ : ∃ h0, l.getD 0 0 = h0 := ⟨_, rfl⟩
        have hgl : l.getLast? = some z := by
          rw [List.getLast?_eq_getElem?, HN.out, ← hz, List.getD_eq_getElem?_getD, List.getElem?_eq_getElem (by rw [HN.out]; omega)]
          rfl
        have hcell : ∃ g off, a = some ⟨g, off, none⟩ ∧ g < w.heap.size ∧ w.cell? ⟨g, off + (j - 1), none⟩ = some (.int .i32 z) ∧ w.cell? ⟨g, off, none⟩ = some (.int .i32 h0) := by
          rcases HV.out with ⟨h1, _⟩ | ⟨g, off, cap', hg, hvv, hc⟩
          · have := HN.out; rw [h1] at this; simp at this; omega
          · refine ⟨g, off, ?_, hg, by rw [← hz]; exact hc (j - 1) (by rw [HN.out]; omega), by rw [← hh0]; exact hc 0 (by rw [HN.out]; omega)⟩
            injection hvv
        obtain ⟨g, off, rfl, hg, cz, ch⟩ := hcell
        have HLC : Hid (∀ W, Below w.heap.size w W → W.cell? ⟨g, off + (j - 1), none⟩ = some (.int .i32 z) ∧ W.cell? ⟨g, off, none⟩ = some (.int .i32 h0)) := Lib.hid (fun W h => by
          rw [h.cell (p := ⟨g, off + (j - 1), none⟩) hg, h.cell (p := ⟨g, off, none⟩) hg]; exact ⟨cz, ch⟩)
        have HSL : Hid (∀ W, Below w.heap.size w W → SliceIs W (.slice (some ⟨g, off, none⟩) j cap) l) := Lib.hid (fun W h => HV.out.kept h)
        have hw1 : IntKind.i64.wrap ((j : Int) - 1) = ((j - 1 : Nat) : Int) := by rw [IntKind.wrap_i64]; omega
        have q0 : (0 : Int) ≤ ((j - 1 : Nat) : Int) := by omega
        have q1 : ((j - 1 : Nat) : Int) < (j : Int) := by omega
        have q2 : (((j - 1 : Nat) : Int)).toNat = j - 1 := by omega
        have q3 : (0 : Int) < (j : Int) := by omega
        obtain ⟨d1, d2⟩ := HLC.out wr hbel
        have HGc : Hid (∀ W, Calls Tryd.prog 14 #[.string ⟨raw.toArray⟩] W fun e w' => e = .returned (.bool (goodB ⟨raw.toArray⟩)) ∧ Below W.heap.size W w') := Lib.hid (fun W => esGood_c ⟨raw.toArray⟩ (by show raw.toArray.size ≤ _; simp; omega) W)
        have HSt : Hid (∀ W, Below w.heap.size w W → Calls Tryd.prog 12 #[.slice (some ⟨g, off, none⟩) j cap] W (StablePost l W)) := Lib.hid (fun W h => stablecp_c l _ W (HV.out.kept h) (by rw [HN.out]; omega) (by have := marks_full l; have := HN.out; omega))
        have HCl := Lib.hid (cls_c h0)
        have HJ : Hid (∀ W, Below w.heap.size w W → Calls Tryd.prog 15 #[.slice (some ⟨g, off, none⟩) j cap] W fun e w' => e = .returned (.string ⟨(joinL l).toArray⟩) ∧ Below W.heap.size W w') := Lib.hid (fun W h => refJoin_c (HV.out.kept h) (by rw [HN.out]; omega))
        have HTo : Hid (∀ W, Below w.heap.size w W → Calls Tryd.prog 16 #[.slice (some ⟨g, off, none⟩) j cap] W (TogPost l W)) := Lib.hid (fun W h => together_c l _ W (HV.out.kept h) (by rw [HN.out]; omega))
        have HBMl := Lib.hid hbm
        have HRESl := Lib.hid hres
        have HGL := Lib.hid hgl
        have HH0 := Lib.hid hh0
        have HTT := Lib.hid hT
        have HALL : Hid (z ≠ 46 → z ≠ 32 → goodB ⟨raw.toArray⟩ = true → (E = 8 → apartI l = l ∧ classI h0 = 0) →
            (∀ W, Below w.heap.size w W → Calls Tryd.prog 8 #[.int .i64 E, .string ⟨(joinL (wantL E l)).toArray⟩] W fun e w' => e = .returned (.tuple #[.string ⟨raw.toArray⟩, .int .i64 0]) ∧ Below W.heap.size W w') ∧
            (∀ W, Below w.heap.size w W → Calls Tryd.prog 9 #[.int .i64 E, .string ⟨raw.toArray⟩] W fun e w' => e = .returned (.string ⟨(joinL (wantL E l)).toArray⟩) ∧ Below W.heap.size W w')) := Lib.hid (fun h46 h32 hgd h8 => by
          have hpp := plain_pres hE0 l raw HBMl.out HRESl.out (fun y hy => by rw [HGL.out] at hy; rw [← Option.some.inj hy]; exact ⟨h46, h32⟩) (fun e => ⟨(h8 e).1, fun r t hl => by
            have h1 := HH0.out
            rw [hl] at h1
            have h2 : r = h0 := h1
            rw [h2]; exact (h8 e).2⟩)
          have hRd := plain_reads hE0 l raw (by rw [HN.out]; omega) HBMl.out hpp
          refine ⟨fun W h => restore_yes E hE0 hE8 ⟨(joinL (wantL E l)).toArray⟩ raw hRd hgd (by omega) hpp W (HTT.out.step h), fun W h => ?_⟩
          have := present_c E hE0 hE8 ⟨raw.toArray⟩ (by show raw.toArray.size ≤ 300; simp; omega) W (HTT.out.step h)
          rw [show (⟨raw.toArray⟩ : ByteArray).data.toList = raw from rfl, hpp] at this
          exact this)
        have HLn : Hid (l.length ≤ 40) := Lib.hid (by rw [HN.out]; omega)
        clear hbm hres hgl hh0 hz htk hT cz ch hbel hjg hlt HBM HRES HV HN HF HB1 HA
        by_cases h46 : z = 46
        · have e46 : (z == 46) = true := by rw [beq_iff_eq]; exact h46
          clear h46
          go_wp2
          go_ret
          exact ⟨rfl, HBE.out⟩
        · have e46 : (z == 46) = false := by rw [beq_eq_false_iff_ne]; exact h46
          by_cases h32 : z = 32
          · have e32 : (z == 32) = true := by rw [beq_iff_eq]; exact h32
            clear h46 h32
            go_wp2
            go_ret
            exact ⟨rfl, HBE.out⟩
          · have e32 : (z == 32) = false := by rw [beq_eq_false_iff_ne]; exact h32
            by_cases h8 : E = 8
            · have e8 : (E == 8) = true := by rw [beq_iff_eq]; exact h8
              have hwl : wantL E l = togI l := by unfold wantL; rw [if_pos h8]
              have cS : Calls Tryd.prog 12 #[.slice (some ⟨g, off, none⟩) j cap] wr fun e w' => e = .returned (.bool (decide (l = apartI l))) ∧ Below wr.heap.size wr w' := HSt.out wr HBE.out
              by_cases hst : l = apartI l
              · rw [decide_eq_true hst] at cS
                have cC := HCl.out
                by_cases hc0 : 0 < classI h0
                · generalize classI h0 = C at *
                  clear HALL hwl h8 h46 h32 hst
                  go_wp2_with fail
                  refine cS.mono ?_
                  rintro e w5 ⟨rfl, hb5⟩
                  have HB5 : Hid (Below w.heap.size w w5) := Lib.hid (HBE.out.trans (hb5.mono HBE.out.size))
                  obtain ⟨f1, f2⟩ := HLC.out w5 HB5.out
                  clear hb5 cS
                  go_wp2_with (first | (go_at_call 13; refine (cC _).mono ?_; rintro e w' ⟨rfl, hw'⟩; rw [hw']))
                  go_ret
                  exact ⟨rfl, HB5.out⟩
                · have hc1 : classI h0 = 0 := by have := classI_nn h0; omega
                  rw [hc1] at cC
                  cases hgd : goodB ⟨raw.toArray⟩ with
                  | false =>
                    have HGc2 : Hid (∀ W, Calls Tryd.prog 14 #[.string ⟨raw.toArray⟩] W fun e w' => e = .returned (.bool false) ∧ Below W.heap.size W w') := Lib.hid (fun W => by have := HGc.out W; rw [hgd] at this; exact this)
                    clear HALL hgd hwl h8 h46 h32 hst hc0 hc1 HGc
                    go_wp2_with fail
                    refine cS.mono ?_
                    rintro e w5 ⟨rfl, hb5⟩
                    have HB5 : Hid (Below w.heap.size w w5) := Lib.hid (HBE.out.trans (hb5.mono HBE.out.size))
                    obtain ⟨f1, f2⟩ := HLC.out w5 HB5.out
                    have cG := HGc2.out w5
                    clear hb5 cS
                    go_wp2_with (first | (go_at_call 13; refine (cC _).mono ?_; rintro e w' ⟨rfl, hw'⟩; rw [hw']))
                    refine cG.mono ?_
                    rintro e w6 ⟨rfl, hb6⟩
                    have HB6 := Lib.hid (below_step HB5.out hb6)
                    clear hb6 cG
                    go_wp2
                    go_ret
                    exact ⟨rfl, HB6.out⟩
                  | true =>
                    have HGc2 : Hid (∀ W, Calls Tryd.prog 14 #[.string ⟨raw.toArray⟩] W fun e w' => e = .returned (.bool true) ∧ Below W.heap.size W w') := Lib.hid (fun W => by have := HGc.out W; rw [hgd] at this; exact this)
                    obtain ⟨hR, hP⟩ := HALL.out h46 h32 hgd (fun _ => ⟨hst.symm, hc1⟩)
                    rw [hwl] at hR hP
                    have HRr := Lib.hid hR
                    have HPp := Lib.hid hP
                    have htl := togI_length l
                    have HTL : Hid ((togI l).length ≤ 1000) := Lib.hid (by have := HLn.out; omega)
                    have HJ2 : Hid (∀ W v', SliceIs W v' (togI l) → Calls Tryd.prog 15 #[v'] W fun e w' => e = .returned (.string ⟨(joinL (togI l)).toArray⟩) ∧ Below W.heap.size W w') := Lib.hid (fun W v' h => refJoin_c h HTL.out)
                    have HTo2 : Hid (∀ W, Below w.heap.size w W → Calls Tryd.prog 16 #[.slice (some ⟨g, off, none⟩) j cap] W fun e w' => ∃ v', e = .returned v' ∧ SliceIs w' v' (togI l) ∧ Below W.heap.size W w') := Lib.hid (fun W h => HTo.out W h)
                    clear HALL hgd hwl h8 h46 h32 hst hc0 hc1 HGc hR hP htl HTo
                    generalize (⟨(joinL l).toArray⟩ : ByteArray) = S0 at *
                    generalize (⟨(joinL (togI l)).toArray⟩ : ByteArray) = S at *
                    generalize (⟨raw.toArray⟩ : ByteArray) = R at *
                    go_wp2_with fail
                    refine cS.mono ?_
                    rintro e w5 ⟨rfl, hb5⟩
                    have hB5 : Below w.heap.size w w5 := HBE.out.trans (hb5.mono HBE.out.size)
                    obtain ⟨f1, f2⟩ := HLC.out w5 hB5
                    have cG := HGc2.out w5
                    clear hb5 cS
                    go_wp2_with (first | (go_at_call 13; refine (cC _).mono ?_; rintro e w' ⟨rfl, hw'⟩; rw [hw']))
                    refine cG.mono ?_
                    rintro e w6 ⟨rfl, hb6⟩
                    have hB6 := below_step hB5 hb6
                    have cJ := HJ.out w6 hB6
                    clear hb6 cG hB5
                    go_wp2_with fail
                    refine cJ.mono ?_
                    rintro e w7 ⟨rfl, hb7⟩
                    have hB7 := below_step hB6 hb7
                    have cT := HTo2.out w7 hB7
                    clear hb7 cJ hB6
                    go_wp2_with fail
                    refine cT.mono ?_
                    rintro e w8 ⟨v8, rfl, hs8, hb8⟩
                    have hB8 := below_step hB7 hb8
                    obtain ⟨a8, cap8, rfl⟩ := hs8.len
                    have cJ2 := HJ2.out w8 _ hs8
                    generalize (togI l).length = n8 at *
                    clear hb8 cT hB7 hs8
                    go_wp2_with fail
                    refine cJ2.mono ?_
                    rintro e w9 ⟨rfl, hb9⟩
                    have hB9 := below_step hB8 hb9
                    have cR := HRr.out w9 hB9
                    clear hb9 cJ2 hB8
                    go_wp2_with fail
                    refine cR.mono ?_
                    rintro e wa ⟨rfl, hba⟩
                    have hBa := below_step hB9 hba
                    have cP := HPp.out wa hBa
                    clear hba cR hB9
                    go_wp2_with fail
                    refine cP.mono ?_
                    rintro e wb ⟨rfl, hbb⟩
                    have HBb := Lib.hid (below_step hBa hbb)
                    clear hbb cP hBa
                    go_wp2
                    go_ret
                    exact ⟨rfl, HBb.out⟩
              · rw [decide_eq_false hst] at cS
                clear HALL hwl h8 h46 h32 hst
                go_wp2_with fail
                refine cS.mono ?_
                rintro e w5 ⟨rfl, hb5⟩
                have HB5 : Hid (Below w.heap.size w w5) := Lib.hid (HBE.out.trans (hb5.mono HBE.out.size))
                clear hb5 cS
                go_wp2
                go_ret
                exact ⟨rfl, HB5.out⟩
            · have e8 : (E == 8) = false := by rw [beq_eq_false_iff_ne]; exact h8
              have hwl : wantL E l = l := by unfold wantL; rw [if_neg h8]
              cases hgd : goodB ⟨raw.toArray⟩ with
              | false =>
                have cG := HGc.out wr
                rw [hgd] at cG
                clear HALL hgd hwl h8 h46 h32
                go_wp2_with fail
                refine cG.mono ?_
                rintro e w5 ⟨rfl, hb5⟩
                have HB5 : Hid (Below w.heap.size w w5) := Lib.hid (HBE.out.trans (hb5.mono HBE.out.size))
                clear hb5 cG
                go_wp2
                go_ret
                exact ⟨rfl, HB5.out⟩
              | true =>
                obtain ⟨hR, hP⟩ := HALL.out h46 h32 hgd (fun e => absurd e h8)
                rw [hwl] at hR hP
                have HRr := Lib.hid hR
                have HPp := Lib.hid hP
                have cG := HGc.out wr
                rw [hgd] at cG
                clear HALL hgd hwl h8 h46 h32 hR hP
                generalize (⟨(joinL l).toArray⟩ : ByteArray) = S at *
                generalize (⟨raw.toArray⟩ : ByteArray) = R at *
                go_wp2_with fail
                refine cG.mono ?_
                rintro e w5 ⟨rfl, hb5⟩
                have hB5 : Below w.heap.size w w5 := HBE.out.trans (hb5.mono HBE.out.size)
                have cJ := HJ.out w5 hB5
                clear hb5 cG
                go_wp2_with fail
                refine cJ.mono ?_
                rintro e w6 ⟨rfl, hb6⟩
                have hB6 := below_step hB5 hb6
                have cR := HRr.out w6 hB6
                clear hb6 cJ hB5
                go_wp2_with fail
                refine cR.mono ?_
                rintro e w7 ⟨rfl, hb7⟩
                have hB7 := below_step hB6 hb7
                have cP := HPp.out w7 hB7
                clear hb7 cR hB6
                go_wp2_with fail
                refine cP.mono ?_
                rintro e w8 ⟨rfl, hb8⟩
                have HB8 := Lib.hid (below_step hB7 hb8)
                clear hb8 cP hB7
                go_wp2
                go_ret
                exact ⟨rfl, HB8.out⟩
end Go.Proofs.YtfmjhamnpgcdcaaDoor
