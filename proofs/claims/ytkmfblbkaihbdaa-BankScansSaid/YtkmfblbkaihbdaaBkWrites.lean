/-
  The law BankWrites.
-/
import Derived.Test.YtkmfblbkaihbdaaBkWrKit
namespace Go.Proofs.Ytkmfblbkaihbdaa
open Go.RowKit Go.Sort
set_option linter.unusedVariables false

theorem WrX.small {B b F k i A : Nat} {rs : List ByteArray} {W : World} (h : WrX B b F k i rs A W) (hk : k ≤ 39) : A ≤ 40 ∧ rs.length ≤ i := by
  obtain ⟨st, h⟩ := h
  refine ⟨?_, h.few⟩
  by_cases h1 : 1 ≤ k
  · have := h.room h1; omega
  · have h2 := h.none (by omega)
    have := h.at_
    rw [h2] at this
    rw [this]
    decide
theorem strs_owned {w : World} {B : Nat} {v : Value} {rs : List ByteArray} (h : w.ownsRow B 9 1 v rs.length (rs.map Value.string)) : StrsIs w v rs := by
  have h1 := strs_of_owns (L := recs rs) (by
    have e1 : (recs rs).length = rs.length := by unfold recs bytesL; rw [List.length_map]
    have e2 : frV (recs rs) = rs.map Value.string := by
      unfold frV recs bytesL
      rw [List.map_map]
      rfl
    rw [e1, e2]
    exact h)
  rw [show (recs rs).map (fun f => (⟨f.toArray⟩ : ByteArray)) = rs by
    unfold recs bytesL
    rw [List.map_map]
    exact (List.map_congr_left fun s _ => rfl).trans (List.map_id _)] at h1
  exact h1
theorem off_grown {w w' : World} {B n : Nat} {v : Value} {xs : List Value} (hown : w.ownsRow B 9 1 v n xs) (hg : w.grownBy w' v.ownBlock) : Off [9] w w' :=
  (Off.refl _ w).grown hg (fun j hj => own_type hown hj (by simp))
set_option maxHeartbeats 16000000 in
set_option maxRecDepth 100000 in
theorem writes7_walk (x y : Int) (v : Value) (l : List ByteArray) (hx0 : 0 ≤ x) (hx1 : x ≤ 255) (hy0 : 0 ≤ y) (hy1 : y ≤ 255) (w : World) (hv : StrsIs w v l) (hl : l.length ≤ 9223372036854775807) :
    Calls Try.prog 4 #[.int .u8 x, .int .u8 y, v] w fun e w' => e = .returned (.bool true) ∧ Below w.heap.size w w' := by
  obtain ⟨i0, hi0, hz0, hz1, hz2⟩ := info_parts Try.infoStr7
  obtain ⟨X, rfl⟩ : ∃ X : Nat, x = X := ⟨x.toNat, by omega⟩
  obtain ⟨Y, rfl⟩ : ∃ Y : Nat, y = Y := ⟨y.toNat, by omega⟩
  obtain ⟨F, hF⟩ : ∃ F, X % 9 = F := ⟨_, rfl⟩
  have hF1 : (X : Int) % 9 = (F : Int) := by omega
  have hF2 : (X : Int).tmod 9 = (F : Int) := by rw [Int.tmod_eq_emod_of_nonneg (by omega)]; exact hF1
  have hF9 : F < 9 := by omega
  obtain ⟨k, hk⟩ : ∃ k, Y % 40 = k := ⟨_, rfl⟩
  have hk1 : (Y : Int) % 40 = (k : Int) := by omega
  have hk2 : (Y : Int).tmod 40 = (k : Int) := by rw [Int.tmod_eq_emod_of_nonneg (by omega)]; exact hk1
  have hk40 : k ≤ 39 := by omega
  have hFw : IntKind.i64.wrap (F : Int) = (F : Int) := by rw [IntKind.wrap_i64]; omega
  have hkw : IntKind.i64.wrap (k : Int) = (k : Int) := by rw [IntKind.wrap_i64]; omega
  obtain ⟨n, hn⟩ : ∃ n, F + k = n := ⟨_, rfl⟩
  have hFk : IntKind.i64.wrap ((F : Int) + (k : Int)) = (n : Int) := by rw [IntKind.wrap_i64]; omega
  have cA := awake7_c
  have cN := wr_new n F k hn.symm (by omega)
  clear hF hk hx0 hx1 hy0 hy1
  obtain ⟨av, cv, rfl⟩ := hv.len
  obtain ⟨L, hL⟩ : ∃ L, l.length = L := ⟨_, rfl⟩
  rw [hL] at hl hv ⊢
  have HL := Lib.hid hL
  have HV := Lib.hid hv
  clear hL hv
  by_cases h12 : 12 < L
  · have h12z : (12 : Int) < (L : Int) := by omega
    go_enter Try.func4, Try.ntmps4
    go_wp2_with fail
    refine (cA _).mono ?_
    rintro e w1 ⟨rfl, hb1⟩
    have HB1 := Lib.hid hb1
    clear hb1
    go_wp2_with fail
    refine (cA _).mono ?_
    rintro e w2 ⟨rfl, hb2⟩
    have HB2 : Hid (Below w.heap.size w w2) := Lib.hid (HB1.out.trans (hb2.mono HB1.out.size))
    clear hb2
    go_wp2
    go_ret
    exact ⟨rfl, HB2.out⟩
  · have h12z : ¬ ((12 : Int) < (L : Int)) := by omega
    go_enter Try.func4, Try.ntmps4
    go_wp2_with fail
    refine (cA _).mono ?_
    rintro e w1 ⟨rfl, hb1⟩
    have HB1 := Lib.hid hb1
    clear hb1 cA
    go_wp2_with fail
    refine (cN _).mono ?_
    rintro e w2 ⟨b, rfl, hd2, hb2⟩
    have HB2 : Hid (Below w.heap.size w w2) := Lib.hid (HB1.out.trans (hb2.mono HB1.out.size))
    have HD2 := Lib.hid (hd2.base HB1.out.size)
    clear hb2 hd2 cN
    go_wp2
    go_loopw [11, 9, 10] (fun iv av ov wr => ∃ (i A : Nat) (rs : List ByteArray), iv = .int .i64 i ∧ av = .int .i64 A ∧ i ≤ L ∧ WrX w.heap.size b F k i rs A wr ∧ (∃ o, o = ov ∧ wr.ownsRow w.heap.size 9 1 o rs.length (rs.map Value.string)) ∧ Below w.heap.size w wr) (fun iv _ _ _ => L - (intOf iv).toNat)
    case atStart => exact ⟨0, 1, [], rfl, rfl, by omega, HD2.out, ⟨_, rfl, rfl, Or.inl ⟨rfl, rfl⟩⟩, HB2.out⟩
    case round =>
      obtain ⟨i, A, rs, rfl, rfl, hi, hd, ⟨ov, rfl, hown⟩, hb⟩ := hrel
      obtain ⟨hA40, hrs⟩ := hd.small hk40
      have HD := Lib.hid hd
      have HO := Lib.hid hown
      have HB := Lib.hid hb
      clear hd hown hb
      by_cases hiL : i < L
      · have hiz : (i : Int) < (L : Int) := by omega
        obtain ⟨s, hs⟩ : ∃ s, l[i]? = some s := ⟨_, List.getElem?_eq_getElem (by rw [HL.out]; exact hiL)⟩
        obtain ⟨g1, o1, e9, hg1, k9⟩ := HV.out.at hs
        subst e9
        have HC : Hid (∀ W, Below w.heap.size w W → W.cell? ⟨g1, o1 + i, none⟩ = some (.string s)) := Lib.hid (fun W hW => by rw [hW.cell (p := ⟨g1, o1 + i, none⟩) hg1]; exact k9)
        have c0 := HC.out wr HB.out
        obtain ⟨z, hz⟩ : ∃ z, s.size = z := ⟨_, rfl⟩
        have HZ := Lib.hid hz
        clear hs k9
        by_cases hz4 : 400 < z
        · have hz4z : (400 : Int) < (z : Int) := by omega
          go_wp2
          go_ret
          exact ⟨rfl, HB.out⟩
        · have hz4z : ¬ ((400 : Int) < (z : Int)) := by omega
          have cC := cut7_c s wr (by omega)
          unfold CutPost at cC
          have hcl : (cutB s.data.toList).length = (z + 61) / 62 := by rw [cutB_length, Array.length_toList]; show (s.size + 61) / 62 = _; rw [hz]
          obtain ⟨kf, hkf⟩ : ∃ kf, (z + 61) / 62 = kf := ⟨_, rfl⟩
          have cF := fun W => frames_n (z : Int) W (by omega)
          rw [framesI_nat, hkf] at cF
          rw [hkf] at hcl
          have HKF : Hid ((s.size + 61) / 62 = kf) := Lib.hid (by rw [hz]; exact hkf)
          have hAk : IntKind.i64.wrap ((A : Int) + (kf : Int)) = (A : Int) + (kf : Int) := by rw [IntKind.wrap_i64]; omega
          have hkf7 : kf ≤ 7 := by omega
          have hAk2 : ((A + kf : Nat) : Int) = (A : Int) + (kf : Int) := by omega
          have HCL := Lib.hid hcl
          clear hcl hkf
          by_cases ck : k < 1
          · skip
            have ckz : (k : Int) < 1 := by omega
            have hask : askW k A s = 1 := by unfold askW; rw [HKF.out, HZ.out]; rw [if_pos ck]
            have HW : Hid (∀ W, WrX w.heap.size b F k i rs A W → Calls Try.prog 13 #[.pointer (some ⟨b, 0, none⟩), .int .i64 F, .int .i64 k, .int .i64 A, .string s] W fun e w' => e = .returned (.tuple #[.int .i64 0, .int .i64 1]) ∧ Below W.heap.size W w') := Lib.hid (fun W h => wr_no h s (by rw [HZ.out]; omega) 1 hask (by decide))
            clear ck hask
            go_wp2_with fail
            refine cC.mono ?_
            rintro e w3 ⟨vc, rfl, hcown, hb3⟩
            have hcs := (strs_of_owns hcown).len
            rw [List.length_map, HCL.out] at hcs
            obtain ⟨ca, cc, rfl⟩ := hcs
            have HB3 : Hid (Below w.heap.size w w3) := Lib.hid (HB.out.trans (hb3.mono HB.out.size))
            have HD3 := Lib.hid (HD.out.below hb3)
            have HO3 := Lib.hid (HO.out.kept (grown_of_belowB hb3 none) (by cases h : ov.ownBlock with | none => exact Or.inl rfl | some x => exact Or.inr (by simp)))
            have c3 := HC.out w3 HB3.out
            clear hcown hb3 c0 cC
            go_wp2_with fail
            refine (HW.out _ HD3.out).mono ?_
            rintro e w4 ⟨rfl, hb4⟩
            have HB4 : Hid (Below w.heap.size w w4) := Lib.hid (HB3.out.trans (hb4.mono HB3.out.size))
            have HD4 := Lib.hid (HD3.out.below hb4)
            have HO4 := Lib.hid (HO3.out.kept (grown_of_belowB hb4 none) (by cases h : ov.ownBlock with | none => exact Or.inl rfl | some x => exact Or.inr (by simp)))
            have c4 := HC.out w4 HB4.out
            clear hb4 c3
            go_wp2_with fail
            refine (cF _).mono ?_
            rintro e w5 ⟨rfl, rfl⟩
            go_wp2
            go_roundw
            case rel => exact ⟨i + 1, A, rs, by first | rfl | go_num, rfl, by omega, HD4.out.next, ⟨_, rfl, HO4.out⟩, HB4.out⟩
            case measure => simp [intOf]; omega
          · have ckz : ¬ ((k : Int) < 1) := by omega
            by_cases c0z : z = 0
            · skip
              have hse : s = ⟨#[]⟩ := by
                cases s with
                | mk d => congr 1; exact Array.eq_empty_of_size_eq_zero (by have h9 := HZ.out; rw [c0z] at h9; exact h9)
              have hask : askW k A s = 4 := by unfold askW; rw [HKF.out, HZ.out]; rw [if_neg ck, if_pos c0z]
              have HW : Hid (∀ W, WrX w.heap.size b F k i rs A W → Calls Try.prog 13 #[.pointer (some ⟨b, 0, none⟩), .int .i64 F, .int .i64 k, .int .i64 A, .string s] W fun e w' => e = .returned (.tuple #[.int .i64 0, .int .i64 4]) ∧ Below W.heap.size W w') := Lib.hid (fun W h => wr_no h s (by rw [HZ.out]; omega) 4 hask (by decide))
              subst hse
              subst c0z
              clear hask
              go_wp2_with fail
              refine cC.mono ?_
              rintro e w3 ⟨vc, rfl, hcown, hb3⟩
              have hcs := (strs_of_owns hcown).len
              rw [List.length_map, HCL.out] at hcs
              obtain ⟨ca, cc, rfl⟩ := hcs
              have HB3 : Hid (Below w.heap.size w w3) := Lib.hid (HB.out.trans (hb3.mono HB.out.size))
              have HD3 := Lib.hid (HD.out.below hb3)
              have HO3 := Lib.hid (HO.out.kept (grown_of_belowB hb3 none) (by cases h : ov.ownBlock with | none => exact Or.inl rfl | some x => exact Or.inr (by simp)))
              have c3 := HC.out w3 HB3.out
              clear hcown hb3 c0 cC
              go_wp2_with fail
              refine (HW.out _ HD3.out).mono ?_
              rintro e w4 ⟨rfl, hb4⟩
              have HB4 : Hid (Below w.heap.size w w4) := Lib.hid (HB3.out.trans (hb4.mono HB3.out.size))
              have HD4 := Lib.hid (HD3.out.below hb4)
              have HO4 := Lib.hid (HO3.out.kept (grown_of_belowB hb4 none) (by cases h : ov.ownBlock with | none => exact Or.inl rfl | some x => exact Or.inr (by simp)))
              have c4 := HC.out w4 HB4.out
              clear hb4 c3
              go_wp2_with fail
              refine (cF _).mono ?_
              rintro e w5 ⟨rfl, rfl⟩
              go_wp2
              go_roundw
              case rel => exact ⟨i + 1, A, rs, by first | rfl | go_num, rfl, by omega, HD4.out.next, ⟨_, rfl, HO4.out⟩, HB4.out⟩
              case measure => simp [intOf]; omega
            · have hne := toList_ne (x := s) (y := ⟨#[]⟩) (fun e => c0z (by rw [← HZ.out, e]; rfl))
              have hne2 : (s.toList == []) = false := by
                rw [ByteArray.toList_eq, beq_eq_false_iff_ne]
                exact size_nil (by rw [HZ.out]; exact c0z)
              by_cases c11 : k < A + kf
              · skip
                have c11z : (k : Int) < (A : Int) + (kf : Int) := by omega
                have hask : askW k A s = 11 := by unfold askW; rw [HKF.out, HZ.out]; rw [if_neg ck, if_neg c0z, if_pos c11]
                have HW : Hid (∀ W, WrX w.heap.size b F k i rs A W → Calls Try.prog 13 #[.pointer (some ⟨b, 0, none⟩), .int .i64 F, .int .i64 k, .int .i64 A, .string s] W fun e w' => e = .returned (.tuple #[.int .i64 0, .int .i64 11]) ∧ Below W.heap.size W w') := Lib.hid (fun W h => wr_no h s (by rw [HZ.out]; omega) 11 hask (by decide))
                clear hask
                go_wp2_with fail
                refine cC.mono ?_
                rintro e w3 ⟨vc, rfl, hcown, hb3⟩
                have hcs := (strs_of_owns hcown).len
                rw [List.length_map, HCL.out] at hcs
                obtain ⟨ca, cc, rfl⟩ := hcs
                have HB3 : Hid (Below w.heap.size w w3) := Lib.hid (HB.out.trans (hb3.mono HB.out.size))
                have HD3 := Lib.hid (HD.out.below hb3)
                have HO3 := Lib.hid (HO.out.kept (grown_of_belowB hb3 none) (by cases h : ov.ownBlock with | none => exact Or.inl rfl | some x => exact Or.inr (by simp)))
                have c3 := HC.out w3 HB3.out
                clear hcown hb3 c0 cC
                go_wp2_with fail
                refine (HW.out _ HD3.out).mono ?_
                rintro e w4 ⟨rfl, hb4⟩
                have HB4 : Hid (Below w.heap.size w w4) := Lib.hid (HB3.out.trans (hb4.mono HB3.out.size))
                have HD4 := Lib.hid (HD3.out.below hb4)
                have HO4 := Lib.hid (HO3.out.kept (grown_of_belowB hb4 none) (by cases h : ov.ownBlock with | none => exact Or.inl rfl | some x => exact Or.inr (by simp)))
                have c4 := HC.out w4 HB4.out
                clear hb4 c3
                go_wp2_with fail
                refine (cF _).mono ?_
                rintro e w5 ⟨rfl, rfl⟩
                go_wp2
                go_roundw
                case rel => exact ⟨i + 1, A, rs, by first | rfl | go_num, rfl, by omega, HD4.out.next, ⟨_, rfl, HO4.out⟩, HB4.out⟩
                case measure => simp [intOf]; omega
              · skip
                have c11z : ¬ ((k : Int) < (A : Int) + (kf : Int)) := by omega
                have hask : askW k A s = 0 := by unfold askW; rw [HKF.out, HZ.out]; rw [if_neg ck, if_neg c0z, if_neg c11]
                have HW : Hid (∀ W, WrX w.heap.size b F k i rs A W → w.heap.size ≤ W.heap.size → Calls Try.prog 13 #[.pointer (some ⟨b, 0, none⟩), .int .i64 F, .int .i64 k, .int .i64 A, .string s] W fun e w' => e = .returned (.tuple #[.int .i64 ((A : Int) + (kf : Int)), .int .i64 0]) ∧ WrX w.heap.size b F k (i + 1) (rs ++ [s]) (A + kf) w' ∧ Below w.heap.size W w' ∧ Off devTs W w') := Lib.hid (fun W h hB => by
                  have h1 := wr_ok h s (by rw [HZ.out]; omega) (by omega) hask hB
                  rw [HKF.out, hAk2] at h1
                  exact h1)
                clear hask
                go_wp2_with fail
                refine cC.mono ?_
                rintro e w3 ⟨vc, rfl, hcown, hb3⟩
                have hcs := (strs_of_owns hcown).len
                rw [List.length_map, HCL.out] at hcs
                obtain ⟨ca, cc, rfl⟩ := hcs
                have HB3 : Hid (Below w.heap.size w w3) := Lib.hid (HB.out.trans (hb3.mono HB.out.size))
                have HD3 := Lib.hid (HD.out.below hb3)
                have HO3 := Lib.hid (HO.out.kept (grown_of_belowB hb3 none) (by cases h : ov.ownBlock with | none => exact Or.inl rfl | some x => exact Or.inr (by simp)))
                have c3 := HC.out w3 HB3.out
                clear hcown hb3 c0 cC
                go_wp2_with fail
                refine (HW.out _ HD3.out HB3.out.size).mono ?_
                rintro e w4 ⟨rfl, hd4, hb4, ho4⟩
                have HB4 : Hid (Below w.heap.size w w4) := Lib.hid (HB3.out.trans hb4)
                have HD4 := Lib.hid hd4
                have HO4 := Lib.hid (own_off HO3.out (by decide) ho4)
                have c4 := HC.out w4 HB4.out
                clear hb4 hd4 ho4 c3
                go_wp2_with fail
                refine (cF _).mono ?_
                rintro e w5 ⟨rfl, rfl⟩
                have HA5 : Hid ((w4.alloc (.cells #[.string s] 9)).ownsRow w.heap.size 9 1 ov rs.length (rs.map Value.string)) := Lib.hid (HO4.out.alloc _)
                go_wp2_with (at_builtin; refine wpList_append_own _ rfl _ _ 25 rfl w.heap.size 9 i0 (.string ⟨#[]⟩) 1 16 Try.underlying25 hi0 hz0 hz1 hz2 rfl (by decide) _ _ _ rfl HA5.out ⟨w4.heap.size, 0, none⟩ 1 1 [.string s] rfl rfl ?c1 ?c2 ?c3 ?c4 ?c5 ?_)
                case c1 =>
                  intro j u hj
                  match j, hj with
                  | 0, hj => simp at hj; subst hj; simp [Addr.add]
                case c2 => intro u hu; simp at hu; subst hu; rfl
                case c3 => unfold maxLen; omega
                case c4 => omega
                case c5 => have h1 := HB4.out.size; simp; omega
                intro v' w6 hown' hgrow _
                have HO6 := Lib.hid hown'
                have HB6 : Hid (Below w.heap.size w w6) := Lib.hid ((HB4.out.alloc HB4.out.size _).grown hgrow (by have := HB4.out.size; simp; omega) (fun j hj => (HO4.out.lt j hj).1))
                have HD6 := Lib.hid (HD4.out.off (((Off.refl [9] w4).alloc _).trans (off_grown HA5.out hgrow)) (by decide) (by decide) (by decide))
                clear hown' hgrow c4
                go_wp2
                go_roundw
                case rel => exact ⟨i + 1, A + kf, rs ++ [s], by first | rfl | go_num, by rw [hAk2], by omega, HD6.out, ⟨_, rfl, by simpa using HO6.out⟩, HB6.out⟩
                case measure => simp [intOf]; omega
      · have hiz : ¬ ((i : Int) < (L : Int)) := by omega
        by_cases ck : k < 1
        · have ck0 : k = 0 := by omega
          have ckz : (k : Int) < 1 := by omega
          have cS := wr_scan_no HD.out ck0
          clear ck ck0
          go_wp2_with fail
          refine cS.mono ?_
          rintro e w3 ⟨rfl, hb3⟩
          have HB3 : Hid (Below w.heap.size w w3) := Lib.hid (HB.out.trans (hb3.mono HB.out.size))
          clear hb3 cS
          go_wp2
          go_ret
          exact ⟨rfl, HB3.out⟩
        · have ckz : ¬ ((k : Int) < 1) := by omega
          have cS := wr_scan HD.out (by omega)
          have HWS := Lib.hid (strs_owned HO.out)
          go_wp2_with fail
          refine cS.mono ?_
          rintro e w3 ⟨u, rfl, hu, hb3⟩
          have HB3 : Hid (Below w.heap.size w w3) := Lib.hid (HB.out.trans (hb3.mono HB.out.size))
          have HU := Lib.hid hu
          have HW3 := Lib.hid (HWS.out.kept hb3)
          clear hb3 hu cS
          go_wp2_with fail
          refine (same_c _ _ rs rs _ HU.out HW3.out (by omega) (by omega) true ⟨fun _ => rfl, fun _ => rfl⟩).mono ?_
          rintro e w4 ⟨rfl, hb4⟩
          have HB4 : Hid (Below w.heap.size w w4) := Lib.hid (HB3.out.trans (hb4.mono HB3.out.size))
          clear hb4
          go_wp2
          go_ret
          exact ⟨rfl, HB4.out⟩
end Go.Proofs.Ytkmfblbkaihbdaa
