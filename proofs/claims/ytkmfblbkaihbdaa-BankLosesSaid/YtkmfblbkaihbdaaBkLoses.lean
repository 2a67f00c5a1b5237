/-
  The law BankLoses.
-/
import Derived.Test.YtkmfblbkaihbdaaBkLoKit
import Derived.Test.YtkmfblbkaihbdaaBkWrites
namespace Go.Proofs.Ytkmfblbkaihbdaa
open Go.RowKit Go.Sort
set_option linter.unusedVariables false

theorem owned_len {w : World} {B n : Nat} {v : Value} {rs : List ByteArray} (h : w.ownsRow B 9 1 v n (rs.map Value.string)) (hn : rs.length = n) : StrsIs w v rs := by
  subst hn
  exact strs_owned h
/-- A beginning of a list of its own. -/
theorem owned_take {w : World} {B n k : Nat} {v : Value} {rs : List ByteArray} (h : w.ownsRow B 9 1 v n (rs.map Value.string)) (hn : rs.length = n) (hk : k ≤ n) : (v = .slice none 0 0 ∧ n = 0) ∨ ∃ g cap, v = .slice (some ⟨g, 0, none⟩) n cap ∧ n ≤ cap ∧ StrsIs w (.slice (some ⟨g, 0, none⟩) k cap) (rs.take k) := by
  have h1 := owned_len h hn
  rcases h.2 with ⟨hv, h0⟩ | ⟨g, cap, cur, hv, hg, hb, hc, r⟩
  · exact Or.inl ⟨hv, h0⟩
  · refine Or.inr ⟨g, cap, hv, hc, ?_⟩
    have hl : (rs.take k).length = k := by rw [List.length_take]; omega
    refine Or.inr ⟨g, 0, cap, lt_of_get hb, by rw [hl], fun j s hj => ?_⟩
    rw [List.getElem?_take] at hj
    split at hj
    case isFalse => cases hj
    rw [hv] at h1
    obtain ⟨g', o', e, _, hcell⟩ := h1.at hj
    injection e with e
    injection e with e1 e2
    subst e1 e2
    exact hcell
set_option maxHeartbeats 16000000 in
set_option maxRecDepth 100000 in
theorem loses7_walk (v1 v2 v3 : Value) (l1 l2 : List ByteArray) (l3 : List Int) (w : World) (hv1 : StrsIs w v1 l1) (hv2 : StrsIs w v2 l2) (hv3 : NumsIs w v3 l3) (hl1 : l1.length ≤ 9223372036854775807) (hl2 : l2.length ≤ 9223372036854775807) (hl3 : l3.length ≤ 9223372036854775807)
    (hz1 : ∀ s ∈ l1, s.size ≤ 9223372036854775807) (hz2 : ∀ s ∈ l2, s.size ≤ 9223372036854775807) :
    Calls Try.prog 6 #[v1, v2, v3] w fun e w' => e = .returned (.bool true) ∧ Below w.heap.size w w' := by
  obtain ⟨i0, hi0, hq0, hq1, hq2⟩ := info_parts Try.infoStr7
  have cA := awake7_c
  have cN := lo_new
  obtain ⟨a1, c1, rfl⟩ := hv1.len
  obtain ⟨a2, c2, rfl⟩ := hv2.len
  obtain ⟨a3, c3, rfl⟩ := hv3.len
  obtain ⟨m, hm⟩ : ∃ m, l1.length = m := ⟨_, rfl⟩
  obtain ⟨n, hn⟩ : ∃ n, l2.length = n := ⟨_, rfl⟩
  obtain ⟨q, hq⟩ : ∃ q, l3.length = q := ⟨_, rfl⟩
  rw [hm] at hl1 hv1 ⊢
  rw [hn] at hl2 hv2 ⊢
  rw [hq] at hl3 hv3 ⊢
  have HM := Lib.hid hm
  have HN := Lib.hid hn
  have HQ := Lib.hid hq
  have HV1 := Lib.hid hv1
  have HV2 := Lib.hid hv2
  have HV3 := Lib.hid hv3
  have HZ1 := Lib.hid hz1
  have HZ2 := Lib.hid hz2
  clear hm hn hq hv1 hv2 hv3 hz1 hz2
  by_cases g1 : 8 < m
  · have g1z : (8 : Int) < (m : Int) := by omega
    go_enter Try.func6, Try.ntmps6
    go_wp2_with fail
    refine (cA _).mono ?_
    rintro e w1 ⟨rfl, hb1⟩
    have HB1 := Lib.hid hb1
    clear hb1
    go_wp2_with fail
    refine (cA _).mono ?_
    rintro e w2 ⟨rfl, hb2⟩
    have HB2 : Hid (Below w.heap.size w w2) := Lib.hid (HB1.out.trans (hb2.mono HB1.out.size))
    clear hb2
    go_wp2
    go_ret
    exact ⟨rfl, HB2.out⟩
  · have g1z : ¬ ((8 : Int) < (m : Int)) := by omega
    have g1d : decide ((8 : Int) < (m : Int)) = false := decide_eq_false g1z
    by_cases g2 : 8 < n
    · have g2z : (8 : Int) < (n : Int) := by omega
      go_enter Try.func6, Try.ntmps6
      go_wp2_with fail
      refine (cA _).mono ?_
      rintro e w1 ⟨rfl, hb1⟩
      have HB1 := Lib.hid hb1
      clear hb1
      go_wp2_with fail
      refine (cA _).mono ?_
      rintro e w2 ⟨rfl, hb2⟩
      have HB2 : Hid (Below w.heap.size w w2) := Lib.hid (HB1.out.trans (hb2.mono HB1.out.size))
      clear hb2
      go_wp2
      go_ret
      exact ⟨rfl, HB2.out⟩
    · have g2z : ¬ ((8 : Int) < (n : Int)) := by omega
      have g2d : decide ((8 : Int) < (n : Int)) = false := decide_eq_false g2z
      by_cases g3 : 60 < q
      · have g3z : (60 : Int) < (q : Int) := by omega
        go_enter Try.func6, Try.ntmps6
        go_wp2_with fail
        refine (cA _).mono ?_
        rintro e w1 ⟨rfl, hb1⟩
        have HB1 := Lib.hid hb1
        clear hb1
        go_wp2_with fail
        refine (cA _).mono ?_
        rintro e w2 ⟨rfl, hb2⟩
        have HB2 : Hid (Below w.heap.size w w2) := Lib.hid (HB1.out.trans (hb2.mono HB1.out.size))
        clear hb2
        go_wp2
        go_ret
        exact ⟨rfl, HB2.out⟩
      · skip
        have g3z : ¬ ((60 : Int) < (q : Int)) := by omega
        have g3d : decide ((60 : Int) < (q : Int)) = false := decide_eq_false g3z
        obtain ⟨T, hT⟩ : ∃ T, m + n = T := ⟨_, rfl⟩
        have hmn : IntKind.i64.wrap ((m : Int) + (n : Int)) = (T : Int) := by rw [IntKind.wrap_i64]; omega
        have HT := Lib.hid hT
        have hT16 : T ≤ 16 := by omega
        clear hT
        go_enter Try.func6, Try.ntmps6
        go_wp2_with fail
        refine (cA _).mono ?_
        rintro e w1 ⟨rfl, hb1⟩
        have HB1 := Lib.hid hb1
        clear hb1 cA
        go_wp2_with fail
        refine (cN _).mono ?_
        rintro e w2 ⟨b, rfl, hd2, hb2⟩
        have HB2 : Hid (Below w.heap.size w w2) := Lib.hid (HB1.out.trans (hb2.mono HB1.out.size))
        have HD2 := Lib.hid (hd2.base HB1.out.size)
        clear hb2 hd2 cN
        go_wp2
        go_loopw [11, 8, 9, 10] (fun iv av ov fv wr => ∃ (i A N N1 : Nat) (r1 r2 al : List ByteArray), iv = .int .i64 i ∧ av = .int .i64 A ∧ fv = .int .i64 N1 ∧ i ≤ T ∧ LoX w.heap.size b r1 r2 A wr ∧ (r1 ++ r2 = al ∧ al.length = N ∧ r1.length = N1) ∧ (∃ o, o = ov ∧ wr.ownsRow w.heap.size 9 1 o N (al.map Value.string)) ∧ Below w.heap.size w wr) (fun iv _ _ _ _ => T - (intOf iv).toNat)
        case atStart => exact ⟨0, 1, 0, 0, [], [], [], rfl, rfl, rfl, by omega, HD2.out, ⟨rfl, rfl, rfl⟩, ⟨_, rfl, rfl, Or.inl ⟨rfl, rfl⟩⟩, HB2.out⟩
        case round =>
          obtain ⟨i, A, N, N1, r1, r2, al, rfl, rfl, rfl, hi, hd, heq, ⟨ov, rfl, hown⟩, hb⟩ := hrel
          obtain ⟨hA1, hA80, hal⟩ := hd.nums
          rw [heq.1, heq.2.1] at hal
          have HEQ := Lib.hid heq
          have HD := Lib.hid hd
          have HO := Lib.hid hown
          have HB := Lib.hid hb
          obtain ⟨oa, oc, rfl⟩ := (owned_len hown heq.2.1).len
          rw [heq.2.1] at HO ⊢
          clear hd hown hb heq
          by_cases hiT : i < T
          · have hiz : (i : Int) < (T : Int) := by omega
            by_cases him : i < m
            · have himz : (i : Int) < (m : Int) := by omega
              have hie : ((i : Int) == (m : Int)) = false := by rw [beq_eq_false_iff_ne]; omega
              obtain ⟨s, hs⟩ : ∃ s, l1[i]? = some s := ⟨_, List.getElem?_eq_getElem (by rw [HM.out]; exact him)⟩
              obtain ⟨g1, o1, e9, hg1, k9⟩ := HV1.out.at hs
              subst e9
              have HS : Hid (s.size ≤ 9223372036854775807) := Lib.hid (HZ1.out s (List.mem_of_getElem? hs))
              have HC : Hid (∀ W, Below w.heap.size w W → W.cell? ⟨g1, o1 + i, none⟩ = some (.string s)) := Lib.hid (fun W hW => by rw [hW.cell (p := ⟨g1, o1 + i, none⟩) hg1]; exact k9)
              have c0 := HC.out wr HB.out
              clear hs k9
              obtain ⟨kf, hkf⟩ : ∃ kf, (s.size + 61) / 62 = kf := ⟨_, rfl⟩
              obtain ⟨ek, hek⟩ : ∃ ek, askL A s = ek := ⟨_, rfl⟩
              by_cases hne : ek = 0
              · rw [hne] at hek
                clear hne
                have hkf9 : kf ≤ 80 := by
                  have h9 := hek
                  unfold askL at h9
                  split at h9
                  · cases h9
                  · split at h9
                    · cases h9
                    · omega
                have hAk2 : ((A + kf : Nat) : Int) = (A : Int) + (kf : Int) := by omega
                have HW : Hid (∀ W, LoX w.heap.size b r1 r2 A W → w.heap.size ≤ W.heap.size → Calls Try.prog 13 #[.pointer (some ⟨b, 0, none⟩), .int .i64 0, .int .i64 80, .int .i64 A, .string s] W fun e w' => e = .returned (.tuple #[.int .i64 ((A : Int) + (kf : Int)), .int .i64 0]) ∧ LoX w.heap.size b r1 (r2 ++ [s]) (A + kf) w' ∧ Below w.heap.size W w' ∧ Off devTs W w') := Lib.hid (fun W h hB => by
                  have h1 := lo_ok h s hek hB
                  rw [hkf, hAk2] at h1
                  exact h1)
                clear hek hkf
                go_wp2_with fail
                refine (HW.out _ HD.out HB.out.size).mono ?_
                rintro e w4 ⟨rfl, hd4, hb4, ho4⟩
                have HB4 : Hid (Below w.heap.size w w4) := Lib.hid (HB.out.trans hb4)
                have HD4 := Lib.hid hd4
                have HO4 := Lib.hid (own_off HO.out (by decide) ho4)
                clear hb4 hd4 ho4
                have HA5 : Hid ((w4.alloc (.cells #[.string s] 9)).ownsRow w.heap.size 9 1 (.slice oa N oc) N (al.map Value.string)) := Lib.hid (HO4.out.alloc _)
                go_wp2_with (at_builtin; refine wpList_append_own _ rfl _ _ 25 rfl w.heap.size 9 i0 (.string ⟨#[]⟩) 1 16 Try.underlying25 hi0 hq0 hq1 hq2 rfl (by decide) _ _ _ rfl HA5.out ⟨w4.heap.size, 0, none⟩ 1 1 [.string s] rfl rfl ?c1 ?c2 ?c3 ?c4 ?c5 ?_)
                case c1 =>
                  intro j u hj
                  match j, hj with
                  | 0, hj => simp at hj; subst hj; simp [Addr.add]
                case c2 => intro u hu; simp at hu; subst hu; rfl
                case c3 => unfold maxLen; omega
                case c4 => omega
                case c5 => have h1 := HB4.out.size; simp; omega
                intro v' w6 hown' hgrow _
                have HO6 := Lib.hid hown'
                have HB6 : Hid (Below w.heap.size w w6) := Lib.hid ((HB4.out.alloc HB4.out.size _).grown hgrow (by have := HB4.out.size; simp; omega) (fun j hj => (HO4.out.lt j hj).1))
                have HD6 := Lib.hid (HD4.out.off (((Off.refl [9] w4).alloc _).trans (off_grown HA5.out hgrow)) (by decide) (by decide) (by decide))
                clear hown' hgrow
                go_wp2
                go_roundw
                case rel => exact ⟨i + 1, A + kf, N + 1, N1, r1, r2 ++ [s], al ++ [s], by first | rfl | go_num, by rw [hAk2], by first | rfl | go_num, by omega, HD6.out, ⟨by rw [← List.append_assoc, HEQ.out.1], by rw [List.length_append, HEQ.out.2.1]; rfl, HEQ.out.2.2⟩, ⟨_, rfl, by simpa using HO6.out⟩, HB6.out⟩
                case measure => simp [intOf]; omega
              · clear hkf
                have HW : Hid (∀ W, LoX w.heap.size b r1 r2 A W → Calls Try.prog 13 #[.pointer (some ⟨b, 0, none⟩), .int .i64 0, .int .i64 80, .int .i64 A, .string s] W fun e w' => e = .returned (.tuple #[.int .i64 0, .int .i64 ek]) ∧ Below W.heap.size W w') := Lib.hid (fun W h => by
                  have h1 := lo_no h s HS.out (by rw [hek]; exact hne)
                  rw [hek] at h1
                  exact h1)
                have hnz : (ek == 0) = false := by simpa using hne
                clear hek hne
                go_wp2_with fail
                refine (HW.out _ HD.out).mono ?_
                rintro e w4 ⟨rfl, hb4⟩
                have HB4 : Hid (Below w.heap.size w w4) := Lib.hid (HB.out.trans (hb4.mono HB.out.size))
                have HD4 := Lib.hid (HD.out.below hb4)
                have HO4 := Lib.hid (HO.out.kept (grown_of_belowB hb4 none) (by cases h : (Value.slice oa N oc).ownBlock with | none => exact Or.inl rfl | some x => exact Or.inr (by simp)))
                clear hb4
                go_wp2
                go_roundw
                case rel => exact ⟨i + 1, A, N, N1, r1, r2, al, by first | rfl | go_num, rfl, rfl, by omega, HD4.out, ⟨HEQ.out.1, HEQ.out.2.1, HEQ.out.2.2⟩, ⟨_, rfl, HO4.out⟩, HB4.out⟩
                case measure => simp [intOf]; omega
            · have himz : ¬ ((i : Int) < (m : Int)) := by omega
              by_cases him2 : i = m
              · subst him2
                have hn1 : 1 ≤ n := by have := HT.out; omega
                have hnz1 : (0 : Int) < (n : Int) := by omega
                obtain ⟨s, hs⟩ : ∃ s, l2[0]? = some s := ⟨_, List.getElem?_eq_getElem (by rw [HN.out]; exact hn1)⟩
                obtain ⟨g2, o2, e9, hg2, k9⟩ := HV2.out.at hs
                subst e9
                have HS : Hid (s.size ≤ 9223372036854775807) := Lib.hid (HZ2.out s (List.mem_of_getElem? hs))
                have HC : Hid (∀ W, Below w.heap.size w W → W.cell? ⟨g2, o2 + 0, none⟩ = some (.string s)) := Lib.hid (fun W hW => by rw [hW.cell (p := ⟨g2, o2 + 0, none⟩) hg2]; exact k9)
                have HCB : Hid (∀ W, Below w.heap.size w W → W.cell? ⟨g2, o2, none⟩ = some (.string s)) := Lib.hid (fun W hW => by have := HC.out W hW; rwa [Nat.add_zero] at this)
                have c9 := HC.out wr HB.out
                have c9b := HCB.out wr HB.out
                clear hs k9
                obtain ⟨kf, hkf⟩ : ∃ kf, (s.size + 61) / 62 = kf := ⟨_, rfl⟩
                obtain ⟨ek, hek⟩ : ∃ ek, askL A s = ek := ⟨_, rfl⟩
                by_cases hne : ek = 0
                · rw [hne] at hek
                  clear hne
                  have hkf9 : kf ≤ 80 := by
                    have h9 := hek
                    unfold askL at h9
                    split at h9
                    · cases h9
                    · split at h9
                      · cases h9
                      · omega
                  have hAk2 : ((A + kf : Nat) : Int) = (A : Int) + (kf : Int) := by omega
                  have HW : Hid (∀ W, LoX w.heap.size b al [] A W → w.heap.size ≤ W.heap.size → Calls Try.prog 13 #[.pointer (some ⟨b, 0, none⟩), .int .i64 0, .int .i64 80, .int .i64 A, .string s] W fun e w' => e = .returned (.tuple #[.int .i64 ((A : Int) + (kf : Int)), .int .i64 0]) ∧ LoX w.heap.size b al ([] ++ [s]) (A + kf) w' ∧ Below w.heap.size W w' ∧ Off devTs W w') := Lib.hid (fun W h hB => by
                    have h1 := lo_ok h s hek hB
                    rw [hkf, hAk2] at h1
                    exact h1)
                  clear hek hkf
                  have cFl := lo_flush HD.out HB.out.size
                  rw [HEQ.out.1] at cFl
                  go_wp2_with fail
                  refine cFl.mono ?_
                  rintro e w3 ⟨rfl, hd3, hb3, ho3⟩
                  have HB3 : Hid (Below w.heap.size w w3) := Lib.hid (HB.out.trans hb3)
                  have HD3 := Lib.hid hd3
                  have HO3 := Lib.hid (own_off HO.out (by decide) ho3)
                  have c0 := HC.out w3 HB3.out
                  have c0b := HCB.out w3 HB3.out
                  clear hd3 hb3 ho3 cFl c9 c9b
                  go_wp2_with fail
                  refine (HW.out _ HD3.out HB3.out.size).mono ?_
                  rintro e w4 ⟨rfl, hd4, hb4, ho4⟩
                  have HB4 : Hid (Below w.heap.size w w4) := Lib.hid (HB3.out.trans hb4)
                  have HD4 := Lib.hid hd4
                  have HO4 := Lib.hid (own_off HO3.out (by decide) ho4)
                  clear hb4 hd4 ho4
                  have HA5 : Hid ((w4.alloc (.cells #[.string s] 9)).ownsRow w.heap.size 9 1 (.slice oa N oc) N (al.map Value.string)) := Lib.hid (HO4.out.alloc _)
                  go_wp2_with (at_builtin; refine wpList_append_own _ rfl _ _ 25 rfl w.heap.size 9 i0 (.string ⟨#[]⟩) 1 16 Try.underlying25 hi0 hq0 hq1 hq2 rfl (by decide) _ _ _ rfl HA5.out ⟨w4.heap.size, 0, none⟩ 1 1 [.string s] rfl rfl ?c1 ?c2 ?c3 ?c4 ?c5 ?_)
                  case c1 =>
                    intro j u hj
                    match j, hj with
                    | 0, hj => simp at hj; subst hj; simp [Addr.add]
                  case c2 => intro u hu; simp at hu; subst hu; rfl
                  case c3 => unfold maxLen; omega
                  case c4 => omega
                  case c5 => have h1 := HB4.out.size; simp; omega
                  intro v' w6 hown' hgrow _
                  have HO6 := Lib.hid hown'
                  have HB6 : Hid (Below w.heap.size w w6) := Lib.hid ((HB4.out.alloc HB4.out.size _).grown hgrow (by have := HB4.out.size; simp; omega) (fun j hj => (HO4.out.lt j hj).1))
                  have HD6 := Lib.hid (HD4.out.off (((Off.refl [9] w4).alloc _).trans (off_grown HA5.out hgrow)) (by decide) (by decide) (by decide))
                  clear hown' hgrow
                  go_wp2
                  go_roundw
                  case rel => exact ⟨i + 1, A + kf, N + 1, N, al, [] ++ [s], al ++ [s], by first | rfl | go_num, by rw [hAk2], by first | rfl | go_num, by omega, HD6.out, ⟨by rw [List.nil_append], by rw [List.length_append, HEQ.out.2.1]; rfl, HEQ.out.2.1⟩, ⟨_, rfl, by simpa using HO6.out⟩, HB6.out⟩
                  case measure => simp [intOf]; omega
                · clear hkf
                  have HW : Hid (∀ W, LoX w.heap.size b al [] A W → Calls Try.prog 13 #[.pointer (some ⟨b, 0, none⟩), .int .i64 0, .int .i64 80, .int .i64 A, .string s] W fun e w' => e = .returned (.tuple #[.int .i64 0, .int .i64 ek]) ∧ Below W.heap.size W w') := Lib.hid (fun W h => by
                    have h1 := lo_no h s HS.out (by rw [hek]; exact hne)
                    rw [hek] at h1
                    exact h1)
                  have hnz : (ek == 0) = false := by simpa using hne
                  clear hek hne
                  have cFl := lo_flush HD.out HB.out.size
                  rw [HEQ.out.1] at cFl
                  go_wp2_with fail
                  refine cFl.mono ?_
                  rintro e w3 ⟨rfl, hd3, hb3, ho3⟩
                  have HB3 : Hid (Below w.heap.size w w3) := Lib.hid (HB.out.trans hb3)
                  have HD3 := Lib.hid hd3
                  have HO3 := Lib.hid (own_off HO.out (by decide) ho3)
                  have c0 := HC.out w3 HB3.out
                  have c0b := HCB.out w3 HB3.out
                  clear hd3 hb3 ho3 cFl c9 c9b
                  go_wp2_with fail
                  refine (HW.out _ HD3.out).mono ?_
                  rintro e w4 ⟨rfl, hb4⟩
                  have HB4 : Hid (Below w.heap.size w w4) := Lib.hid (HB3.out.trans (hb4.mono HB3.out.size))
                  have HD4 := Lib.hid (HD3.out.below hb4)
                  have HO4 := Lib.hid (HO3.out.kept (grown_of_belowB hb4 none) (by cases h : (Value.slice oa N oc).ownBlock with | none => exact Or.inl rfl | some x => exact Or.inr (by simp)))
                  clear hb4
                  go_wp2
                  go_roundw
                  case rel => exact ⟨i + 1, A, N, N, al, [], al, by first | rfl | go_num, rfl, rfl, by omega, HD4.out, ⟨by rw [List.append_nil], HEQ.out.2.1, HEQ.out.2.1⟩, ⟨_, rfl, HO4.out⟩, HB4.out⟩
                  case measure => simp [intOf]; omega
              · have hie : ((i : Int) == (m : Int)) = false := by rw [beq_eq_false_iff_ne]; omega
                obtain ⟨j, hj⟩ : ∃ j, i - m = j := ⟨_, rfl⟩
                have hjn : j < n := by have := HT.out; omega
                have hjz : (j : Int) < (n : Int) := by omega
                have hjw : IntKind.i64.wrap ((i : Int) - (m : Int)) = (j : Int) := by rw [IntKind.wrap_i64]; omega
                have hjs : (i : Int) - (m : Int) = (j : Int) := by omega
                obtain ⟨s, hs⟩ : ∃ s, l2[j]? = some s := ⟨_, List.getElem?_eq_getElem (by rw [HN.out]; exact hjn)⟩
                obtain ⟨g2, o2, e9, hg2, k9⟩ := HV2.out.at hs
                subst e9
                have HS : Hid (s.size ≤ 9223372036854775807) := Lib.hid (HZ2.out s (List.mem_of_getElem? hs))
                have HC : Hid (∀ W, Below w.heap.size w W → W.cell? ⟨g2, o2 + j, none⟩ = some (.string s)) := Lib.hid (fun W hW => by rw [hW.cell (p := ⟨g2, o2 + j, none⟩) hg2]; exact k9)
                have c0 := HC.out wr HB.out
                clear hs k9 hj hjs
                obtain ⟨kf, hkf⟩ : ∃ kf, (s.size + 61) / 62 = kf := ⟨_, rfl⟩
                obtain ⟨ek, hek⟩ : ∃ ek, askL A s = ek := ⟨_, rfl⟩
                by_cases hne : ek = 0
                · rw [hne] at hek
                  clear hne
                  have hkf9 : kf ≤ 80 := by
                    have h9 := hek
                    unfold askL at h9
                    split at h9
                    · cases h9
                    · split at h9
                      · cases h9
                      · omega
                  have hAk2 : ((A + kf : Nat) : Int) = (A : Int) + (kf : Int) := by omega
                  have HW : Hid (∀ W, LoX w.heap.size b r1 r2 A W → w.heap.size ≤ W.heap.size → Calls Try.prog 13 #[.pointer (some ⟨b, 0, none⟩), .int .i64 0, .int .i64 80, .int .i64 A, .string s] W fun e w' => e = .returned (.tuple #[.int .i64 ((A : Int) + (kf : Int)), .int .i64 0]) ∧ LoX w.heap.size b r1 (r2 ++ [s]) (A + kf) w' ∧ Below w.heap.size W w' ∧ Off devTs W w') := Lib.hid (fun W h hB => by
                    have h1 := lo_ok h s hek hB
                    rw [hkf, hAk2] at h1
                    exact h1)
                  clear hek hkf
                  go_wp2_with fail
                  refine (HW.out _ HD.out HB.out.size).mono ?_
                  rintro e w4 ⟨rfl, hd4, hb4, ho4⟩
                  have HB4 : Hid (Below w.heap.size w w4) := Lib.hid (HB.out.trans hb4)
                  have HD4 := Lib.hid hd4
                  have HO4 := Lib.hid (own_off HO.out (by decide) ho4)
                  clear hb4 hd4 ho4
                  have HA5 : Hid ((w4.alloc (.cells #[.string s] 9)).ownsRow w.heap.size 9 1 (.slice oa N oc) N (al.map Value.string)) := Lib.hid (HO4.out.alloc _)
                  go_wp2_with (at_builtin; refine wpList_append_own _ rfl _ _ 25 rfl w.heap.size 9 i0 (.string ⟨#[]⟩) 1 16 Try.underlying25 hi0 hq0 hq1 hq2 rfl (by decide) _ _ _ rfl HA5.out ⟨w4.heap.size, 0, none⟩ 1 1 [.string s] rfl rfl ?c1 ?c2 ?c3 ?c4 ?c5 ?_)
                  case c1 =>
                    intro j u hj
                    match j, hj with
                    | 0, hj => simp at hj; subst hj; simp [Addr.add]
                  case c2 => intro u hu; simp at hu; subst hu; rfl
                  case c3 => unfold maxLen; omega
                  case c4 => omega
                  case c5 => have h1 := HB4.out.size; simp; omega
                  intro v' w6 hown' hgrow _
                  have HO6 := Lib.hid hown'
                  have HB6 : Hid (Below w.heap.size w w6) := Lib.hid ((HB4.out.alloc HB4.out.size _).grown hgrow (by have := HB4.out.size; simp; omega) (fun j hj => (HO4.out.lt j hj).1))
                  have HD6 := Lib.hid (HD4.out.off (((Off.refl [9] w4).alloc _).trans (off_grown HA5.out hgrow)) (by decide) (by decide) (by decide))
                  clear hown' hgrow
                  go_wp2
                  go_roundw
                  case rel => exact ⟨i + 1, A + kf, N + 1, N1, r1, r2 ++ [s], al ++ [s], by first | rfl | go_num, by rw [hAk2], by first | rfl | go_num, by omega, HD6.out, ⟨by rw [← List.append_assoc, HEQ.out.1], by rw [List.length_append, HEQ.out.2.1]; rfl, HEQ.out.2.2⟩, ⟨_, rfl, by simpa using HO6.out⟩, HB6.out⟩
                  case measure => simp [intOf]; omega
                · clear hkf
                  have HW : Hid (∀ W, LoX w.heap.size b r1 r2 A W → Calls Try.prog 13 #[.pointer (some ⟨b, 0, none⟩), .int .i64 0, .int .i64 80, .int .i64 A, .string s] W fun e w' => e = .returned (.tuple #[.int .i64 0, .int .i64 ek]) ∧ Below W.heap.size W w') := Lib.hid (fun W h => by
                    have h1 := lo_no h s HS.out (by rw [hek]; exact hne)
                    rw [hek] at h1
                    exact h1)
                  have hnz : (ek == 0) = false := by simpa using hne
                  clear hek hne
                  go_wp2_with fail
                  refine (HW.out _ HD.out).mono ?_
                  rintro e w4 ⟨rfl, hb4⟩
                  have HB4 : Hid (Below w.heap.size w w4) := Lib.hid (HB.out.trans (hb4.mono HB.out.size))
                  have HD4 := Lib.hid (HD.out.below hb4)
                  have HO4 := Lib.hid (HO.out.kept (grown_of_belowB hb4 none) (by cases h : (Value.slice oa N oc).ownBlock with | none => exact Or.inl rfl | some x => exact Or.inr (by simp)))
                  clear hb4
                  go_wp2
                  go_roundw
                  case rel => exact ⟨i + 1, A, N, N1, r1, r2, al, by first | rfl | go_num, rfl, rfl, by omega, HD4.out, ⟨HEQ.out.1, HEQ.out.2.1, HEQ.out.2.2⟩, ⟨_, rfl, HO4.out⟩, HB4.out⟩
                  case measure => simp [intOf]; omega
          · have hiz : ¬ ((i : Int) < (T : Int)) := by omega
            by_cases hn0 : n < 1
            · skip
              have hn00 : n = 0 := by omega
              clear hn0
              have hTm : T = m := by have := HT.out; omega
              subst hn00
              subst hTm
              clear hmn
              have cFl := lo_flush HD.out HB.out.size
              rw [HEQ.out.1] at cFl
              go_wp2_with fail
              refine cFl.mono ?_
              rintro e w3 ⟨rfl, hd3, hb3, ho3⟩
              have HB3 : Hid (Below w.heap.size w w3) := Lib.hid (HB.out.trans hb3)
              have HD3 := Lib.hid hd3
              have HO3 := Lib.hid (own_off HO.out (by decide) ho3)
              clear hd3 hb3 ho3 cFl
              have cRs := lo_restart HD3.out (.slice a3 q c3) l3 (HV3.out.kept HB3.out) (by rw [HQ.out]; omega) HB3.out.size
              go_wp2_with fail
              refine cRs.mono ?_
              rintro e w4 ⟨rfl, hd4, hb4, ho4⟩
              have HB4 : Hid (Below w.heap.size w w4) := Lib.hid (HB3.out.trans hb4)
              have HD4 := Lib.hid hd4
              have HO4 := Lib.hid (own_off HO3.out (by decide) ho4)
              clear hd4 hb4 ho4 cRs
              go_wp2_with fail
              refine (lo_scan HD4.out).mono ?_
              rintro e w5 ⟨u, z, x, rfl, hx, hu, hb5⟩
              have HB5 : Hid (Below w.heap.size w w5) := Lib.hid (HB4.out.trans (hb5.mono HB4.out.size))
              have hown5 := HO4.out.kept (grown_of_belowB hb5 none) (by cases h : (Value.slice oa N oc).ownBlock with | none => exact Or.inl rfl | some x => exact Or.inr (by simp))
              obtain ⟨ua, uc, rfl⟩ := hu.len
              obtain ⟨n3, hn3⟩ : ∃ n3, (al ++ x).length = n3 := ⟨_, rfl⟩
              rw [hn3] at hu ⊢
              have hal2 : al ++ [] = al := List.append_nil _
              have hpre : al ++ x <+: al ++ [] := (List.prefix_append_right_inj al).2 hx
              rw [hal2] at hpre
              have h3N : n3 ≤ N := by rw [← hn3, ← HEQ.out.2.1]; exact hpre.length_le
              have hN13 : N ≤ n3 := by rw [← hn3, List.length_append]; have h9 : al.length = N := HEQ.out.2.1; omega
              have htake : al.take n3 = al ++ x := by
                obtain ⟨t, ht⟩ := hpre
                have h9 : al.take n3 = ((al ++ x) ++ t).take n3 := by rw [ht]
                rw [h9, ← hn3, List.take_left' rfl]
              have h3Nz : (n3 : Int) ≤ (N : Int) := by omega
              have hN13z : (N : Int) ≤ (n3 : Int) := by omega
              have hn3z : (0 : Int) ≤ (n3 : Int) := by omega
              have HU := Lib.hid hu
              have HN3 := Lib.hid hn3
              have HTK := Lib.hid htake
              rcases owned_take hown5 HEQ.out.2.1 h3N with ⟨hv, hN0⟩ | ⟨gg, cap, hv, hcap, hst⟩
              · injection hv with e1 e2 e3
                subst e1 e3
                have h30 : n3 = 0 := by omega
                have HW5 : Hid (StrsIs w5 (.slice none 0 0) (al ++ x)) := Lib.hid (Or.inl ⟨List.length_eq_zero_iff.1 (by rw [hn3]; exact h30), none, 0, rfl⟩)
                subst h30
                subst hN0
                clear hu hn3 hb5 hown5 hx hpre htake hal2 e2
                go_wp2_with fail
                refine (same_c _ _ (al ++ x) (al ++ x) _ HU.out HW5.out (by rw [HN3.out]; omega) (by rw [HN3.out]; omega) true ⟨fun _ => rfl, fun _ => rfl⟩).mono ?_
                rintro e w6 ⟨rfl, hb6⟩
                have HB6 : Hid (Below w.heap.size w w6) := Lib.hid (HB5.out.trans (hb6.mono HB5.out.size))
                clear hb6
                go_wp2
                go_ret
                exact ⟨rfl, HB6.out⟩
              · injection hv with e1 e2 e3
                subst e1 e3
                rw [htake] at hst
                have HW5 := Lib.hid hst
                have h3c : (n3 : Int) ≤ (oc : Int) := by omega
                clear hu hn3 hb5 hown5 hx hpre htake hst hal2 e2
                go_wp2_with fail
                refine (same_c _ _ (al ++ x) (al ++ x) _ HU.out HW5.out (by rw [HN3.out]; omega) (by rw [HN3.out]; omega) true ⟨fun _ => rfl, fun _ => rfl⟩).mono ?_
                rintro e w6 ⟨rfl, hb6⟩
                have HB6 : Hid (Below w.heap.size w w6) := Lib.hid (HB5.out.trans (hb6.mono HB5.out.size))
                clear hb6
                go_wp2
                go_ret
                exact ⟨rfl, HB6.out⟩
            · skip
              have hnb : ((n : Int) == 0) = false := by rw [beq_eq_false_iff_ne]; omega
              have HB3 := HB
              have HD3 := HD
              have HO3 := HO
              have cRs := lo_restart HD3.out (.slice a3 q c3) l3 (HV3.out.kept HB3.out) (by rw [HQ.out]; omega) HB3.out.size
              go_wp2_with fail
              refine cRs.mono ?_
              rintro e w4 ⟨rfl, hd4, hb4, ho4⟩
              have HB4 : Hid (Below w.heap.size w w4) := Lib.hid (HB3.out.trans hb4)
              have HD4 := Lib.hid hd4
              have HO4 := Lib.hid (own_off HO3.out (by decide) ho4)
              clear hd4 hb4 ho4 cRs
              go_wp2_with fail
              refine (lo_scan HD4.out).mono ?_
              rintro e w5 ⟨u, z, x, rfl, hx, hu, hb5⟩
              have HB5 : Hid (Below w.heap.size w w5) := Lib.hid (HB4.out.trans (hb5.mono HB4.out.size))
              have hown5 := HO4.out.kept (grown_of_belowB hb5 none) (by cases h : (Value.slice oa N oc).ownBlock with | none => exact Or.inl rfl | some x => exact Or.inr (by simp))
              obtain ⟨ua, uc, rfl⟩ := hu.len
              obtain ⟨n3, hn3⟩ : ∃ n3, (r1 ++ x).length = n3 := ⟨_, rfl⟩
              rw [hn3] at hu ⊢
              have hal2 : r1 ++ r2 = al := HEQ.out.1
              have hpre : r1 ++ x <+: r1 ++ r2 := (List.prefix_append_right_inj r1).2 hx
              rw [hal2] at hpre
              have h3N : n3 ≤ N := by rw [← hn3, ← HEQ.out.2.1]; exact hpre.length_le
              have hN13 : N1 ≤ n3 := by rw [← hn3, List.length_append]; have h9 : r1.length = N1 := HEQ.out.2.2; omega
              have htake : al.take n3 = r1 ++ x := by
                obtain ⟨t, ht⟩ := hpre
                have h9 : al.take n3 = ((r1 ++ x) ++ t).take n3 := by rw [ht]
                rw [h9, ← hn3, List.take_left' rfl]
              have h3Nz : (n3 : Int) ≤ (N : Int) := by omega
              have hN13z : (N1 : Int) ≤ (n3 : Int) := by omega
              have hn3z : (0 : Int) ≤ (n3 : Int) := by omega
              have HU := Lib.hid hu
              have HN3 := Lib.hid hn3
              have HTK := Lib.hid htake
              rcases owned_take hown5 HEQ.out.2.1 h3N with ⟨hv, hN0⟩ | ⟨gg, cap, hv, hcap, hst⟩
              · injection hv with e1 e2 e3
                subst e1 e3
                have h30 : n3 = 0 := by omega
                have HW5 : Hid (StrsIs w5 (.slice none 0 0) (r1 ++ x)) := Lib.hid (Or.inl ⟨List.length_eq_zero_iff.1 (by rw [hn3]; exact h30), none, 0, rfl⟩)
                subst h30
                subst hN0
                clear hu hn3 hb5 hown5 hx hpre htake hal2 e2
                go_wp2_with fail
                refine (same_c _ _ (r1 ++ x) (r1 ++ x) _ HU.out HW5.out (by rw [HN3.out]; omega) (by rw [HN3.out]; omega) true ⟨fun _ => rfl, fun _ => rfl⟩).mono ?_
                rintro e w6 ⟨rfl, hb6⟩
                have HB6 : Hid (Below w.heap.size w w6) := Lib.hid (HB5.out.trans (hb6.mono HB5.out.size))
                clear hb6
                go_wp2
                go_ret
                exact ⟨rfl, HB6.out⟩
              · injection hv with e1 e2 e3
                subst e1 e3
                rw [htake] at hst
                have HW5 := Lib.hid hst
                have h3c : (n3 : Int) ≤ (oc : Int) := by omega
                clear hu hn3 hb5 hown5 hx hpre htake hst hal2 e2
                go_wp2_with fail
                refine (same_c _ _ (r1 ++ x) (r1 ++ x) _ HU.out HW5.out (by rw [HN3.out]; omega) (by rw [HN3.out]; omega) true ⟨fun _ => rfl, fun _ => rfl⟩).mono ?_
                rintro e w6 ⟨rfl, hb6⟩
                have HB6 : Hid (Below w.heap.size w w6) := Lib.hid (HB5.out.trans (hb6.mono HB5.out.size))
                clear hb6
                go_wp2
                go_ret
                exact ⟨rfl, HB6.out⟩
end Go.Proofs.Ytkmfblbkaihbdaa
