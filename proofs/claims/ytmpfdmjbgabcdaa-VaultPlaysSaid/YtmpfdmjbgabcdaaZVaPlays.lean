/-
  The law VaultPlays.
-/
import Derived.Test.YtmpfdmjbgabcdaaZVaPlKit
import Derived.Test.YtmpfdmjbgabcdaaZVaRow2
import Derived.Test.YtmpfdmjbgabcdaaBkOpen
namespace Go.Proofs.Ytmpfdmjbgabcdaa
open Go.RowKit Go.Sort
set_option linter.unusedVariables false

theorem str_ne8 {s : ByteArray} (h : s.size ≠ 0) : s.toList.isEmpty = false := by
  rw [ByteArray.toList_eq]
  have h1 : s.data.toList.length = s.size := Array.length_toList
  cases h2 : s.data.toList with
  | nil => rw [h2] at h1; simp at h1; omega
  | cons a t => rfl
theorem str_emp8 {s : ByteArray} (h : s.size = 0) : s.toList.isEmpty = true := by
  rw [ByteArray.toList_eq]
  have h1 : s.data.toList.length = s.size := Array.length_toList
  cases h2 : s.data.toList with
  | nil => rfl
  | cons a t => rw [h2] at h1; simp at h1; omega
theorem str_nil8 {s : ByteArray} (h : s.size = 0) : s = ⟨#[]⟩ := by
  obtain ⟨⟨a⟩⟩ := s
  cases a with
  | nil => rfl
  | cons x y => have h9 : (x :: y).length = 0 := h; simp at h9
set_option maxHeartbeats 32000000 in
set_option maxRecDepth 100000 in
theorem plays_walk (x : Int) (hx0 : 0 ≤ x ∧ x ≤ 255) (s : ByteArray) (hs : s.size ≤ 9223372036854775807) (v : Value) (l : List OpV) (w : World) (hv : OpsIs w v l) (hl : l.length ≤ 9223372036854775807) (hok : ∀ o ∈ l, OpOk o) :
    Calls Try.prog 4 #[.int .u8 x, .string s, v] w fun e w' => e = .returned (.bool true) ∧ Below w.heap.size w w' := by
  have cA := awake8_c w
  obtain ⟨av, cv, rfl⟩ := hv.len
  obtain ⟨L, hL⟩ : ∃ L, l.length = L := ⟨_, rfl⟩
  obtain ⟨z, hz⟩ : ∃ z, s.size = z := ⟨_, rfl⟩
  obtain ⟨n, hn, hn60⟩ : ∃ n : Nat, x % 61 = (n : Int) ∧ n ≤ 60 := ⟨(x % 61).toNat, by omega, by omega⟩
  have hnt : x.tmod 61 = (n : Int) := by rw [Int.tmod_eq_emod_of_nonneg hx0.1]; exact hn
  obtain ⟨h, hh⟩ : ∃ h, n / 2 = h := ⟨_, rfl⟩
  have hht : (n : Int).tdiv 2 = (h : Int) := by rw [Int.tdiv_eq_ediv_of_nonneg (by omega)]; omega
  have hhe : (n : Int) / 2 = (h : Int) := by omega
  have hwn : IntKind.i64.wrap (n : Int) = (n : Int) := by rw [IntKind.wrap_i64]; omega
  have hwh : IntKind.i64.wrap ((h : Int) - 1) = (h : Int) - 1 := by rw [IntKind.wrap_i64]; omega
  have hx1 := hx0.1
  have hx2 := hx0.2
  have HNN : Hid (n / 2 = h ∧ n ≤ 60) := Lib.hid ⟨hh, hn60⟩
  have HFW : Hid (∀ b W, (b = true ↔ Few l 30) → Below w.heap.size w W → Calls Try.prog 8 #[.slice av L cv, .int .i64 30] W fun e w' => e = .returned (.bool b) ∧ W = w') := Lib.hid (fun b W hb hW => by
    have h1 := few8_c (.slice av l.length cv) l 30 W (hv.kept hW) hl (by decide) b hb
    rw [hL] at h1
    exact h1)
  have HNEW : Hid (∀ W, Below w.heap.size w W → Calls Try.prog 9 #[.int .i64 n] W fun e w' => ∃ b, e = .returned (.pointer (some ⟨b, 0, none⟩)) ∧ Dev w.heap.size w' b (stNew n) ∧ Below w.heap.size w w') := Lib.hid (fun W hW => by
    have hN := new_c n W
    unfold NewPost at hN
    rw [sizeI_nat n (by omega)] at hN
    refine hN.mono ?_
    rintro e w' ⟨b, he, hd, hb, _⟩
    exact ⟨b, he, hd.base hW.size, hW.trans (hb.mono hW.size)⟩)
  rw [hL] at hv ⊢
  have HV := Lib.hid hv
  have HL := Lib.hid hL
  have HZ := Lib.hid hz
  have HOK := Lib.hid hok
  rw [hL] at hl
  clear hv hok hh hx0
  by_cases hF : Few l 30
  · have HFEW := Lib.hid hF
    clear hF
    by_cases h5 : 500 < z
    · have h5z : (500 : Int) < (z : Int) := by omega
      go_enter Try.func4, Try.ntmps4
      go_wp2_with fail
      refine cA.mono ?_
      rintro e w1 ⟨rfl, hb1⟩
      have HB1 := Lib.hid hb1
      have cF := HFW.out true w1 ⟨fun _ => HFEW.out, fun _ => rfl⟩ hb1
      clear cA hb1
      go_wp2_with fail
      refine cF.mono ?_
      rintro e w2 ⟨rfl, hw2⟩
      subst hw2
      clear cF
      have cA2 := awake8_c w1
      go_wp2_with fail
      refine cA2.mono ?_
      rintro e w3 ⟨rfl, hb3⟩
      have HB3 := Lib.hid (HB1.out.trans (hb3.mono HB1.out.size))
      clear cA2 hb3
      go_wp2
      go_ret
      exact ⟨rfl, HB3.out⟩
    · have h5z : ¬ (500 : Int) < (z : Int) := by omega
      have h5d : decide ((500 : Int) < (z : Int)) = false := decide_eq_false h5z
      have hkz : (s.size + 61) / 62 = (z + 61) / 62 := by rw [hz]
      by_cases h4 : n < 4
      · have h4z : (n : Int) < 4 := by omega
        go_enter Try.func4, Try.ntmps4
        go_wp2_with fail
        refine cA.mono ?_
        rintro e w1 ⟨rfl, hb1⟩
        have HB1 := Lib.hid hb1
        have cF := HFW.out true w1 ⟨fun _ => HFEW.out, fun _ => rfl⟩ hb1
        clear cA hb1
        go_wp2_with fail
        refine cF.mono ?_
        rintro e w2 ⟨rfl, hw2⟩
        subst hw2
        clear cF
        have cN := HNEW.out w1 HB1.out
        go_wp2_with fail
        refine cN.mono ?_
        rintro e w3 ⟨b, rfl, hd, hb3⟩
        have HB3 := Lib.hid hb3
        have HD3 := Lib.hid hd
        clear hd hb3 cN
        have HFM : Hid (Calls Try.prog 18 #[.pointer (some ⟨b, 0, none⟩), .string s] w3 fun e w' => Below w.heap.size w w' ∧ e = .returned (.int .i64 1) ∧ Dev w.heap.size w' b (stNew n)) := Lib.hid (by
          have hzz := HZ.out
          refine (format_c s HD3.out (fmNew n (by omega)) HNN.out.1 (by omega) (by first | omega | decide) HB3.out.size).mono ?_
          rintro e w' ⟨q, rfl, hb, ho, hX⟩
          refine ⟨HB3.out.trans hb, ?_⟩
          rcases hX with ⟨_, rfl, hd⟩ | ⟨h1, _⟩ | ⟨h1, _⟩
          · exact ⟨rfl, hd⟩
          · omega
          · omega)
        go_wp2_with fail
        refine HFM.out.mono ?_
        rintro e w4 ⟨hb4, hx4⟩
        have HB4 := Lib.hid hb4
        clear hb4
        obtain ⟨rfl, hd4⟩ := hx4
        have HD4 := Lib.hid hd4
        clear hd4
        have cC := cutf_c s w4 (by first | (have := HZ.out; omega) | decide)
        go_wp2_with fail
        refine cC.mono ?_
        rintro e w5 ⟨ac, cc, rfl, hb5⟩
        have HB5A := Lib.hid hb5
        have HB5 : Hid (Below w.heap.size w w5) := Lib.hid (HB4.out.trans (hb5.mono HB4.out.size))
        clear hb5 cC
        have HOP : Hid (Calls Try.prog 15 #[.pointer (some ⟨b, 0, none⟩)] w5 fun e w' => e = .returned (.tuple #[.pointer none, .int .i64 1]) ∧ Below w.heap.size w w') := Lib.hid (by
          refine (vopen_c (HD4.out.below (HB5A.out)) (goodNew n (by omega)) rfl (by simp [stNew]) HNN.out.1 (by omega) (by simp [stNew]) HB5.out.size).mono ?_
          rintro e w' ⟨hb, ho, ⟨_, he, _⟩ | ⟨h1, _⟩ | ⟨h1, _⟩⟩
          · exact ⟨he, HB5.out.trans hb⟩
          · omega
          · omega)
        go_wp2_with fail
        refine HOP.out.mono ?_
        rintro e w6 ⟨rfl, hb6⟩
        have HB6 := Lib.hid hb6
        clear hb6
        go_wp2
        go_ret
        exact ⟨rfl, HB6.out⟩
      · have h4z : ¬ (n : Int) < 4 := by omega
        by_cases h0 : z = 0
        · have HFIT : Hid (fitsI h 1 ⟨#[]⟩ = 4) := Lib.hid (by unfold fitsI; rw [if_pos (Or.inl (by decide))])
          have hs0 : s = ⟨#[]⟩ := str_nil8 (by rw [hz]; exact h0)
          subst hs0
          clear h0 hkz
          go_enter Try.func4, Try.ntmps4
          go_wp2_with fail
          refine cA.mono ?_
          rintro e w1 ⟨rfl, hb1⟩
          have HB1 := Lib.hid hb1
          have cF := HFW.out true w1 ⟨fun _ => HFEW.out, fun _ => rfl⟩ hb1
          clear cA hb1
          go_wp2_with fail
          refine cF.mono ?_
          rintro e w2 ⟨rfl, hw2⟩
          subst hw2
          clear cF
          have cN := HNEW.out w1 HB1.out
          go_wp2_with fail
          refine cN.mono ?_
          rintro e w3 ⟨b, rfl, hd, hb3⟩
          have HB3 := Lib.hid hb3
          have HD3 := Lib.hid hd
          clear hd hb3 cN
          have HFM : Hid (Calls Try.prog 18 #[.pointer (some ⟨b, 0, none⟩), .string ⟨#[]⟩] w3 fun e w' => Below w.heap.size w w' ∧ e = .returned (.int .i64 4)) := Lib.hid (by
            have hzz := HZ.out
            refine (format_c ⟨#[]⟩ HD3.out (fmNew n (by omega)) HNN.out.1 (by omega) (by first | omega | decide) HB3.out.size).mono ?_
            rintro e w' ⟨q, rfl, hb, ho, hX⟩
            refine ⟨HB3.out.trans hb, ?_⟩
            rcases hX with ⟨h1, _⟩ | ⟨_, _, h3, _⟩ | ⟨_, _, h3, _⟩
            · omega
            · rw [← h3, HFIT.out]
            · rw [HFIT.out] at h3; cases h3)
          go_wp2_with fail
          refine HFM.out.mono ?_
          rintro e w4 ⟨hb4, hx4⟩
          have HB4 := Lib.hid hb4
          clear hb4
          subst hx4
          have cC := cutf_c ⟨#[]⟩ w4 (by first | (have := HZ.out; omega) | decide)
          go_wp2_with fail
          refine cC.mono ?_
          rintro e w5 ⟨ac, cc, rfl, hb5⟩
          have HB5 : Hid (Below w.heap.size w w5) := Lib.hid (HB4.out.trans (hb5.mono HB4.out.size))
          clear hb5 cC
          go_wp2
          go_ret
          exact ⟨rfl, HB5.out⟩
        · have hse := str_ne8 (s := s) (by rw [hz]; exact h0)
          by_cases hk : h < 1 + (z + 61) / 62
          · have hkz2 : (h : Int) - 1 < (((z + 61) / 62 : Nat) : Int) := by omega
            have HFIT : Hid (fitsI h 1 s = 11) := Lib.hid (by unfold fitsI; rw [if_neg (by omega), if_pos (by omega)])
            generalize hKK : (z + 61) / 62 = kz at *
            go_enter Try.func4, Try.ntmps4
            go_wp2_with fail
            refine cA.mono ?_
            rintro e w1 ⟨rfl, hb1⟩
            have HB1 := Lib.hid hb1
            have cF := HFW.out true w1 ⟨fun _ => HFEW.out, fun _ => rfl⟩ hb1
            clear cA hb1
            go_wp2_with fail
            refine cF.mono ?_
            rintro e w2 ⟨rfl, hw2⟩
            subst hw2
            clear cF
            have cN := HNEW.out w1 HB1.out
            go_wp2_with fail
            refine cN.mono ?_
            rintro e w3 ⟨b, rfl, hd, hb3⟩
            have HB3 := Lib.hid hb3
            have HD3 := Lib.hid hd
            clear hd hb3 cN
            have HFM : Hid (Calls Try.prog 18 #[.pointer (some ⟨b, 0, none⟩), .string s] w3 fun e w' => Below w.heap.size w w' ∧ e = .returned (.int .i64 11)) := Lib.hid (by
              have hzz := HZ.out
              refine (format_c s HD3.out (fmNew n (by omega)) HNN.out.1 (by omega) (by first | omega | decide) HB3.out.size).mono ?_
              rintro e w' ⟨q, rfl, hb, ho, hX⟩
              refine ⟨HB3.out.trans hb, ?_⟩
              rcases hX with ⟨h1, _⟩ | ⟨_, _, h3, _⟩ | ⟨_, _, h3, _⟩
              · omega
              · rw [← h3, HFIT.out]
              · rw [HFIT.out] at h3; cases h3)
            go_wp2_with fail
            refine HFM.out.mono ?_
            rintro e w4 ⟨hb4, hx4⟩
            have HB4 := Lib.hid hb4
            clear hb4
            subst hx4
            have cC := cutf_c s w4 (by first | (have := HZ.out; omega) | decide)
            go_wp2_with fail
            refine cC.mono ?_
            rintro e w5 ⟨ac, cc, rfl, hb5⟩
            have HB5 : Hid (Below w.heap.size w w5) := Lib.hid (HB4.out.trans (hb5.mono HB4.out.size))
            clear hb5 cC
            go_wp2
            go_ret
            exact ⟨rfl, HB5.out⟩
          · have hkz2 : ¬ (h : Int) - 1 < (((z + 61) / 62 : Nat) : Int) := by omega
            have HFIT : Hid (fitsI h 1 s = 0) := Lib.hid (by unfold fitsI; rw [if_neg (by omega), if_neg (by omega)])
            generalize hKK : (z + 61) / 62 = kz at *
            go_enter Try.func4, Try.ntmps4
            go_wp2_with fail
            refine cA.mono ?_
            rintro e w1 ⟨rfl, hb1⟩
            have HB1 := Lib.hid hb1
            have cF := HFW.out true w1 ⟨fun _ => HFEW.out, fun _ => rfl⟩ hb1
            clear cA hb1
            go_wp2_with fail
            refine cF.mono ?_
            rintro e w2 ⟨rfl, hw2⟩
            subst hw2
            clear cF
            have cN := HNEW.out w1 HB1.out
            go_wp2_with fail
            refine cN.mono ?_
            rintro e w3 ⟨b, rfl, hd, hb3⟩
            have HB3 := Lib.hid hb3
            have HD3 := Lib.hid hd
            clear hd hb3 cN
            have HFM : Hid (Calls Try.prog 18 #[.pointer (some ⟨b, 0, none⟩), .string s] w3 fun e w' => Below w.heap.size w w' ∧ e = .returned (.int .i64 0) ∧ ∃ st', Dev w.heap.size w' b st' ∧ LiveS n h false 1 (1 + (s.size + 61) / 62) s [] [s] [] false st' ) := Lib.hid (by
              have hzz := HZ.out
              refine (format_c s HD3.out (fmNew n (by omega)) HNN.out.1 (by omega) (by first | omega | decide) HB3.out.size).mono ?_
              rintro e w' ⟨q, rfl, hb, ho, hX⟩
              refine ⟨HB3.out.trans hb, ?_⟩
              rcases hX with ⟨h1, _⟩ | ⟨_, h2, h3, _⟩ | ⟨_, rfl, _, st', h4, h5, _⟩
              · omega
              · rw [HFIT.out] at h3; exact absurd h3.symm h2
              · exact ⟨rfl, st', h4, h5⟩)
            go_wp2_with fail
            refine HFM.out.mono ?_
            rintro e w4 ⟨hb4, hx4⟩
            have HB4 := Lib.hid hb4
            clear hb4
            obtain ⟨rfl, st4, hd4, hl4⟩ := hx4
            have HD4 := Lib.hid hd4
            have HL4 := Lib.hid hl4
            clear hd4 hl4
            have cC := cutf_c s w4 (by first | (have := HZ.out; omega) | decide)
            go_wp2_with fail
            refine cC.mono ?_
            rintro e w5 ⟨ac, cc, rfl, hb5⟩
            have HB5A := Lib.hid hb5
            have HB5 : Hid (Below w.heap.size w w5) := Lib.hid (HB4.out.trans (hb5.mono HB4.out.size))
            clear hb5 cC
            have HOP : Hid (Calls Try.prog 15 #[.pointer (some ⟨b, 0, none⟩)] w5 fun e w' => ∃ vb, e = .returned (.tuple #[.pointer (some ⟨vb, 0, none⟩), .int .i64 0]) ∧ Below w.heap.size w w' ∧ PlL w.heap.size b vb n h 0 w' s (.slice none 0 0) ((h : Int) - 1 - (kz : Int))) := Lib.hid (by
              refine (reopen_c (HD4.out.below HB5A.out) (HL4.out.kn HNN.out.1) HB5.out.size).mono ?_
              rintro e w' ⟨vb, rv, st', he, hb, _, _, _, hL', _⟩
              refine ⟨vb, he, HB5.out.trans hb, PlL.start hL' (Nat.le_refl _) ?_⟩
              rw [layB_one, cut_len, hkz]
              omega)
            go_wp2_with fail
            refine HOP.out.mono ?_
            rintro e w6 ⟨vb, rfl, hb6, hp6⟩
            have HB6 := Lib.hid hb6
            have HP6 := Lib.hid hp6
            have hwr : IntKind.i64.wrap ((h : Int) - 1 - (kz : Int)) = (h : Int) - 1 - (kz : Int) := by rw [IntKind.wrap_i64]; omega
            clear hb6 hp6
            go_wp2
            go_loopw [1, 15, 16, 17] (fun sv lvv rm iv wr => ∃ (i : Nat) (img : ByteArray) (lv : Value) (r : Int), i ≤ L ∧ sv = .string img ∧ lv = lvv ∧ rm = .int .i64 r ∧ iv = .int .i64 i ∧ PlL w.heap.size b vb n h i wr img lv r ∧ Below w.heap.size w wr) (fun _ _ _ iv _ => L - (intOf iv).toNat)
            case atStart => exact ⟨0, _, _, _, by omega, rfl, rfl, rfl, rfl, HP6.out, HB6.out⟩
            case round =>
              obtain ⟨i, img, lv, r, hi, rfl, rfl, rfl, rfl, hp, hb⟩ := hrel
              have HP := Lib.hid hp
              have HB := Lib.hid hb
              have hrm := hp.room
              clear hp hb
              have hL30 : L ≤ 30 := by have := HFEW.out.1; have := HL.out; omega
              by_cases hiL : i < L
              · have hiz : (i : Int) < (L : Int) := by omega
                obtain ⟨o, ho⟩ : ∃ o, l[i]? = some o := ⟨_, List.getElem?_eq_getElem (by rw [HL.out]; exact hiL)⟩
                obtain ⟨g, off, rfl, hg, hop⟩ := HV.out.at ho
                have HC : Hid (∀ W, Below w.heap.size w W → W.cell? ⟨g, off + i * 6, none⟩ = some (.int .u8 o.X) ∧ W.cell? ⟨g, off + i * 6 + 1, none⟩ = some (.string o.s)) := Lib.hid (fun W hW => ⟨by rw [hW.cell (p := ⟨g, _, none⟩) hg]; exact hop.c0, by rw [hW.cell (p := ⟨g, _, none⟩) hg]; exact hop.c1⟩)
                have hoz := (HFEW.out.2 o (List.mem_of_getElem? ho)).1
                have hxx := HOK.out o (List.mem_of_getElem? ho)
                have hX0 := hxx.x0
                have hX1 := hxx.x1
                clear ho hg hop hxx
                obtain ⟨os, hos⟩ : ∃ os, o.s = os := ⟨_, rfl⟩
                obtain ⟨X, hX⟩ : ∃ X, o.X = X := ⟨_, rfl⟩
                rw [hos] at HC hoz
                rw [hX] at HC hX0 hX1
                clear hos hX
                obtain ⟨c0, c1⟩ := HC.out wr HB.out
                obtain ⟨oz, hoz2⟩ : ∃ oz, os.size = oz := ⟨_, rfl⟩
                rw [hoz2] at hoz
                have HOZ := Lib.hid hoz2
                clear hoz2
                obtain ⟨kk, hkk⟩ : ∃ kk, (oz + 61) / 62 = kk := ⟨_, rfl⟩
                have HKK := Lib.hid hkk
                have HCU : Hid (Calls Try.prog 19 #[.string os] wr fun e w' => ∃ a c, e = .returned (.slice a (kk : Nat) c) ∧ Below w.heap.size w w') := Lib.hid (by
                  refine (cutf_c os wr (by rw [HOZ.out]; omega)).mono ?_
                  rintro e w' ⟨a, c, he, hb⟩
                  rw [HOZ.out, HKK.out] at he
                  exact ⟨a, c, he, HB.out.trans (hb.mono HB.out.size)⟩)
                have HPU : Hid (∀ W, Below wr.heap.size wr W → PlL w.heap.size b vb n h i W img lv r) := Lib.hid (fun W hW => HP.out.below hW)
                have hkk7 : kk ≤ 7 := by omega
                clear hkk
                have HCU2 : Hid (Calls Try.prog 19 #[.string os] wr fun e w' => ∃ a c, e = .returned (.slice a (kk : Nat) c) ∧ Below w.heap.size w w' ∧ PlL w.heap.size b vb n h i w' img lv r) := Lib.hid (by
                  refine (cutf_c os wr (by rw [HOZ.out]; omega)).mono ?_
                  rintro e w' ⟨a, c, he, hb⟩
                  rw [HOZ.out, HKK.out] at he
                  exact ⟨a, c, he, HB.out.trans (hb.mono HB.out.size), HP.out.below hb⟩)
                clear HCU HPU
                go_wp2_with fail
                refine HCU2.out.mono ?_
                rintro e w3 ⟨ac3, cc3, rfl, hb3, hp3⟩
                have HB3 := Lib.hid hb3
                have HP3 := Lib.hid hp3
                clear hb3 hp3 c0 c1
                obtain ⟨c0, c1⟩ := HC.out w3 HB3.out
                obtain ⟨m, hm⟩ : ∃ m, X % 4 = m := ⟨_, rfl⟩
                have hmt : X.tmod 4 = m := by rw [Int.tmod_eq_emod_of_nonneg hX0]; exact hm
                have hm0 : 0 ≤ m := by omega
                have hm3 : m ≤ 3 := by omega
                by_cases hm2 : m = 2
                · subst hm2
                  have cS := pl_sync HP3.out HB3.out.size
                  go_wp2_with fail
                  refine cS.mono ?_
                  rintro e w6 ⟨rfl, hb6, hp6⟩
                  have HP6 := Lib.hid (hp6.up (Nat.le_succ i))
                  have HB6 := Lib.hid (HB3.out.trans hb6)
                  clear hp6 hb6 cS
                  have cI := pl_image HP6.out
                  go_wp2_with fail
                  refine cI.mono ?_
                  rintro e w7 ⟨rfl, rfl⟩
                  clear cI
                  have cR := pl_records HP6.out (by omega)
                  go_wp2_with fail
                  refine cR.mono ?_
                  rintro e w7 ⟨v7, rfl, hb7, cS⟩
                  have HB7 := Lib.hid hb7
                  clear hb7 cR
                  go_wp2_with fail
                  refine cS.mono ?_
                  rintro e w8 ⟨rfl, hb8⟩
                  have HB8 : Hid (Below w6.heap.size w6 w8) := Lib.hid (HB7.out.trans (hb8.mono HB7.out.size))
                  clear hb8 cS
                  have cM := pl_room (HP6.out.below HB8.out)
                  go_wp2_with fail
                  refine cM.mono ?_
                  rintro e w9 ⟨rfl, hb9⟩
                  have HB9 : Hid (Below w6.heap.size w6 w9) := Lib.hid (HB8.out.trans (hb9.mono HB8.out.size))
                  clear hb9 cM
                  have cO := pl_over (HP6.out.below HB9.out)
                  go_wp2_with fail
                  refine cO.mono ?_
                  rintro e w10 ⟨rfl, rfl⟩
                  clear cO
                  go_wp2
                  go_roundw
                  case rel => exact ⟨i + 1, _, _, _, by omega, rfl, rfl, rfl, by first | rfl | go_num, HP6.out.below HB9.out, HB6.out.trans (HB9.out.mono HB6.out.size)⟩
                  case measure => simp [intOf]; omega
                · by_cases hm4 : m = 3
                  · subst hm4
                    by_cases ho0 : oz = 0
                    · have HFI : Hid (fitsI h 1 os = 4) := Lib.hid (by unfold fitsI; rw [if_pos (Or.inl (by rw [HOZ.out]; omega))])
                      have hose := str_emp8 (s := os) (by rw [HOZ.out]; exact ho0)
                      clear ho0
                      have HREN : Hid (Calls Try.prog 12 #[.pointer (some ⟨vb, 0, none⟩), .string os] w3 fun e w' => e = .returned (.int .i64 4) ∧ Below w.heap.size w3 w' ∧ PlL w.heap.size b vb n h (i + 1) w' img lv r) := Lib.hid (by
                        refine (pl_renew os HP3.out (by rw [HOZ.out]; omega) (by omega) HB3.out.size).mono ?_
                        rintro e w' ⟨he, hb, h1, h2⟩
                        rw [HFI.out] at he h1 h2
                        exact ⟨he, hb, (h1 (by decide)).up (Nat.le_succ i)⟩)
                      go_wp2_with fail
                      refine HREN.out.mono ?_
                      rintro e w6 ⟨rfl, hb6, hp6⟩
                      have HP6 := Lib.hid hp6
                      have HB6 := Lib.hid (HB3.out.trans hb6)
                      clear hp6 hb6
                      have c1 := (HC.out w6 HB6.out).2
                      have cI := pl_image HP6.out
                      go_wp2_with fail
                      refine cI.mono ?_
                      rintro e w7 ⟨rfl, rfl⟩
                      clear cI
                      have cR := pl_records HP6.out (by omega)
                      go_wp2_with fail
                      refine cR.mono ?_
                      rintro e w7 ⟨v7, rfl, hb7, cS⟩
                      have HB7 := Lib.hid hb7
                      clear hb7 cR
                      go_wp2_with fail
                      refine cS.mono ?_
                      rintro e w8 ⟨rfl, hb8⟩
                      have HB8 : Hid (Below w6.heap.size w6 w8) := Lib.hid (HB7.out.trans (hb8.mono HB7.out.size))
                      clear hb8 cS
                      have cM := pl_room (HP6.out.below HB8.out)
                      go_wp2_with fail
                      refine cM.mono ?_
                      rintro e w9 ⟨rfl, hb9⟩
                      have HB9 : Hid (Below w6.heap.size w6 w9) := Lib.hid (HB8.out.trans (hb9.mono HB8.out.size))
                      clear hb9 cM
                      have cO := pl_over (HP6.out.below HB9.out)
                      go_wp2_with fail
                      refine cO.mono ?_
                      rintro e w10 ⟨rfl, rfl⟩
                      clear cO
                      go_wp2
                      go_roundw
                      case rel => exact ⟨i + 1, _, _, _, by omega, rfl, rfl, rfl, by first | rfl | go_num, HP6.out.below HB9.out, HB6.out.trans (HB9.out.mono HB6.out.size)⟩
                      case measure => simp [intOf]; omega
                    · have hose := str_ne8 (s := os) (by rw [HOZ.out]; exact ho0)
                      by_cases hfk : h < 1 + kk
                      · have hfz : (h : Int) - 1 < (kk : Int) := by omega
                        have HFI : Hid (fitsI h 1 os = 11) := Lib.hid (by unfold fitsI; rw [if_neg (by rw [HOZ.out]; omega), if_pos (by rw [HOZ.out, HKK.out]; exact hfk)])
                        have HREN : Hid (Calls Try.prog 12 #[.pointer (some ⟨vb, 0, none⟩), .string os] w3 fun e w' => e = .returned (.int .i64 11) ∧ Below w.heap.size w3 w' ∧ PlL w.heap.size b vb n h (i + 1) w' img lv r) := Lib.hid (by
                          refine (pl_renew os HP3.out (by rw [HOZ.out]; omega) (by omega) HB3.out.size).mono ?_
                          rintro e w' ⟨he, hb, h1, h2⟩
                          rw [HFI.out] at he h1 h2
                          exact ⟨he, hb, (h1 (by decide)).up (Nat.le_succ i)⟩)
                        go_wp2_with fail
                        refine HREN.out.mono ?_
                        rintro e w6 ⟨rfl, hb6, hp6⟩
                        have HP6 := Lib.hid hp6
                        have HB6 := Lib.hid (HB3.out.trans hb6)
                        clear hp6 hb6
                        have c1 := (HC.out w6 HB6.out).2
                        have cI := pl_image HP6.out
                        go_wp2_with fail
                        refine cI.mono ?_
                        rintro e w7 ⟨rfl, rfl⟩
                        clear cI
                        have cR := pl_records HP6.out (by omega)
                        go_wp2_with fail
                        refine cR.mono ?_
                        rintro e w7 ⟨v7, rfl, hb7, cS⟩
                        have HB7 := Lib.hid hb7
                        clear hb7 cR
                        go_wp2_with fail
                        refine cS.mono ?_
                        rintro e w8 ⟨rfl, hb8⟩
                        have HB8 : Hid (Below w6.heap.size w6 w8) := Lib.hid (HB7.out.trans (hb8.mono HB7.out.size))
                        clear hb8 cS
                        have cM := pl_room (HP6.out.below HB8.out)
                        go_wp2_with fail
                        refine cM.mono ?_
                        rintro e w9 ⟨rfl, hb9⟩
                        have HB9 : Hid (Below w6.heap.size w6 w9) := Lib.hid (HB8.out.trans (hb9.mono HB8.out.size))
                        clear hb9 cM
                        have cO := pl_over (HP6.out.below HB9.out)
                        go_wp2_with fail
                        refine cO.mono ?_
                        rintro e w10 ⟨rfl, rfl⟩
                        clear cO
                        go_wp2
                        go_roundw
                        case rel => exact ⟨i + 1, _, _, _, by omega, rfl, rfl, rfl, by first | rfl | go_num, HP6.out.below HB9.out, HB6.out.trans (HB9.out.mono HB6.out.size)⟩
                        case measure => simp [intOf]; omega
                      · have hfz : ¬ (h : Int) - 1 < (kk : Int) := by omega
                        have HFI : Hid (fitsI h 1 os = 0) := Lib.hid (by unfold fitsI; rw [if_neg (by rw [HOZ.out]; omega), if_neg (by rw [HOZ.out, HKK.out]; exact hfk)])
                        have hwk : IntKind.i64.wrap ((h : Int) - 1 - (kk : Int)) = (h : Int) - 1 - (kk : Int) := by rw [IntKind.wrap_i64]; omega
                        have HREN : Hid (Calls Try.prog 12 #[.pointer (some ⟨vb, 0, none⟩), .string os] w3 fun e w' => e = .returned (.int .i64 0) ∧ Below w.heap.size w3 w' ∧ PlL w.heap.size b vb n h (i + 1) w' os (.slice none 0 0) ((h : Int) - 1 - (kk : Int))) := Lib.hid (by
                          refine (pl_renew os HP3.out (by rw [HOZ.out]; omega) (by omega) HB3.out.size).mono ?_
                          rintro e w' ⟨he, hb, h1, h2⟩
                          rw [HFI.out] at he h1 h2
                          exact ⟨he, hb, by have h3 := h2 rfl; rw [HOZ.out, HKK.out] at h3; exact h3⟩)
                        go_wp2_with fail
                        refine HREN.out.mono ?_
                        rintro e w6 ⟨rfl, hb6, hp6⟩
                        have HP6 := Lib.hid hp6
                        have HB6 := Lib.hid (HB3.out.trans hb6)
                        clear hp6 hb6
                        have c1 := HC.out w6 HB6.out
                        have cI := pl_image HP6.out
                        go_wp2_with fail
                        refine cI.mono ?_
                        rintro e w7 ⟨rfl, rfl⟩
                        clear cI
                        have cR := pl_records HP6.out (by omega)
                        go_wp2_with fail
                        refine cR.mono ?_
                        rintro e w7 ⟨v7, rfl, hb7, cS⟩
                        have HB7 := Lib.hid hb7
                        clear hb7 cR
                        go_wp2_with fail
                        refine cS.mono ?_
                        rintro e w8 ⟨rfl, hb8⟩
                        have HB8 : Hid (Below w6.heap.size w6 w8) := Lib.hid (HB7.out.trans (hb8.mono HB7.out.size))
                        clear hb8 cS
                        have cM := pl_room (HP6.out.below HB8.out)
                        go_wp2_with fail
                        refine cM.mono ?_
                        rintro e w9 ⟨rfl, hb9⟩
                        have HB9 : Hid (Below w6.heap.size w6 w9) := Lib.hid (HB8.out.trans (hb9.mono HB8.out.size))
                        clear hb9 cM
                        have cO := pl_over (HP6.out.below HB9.out)
                        go_wp2_with fail
                        refine cO.mono ?_
                        rintro e w10 ⟨rfl, rfl⟩
                        clear cO
                        go_wp2
                        go_roundw
                        case rel => exact ⟨i + 1, _, _, _, by omega, rfl, rfl, rfl, by first | rfl | go_num, HP6.out.below HB9.out, HB6.out.trans (HB9.out.mono HB6.out.size)⟩
                        case measure => simp [intOf]; omega
                  · by_cases ho0 : oz = 0
                    · have HFI : Hid (apI r os = 4) := Lib.hid (by unfold apI; rw [if_pos (by rw [HOZ.out]; exact ho0)])
                      have hose := str_emp8 (s := os) (by rw [HOZ.out]; exact ho0)
                      clear ho0
                      have HAPP : Hid (Calls Try.prog 11 #[.pointer (some ⟨vb, 0, none⟩), .string os] w3 fun e w' => e = .returned (.int .i64 4) ∧ Below w.heap.size w3 w' ∧ PlL w.heap.size b vb n h (i + 1) w' img lv r) := Lib.hid (by
                        refine (pl_append os HP3.out (by rw [HOZ.out]; omega) (by omega) HB3.out.size).mono ?_
                        rintro e w' ⟨he, hb, h1, h2⟩
                        rw [HFI.out] at he h1 h2
                        exact ⟨he, hb, (h1 (by decide)).up (Nat.le_succ i)⟩)
                      go_wp2_with fail
                      refine HAPP.out.mono ?_
                      rintro e w6 ⟨rfl, hb6, hp6⟩
                      have HP6 := Lib.hid hp6
                      have HB6 := Lib.hid (HB3.out.trans hb6)
                      clear hp6 hb6
                      have c1 := (HC.out w6 HB6.out).2
                      have cI := pl_image HP6.out
                      go_wp2_with fail
                      refine cI.mono ?_
                      rintro e w7 ⟨rfl, rfl⟩
                      clear cI
                      have cR := pl_records HP6.out (by omega)
                      go_wp2_with fail
                      refine cR.mono ?_
                      rintro e w7 ⟨v7, rfl, hb7, cS⟩
                      have HB7 := Lib.hid hb7
                      clear hb7 cR
                      go_wp2_with fail
                      refine cS.mono ?_
                      rintro e w8 ⟨rfl, hb8⟩
                      have HB8 : Hid (Below w6.heap.size w6 w8) := Lib.hid (HB7.out.trans (hb8.mono HB7.out.size))
                      clear hb8 cS
                      have cM := pl_room (HP6.out.below HB8.out)
                      go_wp2_with fail
                      refine cM.mono ?_
                      rintro e w9 ⟨rfl, hb9⟩
                      have HB9 : Hid (Below w6.heap.size w6 w9) := Lib.hid (HB8.out.trans (hb9.mono HB8.out.size))
                      clear hb9 cM
                      have cO := pl_over (HP6.out.below HB9.out)
                      go_wp2_with fail
                      refine cO.mono ?_
                      rintro e w10 ⟨rfl, rfl⟩
                      clear cO
                      go_wp2
                      go_roundw
                      case rel => exact ⟨i + 1, _, _, _, by omega, rfl, rfl, rfl, by first | rfl | go_num, HP6.out.below HB9.out, HB6.out.trans (HB9.out.mono HB6.out.size)⟩
                      case measure => simp [intOf]; omega
                    · have hose := str_ne8 (s := os) (by rw [HOZ.out]; exact ho0)
                      by_cases hfk : r < (kk : Int)
                      · have HFI : Hid (apI r os = 11) := Lib.hid (by unfold apI; rw [if_neg (by rw [HOZ.out]; exact ho0), if_pos (by rw [HOZ.out, HKK.out]; exact hfk)])
                        have HAPP : Hid (Calls Try.prog 11 #[.pointer (some ⟨vb, 0, none⟩), .string os] w3 fun e w' => e = .returned (.int .i64 11) ∧ Below w.heap.size w3 w' ∧ PlL w.heap.size b vb n h (i + 1) w' img lv r) := Lib.hid (by
                          refine (pl_append os HP3.out (by rw [HOZ.out]; omega) (by omega) HB3.out.size).mono ?_
                          rintro e w' ⟨he, hb, h1, h2⟩
                          rw [HFI.out] at he h1 h2
                          exact ⟨he, hb, (h1 (by decide)).up (Nat.le_succ i)⟩)
                        go_wp2_with fail
                        refine HAPP.out.mono ?_
                        rintro e w6 ⟨rfl, hb6, hp6⟩
                        have HP6 := Lib.hid hp6
                        have HB6 := Lib.hid (HB3.out.trans hb6)
                        clear hp6 hb6
                        have c1 := (HC.out w6 HB6.out).2
                        have cI := pl_image HP6.out
                        go_wp2_with fail
                        refine cI.mono ?_
                        rintro e w7 ⟨rfl, rfl⟩
                        clear cI
                        have cR := pl_records HP6.out (by omega)
                        go_wp2_with fail
                        refine cR.mono ?_
                        rintro e w7 ⟨v7, rfl, hb7, cS⟩
                        have HB7 := Lib.hid hb7
                        clear hb7 cR
                        go_wp2_with fail
                        refine cS.mono ?_
                        rintro e w8 ⟨rfl, hb8⟩
                        have HB8 : Hid (Below w6.heap.size w6 w8) := Lib.hid (HB7.out.trans (hb8.mono HB7.out.size))
                        clear hb8 cS
                        have cM := pl_room (HP6.out.below HB8.out)
                        go_wp2_with fail
                        refine cM.mono ?_
                        rintro e w9 ⟨rfl, hb9⟩
                        have HB9 : Hid (Below w6.heap.size w6 w9) := Lib.hid (HB8.out.trans (hb9.mono HB8.out.size))
                        clear hb9 cM
                        have cO := pl_over (HP6.out.below HB9.out)
                        go_wp2_with fail
                        refine cO.mono ?_
                        rintro e w10 ⟨rfl, rfl⟩
                        clear cO
                        go_wp2
                        go_roundw
                        case rel => exact ⟨i + 1, _, _, _, by omega, rfl, rfl, rfl, by first | rfl | go_num, HP6.out.below HB9.out, HB6.out.trans (HB9.out.mono HB6.out.size)⟩
                        case measure => simp [intOf]; omega
                      · have HFI : Hid (apI r os = 0) := Lib.hid (by unfold apI; rw [if_neg (by rw [HOZ.out]; exact ho0), if_neg (by rw [HOZ.out, HKK.out]; exact hfk)])
                        have hwk : IntKind.i64.wrap (r - (kk : Int)) = r - (kk : Int) := by rw [IntKind.wrap_i64]; omega
                        have HAPP : Hid (Calls Try.prog 11 #[.pointer (some ⟨vb, 0, none⟩), .string os] w3 fun e w' => e = .returned (.int .i64 0) ∧ Below w.heap.size w3 w' ∧ ∃ rs, PlA w.heap.size b vb n h i w' img lv (r - (kk : Int)) os rs) := Lib.hid (by
                          refine (pl_append os HP3.out (by rw [HOZ.out]; omega) (by omega) HB3.out.size).mono ?_
                          rintro e w' ⟨he, hb, h1, h2⟩
                          rw [HFI.out] at he h1 h2
                          exact ⟨he, hb, by have h3 := h2 rfl; rw [HOZ.out, HKK.out] at h3; exact h3⟩)
                        go_wp2_with fail
                        refine HAPP.out.mono ?_
                        rintro e w6 ⟨rfl, hb6, hp6⟩
                        obtain ⟨rs6, hp6⟩ := hp6
                        have HP6 := Lib.hid hp6
                        have HB6 := Lib.hid (HB3.out.trans hb6)
                        clear hp6 hb6
                        have HQ6 : Hid (StrsIs w6 lv rs6 ∧ rs6.length ≤ 100) := Lib.hid (by
                          obtain ⟨_, _, _, _, _, _, _, h1, h2, _, _, h4, _⟩ := HP6.out
                          exact ⟨h4.strs, by omega⟩)
                        have HC6 : Hid (∀ W : World, Below w6.heap.size w6 W → W.cell? ⟨g, off + i * 6 + 1, none⟩ = some (.string os)) := Lib.hid (fun W hW => (HC.out W (HB6.out.trans (hW.mono HB6.out.size))).2)
                        have HLV : Hid (∀ W : World, Below w6.heap.size w6 W → StrsIs W lv rs6) := Lib.hid (fun W hW => HQ6.out.1.kept hW)
                        have hlen6 : 0 + rs6.length ≤ 100000 := by have := HQ6.out.2; omega
                        have hlen6b : 0 + rs6.length + [os].length ≤ 100000 := by have := HQ6.out.2; simp; omega
                        have c1 := HC6.out w6 (Below.refl _ _)
                        go_upto_region 31 with fail
                        go_cut [15] from 90 to 197 (fun c wx => RowAt w6.heap.size wx c (rs6 ++ [os]) ∧ Below w6.heap.size w6 wx)
                        case first =>
                          have c2 := HC6.out (w6.alloc A0) ((Below.refl _ _).alloc (Nat.le_refl _) _)
                          have c3 : w6.drew.cell? ⟨g, off + i * 6 + 1, none⟩ = some (.string os) := c1
                          have c4 : (w6.alloc A0).drew.cell? ⟨g, off + i * 6 + 1, none⟩ = some (.string os) := c2
                          go_region_law (first | (refine step_append_all rfl _ _ rfl w6.heap.size (.slice (some ⟨w6.heap.size, 0, none⟩) 0 0) 0 [] rfl (own_0 (w := w6)) ⟨_, _, _, rfl, Nat.le_refl _⟩ lv rs6 rfl (HLV.out _ (b_0 (w := w6))) hlen6 (b_0 (w := w6)).size ?_; intro v7 w7 ho7 hg7 hf7; obtain ⟨a7, k7, z7, hv7, hk7⟩ := hf7; subst hv7; have hb7 := app_below (b_0 (w := w6)) (own_0 (w := w6)) hg7; have c5 := HC6.out w7 hb7; have hb7a := hb7.alloc hb7.size (A1 os); have ho7a := ho7.alloc (A1 os)) | (refine step_append_all rfl _ _ rfl w6.heap.size (.slice (some ⟨w6.heap.size, 0, none⟩) 0 0) 0 [] rfl (own_01 (w := w6) (s := os)) ⟨_, _, _, rfl, Nat.le_refl _⟩ lv rs6 rfl (HLV.out _ (b_01 (w := w6) (s := os))) hlen6 (b_01 (w := w6) (s := os)).size ?_; intro v7 w7 ho7 hg7 hf7; obtain ⟨a7, k7, z7, hv7, hk7⟩ := hf7; subst hv7; have hb7 := app_below (b_01 (w := w6) (s := os)) (own_01 (w := w6) (s := os)) hg7; have hk7o := app_kept hg7 (one_01 (w := w6) (s := os)) (by omega) (lt_of_get (one_01 (w := w6) (s := os)))) | (refine step_append_all rfl _ _ rfl w6.heap.size (.slice (some ⟨w6.heap.size + 1, 0, none⟩) 0 0) 0 [] rfl (own_10 (w := w6) (s := os)) ⟨_, _, _, rfl, Nat.le_refl _⟩ lv rs6 rfl (HLV.out _ (b_10 (w := w6) (s := os))) hlen6 (b_10 (w := w6) (s := os)).size ?_; intro v7 w7 ho7 hg7 hf7; obtain ⟨a7, k7, z7, hv7, hk7⟩ := hf7; subst hv7; have hb7 := app_below (b_10 (w := w6) (s := os)) (own_10 (w := w6) (s := os)) hg7; have hk7o := app_kept hg7 (one_10 (w := w6) (s := os)) (by omega) (lt_of_get (one_10 (w := w6) (s := os)))) | (refine step_append_all rfl _ _ rfl w6.heap.size (.slice a7 k7 z7) (0 + rs6.length) ([] ++ rs6.map Value.string) rfl ho7a ⟨_, _, _, rfl, hk7⟩ (.slice (some ⟨w7.heap.size, 0, none⟩) 1 1) [os] rfl (strs_one (heap_alloc_new _ _)) hlen6b hb7a.size ?_; intro v8 w8 ho8 hg8 hf8; have hb8 := app_below hb7a ho7a hg8; clear hf8) | (refine step_append_all rfl _ _ rfl w6.heap.size (.slice a7 k7 z7) (0 + rs6.length) ([] ++ rs6.map Value.string) rfl ho7 ⟨_, _, _, rfl, hk7⟩ (.slice (some ⟨w6.heap.size + 1, 0, none⟩) 1 1) [os] rfl (strs_one hk7o) hlen6b hb7.size ?_; intro v8 w8 ho8 hg8 hf8; have hb8 := app_below hb7 ho7 hg8; clear hf8) | (refine step_append_all rfl _ _ rfl w6.heap.size (.slice a7 k7 z7) (0 + rs6.length) ([] ++ rs6.map Value.string) rfl ho7 ⟨_, _, _, rfl, hk7⟩ (.slice (some ⟨w6.heap.size, 0, none⟩) 1 1) [os] rfl (strs_one hk7o) hlen6b hb7.size ?_; intro v8 w8 ho8 hg8 hf8; have hb8 := app_below hb7 ho7 hg8; clear hf8))
                          all_goals
                            have HE := Lib.hid (And.intro (app_end (rs := rs6) (s := os) ho8 (by simp) (by simp)) hb8)
                            clear ho8 hb8
                            go_wp2
                            go_meet
                            exact HE.out
                        case rest =>
                          obtain ⟨hrow9, hb9⟩ := hcut
                          have HP11 : Hid (PlL w.heap.size b vb n h (i + 1) wc img _ (r - (kk : Int))) := Lib.hid (HP6.out.done hb9 hrow9 HB6.out.size)
                          have HB11 : Hid (Below w.heap.size w wc) := Lib.hid (HB6.out.trans (hb9.mono HB6.out.size))
                          clear hrow9 hb9
                          generalize wc = w11 at *
                          have cI := pl_image HP11.out
                          go_wp2_with fail
                          refine cI.mono ?_
                          rintro e w7 ⟨rfl, rfl⟩
                          clear cI
                          have cR := pl_records HP11.out (by omega)
                          go_wp2_with fail
                          refine cR.mono ?_
                          rintro e w7 ⟨v7, rfl, hb7, cS⟩
                          have HB7 := Lib.hid hb7
                          clear hb7 cR
                          go_wp2_with fail
                          refine cS.mono ?_
                          rintro e w8 ⟨rfl, hb8⟩
                          have HB8 : Hid (Below w11.heap.size w11 w8) := Lib.hid (HB7.out.trans (hb8.mono HB7.out.size))
                          clear hb8 cS
                          have cM := pl_room (HP11.out.below HB8.out)
                          go_wp2_with fail
                          refine cM.mono ?_
                          rintro e w9 ⟨rfl, hb9⟩
                          have HB9 : Hid (Below w11.heap.size w11 w9) := Lib.hid (HB8.out.trans (hb9.mono HB8.out.size))
                          clear hb9 cM
                          have cO := pl_over (HP11.out.below HB9.out)
                          go_wp2_with fail
                          refine cO.mono ?_
                          rintro e w10 ⟨rfl, rfl⟩
                          clear cO
                          go_wp2
                          go_roundw
                          case rel => exact ⟨i + 1, _, _, _, by omega, rfl, rfl, rfl, by first | rfl | go_num, HP11.out.below HB9.out, HB11.out.trans (HB9.out.mono HB11.out.size)⟩
                          case measure => simp [intOf]; omega
              · have hge : ¬ ((i : Int) < (L : Int)) := by omega
                have cO := pl_open HP.out HNN.out.1 HB.out.size
                go_wp2_with fail
                refine cO.mono ?_
                rintro e w3 ⟨vb3, rfl, hb3, hp3⟩
                have HB3 : Hid (Below w.heap.size w w3) := Lib.hid (HB.out.trans hb3)
                have HP3 := Lib.hid hp3
                clear hb3 hp3 cO
                have cI := pl_image HP3.out
                go_wp2_with fail
                refine cI.mono ?_
                rintro e w7 ⟨rfl, rfl⟩
                clear cI
                have cR := pl_records HP3.out (by omega)
                go_wp2_with fail
                refine cR.mono ?_
                rintro e w7 ⟨v7, rfl, hb7, cS⟩
                have HB7 := Lib.hid hb7
                clear hb7 cR
                go_wp2_with fail
                refine cS.mono ?_
                rintro e w8 ⟨rfl, hb8⟩
                have HB8 : Hid (Below w3.heap.size w3 w8) := Lib.hid (HB7.out.trans (hb8.mono HB7.out.size))
                clear hb8 cS
                have cM := pl_room (HP3.out.below HB8.out)
                go_wp2_with fail
                refine cM.mono ?_
                rintro e w9 ⟨rfl, hb9⟩
                have HB9 : Hid (Below w.heap.size w w9) := Lib.hid (HB3.out.trans ((HB8.out.trans (hb9.mono HB8.out.size)).mono HB3.out.size))
                clear hb9 cM
                go_wp2
                go_ret
                exact ⟨rfl, HB9.out⟩
  · have HNF := Lib.hid hF
    clear hF
    go_enter Try.func4, Try.ntmps4
    go_wp2_with fail
    refine cA.mono ?_
    rintro e w1 ⟨rfl, hb1⟩
    have HB1 := Lib.hid hb1
    have cF := HFW.out false w1 ⟨fun h => (by cases h), fun h => absurd h HNF.out⟩ hb1
    clear cA hb1
    go_wp2_with fail
    refine cF.mono ?_
    rintro e w2 ⟨rfl, hw2⟩
    subst hw2
    clear cF
    have cA2 := awake8_c w1
    go_wp2_with fail
    refine cA2.mono ?_
    rintro e w3 ⟨rfl, hb3⟩
    have HB3 := Lib.hid (HB1.out.trans (hb3.mono HB1.out.size))
    clear cA2 hb3
    go_wp2
    go_ret
    exact ⟨rfl, HB3.out⟩
end Go.Proofs.Ytmpfdmjbgabcdaa
