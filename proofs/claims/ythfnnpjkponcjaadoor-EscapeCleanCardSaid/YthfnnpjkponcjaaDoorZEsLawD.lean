/-
  The law EscapeClean of stage 4, walked: it answers true; what lay in memory stays.  (wip/gen_eslawd.py writes this text.)
-/
import Derived.Test.YthfnnpjkponcjaaDoorZEsLawB
import Derived.Test.YthfnnpjkponcjaaDoorZEsCleanM
import Derived.Test.YthfnnpjkponcjaaDoorK2
namespace Go.Proofs.YthfnnpjkponcjaaDoor
open Go.RowKit Go.Sort
set_option linter.unusedVariables false

theorem clean_37 {l : List Int} {k : Nat} (hk : k < l.length) (h : cleanD (l.drop k) = true) : (l.getD k 0 = 37 → k + 2 < l.length ∧ cleanD (l.drop (k + 3)) = true) ∧ (l.getD k 0 ≠ 37 → reservedI (l.getD k 0) = false ∧ cleanD (l.drop (k + 1)) = true) := by
  have hd : l.drop k = l.getD k 0 :: l.drop (k + 1) := by rw [List.drop_eq_getElem_cons hk]; simp [List.getD_eq_getElem?_getD, List.getElem?_eq_getElem hk]
  have hl : (l.drop k).length = l.length - k := List.length_drop
  have h3 : l.drop (k + 3) = (l.drop (k + 1)).drop 2 := by rw [List.drop_drop]
  rw [h3]
  rw [hd] at h hl
  generalize l.getD k 0 = c at *
  generalize l.drop (k + 1) = t at *
  match t with
  | [] =>
    rw [cleanD.eq_2] at h
    simp only [Bool.and_eq_true, decide_eq_true_iff, Bool.not_eq_true'] at h
    exact ⟨fun e => absurd e h.1, fun _ => ⟨h.2, by rw [cleanD.eq_1]⟩⟩
  | [a] =>
    rw [cleanD.eq_3] at h
    simp only [Bool.and_eq_true, decide_eq_true_iff, Bool.not_eq_true'] at h
    exact ⟨fun e => absurd e h.1.1, fun _ => ⟨h.1.2, h.2⟩⟩
  | a :: b :: u =>
    rw [cleanD.eq_4] at h
    by_cases e : c = 37
    · rw [if_pos e] at h
      exact ⟨fun _ => ⟨by simp at hl; omega, h⟩, fun e' => absurd e e'⟩
    · rw [if_neg e] at h
      simp only [Bool.and_eq_true, Bool.not_eq_true'] at h
      exact ⟨fun e' => absurd e' e, fun _ => h⟩

set_option maxHeartbeats 4000000 in
set_option maxRecDepth 100000 in
theorem clean4_walk (x : Int) (hx0 : 0 ≤ x) (hx1 : x ≤ 255) (b : ByteArray) (hs : b.size ≤ 9223372036854775807) (w : World) (hT : Tabs w) :
    Calls Tryd.prog 7 #[.int .u8 x, .string b] w fun e w' => e = .returned (.bool true) ∧ Below w.heap.size w w' := by
  have cA := awake4_c w hT
  have HA : Hid (∀ w1, Below w.heap.size w w1 → Calls Tryd.prog 9 #[] w1 fun e w' => e = .returned (.bool true) ∧ Below w1.heap.size w1 w') := Lib.hid (fun w1 h1 => awake4_c w1 (hT.step h1))
  have HG : Hid (∀ w1, Calls Tryd.prog 10 #[.string b] w1 fun e w' => e = .returned (.bool (goodB b)) ∧ Below w1.heap.size w1 w') := Lib.hid (fun w1 => esGood_c b hs w1)
  obtain ⟨E, hE⟩ : ∃ E, x % 9 = E := ⟨_, rfl⟩
  have hE0 : 0 ≤ E := by omega
  have hE8 : E ≤ 8 := by omega
  have hwE : IntKind.i64.wrap E = E := by rw [IntKind.wrap_i64]; omega
  cases hg : goodB b with
  | false =>
    rw [hg] at HG
    clear hg hT
    go_enter Tryd.func7, Tryd.ntmps7
    go_wp2_with fail
    refine cA.mono ?_
    rintro e w1 ⟨rfl, hb1⟩
    have cG := HG.out w1
    go_wp2_with fail
    refine cG.mono ?_
    rintro e w2 ⟨rfl, hb2⟩
    have hb12 := below_step hb1 hb2
    have cA2 := HA.out w2 hb12
    go_wp2_with fail
    refine cA2.mono ?_
    rintro e w3 ⟨rfl, hb3⟩
    have HB := Lib.hid (below_step hb12 hb3)
    clear hb1 hb2 hb12 hb3 cA cG cA2
    go_wp2
    go_ret
    exact ⟨rfl, HB.out⟩
  | true =>
    have hsz := good_size hg
    have hlen := len_list b
    have hne : b.data.toList ≠ [] := by
      have h9 := hg
      rw [good_says] at h9
      simp only [Bool.and_eq_true, decide_eq_true_iff] at h9
      intro h8
      rw [h8] at hlen
      simp at hlen
      omega
    rw [hg] at HG
    have HP : Hid (∀ w1, Below w.heap.size w w1 → Calls Tryd.prog 11 #[.int .i64 E, .string b] w1 fun e w' => e = .returned (.string ⟨(presL E b.data.toList).toArray⟩) ∧ Below w1.heap.size w1 w') := Lib.hid (fun w1 h1 => present_c E hE0 hE8 b (by omega) w1 (hT.step h1))
    have hpl := presL_len hE0 b.data.toList
    have hru : runesL (⟨(presL E b.data.toList).toArray⟩ : ByteArray).data.toList = some (presC E (decide (E ≠ 8) || regL b.data.toList) b.data.toList.length b.data.toList []) := by
      show runesL (presL E b.data.toList) = _
      unfold presL
      rw [pres_join, runes_join, List.filter_eq_self.2]
      exact presC_isR hE0 _ _ _ [] (fun x hx => by cases hx)
    have HR : Hid (∀ w1, Calls Tryd.prog 15 #[.string ⟨(presL E b.data.toList).toArray⟩] w1 fun e w' => ∃ v, e = .returned (.tuple #[v, .bool true]) ∧ SliceOk w' v (presC E (decide (E ≠ 8) || regL b.data.toList) b.data.toList.length b.data.toList []) ∧ Below w1.heap.size w1 w') := Lib.hid (fun w1 => refAll_ok _ _ hru (by show (presL E b.data.toList).toArray.size ≤ 4000; simp; omega) w1)
    have hcl := presC_len hE0 (decide (E ≠ 8) || regL b.data.toList) b.data.toList.length b.data.toList [] (Nat.le_refl _)
    rw [List.length_nil] at hcl
    have HCL : Hid (cleanD (presC E (decide (E ≠ 8) || regL b.data.toList) b.data.toList.length b.data.toList []) = true) := Lib.hid (clean_presC _ _ _ _ (fun c hc => by cases hc))
    have hlast := last_presC hE0 (decide (E ≠ 8) || regL b.data.toList) b.data.toList.length b.data.toList [] (Nat.le_refl _) hne
    have HFX : Hid (E = 8 → FixT (presC E (decide (E ≠ 8) || regL b.data.toList) b.data.toList.length b.data.toList [])) := Lib.hid (fun e => by rw [e]; exact pres_fix _ _)
    clear hru
    generalize presC E (decide (E ≠ 8) || regL b.data.toList) b.data.toList.length b.data.toList [] = L at *
    generalize (⟨(presL E b.data.toList).toArray⟩ : ByteArray) = P at *
    obtain ⟨n, hn⟩ : ∃ n, L.length = n + 1 := by
      obtain ⟨B, z, hz, _⟩ := hlast
      exact ⟨B.length, by rw [hz]; simp⟩
    have hzz : L.getD n 0 ≠ 46 ∧ L.getD n 0 ≠ 32 := by
      obtain ⟨B, z, hz, h1⟩ := hlast
      have e : n = B.length := by
        have := hn
        rw [hz] at this
        simp at this
        omega
      rw [hz, e]
      simpa [List.getD_eq_getElem?_getD] using h1
    have hn9 : n + 1 ≤ 900 := by omega
    obtain ⟨z, hz⟩ : ∃ z, L.getD n 0 = z := ⟨_, rfl⟩
    rw [hz] at hzz
    have HZ := Lib.hid hz
    have HN := Lib.hid hn
    have ez46 : (z == 46) = false := by rw [beq_eq_false_iff_ne]; exact hzz.1
    have ez32 : (z == 32) = false := by rw [beq_eq_false_iff_ne]; exact hzz.2
    have hl0 : (((n + 1 : Nat) : Int) == 0) = false := by rw [beq_eq_false_iff_ne]; omega
    have hl0' : (((n : Int) + 1) == 0) = false := by rw [beq_eq_false_iff_ne]; omega
    have hw1 : IntKind.i64.wrap (((n + 1 : Nat) : Int) - 1) = (n : Int) := by rw [IntKind.wrap_i64]; omega
    have hw1' : IntKind.i64.wrap ((n : Int) + 1 - 1) = (n : Int) := by rw [IntKind.wrap_i64]; omega
    have q0 : (0 : Int) ≤ (n : Int) := by omega
    have q1 : (n : Int) < (n : Int) + 1 := by omega
    have q2 : (n : Int) < ((n + 1 : Nat) : Int) := by omega
    clear hg hT hsz hlen hne hpl hcl hlast hzz hz hn
    go_enter Tryd.func7, Tryd.ntmps7
    go_wp2_with fail
    refine cA.mono ?_
    rintro e w1 ⟨rfl, hb1⟩
    have cG := HG.out w1
    go_wp2_with fail
    refine cG.mono ?_
    rintro e w2 ⟨rfl, hb2⟩
    have hb12 := below_step hb1 hb2
    have cP := HP.out w2 hb12
    go_wp2_with fail
    refine cP.mono ?_
    rintro e w3 ⟨rfl, hb3⟩
    have cR := HR.out w3
    have hb13 := below_step hb12 hb3
    go_wp2_with fail
    refine cR.mono ?_
    rintro e w4 ⟨v, rfl, hv, hb4⟩
    have HB4 := Lib.hid (below_step hb13 hb4)
    have HV := Lib.hid hv
    have hform : ∃ g off cap, v = .slice (some ⟨g, off, none⟩) (n + 1) cap ∧ g < w4.heap.size ∧ ∀ j, j < n + 1 → w4.cell? ⟨g, off + j, none⟩ = some (.int .i32 (L.getD j 0)) := by
      rcases hv.1 with ⟨h0, _⟩ | ⟨g, off, cap, hgw, hvv, hc⟩
      · have := HN.out
        rw [h0] at this
        simp at this
      · rw [HN.out] at hvv hc
        exact ⟨g, off, cap, hvv, hgw, hc⟩
    obtain ⟨g, off, cap, rfl, hgw, hc⟩ := hform
    have cz := hc n (by omega)
    rw [HZ.out] at cz
    have HC := Lib.hid hc
    clear hb1 hb2 hb12 hb3 hb13 hb4 cA cG cP cR hv hc
    go_wp2_with fail
    go_loopg [9] (n + 1) (fun gk iv wr => ∃ k : Nat, k + gk = n + 1 ∧ iv = .int .i64 k ∧ cleanD (L.drop k) = true ∧ Below w4.heap.size w4 wr)
    case atStart => exact ⟨0, by omega, rfl, by rw [List.drop_zero]; exact HCL.out, Below.refl _ _⟩
    case round =>
      obtain ⟨k, hkg, rfl, hcln, hbel⟩ := hrel
      have HK := Lib.hid hcln
      clear hcln
      by_cases hlt : k < n + 1
      · have hltz : (k : Int) < ((n + 1 : Nat) : Int) := by omega
        have hltz' : (k : Int) < (n : Int) + 1 := by omega
        have k0 : (0 : Int) ≤ (k : Int) := by omega
        have c0 := HC.out k hlt
        have hst := clean_37 (by rw [HN.out]; exact hlt) HK.out
        obtain ⟨c, hcc⟩ : ∃ c, L.getD k 0 = c := ⟨_, rfl⟩
        rw [hcc] at c0 hst
        have d0 : wr.cell? ⟨g, off + k, none⟩ = some (.int .i32 c) := by rw [hbel.cell (p := ⟨g, off + k, none⟩) hgw]; exact c0
        rw [HN.out] at hst
        by_cases h37 : c = 37
        · have h1 := hst.1 h37
          subst h37
          have HNX := Lib.hid h1.2
          have hk2 := h1.1
          have hw2 : IntKind.i64.wrap ((k : Int) + 2) = (k : Int) + 2 := by rw [IntKind.wrap_i64]; omega
          have hge : ¬ (((n + 1 : Nat) : Int) ≤ (k : Int) + 2) := by omega
          have hge' : ¬ ((n : Int) + 1 ≤ (k : Int) + 2) := by omega
          clear hst h1 hcc c0
          go_wp2
          go_roundg (n + 1 - (k + 3))
          case measure => omega
          case rel => exact ⟨k + 3, by omega, by first | rfl | go_num, HNX.out, hbel⟩
        · have h1 := hst.2 h37
          have e37 : (c == 37) = false := by rw [beq_eq_false_iff_ne]; exact h37
          have HNX := Lib.hid h1.2
          have cRs := esRes_c c wr
          rw [h1.1] at cRs
          clear hst h1 hcc c0 h37
          go_wp2_with fail
          refine cRs.mono ?_
          rintro e w5 ⟨rfl, hb5⟩
          have HB5 : Hid (Below w4.heap.size w4 w5) := Lib.hid (hbel.trans (hb5.mono hbel.size))
          clear hb5 cRs hbel
          go_wp2
          go_roundg (n + 1 - (k + 1))
          case measure => omega
          case rel => exact ⟨k + 1, by omega, by first | rfl | go_num, HNX.out, HB5.out⟩
      · have hke : k = n + 1 := by omega
        have hge : ¬ ((k : Int) < ((n + 1 : Nat) : Int)) := by omega
        have hge' : ¬ ((k : Int) < (n : Int) + 1) := by omega
        have HBR : Hid (Below w.heap.size w wr) := Lib.hid (HB4.out.trans (hbel.mono HB4.out.size))
        have hvr := (HV.out.kept hbel).1
        clear hke hlt hkg hbel
        by_cases h8 : E = 8
        · have hfx : togI L = L := HFX.out h8
          have e8 : (E != 8) = false := by rw [h8]; rfl
          have cT := together_c L (.slice (some ⟨g, off, none⟩) (n + 1) cap) wr hvr (by rw [HN.out]; omega)
          unfold TogPost at cT
          rw [hfx] at cT
          have HS : Hid (∀ v2 w2, SliceIs w2 v2 L → SliceIs w2 (.slice (some ⟨g, off, none⟩) (n + 1) cap) L → Calls Tryd.prog 17 #[v2, .slice (some ⟨g, off, none⟩) (n + 1) cap] w2 fun e w' => e = .returned (.bool true) ∧ Below w2.heap.size w2 w') := Lib.hid (fun v2 w2 h1 h2 => by
            have := same_c h1 h2 (by rw [HN.out]; omega)
            rw [decide_eq_true rfl] at this
            exact this)
          have HVR := Lib.hid hvr
          clear hfx h8 hvr
          go_wp2_with fail
          refine cT.mono ?_
          rintro e w5 ⟨v5, rfl, hv5, hb5⟩
          have cS := HS.out v5 w5 hv5 (HVR.out.kept hb5)
          have HB5 : Hid (Below w.heap.size w w5) := Lib.hid (HBR.out.trans (hb5.mono HBR.out.size))
          clear hb5 cT hv5
          go_wp2_with fail
          refine cS.mono ?_
          rintro e w6 ⟨rfl, hb6⟩
          have HB6 : Hid (Below w.heap.size w w6) := Lib.hid (HB5.out.trans (hb6.mono HB5.out.size))
          clear hb6 cS
          go_wp2
          go_ret
          exact ⟨rfl, HB6.out⟩
        · have e8 : (E != 8) = true := by rw [bne_iff_ne]; exact h8
          clear h8 hvr
          go_wp2
          go_ret
          exact ⟨rfl, HBR.out⟩
end Go.Proofs.YthfnnpjkponcjaaDoor
