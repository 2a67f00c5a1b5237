/-
  The law BankScans.
-/
import Derived.Test.YtkmfblbkaihbdaaBkScKit
namespace Go.Proofs.Ytkmfblbkaihbdaa
open Go.RowKit Go.Sort
set_option linter.unusedVariables false

theorem recs_few : ∀ {R : List (List UInt8)}, (∀ r ∈ R, r ≠ [] ∧ r.length ≤ 60000) → R.length ≤ (layB R).length
  | [], _ => Nat.le_refl _
  | r :: R, h => by
    have h9 := recs_few (R := R) (fun q hq => h q (by simp [hq]))
    show R.length + 1 ≤ (cutB r ++ layB R).length
    have h8 := (h r (by simp)).1
    rw [List.length_append, cutB_cons h8, List.length_cons]
    omega
set_option maxHeartbeats 16000000 in
set_option maxRecDepth 100000 in
theorem scans7_walk (v1 v2 : Value) (x y : Int) (l1 l2 : List ByteArray) (w : World) (hv1 : StrsIs w v1 l1) (hv2 : StrsIs w v2 l2) (hl1 : l1.length ≤ 9223372036854775807) (hl2 : l2.length ≤ 9223372036854775807) (hx0 : 0 ≤ x) (hx1 : x ≤ 255) (hy0 : 0 ≤ y) (hy1 : y ≤ 255) :
    Calls Try.prog 5 #[v1, v2, .agg #[.int .u8 x, .int .u8 y]] w fun e w' => e = .returned (.bool true) ∧ Below w.heap.size w w' := by
  have cA := awake7_c
  obtain ⟨X, rfl⟩ : ∃ X : Nat, x = X := ⟨x.toNat, by omega⟩
  obtain ⟨Y, rfl⟩ : ∃ Y : Nat, y = Y := ⟨y.toNat, by omega⟩
  obtain ⟨I, hI⟩ : ∃ I, Y % 64 = I := ⟨_, rfl⟩
  have hI1 : (Y : Int) % 64 = (I : Int) := by omega
  have hI2 : (Y : Int).tmod 64 = (I : Int) := by rw [Int.tmod_eq_emod_of_nonneg (by omega)]; exact hI1
  have hIl : I < 64 := by omega
  have hIz : (I : Int) < 64 := by omega
  have hXw : IntKind.i64.wrap (X : Int) = (X : Int) := by rw [IntKind.wrap_i64]; omega
  clear hI hx0 hx1 hy0 hy1
  obtain ⟨a1, c1, rfl⟩ := hv1.len
  obtain ⟨a2, c2, rfl⟩ := hv2.len
  obtain ⟨m, hm⟩ : ∃ m, l1.length = m := ⟨_, rfl⟩
  obtain ⟨n, hn⟩ : ∃ n, l2.length = n := ⟨_, rfl⟩
  rw [hm] at hl1 hv1 ⊢
  rw [hn] at hl2 hv2 ⊢
  have HM := Lib.hid hm
  have HN := Lib.hid hn
  have HV1 := Lib.hid hv1
  have HV2 := Lib.hid hv2
  clear hm hn hv1 hv2
  obtain ⟨W0, hW0⟩ : ∃ W0, w.alloc (.cells #[.int .u8 (X : Int), .int .u8 (Y : Int)] 36) = W0 := ⟨_, rfl⟩
  have HB0 : Hid (Below w.heap.size w W0) := Lib.hid (by rw [← hW0]; exact (Below.refl _ _).alloc (Nat.le_refl _) _)
  have HC0 : Hid (W0.heap[w.heap.size]? = some (.cells #[.int .u8 (X : Int), .int .u8 (Y : Int)] 36 (0, 0))) := Lib.hid (by rw [← hW0]; exact heap_alloc_new _ _)
  have HBW : Hid (∀ W, Below W0.heap.size W0 W → Below w.heap.size w W) := Lib.hid (fun W hW => HB0.out.trans (hW.mono HB0.out.size))
  have HK : Hid (∀ W, Below W0.heap.size W0 W → W.cell? ⟨w.heap.size, 0, none⟩ = some (.int .u8 (X : Int)) ∧ W.cell? ⟨w.heap.size, 1, none⟩ = some (.int .u8 (Y : Int))) := Lib.hid (fun W hW => by
    have h1 : W.heap[w.heap.size]? = _ := (hW.block _ (lt_of_get HC0.out)).trans HC0.out
    exact ⟨by rw [cell_of_row _ _ _ _ _ _ h1]; rfl, by rw [cell_of_row _ _ _ _ _ _ h1]; rfl⟩)
  obtain ⟨gb, hgb⟩ : ∃ gb, w.heap.size = gb := ⟨_, rfl⟩
  by_cases g1 : 30 < m
  · have g1z : (30 : Int) < (m : Int) := by omega
    clear hgb
    go_enter Try.func5, Try.ntmps5
    go_wp2_with fail
    refine (cA _).mono ?_
    rintro e w1 ⟨rfl, hb1⟩
    try rw [hW0] at hb1
    have HB1 := Lib.hid hb1
    clear hb1 hW0
    go_wp2_with fail
    refine (cA _).mono ?_
    rintro e w2 ⟨rfl, hb2⟩
    have HB2 := Lib.hid (HBW.out _ (HB1.out.trans (hb2.mono HB1.out.size)))
    clear hb2
    go_wp2
    go_ret
    exact ⟨rfl, HB2.out⟩
  · have g1z : ¬ ((30 : Int) < (m : Int)) := by omega
    have g1d : decide ((30 : Int) < (m : Int)) = false := decide_eq_false g1z
    by_cases g2 : 6 < n
    · have g2z : (6 : Int) < (n : Int) := by omega
      clear hgb
      go_enter Try.func5, Try.ntmps5
      go_wp2_with fail
      refine (cA _).mono ?_
      rintro e w1 ⟨rfl, hb1⟩
      try rw [hW0] at hb1
      have HB1 := Lib.hid hb1
      clear hb1 hW0
      go_wp2_with fail
      refine (cA _).mono ?_
      rintro e w2 ⟨rfl, hb2⟩
      have HB2 := Lib.hid (HBW.out _ (HB1.out.trans (hb2.mono HB1.out.size)))
      clear hb2
      go_wp2
      go_ret
      exact ⟨rfl, HB2.out⟩
    · skip
      have g2z : ¬ ((6 : Int) < (n : Int)) := by omega
      have g2d : decide ((6 : Int) < (n : Int)) = false := decide_eq_false g2z
      go_enter Try.func5, Try.ntmps5
      go_wp2_with fail
      refine (cA _).mono ?_
      rintro e w1 ⟨rfl, hb1⟩
      try rw [hW0] at hb1
      have HB1 := Lib.hid hb1
      clear hb1 hW0 cA
      try rw [hgb]
      go_wp2
      go_loopw [8, 7] (fun iv ov wr => ∃ i : Nat, iv = .int .i64 i ∧ i ≤ n ∧ (layL (l2.take i)).length ≤ 5 * i ∧ (∃ o, o = ov ∧ wr.ownsRow W0.heap.size 9 1 o (layL (l2.take i)).length ((layL (l2.take i)).map Value.string)) ∧ Below W0.heap.size W0 wr) (fun iv _ _ => n - (intOf iv).toNat)
      case atStart => exact ⟨0, rfl, by omega, Nat.le_refl _, ⟨_, rfl, rfl, Or.inl ⟨rfl, rfl⟩⟩, HB1.out⟩
      case round =>
        obtain ⟨i, rfl, hi, hl5, ⟨lv, rfl, hown⟩, hb⟩ := hrel
        have HO := Lib.hid hown
        have HB := Lib.hid hb
        clear hown hb
        by_cases hin : i < n
        · have hiz : (i : Int) < (n : Int) := by omega
          obtain ⟨s, hs⟩ : ∃ s, l2[i]? = some s := ⟨_, List.getElem?_eq_getElem (by rw [HN.out]; exact hin)⟩
          obtain ⟨q2, o2, e9, hg2, k9⟩ := HV2.out.at hs
          subst e9
          have HS := Lib.hid hs
          have c0 : wr.cell? ⟨q2, o2 + i, none⟩ = some (.string s) := by rw [(HBW.out _ HB.out).cell (p := ⟨q2, o2 + i, none⟩) hg2]; exact k9
          obtain ⟨z, hz⟩ : ∃ z, s.size = z := ⟨_, rfl⟩
          have HZ := Lib.hid hz
          clear hs k9
          by_cases hz3 : 300 < z
          · have hz3z : (300 : Int) < (z : Int) := by omega
            have HBE := Lib.hid (HBW.out _ HB.out)
            go_wp2
            go_ret
            exact ⟨rfl, HBE.out⟩
          · have hz3z : ¬ ((300 : Int) < (z : Int)) := by omega
            have cC := cut7_c s wr (by omega)
            unfold CutPost at cC
            go_wp2_with fail
            refine cC.mono ?_
            rintro e w3 ⟨vc, rfl, hcown, hb3⟩
            have HB3 : Hid (Below W0.heap.size W0 w3) := Lib.hid (HB.out.trans (hb3.mono HB.out.size))
            have HO3 := Lib.hid (HO.out.kept (grown_of_belowB hb3 none) (by cases h : lv.ownBlock with | none => exact Or.inl rfl | some x => exact Or.inr (by simp)))
            rw [frV_framesL] at hcown
            have HCO := Lib.hid hcown
            have HFL : Hid ((framesL s).length = (cutB s.data.toList).length) := Lib.hid (by unfold framesL; rw [List.length_map])
            have HF5 : Hid ((cutB s.data.toList).length ≤ 5) := Lib.hid (by
              have h1 := framesL_length s
              rw [HFL.out] at h1
              have := HZ.out
              omega)
            have HLY : Hid (layL (l2.take (i + 1)) = layL (l2.take i) ++ framesL s) := Lib.hid (by rw [List.take_add_one, HS.out]; exact layL_snoc _ _)
            clear hcown hb3 cC c0
            go_wp2_with (at_builtin; refine append_strs rfl _ _ rfl W0.heap.size wr.heap.size (layL (l2.take i)).length (cutB s.data.toList).length lv (layL (l2.take i)) rfl HO3.out vc (framesL s) rfl HCO.out HFL.out ?c1 ?c2 ?_)
            case c1 => have := HF5.out; omega
            case c2 => exact HB3.out.size
            intro v' w4 hown' hgrow
            have HO4 : Hid (w4.ownsRow W0.heap.size 9 1 v' (layL (l2.take (i + 1))).length ((layL (l2.take (i + 1))).map Value.string)) := Lib.hid (by
              rw [HLY.out, List.length_append, HFL.out, List.map_append]
              exact hown')
            have HL4 : Hid ((layL (l2.take (i + 1))).length ≤ 5 * (i + 1)) := Lib.hid (by
              rw [HLY.out, List.length_append, HFL.out]
              have := HF5.out
              omega)
            have HB4 : Hid (Below W0.heap.size W0 w4) := Lib.hid (HB3.out.grown hgrow HB3.out.size (fun j hj => (HO3.out.lt j hj).1))
            clear hown' hgrow
            go_wp2
            go_roundw
            case rel => exact ⟨i + 1, by first | rfl | go_num, by omega, HL4.out, ⟨_, rfl, HO4.out⟩, HB4.out⟩
            case measure => simp [intOf]; omega
        · have hiz : ¬ ((i : Int) < (n : Int)) := by omega
          obtain ⟨fr, hfr⟩ : ∃ fr, layL (l2.take i) = fr := ⟨_, rfl⟩
          have HFS : Hid (∀ f ∈ fr, f.size = 64) := Lib.hid (fun f hf => by
            rw [← hfr] at hf
            obtain ⟨q, hq, rfl⟩ := List.mem_map.1 hf
            show q.toArray.size = 64
            rw [List.size_toArray]
            exact layB_all _ q hq)
          rw [hfr] at HO hl5
          obtain ⟨N, hN⟩ : ∃ N, fr.length = N := ⟨_, rfl⟩
          rw [hN] at HO hl5
          have HFN := Lib.hid hN
          obtain ⟨la, lc, rfl⟩ := (owned_len' HO.out hN).len
          rw [hN] at HO ⊢
          have hN30 : N ≤ 30 := by omega
          obtain ⟨K, hK⟩ : ∃ K, 1 + m + N = K := ⟨_, rfl⟩
          have hm1 : IntKind.i64.wrap ((1 : Int) + (m : Int)) = (1 : Int) + (m : Int) := by rw [IntKind.wrap_i64]; omega
          have hm2 : IntKind.i64.wrap ((1 : Int) + (m : Int) + (N : Int)) = (1 : Int) + (m : Int) + (N : Int) := by rw [IntKind.wrap_i64]; omega
          have HOF := HO
          clear hfr hN HO hl5
          have cN := newG ((1 : Int) + (m : Int) + (N : Int)) K (by unfold sizeI; omega) wr
          go_wp2_with fail
          refine cN.mono ?_
          rintro e w3 ⟨b, rfl, hd3, hb3⟩
          have HB3 : Hid (Below W0.heap.size W0 w3) := Lib.hid (HB.out.trans (hb3.mono HB.out.size))
          have HD3 := Lib.hid (hd3.base HB.out.size)
          have HO3 := Lib.hid (HOF.out.kept (grown_of_belowB hb3 none) (by cases h : (Value.slice la N lc).ownBlock with | none => exact Or.inl rfl | some x => exact Or.inr (by simp)))
          clear hd3 hb3 cN hi hiz hin
          go_wp2
          go_loopw [10] (fun iv wr => ∃ i : Nat, iv = .int .i64 i ∧ i ≤ N ∧ DevG W0.heap.size b K i wr ∧ wr.ownsRow W0.heap.size 9 1 (.slice la N lc) N (fr.map Value.string) ∧ Below W0.heap.size W0 wr) (fun iv _ => N - (intOf iv).toNat)
          case atStart => exact ⟨0, rfl, by omega, HD3.out, HO3.out, HB3.out⟩
          case round =>
            clear HB HOF HB3 HD3 HO3
            obtain ⟨i, rfl, hi, hd, hown, hb⟩ := hrel
            have HD := Lib.hid hd
            have HO := Lib.hid hown
            have HB := Lib.hid hb
            clear hd hown hb
            by_cases hin : i < N
            · have hiz : (i : Int) < (N : Int) := by omega
              obtain ⟨f, hfj⟩ : ∃ f, fr[i]? = some f := ⟨_, List.getElem?_eq_getElem (by rw [HFN.out]; exact hin)⟩
              obtain ⟨q3, o3, rfl, _, k3⟩ := (owned_len' HO.out HFN.out).at hfj
              have hfs : f.size = 64 := HFS.out f (List.mem_of_getElem? hfj)
              obtain ⟨cap, w3, hcv3, hby3, hb3⟩ := str_bytes wr f
              rw [hfs] at hcv3
              have HB3 : Hid (Below W0.heap.size W0 w3) := Lib.hid (HB.out.trans (hb3.mono HB.out.size))
              have HD3 := Lib.hid (HD.out.below hb3)
              have HO3 := Lib.hid (HO.out.kept (grown_of_belowB hb3 none) (by cases h : (Value.slice (some ⟨q3, o3, none⟩) N lc).ownBlock with | none => exact Or.inl rfl | some x => exact Or.inr (by simp)))
              have HBY3 := Lib.hid hby3
              have HL3 : Hid (f.data.toList.length = 64) := Lib.hid (by rw [Array.length_toList]; exact hfs)
              have HG3 : Hid (W0.heap.size ≤ wr.heap.size) := Lib.hid HB.out.size
              obtain ⟨k0, k1⟩ := HK.out w3 HB3.out
              rw [hgb] at k0 k1
              obtain ⟨jj, hjj⟩ : ∃ jj, 1 + i = jj := ⟨_, rfl⟩
              have hi1 : IntKind.i64.wrap ((1 : Int) + (i : Int)) = (jj : Int) := by rw [IntKind.wrap_i64]; omega
              have hi2 : (1 : Int) + (i : Int) = (jj : Int) := by omega
              have hjK : jj < K := by omega
              clear hjj
              clear hfj hb3 hby3
              generalize f.data.toList = fb at *
              generalize hgx : wr.heap.size = gx at *
              by_cases hXi : X = i
              · have hXb : ((X : Int) == (i : Int)) = true := by rw [beq_iff_eq]; omega
                obtain ⟨c, hc, hcell, hfz⟩ := HBY3.out.at (i := I) (by rw [HL3.out]; exact hIl)
                obtain ⟨v, hv, hxor⟩ := xor_u8 c 1
                have HBY4 : Hid (BytesAt (w3.setCell ⟨gx, I, none⟩ (.int .u8 (v : Int))) gx (fb.set I (UInt8.ofNat v))) := Lib.hid (HBY3.out.set (by rw [HL3.out]; exact hIl) hv)
                have HB4 : Hid (Below W0.heap.size W0 (w3.setCell ⟨gx, I, none⟩ (.int .u8 (v : Int)))) := Lib.hid (HB3.out.setCell (p := ⟨gx, I, none⟩) HG3.out _)
                have HD4 : Hid (DevG W0.heap.size b K i (w3.setCell ⟨gx, I, none⟩ (.int .u8 (v : Int)))) := Lib.hid (HD3.out.off (HBY3.out.offSet _) (by decide) (by decide) (by decide))
                have HO4 : Hid ((w3.setCell ⟨gx, I, none⟩ (.int .u8 (v : Int))).ownsRow W0.heap.size 9 1 (.slice (some ⟨q3, o3, none⟩) N lc) N (fr.map Value.string)) := Lib.hid (own_off HO3.out (by decide) (HBY3.out.offSet _))
                have HL4 : Hid ((fb.set I (UInt8.ofNat v)).length = 64) := Lib.hid (by rw [List.length_set]; exact HL3.out)
                have HXI := Lib.hid hXi
                clear hXi
                generalize fb.set I (UInt8.ofNat v) = fb4 at *
                generalize hw4 : w3.setCell ⟨gx, I, none⟩ (.int .u8 (v : Int)) = w4 at *
                have hcv := HBY4.out.conv (cap := cap) HL4.out
                obtain ⟨Tx, hTx⟩ : ∃ Tx : ByteArray, (⟨fb4.toArray⟩ : ByteArray) = Tx := ⟨_, rfl⟩
                rw [hTx] at hcv
                have HTS : Hid (Tx.size = 64) := Lib.hid (by
                  rw [← hTx]
                  show fb4.toArray.size = 64
                  rw [List.size_toArray]
                  exact HL4.out)
                clear hTx
                go_wp2_with fail
                refine (putG HD4.out jj Tx hjK HTS.out (by omega) HB4.out.size).mono ?_
                rintro e w5 ⟨rfl, hd5, hb5, ho5⟩
                have HB5 : Hid (Below W0.heap.size W0 w5) := Lib.hid (HB4.out.trans hb5)
                have HD5 := Lib.hid hd5
                have HO5 := Lib.hid (own_off HO4.out (by decide) ho5)
                clear hd5 hb5 ho5 hcv
                go_wp2
                go_roundw
                case rel => exact ⟨i + 1, by first | rfl | go_num, by omega, HD5.out, HO5.out, HB5.out⟩
                case measure => simp [intOf]; omega
              · have hXb : ((X : Int) == (i : Int)) = false := by rw [beq_eq_false_iff_ne]; omega
                have hcv := HBY3.out.conv (cap := cap) HL3.out
                obtain ⟨Tx, hTx⟩ : ∃ Tx : ByteArray, (⟨fb.toArray⟩ : ByteArray) = Tx := ⟨_, rfl⟩
                rw [hTx] at hcv
                have HTS : Hid (Tx.size = 64) := Lib.hid (by
                  rw [← hTx]
                  show fb.toArray.size = 64
                  rw [List.size_toArray]
                  exact HL3.out)
                clear hTx
                go_wp2_with fail
                refine (putG HD3.out jj Tx hjK HTS.out (by omega) HB3.out.size).mono ?_
                rintro e w5 ⟨rfl, hd5, hb5, ho5⟩
                have HB5 : Hid (Below W0.heap.size W0 w5) := Lib.hid (HB3.out.trans hb5)
                have HD5 := Lib.hid hd5
                have HO5 := Lib.hid (own_off HO3.out (by decide) ho5)
                clear hd5 hb5 ho5 hcv
                go_wp2
                go_roundw
                case rel => exact ⟨i + 1, by first | rfl | go_num, by omega, HD5.out, HO5.out, HB5.out⟩
                case measure => simp [intOf]; omega
            · have hiz : ¬ ((i : Int) < (N : Int)) := by omega
              have HDE : Hid (DevG W0.heap.size b K (N + 0) wr) := Lib.hid (by
                have h9 := HD.out
                rw [show i = N by omega] at h9
                exact h9)
              go_wp2
              go_loopw [12] (fun iv wr => ∃ i : Nat, iv = .int .i64 i ∧ i ≤ m ∧ DevG W0.heap.size b K (N + i) wr ∧ wr.ownsRow W0.heap.size 9 1 (.slice la N lc) N (fr.map Value.string) ∧ Below W0.heap.size W0 wr) (fun iv _ => m - (intOf iv).toNat)
              case atStart => exact ⟨0, rfl, by omega, HDE.out, HO.out, HB.out⟩
              case round =>
                clear HD HO HB HDE hi hiz hin
                obtain ⟨i, rfl, hi, hd, hown, hb⟩ := hrel
                have HD := Lib.hid hd
                have HO := Lib.hid hown
                have HB := Lib.hid hb
                clear hd hown hb
                by_cases hin : i < m
                · have hiz : (i : Int) < (m : Int) := by omega
                  obtain ⟨s, hs⟩ : ∃ s, l1[i]? = some s := ⟨_, List.getElem?_eq_getElem (by rw [HM.out]; exact hin)⟩
                  obtain ⟨q2, o2, e9, hg2, k9⟩ := HV1.out.at hs
                  subst e9
                  have c0 : wr.cell? ⟨q2, o2 + i, none⟩ = some (.string s) := by rw [(HBW.out _ HB.out).cell (p := ⟨q2, o2 + i, none⟩) hg2]; exact k9
                  clear hs k9
                  by_cases hs6 : s.size = 64
                  · have hsb : ((s.size : Int) == 64) = true := by rw [hs6]; rfl
                    have hN1 : IntKind.i64.wrap ((1 : Int) + (N : Int)) = (1 : Int) + (N : Int) := by rw [IntKind.wrap_i64]; omega
                    have hN2 : IntKind.i64.wrap ((1 : Int) + (N : Int) + (i : Int)) = ((1 + N + i : Nat) : Int) := by rw [IntKind.wrap_i64]; omega
                    have hN3 : (1 : Int) + (N : Int) + (i : Int) = ((1 + N + i : Nat) : Int) := by omega
                    have HS6 := Lib.hid hs6
                    have cP := putG HD.out (1 + N + i) s (by omega) hs6 (by omega) HB.out.size
                    obtain ⟨jj, hjj⟩ : ∃ jj, 1 + N + i = jj := ⟨_, rfl⟩
                    rw [hjj] at cP hN2 hN3
                    clear hs6 hjj
                    go_wp2_with fail
                    refine cP.mono ?_
                    rintro e w5 ⟨rfl, hd5, hb5, ho5⟩
                    have HB5 : Hid (Below W0.heap.size W0 w5) := Lib.hid (HB.out.trans hb5)
                    have HD5 := Lib.hid hd5
                    have HO5 := Lib.hid (own_off HO.out (by decide) ho5)
                    clear hd5 hb5 ho5 cP
                    go_wp2
                    go_roundw
                    case rel => exact ⟨i + 1, by first | rfl | go_num, by omega, HD5.out, HO5.out, HB5.out⟩
                    case measure => simp [intOf]; omega
                  · have hsb : ((s.size : Int) == 64) = false := by rw [beq_eq_false_iff_ne]; omega
                    have HDN : Hid (DevG W0.heap.size b K (N + (i + 1)) wr) := Lib.hid (by
                      obtain ⟨st, h1, h2, h3, h4, h5⟩ := HD.out
                      exact ⟨st, h1, h2, h3, h4, by omega⟩)
                    go_wp2
                    go_roundw
                    case rel => exact ⟨i + 1, by first | rfl | go_num, by omega, HDN.out, HO.out, HB.out⟩
                    case measure => simp [intOf]; omega
                · have hiz : ¬ ((i : Int) < (m : Int)) := by omega
                  have hst := HD.out
                  obtain ⟨st, hd, hg, hlim, hlen, hpend⟩ := hst
                  have cS1 := fun W (h : Dev W0.heap.size W b st) => sizeD h hlen
                  have HDS := Lib.hid hd
                  have cAl := all_c W0.heap.size b st K wr hd hg hlim hlen (by omega)
                  have hbl : (bytesL st.now).length = K := by unfold bytesL; rw [List.length_map, hlen]
                  obtain ⟨R, hR⟩ : ∃ R, scanB ((bytesL st.now).drop 1) = R := ⟨_, rfl⟩
                  obtain ⟨hEK, hwp⟩ := wiped_of hg hlim hlen (by omega) hR
                  have HNS := Lib.hid hg.szn
                  obtain ⟨E, hE⟩ : ∃ E, 1 + (layB R).length = E := ⟨_, rfl⟩
                  rw [hE] at hEK hwp
                  have ho : openI st ((0 : Nat) : Int) (K : Int) = 0 := openI_ok (free_gone hlim) (by omega) (by omega)
                  obtain ⟨st2, hst2⟩ : ∃ st2, wipesSt st E (K - E) = st2 := ⟨_, rfl⟩
                  rw [hst2] at hwp
                  have HWP := Lib.hid hwp
                  have cSc : Hid (∀ W, Dev W0.heap.size W b st → Calls Try.prog 14 #[.pointer (some ⟨b, 0, none⟩), .int .i64 0, .int .i64 K] W fun e w' => ∃ u, e = .returned (.tuple #[u, .int .i64 E, .int .i64 0]) ∧ w'.ownsRow W.heap.size 9 1 u R.length (frV R) ∧ Below W.heap.size W w') := Lib.hid (fun W h => by
                    have h1 := scan_ok W0.heap.size b st 0 K W h hg (free_gone hlim) ho (by omega)
                    rw [bankL_all hlen, hR, hE] at h1
                    exact h1)
                  have cSc2 : Hid (∀ W, Dev W0.heap.size W b st2 → Calls Try.prog 14 #[.pointer (some ⟨b, 0, none⟩), .int .i64 0, .int .i64 K] W fun e w' => ∃ u, e = .returned (.tuple #[u, .int .i64 E, .int .i64 0]) ∧ w'.ownsRow W.heap.size 9 1 u R.length (frV R) ∧ Below W.heap.size W w') := Lib.hid (fun W h => by
                    have hw := HWP.out
                    have ho2 : openI st2 ((0 : Nat) : Int) (K : Int) = 0 := openI_ok (free_gone hw.lim) (by omega) (by have := hw.len; omega)
                    have h1 := scan_ok W0.heap.size b st2 0 K W h hw.good (free_gone hw.lim) ho2 (by have := hw.len; omega)
                    rw [hw.scan, hE] at h1
                    exact h1)
                  have cWi : Hid (∀ W, Dev W0.heap.size W b st → W0.heap.size ≤ W.heap.size → Calls Try.prog 20 #[.pointer (some ⟨b, 0, none⟩), .int .i64 0, .int .i64 K, .int .i64 E] W fun e w' => e = .returned (.int .i64 0) ∧ Dev W0.heap.size w' b st2 ∧ Below W0.heap.size W w' ∧ Off devTs W w') := Lib.hid (fun W h hB => by
                    have h1 := wipe_ok W0.heap.size b st 0 K E E W h hg hlim ho (by omega) (by omega) (by omega) (by omega) hB
                    rw [Nat.zero_add, hst2] at h1
                    exact h1)
                  have cS2 := fun W (h : Dev W0.heap.size W b st2) => sizeD h HWP.out.len
                  have cRS : Hid (∀ W g1 c1, StrsIs W (.slice (some ⟨g1, 0, none⟩) K c1) st.now → K ≤ c1 → c1 ≤ maxLen → Calls Try.prog 17 #[.slice (some ⟨g1, 0, none⟩) K c1] W fun e w' => ∃ u, e = .returned (.tuple #[u, .int .i64 E]) ∧ w'.ownsRow W.heap.size 9 1 u R.length (frV R) ∧ Below W.heap.size W w') := Lib.hid (fun W g1 c1 hv h1 h2 => by
                    have h3 := scan7_c g1 0 K c1 st.now W hlen hv HNS.out (by omega) h1 h2
                    rw [hR, hE] at h3
                    exact h3)
                  have HRL : Hid (∀ (B : Nat) W u, W.ownsRow B 9 1 u R.length (frV R) → StrsIs W u (R.map fun f => (⟨f.toArray⟩ : ByteArray))) := Lib.hid (fun B W u h => strs_of_owns h)
                  have HRLn : Hid ((R.map fun f => (⟨f.toArray⟩ : ByteArray)).length ≤ 100) := Lib.hid (by
                    rw [List.length_map]
                    have h1 : R.length ≤ (layB R).length := recs_few (by rw [← hR]; exact scan_good _)
                    omega)
                  obtain ⟨RL, hRL⟩ : ∃ RL, (R.map fun f => (⟨f.toArray⟩ : ByteArray)) = RL := ⟨_, rfl⟩
                  rw [hRL] at HRL HRLn
                  have hE1 : 1 ≤ E := by omega
                  clear hd hg hlim hpend hwp ho hst2 hRL hR hE hbl
                  go_wp2_with fail
                  refine (cS1 _ HDS.out).mono ?_
                  rintro e w3 ⟨rfl, rfl⟩
                  go_wp2_with fail
                  refine cAl.mono ?_
                  rintro e w3 ⟨g3, cc3, rfl, hc31, hc32, hst3, hb3⟩
                  have HB3 : Hid (Below W0.heap.size W0 w3) := Lib.hid (HB.out.trans (hb3.mono HB.out.size))
                  have HD3 := Lib.hid (HDS.out.below hb3)
                  have HT3 := Lib.hid hst3
                  clear hb3 hst3 cAl
                  go_wp2_with fail
                  refine (cRS.out _ _ _ HT3.out hc31 hc32).mono ?_
                  rintro e w4 ⟨u4, rfl, hown4, hb4⟩
                  have HB4 : Hid (Below W0.heap.size W0 w4) := Lib.hid (HB3.out.trans (hb4.mono HB3.out.size))
                  have HD4 := Lib.hid (HD3.out.below hb4)
                  have HW4 := Lib.hid hown4
                  clear hb4 hown4
                  go_wp2_with fail
                  refine (cS1 _ HD4.out).mono ?_
                  rintro e w5 ⟨rfl, rfl⟩
                  go_wp2_with fail
                  refine (cSc.out _ HD4.out).mono ?_
                  rintro e w5 ⟨u5, rfl, hown5, hb5⟩
                  have HB5 : Hid (Below W0.heap.size W0 w5) := Lib.hid (HB4.out.trans (hb5.mono HB4.out.size))
                  have HD5 := Lib.hid (HD4.out.below hb5)
                  have HW5 := Lib.hid (HW4.out.kept (grown_of_belowB hb5 none) (by cases h : u4.ownBlock with | none => exact Or.inl rfl | some x => exact Or.inr (by simp)))
                  have HG5 := Lib.hid (HRL.out _ _ _ hown5)
                  have HV5 := Lib.hid (HRL.out _ _ _ HW5.out)
                  clear hb5 hown5
                  go_wp2_with fail
                  refine (same_c _ _ RL RL _ HG5.out HV5.out (by have := HRLn.out; omega) (by have := HRLn.out; omega) true ⟨fun _ => rfl, fun _ => rfl⟩).mono ?_
                  rintro e w6 ⟨rfl, hb6⟩
                  have HB6 : Hid (Below W0.heap.size W0 w6) := Lib.hid (HB5.out.trans (hb6.mono HB5.out.size))
                  have HD6 := Lib.hid (HD5.out.below hb6)
                  have HW6 := Lib.hid (HW5.out.kept (grown_of_belowB hb6 none) (by cases h : u4.ownBlock with | none => exact Or.inl rfl | some x => exact Or.inr (by simp)))
                  clear hb6
                  go_wp2_with fail
                  refine (cS1 _ HD6.out).mono ?_
                  rintro e w7 ⟨rfl, rfl⟩
                  go_wp2_with fail
                  refine (cWi.out _ HD6.out HB6.out.size).mono ?_
                  rintro e w7 ⟨rfl, hd7, hb7, ho7⟩
                  have HB7 : Hid (Below W0.heap.size W0 w7) := Lib.hid (HB6.out.trans hb7)
                  have HD7 := Lib.hid hd7
                  have HW7 := Lib.hid (own_off HW6.out (by decide) ho7)
                  clear hd7 hb7 ho7
                  go_wp2_with fail
                  refine (cS2 _ HD7.out).mono ?_
                  rintro e w8 ⟨rfl, rfl⟩
                  go_wp2_with fail
                  refine (cSc2.out _ HD7.out).mono ?_
                  rintro e w8 ⟨u8, rfl, hown8, hb8⟩
                  have HB8 : Hid (Below W0.heap.size W0 w8) := Lib.hid (HB7.out.trans (hb8.mono HB7.out.size))
                  have HD8 := Lib.hid (HD7.out.below hb8)
                  have HG8 := Lib.hid (HRL.out _ _ _ hown8)
                  have HW8 := Lib.hid ((HRL.out _ _ _ HW7.out).kept hb8)
                  clear hb8 hown8 cS1 cS2
                  go_wp2
                  go_loopw [18] (fun iv wr => ∃ i : Nat, iv = .int .i64 i ∧ E ≤ i ∧ i ≤ K ∧ Dev W0.heap.size wr b st2 ∧ StrsIs wr u8 RL ∧ StrsIs wr u4 RL ∧ Below W0.heap.size W0 wr) (fun iv _ => K - (intOf iv).toNat)
                  case atStart => exact ⟨E, rfl, Nat.le_refl _, by omega, HD8.out, HG8.out, HW8.out, HB8.out⟩
                  case round =>
                    obtain ⟨i, rfl, hEi, hiK, hd, hg, hw, hb⟩ := hrel
                    have HD := Lib.hid hd
                    have HG := Lib.hid hg
                    have HW := Lib.hid hw
                    have HB := Lib.hid hb
                    clear hd hg hw hb
                    by_cases hin : i < K
                    · have hiz : (i : Int) < (K : Int) := by omega
                      have hin4 : i < K := hin
                      have cZ := fun (W : World) (h : Below W0.heap.size W0 W) (hd : Dev W0.heap.size W b st2) => getZ hd HWP.out hEi hin4
                      have cS4 := sizeD HD.out HWP.out.len
                      have hm64 := made64
                      have hcz := zero_made wr
                      have hz6 : zero64.toList == zero64.toList := beq_self_eq_true _
                      have HALC : Hid (Below wr.heap.size wr (wr.alloc (.cells zb64 5))) := Lib.hid ((Below.refl _ _).alloc (Nat.le_refl _) _)
                      have HBN : Hid (Below W0.heap.size W0 (wr.alloc (.cells zb64 5))) := Lib.hid (HB.out.trans (HALC.out.mono HB.out.size))
                      have HDN := Lib.hid (HD.out.below HALC.out)
                      have HGN := Lib.hid (HG.out.kept HALC.out)
                      have HWN := Lib.hid (HW.out.kept HALC.out)
                      generalize zero64 = Z0 at *
                      go_wp2_with fail
                      refine cS4.mono ?_
                      rintro e w3 ⟨rfl, rfl⟩
                      go_wp2_with fail
                      refine (cZ _ HB.out HD.out).mono ?_
                      rintro e w4 ⟨rfl, rfl⟩
                      go_wp2
                      go_roundw
                      case rel => exact ⟨i + 1, by first | rfl | go_num, by omega, by omega, HDN.out, HGN.out, HWN.out, HBN.out⟩
                      case measure => simp [intOf]; omega
                    · have hiz : ¬ ((i : Int) < (K : Int)) := by omega
                      have hieK : i = K := by omega
                      have cS4 := sizeD HD.out HWP.out.len
                      clear hieK
                      go_wp2_with fail
                      refine cS4.mono ?_
                      rintro e w3 ⟨rfl, rfl⟩
                      go_wp2_with fail
                      refine (same_c _ _ RL RL _ HG.out HW.out (by have := HRLn.out; omega) (by have := HRLn.out; omega) true ⟨fun _ => rfl, fun _ => rfl⟩).mono ?_
                      rintro e w4 ⟨rfl, hb4⟩
                      have HB4 := Lib.hid (HBW.out _ (HB.out.trans (hb4.mono HB.out.size)))
                      clear hb4
                      go_wp2
                      go_ret
                      exact ⟨rfl, HB4.out⟩
end Go.Proofs.Ytkmfblbkaihbdaa
