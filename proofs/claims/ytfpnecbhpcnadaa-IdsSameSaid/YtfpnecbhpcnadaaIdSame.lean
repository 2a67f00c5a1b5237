/-
  The law IdsSame of stage 9, walked: it answers true; what lay in memory stays.
-/
import Derived.Test.YtfpnecbhpcnadaaIdSameM
import Derived.Deep.RegionHeld3
import Derived.Deep.CutRange
import Derived.Deep.CutBlock
namespace Go.Proofs.Ytfpnecbhpcnadaa
open Go.RowKit Go.Sort
set_option linter.unusedVariables false

set_option maxHeartbeats 8000000 in
set_option maxRecDepth 100000 in
theorem same9_walk (most : Int) (k1 : 0 ≤ most) (k2 : most ≤ 255) (v2 : Value) (l2 : List Int) (w : World) (hv2 : NumsIs w v2 l2) (hl2 : l2.length ≤ 9223372036854775807) :
    Calls Try.prog 4 #[.int .u8 most, v2] w fun e w' => e = .returned (.bool true) ∧ Below w.heap.size w w' := by
  have cA := awake9_c w
  obtain ⟨a2, cap2, rfl⟩ := hv2.len
  have HV2 := Lib.hid hv2
  obtain ⟨n2, hn2⟩ : ∃ n, l2.length = n := ⟨_, rfl⟩
  have HN2 := Lib.hid hn2
  rw [hn2] at hl2 ⊢
  clear hv2 hn2
  by_cases hz : (100 : Int) < (n2 : Int)
  · have hzd : decide ((100 : Int) < (n2 : Int)) = true := decide_eq_true hz
    have cB : ∀ w1 : World, Calls Try.prog 5 #[] w1 fun e w' => e = .returned (.bool true) ∧ Below w1.heap.size w1 w' := awake9_c
    go_enter Try.func4, Try.ntmps4
    go_wp2_with fail
    refine cA.mono ?_
    rintro e w1 ⟨rfl, hb1⟩
    have HB1 := Lib.hid hb1
    have cC := cB w1
    clear hb1 cA cB
    go_wp2_with fail
    refine cC.mono ?_
    rintro e w2 ⟨rfl, hb2⟩
    have HB2 : Hid (Below w.heap.size w w2) := Lib.hid (HB1.out.trans (hb2.mono HB1.out.size))
    clear hb2 cC
    go_wp2
    go_ret
    exact ⟨rfl, HB2.out⟩
  · have hzd : decide ((100 : Int) < (n2 : Int)) = false := decide_eq_false hz
    have hs2 : n2 ≤ 100 := by omega
    go_enter Try.func4, Try.ntmps4
    go_wp2_with fail
    refine cA.mono ?_
    rintro e w1 ⟨rfl, hb1⟩
    have HB1 := Lib.hid hb1
    have cN := new_c most (.slice none 0 0) [] w1 (Or.inl ⟨rfl, none, 0, rfl⟩) (by decide)
    unfold NewPost at cN
    obtain ⟨M, hM⟩ : ∃ M, mostN most = M := ⟨_, rfl⟩
    have hMM := mostN_le most
    have HM := Lib.hid hM
    rw [hM] at cN hMM
    clear hb1 cA hM hzd hz
    go_wp2_with fail
    refine cN.mono ?_
    rintro e w2 ⟨b, v, rfl, hb, hP⟩
    have HP2 := Lib.hid hP
    have HBW : Hid (w.heap.size ≤ b) := Lib.hid (Nat.le_trans HB1.out.size hb)
    have HB2 : Hid (Below w.heap.size w w2) := Lib.hid (HB1.out.trans (hP.keep.below HBW.out HB1.out.size (fun k hk => by cases hk)))
    clear cN hP hb
    obtain ⟨B, hB⟩ : ∃ B, w.heap.size = B := ⟨_, rfl⟩
    have HBB := Lib.hid hB
    rw [hB] at HBW HB2
    clear hB
    go_wp2
    go_loopw [6, 7] (fun ov iv wr => ∃ (k : Nat) (l : List Bool) (vp : Value) (L : List Int) (w0 : World) (r : Option Nat), k ≤ n2 ∧ iv = .int .i64 k ∧ L.length ≤ k ∧ OwnN B wr ov L ∧ ApartV ov vp ∧ HasOut M l L ∧ PoolIs w0 r M b wr vp l ∧ Below B w wr) (fun _ iv _ => n2 - (intOf iv).toNat)
    case atStart => exact ⟨0, mkRow M [], v, [], w1, none, by omega, rfl, by simp, ⟨rfl, Or.inl ⟨rfl, rfl⟩⟩, ApartV.nil.symm, HasOut.nil M, HP2.out, HB2.out⟩
    case round =>
      obtain ⟨k, l, vp, L, w0, r, hk, rfl, hLk, hown, hap, hho, hp, hb⟩ := hrel
      clear HP2 HB2
      have HP := Lib.hid hp
      have HO := Lib.hid hown
      have HA := Lib.hid hap
      have HH := Lib.hid hho
      have HB := Lib.hid hb
      have HL := Lib.hid hp.len2.1
      obtain ⟨a6, cap6, hv6⟩ := hown.len
      obtain ⟨n6, hn6⟩ : ∃ n6, L.length = n6 := ⟨_, rfl⟩
      have HN6 := Lib.hid hn6
      rw [hn6] at hv6 hLk
      subst hv6
      have hBs : B ≤ wr.heap.size := by have := hb.size; have := HBB.out; omega
      clear hp hown hap hho hb hn6
      by_cases hkn : k < n2
      · have hkz : (k : Int) < (n2 : Int) := by omega
        obtain ⟨g, off, rfl, hg, hc1⟩ := HV2.out.at (j := k) (by rw [HN2.out]; exact hkn)
        have c1 : wr.cell? ⟨g, off + k, none⟩ = some (.int .i64 (l2.getD k 0)) := by rw [HB.out.cell (p := ⟨g, off + k, none⟩) (by rw [← HBB.out]; exact hg)]; exact hc1
        have HCG : Hid (∀ w' : World, Below B w w' → w'.cell? ⟨g, off + k, none⟩ = some (.int .i64 (l2.getD k 0))) := Lib.hid (fun w' hb' => by rw [hb'.cell (p := ⟨g, off + k, none⟩) (by rw [← HBB.out]; exact hg)]; exact hc1)
        clear hc1
        generalize l2.getD k 0 = x at *
        by_cases hx : x ≤ 0
        · have hxd : decide (x ≤ 0) = true := decide_eq_true hx
          have cT0 := fun h0 : leastN M l = 0 => take_zero HP.out.now h0
          have cT1 := fun h0 : leastN M l ≠ 0 => take_some HP.out.now h0
          have HLE : Hid (leastN M l ≤ M) := Lib.hid (leastN_le M l)
          by_cases hfull : leastN M l = 0
          · have cT := cT0 hfull
            clear cT0 cT1 hfull
            go_wp2_with (go_at_call 10; refine cT.mono ?_; rintro e w5 ⟨rfl, hp5⟩; have HP5 := Lib.hid hp5; clear hp5)
            have HB5 : Hid (Below B w w5) := Lib.hid (HP.out.under HP5.out HBW.out HB.out)
            obtain ⟨h1, h2⟩ := HO.out.beside HP.out HP5.out HA.out
            have H1 := Lib.hid h1
            have H2 := Lib.hid h2
            clear h1 h2 cT
            go_roundw
            case rel => exact ⟨k + 1, l, vp, L, wr, vp.ownBlock, by omega, by first | rfl | go_num, by rw [HN6.out]; omega, H1.out, H2.out, HH.out, HP5.out, HB5.out⟩
            case measure => simp [intOf]; omega
          · have cT := cT1 hfull
            clear cT0 cT1
            obtain ⟨n, hn⟩ : ∃ n, leastN M l = n := ⟨_, rfl⟩
            have hn0 : 1 ≤ n := by rw [← hn]; omega
            have hnM : n ≤ M := by rw [← hn]; exact HLE.out
            rw [hn] at cT
            clear hfull hn
            go_upto_region 11 with (go_at_call 10; refine cT.mono ?_; rintro e w5 ⟨rfl, v5, hp5⟩; have HP5 := Lib.hid hp5; clear hp5)
            have HB5 : Hid (Below B w w5) := Lib.hid (HP.out.under HP5.out HBW.out HB.out)
            obtain ⟨h1, h2⟩ := HO.out.beside HP.out HP5.out HA.out
            have H1 := Lib.hid h1
            have H2 := Lib.hid h2
            have hBs5 : B ≤ w5.heap.size := by have := HB5.out.size; have := HBB.out; omega
            have hba : Below w5.heap.size w5 (w5.alloc (.cells #[.int .i64 (n : Int)] 3)) := (Below.refl _ w5).alloc (Nat.le_refl _) _
            have HBA := Lib.hid hba
            have HOA := Lib.hid (h1.below hba)
            have HPA := Lib.hid (HP5.out.below hba)
            have HCA : Hid (∀ j, j < [(n : Int)].length → (w5.alloc (.cells #[.int .i64 (n : Int)] 3)).cell? ((⟨w5.heap.size, 0, none⟩ : Addr).add j) = some (.int .i64 ([(n : Int)].getD j 0))) := Lib.hid (fun j hj => by
              have : j = 0 := by simp at hj; omega
              subst this
              rw [addN, Lib.cell_of_heap (heap_alloc_new _ _)]
              rfl)
            have HSA : Hid (B ≤ (w5.alloc (.cells #[.int .i64 (n : Int)] 3)).heap.size) := Lib.hid (by have := hba.size; omega)
            clear h1 h2 cT hba
            go_wp2_with (at_builtin; refine appendN 22 Try.underlying22 rfl _ _ rfl B _ L rfl HOA.out ⟨w5.heap.size, 0, none⟩ 1 1 [(n : Int)] rfl rfl HCA.out (by rw [HN6.out]; simp; omega) HSA.out ?_; intro v9 w9 hown9 hg9 hr9; have HO9 := Lib.hid hown9; have HG9 := Lib.hid hg9; have HR9 := Lib.hid hr9; clear hown9 hg9 hr9)
            have HP9 : Hid (PoolIs w9 v5.ownBlock M b w9 v5 (l.set n true)) := Lib.hid (HPA.out.grown HG9.out (fun e => by
                obtain ⟨cs, hp⟩ := HPA.out.isPool
                obtain ⟨cs2, hc⟩ := HOA.out.isRow e
                exact block_ne hp hc (by decide) rfl) (fun q hq e => H2.out q e hq))
            have HA9 : Hid (ApartV v9 v5) := Lib.hid (fun q hq e => by
                rcases HR9.out q hq with h | h
                · exact H2.out q h e
                · have := (HPA.out.row q e).2.2
                  omega)
            have HB9 : Hid (Below B w w9) := Lib.hid ((HB5.out.trans (HBA.out.mono hBs5)).grown HG9.out HSA.out (fun q hq => (HOA.out.lt q hq).1))
            have HH9 := Lib.hid (HH.out.more HL.out hMM hn0 hnM)
            go_roundw
            case rel => exact ⟨k + 1, l.set n true, v5, L ++ [(n : Int)], w9, v5.ownBlock, by omega, by first | rfl | go_num, by rw [List.length_append, HN6.out]; simp; omega, HO9.out, HA9.out, HH9.out, HP9.out, HB9.out⟩
            case measure => simp [intOf]; omega
        · have hxd : decide (x ≤ 0) = false := decide_eq_false hx
          obtain ⟨t, ht⟩ : ∃ t, isOut M l x = t := ⟨_, rfl⟩
          have HT := Lib.hid ht
          have cG := give_c wr vp.ownBlock M b vp l x wr HP.out.now t ht
          clear ht
          cases t with
          | false =>
            go_wp2_with (go_at_call 8; refine cG.mono ?_; rintro e w5 ⟨rfl, v5, hp5⟩; rw [if_neg (by simp)] at hp5; have HP5 := Lib.hid hp5; clear hp5)
            have HB5 : Hid (Below B w w5) := Lib.hid (HP.out.under HP5.out HBW.out HB.out)
            obtain ⟨h1, h2⟩ := HO.out.beside HP.out HP5.out HA.out
            have H1 := Lib.hid h1
            have H2 := Lib.hid h2
            clear h1 h2 cG
            go_roundw
            case rel => exact ⟨k + 1, l, v5, L, wr, vp.ownBlock, by omega, by first | rfl | go_num, by rw [HN6.out]; omega, H1.out, H2.out, HH.out, HP5.out, HB5.out⟩
            case measure => simp [intOf]; omega
          | true =>
            obtain ⟨i, rfl⟩ : ∃ i : Nat, x = i := ⟨x.toNat, by omega⟩
            have hiM : 1 ≤ i ∧ i ≤ M := by
              have := HT.out
              unfold isOut at this
              simp only [Bool.and_eq_true, decide_eq_true_eq] at this
              omega
            go_upto_region 13 with (go_at_call 8; refine cG.mono ?_; rintro e w5 ⟨rfl, v5, hp5⟩; rw [if_pos rfl, Int.toNat_natCast] at hp5; have HP5 := Lib.hid hp5; clear hp5)
            have HB5 : Hid (Below B w w5) := Lib.hid (HP.out.under HP5.out HBW.out HB.out)
            obtain ⟨h1, h2⟩ := HO.out.beside HP.out HP5.out HA.out
            have H1 := Lib.hid h1
            have hBs5 : B ≤ w5.heap.size := by have := HB5.out.size; have := HBB.out; omega
            have HH9 := Lib.hid (HH.out.less HL.out hMM hiM.1 hiM.2)
            clear h1 h2 cG
            have HP5n := Lib.hid HP5.out.now
            clear HP5
            have HP5 := HP5n
            clear HP5n
            go_wp2
            go_loopw [10, 11] (fun lv iv wr => ∃ q : Nat, q ≤ n6 ∧ iv = .int .i64 q ∧ OwnN w5.heap.size wr lv ((L.take q).filter (fun y => !(y == (i : Int)))) ∧ Below w5.heap.size w5 wr) (fun _ iv _ => n6 - (intOf iv).toNat)
            case atStart => exact ⟨0, by omega, rfl, ⟨rfl, Or.inl ⟨rfl, rfl⟩⟩, Below.refl _ _⟩
            case round =>
              obtain ⟨q, hq, rfl, hlo, hbq⟩ := hrel
              have HLO := Lib.hid hlo
              have HBQ := Lib.hid hbq
              have HFL : Hid (((L.take q).filter (fun y => !(y == (i : Int)))).length ≤ q) := Lib.hid (by
                refine Nat.le_trans (List.length_filter_le _ _) ?_
                rw [List.length_take]
                omega)
              have HB6 : Hid (Below B w wr) := Lib.hid (HB5.out.trans (hbq.mono hBs5))
              clear hlo hbq
              by_cases hqn : q < n6
              · have hqz : (q : Int) < (n6 : Int) := by omega
                obtain ⟨g6, off6, rfl, hg6, c65⟩ := NumsIs.at (NumsIs.own H1.out) (j := q) (by rw [HN6.out]; exact hqn)
                have HC6 : Hid (∀ w' : World, Below w5.heap.size w5 w' → w'.cell? ⟨g6, off6 + q, none⟩ = some (.int .i64 (L.getD q 0))) := Lib.hid (fun w' hb' => by rw [hb'.cell (p := ⟨g6, off6 + q, none⟩) hg6]; exact c65)
                have c6 := HC6.out _ HBQ.out
                clear c65
                have c1 := HCG.out _ HB6.out
                have HTK : Hid (L.take (q + 1) = L.take q ++ [L.getD q 0]) := Lib.hid (takeN_one (by rw [HN6.out]; exact hqn))
                generalize L.getD q 0 = y at *
                cases hy : (y == (i : Int)) with
                | true =>
                  have HF : Hid ((L.take (q + 1)).filter (fun y => !(y == (i : Int))) = (L.take q).filter (fun y => !(y == (i : Int)))) := Lib.hid (by
                    rw [HTK.out, List.filter_append]
                    simp [hy])
                  go_wp2
                  go_quiet (fail)
                  go_wp2
                  go_roundw
                  case rel => exact ⟨q + 1, by omega, by first | rfl | go_num, by rw [HF.out]; exact HLO.out.drewN _, below_drewN2 HBQ.out _⟩
                  case measure => simp [intOf]; omega
                | false =>
                  have HF : Hid ((L.take (q + 1)).filter (fun y => !(y == (i : Int))) = (L.take q).filter (fun y => !(y == (i : Int))) ++ [y]) := Lib.hid (by
                    rw [HTK.out, List.filter_append]
                    simp [hy])
                  generalize (L.take q).filter (fun y => !(y == (i : Int))) = F at *
                  go_wp2
                  go_quiet (fail)
                  have HLq : Hid (OwnN w5.heap.size (wr.drewN nq) u10 F) := Lib.hid (HLO.out.drewN nq)
                  have HBq : Hid (Below w5.heap.size w5 (wr.drewN nq)) := Lib.hid (below_drewN2 HBQ.out nq)
                  have c6q := HC6.out _ HBq.out
                  have hs5 : w5.heap.size ≤ (wr.drewN nq).heap.size := HBq.out.size
                  clear c6 c1
                  generalize wr.drewN nq = wq at *
                  have hba : Below wq.heap.size wq (wq.alloc (.cells #[.int .i64 y] 3)) := (Below.refl _ wq).alloc (Nat.le_refl _) _
                  have HBA := Lib.hid hba
                  have HOA := Lib.hid (HLq.out.below hba)
                  have HCA : Hid (∀ j, j < [y].length → (wq.alloc (.cells #[.int .i64 y] 3)).cell? ((⟨wq.heap.size, 0, none⟩ : Addr).add j) = some (.int .i64 ([y].getD j 0))) := Lib.hid (fun j hj => by
                    have : j = 0 := by simp at hj; omega
                    subst this
                    rw [addN, Lib.cell_of_heap (heap_alloc_new _ _)]
                    rfl)
                  have HSA : Hid (w5.heap.size ≤ (wq.alloc (.cells #[.int .i64 y] 3)).heap.size) := Lib.hid (by have := hba.size; omega)
                  clear hba
                  go_wp2_with (at_builtin; refine appendN 22 Try.underlying22 rfl _ _ rfl w5.heap.size _ F rfl HOA.out ⟨wq.heap.size, 0, none⟩ 1 1 [y] rfl rfl HCA.out (by have := HFL.out; simp; omega) HSA.out ?_; intro v9 w9 hown9 hg9 hr9; have HO9 := Lib.hid hown9; have HG9 := Lib.hid hg9; clear hown9 hg9 hr9)
                  have HB9 : Hid (Below w5.heap.size w5 w9) := Lib.hid ((HBq.out.trans (HBA.out.mono hs5)).grown HG9.out HSA.out (fun j hj => (HOA.out.lt j hj).1))
                  go_roundw
                  case rel => exact ⟨q + 1, by omega, by first | rfl | go_num, by rw [HF.out]; exact HO9.out, HB9.out⟩
                  case measure => simp [intOf]; omega
              · have hge : ¬ ((q : Int) < (n6 : Int)) := by omega
                have HLT : Hid (L.take q = L) := Lib.hid (List.take_of_length_le (by rw [HN6.out]; omega))
                rw [HLT.out] at HLO HFL
                have HP9 := Lib.hid (HP5.out.below HBQ.out)
                have HO9 : Hid (OwnN B wr u10 (L.filter (fun y => !(y == (i : Int))))) := Lib.hid (HLO.out.lower hBs5)
                have HA9 : Hid (ApartV u10 v5) := Lib.hid (fun j hj e => by
                  have h1 := (HLO.out.lt j hj).1
                  have h2 := (HP5.out.row j e).2.2
                  omega)
                go_wp2
                go_roundw
                case rel => exact ⟨k + 1, l.set i false, v5, L.filter (fun y => !(y == (i : Int))), w5, v5.ownBlock, by omega, by first | rfl | go_num, by have := HFL.out; omega, HO9.out, HA9.out, HH9.out, HP9.out, HB6.out⟩
                case measure => simp [intOf]; omega
      · have hge : ¬ ((k : Int) < (n2 : Int)) := by omega
        have hmk := HH.out.made HP.out
        have cQ := new_c most (.slice a6 n6 cap6) L wr (NumsIs.own HO.out) (by rw [HN6.out]; omega)
        rw [HM.out, hmk] at cQ
        unfold NewPost at cQ
        clear hmk
        go_wp2_with fail
        refine cQ.mono ?_
        rintro e w3 ⟨b2, vq, rfl, hb2, hq⟩
        have hb3w : Below wr.heap.size wr w3 := hq.keep.below hb2 (Nat.le_refl _) (fun k hk => by cases hk)
        have HP3 := Lib.hid (HP.out.below hb3w)
        have HB3 : Hid (Below B w w3) := Lib.hid (HB.out.trans (hb3w.mono hBs))
        have hBs3 : B ≤ w3.heap.size := by have := HB3.out.size; have := HBB.out; omega
        have HQ3 := Lib.hid hq
        have HAPQ := Lib.hid (HP.out.newer hq).1
        have HBPQ : Hid (b ≠ b2) := Lib.hid ((HP.out.newer hq).2 hb2)
        have HB2B : Hid (B ≤ b2) := Lib.hid (by omega)
        have cC := clone_c w0 r M b vp l w3 HP3.out
        unfold ClonePost at cC
        clear cQ hq hb2 hb3w
        go_wp2_with fail
        refine cC.mono ?_
        rintro e w4 ⟨b3, vc, rfl, hb3, hc⟩
        have hb4w : Below w3.heap.size w3 w4 := hc.keep.below hb3 (Nat.le_refl _) (fun k hk => by cases hk)
        have HP4 := Lib.hid (HP3.out.below hb4w)
        have HQ4 := Lib.hid (HQ3.out.below hb4w)
        have HC4 := Lib.hid hc
        have HB4 : Hid (Below B w w4) := Lib.hid (HB3.out.trans (hb4w.mono hBs3))
        have HAPC := Lib.hid (HP3.out.newer hc).1
        have HBPC : Hid (b ≠ b3) := Lib.hid ((HP3.out.newer hc).2 hb3)
        have HAQC := Lib.hid (HQ3.out.newer hc).1
        have HBQC : Hid (b2 ≠ b3) := Lib.hid ((HQ3.out.newer hc).2 hb3)
        have HB3B : Hid (B ≤ b3) := Lib.hid (by omega)
        have cO2 := out_c _ _ M b2 vq l w4 HQ4.out
        have cO1 := fun n => out_c _ _ M b vp l (w4.drewN n) (HP4.out.below (below_drewN2 (Below.refl _ _) n))
        clear cC hc hb3 hb4w
        go_wp2_with fail
        refine cO2.mono ?_
        rintro e w5 ⟨rfl, q5, rfl⟩
        have cO := cO1 q5
        clear cO1 cO2
        go_wp2_with fail
        refine cO.mono ?_
        rintro e w6 ⟨rfl, q6, rfl⟩
        have hb6 : Below w4.heap.size w4 ((w4.drewN q5).drewN q6) := below_drewN2 (below_drewN2 (Below.refl _ _) q5) q6
        have HP6 := Lib.hid (HP4.out.below hb6).now
        have HQ6 := Lib.hid (HQ4.out.below hb6).now
        have HC6 := Lib.hid (HC4.out.below hb6).now
        have HB6 : Hid (Below B w ((w4.drewN q5).drewN q6)) := Lib.hid (HB4.out.trans (hb6.mono (by have := HB4.out.size; have := HBB.out; omega)))
        clear cO hb6
        generalize (w4.drewN q5).drewN q6 = w6 at *
        clear HP HO HA HH HB HP3 HB3 HQ3 HP4 HQ4 HC4 HB4
        go_wp2
        go_loopw [14] (fun iv wr => ∃ (j : Nat) (l : List Bool) (v1 v2 v3 : Value), j ≤ 20 ∧ iv = .int .i64 j ∧ PoolIs wr v1.ownBlock M b wr v1 l ∧ PoolIs wr v2.ownBlock M b2 wr v2 l ∧ PoolIs wr v3.ownBlock M b3 wr v3 l ∧ ApartV v1 v2 ∧ ApartV v1 v3 ∧ ApartV v2 v3 ∧ Below B w wr) (fun iv _ => 20 - (intOf iv).toNat)
        case atStart => exact ⟨0, l, vp, vq, vc, by omega, rfl, HP6.out, HQ6.out, HC6.out, HAPQ.out, HAPC.out, HAQC.out, HB6.out⟩
        case round =>
          obtain ⟨j, l, v1, v2, v3, hj, rfl, h1, h2, h3, a12, a13, a23, hb⟩ := hrel
          clear HP6 HQ6 HC6 HAPQ HAPC HAQC HB6
          have H1 := Lib.hid h1
          have H2 := Lib.hid h2
          have H3 := Lib.hid h3
          have A12 := Lib.hid a12
          have A13 := Lib.hid a13
          have A23 := Lib.hid a23
          have HB := Lib.hid hb
          clear h1 h2 h3 a12 a13 a23 hb
          by_cases hj20 : j < 20
          · have hjz : (j : Int) < 20 := by omega
            by_cases hfull : leastN M l = 0
            · have cT1 := take_zero H1.out hfull
              go_upto_region 28 with (go_at_call 10; refine cT1.mono ?_; rintro e w7 ⟨rfl, hp7⟩; have K1 := Lib.hid hp7; clear hp7)
              clear cT1
              obtain ⟨o2, p2⟩ := H1.out.other K1.out H2.out HBPQ.out A12.out
              obtain ⟨o3, p3⟩ := H1.out.other K1.out H3.out HBPC.out A13.out
              have B7 := Lib.hid (H1.out.under K1.out HBW.out HB.out)
              have O1 := Lib.hid K1.out.now
              have O2 := Lib.hid o2
              have O3 := Lib.hid o3
              have P2 := Lib.hid p2
              have P3 := Lib.hid p3
              clear o2 o3 p2 p3 K1 H1 H2 H3
              have cT2 := take_zero O2.out hfull
              go_upto_region 29 with (go_at_call 10; refine cT2.mono ?_; rintro e w8 ⟨rfl, hp8⟩; have K2 := Lib.hid hp8; clear hp8)
              clear cT2
              obtain ⟨o1, p1⟩ := O2.out.other K2.out O1.out HBPQ.out.symm A12.out.symm
              obtain ⟨o3, p3⟩ := O2.out.other K2.out O3.out HBQC.out A23.out
              have B8 := Lib.hid (O2.out.under K2.out HB2B.out B7.out)
              have Q1 := Lib.hid o1
              have Q2 := Lib.hid K2.out.now
              have Q3 := Lib.hid o3
              have R12 := Lib.hid p1.symm
              have R23 := Lib.hid p3
              clear o1 o3 p1 p3 K2 O1 O2 O3
              have cT3 := take_zero Q3.out hfull
              go_wp2_with (go_at_call 10; refine cT3.mono ?_; rintro e w9 ⟨rfl, hp9⟩; have K3 := Lib.hid hp9; clear hp9)
              clear cT3
              obtain ⟨o1, p1⟩ := Q3.out.other K3.out Q1.out HBPC.out.symm P3.out.symm
              obtain ⟨o2, p2⟩ := Q3.out.other K3.out Q2.out HBQC.out.symm R23.out.symm
              have B9 := Lib.hid (Q3.out.under K3.out HB3B.out B8.out)
              have S1 := Lib.hid o1
              have S2 := Lib.hid o2
              have S3 := Lib.hid K3.out.now
              have T13 := Lib.hid p1.symm
              have T23 := Lib.hid p2.symm
              go_roundw
              case rel => exact ⟨j + 1, l, v1, v2, v3, by omega, by first | rfl | go_num, S1.out, S2.out, S3.out, R12.out, T13.out, T23.out, B9.out⟩
              case measure => simp [intOf]; omega
            · obtain ⟨n, hn⟩ : ∃ n, leastN M l = n := ⟨_, rfl⟩
              have hn0 : leastN M l ≠ 0 := hfull
              have HNN := Lib.hid hn
              have HF := Lib.hid hn0
              have cT1 := take_some H1.out hn0
              rw [hn] at cT1
              clear hn hn0 hfull
              go_upto_region 28 with (go_at_call 10; refine cT1.mono ?_; rintro e w7 ⟨rfl, v17, hp7⟩; have K1 := Lib.hid hp7; clear hp7)
              clear cT1
              obtain ⟨o2, p2⟩ := H1.out.other K1.out H2.out HBPQ.out A12.out
              obtain ⟨o3, p3⟩ := H1.out.other K1.out H3.out HBPC.out A13.out
              have B7 := Lib.hid (H1.out.under K1.out HBW.out HB.out)
              have O1 := Lib.hid K1.out.now
              have O2 := Lib.hid o2
              have O3 := Lib.hid o3
              have P2 := Lib.hid p2
              have P3 := Lib.hid p3
              clear o2 o3 p2 p3 K1 H1 H2 H3
              have cT2 := take_some O2.out HF.out
              rw [HNN.out] at cT2
              go_upto_region 29 with (go_at_call 10; refine cT2.mono ?_; rintro e w8 ⟨rfl, v28, hp8⟩; have K2 := Lib.hid hp8; clear hp8)
              clear cT2
              obtain ⟨o1, p1⟩ := O2.out.other K2.out O1.out HBPQ.out.symm P2.out.symm
              obtain ⟨o3, p3⟩ := O2.out.other K2.out O3.out HBQC.out A23.out
              have B8 := Lib.hid (O2.out.under K2.out HB2B.out B7.out)
              have Q1 := Lib.hid o1
              have Q2 := Lib.hid K2.out.now
              have Q3 := Lib.hid o3
              have R12 := Lib.hid p1.symm
              have R23 := Lib.hid p3
              clear o1 o3 p1 p3 K2 O1 O2 O3
              have cT3 := take_some Q3.out HF.out
              rw [HNN.out] at cT3
              go_wp2_with (go_at_call 10; refine cT3.mono ?_; rintro e w9 ⟨rfl, v39, hp9⟩; have K3 := Lib.hid hp9; clear hp9)
              clear cT3
              obtain ⟨o1, p1⟩ := Q3.out.other K3.out Q1.out HBPC.out.symm P3.out.symm
              obtain ⟨o2, p2⟩ := Q3.out.other K3.out Q2.out HBQC.out.symm R23.out.symm
              have B9 := Lib.hid (Q3.out.under K3.out HB3B.out B8.out)
              have S1 := Lib.hid o1
              have S2 := Lib.hid o2
              have S3 := Lib.hid K3.out.now
              have T13 := Lib.hid p1.symm
              have T23 := Lib.hid p2.symm
              go_roundw
              case rel => exact ⟨j + 1, l.set n true, v17, v28, v39, by omega, by first | rfl | go_num, S1.out, S2.out, S3.out, R12.out, T13.out, T23.out, B9.out⟩
              case measure => simp [intOf]; omega
          · have hge : ¬ ((j : Int) < 20) := by omega
            go_wp2
            go_ret
            exact ⟨rfl, by rw [HBB.out]; exact HB.out⟩
end Go.Proofs.Ytfpnecbhpcnadaa
