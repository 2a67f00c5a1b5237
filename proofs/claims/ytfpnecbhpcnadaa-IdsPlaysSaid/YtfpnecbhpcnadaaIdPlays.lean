/-
  The law IdsPlays of stage 9, walked: it answers true; what lay in memory stays.
-/
import Derived.Test.YtfpnecbhpcnadaaLongRead
import Derived.Deep.RegionHeld3
import Derived.Deep.CutRange
import Derived.Deep.CutBlock
namespace Go.Proofs.Ytfpnecbhpcnadaa
open Go.RowKit Go.Sort
set_option linter.unusedVariables false

theorem PoolIs.ref {w0 : World} {r : Option Nat} {m b b8 m8 : Nat} {w w' : World} {v v' : Value} {l l' l8 : List Bool} (h0 : PoolIs w0 r m b w v l) (h : PoolIs w v.ownBlock m b w' v' l') (h8 : PoolAt w b8 m8 l8) : PoolAt w' b8 m8 l8 := by
  unfold PoolAt
  rw [h.keep.block b8 (lt_of_get h8) (fun e => ?_) (fun e => ?_)]
  · exact h8
  · obtain ⟨u, ys, hx, _⟩ := h0
    exact block_ne h8 hx.at' (by decide) e
  · obtain ⟨u, ys, hx, _⟩ := h0
    rcases hx.own.2 with ⟨hv, _⟩ | ⟨g, cap, cur, hv, hg, hb, _⟩
    · rw [hv] at e
      cases e
    · rw [hv] at e
      exact block_ne h8 hb (by decide) (Option.some.inj e)
/-- A pool beside the reference's, which is written. -/
theorem PoolIs.past {w0 : World} {r : Option Nat} {m b b8 m8 : Nat} {w : World} {v : Value} {l l8 : List Bool} {cs : List Value} {o : Nat} (h : PoolIs w0 r m b w v l) (h8 : PoolAt w b8 m8 l8) : PoolIs (w.setCells b8 o cs) v.ownBlock m b (w.setCells b8 o cs) v l := by
  obtain ⟨u, ys, hx, hg, hl⟩ := h
  have hb8 : b8 ≠ b := block_ne h8 hx.at' (by decide)
  refine ⟨u, ys, ⟨?_, ?_, fun k hk => Or.inl hk.symm, Keeps.refl _ _ _⟩, hg, hl⟩
  · rw [heap_setCells_far _ _ _ _ _ (fun e => hb8 e.symm)]
    exact hx.at'
  · refine World.ownsRow.kept (row := some b8) hx.own ⟨?_, ?_, ?_, by rw [size_setCells]; exact Nat.le_refl _, fun k hk hne => heap_setCells_far _ _ _ _ _ (fun e => hne (by rw [e]))⟩ ?_
    · exact (Below.setCells (Below.refl 0 w) (Nat.zero_le _) o cs).os
    · exact (Below.setCells (Below.refl 0 w) (Nat.zero_le _) o cs).tape
    · exact (Below.setCells (Below.refl 0 w) (Nat.zero_le _) o cs).output
    · rcases hx.own.2 with ⟨hv, _⟩ | ⟨g, cap, cur, hv, hg', hb', _⟩
      · left; rw [hv]; rfl
      · right
        rw [hv]
        intro e
        exact block_ne h8 hb' (by decide) (Option.some.inj e).symm
theorem boolSet_len (l : List Bool) (n : Nat) (x : Bool) : (l.set n x).length = l.length := List.length_set
theorem PoolIs.len {w0 : World} {r : Option Nat} {m b : Nat} {w : World} {v : Value} {l : List Bool} (h : PoolIs w0 r m b w v l) : l.length = 201 ∧ m ≤ 200 := by
  obtain ⟨u, ys, _, hg, rfl⟩ := h
  exact ⟨outRow_length u ys, hg.m200⟩

set_option maxHeartbeats 8000000 in
set_option maxRecDepth 100000 in
theorem plays9_walk (most : Int) (v2 v3 : Value) (l2 l3 : List Int) (w : World) (hv2 : NumsIs w v2 l2) (hv3 : NumsIs w v3 l3) (hl2 : l2.length ≤ 9223372036854775807) (hl3 : l3.length ≤ 9223372036854775807) :
    Calls Try.prog 3 #[.int .i64 most, v2, v3] w fun e w' => e = .returned (.bool true) ∧ Below w.heap.size w w' := by
  have cA := awake9_c w
  obtain ⟨a2, cap2, rfl⟩ := hv2.len
  obtain ⟨a3, cap3, rfl⟩ := hv3.len
  have HV2 := Lib.hid hv2
  have HV3 := Lib.hid hv3
  obtain ⟨n2, hn2⟩ : ∃ n, l2.length = n := ⟨_, rfl⟩
  obtain ⟨n3, hn3⟩ : ∃ n, l3.length = n := ⟨_, rfl⟩
  have HN2 := Lib.hid hn2
  have HN3 := Lib.hid hn3
  rw [hn2] at hl2 ⊢
  rw [hn3] at hl3 ⊢
  clear hv2 hv3 hn2 hn3
  by_cases hbig : 300 < n2 ∨ 300 < n3
  · have cB : ∀ w1 : World, Calls Try.prog 5 #[] w1 fun e w' => e = .returned (.bool true) ∧ Below w1.heap.size w1 w' := awake9_c
    by_cases hz : (300 : Int) < (n2 : Int)
    · have hzd : decide ((300 : Int) < (n2 : Int)) = true := decide_eq_true hz
      clear hbig
      go_enter Try.func3, Try.ntmps3
      go_wp2_with fail
      refine cA.mono ?_
      rintro e w1 ⟨rfl, hb1⟩
      have HB1 := Lib.hid hb1
      have cC := cB w1
      clear hb1 cA cB
      go_wp2_with fail
      refine cC.mono ?_
      rintro e w2 ⟨rfl, hb2⟩
      have HB2 : Hid (Below w.heap.size w w2) := Lib.hid (HB1.out.trans (hb2.mono HB1.out.size))
      clear hb2 cC
      go_wp2
      go_ret
      exact ⟨rfl, HB2.out⟩
    · have hzd : decide ((300 : Int) < (n2 : Int)) = false := decide_eq_false hz
      have hz3 : (300 : Int) < (n3 : Int) := by omega
      have hzd3 : decide ((300 : Int) < (n3 : Int)) = true := decide_eq_true hz3
      clear hbig
      go_enter Try.func3, Try.ntmps3
      go_wp2_with fail
      refine cA.mono ?_
      rintro e w1 ⟨rfl, hb1⟩
      have HB1 := Lib.hid hb1
      have cC := cB w1
      clear hb1 cA cB
      go_wp2_with fail
      refine cC.mono ?_
      rintro e w2 ⟨rfl, hb2⟩
      have HB2 : Hid (Below w.heap.size w w2) := Lib.hid (HB1.out.trans (hb2.mono HB1.out.size))
      clear hb2 cC
      go_wp2
      go_ret
      exact ⟨rfl, HB2.out⟩
  · have hz2 : ¬ ((300 : Int) < (n2 : Int)) := by omega
    have hz3 : ¬ ((300 : Int) < (n3 : Int)) := by omega
    have hzd2 : decide ((300 : Int) < (n2 : Int)) = false := decide_eq_false hz2
    have hzd3 : decide ((300 : Int) < (n3 : Int)) = false := decide_eq_false hz3
    have hs2 : n2 ≤ 300 := by omega
    have hs3 : n3 ≤ 300 := by omega
    clear hbig
    go_enter Try.func3, Try.ntmps3
    go_wp2_with fail
    refine cA.mono ?_
    rintro e w1 ⟨rfl, hb1⟩
    have HB1 := Lib.hid hb1
    have cN := new_c most _ l2 w1 (by have := HV2.out.kept hb1; rw [HN2.out] at this; exact this) (by rw [HN2.out]; omega)
    unfold NewPost at cN
    obtain ⟨M, hM⟩ : ∃ M, mostN most = M := ⟨_, rfl⟩
    have hMM := mostN_le most
    have HM := Lib.hid hM
    rw [hM] at cN hMM
    clear hb1 cA hM
    go_wp2_with fail
    refine cN.mono ?_
    rintro e w2 ⟨b, v, rfl, hb, hP⟩
    have HP2 := Lib.hid hP
    have HBW : Hid (w.heap.size ≤ b) := Lib.hid (Nat.le_trans HB1.out.size hb)
    have HB2 : Hid (Below w.heap.size w w2) := Lib.hid (HB1.out.trans (hP.keep.below HBW.out HB1.out.size (fun k hk => by cases hk)))
    have cR := new9_c most _ l2 w2 (by have := HV2.out.kept HB2.out; rw [HN2.out] at this; exact this) (by rw [HN2.out]; omega)
    rw [HM.out] at cR
    clear cN hP hb
    go_wp2_with fail
    refine cR.mono ?_
    rintro e w3 ⟨rfl, hb3⟩
    have HP3 : Hid (PoolIs w1 none M b w3 v (mkRow M l2)) := Lib.hid (HP2.out.below hb3)
    have HB3 : Hid (Below w.heap.size w w3) := Lib.hid (HB2.out.trans (hb3.mono HB2.out.size))
    have hzw := zero_pool
    have HML : Hid ((mkRow M l2).length = 201) := Lib.hid (mkRow_len M l2)
    clear hb3 cR HP2 HB2
    generalize mkRow M l2 = L at *
    have hlen : (poolC M L).length = 202 := by rw [poolC_length, HML.out]
    obtain ⟨hst, hpa⟩ := pool_store (m := M) (l := L) (C := zPool.toList) (W := w3.alloc (.cells zPool 28)) (b := w3.heap.size) (by rw [Array.toArray_toList]; exact heap_alloc_new _ _) (by rw [Array.length_toList]; exact zPool_size) HML.out
    have HPA := Lib.hid hpa
    have hba : Below w3.heap.size w3 ((w3.alloc (.cells zPool 28)).setCells w3.heap.size 0 (poolC M L)) := Below.setCells ((Below.refl _ w3).alloc (Nat.le_refl _) _) (Nat.le_refl _) _ _
    have HP4 := Lib.hid (HP3.out.below hba)
    have HB4 := Lib.hid (HB3.out.trans (hba.mono HB3.out.size))
    clear hpa hba
    go_upto_region 4 with fail
    generalize (w3.alloc (.cells zPool 28)).setCells w3.heap.size 0 (poolC M L) = w4 at *
    have HB8 : Hid (w.heap.size ≤ w3.heap.size) := Lib.hid HB3.out.size
    generalize w3.heap.size = b8 at *
    clear hst hlen HP3 HB3 hzw
    go_wp2
    clear hzd2 hzd3 hz2 hz3
    go_loopw [9] (fun iv wr => ∃ (k : Nat) (l : List Bool) (vp : Value) (w0 : World) (r : Option Nat), k ≤ n3 ∧ iv = .int .i64 k ∧ PoolIs w0 r M b wr vp l ∧ PoolAt wr b8 M l ∧ Below w.heap.size w wr) (fun iv _ => n3 - (intOf iv).toNat)
    case atStart => exact ⟨0, L, v, w1, none, by omega, rfl, HP4.out, HPA.out, HB4.out⟩
    case round =>
      obtain ⟨k, l, vp, w0, r, hk, rfl, hp, hpa, hb⟩ := hrel
      clear HP4 HPA HB4
      have HP := Lib.hid hp
      have HPA := Lib.hid hpa
      have HB := Lib.hid hb
      have HL := Lib.hid hp.len.1
      clear hp hpa hb
      by_cases hkn : k < n3
      · have hkz : (k : Int) < (n3 : Int) := by omega
        obtain ⟨g, off, rfl, hg, hc1⟩ := HV3.out.at (j := k) (by rw [HN3.out]; exact hkn)
        have c1 : wr.cell? ⟨g, off + k, none⟩ = some (.int .i64 (l3.getD k 0)) := by rw [HB.out.cell (p := ⟨g, off + k, none⟩) hg]; exact hc1
        have c2 := HPA.out.most
        have HCG : Hid (∀ w' : World, Below w.heap.size w w' → w'.cell? ⟨g, off + k, none⟩ = some (.int .i64 (l3.getD k 0))) := Lib.hid (fun w' hb' => by rw [hb'.cell (p := ⟨g, off + k, none⟩) hg]; exact hc1)
        clear hc1
        generalize l3.getD k 0 = x at *
        by_cases hx : 0 < x
        · have hxd : decide (0 < x) = true := decide_eq_true hx
          by_cases hxm : x ≤ (M : Int)
          · obtain ⟨i, rfl⟩ : ∃ i : Nat, x = i := ⟨x.toNat, by omega⟩
            obtain ⟨t, ht⟩ : ∃ t, l[i]? = some t := ⟨_, List.getElem?_eq_getElem (by rw [HL.out]; omega)⟩
            have c3 := HPA.out.at ht
            have hmin : min (i : Int) 200 = (i : Int) := by omega
            have hi201 : (i : Int) < 201 := by omega
            have g1 : decide ((i : Int) ≤ (M : Int)) = true := decide_eq_true hxm
            have HO : Hid (isOut M l (i : Int) = t) := Lib.hid (by
              unfold isOut
              rw [decide_eq_true (by omega), g1, List.getD_eq_getElem?_getD, Int.toNat_natCast, ht]
              rfl)
            clear ht
            go_upto_region 9 with (go_quiet (fail))
            have HPq : Hid (PoolIs w0 r M b (wr.drewN nq) vp l) := Lib.hid (HP.out.below (below_drewN2 (Below.refl _ _) nq))
            have HPAq : Hid (PoolAt (wr.drewN nq) b8 M l) := Lib.hid (HPA.out.below (below_drewN2 (Below.refl _ _) nq))
            have HBq : Hid (Below w.heap.size w (wr.drewN nq)) := Lib.hid (below_drewN2 HB.out nq)
            clear c1 c2 c3
            have c1 := HCG.out _ HBq.out
            clear HP HPA HB
            generalize wr.drewN nq = wq at *
            have cG := give_c wq vp.ownBlock M b vp l (i : Int) wq HPq.out.now t HO.out
            cases t with
            | false =>
              go_upto_region 11 with (go_at_call 8; refine cG.mono ?_; rintro e w7 ⟨rfl, v7, hp7⟩; have HB7 : Hid (Below w.heap.size w w7) := Lib.hid (HPq.out.under hp7 HBW.out HBq.out); have HPA7 : Hid (PoolAt w7 b8 M l) := Lib.hid (HPq.out.ref hp7 HPAq.out); have HP7 := Lib.hid hp7; clear hp7)
              clear cG HPq HPAq HBq
              obtain ⟨l7, hl7⟩ : ∃ l7, l7 = l := ⟨_, rfl⟩
              obtain ⟨w70, hw70⟩ : ∃ w70, w70 = wq := ⟨_, rfl⟩
              obtain ⟨r7, hr7⟩ : ∃ r7, r7 = vp.ownBlock := ⟨_, rfl⟩
              rw [if_neg (by simp), ← hw70, ← hr7] at HP7
              rw [← hl7] at HP7 HPA7
              clear hl7 hw70 hr7
              go_upto_region 19 with fail
              have HL7 := Lib.hid HP7.out.len.1
              have hm7 := HP7.out.len.2
              have cO : ∀ (d : Nat) (os : Array Obj), Calls Try.prog 12 #[.pointer (some ⟨b, 0, none⟩)] (Go.Sort.grow (redrawn w7 d) os) fun e w' => e = .returned (.int .i64 (countN M l7 : Nat)) ∧ Below (Go.Sort.grow (redrawn w7 d) os).heap.size (Go.Sort.grow (redrawn w7 d) os) w' := fun d os => (out_c _ _ M b v7 l7 _ (HP7.out.below (below_regrown w7 d os))).mono fun e w' ⟨h1, q, h2⟩ => ⟨h1, by rw [h2]; exact below_drewN2 (Below.refl _ _) q⟩
              have cC : ∀ (d : Nat) (os : Array Obj), Calls Try.prog 13 #[.agg (poolC M l7).toArray] (Go.Sort.grow (redrawn w7 d) os) fun e w' => e = .returned (.int .i64 (countN M l7 : Nat)) ∧ Below (Go.Sort.grow (redrawn w7 d) os).heap.size (Go.Sort.grow (redrawn w7 d) os) w' := fun d os => count9_c M l7 _ HL7.out hm7
              have HLQ : Hid (∀ w', (∃ p : Regrown, w' = Go.Sort.grow (redrawn w7 p.d) p.os) → (Instr.loadAt 28 (.pointer (some ⟨b8, 0, none⟩))).run Try.prog w' = .ok (.agg (poolC M l7).toArray) w') := Lib.hid (fun w' ⟨p, hp⟩ => (HPA7.out.below (grow_below p hp)).load HL7.out)
              refine wp_region_quiet_below (by kernel_rfl) (by kernel_rfl) ?_
              quiet_step (fail)
              quiet_step (exact Calls.regrown_of (cO _ _))
              refine wpQuiet_load 28 _ (.pointer (some ⟨b8, 0, none⟩)) (.agg (poolC M l7).toArray) rfl HLQ.out ?_
              simp only [Act.put, List.setIfInBounds_toArray, List.set_cons_zero, List.set_cons_succ]
              quiet_step (exact Calls.regrown_of (cC _ _))
              quiet_step (fail)
              refine wpQuiet_nil ?_
              intro _ hw'
              obtain ⟨p9, hw''⟩ := hw'
              have hb9 := grow_below p9 hw''
              have HP9 := Lib.hid (HP7.out.below hb9)
              have HPA9 := Lib.hid (HPA7.out.below hb9)
              have HB9 := Lib.hid (HB7.out.trans (hb9.mono HB7.out.size))
              clear hb9 hw'' cO cC
              go_wp2
              go_roundw
              case rel => exact ⟨k + 1, l7, v7, w70, r7, by omega, by first | rfl | go_num, HP9.out, HPA9.out, HB9.out⟩
              case measure => simp [intOf]; omega
            | true =>
              go_upto_region 12 with (go_at_call 8; refine cG.mono ?_; rintro e w5 ⟨rfl, v7, hp5⟩; have HB5 : Hid (Below w.heap.size w w5) := Lib.hid (HPq.out.under hp5 HBW.out HBq.out); have HPA5 : Hid (PoolAt w5 b8 M l) := Lib.hid (HPq.out.ref hp5 HPAq.out); have HP5 := Lib.hid hp5; clear hp5)
              clear cG HPq HPAq HBq
              rw [if_pos trivial, Int.toNat_natCast] at HP5
              have c5 := HCG.out _ HB5.out
              have HLD : Hid ((Instr.loadAt 28 (.pointer (some ⟨b8, 0, none⟩))).run Try.prog { w5 with drawn := w5.drawn + 1 } = .ok (.agg (poolC M l).toArray) { w5 with drawn := w5.drawn + 1 }) := Lib.hid (PoolAt.load (W := w5.drew) HPA5.out HL.out)
              have d5 : ({ w5 with drawn := w5.drawn + 1 } : World).cell? ⟨g, off + k, none⟩ = some (.int .i64 (i : Int)) := c5
              have HPd : Hid (PoolIs wq vp.ownBlock M b { w5 with drawn := w5.drawn + 1 } v7 (l.set i false)) := Lib.hid (HP5.out.below (Below.refl _ w5).drew)
              have HPAd : Hid (PoolAt { w5 with drawn := w5.drawn + 1 } b8 M l) := Lib.hid HPA5.out
              have HBd : Hid (Below w.heap.size w { w5 with drawn := w5.drawn + 1 }) := Lib.hid HB5.out.drew
              refine wp_region_still_tail 5 (by kernel_rfl) (by kernel_rfl) ?_
              simp only [List.take_succ_cons, List.take_zero, List.drop_succ_cons, List.drop_zero]
              generalize ({ w5 with drawn := w5.drawn + 1 } : World) = wd at *
              refine wpStill_load 28 _ (.pointer (some ⟨b8, 0, none⟩)) (.agg (poolC M l).toArray) rfl HLD.out ?_
              simp only [Act.put, List.setIfInBounds_toArray, List.set_cons_zero, List.set_cons_succ]
              repeat still_step
              refine wpStill_nil ?_
              have cS := set9_c M l i false wd HL.out (by omega)
              clear HP5 HPA5 HB5 c5
              go_upto_region 19 with (go_at_call 9; refine cS.mono ?_; rintro e w6 ⟨rfl, hb6⟩; have HP6 := Lib.hid (HPd.out.below hb6); have HPA6 := Lib.hid (HPAd.out.below hb6); have HB6 := Lib.hid (HBd.out.trans (hb6.mono HBd.out.size)); obtain ⟨hst, hpa⟩ := pool_store (m := M) (l := l.set i false) (C := poolC M l) HPA6.out (by rw [poolC_length, HL.out]) (by rw [List.length_set, HL.out]); have HPA7 := Lib.hid hpa; have hlen6 : (poolC M (l.set i false)).length = 202 := by rw [poolC_length, List.length_set, HL.out])
              have HP7 : Hid (PoolIs (w6.setCells b8 0 (poolC M (l.set i false))) v7.ownBlock M b (w6.setCells b8 0 (poolC M (l.set i false))) v7 (l.set i false)) := Lib.hid (HP6.out.past HPA6.out)
              have HB7 : Hid (Below w.heap.size w (w6.setCells b8 0 (poolC M (l.set i false)))) := Lib.hid (Below.setCells HB6.out HB8.out _ _)
              clear hst hlen6 cS
              generalize hW7 : w6.setCells b8 0 (poolC M (l.set i false)) = w7 at *
              clear hW7
              clear HP6 HPA6 HB6 HPd HPAd HBd HLD d5
              generalize l.set i false = l7 at *
              obtain ⟨w70, hw70⟩ : ∃ w70, w70 = w7 := ⟨_, rfl⟩
              obtain ⟨r7, hr7⟩ : ∃ r7, r7 = v7.ownBlock := ⟨_, rfl⟩
              have HP7' : Hid (PoolIs w70 r7 M b w7 v7 l7) := Lib.hid (by rw [hw70, hr7]; exact HP7.out)
              clear HP7 hw70 hr7
              have HP7 := HP7'
              clear HP7'
              have HL7 := Lib.hid HP7.out.len.1
              have hm7 := HP7.out.len.2
              have cO : ∀ (d : Nat) (os : Array Obj), Calls Try.prog 12 #[.pointer (some ⟨b, 0, none⟩)] (Go.Sort.grow (redrawn w7 d) os) fun e w' => e = .returned (.int .i64 (countN M l7 : Nat)) ∧ Below (Go.Sort.grow (redrawn w7 d) os).heap.size (Go.Sort.grow (redrawn w7 d) os) w' := fun d os => (out_c _ _ M b v7 l7 _ (HP7.out.below (below_regrown w7 d os))).mono fun e w' ⟨h1, q, h2⟩ => ⟨h1, by rw [h2]; exact below_drewN2 (Below.refl _ _) q⟩
              have cC : ∀ (d : Nat) (os : Array Obj), Calls Try.prog 13 #[.agg (poolC M l7).toArray] (Go.Sort.grow (redrawn w7 d) os) fun e w' => e = .returned (.int .i64 (countN M l7 : Nat)) ∧ Below (Go.Sort.grow (redrawn w7 d) os).heap.size (Go.Sort.grow (redrawn w7 d) os) w' := fun d os => count9_c M l7 _ HL7.out hm7
              have HLQ : Hid (∀ w', (∃ p : Regrown, w' = Go.Sort.grow (redrawn w7 p.d) p.os) → (Instr.loadAt 28 (.pointer (some ⟨b8, 0, none⟩))).run Try.prog w' = .ok (.agg (poolC M l7).toArray) w') := Lib.hid (fun w' ⟨p, hp⟩ => (HPA7.out.below (grow_below p hp)).load HL7.out)
              refine wp_region_quiet_below (by kernel_rfl) (by kernel_rfl) ?_
              quiet_step (fail)
              quiet_step (exact Calls.regrown_of (cO _ _))
              refine wpQuiet_load 28 _ (.pointer (some ⟨b8, 0, none⟩)) (.agg (poolC M l7).toArray) rfl HLQ.out ?_
              simp only [Act.put, List.setIfInBounds_toArray, List.set_cons_zero, List.set_cons_succ]
              quiet_step (exact Calls.regrown_of (cC _ _))
              quiet_step (fail)
              refine wpQuiet_nil ?_
              intro _ hw'
              obtain ⟨p9, hw''⟩ := hw'
              have hb9 := grow_below p9 hw''
              have HP9 := Lib.hid (HP7.out.below hb9)
              have HPA9 := Lib.hid (HPA7.out.below hb9)
              have HB9 := Lib.hid (HB7.out.trans (hb9.mono HB7.out.size))
              clear hb9 hw'' cO cC
              go_wp2
              go_roundw
              case rel => exact ⟨k + 1, l7, v7, w70, r7, by omega, by first | rfl | go_num, HP9.out, HPA9.out, HB9.out⟩
              case measure => simp [intOf]; omega
          · have g1 : decide (x ≤ (M : Int)) = false := decide_eq_false hxm
            have HO : Hid (isOut M l x = false) := Lib.hid (by
              unfold isOut
              rw [g1]
              simp)
            go_upto_region 9 with (go_quiet (fail))
            have HPq : Hid (PoolIs w0 r M b (wr.drewN nq) vp l) := Lib.hid (HP.out.below (below_drewN2 (Below.refl _ _) nq))
            have HPAq : Hid (PoolAt (wr.drewN nq) b8 M l) := Lib.hid (HPA.out.below (below_drewN2 (Below.refl _ _) nq))
            have HBq : Hid (Below w.heap.size w (wr.drewN nq)) := Lib.hid (below_drewN2 HB.out nq)
            clear c1 c2
            have c1 := HCG.out _ HBq.out
            clear HP HPA HB
            generalize wr.drewN nq = wq at *
            have cG := give_c wq vp.ownBlock M b vp l x wq HPq.out.now false HO.out
            go_upto_region 11 with (go_at_call 8; refine cG.mono ?_; rintro e w7 ⟨rfl, v7, hp7⟩; have HB7 : Hid (Below w.heap.size w w7) := Lib.hid (HPq.out.under hp7 HBW.out HBq.out); have HPA7 : Hid (PoolAt w7 b8 M l) := Lib.hid (HPq.out.ref hp7 HPAq.out); have HP7 := Lib.hid hp7; clear hp7)
            clear cG HPq HPAq HBq
            obtain ⟨l7, hl7⟩ : ∃ l7, l7 = l := ⟨_, rfl⟩
            obtain ⟨w70, hw70⟩ : ∃ w70, w70 = wq := ⟨_, rfl⟩
            obtain ⟨r7, hr7⟩ : ∃ r7, r7 = vp.ownBlock := ⟨_, rfl⟩
            rw [if_neg (by simp), ← hw70, ← hr7] at HP7
            rw [← hl7] at HP7 HPA7
            clear hl7 hw70 hr7
            go_upto_region 19 with fail
            have HL7 := Lib.hid HP7.out.len.1
            have hm7 := HP7.out.len.2
            have cO : ∀ (d : Nat) (os : Array Obj), Calls Try.prog 12 #[.pointer (some ⟨b, 0, none⟩)] (Go.Sort.grow (redrawn w7 d) os) fun e w' => e = .returned (.int .i64 (countN M l7 : Nat)) ∧ Below (Go.Sort.grow (redrawn w7 d) os).heap.size (Go.Sort.grow (redrawn w7 d) os) w' := fun d os => (out_c _ _ M b v7 l7 _ (HP7.out.below (below_regrown w7 d os))).mono fun e w' ⟨h1, q, h2⟩ => ⟨h1, by rw [h2]; exact below_drewN2 (Below.refl _ _) q⟩
            have cC : ∀ (d : Nat) (os : Array Obj), Calls Try.prog 13 #[.agg (poolC M l7).toArray] (Go.Sort.grow (redrawn w7 d) os) fun e w' => e = .returned (.int .i64 (countN M l7 : Nat)) ∧ Below (Go.Sort.grow (redrawn w7 d) os).heap.size (Go.Sort.grow (redrawn w7 d) os) w' := fun d os => count9_c M l7 _ HL7.out hm7
            have HLQ : Hid (∀ w', (∃ p : Regrown, w' = Go.Sort.grow (redrawn w7 p.d) p.os) → (Instr.loadAt 28 (.pointer (some ⟨b8, 0, none⟩))).run Try.prog w' = .ok (.agg (poolC M l7).toArray) w') := Lib.hid (fun w' ⟨p, hp⟩ => (HPA7.out.below (grow_below p hp)).load HL7.out)
            refine wp_region_quiet_below (by kernel_rfl) (by kernel_rfl) ?_
            quiet_step (fail)
            quiet_step (exact Calls.regrown_of (cO _ _))
            refine wpQuiet_load 28 _ (.pointer (some ⟨b8, 0, none⟩)) (.agg (poolC M l7).toArray) rfl HLQ.out ?_
            simp only [Act.put, List.setIfInBounds_toArray, List.set_cons_zero, List.set_cons_succ]
            quiet_step (exact Calls.regrown_of (cC _ _))
            quiet_step (fail)
            refine wpQuiet_nil ?_
            intro _ hw'
            obtain ⟨p9, hw''⟩ := hw'
            have hb9 := grow_below p9 hw''
            have HP9 := Lib.hid (HP7.out.below hb9)
            have HPA9 := Lib.hid (HPA7.out.below hb9)
            have HB9 := Lib.hid (HB7.out.trans (hb9.mono HB7.out.size))
            clear hb9 hw'' cO cC
            go_wp2
            go_roundw
            case rel => exact ⟨k + 1, l7, v7, w70, r7, by omega, by first | rfl | go_num, HP9.out, HPA9.out, HB9.out⟩
            case measure => simp [intOf]; omega
        · have hxd : decide (0 < x) = false := decide_eq_false hx
          have cT := take_c wr vp.ownBlock M b vp l wr HP.out.now
          have cT0 := fun h0 : leastN M l = 0 => cT.mono (R' := fun e w' => e = .returned (.tuple #[.int .i64 0, .bool false]) ∧ PoolIs wr vp.ownBlock M b w' vp l) (fun e w' h => by
            rcases h with ⟨_, h1, h2⟩ | ⟨n, v', h1, _, h2, _⟩
            · exact ⟨h1, h2⟩
            · omega)
          have cT1 := fun h0 : leastN M l ≠ 0 => cT.mono (R' := fun e w' => e = .returned (.tuple #[.int .i64 (leastN M l : Nat), .bool true]) ∧ ∃ v', PoolIs wr vp.ownBlock M b w' v' (l.set (leastN M l) true)) (fun e w' h => by
            rcases h with ⟨h1, _, _⟩ | ⟨n, v', _, _, h2, h3, h4⟩
            · exact absurd h1 h0
            · rw [h2]
              exact ⟨h3, v', h4⟩)
          have HLE : Hid (leastN M l ≤ 200) := Lib.hid (Nat.le_trans (leastN_le M l) hMM)
          clear cT c2
          by_cases hfull : leastN M l = 0
          · have cT := cT0 hfull
            clear cT0 cT1
            go_upto_region 14 with (go_at_call 10; refine cT.mono ?_; rintro e w5 ⟨rfl, hp5⟩; have HB5 : Hid (Below w.heap.size w w5) := Lib.hid (HP.out.under hp5 HBW.out HB.out); have HPA5 : Hid (PoolAt w5 b8 M l) := Lib.hid (HP.out.ref hp5 HPA.out); have HP5 := Lib.hid hp5; clear hp5)
            have HLD5 : Hid ((Instr.loadAt 28 (.pointer (some ⟨b8, 0, none⟩))).run Try.prog w5 = .ok (.agg (poolC M l).toArray) w5) := Lib.hid (HPA5.out.load HL.out)
            have cL := least9_c M l w5 HL.out hMM
            rw [hfull] at cL
            clear cT
            go_upto_region 19 with (first | ((with_reducible refine wpL_load 28 _ (.pointer (some ⟨b8, 0, none⟩)) (.agg (poolC M l).toArray) ?_ ?_ ?_); exact rfl; exact HLD5.out) | (go_at_call 11; refine cL.mono ?_; rintro e w7 ⟨rfl, hb7⟩; have HP7 := Lib.hid (HP5.out.below hb7); have HPA7 := Lib.hid (HPA5.out.below hb7); have HB7 := Lib.hid (HB5.out.trans (hb7.mono HB5.out.size))))
            clear cL HP HPA HB HP5 HPA5 HB5 HLD5
            obtain ⟨l7, hl7⟩ : ∃ l7, l7 = l := ⟨_, rfl⟩
            obtain ⟨v7, hv7⟩ : ∃ v7, v7 = vp := ⟨_, rfl⟩
            obtain ⟨w70, hw70⟩ : ∃ w70, w70 = wr := ⟨_, rfl⟩
            obtain ⟨r7, hr7⟩ : ∃ r7, r7 = vp.ownBlock := ⟨_, rfl⟩
            rw [← hw70, ← hr7, ← hl7, ← hv7] at HP7
            rw [← hl7] at HPA7
            clear hl7 hw70 hr7 hv7 hfull
            have HL7 := Lib.hid HP7.out.len.1
            have hm7 := HP7.out.len.2
            have cO : ∀ (d : Nat) (os : Array Obj), Calls Try.prog 12 #[.pointer (some ⟨b, 0, none⟩)] (Go.Sort.grow (redrawn w7 d) os) fun e w' => e = .returned (.int .i64 (countN M l7 : Nat)) ∧ Below (Go.Sort.grow (redrawn w7 d) os).heap.size (Go.Sort.grow (redrawn w7 d) os) w' := fun d os => (out_c _ _ M b v7 l7 _ (HP7.out.below (below_regrown w7 d os))).mono fun e w' ⟨h1, q, h2⟩ => ⟨h1, by rw [h2]; exact below_drewN2 (Below.refl _ _) q⟩
            have cC : ∀ (d : Nat) (os : Array Obj), Calls Try.prog 13 #[.agg (poolC M l7).toArray] (Go.Sort.grow (redrawn w7 d) os) fun e w' => e = .returned (.int .i64 (countN M l7 : Nat)) ∧ Below (Go.Sort.grow (redrawn w7 d) os).heap.size (Go.Sort.grow (redrawn w7 d) os) w' := fun d os => count9_c M l7 _ HL7.out hm7
            have HLQ : Hid (∀ w', (∃ p : Regrown, w' = Go.Sort.grow (redrawn w7 p.d) p.os) → (Instr.loadAt 28 (.pointer (some ⟨b8, 0, none⟩))).run Try.prog w' = .ok (.agg (poolC M l7).toArray) w') := Lib.hid (fun w' ⟨p, hp⟩ => (HPA7.out.below (grow_below p hp)).load HL7.out)
            refine wp_region_quiet_below (by kernel_rfl) (by kernel_rfl) ?_
            quiet_step (fail)
            quiet_step (exact Calls.regrown_of (cO _ _))
            refine wpQuiet_load 28 _ (.pointer (some ⟨b8, 0, none⟩)) (.agg (poolC M l7).toArray) rfl HLQ.out ?_
            simp only [Act.put, List.setIfInBounds_toArray, List.set_cons_zero, List.set_cons_succ]
            quiet_step (exact Calls.regrown_of (cC _ _))
            quiet_step (fail)
            refine wpQuiet_nil ?_
            intro _ hw'
            obtain ⟨p9, hw''⟩ := hw'
            have hb9 := grow_below p9 hw''
            have HP9 := Lib.hid (HP7.out.below hb9)
            have HPA9 := Lib.hid (HPA7.out.below hb9)
            have HB9 := Lib.hid (HB7.out.trans (hb9.mono HB7.out.size))
            clear hb9 hw'' cO cC
            go_wp2
            go_roundw
            case rel => exact ⟨k + 1, l7, v7, w70, r7, by omega, by first | rfl | go_num, HP9.out, HPA9.out, HB9.out⟩
            case measure => simp [intOf]; omega
          · have cT := cT1 hfull
            clear cT0 cT1
            obtain ⟨n, hn⟩ : ∃ n, leastN M l = n := ⟨_, rfl⟩
            have HLN := Lib.hid hn
            have hn0 : ¬ n = 0 := by rw [← hn]; exact hfull
            have hn1 : (0 : Int) < (n : Int) := by omega
            have hn9 : 0 < n := by omega
            have hnd : decide ((0 : Int) < (n : Int)) = true := decide_eq_true hn1
            have hnd9 : decide (0 < n) = true := decide_eq_true hn9
            have hn200 : n ≤ 200 := by rw [← hn]; exact HLE.out
            rw [hn] at cT
            clear hfull hn
            go_upto_region 14 with (go_at_call 10; refine cT.mono ?_; rintro e w5 ⟨rfl, v7, hp5⟩; have HB5 : Hid (Below w.heap.size w w5) := Lib.hid (HP.out.under hp5 HBW.out HB.out); have HPA5 : Hid (PoolAt w5 b8 M l) := Lib.hid (HP.out.ref hp5 HPA.out); have HP5 := Lib.hid hp5; clear hp5)
            have HLD5 : Hid ((Instr.loadAt 28 (.pointer (some ⟨b8, 0, none⟩))).run Try.prog w5 = .ok (.agg (poolC M l).toArray) w5) := Lib.hid (HPA5.out.load HL.out)
            have cL := least9_c M l w5 HL.out hMM
            rw [HLN.out] at cL
            clear cT
            go_upto_region 18 with (first | ((with_reducible refine wpL_load 28 _ (.pointer (some ⟨b8, 0, none⟩)) (.agg (poolC M l).toArray) ?_ ?_ ?_); exact rfl; exact HLD5.out) | (go_at_call 11; refine cL.mono ?_; rintro e w55 ⟨rfl, hb7⟩; have HP55 := Lib.hid (HP5.out.below hb7); have HPA55 := Lib.hid (HPA5.out.below hb7); have HB55 := Lib.hid (HB5.out.trans (hb7.mono HB5.out.size))))
            have HLD6 : Hid ((Instr.loadAt 28 (.pointer (some ⟨b8, 0, none⟩))).run Try.prog w55 = .ok (.agg (poolC M l).toArray) w55) := Lib.hid (HPA55.out.load HL.out)
            have cS := set9_c M l n true w55 HL.out hn200
            clear cL HP5 HPA5 HB5 HLD5 HP HPA HB
            go_upto_region 19 with (first | ((with_reducible refine wpL_load 28 _ (.pointer (some ⟨b8, 0, none⟩)) (.agg (poolC M l).toArray) ?_ ?_ ?_); exact rfl; exact HLD6.out) | (go_at_call 9; refine cS.mono ?_; rintro e w6 ⟨rfl, hb6⟩; have HP6 := Lib.hid (HP55.out.below hb6); have HPA6 := Lib.hid (HPA55.out.below hb6); have HB6 := Lib.hid (HB55.out.trans (hb6.mono HB55.out.size)); obtain ⟨hst, hpa⟩ := pool_store (m := M) (l := l.set n true) (C := poolC M l) HPA6.out (by rw [poolC_length, HL.out]) (by rw [List.length_set, HL.out]); have HPA7 := Lib.hid hpa; have hlen6 : (poolC M (l.set n true)).length = 202 := by rw [poolC_length, List.length_set, HL.out]))
            have HP7 : Hid (PoolIs (w6.setCells b8 0 (poolC M (l.set n true))) v7.ownBlock M b (w6.setCells b8 0 (poolC M (l.set n true))) v7 (l.set n true)) := Lib.hid (HP6.out.past HPA6.out)
            have HB7 : Hid (Below w.heap.size w (w6.setCells b8 0 (poolC M (l.set n true)))) := Lib.hid (Below.setCells HB6.out HB8.out _ _)
            clear hst hlen6 cS
            generalize hW7 : w6.setCells b8 0 (poolC M (l.set n true)) = w7 at *
            clear hW7
            clear HP6 HPA6 HB6 HP55 HPA55 HB55 HLD6
            generalize l.set n true = l7 at *
            obtain ⟨w70, hw70⟩ : ∃ w70, w70 = w7 := ⟨_, rfl⟩
            obtain ⟨r7, hr7⟩ : ∃ r7, r7 = v7.ownBlock := ⟨_, rfl⟩
            have HP7' : Hid (PoolIs w70 r7 M b w7 v7 l7) := Lib.hid (by rw [hw70, hr7]; exact HP7.out)
            clear HP7 hw70 hr7
            have HP7 := HP7'
            clear HP7'
            have HL7 := Lib.hid HP7.out.len.1
            have hm7 := HP7.out.len.2
            have cO : ∀ (d : Nat) (os : Array Obj), Calls Try.prog 12 #[.pointer (some ⟨b, 0, none⟩)] (Go.Sort.grow (redrawn w7 d) os) fun e w' => e = .returned (.int .i64 (countN M l7 : Nat)) ∧ Below (Go.Sort.grow (redrawn w7 d) os).heap.size (Go.Sort.grow (redrawn w7 d) os) w' := fun d os => (out_c _ _ M b v7 l7 _ (HP7.out.below (below_regrown w7 d os))).mono fun e w' ⟨h1, q, h2⟩ => ⟨h1, by rw [h2]; exact below_drewN2 (Below.refl _ _) q⟩
            have cC : ∀ (d : Nat) (os : Array Obj), Calls Try.prog 13 #[.agg (poolC M l7).toArray] (Go.Sort.grow (redrawn w7 d) os) fun e w' => e = .returned (.int .i64 (countN M l7 : Nat)) ∧ Below (Go.Sort.grow (redrawn w7 d) os).heap.size (Go.Sort.grow (redrawn w7 d) os) w' := fun d os => count9_c M l7 _ HL7.out hm7
            have HLQ : Hid (∀ w', (∃ p : Regrown, w' = Go.Sort.grow (redrawn w7 p.d) p.os) → (Instr.loadAt 28 (.pointer (some ⟨b8, 0, none⟩))).run Try.prog w' = .ok (.agg (poolC M l7).toArray) w') := Lib.hid (fun w' ⟨p, hp⟩ => (HPA7.out.below (grow_below p hp)).load HL7.out)
            refine wp_region_quiet_below (by kernel_rfl) (by kernel_rfl) ?_
            quiet_step (fail)
            quiet_step (exact Calls.regrown_of (cO _ _))
            refine wpQuiet_load 28 _ (.pointer (some ⟨b8, 0, none⟩)) (.agg (poolC M l7).toArray) rfl HLQ.out ?_
            simp only [Act.put, List.setIfInBounds_toArray, List.set_cons_zero, List.set_cons_succ]
            quiet_step (exact Calls.regrown_of (cC _ _))
            quiet_step (fail)
            refine wpQuiet_nil ?_
            intro _ hw'
            obtain ⟨p9, hw''⟩ := hw'
            have hb9 := grow_below p9 hw''
            have HP9 := Lib.hid (HP7.out.below hb9)
            have HPA9 := Lib.hid (HPA7.out.below hb9)
            have HB9 := Lib.hid (HB7.out.trans (hb9.mono HB7.out.size))
            clear hb9 hw'' cO cC
            go_wp2
            go_roundw
            case rel => exact ⟨k + 1, l7, v7, w70, r7, by omega, by first | rfl | go_num, HP9.out, HPA9.out, HB9.out⟩
            case measure => simp [intOf]; omega
      · have hge : ¬ ((k : Int) < (n3 : Int)) := by omega
        go_wp2
        go_ret
        exact ⟨rfl, HB.out⟩
end Go.Proofs.Ytfpnecbhpcnadaa
