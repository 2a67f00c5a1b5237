/-
  The tree's Move.
-/
import Derived.Test.YthaghhleidopeaaTrUn
namespace Go.Proofs.Ythaghhleidopeaa
open Go.RowKit Go.Sort
set_option linter.unusedVariables false

section
variable {w : World} {b : Nat} {l : List Itm} {nx : Int} {R : Nat → Value} {u : Nat} {v : Value} {ys : List Int}
set_option maxHeartbeats 8000000 in
set_option maxRecDepth 100000 in
theorem treeMove_c (h : TM w b (kindN l) (entsN l) R u v ys nx) (ho : outRow u ys = usedRow l) (hg : GoodT l nx) (d : Int) (s : ByteArray) (dt : Int) (ns : ByteArray) (sh : Int) (hs : ns.size ≤ 9223372036854775807) (hnx : nx + 1 ≤ 9223372036854775807) :
    Calls Try.prog 17 #[ptrV b, .int .i64 d, .string s, .int .i64 dt, .string ns, .int .i64 sh] w (UnTPost b (moveI l nx d s dt ns sh) (Foot b R v) w) := by
  unfold UnTPost
  have cF := hg.findS h d s
  have cA := fun W (hW : Below w.heap.size w W) => admits_c (h.below hW) dt ns hs sh
  have HSAME : Hid (∀ W, Below w.heap.size w W → TIs W b l nx (Foot b R v) ∧ Trod w W (Foot b R v) (Foot b R v)) := Lib.hid (fun W hW => ⟨⟨R, u, v, ys, h.below hW, ho, hg, rfl⟩, Trod.of_below hW⟩)
  have HT := Lib.hid h
  have HG := Lib.hid hg
  have HOU := Lib.hid ho
  obtain ⟨Q, hQ⟩ : ∃ Q, moveI l nx d s dt ns sh = Q := ⟨_, rfl⟩
  rw [hQ]
  unfold moveI at hQ
  have hfd := fun h => found (l := l) (d := d) (s := s) h
  obtain ⟨⟨x, f⟩, hF⟩ : ∃ F, findI l d s = F := ⟨_, rfl⟩
  rw [hF] at cF hQ hfd
  simp only at cF hQ hfd
  unfold entV at cF
  have hlt := h.lt
  clear h hg ho hF
  have pre : ∀ w1, Below w.heap.size w w1 → Below w.heap.size w (w1.alloc (entB x)) ∧ (w1.alloc (entB x)).heap[w1.heap.size]? = some (.cells #[.string x.name, .int .i64 x.node, .bool x.dir, .int .i64 x.cookie, .int .i64 x.short] 40 (0, 0)) := fun w1 hb => ⟨hb.alloc hb.size _, heap_alloc_new _ _⟩
  have HPRE := Lib.hid pre
  have HLT : Hid (∀ k, Foot b R v k → k < w.heap.size) := Lib.hid (fun k hk => (hlt k hk).2)
  clear pre hlt
  by_cases hf : f = 0
  · subst hf
    obtain ⟨hd, hnm, hmem, hns⟩ := hfd rfl
    rw [if_neg (by simp)] at hQ
    obtain ⟨n, rfl, hn, hk2⟩ := HG.out.dir hd
    obtain ⟨nd, hnd⟩ : ∃ nd : Nat, x.node = (nd : Int) := ⟨x.node.toNat, by have := HG.out.node _ hmem; simp only at this; omega⟩
    have hnr : 1 ≤ nd ∧ nd ≤ 200 := by have := HG.out.node _ hmem; simp only [hnd] at this; omega
    obtain ⟨nm, x1, dr, ck, sh0⟩ := x
    simp only at hnd hns hQ HPRE cF
    subst hnd
    subst hns
    clear hfd
    obtain ⟨r, hr⟩ : ∃ r, admitsI (kindN l) dt ns sh = r := ⟨_, rfl⟩
    rw [hr] at cA
    unfold admitsI at hr
    rw [HG.out.open'] at hr
    by_cases hr0 : r = 0
    · subst hr0
      have hdt : listE l dt = 0 := by
        apply Classical.byContradiction
        intro hc
        rw [if_neg hc] at hr
        exact hc hr
      rw [if_pos hdt] at hr
      obtain ⟨n2, rfl, hn2, hk3⟩ := HG.out.dir hdt
      rw [if_neg (by simp [hdt]), if_neg (by simp [hr])] at hQ
      obtain ⟨H, hH⟩ := HG.out.low
      rw [loop_below HG.out hH nd (n2 : Int)] at hQ
      have cB := fun W (hW : Below w.heap.size w W) => isBelow_c (HT.out.below hW) H (HG.out.lower hH) hnr.2 (n2 : Int)
      obtain ⟨B, hB⟩ : ∃ B, belowG (entsN l) (n2 : Int) (H nd + 1) nd = B := ⟨_, rfl⟩
      rw [hB] at cB
      have HLB := loop_below HG.out hH nd (n2 : Int)
      rw [hB] at hQ HLB
      by_cases hE : (nd : Int) = (n2 : Int)
      · rw [decide_eq_true hE, if_pos (by rfl)] at hQ
        subst hQ
        have hEb : ((nd : Int) == (n2 : Int)) = true := by rw [hE]; simp
        clear cB hr hk3 hk2 hd hdt hmem hnm hH hB HLB hE
        go_enter Try.func17, Try.ntmps17
        go_upto_region 2 with (go_at_call 16; refine cF.mono ?_; rintro e w1 ⟨rfl, hb1⟩)
        obtain ⟨hb2, hq2⟩ := HPRE.out w1 hb1
        have HB2 := Lib.hid hb2
        have HQ2 := Lib.hid hq2
        have hqq : w.heap.size ≤ w1.heap.size := hb1.size
        generalize w1.alloc (entB ⟨nm, (nd : Int), dr, ck, sh0⟩) = W0 at *
        generalize w1.heap.size = q at *
        clear hb2 hq2 hb1
        go_wp2_with (go_at_call 35; refine (cA _ HB2.out).mono ?_; rintro e w3 ⟨rfl, hb3⟩; have HB3 := Lib.hid (HB2.out.trans (hb3.mono HB2.out.size)); have hq3 := (hb3.block q (lt_of_get HQ2.out)).trans HQ2.out; have HQ3 := Lib.hid hq3; obtain ⟨⟨q0, q1, q2, q3, q4⟩, _⟩ := five_cells hq3; clear hb3 hq3)
        go_ret
        obtain ⟨g1, g2⟩ := HSAME.out _ HB3.out
        exact ⟨_, rfl, g1, g2⟩
      · have hEb : ((nd : Int) == (n2 : Int)) = false := beq_eq_false_iff_ne.2 hE
        rw [decide_eq_false hE, Bool.false_or] at hQ HLB
        cases B with
        | true =>
          rw [if_pos rfl] at hQ
          subst hQ
          clear hr hk3 hk2 hd hdt hmem hnm hH hB HLB hE
          go_enter Try.func17, Try.ntmps17
          go_upto_region 2 with (go_at_call 16; refine cF.mono ?_; rintro e w1 ⟨rfl, hb1⟩)
          obtain ⟨hb2, hq2⟩ := HPRE.out w1 hb1
          have HB2 := Lib.hid hb2
          have HQ2 := Lib.hid hq2
          have hqq : w.heap.size ≤ w1.heap.size := hb1.size
          generalize w1.alloc (entB ⟨nm, (nd : Int), dr, ck, sh0⟩) = W0 at *
          generalize w1.heap.size = q at *
          clear hb2 hq2 hb1
          go_wp2_with (first
            | (go_at_call 35; refine (cA _ HB2.out).mono ?_; rintro e w3 ⟨rfl, hb3⟩; have HB3 := Lib.hid (HB2.out.trans (hb3.mono HB2.out.size)); have hq3 := (hb3.block q (lt_of_get HQ2.out)).trans HQ2.out; have HQ3 := Lib.hid hq3; obtain ⟨⟨q0, q1, q2, q3, q4⟩, _⟩ := five_cells hq3; clear hb3 hq3)
            | (go_at_call 42; refine (cB _ HB3.out).mono ?_; rintro e w4 ⟨rfl, hb4⟩; have HB4 := Lib.hid (HB3.out.trans (hb4.mono HB3.out.size)); have hq4 := (hb4.block q (lt_of_get HQ3.out)).trans HQ3.out; have HQ4 := Lib.hid hq4; clear hb4 hq4))
          go_ret
          obtain ⟨g1, g2⟩ := HSAME.out _ HB4.out
          exact ⟨_, rfl, g1, g2⟩
        | false =>
          rw [if_neg (by simp)] at hQ
          rcases place_find HG.out hdt ns with ⟨hfp, hp⟩ | ⟨hfp, hp⟩
          · rw [if_pos hfp] at hQ
            subst hQ
            have cP := fun W (hW : Below w.heap.size w W) => hasPlace_c (HT.out.below hW) hn2 (by have := HG.out.elen n2; omega) ns
            have HP6 : hasPlaceI (entsN l n2) ns nx = 6 := if_pos hp
            rw [HP6] at cP
            clear hr hk3 hk2 hd hdt hmem hnm hH hB HLB hE hfp hp HP6
            go_enter Try.func17, Try.ntmps17
            go_upto_region 2 with (go_at_call 16; refine cF.mono ?_; rintro e w1 ⟨rfl, hb1⟩)
            obtain ⟨hb2, hq2⟩ := HPRE.out w1 hb1
            have HB2 := Lib.hid hb2
            have HQ2 := Lib.hid hq2
            have hqq : w.heap.size ≤ w1.heap.size := hb1.size
            generalize w1.alloc (entB ⟨nm, (nd : Int), dr, ck, sh0⟩) = W0 at *
            generalize w1.heap.size = q at *
            clear hb2 hq2 hb1
            go_wp2_with (first
              | (go_at_call 35; refine (cA _ HB2.out).mono ?_; rintro e w3 ⟨rfl, hb3⟩; have HB3 := Lib.hid (HB2.out.trans (hb3.mono HB2.out.size)); have hq3 := (hb3.block q (lt_of_get HQ2.out)).trans HQ2.out; have HQ3 := Lib.hid hq3; obtain ⟨⟨q0, q1, q2, q3, q4⟩, _⟩ := five_cells hq3; clear hb3 hq3)
              | (go_at_call 42; refine (cB _ HB3.out).mono ?_; rintro e w4 ⟨rfl, hb4⟩; have HB4 := Lib.hid (HB3.out.trans (hb4.mono HB3.out.size)); have hq4 := (hb4.block q (lt_of_get HQ3.out)).trans HQ3.out; have HQ4 := Lib.hid hq4; clear hb4 hq4)
              | (go_at_call 36; refine (cP _ HB4.out).mono ?_; rintro e w5 ⟨rfl, hb5⟩; have HB5 := Lib.hid (HB4.out.trans (hb5.mono HB4.out.size)); have hq5 := (hb5.block q (lt_of_get HQ4.out)).trans HQ4.out; have HQ5 := Lib.hid hq5; clear hb5 hq5))
            go_ret
            obtain ⟨g1, g2⟩ := HSAME.out _ HB5.out
            exact ⟨_, rfl, g1, g2⟩
          · rw [if_neg hfp] at hQ
            subst hQ
            have cP := fun W (hW : Below w.heap.size w W) => hasPlace_c (HT.out.below hW) hn2 (by have := HG.out.elen n2; omega) ns
            have HP0 : hasPlaceI (entsN l n2) ns nx = 0 := by
              unfold hasPlaceI
              rw [hp, if_neg (by omega), if_neg (by have := HG.out.nx1; omega)]
            rw [HP0] at cP
            have HGM : Hid (GoodT (putI (dropI l (n : Int) nm) nx (n2 : Int) ⟨ns, (nd : Int), dr, 0, sh⟩) (nx + 1)) := Lib.hid (HG.out.move hmem hdt hr (by rw [HLB]; simp) hfp)
            have HKM : Hid (kindN (putI (dropI l (n : Int) nm) nx (n2 : Int) ⟨ns, (nd : Int), dr, 0, sh⟩) = kindN l) := Lib.hid (kindN_move HG.out hmem (n2 : Int) ns sh)
            have HUS : Hid (usedRow (putI (dropI l (n : Int) nm) nx (n2 : Int) ⟨ns, (nd : Int), dr, 0, sh⟩) = usedRow l) := Lib.hid (usedRow_same (fun k => by rw [HKM.out]))
            have HKD : Hid (upd (kindN l) nd (kindOf dr) = kindN l) := Lib.hid (by
              have h9 := kindI_mem HG.out hmem
              have h8 : kindOf dr = kindN l nd := h9.symm
              rw [h8, upd_self])
            have HS255 : Hid (ns.size ≤ 281474976710656) := Lib.hid (by have := badE_size hr; omega)
            rcases placeI_spec (entsN l n) nm with ⟨_, hc, _⟩ | ⟨i, y, hpp, hy, hyn, hyy, _⟩
            · unfold entsN at hc
              rw [hc] at hnm
              cases hnm
            · unfold entsN at hyy
              rw [hyy] at hnm
              obtain rfl := Option.some.inj hnm
              have hil : i < (entsN l n).length := (List.getElem?_eq_some_iff.1 hy).1
              have hel := HG.out.elen n
              have HED : Hid (entsN (dropI l (n : Int) nm) = upd (entsN l) n ((entsN l n).eraseIdx i)) := Lib.hid (entsN_drop HG.out hy rfl)
              have HEM : Hid (entsN (putI (dropI l (n : Int) nm) nx (n2 : Int) ⟨ns, (nd : Int), dr, 0, sh⟩) = upd (upd (entsN l) n ((entsN l n).eraseIdx i)) n2 (upd (entsN l) n ((entsN l n).eraseIdx i) n2 ++ [⟨ns, (nd : Int), dr, nx, sh⟩])) := Lib.hid (by
                rw [← HED.out]
                exact entsN_snoc (dropI l (n : Int) nm) n2 ⟨ns, (nd : Int), dr, nx, sh⟩)
              have HEL2 : Hid ((upd (entsN l) n ((entsN l n).eraseIdx i) n2).length ≤ 1000) := Lib.hid (by
                unfold upd
                split
                · have := List.length_eraseIdx_le (entsN l n) i
                  omega
                · have := HG.out.elen n2
                  omega)
              have HPL := Lib.hid hpp
              have HIL := Lib.hid hil
              have HEL := Lib.hid hel
              have HN := Lib.hid hn
              have HN2 := Lib.hid hn2
              have HNR := Lib.hid hnr
              have HNX0 : Hid (0 ≤ nx) := Lib.hid (by have := HG.out.nx1; omega)
              have HNX := Lib.hid hnx
              clear hr hk3 hk2 hd hdt hmem hH hB HLB hE hfp hp HP0 hy hyy hpp hil hel hn hn2 hnr hnx
              go_enter Try.func17, Try.ntmps17
              go_upto_region 2 with (go_at_call 16; refine cF.mono ?_; rintro e w1 ⟨rfl, hb1⟩)
              obtain ⟨hb2, hq2⟩ := HPRE.out w1 hb1
              have HB2 := Lib.hid hb2
              have HQ2 := Lib.hid hq2
              have hqq : w.heap.size ≤ w1.heap.size := hb1.size
              generalize w1.alloc (entB ⟨nm, (nd : Int), dr, ck, sh0⟩) = W0 at *
              generalize w1.heap.size = q at *
              clear hb2 hq2 hb1
              go_upto_region 12 with (first
                | (go_at_call 35; refine (cA _ HB2.out).mono ?_; rintro e w3 ⟨rfl, hb3⟩; have HB3 := Lib.hid (HB2.out.trans (hb3.mono HB2.out.size)); have hq3 := (hb3.block q (lt_of_get HQ2.out)).trans HQ2.out; have HQ3 := Lib.hid hq3; obtain ⟨⟨q0, q1, q2, q3, q4⟩, _⟩ := five_cells hq3; clear hb3 hq3)
                | (go_at_call 42; refine (cB _ HB3.out).mono ?_; rintro e w4 ⟨rfl, hb4⟩; have HB4 := Lib.hid (HB3.out.trans (hb4.mono HB3.out.size)); have hq4 := (hb4.block q (lt_of_get HQ3.out)).trans HQ3.out; have HQ4 := Lib.hid hq4; clear hb4 hq4)
                | (go_at_call 36; refine (cP _ HB4.out).mono ?_; rintro e w5 ⟨rfl, hb5⟩; have HB5 := Lib.hid (HB4.out.trans (hb5.mono HB4.out.size)); have hq5 := (hb5.block q (lt_of_get HQ4.out)).trans HQ4.out; have HQ5 := Lib.hid hq5; clear hb5 hq5))
              clear q0 q1 q2 q3 q4
              have cR := remove_c (HT.out.below HB5.out) HN.out (by have := HEL.out; omega) nm HPL.out HIL.out
              go_upto_region 13 with (go_at_call 39; refine cR.mono ?_; rintro e w6 ⟨R6, rfl, hm6, ht6⟩; have HM6 := Lib.hid hm6; have HT6 := Lib.hid ht6; clear hm6 ht6)
              have hq6 : w6.heap[q]? = some (.cells #[.string nm, .int .i64 (nd : Int), .bool dr, .int .i64 ck, .int .i64 sh0] 40 (0, 0)) := (HT6.out.rest q (lt_of_get HQ5.out) (fun hc => by have := HLT.out q hc; omega)).trans HQ5.out
              have HQ6 := Lib.hid hq6
              have hqf : ∀ k, Foot b R6 v k → k ≠ q := fun k hk e => by
                rcases HT6.out.sub k hk with h9 | h9
                · have := HLT.out k h9; omega
                · have := lt_of_get HQ5.out; omega
              obtain ⟨⟨q0, q1, q2, q3, q4⟩, ⟨f0, f1, f2, f3, f4⟩⟩ := five_cells hq6
              have HQ7 : Hid (((w6.setCell ⟨q, 0, none⟩ (.string ns)).setCell ⟨q, 4, none⟩ (.int .i64 sh)).heap[q]? = some (.cells #[.string ns, .int .i64 (nd : Int), .bool dr, .int .i64 ck, .int .i64 sh] 40 (0, 0))) := Lib.hid (by
                rw [heap_setCell_same _ q 4 _ _ _ (heap_setCell_same _ q 0 _ _ _ hq6)]
                rfl)
              have HM7 : Hid (TM ((w6.setCell ⟨q, 0, none⟩ (.string ns)).setCell ⟨q, 4, none⟩ (.int .i64 sh)) b (kindN l) (upd (entsN l) n ((entsN l n).eraseIdx i)) R6 u v ys nx) := Lib.hid (HM6.out.kept (fun k hk => by
                rw [Below.heap_setCell _ _ _ _ (hqf k hk), Below.heap_setCell _ _ _ _ (hqf k hk)]))
              have HT7 : Hid (Trod w ((w6.setCell ⟨q, 0, none⟩ (.string ns)).setCell ⟨q, 4, none⟩ (.int .i64 sh)) (Foot b R v) (Foot b R6 v)) := Lib.hid (by
                have h9 := (Trod.of_below HB5.out).trans HT6.out
                refine ⟨h9.os, h9.tape, h9.output, by have := h9.size; simpa [World.setCell] using this, fun k hk hs => ?_, h9.sub⟩
                have hkq : k ≠ q := by omega
                rw [Below.heap_setCell _ _ _ _ hkq, Below.heap_setCell _ _ _ _ hkq]
                exact h9.rest k hk hs)
              clear hq6 hqf cR
              go_upto_region 14 with fail
              clear q0 q1 q2 q3 q4 f0 f1 f2 f3 f4
              generalize (w6.setCell ⟨q, 0, none⟩ (.string ns)).setCell ⟨q, 4, none⟩ (.int .i64 sh) = W7 at *
              obtain ⟨⟨q0, q1, q2, q3, q4⟩, _⟩ := five_cells HQ7.out
              have cAd := treeAdd_c HM7.out HN2.out HEL2.out ⟨ns, (nd : Int), dr, ck, sh⟩ rfl HNR.out.2 HS255.out HNX0.out HNX.out
              unfold PutPost entV at cAd
              go_wp2_with (go_at_call 38; refine cAd.mono ?_; rintro e w8 ⟨R8, rfl, hm8, ht8⟩; have HM8 := Lib.hid hm8; have HT8 := Lib.hid ht8; clear hm8 ht8)
              go_ret
              refine ⟨_, rfl, ⟨R8, u, v, ys, ?_, ?_, HGM.out, rfl⟩, HT7.out.trans HT8.out⟩
              · show TM w8 b (kindN (putI (dropI l (n : Int) nm) nx (n2 : Int) ⟨ns, (nd : Int), dr, 0, sh⟩)) (entsN (putI (dropI l (n : Int) nm) nx (n2 : Int) ⟨ns, (nd : Int), dr, 0, sh⟩)) R8 u v ys (nx + 1)
                rw [HKM.out, HEM.out]
                have h9 := HM8.out
                rw [HKD.out] at h9
                exact h9
              · show outRow u ys = usedRow (putI (dropI l (n : Int) nm) nx (n2 : Int) ⟨ns, (nd : Int), dr, 0, sh⟩)
                rw [HUS.out]
                exact HOU.out
    · have hQ2 : Q = ((l, nx), r) := by
        by_cases hdt : listE l dt = 0
        · rw [if_pos hdt] at hr
          rw [← hQ, if_neg (by simp [hdt]), if_pos (by rw [hr]; exact hr0), hr]
        · rw [if_neg hdt] at hr
          rw [← hQ, if_pos hdt, hr]
      subst hQ2
      have h0b : (r == 0) = false := beq_eq_false_iff_ne.2 hr0
      clear hr hQ hr0 hmem hnm hd hk2
      go_enter Try.func17, Try.ntmps17
      go_upto_region 2 with (go_at_call 16; refine cF.mono ?_; rintro e w1 ⟨rfl, hb1⟩)
      obtain ⟨hb2, hq2⟩ := HPRE.out w1 hb1
      have HB2 := Lib.hid hb2
      have HQ2 := Lib.hid hq2
      have hqq : w.heap.size ≤ w1.heap.size := hb1.size
      generalize w1.alloc (entB ⟨nm, (nd : Int), dr, ck, sh0⟩) = W0 at *
      generalize w1.heap.size = q at *
      clear hb2 hq2 hb1
      go_wp2_with (go_at_call 35; refine (cA _ HB2.out).mono ?_; rintro e w3 ⟨rfl, hb3⟩; have HB3 := Lib.hid (HB2.out.trans (hb3.mono HB2.out.size)); have hq3 := (hb3.block q (lt_of_get HQ2.out)).trans HQ2.out; have HQ3 := Lib.hid hq3; obtain ⟨⟨q0, q1, q2, q3, q4⟩, _⟩ := five_cells hq3; clear hb3 hq3)
      go_ret
      obtain ⟨g1, g2⟩ := HSAME.out _ HB3.out
      exact ⟨_, rfl, g1, g2⟩
  · rw [if_pos hf] at hQ
    subst hQ
    have h0b : (f == 0) = false := beq_eq_false_iff_ne.2 hf
    clear hfd hf cA
    go_enter Try.func17, Try.ntmps17
    go_upto_region 2 with (go_at_call 16; refine cF.mono ?_; rintro e w1 ⟨rfl, hb1⟩)
    obtain ⟨hb2, hq2⟩ := HPRE.out w1 hb1
    have HB2 := Lib.hid hb2
    have HQ2 := Lib.hid hq2
    have hqq : w.heap.size ≤ w1.heap.size := hb1.size
    generalize w1.alloc (entB x) = W0 at *
    generalize w1.heap.size = q at *
    clear hb2 hq2 hb1
    go_wp2
    go_ret
    obtain ⟨g1, g2⟩ := HSAME.out _ HB2.out
    exact ⟨_, rfl, g1, g2⟩
end
end Go.Proofs.Ythaghhleidopeaa
