/-
  The tree's Unlink.
-/
import Derived.Test.YthaghhleidopeaaTrDo
namespace Go.Proofs.Ythaghhleidopeaa
open Go.RowKit Go.Sort
set_option linter.unusedVariables false

section
variable {w : World} {b : Nat} {l : List Itm} {nx : Int} {R : Nat → Value} {u : Nat} {v : Value} {ys : List Int}
def UnTPost (b : Nat) (r : (List Itm × Int) × Int) (S : Nat → Prop) (w : World) (e : Ending) (w' : World) : Prop :=
  ∃ S', e = .returned (.int .i64 r.2) ∧ TIs w' b r.1.1 r.1.2 S' ∧ Trod w w' S S'
/-- An entry in a block of its own. -/
abbrev entB (x : Ent) : Obj := .cells #[.string x.name, .int .i64 x.node, .bool x.dir, .int .i64 x.cookie, .int .i64 x.short] 40
theorem GoodT.findS (h : GoodT l nx) (hm : TM w b (kindN l) (entsN l) R u v ys nx) (d : Int) (s : ByteArray) : Calls Try.prog 16 #[ptrV b, .int .i64 d, .string s] w fun e w' => e = .returned (.tuple #[entV (findI l d s).1, .int .i64 (findI l d s).2]) ∧ Below w.heap.size w w' := by
  have := treeFind_c hm (fun n hn => Nat.le_trans (h.elen n) (by omega)) d s
  rw [h.find'] at this
  exact this
set_option maxHeartbeats 8000000 in
set_option maxRecDepth 100000 in
theorem treeUnlink_c (h : TM w b (kindN l) (entsN l) R u v ys nx) (ho : outRow u ys = usedRow l) (hg : GoodT l nx) (d : Int) (s : ByteArray) (isD : Bool) :
    Calls Try.prog 14 #[ptrV b, .int .i64 d, .string s, .bool isD] w (UnTPost b (unlinkI l nx d s isD) (Foot b R v) w) := by
  unfold UnTPost
  have cF := hg.findS h d s
  have HSAME : Hid (∀ W, Below w.heap.size w W → TIs W b l nx (Foot b R v) ∧ Trod w W (Foot b R v) (Foot b R v)) := Lib.hid (fun W hW => ⟨⟨R, u, v, ys, h.below hW, ho, hg, rfl⟩, Trod.of_below hW⟩)
  have HT := Lib.hid h
  have HG := Lib.hid hg
  have HOU := Lib.hid ho
  obtain ⟨Q, hQ⟩ : ∃ Q, unlinkI l nx d s isD = Q := ⟨_, rfl⟩
  rw [hQ]
  unfold unlinkI at hQ
  have hfd := fun h => found (l := l) (d := d) (s := s) h
  obtain ⟨⟨x, f⟩, hF⟩ : ∃ F, findI l d s = F := ⟨_, rfl⟩
  rw [hF] at cF hQ hfd
  simp only at cF hQ hfd
  unfold entV at cF
  have hlt := h.lt
  clear h hg ho hF
  have pre : ∀ w1, Below w.heap.size w w1 → Below w.heap.size w (w1.alloc (entB x)) ∧ (w1.alloc (entB x)).heap[w1.heap.size]? = some (.cells #[.string x.name, .int .i64 x.node, .bool x.dir, .int .i64 x.cookie, .int .i64 x.short] 40 (0, 0)) := fun w1 hb => ⟨hb.alloc hb.size _, heap_alloc_new _ _⟩
  have HPRE := Lib.hid pre
  have HLT : Hid (∀ k, Foot b R v k → k < w.heap.size) := Lib.hid (fun k hk => (hlt k hk).2)
  clear pre hlt
  by_cases hf : f = 0
  · subst hf
    obtain ⟨hd, hnm, hmem, hns⟩ := hfd rfl
    rw [if_neg (by simp)] at hQ
    obtain ⟨n, rfl, hn, hk2⟩ := HG.out.dir hd
    obtain ⟨nd, hnd⟩ : ∃ nd : Nat, x.node = (nd : Int) := ⟨x.node.toNat, by have := HG.out.node _ hmem; simp only at this; omega⟩
    have hnr : 1 ≤ nd ∧ nd ≤ 200 := by have := HG.out.node _ hmem; simp only [hnd] at this; omega
    obtain ⟨nm, x1, dr, ck, sh⟩ := x
    simp only at hnd hns hQ HPRE cF
    subst hnd
    subst hns
    by_cases h1 : isD = true ∧ dr = false
    · obtain ⟨rfl, rfl⟩ := h1
      rw [if_pos ⟨rfl, rfl⟩] at hQ
      subst hQ
      clear hfd hk2
      go_enter Try.func14, Try.ntmps14
      go_upto_region 2 with (go_at_call 16; refine cF.mono ?_; rintro e w1 ⟨rfl, hb1⟩)
      obtain ⟨hb2, hq2⟩ := HPRE.out w1 hb1
      have HB2 := Lib.hid hb2
      obtain ⟨⟨q0, q1, q2, q3, q4⟩, _⟩ := five_cells hq2
      clear hb2 hq2 hb1
      go_wp2
      go_ret
      obtain ⟨g1, g2⟩ := HSAME.out _ HB2.out
      exact ⟨_, rfl, g1, g2⟩
    · rw [if_neg h1] at hQ
      by_cases h2 : isD = false ∧ dr = true
      · obtain ⟨rfl, rfl⟩ := h2
        rw [if_pos ⟨rfl, rfl⟩] at hQ
        subst hQ
        clear hfd hk2 h1
        go_enter Try.func14, Try.ntmps14
        go_upto_region 2 with (go_at_call 16; refine cF.mono ?_; rintro e w1 ⟨rfl, hb1⟩)
        obtain ⟨hb2, hq2⟩ := HPRE.out w1 hb1
        have HB2 := Lib.hid hb2
        obtain ⟨⟨q0, q1, q2, q3, q4⟩, _⟩ := five_cells hq2
        clear hb2 hq2 hb1
        go_wp2
        go_ret
        obtain ⟨g1, g2⟩ := HSAME.out _ HB2.out
        exact ⟨_, rfl, g1, g2⟩
      · rw [if_neg h2, hasIn_ents] at hQ
        have hdd : dr = isD := by cases dr <;> cases isD <;> simp_all
        subst hdd
        have hn0 : (0 : Int) ≤ (nd : Int) := by omega
        have hn1 : (nd : Int) < 201 := by omega
        obtain ⟨m, hm⟩ : ∃ m, (entsN l nd).length = m := ⟨_, rfl⟩
        have hm' : (entsI l (nd : Int)).length = m := hm
        rw [hm'] at hQ
        obtain ⟨ad, cap, hra⟩ := (HT.out.ents hnr.2).len
        rw [hm] at hra
        have HRA := Lib.hid hra
        by_cases hm0 : 0 < m
        · rw [if_pos (decide_eq_true hm0)] at hQ
          subst hQ
          have hmz : (0 : Int) < (m : Int) := by omega
          clear hfd hk2 h1 h2 hm hm' hra
          cases dr with
          | false =>
            go_enter Try.func14, Try.ntmps14
            go_upto_region 2 with (go_at_call 16; refine cF.mono ?_; rintro e w1 ⟨rfl, hb1⟩)
            obtain ⟨hb2, hq2⟩ := HPRE.out w1 hb1
            have HB2 := Lib.hid hb2
            have r1 := ((HT.out.below hb2).rcell hnr.2).1
            rw [HRA.out] at r1
            obtain ⟨⟨q0, q1, q2, q3, q4⟩, _⟩ := five_cells hq2
            clear hb2 hq2 hb1
            go_wp2
            go_quiet (fail)
            go_wp2
            go_ret
            obtain ⟨g1, g2⟩ := HSAME.out _ (below_drewN1 HB2.out _)
            exact ⟨_, rfl, g1, g2⟩
          | true =>
            go_enter Try.func14, Try.ntmps14
            go_upto_region 2 with (go_at_call 16; refine cF.mono ?_; rintro e w1 ⟨rfl, hb1⟩)
            obtain ⟨hb2, hq2⟩ := HPRE.out w1 hb1
            have HB2 := Lib.hid hb2
            have r1 := ((HT.out.below hb2).rcell hnr.2).1
            rw [HRA.out] at r1
            obtain ⟨⟨q0, q1, q2, q3, q4⟩, _⟩ := five_cells hq2
            clear hb2 hq2 hb1
            go_wp2
            go_quiet (fail)
            go_wp2
            go_ret
            obtain ⟨g1, g2⟩ := HSAME.out _ (below_drewN1 HB2.out _)
            exact ⟨_, rfl, g1, g2⟩
        · obtain rfl : m = 0 := by omega
          rw [if_neg (by simp)] at hQ
          subst hQ
          rcases placeI_spec (entsN l n) nm with ⟨_, hc, _⟩ | ⟨i, y, hp, hy, hyn, hyy, _⟩
          · unfold entsN at hc
            rw [hc] at hnm
            cases hnm
          · unfold entsN at hyy
            rw [hyy] at hnm
            obtain rfl := Option.some.inj hnm
            have hil : i < (entsN l n).length := (List.getElem?_eq_some_iff.1 hy).1
            have hel := HG.out.elen n
            have HEN : Hid (entsN (dropI l (n : Int) nm) = upd (upd (entsN l) n ((entsN l n).eraseIdx i)) nd []) := Lib.hid (by
              rw [entsN_drop HG.out hy rfl]
              have hne : nd ≠ n := fun e => by
                obtain ⟨H, hH⟩ := HG.out.low
                have := hH _ hmem
                simp only [Int.toNat_natCast, e] at this
                omega
              have hz : upd (entsN l) n ((entsN l n).eraseIdx i) nd = [] := by
                rw [upd_ne _ _ hne]
                exact List.eq_nil_of_length_eq_zero hm
              have hu := (upd_self (upd (entsN l) n ((entsN l n).eraseIdx i)) nd).symm
              rw [hz] at hu
              exact hu)
            have HKN : Hid (kindN (dropI l (n : Int) nm) = upd (kindN l) nd 0) := Lib.hid (by
              have := kindN_drop HG.out hmem
              simp only [Int.toNat_natCast] at this
              exact this)
            have HGU : Hid (GoodT (dropI l (n : Int) nm) nx) := Lib.hid (HG.out.unlink hmem (List.eq_nil_of_length_eq_zero hm'))
            have HUS : Hid (usedRow (dropI l (n : Int) nm) = (usedRow l).set nd false) := Lib.hid (usedRow_set hnr.2 (decide_eq_false (fun hc => hc.2 (by rw [HKN.out, upd_same]))) (fun k hk => by rw [HKN.out, upd_ne _ _ hk]))
            have HIO : Hid (isOut 200 (outRow u ys) (nd : Int) = true) := Lib.hid (by
              unfold isOut
              rw [HOU.out, Int.toNat_natCast, usedRow_getD l hnr.2, decide_eq_true (by omega), decide_eq_true (by omega), decide_eq_true]
              · rfl
              · refine ⟨by omega, ?_⟩
                have := kindI_mem HG.out hmem
                simp only at this
                unfold kindN
                rw [this]
                exact kindOf_ne _)
            have HPL := Lib.hid hp
            have HIL := Lib.hid hil
            have HEL := Lib.hid hel
            have HN := Lib.hid hn
            have HNR := Lib.hid hnr
            have hd0 : (0 : Int) ≤ (n : Int) := by omega
            clear hfd hk2 h1 h2 hm hm' hra hyy hy hp hil hel hd hmem hn hnr hm0
            cases dr with
            | false =>
              go_enter Try.func14, Try.ntmps14
              go_upto_region 2 with (go_at_call 16; refine cF.mono ?_; rintro e w1 ⟨rfl, hb1⟩)
              obtain ⟨hb2, hq2⟩ := HPRE.out w1 hb1
              have HB2 := Lib.hid hb2
              have HQ2 := Lib.hid hq2
              have hqq : w.heap.size ≤ w1.heap.size := hb1.size
              have r1 := ((HT.out.below hb2).rcell HNR.out.2).1
              rw [HRA.out] at r1
              obtain ⟨⟨q0, q1, q2, q3, q4⟩, _⟩ := five_cells hq2
              generalize w1.alloc (entB ⟨nm, (nd : Int), false, ck, sh⟩) = W0 at *
              generalize w1.heap.size = q at *
              clear hb2 hq2 hb1
              go_upto_region 8 with fail
              go_quiet (fail)
              go_upto_region 10 with fail
              clear q0 q1 q2 q3 q4 r1
              have hb3 : Below w.heap.size w (W0.drewN nq) := below_drewN1 HB2.out nq
              have HQ3 : Hid ((W0.drewN nq).heap[q]? = some (.cells #[.string nm, .int .i64 (nd : Int), .bool false, .int .i64 ck, .int .i64 sh] 40 (0, 0))) := Lib.hid (((below_drewN1 (Below.refl W0.heap.size W0) nq).block q (lt_of_get HQ2.out)).trans HQ2.out)
              have HB3 := Lib.hid hb3
              generalize W0.drewN nq = W3 at *
              have cR := remove_c (HT.out.below hb3) HN.out (by have := HEL.out; omega) nm HPL.out HIL.out
              clear hb3
              go_upto_region 11 with (go_at_call 39; refine cR.mono ?_; rintro e w5 ⟨R5, rfl, hm5, ht5⟩; have HM5 := Lib.hid hm5; have HT5 := Lib.hid ht5; clear hm5 ht5)
              have hq5 : w5.heap[q]? = some (.cells #[.string nm, .int .i64 (nd : Int), .bool false, .int .i64 ck, .int .i64 sh] 40 (0, 0)) := (HT5.out.rest q (lt_of_get HQ3.out) (fun hc => by have := HLT.out q hc; omega)).trans HQ3.out
              have HQ5 := Lib.hid hq5
              have hqb : q ≠ b := fun e => by have := HLT.out b (Or.inl rfl); omega
              obtain ⟨⟨q0, q1, q2, q3, q4⟩, _⟩ := five_cells (W := w5.drew) hq5
              obtain ⟨k0, k1⟩ : w5.drew.cell? ⟨b, nd * 2, none⟩ = some (.int .i64 (kindN l nd)) ∧ w5.drew.frozen? ⟨b, nd * 2, none⟩ = false := HM5.out.kcell HNR.out.2
              have hm6 := HM5.out.setKind HNR.out.2 0
              obtain ⟨k2, k3⟩ : (w5.setCell ⟨b, nd * 2, none⟩ (.int .i64 0)).drew.cell? ⟨b, nd * 2 + 1, none⟩ = some (R5 nd) ∧ (w5.setCell ⟨b, nd * 2, none⟩ (.int .i64 0)).drew.frozen? ⟨b, nd * 2 + 1, none⟩ = false := hm6.rcell HNR.out.2
              have k4 : w5.drew.cell? ⟨b, nd * 2 + 1, none⟩ = some (R5 nd) := (HM5.out.rcell HNR.out.2).1
              have k5 : w5.drew.frozen? ⟨b, nd * 2 + 1, none⟩ = false := (HM5.out.rcell HNR.out.2).2
              obtain ⟨hm7, ht7⟩ := hm6.setRow HNR.out.2 (l := []) (grown_refl _ _) (r := .slice none 0 0) ⟨rfl, Or.inl ⟨rfl, rfl⟩⟩ (fun g hg => by cases hg)
              have ht6 := HM5.out.trod_cell (nd * 2) (.int .i64 0) R5 v (fun k hk => Or.inl hk)
              clear hq5 cR hm6
              go_big_region
              obtain ⟨W7, hW7⟩ : ∃ W7, ((w5.setCell ⟨b, nd * 2, none⟩ (.int .i64 0)).setCell ⟨b, nd * 2 + 1, none⟩ (.slice none 0 0)).drew = W7 := ⟨_, rfl⟩
              have HM7 : Hid (TM W7 b (upd (kindN l) nd 0) (upd (upd (entsN l) n ((entsN l n).eraseIdx i)) nd []) (upd R5 nd (.slice none 0 0)) u v ys nx) := Lib.hid (by rw [← hW7]; exact hm7.below (Below.refl _ _).drew)
              have HT7 : Hid (Trod w W7 (Foot b R v) (Foot b (upd R5 nd (.slice none 0 0)) v)) := Lib.hid (by rw [← hW7]; exact ((((Trod.of_below HB3.out).trans HT5.out).trans ht6).trans ht7).trans (Trod.of_below (Below.refl _ _).drew))
              have HQ7 : Hid (W7.heap[q]? = some (.cells #[.string nm, .int .i64 (nd : Int), .bool false, .int .i64 ck, .int .i64 sh] 40 (0, 0))) := Lib.hid (by
                rw [← hW7]
                show ((w5.setCell _ _).setCell _ _).heap[q]? = _
                rw [Below.heap_setCell _ _ _ _ hqb, Below.heap_setCell _ _ _ _ hqb]
                exact HQ5.out)
              clear q0 q1 q2 q3 q4 k0 k1 k2 k3 k4 k5 hm7 ht7 ht6
              (try rw [hW7])
              go_upto_region 12 with fail
              clear hW7
              obtain ⟨⟨q0, q1, q2, q3, q4⟩, _⟩ := five_cells (W := W7.drew) HQ7.out
              have cG := Emb.give_c W7.drew v.ownBlock 200 b v (outRow u ys) (nd : Int) W7.drew (HM7.out.below (Below.refl _ _).drew).poolIs true HIO.out
              rw [if_pos rfl, Int.toNat_natCast] at cG
              go_region_with (first
                | (go_at_call 40; refine cG.mono ?_; rintro e w8 ⟨rfl, v8, hp8⟩; have HP8 := Lib.hid hp8; clear hp8))
              all_goals
                go_wp2
                go_ret
                obtain ⟨u8, ys8, g1, g2, g3⟩ := (HM7.out.below (Below.refl _ _).drew).pool HP8.out
                refine ⟨_, rfl, ⟨_, u8, v8, ys8, ?_, ?_, HGU.out, rfl⟩, (HT7.out.trans (Trod.of_below (Below.refl _ _).drew)).trans g3⟩
                · rw [HKN.out, HEN.out]
                  exact g1
                · rw [HUS.out, ← HOU.out]
                  exact g2.symm
            | true =>
              go_enter Try.func14, Try.ntmps14
              go_upto_region 2 with (go_at_call 16; refine cF.mono ?_; rintro e w1 ⟨rfl, hb1⟩)
              obtain ⟨hb2, hq2⟩ := HPRE.out w1 hb1
              have HB2 := Lib.hid hb2
              have HQ2 := Lib.hid hq2
              have hqq : w.heap.size ≤ w1.heap.size := hb1.size
              have r1 := ((HT.out.below hb2).rcell HNR.out.2).1
              rw [HRA.out] at r1
              obtain ⟨⟨q0, q1, q2, q3, q4⟩, _⟩ := five_cells hq2
              generalize w1.alloc (entB ⟨nm, (nd : Int), true, ck, sh⟩) = W0 at *
              generalize w1.heap.size = q at *
              clear hb2 hq2 hb1
              go_upto_region 8 with fail
              go_quiet (fail)
              go_upto_region 10 with fail
              clear q0 q1 q2 q3 q4 r1
              have hb3 : Below w.heap.size w (W0.drewN nq) := below_drewN1 HB2.out nq
              have HQ3 : Hid ((W0.drewN nq).heap[q]? = some (.cells #[.string nm, .int .i64 (nd : Int), .bool true, .int .i64 ck, .int .i64 sh] 40 (0, 0))) := Lib.hid (((below_drewN1 (Below.refl W0.heap.size W0) nq).block q (lt_of_get HQ2.out)).trans HQ2.out)
              have HB3 := Lib.hid hb3
              generalize W0.drewN nq = W3 at *
              have cR := remove_c (HT.out.below hb3) HN.out (by have := HEL.out; omega) nm HPL.out HIL.out
              clear hb3
              go_upto_region 11 with (go_at_call 39; refine cR.mono ?_; rintro e w5 ⟨R5, rfl, hm5, ht5⟩; have HM5 := Lib.hid hm5; have HT5 := Lib.hid ht5; clear hm5 ht5)
              have hq5 : w5.heap[q]? = some (.cells #[.string nm, .int .i64 (nd : Int), .bool true, .int .i64 ck, .int .i64 sh] 40 (0, 0)) := (HT5.out.rest q (lt_of_get HQ3.out) (fun hc => by have := HLT.out q hc; omega)).trans HQ3.out
              have HQ5 := Lib.hid hq5
              have hqb : q ≠ b := fun e => by have := HLT.out b (Or.inl rfl); omega
              obtain ⟨⟨q0, q1, q2, q3, q4⟩, _⟩ := five_cells (W := w5.drew) hq5
              obtain ⟨k0, k1⟩ : w5.drew.cell? ⟨b, nd * 2, none⟩ = some (.int .i64 (kindN l nd)) ∧ w5.drew.frozen? ⟨b, nd * 2, none⟩ = false := HM5.out.kcell HNR.out.2
              have hm6 := HM5.out.setKind HNR.out.2 0
              obtain ⟨k2, k3⟩ : (w5.setCell ⟨b, nd * 2, none⟩ (.int .i64 0)).drew.cell? ⟨b, nd * 2 + 1, none⟩ = some (R5 nd) ∧ (w5.setCell ⟨b, nd * 2, none⟩ (.int .i64 0)).drew.frozen? ⟨b, nd * 2 + 1, none⟩ = false := hm6.rcell HNR.out.2
              have k4 : w5.drew.cell? ⟨b, nd * 2 + 1, none⟩ = some (R5 nd) := (HM5.out.rcell HNR.out.2).1
              have k5 : w5.drew.frozen? ⟨b, nd * 2 + 1, none⟩ = false := (HM5.out.rcell HNR.out.2).2
              obtain ⟨hm7, ht7⟩ := hm6.setRow HNR.out.2 (l := []) (grown_refl _ _) (r := .slice none 0 0) ⟨rfl, Or.inl ⟨rfl, rfl⟩⟩ (fun g hg => by cases hg)
              have ht6 := HM5.out.trod_cell (nd * 2) (.int .i64 0) R5 v (fun k hk => Or.inl hk)
              clear hq5 cR hm6
              go_big_region
              obtain ⟨W7, hW7⟩ : ∃ W7, ((w5.setCell ⟨b, nd * 2, none⟩ (.int .i64 0)).setCell ⟨b, nd * 2 + 1, none⟩ (.slice none 0 0)).drew = W7 := ⟨_, rfl⟩
              have HM7 : Hid (TM W7 b (upd (kindN l) nd 0) (upd (upd (entsN l) n ((entsN l n).eraseIdx i)) nd []) (upd R5 nd (.slice none 0 0)) u v ys nx) := Lib.hid (by rw [← hW7]; exact hm7.below (Below.refl _ _).drew)
              have HT7 : Hid (Trod w W7 (Foot b R v) (Foot b (upd R5 nd (.slice none 0 0)) v)) := Lib.hid (by rw [← hW7]; exact ((((Trod.of_below HB3.out).trans HT5.out).trans ht6).trans ht7).trans (Trod.of_below (Below.refl _ _).drew))
              have HQ7 : Hid (W7.heap[q]? = some (.cells #[.string nm, .int .i64 (nd : Int), .bool true, .int .i64 ck, .int .i64 sh] 40 (0, 0))) := Lib.hid (by
                rw [← hW7]
                show ((w5.setCell _ _).setCell _ _).heap[q]? = _
                rw [Below.heap_setCell _ _ _ _ hqb, Below.heap_setCell _ _ _ _ hqb]
                exact HQ5.out)
              clear q0 q1 q2 q3 q4 k0 k1 k2 k3 k4 k5 hm7 ht7 ht6
              (try rw [hW7])
              go_upto_region 12 with fail
              clear hW7
              obtain ⟨⟨q0, q1, q2, q3, q4⟩, _⟩ := five_cells (W := W7.drew) HQ7.out
              have cG := Emb.give_c W7.drew v.ownBlock 200 b v (outRow u ys) (nd : Int) W7.drew (HM7.out.below (Below.refl _ _).drew).poolIs true HIO.out
              rw [if_pos rfl, Int.toNat_natCast] at cG
              go_region_with (first
                | (go_at_call 40; refine cG.mono ?_; rintro e w8 ⟨rfl, v8, hp8⟩; have HP8 := Lib.hid hp8; clear hp8))
              all_goals
                go_wp2
                go_ret
                obtain ⟨u8, ys8, g1, g2, g3⟩ := (HM7.out.below (Below.refl _ _).drew).pool HP8.out
                refine ⟨_, rfl, ⟨_, u8, v8, ys8, ?_, ?_, HGU.out, rfl⟩, (HT7.out.trans (Trod.of_below (Below.refl _ _).drew)).trans g3⟩
                · rw [HKN.out, HEN.out]
                  exact g1
                · rw [HUS.out, ← HOU.out]
                  exact g2.symm
  · rw [if_pos hf] at hQ
    subst hQ
    have h0b : (f == 0) = false := beq_eq_false_iff_ne.2 hf
    clear hfd hf
    go_enter Try.func14, Try.ntmps14
    go_upto_region 2 with (go_at_call 16; refine cF.mono ?_; rintro e w1 ⟨rfl, hb1⟩)
    obtain ⟨hb2, hq2⟩ := HPRE.out w1 hb1
    have HB2 := Lib.hid hb2
    clear hb2 hq2 hb1
    go_wp2
    go_ret
    obtain ⟨g1, g2⟩ := HSAME.out _ HB2.out
    exact ⟨_, rfl, g1, g2⟩
end
end Go.Proofs.Ythaghhleidopeaa
