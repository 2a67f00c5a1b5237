/-
  Prepared for stage 10: the law TreePlays on any TreeC.
-/
import Derived.Test.YthaghhleidopeaaTreeC
namespace Go.Proofs.Ythaghhleidopeaa
open Go.RowKit Go.Sort
set_option linter.unusedVariables false

set_option maxHeartbeats 16000000 in
set_option maxRecDepth 100000 in
theorem treePlays_c (T : TreeC) (v : Value) (l : List OpT) (w : World) (hv : OpTs w v l) (hl : l.length ≤ 9223372036854775807) (hs : ∀ x ∈ l, x.s.size ≤ 9223372036854775807 ∧ x.ns.size ≤ 9223372036854775807) (hk : ∀ x ∈ l, 0 ≤ x.k ∧ x.k ≤ 255) :
    Calls Try.prog 4 #[v] w fun e w' => e = .returned (.bool true) ∧ Below w.heap.size w w' := by
  obtain ⟨a, cap, rfl⟩ := hv.len
  obtain ⟨R, hR⟩ : ∃ R, fewI l 100 = R := ⟨_, rfl⟩
  have cF := fun W (h : OpTs W (.slice a l.length cap) l) => few10_c (.slice a l.length cap) l 100 W h hl (by omega) hs
  rw [hR] at cF
  obtain ⟨m, hm⟩ : ∃ n, l.length = n := ⟨_, rfl⟩
  have HM := Lib.hid hm
  have HSZ := Lib.hid hs
  have HK := Lib.hid hk
  rw [hm] at hl hv ⊢
  simp only [hm] at cF
  have HV := Lib.hid hv
  have HR := Lib.hid hR
  have cA := awake10_c T
  have cN := new10_c
  unfold treeV at cN
  clear hR hm hs hk hv
  go_enter Try.func4, Try.ntmps4
  cases R with
  | false =>
    go_wp2_with (first
      | (go_at_call 8; with_reducible refine (cA w).mono ?_; rintro e w1 ⟨rfl, hb1⟩)
      | (go_at_call 9; refine (cF _ (LstIs.kept HV.out hb1)).mono ?_; rintro e w2 ⟨rfl, hw2⟩; subst hw2)
      | (go_at_call 8; refine (cA _).mono ?_; rintro e w3 ⟨rfl, hb3⟩))
    go_ret
    exact ⟨rfl, hb1.trans (hb3.mono hb1.size)⟩
  | true =>
    go_upto_region 4 with (first
      | (go_at_call 8; refine (cA _).mono ?_; rintro e w1 ⟨rfl, hb1⟩)
      | (go_at_call 9; refine (cF _ (LstIs.kept HV.out hb1)).mono ?_; rintro e w1b ⟨rfl, hw1⟩; subst hw1)
      | (go_at_call 10; refine (T.new _).mono ?_; rintro e w2 ⟨b, S, rfl, hi2, hs2, hb2⟩)
      | (go_at_call 19; refine (cN _).mono ?_; rintro e w3 ⟨rfl, hb3⟩))
    have hm100 : m ≤ 100 := by rw [← HM.out]; exact (fewI_spec HR.out (by omega)).1
    have HLO : Hid (Below w.heap.size w w1b) := Lib.hid hb1
    have hx3 : Below w.heap.size w w3 := hb1.trans ((hb2.mono hb1.size).trans (hb3.mono (Nat.le_trans hb1.size hb2.size)))
    have HX : Hid (Below w.heap.size w (w3.alloc (.cells #[.slice none 0 0, .int .i64 1] 48))) := Lib.hid (hx3.alloc hx3.size _)
    have HT0 : Hid (T.Is (w3.alloc (.cells #[.slice none 0 0, .int .i64 1] 48)) b [] 1 S) := Lib.hid (T.below (T.below hi2 hb3) ((Below.refl _ w3).alloc (Nat.le_refl _) _))
    have HR0 : Hid ((w3.alloc (.cells #[.slice none 0 0, .int .i64 1] 48)).heap[w3.heap.size]? = some (.cells #[.slice none 0 0, .int .i64 1] 48 (0, 0))) := Lib.hid (heap_alloc_new _ _)
    have HS0 : Hid (∀ k, S k → w.heap.size ≤ k) := Lib.hid (fun k hk => Nat.le_trans hb1.size (hs2 k hk))
    generalize (w3.alloc (.cells #[.slice none 0 0, .int .i64 1] 48)) = W4 at *
    have hrw : w.heap.size ≤ w3.heap.size := hx3.size
    generalize w3.heap.size = r at *
    clear hx3 hb1 hb2 hb3 hi2 hs2
    go_wp2
    go_loopw [5] (fun iv wr => ∃ (i : Nat) (L : List Itm) (nx : Int) (S : Nat → Prop) (vr : Value), i ≤ m ∧ iv = .int .i64 i ∧ T.Is wr b L nx S ∧ wr.heap[r]? = some (.cells #[vr, .int .i64 nx] 48 (0, 0)) ∧ ItmsT wr vr L ∧ (∀ k, S k → w.heap.size ≤ k) ∧ nx ≤ 1 + i ∧ Below w.heap.size w wr) (fun iv _ => m - (intOf iv).toNat)
    case atStart => exact ⟨0, [], 1, S, _, by omega, rfl, HT0.out, HR0.out, ItmsT.nil _, HS0.out, by omega, HX.out⟩
    case round =>
      clear HT0 HR0 HS0 HX
      obtain ⟨i, L, nx, S, vr, hi, rfl, his, hr, hvr, hS, hnx, hb⟩ := hrel
      obtain ⟨ar, cr, rfl⟩ := hvr.1.len
      have hLl := T.len his
      have hn1 := T.next his
      obtain ⟨nl, hnl⟩ : ∃ n, L.length = n := ⟨_, rfl⟩
      have HNL := Lib.hid hnl
      rw [hnl] at hLl
      simp only [hnl] at hr hvr
      clear hnl
      by_cases him : i < m
      · have hiz : (i : Int) < (m : Int) := by omega
        obtain ⟨o, ho⟩ : ∃ o, l[i]? = some o := ⟨_, List.getElem?_eq_getElem (by rw [HM.out]; omega)⟩
        obtain ⟨g, off, rfl, hg, hrg⟩ := HV.out.at ho
        have hom := List.mem_of_getElem? ho
        have HOC : Hid (∀ W, Below w.heap.size w W → W.cell? ⟨g, off + i * 7, none⟩ = some (.int .u8 o.k) ∧ W.cell? ⟨g, off + i * 7 + 1, none⟩ = some (.int .i64 o.d) ∧ W.cell? ⟨g, off + i * 7 + 2, none⟩ = some (.int .i64 o.dt) ∧ W.cell? ⟨g, off + i * 7 + 3, none⟩ = some (.string o.s) ∧ W.cell? ⟨g, off + i * 7 + 4, none⟩ = some (.string o.ns) ∧ W.cell? ⟨g, off + i * 7 + 5, none⟩ = some (.bool o.isD) ∧ W.cell? ⟨g, off + i * 7 + 6, none⟩ = some (.int .i64 o.sh)) := Lib.hid (fun W hW => by
          have h := rangeAt_below hrg hg hW
          exact ⟨h 0 _ rfl, h 1 _ rfl, h 2 _ rfl, h 3 _ rfl, h 4 _ rfl, h 5 _ rfl, h 6 _ rfl⟩)
        have hos := HSZ.out o hom
        have hok := HK.out o hom
        obtain ⟨Q, hQ⟩ : ∃ Q, doI L nx o = Q := ⟨_, rfl⟩
        have HQ := Lib.hid hQ
        have hqn := doI_next L nx o
        rw [hQ] at hqn
        have cDo := lawDo10_c T o his hos.1 hos.2 hok.1 hok.2 (by omega)
        rw [hQ] at cDo
        unfold opV at cDo
        obtain ⟨o0, o1, o2, o3, o4, o5, o6⟩ := HOC.out wr hb
        clear hQ hg hrg ho hom
        go_upto_region 8 with (go_at_call 11; refine cDo.mono ?_; rintro e w2 ⟨S2, rfl, hi2, ht2⟩)
        have hr2 := T.block his ht2 hr (by simp)
        have hv2 := T.items his ht2 hvr
        have hlow := ht2.low hb.size hS
        have hb2 := hb.trans hlow.1
        have HI2 := Lib.hid hi2
        have HR2 := Lib.hid hr2
        have HV2 := Lib.hid hv2
        have HB2 := Lib.hid hb2
        have HS2 := Lib.hid hlow.2
        clear his hr hvr hS hb cDo o0 o1 o2 o3 o4 o5 o6 hi2 ht2 hr2 hv2 hlow hb2
        have HSK : Hid (∀ W, Below w2.heap.size w2 W → Below w2.heap.size w2 W ∧ W.cell? ⟨r, 0, none⟩ = some (.slice ar nl cr) ∧ W.cell? ⟨r, 1, none⟩ = some (.int .i64 (nx)) ∧ W.cell? ⟨g, off + i * 7, none⟩ = some (.int .u8 o.k) ∧ W.cell? ⟨g, off + i * 7 + 1, none⟩ = some (.int .i64 o.d) ∧ W.cell? ⟨g, off + i * 7 + 2, none⟩ = some (.int .i64 o.dt) ∧ W.cell? ⟨g, off + i * 7 + 3, none⟩ = some (.string o.s) ∧ W.cell? ⟨g, off + i * 7 + 4, none⟩ = some (.string o.ns) ∧ W.cell? ⟨g, off + i * 7 + 5, none⟩ = some (.bool o.isD) ∧ W.cell? ⟨g, off + i * 7 + 6, none⟩ = some (.int .i64 o.sh)) := Lib.hid (fun W hW => by
          have h := (two_cells ((hW.block r (lt_of_get HR2.out)).trans HR2.out)).1
          exact ⟨hW, h.1, h.2, HOC.out W (HB2.out.trans (hW.mono HB2.out.size))⟩)
        have cR := fun W (h : ItmsT W (.slice ar nl cr) L) => do10_c (.slice ar nl cr) L nx o W h (by rw [HNL.out]; omega) hos.1 hos.2 hok.1 hok.2 (by omega) (by omega)
        rw [HQ.out] at cR
        unfold LinkPost treeV opV at cR
        go_cut [8, 9, 10] from 29 to 53 (fun v8 v9 v10 wx => ∃ (q : Nat) (vq : Value), v8 = .pointer (some ⟨q, 0, none⟩) ∧ v9 = .int .i64 Q.2.1 ∧ v10 = .int .i64 Q.2.2 ∧ wx.heap[q]? = some (.cells #[vq, .int .i64 Q.1.2] 48 (0, 0)) ∧ ItmsT wx vq Q.1.1 ∧ w2.heap.size ≤ q ∧ Below w2.heap.size w2 wx)
        case first =>
          have hs0 := HSK.out w2.drew (Below.refl _ _).drew
          have HVW : Hid (∀ W, Below w2.heap.size w2 W → ItmsT W (.slice ar nl cr) L) := Lib.hid (fun W hW => HV2.out.kept hW)
          go_region_held3 (fun W => Below w2.heap.size w2 W ∧ W.cell? ⟨r, 0, none⟩ = some (.slice ar nl cr) ∧ W.cell? ⟨r, 1, none⟩ = some (.int .i64 (nx)) ∧ W.cell? ⟨g, off + i * 7, none⟩ = some (.int .u8 o.k) ∧ W.cell? ⟨g, off + i * 7 + 1, none⟩ = some (.int .i64 o.d) ∧ W.cell? ⟨g, off + i * 7 + 2, none⟩ = some (.int .i64 o.dt) ∧ W.cell? ⟨g, off + i * 7 + 3, none⟩ = some (.string o.s) ∧ W.cell? ⟨g, off + i * 7 + 4, none⟩ = some (.string o.ns) ∧ W.cell? ⟨g, off + i * 7 + 5, none⟩ = some (.bool o.isD) ∧ W.cell? ⟨g, off + i * 7 + 6, none⟩ = some (.int .i64 o.sh)) (first | assumption | (refine HSK.out _ ?_; first | assumption | exact (Below.refl _ _).drew | exact (below_al (Below.refl _ _) (Nat.le_refl _)).drew | exact Below.drew ‹_› | exact below_al ‹_› (Nat.le_refl _) | exact below_two hq8 hqq)) (first
            | (go_at_call 20; refine (cR (w2.alloc tree0).drew (HVW.out _ (below_al (Below.refl _ _) (Nat.le_refl _)).drew)).mono ?_; rintro e w7 ⟨v7, rfl, hi7, hb7⟩; obtain ⟨a7, c7, hv7⟩ := hi7.1.len; have hT7 : w7.heap[w2.heap.size]? = some tree0 := tree_kept (W := (w2.alloc tree0).drew) (tree_fresh w2) hb7; have hq8 : Below w2.heap.size w2 w7 := below_step (Nat.le_refl _) (below_al (Below.refl _ _) (Nat.le_refl _)).drew hb7; have hqq : w2.heap.size ≤ w2.heap.size := Nat.le_refl _; have hI8 := hi7; subst hv7; obtain ⟨⟨z0, z1⟩, y0, y1⟩ := two_cells hT7)
            | (go_at_call 20; refine (cR _ (HVW.out _ (Below.refl _ _).drew)).mono ?_; rintro e w7 ⟨v7, rfl, hi7, hb7⟩; obtain ⟨a7, c7, hv7⟩ := hi7.1.len; have hq7 : Below w2.heap.size w2 w7 := below_step (Nat.le_refl _) (Below.refl _ _).drew hb7; have hT7 : (w7.alloc tree0).heap[w7.heap.size]? = some tree0 := tree_fresh w7; have hq8 : Below w2.heap.size w2 (w7.alloc tree0) := below_al hq7 (Nat.le_refl _); have hqq : w2.heap.size ≤ w7.heap.size := hq7.size; have hI8 : ItmsT (w7.alloc tree0) v7 Q.1.1 := hi7.kept ((Below.refl _ _).alloc (Nat.le_refl _) _); have hI9 := fun x => hi7.kept ((Below.refl _ w7).alloc (Nat.le_refl _) x); subst hv7; obtain ⟨⟨z0, z1⟩, y0, y1⟩ := two_cells hT7))
          all_goals
            go_wp2
            go_meet
            first
              | exact ⟨_, _, rfl, rfl, rfl, (put_tree hT7 hI8).1, (put_tree hT7 hI8).2, hqq, below_two hq8 hqq⟩
              | exact ⟨_, _, rfl, rfl, rfl, heap_alloc_new _ _, hI9 _, hqq, below_al hq7 (Nat.le_refl _)⟩
        case rest =>
          obtain ⟨q, vq, h8, h9, h10, hq, hiq, hql, hbq⟩ := hcut
          subst h8
          subst h9
          subst h10
          obtain ⟨⟨L1, nx1⟩, mm, ff⟩ := Q
          simp only at hq hiq hqn HI2
          obtain ⟨aq, cq, rfl⟩ := hiq.1.len
          obtain ⟨nq, hnq⟩ : ∃ n, L1.length = n := ⟨_, rfl⟩
          have HNQ := Lib.hid hnq
          have hnq1 := T.len HI2.out
          rw [hnq] at hnq1
          simp only [hnq] at hq hiq
          have hrq := (hbq.block r (lt_of_get HR2.out)).trans HR2.out
          have hiw := T.below HI2.out hbq
          have HI9 : Hid (T.Is ((wc.setCell ⟨r, 0, none⟩ (.slice aq nq cq)).setCell ⟨r, 1, none⟩ (.int .i64 nx1)) b L1 nx1 S2) := Lib.hid (T.set2 hiw hrq _ _)
          have HR9 := Lib.hid (put_tree2 hrq hiq (nx8 := nx1)).1
          have HV9 := Lib.hid (put_tree2 hrq hiq (nx8 := nx1)).2
          have HB9 : Hid (Below w.heap.size w ((wc.setCell ⟨r, 0, none⟩ (.slice aq nq cq)).setCell ⟨r, 1, none⟩ (.int .i64 nx1))) := Lib.hid (below_two (HB2.out.trans (hbq.mono HB2.out.size)) hrw)
          obtain ⟨⟨r0, r1⟩, y0, y1⟩ := two_cells hrq
          obtain ⟨⟨q0, q1⟩, _⟩ := two_cells hq
          clear hnq hrq hiw hq hiq hbq HR2 HV2 HB2 HI2 HSK cR HQ
          go_upto_region 10 with fail
          generalize ((wc.setCell ⟨r, 0, none⟩ (.slice aq nq cq)).setCell ⟨r, 1, none⟩ (.int .i64 nx1)) = W9 at *
          clear r0 r1 y0 y1 q0 q1
          have HSK : Hid (∀ W, Below W9.heap.size W9 W → Below W9.heap.size W9 W ∧ W.cell? ⟨r, 0, none⟩ = some (.slice aq nq cq) ∧ W.cell? ⟨r, 1, none⟩ = some (.int .i64 (nx1)) ∧ W.cell? ⟨g, off + i * 7, none⟩ = some (.int .u8 o.k) ∧ W.cell? ⟨g, off + i * 7 + 1, none⟩ = some (.int .i64 o.d) ∧ W.cell? ⟨g, off + i * 7 + 2, none⟩ = some (.int .i64 o.dt) ∧ W.cell? ⟨g, off + i * 7 + 3, none⟩ = some (.string o.s) ∧ W.cell? ⟨g, off + i * 7 + 4, none⟩ = some (.string o.ns) ∧ W.cell? ⟨g, off + i * 7 + 5, none⟩ = some (.bool o.isD) ∧ W.cell? ⟨g, off + i * 7 + 6, none⟩ = some (.int .i64 o.sh)) := Lib.hid (fun W hW => by
            have h := (two_cells ((hW.block r (lt_of_get HR9.out)).trans HR9.out)).1
            exact ⟨hW, h.1, h.2, HOC.out W (HB9.out.trans (hW.mono HB9.out.size))⟩)
          have HIW : Hid (∀ W, Below W9.heap.size W9 W → T.Is W b L1 nx1 S2) := Lib.hid (fun W hW => T.below HI9.out hW)
          have HVW : Hid (∀ W, Below W9.heap.size W9 W → ItmsT W (.slice aq nq cq) L1) := Lib.hid (fun W hW => HV9.out.kept hW)
          obtain ⟨F, hF⟩ : ∃ F, findI L1 o.d o.s = F := ⟨_, rfl⟩
          have cFT := fun W (h : T.Is W b L1 nx1 S2) => T.find o.d o.s h
          have cFR := fun W (h : ItmsT W (.slice aq nq cq) L1) => find10_c (.slice aq nq cq) L1 nx1 o.d o.s W h.1 (by rw [HNQ.out]; omega)
          unfold FindPost at cFR
          rw [hF] at cFT cFR
          unfold treeV at cFR
          unfold entV at cFT cFR
          clear hF
          go_cut [11, 12] from 29 to 69 (fun v11 v12 wx => ∃ p : Nat, v11 = .pointer (some ⟨p, 0, none⟩) ∧ v12 = .int .i64 F.2 ∧ wx.heap[p]? = some (.cells #[.string F.1.name, .int .i64 F.1.node, .bool F.1.dir, .int .i64 F.1.cookie, .int .i64 F.1.short] 40 (0, 0)) ∧ Below W9.heap.size W9 wx)
          case first =>
            have HSF : Hid (∀ W, Below W9.heap.size W9 W → Below W9.heap.size W9 W ∧ W.cell? ⟨g, off + i * 7 + 1, none⟩ = some (.int .i64 o.d) ∧ W.cell? ⟨g, off + i * 7 + 3, none⟩ = some (.string o.s)) := Lib.hid (fun W hW => ⟨hW, (HOC.out W (HB9.out.trans (hW.mono HB9.out.size))).2.1, (HOC.out W (HB9.out.trans (hW.mono HB9.out.size))).2.2.2.1⟩)
            clear cFR cA cN hos hok HVW HR9 HV9 HI9
            have hs0 := HSF.out W9.drew (Below.refl _ _).drew
            go_region_held3 (fun W => Below W9.heap.size W9 W ∧ W.cell? ⟨g, off + i * 7 + 1, none⟩ = some (.int .i64 o.d) ∧ W.cell? ⟨g, off + i * 7 + 3, none⟩ = some (.string o.s)) (with_reducible first | assumption | (refine HSF.out _ ?_; first | assumption | exact below_five hq8 hqq | exact (Below.refl _ _).drew | exact (below_al (Below.refl _ _) (Nat.le_refl _)).drew | exact below_al hq7 (Nat.le_refl _) | exact below_al hq7.drew (Nat.le_refl _) | exact Below.drew ‹_› | exact below_al ‹_› (Nat.le_refl _))) (first
              | (go_at_call 16; refine (cFT (W9.alloc ent0).drew (HIW.out _ (below_al (Below.refl _ _) (Nat.le_refl _)).drew)).mono ?_; rintro e w7 ⟨rfl, hb7⟩; have hT7 : w7.heap[W9.heap.size]? = some ent0 := ent_kept (W := (W9.alloc ent0).drew) (ent_fresh W9) hb7; have hq8 : Below W9.heap.size W9 w7 := below_step (Nat.le_refl _) (below_al (Below.refl _ _) (Nat.le_refl _)).drew hb7; have hqq : W9.heap.size ≤ W9.heap.size := Nat.le_refl _; obtain ⟨⟨z0, z1, z2, z3, z4⟩, y0, y1, y2, y3, y4⟩ := five_cells hT7)
              | (go_at_call 16; refine (cFT _ (HIW.out _ (Below.refl _ _).drew)).mono ?_; rintro e w7 ⟨rfl, hb7⟩; have hq7 : Below W9.heap.size W9 w7 := below_step (Nat.le_refl _) (Below.refl _ _).drew hb7; have hT7 : (w7.alloc ent0).heap[w7.heap.size]? = some ent0 := ent_fresh w7; have hq8 : Below W9.heap.size W9 (w7.alloc ent0) := below_al hq7 (Nat.le_refl _); have hqq : W9.heap.size ≤ w7.heap.size := hq7.size; obtain ⟨⟨z0, z1, z2, z3, z4⟩, y0, y1, y2, y3, y4⟩ := five_cells hT7))
            all_goals
              go_wp2
              go_meet
              refine ⟨_, rfl, rfl, ?_, ?_⟩
              · with_reducible first | exact heap_alloc_new _ _ | exact ent_put hT7 _ _ _ _ _
              · with_reducible first | exact below_al hq7 (Nat.le_refl _) | exact below_five hq8 hqq
          case rest =>
            obtain ⟨W10, hW10⟩ : ∃ W, W = wc := ⟨_, rfl⟩
            subst hW10
            obtain ⟨p, h11, h12, hp, hb10⟩ := hcut
            subst h11
            subst h12
            have HP := Lib.hid hp
            have HB10 := Lib.hid hb10
            have HS11 : Hid (∀ W, Below W10.heap.size W10 W → Below W10.heap.size W10 W ∧ W.cell? ⟨r, 0, none⟩ = some (.slice aq nq cq) ∧ W.cell? ⟨r, 1, none⟩ = some (.int .i64 (nx1)) ∧ W.cell? ⟨g, off + i * 7 + 1, none⟩ = some (.int .i64 o.d) ∧ W.cell? ⟨g, off + i * 7 + 3, none⟩ = some (.string o.s)) := Lib.hid (fun W hW => by
              obtain ⟨_, s0, s1, _, s2, _, s3, _⟩ := HSK.out W (HB10.out.trans (hW.mono HB10.out.size))
              exact ⟨hW, s0, s1, s2, s3⟩)
            have HVW2 : Hid (∀ W, Below W10.heap.size W10 W → ItmsT W (.slice aq nq cq) L1) := Lib.hid (fun W hW => HVW.out W (HB10.out.trans (hW.mono HB10.out.size)))
            clear hp hb10 cFT
            go_upto_region 11 with fail
            go_cut [13, 14] from 29 to 84 (fun v13 v14 wx => ∃ p2 : Nat, v13 = .pointer (some ⟨p2, 0, none⟩) ∧ v14 = .int .i64 F.2 ∧ wx.heap[p2]? = some (.cells #[.string F.1.name, .int .i64 F.1.node, .bool F.1.dir, .int .i64 F.1.cookie, .int .i64 F.1.short] 40 (0, 0)) ∧ Below W10.heap.size W10 wx)
            case first =>
              clear cA cN hos hok HR9 HV9 HI9 HIW
              have hs0 := HS11.out W10.drew (Below.refl _ _).drew
              go_region_held3 (fun W => Below W10.heap.size W10 W ∧ W.cell? ⟨r, 0, none⟩ = some (.slice aq nq cq) ∧ W.cell? ⟨r, 1, none⟩ = some (.int .i64 (nx1)) ∧ W.cell? ⟨g, off + i * 7 + 1, none⟩ = some (.int .i64 o.d) ∧ W.cell? ⟨g, off + i * 7 + 3, none⟩ = some (.string o.s)) (with_reducible first | assumption | (refine HS11.out _ ?_; first | assumption | exact below_five hq8 hqq | exact (Below.refl _ _).drew | exact (below_al (Below.refl _ _) (Nat.le_refl _)).drew | exact below_al hq7 (Nat.le_refl _) | exact below_al hq7.drew (Nat.le_refl _) | exact Below.drew ‹_› | exact below_al ‹_› (Nat.le_refl _))) (first
                | (go_at_call 21; refine (cFR (W10.alloc ent0).drew (HVW2.out _ (below_al (Below.refl _ _) (Nat.le_refl _)).drew)).mono ?_; rintro e w7 ⟨rfl, hb7⟩; have hT7 : w7.heap[W10.heap.size]? = some ent0 := ent_kept (W := (W10.alloc ent0).drew) (ent_fresh W10) hb7; have hq8 : Below W10.heap.size W10 w7 := below_step (Nat.le_refl _) (below_al (Below.refl _ _) (Nat.le_refl _)).drew hb7; have hqq : W10.heap.size ≤ W10.heap.size := Nat.le_refl _; obtain ⟨⟨z0, z1, z2, z3, z4⟩, y0, y1, y2, y3, y4⟩ := five_cells hT7)
                | (go_at_call 21; refine (cFR _ (HVW2.out _ (Below.refl _ _).drew)).mono ?_; rintro e w7 ⟨rfl, hb7⟩; have hq7 : Below W10.heap.size W10 w7 := below_step (Nat.le_refl _) (Below.refl _ _).drew hb7; have hT7 : (w7.alloc ent0).heap[w7.heap.size]? = some ent0 := ent_fresh w7; have hq8 : Below W10.heap.size W10 (w7.alloc ent0) := below_al hq7 (Nat.le_refl _); have hqq : W10.heap.size ≤ w7.heap.size := hq7.size; obtain ⟨⟨z0, z1, z2, z3, z4⟩, y0, y1, y2, y3, y4⟩ := five_cells hT7))
              all_goals
                go_wp2
                go_meet
                refine ⟨_, rfl, rfl, ?_, ?_⟩
                · with_reducible first | exact heap_alloc_new _ _ | exact ent_put hT7 _ _ _ _ _
                · with_reducible first | exact below_al hq7 (Nat.le_refl _) | exact below_five hq8 hqq
            case rest =>
              obtain ⟨W11, hW11⟩ : ∃ W, W = wc := ⟨_, rfl⟩
              subst hW11
              obtain ⟨p2, h13, h14, hp2, hb11⟩ := hcut
              subst h13
              subst h14
              have HB11 : Hid (Below W9.heap.size W9 W11) := Lib.hid (HB10.out.trans (hb11.mono HB10.out.size))
              have HP1 : Hid (W11.heap[p]? = _) := Lib.hid ((hb11.block p (lt_of_get HP.out)).trans HP.out)
              have HP2 := Lib.hid hp2
              have cLT := T.list o.dt (HIW.out W11 HB11.out)
              obtain ⟨nE, hnE⟩ : ∃ n, listE L1 o.dt = n := ⟨_, rfl⟩
              rw [hnE] at cLT
              have cLR := fun W (h : ItmsT W (.slice aq nq cq) L1) => list10_c (.slice aq nq cq) L1 nx1 o.dt W h.1 (by rw [HNQ.out]; omega)
              unfold ListPost treeV at cLR
              rw [hnE] at cLR
              obtain ⟨s0, s1, s2, s3, s4, s5, s6, s7, s8, s9⟩ := HSK.out W11 HB11.out
              clear hb11 hp2 HS11 HVW2 cFR hnE
              go_upto_region 13 with (go_at_call 12; refine cLT.mono ?_; rintro e w12 ⟨v12, rfl, _, _, hb12⟩)
              have HB12 : Hid (Below W9.heap.size W9 w12) := Lib.hid (HB11.out.trans (hb12.mono HB11.out.size))
              have HQ1 : Hid (w12.heap[p]? = _) := Lib.hid ((hb12.block p (lt_of_get HP1.out)).trans HP1.out)
              have HQ2 : Hid (w12.heap[p2]? = _) := Lib.hid ((hb12.block p2 (lt_of_get HP2.out)).trans HP2.out)
              clear s0 s1 s2 s3 s4 s5 s6 s7 s8 s9 hb12
              have HS13 : Hid (∀ W, Below w12.heap.size w12 W → Below w12.heap.size w12 W ∧ W.cell? ⟨r, 0, none⟩ = some (.slice aq nq cq) ∧ W.cell? ⟨r, 1, none⟩ = some (.int .i64 (nx1)) ∧ W.cell? ⟨g, off + i * 7 + 2, none⟩ = some (.int .i64 o.dt)) := Lib.hid (fun W hW => by
                obtain ⟨_, s0, s1, _, _, s2, _⟩ := HSK.out W (HB12.out.trans (hW.mono HB12.out.size))
                exact ⟨hW, s0, s1, s2⟩)
              have HVW3 : Hid (∀ W, Below w12.heap.size w12 W → ItmsT W (.slice aq nq cq) L1) := Lib.hid (fun W hW => HVW.out W (HB12.out.trans (hW.mono HB12.out.size)))
              go_cut [17, 18] from 29 to 104 (fun v17 v18 wx => v18 = .int .i64 nE ∧ Below w12.heap.size w12 wx)
              case first =>
                have hs0 := HS13.out w12.drew (Below.refl _ _).drew
                clear cA cN hos hok HR9 HV9 HI9 HIW
                go_region_held3 (fun W => Below w12.heap.size w12 W ∧ W.cell? ⟨r, 0, none⟩ = some (.slice aq nq cq) ∧ W.cell? ⟨r, 1, none⟩ = some (.int .i64 (nx1)) ∧ W.cell? ⟨g, off + i * 7 + 2, none⟩ = some (.int .i64 o.dt)) (with_reducible first | assumption | (refine HS13.out _ ?_; first | assumption | exact (Below.refl _ _).drew | exact Below.drew ‹_›)) ((go_at_call 22; refine (cLR _ (HVW3.out _ (Below.refl _ _).drew)).mono ?_; rintro e w13 ⟨v13, rfl, _, hb13⟩; have hq13 : Below w12.heap.size w12 w13 := below_step (Nat.le_refl _) (Below.refl _ _).drew hb13))
                all_goals
                  go_wp2
                  go_meet
                  exact ⟨rfl, by assumption⟩
              case rest =>
                obtain ⟨W13, hW13⟩ : ∃ W, W = wc := ⟨_, rfl⟩
                subst hW13
                obtain ⟨h18, hb13⟩ := hcut
                subst h18
                have HB13 : Hid (Below W9.heap.size W9 W13) := Lib.hid (HB12.out.trans (hb13.mono HB12.out.size))
                obtain ⟨⟨a0, a1, a2, a3, a4⟩, _⟩ := five_cells ((hb13.block p (lt_of_get HQ1.out)).trans HQ1.out)
                obtain ⟨⟨b0, b1, b2, b3, b4⟩, _⟩ := five_cells ((hb13.block p2 (lt_of_get HQ2.out)).trans HQ2.out)
                have hcmp := ent_neq F.1 F.1
                rw [decide_eq_true rfl] at hcmp
                have hgd := fun op a b => ent_guard op a b F.1 F.1
                unfold entV at hcmp hgd
                clear hb13 cA cN
                go_wp2
                go_roundw
                case rel =>
                  have hbf := HB9.out.trans (HB13.out.mono HB9.out.size)
                  exact ⟨i + 1, L1, nx1, S2, _, by omega, by first | rfl | go_num, HIW.out _ HB13.out, (HB13.out.block r (lt_of_get HR9.out)).trans HR9.out, HVW.out _ HB13.out, HS2.out, by omega, hbf⟩
                case measure => simp [intOf]; omega
      · have hiz : ¬ (i : Int) < (m : Int) := by omega
        have cE := alike10_c T (.slice ar nl cr) his hvr
        unfold treeV at cE
        obtain ⟨⟨r0, r1⟩, _⟩ := two_cells hr
        have HBQ := Lib.hid hb
        go_wp2_with (go_at_call 23; refine cE.mono ?_; rintro e w9 ⟨rfl, hb9⟩)
        go_ret
        exact ⟨rfl, HBQ.out.trans (hb9.mono HBQ.out.size)⟩
end Go.Proofs.Ythaghhleidopeaa
