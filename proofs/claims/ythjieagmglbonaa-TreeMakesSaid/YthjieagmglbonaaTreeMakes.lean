/-
  The law TreeMakes.
-/
import Derived.Test.YthjieagmglbonaaMkTail
import Derived.Test.YthjieagmglbonaaQ6
import Derived.Test.YthjieagmglbonaaQH
namespace Go.Proofs.Ythjieagmglbonaa
open Go.RowKit Go.Sort
set_option linter.unusedVariables false
set_option linter.unusedSimpArgs false

set_option maxHeartbeats 16000000 in
set_option maxRecDepth 100000 in
theorem treeMakes_c (v : Value) (l : List OpT) (bn : Int) (ab : Option Addr) (nb cb : Nat) (bes : List Ent) (h0 h1 h2 h3 : Int) (w : World) (hv : OpTs w v l) (hl : l.length ≤ 9223372036854775807) (hs : ∀ x ∈ l, x.s.size ≤ 9223372036854775807 ∧ x.ns.size ≤ 9223372036854775807) (hk : ∀ x ∈ l, 0 ≤ x.k ∧ x.k ≤ 255)
    (hbn : inI64 bn) (hbl : EntsIs w (.slice ab nb cb) bes) (hnb : bes.length = nb) (hbs : ∀ e ∈ bes, e.name.size ≤ 9223372036854775807) (hh0 : 0 ≤ h0 ∧ h0 ≤ 255) (hh1 : 0 ≤ h1 ∧ h1 ≤ 255) :
    Calls Try.prog 3 #[v, .agg #[.int .i64 bn, .slice ab nb cb], .agg #[.int .u8 h0, .int .u8 h1, .int .u8 h2, .int .u8 h3]] w fun e w' => e = .returned (.bool true) ∧ Below w.heap.size w w' := by
  let T := theTree
  obtain ⟨a, cap, rfl⟩ := hv.len
  obtain ⟨R, hR⟩ : ∃ R, fewI l 60 = R := ⟨_, rfl⟩
  have cF := fun W (h : OpTs W (.slice a l.length cap) l) => few10_c (.slice a l.length cap) l 60 W h hl (by omega) hs
  rw [hR] at cF
  obtain ⟨m, hm⟩ : ∃ n, l.length = n := ⟨_, rfl⟩
  have HM := Lib.hid hm
  have HSZ := Lib.hid hs
  have HK := Lib.hid hk
  rw [hm] at hl hv ⊢
  simp only [hm] at cF
  have HV := Lib.hid hv
  have HR := Lib.hid hR
  have HBL := Lib.hid hbl
  have HBN := Lib.hid hbn
  have HBS := Lib.hid hbs
  have HNB := Lib.hid hnb
  have HH0 := Lib.hid hh0
  have HH1 := Lib.hid hh1
  have cA := awake10_c theTree
  have hmm := @run_makeMap Try.prog
  have cN := new10_c
  unfold treeV at cN
  have HX0 : Hid (BoxIs w.heap.size bn (.slice ab nb cb) h0 h1 h2 h3 ((w.alloc (.cells #[.int .i64 bn, .slice ab nb cb] 25)).alloc (.cells #[.int .u8 h0, .int .u8 h1, .int .u8 h2, .int .u8 h3] 26))) := Lib.hid ⟨alloc_old2 w _ _, by have h9 := heap_alloc_new (w.alloc (.cells #[.int .i64 bn, .slice ab nb cb] 25)) (.cells #[.int .u8 h0, .int .u8 h1, .int .u8 h2, .int .u8 h3] 26); rwa [show (w.alloc (.cells #[.int .i64 bn, .slice ab nb cb] 25)).heap.size = w.heap.size + 1 by simp] at h9⟩
  have HB0 : Hid (Below w.heap.size w ((w.alloc (.cells #[.int .i64 bn, .slice ab nb cb] 25)).alloc (.cells #[.int .u8 h0, .int .u8 h1, .int .u8 h2, .int .u8 h3] 26))) := Lib.hid (((Below.refl _ w).alloc (Nat.le_refl _) _).alloc (by simp) _)
  clear hR hm hs hk hv hbl hbn hbs hnb hh0 hh1
  go_enter Try.func3, Try.ntmps3
  go_upto_region 1 with fail
  generalize ((w.alloc (.cells #[.int .i64 bn, .slice ab nb cb] 25)).alloc (.cells #[.int .u8 h0, .int .u8 h1, .int .u8 h2, .int .u8 h3] 26)) = W0 at *
  cases R with
  | false =>
    go_wp2_with (first
      | (go_at_call 8; with_reducible refine (cA W0).mono ?_; rintro e w1 ⟨rfl, hb1⟩; have HB1 := Lib.hid (HB0.out.trans (hb1.mono HB0.out.size)); clear hb1)
      | (go_at_call 9; refine (cF _ (LstIs.kept HV.out HB1.out)).mono ?_; rintro e w2 ⟨rfl, hw2⟩; subst hw2)
      | (go_at_call 8; refine (cA _).mono ?_; rintro e w3 ⟨rfl, hb3⟩))
    go_ret
    exact ⟨rfl, HB1.out.trans (hb3.mono HB1.out.size)⟩
  | true =>
    by_cases hnb4 : (4 : Int) < (nb : Int)
    · go_upto_region 2 with (first
        | (go_at_call 8; refine (cA _).mono ?_; rintro e w1 ⟨rfl, hb1⟩; have HB1 := Lib.hid (HB0.out.trans (hb1.mono HB0.out.size)); obtain ⟨x0, x1, _, _⟩ := (HX0.out.below hb1).cells; clear hb1)
        | (go_at_call 9; refine (cF _ (LstIs.kept HV.out HB1.out)).mono ?_; rintro e w2 ⟨rfl, hw2⟩; subst hw2))
      go_wp2_with (go_at_call 8; refine (cA _).mono ?_; rintro e w3 ⟨rfl, hb3⟩)
      go_ret
      exact ⟨rfl, HB1.out.trans (hb3.mono HB1.out.size)⟩
    go_upto_region 3 with (first
      | (go_at_call 8; refine (cA _).mono ?_; rintro e w1 ⟨rfl, hb1⟩; have HB1 := Lib.hid (HB0.out.trans (hb1.mono HB0.out.size)); have HX1 := Lib.hid (HX0.out.below hb1); obtain ⟨x0, x1, _, _⟩ := HX1.out.cells; clear hb1)
      | (go_at_call 9; refine (cF _ (LstIs.kept HV.out HB1.out)).mono ?_; rintro e w1b ⟨rfl, hw1⟩; subst hw1))
    have hb1 := HB1.out
    clear x0 x1
    go_upto_region 4 with (first
      | (go_at_call 10; refine (theTree.new _).mono ?_; rintro e w2 ⟨b, S, rfl, hi2, hs2, hb2⟩)
      | (go_at_call 11; refine (cN _).mono ?_; rintro e w3 ⟨rfl, hb3⟩))
    have hm100 : m ≤ 60 := by rw [← HM.out]; exact (fewI_spec HR.out (by omega)).1
    have hx3 : Below w.heap.size w w3 := hb1.trans ((hb2.mono hb1.size).trans (hb3.mono (Nat.le_trans hb1.size hb2.size)))
    have HXB : Hid (BoxIs w.heap.size bn (.slice ab nb cb) h0 h1 h2 h3 (w3.alloc (.cells #[.slice none 0 0, .int .i64 1] 33))) := Lib.hid (((HX1.out.below hb2).below hb3).below ((Below.refl _ w3).alloc (Nat.le_refl _) _))
    have HX : Hid (Below w.heap.size w (w3.alloc (.cells #[.slice none 0 0, .int .i64 1] 33))) := Lib.hid (hx3.alloc hx3.size _)
    have HT0 : Hid (theTree.Is (w3.alloc (.cells #[.slice none 0 0, .int .i64 1] 33)) b [] 1 S) := Lib.hid (theTree.below (theTree.below hi2 hb3) ((Below.refl _ w3).alloc (Nat.le_refl _) _))
    have HR0 : Hid ((w3.alloc (.cells #[.slice none 0 0, .int .i64 1] 33)).heap[w3.heap.size]? = some (.cells #[.slice none 0 0, .int .i64 1] 33 (0, 0))) := Lib.hid (heap_alloc_new _ _)
    have HS0 : Hid (∀ k, S k → w.heap.size ≤ k) := Lib.hid (fun k hk => Nat.le_trans hb1.size (hs2 k hk))
    generalize (w3.alloc (.cells #[.slice none 0 0, .int .i64 1] 33)) = W4 at *
    have hrw : w.heap.size ≤ w3.heap.size := hx3.size
    generalize w3.heap.size = r at *
    clear hx3 hb1 hb2 hb3 hi2 hs2 HX0 HX1 HB0 HB1 cA cF cN hnb4
    go_wp2
    go_loopw [9] (fun iv wr => ∃ (i : Nat) (L : List Itm) (nx : Int) (S : Nat → Prop) (vr : Value), i ≤ m ∧ iv = .int .i64 i ∧ theTree.Is wr b L nx S ∧ wr.heap[r]? = some (.cells #[vr, .int .i64 nx] 33 (0, 0)) ∧ ItmsT wr vr L ∧ (∀ k, S k → w.heap.size ≤ k) ∧ nx ≤ 1 + i ∧ Below w.heap.size w wr ∧ BoxIs w.heap.size bn (.slice ab nb cb) h0 h1 h2 h3 wr) (fun iv wr => m - (intOf iv).toNat)
    case atStart => exact ⟨0, [], 1, S, _, by omega, rfl, HT0.out, HR0.out, ItmsT.nil _, HS0.out, by omega, HX.out, HXB.out⟩
    case round =>
      clear HT0 HR0 HS0 HX HXB
      obtain ⟨i, L, nx, S, vr, hi, rfl, his, hr, hvr, hS, hnx, hb, hbx⟩ := hrel
      obtain ⟨ar, cr, rfl⟩ := hvr.1.len
      have hLl := theTree.len his
      have hn1 := theTree.next his
      obtain ⟨nl, hnl⟩ : ∃ n, L.length = n := ⟨_, rfl⟩
      have HNL := Lib.hid hnl
      rw [hnl] at hLl
      simp only [hnl] at hr hvr
      clear hnl
      by_cases him : i < m
      · have hiz : (i : Int) < (m : Int) := by omega
        obtain ⟨o, ho⟩ : ∃ o, l[i]? = some o := ⟨_, List.getElem?_eq_getElem (by rw [HM.out]; omega)⟩
        obtain ⟨g, off, rfl, hg, hrg⟩ := HV.out.at ho
        have hom := List.mem_of_getElem? ho
        have HOC : Hid (∀ W, Below w.heap.size w W → W.cell? ⟨g, off + i * 7, none⟩ = some (.int .u8 o.k) ∧ W.cell? ⟨g, off + i * 7 + 1, none⟩ = some (.int .i64 o.d) ∧ W.cell? ⟨g, off + i * 7 + 2, none⟩ = some (.int .i64 o.dt) ∧ W.cell? ⟨g, off + i * 7 + 3, none⟩ = some (.string o.s) ∧ W.cell? ⟨g, off + i * 7 + 4, none⟩ = some (.string o.ns) ∧ W.cell? ⟨g, off + i * 7 + 5, none⟩ = some (.bool o.isD) ∧ W.cell? ⟨g, off + i * 7 + 6, none⟩ = some (.int .i64 o.sh)) := Lib.hid (fun W hW => by
          have h := rangeAt_below hrg hg hW
          exact ⟨h 0 _ rfl, h 1 _ rfl, h 2 _ rfl, h 3 _ rfl, h 4 _ rfl, h 5 _ rfl, h 6 _ rfl⟩)
        have hos := HSZ.out o hom
        have hok := HK.out o hom
        obtain ⟨Q, hQ⟩ : ∃ Q, doI L nx o = Q := ⟨_, rfl⟩
        have HQ := Lib.hid hQ
        have hqn := doI_next L nx o
        rw [hQ] at hqn
        have cDo := lawDo10_c theTree o his hos.1 hos.2 hok.1 hok.2 (by omega)
        rw [hQ] at cDo
        unfold opV at cDo
        obtain ⟨o0, o1, o2, o3, o4, o5, o6⟩ := HOC.out wr hb
        clear hQ hg hrg ho hom
        go_upto_region 8 with (go_at_call 12; refine cDo.mono ?_; rintro e w2 ⟨S2, rfl, hi2, ht2⟩)
        have hr2 := theTree.block his ht2 hr (by simp)
        have hv2 := theTree.items his ht2 hvr
        have HBX2 := Lib.hid (hbx.trod his ht2)
        have hlow := ht2.low hb.size hS
        have hb2 := hb.trans hlow.1
        have HI2 := Lib.hid hi2
        have HR2 := Lib.hid hr2
        have HV2 := Lib.hid hv2
        have HB2 := Lib.hid hb2
        have HS2 := Lib.hid hlow.2
        clear his hr hvr hS hb hbx cDo o0 o1 o2 o3 o4 o5 o6 hi2 ht2 hr2 hv2 hlow hb2
        have HSK : Hid (∀ W, Below w2.heap.size w2 W → Below w2.heap.size w2 W ∧ W.cell? ⟨r, 0, none⟩ = some (.slice ar nl cr) ∧ W.cell? ⟨r, 1, none⟩ = some (.int .i64 (nx)) ∧ W.cell? ⟨g, off + i * 7, none⟩ = some (.int .u8 o.k) ∧ W.cell? ⟨g, off + i * 7 + 1, none⟩ = some (.int .i64 o.d) ∧ W.cell? ⟨g, off + i * 7 + 2, none⟩ = some (.int .i64 o.dt) ∧ W.cell? ⟨g, off + i * 7 + 3, none⟩ = some (.string o.s) ∧ W.cell? ⟨g, off + i * 7 + 4, none⟩ = some (.string o.ns) ∧ W.cell? ⟨g, off + i * 7 + 5, none⟩ = some (.bool o.isD) ∧ W.cell? ⟨g, off + i * 7 + 6, none⟩ = some (.int .i64 o.sh)) := Lib.hid (fun W hW => by
          have h := (two_cells ((hW.block r (lt_of_get HR2.out)).trans HR2.out)).1
          exact ⟨hW, h.1, h.2, HOC.out W (HB2.out.trans (hW.mono HB2.out.size))⟩)
        have cR := fun W (h : ItmsT W (.slice ar nl cr) L) => do10_c (.slice ar nl cr) L nx o W h (by rw [HNL.out]; omega) hos.1 hos.2 hok.1 hok.2 (by omega) (by omega)
        rw [HQ.out] at cR
        unfold LinkPost treeV opV at cR
        go_cut [10, 11, 12] from 54 to 64 (fun v8 v9 v10 wx => ∃ (q : Nat) (vq : Value), v8 = .pointer (some ⟨q, 0, none⟩) ∧ v9 = .int .i64 Q.2.1 ∧ v10 = .int .i64 Q.2.2 ∧ wx.heap[q]? = some (.cells #[vq, .int .i64 Q.1.2] 33 (0, 0)) ∧ ItmsT wx vq Q.1.1 ∧ w2.heap.size ≤ q ∧ Below w2.heap.size w2 wx)
        case first =>
            have hs0 := HSK.out w2.drew (Below.refl _ _).drew
            have HVW : Hid (∀ W, Below w2.heap.size w2 W → ItmsT W (.slice ar nl cr) L) := Lib.hid (fun W hW => HV2.out.kept hW)
            go_region_held3 (fun W => Below w2.heap.size w2 W ∧ W.cell? ⟨r, 0, none⟩ = some (.slice ar nl cr) ∧ W.cell? ⟨r, 1, none⟩ = some (.int .i64 (nx)) ∧ W.cell? ⟨g, off + i * 7, none⟩ = some (.int .u8 o.k) ∧ W.cell? ⟨g, off + i * 7 + 1, none⟩ = some (.int .i64 o.d) ∧ W.cell? ⟨g, off + i * 7 + 2, none⟩ = some (.int .i64 o.dt) ∧ W.cell? ⟨g, off + i * 7 + 3, none⟩ = some (.string o.s) ∧ W.cell? ⟨g, off + i * 7 + 4, none⟩ = some (.string o.ns) ∧ W.cell? ⟨g, off + i * 7 + 5, none⟩ = some (.bool o.isD) ∧ W.cell? ⟨g, off + i * 7 + 6, none⟩ = some (.int .i64 o.sh)) (first | assumption | (refine HSK.out _ ?_; first | assumption | exact (Below.refl _ _).drew | exact (below_al (Below.refl _ _) (Nat.le_refl _)).drew | exact Below.drew ‹_› | exact below_al ‹_› (Nat.le_refl _) | exact below_two hq8 hqq)) (first
              | (go_at_call 13; refine (cR (w2.alloc tree0).drew (HVW.out _ (below_al (Below.refl _ _) (Nat.le_refl _)).drew)).mono ?_; rintro e w7 ⟨v7, rfl, hi7, hb7⟩; obtain ⟨a7, c7, hv7⟩ := hi7.1.len; have hT7 : w7.heap[w2.heap.size]? = some tree0 := tree_kept (W := (w2.alloc tree0).drew) (tree_fresh w2) hb7; have hq8 : Below w2.heap.size w2 w7 := below_step (Nat.le_refl _) (below_al (Below.refl _ _) (Nat.le_refl _)).drew hb7; have hqq : w2.heap.size ≤ w2.heap.size := Nat.le_refl _; have hI8 := hi7; subst hv7; obtain ⟨⟨z0, z1⟩, y0, y1⟩ := two_cells hT7)
              | (go_at_call 13; refine (cR _ (HVW.out _ (Below.refl _ _).drew)).mono ?_; rintro e w7 ⟨v7, rfl, hi7, hb7⟩; obtain ⟨a7, c7, hv7⟩ := hi7.1.len; have hq7 : Below w2.heap.size w2 w7 := below_step (Nat.le_refl _) (Below.refl _ _).drew hb7; have hT7 : (w7.alloc tree0).heap[w7.heap.size]? = some tree0 := tree_fresh w7; have hq8 : Below w2.heap.size w2 (w7.alloc tree0) := below_al hq7 (Nat.le_refl _); have hqq : w2.heap.size ≤ w7.heap.size := hq7.size; have hI8 : ItmsT (w7.alloc tree0) v7 Q.1.1 := hi7.kept ((Below.refl _ _).alloc (Nat.le_refl _) _); have hI9 := fun x => hi7.kept ((Below.refl _ w7).alloc (Nat.le_refl _) x); subst hv7; obtain ⟨⟨z0, z1⟩, y0, y1⟩ := two_cells hT7))
            all_goals
              go_wp2
              go_meet
              first
                | exact ⟨_, _, rfl, rfl, rfl, (put_tree hT7 hI8).1, (put_tree hT7 hI8).2, hqq, below_two hq8 hqq⟩
                | exact ⟨_, _, rfl, rfl, rfl, heap_alloc_new _ _, hI9 _, hqq, below_al hq7 (Nat.le_refl _)⟩
        case rest =>
          obtain ⟨q, vq, h8, h9, h10, hq, hiq, hql, hbq⟩ := hcut
          subst h8
          subst h9
          subst h10
          obtain ⟨⟨L1, nx1⟩, mm, ff⟩ := Q
          simp only at hq hiq hqn HI2
          obtain ⟨aq, cq, rfl⟩ := hiq.1.len
          obtain ⟨nq, hnq⟩ : ∃ n, L1.length = n := ⟨_, rfl⟩
          have hnq1 := theTree.len HI2.out
          rw [hnq] at hnq1
          simp only [hnq] at hq hiq
          have hrq := (hbq.block r (lt_of_get HR2.out)).trans HR2.out
          have hiw := theTree.below HI2.out hbq
          have HI9 : Hid (theTree.Is ((wc.setCell ⟨r, 0, none⟩ (.slice aq nq cq)).setCell ⟨r, 1, none⟩ (.int .i64 nx1)) b L1 nx1 S2) := Lib.hid (theTree.set2 hiw hrq _ _)
          have HR9 := Lib.hid (put_tree2 hrq hiq (nx8 := nx1)).1
          have HV9 := Lib.hid (put_tree2 hrq hiq (nx8 := nx1)).2
          have HB9 : Hid (Below w.heap.size w ((wc.setCell ⟨r, 0, none⟩ (.slice aq nq cq)).setCell ⟨r, 1, none⟩ (.int .i64 nx1))) := Lib.hid (below_two (HB2.out.trans (hbq.mono HB2.out.size)) hrw)
          have HBX9 : Hid (BoxIs w.heap.size bn (.slice ab nb cb) h0 h1 h2 h3 ((wc.setCell ⟨r, 0, none⟩ (.slice aq nq cq)).setCell ⟨r, 1, none⟩ (.int .i64 nx1))) := Lib.hid ((HBX2.out.below hbq).two hrq _ _)
          obtain ⟨⟨r0, r1⟩, y0, y1⟩ := two_cells hrq
          obtain ⟨⟨q0, q1⟩, _⟩ := two_cells hq
          clear hnq hrq hiw hq hiq hbq HR2 HV2 HB2 HI2 HSK cR HQ
          go_wp2
          go_roundw
          case rel => exact ⟨i + 1, L1, nx1, S2, _, by omega, by first | rfl | go_num, HI9.out, HR9.out, HV9.out, HS2.out, by omega, HB9.out, HBX9.out⟩
          case measure => simp [intOf]; omega
      · have hiz : ¬ (i : Int) < (m : Int) := by omega
        have hnx2 : nx ≤ 61 := by omega
        have HG := Lib.hid (theGood his)
        have HSB : Hid (∀ k, S k → k < wr.heap.size) := Lib.hid (theTree.lt his)
        have HSL := Lib.hid hS
        have hbm : Below wr.heap.size wr (wr.alloc (.map #[] 0)) := (Below.refl _ _).alloc (Nat.le_refl _) _
        have HIM := Lib.hid (theTree.below his hbm)
        have HBM := Lib.hid (hb.trans (hbm.mono hb.size))
        have HXM := Lib.hid (hbx.below hbm)
        have HDM : Hid (DirsHi wr.heap.size (wr.alloc (.map #[] 0)) wr.heap.size 0 (fun _ => none) 0 (partG L 0)) := Lib.hid ⟨MapF.made wr, fun x hx => by rw [part_zero], Nat.le_refl _⟩
        have HWB := Lib.hid hb.size
        clear hbm his hr hvr hS hb hbx hnx hi
        go_upto_region 11 with fail
        generalize (wr.alloc (.map #[] 0)) = W1 at *
        generalize wr.heap.size = mb at *
        clear hmm
        have cDi := theTree.dirs HIM.out
        go_upto_region 12 with (go_at_call 14; refine cDi.mono ?_; rintro e w2 ⟨dv, rfl, hn2, hf2, hb2⟩)
        obtain ⟨ad, cd, rfl⟩ := hn2.len
        have HND := Lib.hid (dirsI_nodup L)
        obtain ⟨dl, hdl⟩ : ∃ n, (dirsI L).length = n := ⟨_, rfl⟩
        have HDL := Lib.hid hdl
        have hdl1 : dl ≤ 201 := by rw [← hdl]; exact dirsTo_le L 201
        rw [hdl] at hn2 hf2 ⊢
        have HDB : Hid (∀ g, (Value.slice ad dl cd).ownBlock = some g → mb ≤ g ∧ g < w2.heap.size) := Lib.hid (fun g hg => ⟨Nat.le_trans (Nat.le_trans (Nat.le_of_lt HDM.out.f.lt) (Nat.le_refl _)) (hf2 g hg), by
          rcases hn2 with ⟨h9, _⟩ | ⟨g', off, cap', h9, h10, _⟩
          · have h0 : (0 : Int) ∈ dirsI L := HG.out.dirs.2 rfl
            rw [h9] at h0
            cases h0
          · rw [h10] at hg
            exact (Option.some.inj hg) ▸ h9⟩)
        have HN2 := Lib.hid hn2
        have HD2 := Lib.hid (HDM.out.hi (Hi.of_below hb2))
        have HI2 := Lib.hid (theTree.below HIM.out hb2)
        have HX2 := Lib.hid (HXM.out.below hb2)
        have HB2 := Lib.hid (HBM.out.trans (hb2.mono HBM.out.size))
        clear hn2 hf2 hb2 hdl HDM HIM HXM HBM cDi
        go_wp2
        go_loopw [15] (fun iv wq => ∃ (i : Nat) (F : Int → Option Value), i ≤ dl ∧ iv = .int .i64 i ∧ DirsHi mb wq mb i F i (partG L i) ∧ theTree.Is wq b L nx S ∧ NumsL wq (.slice ad dl cd) (dirsI L) ∧ (∀ g, (Value.slice ad dl cd).ownBlock = some g → mb ≤ g ∧ g < wq.heap.size) ∧ BoxIs w.heap.size bn (.slice ab nb cb) h0 h1 h2 h3 wq ∧ Below w.heap.size w wq) (fun iv _ => dl - (intOf iv).toNat)
        case atStart => exact ⟨0, _, by omega, rfl, HD2.out, HI2.out, HN2.out, HDB.out, HX2.out, HB2.out⟩
        case round =>
          clear HD2 HI2 HN2 HDB HX2 HB2
          obtain ⟨i2, F, hi2, rfl, hdd, his, hnl, hdb, hbx, hb⟩ := hrel
          by_cases him2 : i2 < dl
          · have hiz2 : (i2 : Int) < (dl : Int) := by omega
            obtain ⟨x, hx⟩ : ∃ x, (dirsI L)[i2]? = some x := ⟨_, List.getElem?_eq_getElem (by rw [HDL.out]; omega)⟩
            obtain ⟨g, off, rfl, hg, hrg⟩ := LstIs.at hnl hx
            have d0 := num_at hrg
            rw [Nat.mul_one] at d0
            have HX := Lib.hid hx
            have hxm := List.mem_of_getElem? hx
            have hkx := HG.out.dirs.1 hxm
            have hle : listE L x = 0 := by unfold listE; rw [if_neg (by omega), if_neg (by omega)]
            have hli : listI L x = entsI L x := by unfold listI; rw [if_pos hle]
            have hx64 := dirs_i64 L x hxm
            have cLi := theTree.list x his
            rw [hle, hli] at cLi
            have HDD := Lib.hid hdd
            have HIS := Lib.hid his
            have HNL2 := Lib.hid hnl
            have HDB := Lib.hid hdb
            have HBX := Lib.hid hbx
            have HB := Lib.hid hb
            have HX64 := Lib.hid hx64
            have HRG : Hid (∀ W, Below wr.heap.size wr W → W.cell? ⟨g, off + i2, none⟩ = some (.int .i64 x)) := Lib.hid (fun W hW => by
              have h9 := num_at (rangeAt_below hrg hg hW)
              rwa [Nat.mul_one] at h9)
            clear hx hrg hg hxm hkx hle hli hx64 hdd his hnl hdb hbx hb
            go_upto_region 16 with (go_at_call 15; refine cLi.mono ?_; rintro e w5 ⟨v5, rfl, he5, hf5, hb5⟩)
            have h64 := HX64.out
            obtain ⟨a5, c5, rfl⟩ := he5.len
            obtain ⟨k5, hk5⟩ : ∃ n, (entsI L x).length = n := ⟨_, rfl⟩
            rw [hk5] at he5 hf5 ⊢
            have hd5 := HDD.out.hi (Hi.of_below hb5)
            have hv5 : entsI L x ≠ [] → ∀ g, (Value.slice a5 k5 c5).ownBlock = some g → mb ≤ g ∧ g < w5.heap.size := fun hne g hg => ⟨Nat.le_trans (Nat.le_of_lt HDD.out.f.lt) (hf5 g hg), by
              rcases he5 with ⟨h9, a0, c0, h10⟩ | ⟨g', off', cap', h9, h10, _⟩
              · exact absurd h9 hne
              · rw [h10] at hg
                exact (Option.some.inj hg) ▸ h9⟩
            obtain ⟨w6, hrun, hd6, hturn⟩ := hd5.set (show i2 < maxLen by unfold maxLen; omega) h64 he5 hv5
            have hFx : (F x).isSome = false := by rw [HDD.out.some h64, part_new HX.out]; rfl
            rw [hFx] at hd6
            simp only [Bool.false_eq_true, if_false] at hd6
            rw [part_snoc HX.out] at hd6
            have HD6 := Lib.hid hd6
            have HI6 := Lib.hid (isTurned (theTree.below HIS.out hb5) hturn)
            have HN6 := Lib.hid (numsTurned (LstIs.kept HNL2.out hb5) hturn)
            have HX6 := Lib.hid ((HBX.out.below hb5).turned hturn)
            have HB6 := Lib.hid (below_turned (HB.out.trans (hb5.mono HB.out.size)) hturn HWB.out)
            have HS6 : Hid (wr.heap.size ≤ w6.heap.size) := Lib.hid (by rw [(turned_block hturn).1]; exact hb5.size)
            have d5 := HRG.out w5 hb5
            clear hd6 hturn hd5 hv5 he5 hf5 hFx hk5 d0 h64
            go_wp2
            go_roundw
            case rel => exact ⟨i2 + 1, _, by omega, by first | rfl | go_num, HD6.out, HI6.out, HN6.out, fun g hg => ⟨(HDB.out g hg).1, Nat.lt_of_lt_of_le (HDB.out g hg).2 HS6.out⟩, HX6.out, HB6.out⟩
            case measure => simp [intOf]; omega
          · have hiz2 : ¬ (i2 : Int) < (dl : Int) := by omega
            obtain rfl : i2 = dl := by omega
            rw [part_all L (by rw [HDL.out]; exact Nat.le_refl _)] at hdd
            obtain ⟨L', hall, hg', htw⟩ := own_twin HG.out
            have HTW := Lib.hid htw
            have HG2 := Lib.hid hg'
            have hmk : makeB (ownG L) nx i2 := ⟨HG.out.nx1, by rw [hall], by rw [hall]; exact HDL.out⟩
            have cM := (make_c wr mb i2 i2 F (ownG L) nx hdd.at' hdd.f (own_small HG.out) true ⟨fun _ => hmk, fun _ => rfl⟩).mono (fun e w' h => h.2 rfl)
            simp only [hall] at cM
            have cCk := theCook his
            have HD := Lib.hid hdd.within
            have HIS := Lib.hid his
            have HNL2 := Lib.hid hnl
            have HDB2 := Lib.hid hdb
            have HBX := Lib.hid hbx
            have HB := Lib.hid hb
            clear hall hg' htw hmk hdd his hnl hdb hbx hb
            go_upto_region 18 with (first
              | (go_at_call 17; refine cCk.mono ?_; rintro e w3 ⟨rfl, hw3⟩; have hw3 := hw3.symm; subst hw3)
              | (go_at_call 16; refine cM.mono ?_; rintro e w4 ⟨b2, S2, rfl, hx4, hs4, hb4⟩))
            have HX4 := Lib.hid hx4
            have HSX := Lib.hid hs4
            have HD4 := Lib.hid (HD.out.below hb4)
            have HI4 := Lib.hid (theTree.below HIS.out hb4)
            have HN4 := Lib.hid (LstIs.kept HNL2.out hb4)
            have HBX4 := Lib.hid (HBX.out.below hb4)
            have HB4 := Lib.hid (HB.out.trans (hb4.mono HB.out.size))
            have HWE := Lib.hid HB.out.size
            have HME : Hid (mb ≤ wr.heap.size) := Lib.hid (Nat.le_of_lt HD.out.mb.2)
            have hSn : ∀ k, S k → k < mb := HSB.out
            have HSN := Lib.hid hSn
            clear hx4 hs4 hb4 cM cCk HD HIS HNL2 HBX HB hSn HSB
            generalize wr.heap.size = E at *
            have cS : Hid (∀ W, Below w4.heap.size w4 W → Calls Try.prog 18 #[ptrV b2, ptrV b] W fun e w' => e = .returned (.bool true) ∧ Below W.heap.size W w') := Lib.hid (fun W hW => theSame2 (theTree.below HI4.out hW) (theTree.below HX4.out hW) HTW.out)
            obtain ⟨nn, hnn⟩ : ∃ n, L.length = n := ⟨_, rfl⟩
            have cN1 : Hid (∀ W, Below w4.heap.size w4 W → Calls Try.prog 19 #[ptrV b2] W fun e w' => e = .returned (.int .i64 (nn : Int)) ∧ Below W.heap.size W w') := Lib.hid (fun W hW => by
              have h9 := theTree.nodes (theTree.below HX4.out hW)
              rwa [HTW.out.len HG.out HG2.out, hnn] at h9)
            have cN2 : Hid (∀ W, Below w4.heap.size w4 W → Calls Try.prog 19 #[ptrV b] W fun e w' => e = .returned (.int .i64 (nn : Int)) ∧ Below W.heap.size W w') := Lib.hid (fun W hW => by
              have h9 := theTree.nodes (theTree.below HI4.out hW)
              rwa [hnn] at h9)
            clear hnn
            go_upto_region 20 with (first
              | (go_at_call 18; refine (cS.out w4 (Below.refl _ _)).mono ?_; rintro e w5 ⟨rfl, hb5⟩; have HB5 := Lib.hid hb5; clear hb5)
              | (go_at_call 19; (with_reducible refine (cN1.out w5 HB5.out).mono ?_); rintro e w6 ⟨rfl, hb6⟩; have HB6 := Lib.hid (HB5.out.trans (hb6.mono HB5.out.size)); clear hb6)
              | (go_at_call 19; (with_reducible refine (cN2.out w6 HB6.out).mono ?_); rintro e w7 ⟨rfl, hb7⟩; have HB7 := Lib.hid (HB6.out.trans (hb7.mono HB6.out.size)); clear hb7))
            have HX7 := Lib.hid (theTree.below HX4.out HB7.out)
            have HI7 := Lib.hid (theTree.below HI4.out HB7.out)
            have HD7 := Lib.hid (HD4.out.below HB7.out)
            have HN7 := Lib.hid (LstIs.kept HN4.out HB7.out)
            have HBX7 := Lib.hid (HBX4.out.below HB7.out)
            have HW7 := Lib.hid (HB4.out.trans (HB7.out.mono HB4.out.size))
            clear HX4 HI4 HD4 HN4 HBX4 HB4 cS cN1 cN2 HB5 HB6 HB7
            have htl := HTW.out.link (nx := nx) HG.out HG2.out 0 ⟨#[122, 122]⟩ false 0
            have cLx := theTree.link 0 ⟨#[122, 122]⟩ false 0 HX7.out (by decide) (by omega)
            have cLt := fun (W : World) (S9 : Nat → Prop) (h : theTree.Is W b L nx S9) => theTree.link 0 ⟨#[122, 122]⟩ false 0 h (by decide) (by omega)
            generalize linkI L nx 0 ⟨#[122, 122]⟩ false 0 = Q at *
            generalize linkI L' nx 0 ⟨#[122, 122]⟩ false 0 = Q' at *
            obtain ⟨⟨La, na⟩, n1, f1⟩ := Q
            obtain ⟨⟨Lb, n2⟩, n3, f3⟩ := Q'
            simp only at htl cLx cLt
            obtain ⟨t1, t2, t3⟩ := htl
            simp only [Prod.mk.injEq] at t1
            obtain ⟨t4, t5⟩ := t1
            subst t4 t5 t2
            have HTL := Lib.hid t3
            clear t3
            go_upto_region 21 with (go_at_call 20; refine cLx.mono ?_; rintro e w8 ⟨S3, rfl, hx8, ht8⟩)
            have hE8 : ∀ k, k < E → w8.heap[k]? = w7.heap[k]? := fun k hk => ht8.rest k (Nat.lt_of_lt_of_le hk HD7.out.size) (fun h => by have := HSX.out k h; omega)
            have HX8 := Lib.hid hx8
            have HI8 := Lib.hid (theTree.apart HI7.out ht8 (fun k hk h2 => by have := HSX.out k h2; have := HSN.out k hk; have := HME.out; omega)).1
            have HD8 := Lib.hid (HD7.out.keep ht8.size (fun k _ hk => hE8 k hk))
            have HN8 := Lib.hid (LstIs.only HN7.out ht8.size (fun g hg => hE8 g (HDB2.out g hg).2))
            have HBX8 := Lib.hid (HBX7.out.trod HX7.out ht8)
            have HW8 := Lib.hid (HW7.out.trans (ht8.low (B := w.heap.size) HW7.out.size (fun k hk => Nat.le_trans HWE.out (HSX.out k hk))).1)
            have HSX8 : Hid (∀ k, S3 k → E ≤ k) := Lib.hid (fun k hk => (ht8.sub k hk).elim (HSX.out k) (fun h => Nat.le_trans HD7.out.size h))
            clear hE8 hx8 ht8 HX7 HI7 HD7 HN7 HBX7 HW7 cLx
            have cLt2 := cLt w8 S HI8.out
            clear cLt
            go_upto_region 22 with (go_at_call 20; refine cLt2.mono ?_; rintro e w9 ⟨S4, rfl, hi9, ht9⟩)
            have hE9 : ∀ k, mb ≤ k → k < E → w9.heap[k]? = w8.heap[k]? := fun k hm hk => ht9.rest k (Nat.lt_of_lt_of_le hk HD8.out.size) (fun h => by have := HSN.out k h; omega)
            have HI9 := Lib.hid hi9
            have HX9 := Lib.hid (theTree.apart HX8.out ht9 (fun k hk h2 => by have := HSX8.out k hk; have := HSN.out k h2; have := HME.out; omega)).1
            have HD9 := Lib.hid (HD8.out.keep ht9.size (fun k hm hk => hE9 k hm hk))
            have HN9 := Lib.hid (LstIs.only HN8.out ht9.size (fun g hg => hE9 g (HDB2.out g hg).1 (HDB2.out g hg).2))
            have HBX9 := Lib.hid (HBX8.out.trod HI8.out ht9)
            have HW9 := Lib.hid (HW8.out.trans (ht9.low (B := w.heap.size) HW8.out.size HSL.out).1)
            clear hE9 hi9 ht9 HX8 HI8 HD8 HN8 HBX8 HW8 cLt2
            have cS2 := theSame2 HI9.out HX9.out HTL.out
            go_upto_region 24 with (go_at_call 18; refine cS2.mono ?_; rintro e w10 ⟨rfl, hb10⟩; have HB10 := Lib.hid hb10; clear hb10)
            have HD10 := Lib.hid (HD9.out.below HB10.out).plain
            have HN10 := Lib.hid (LstIs.kept HN9.out HB10.out)
            have HBX10 := Lib.hid (HBX9.out.below HB10.out)
            have HW10 := Lib.hid (HW9.out.trans (HB10.out.mono HW9.out.size))
            clear HX9 HI9 HD9 HN9 HBX9 HW9 HB10 cS2 HTW HG2 HSX HSX8 HTL HDB2 HSN HSL HME HWE
            have hbl := LstIs.kept HBL.out HW10.out
            have hab : bes ≠ [] → ∀ g, (Value.slice ab nb cb).ownBlock = some g → g < w10.heap.size := fun hne g hg => by
              rcases hbl with ⟨h9, _⟩ | ⟨g', off, cap', h9, h10, _⟩
              · exact absurd h9 hne
              · rw [h10] at hg
                exact (Option.some.inj hg) ▸ h9
            obtain ⟨x0, x1, x2, x3⟩ := HBX10.out.cells
            have hbn := HBN.out
            have hh := HH0.out
            have hbe : bes.length ≤ 4 := by rw [HNB.out]; omega
            by_cases hodd : h0 % 2 = 0
            · have ht0 : h0.tmod 2 = 0 := by rw [Int.tmod_eq_emod_of_nonneg hh.1]; exact hodd
              obtain ⟨w11, hrun, hd11, hturn⟩ := HD10.out.set (show i2 < maxLen by unfold maxLen; omega) hbn hbl (fun hne g hg => ⟨Nat.zero_le _, hab hne g hg⟩)
              have HCNT : Hid ((thereI (updG (ownG L) bn (some bes)) (keysI (dirsI L) bn)).length = (if (F bn).isSome = true then i2 else i2 + 1)) := Lib.hid (by rw [count_set, HD10.out.some hbn, HDL.out])
              have HSMALL := Lib.hid (upd_small (own_small HG.out) bn (v := some bes) (fun es h => by cases h; omega) (fun es h => by cases h; exact HBS.out))
              have HALL := Lib.hid (tail_all HG.out bn (v := some bes) (by simp only [Option.getD_some]; omega))
              have HD11 := Lib.hid hd11
              have HN11 := Lib.hid (numsTurned HN10.out hturn)
              have HBX11 := Lib.hid (HBX10.out.turned hturn)
              have HW11 := Lib.hid (below_turned HW10.out hturn HWB.out)
              clear hd11 hturn hbl hab hbe
              go_upto_region 27 with fail
              clear hrun x0 x1 x2 x3 HBX10 HN10 HW10 HD10
              obtain ⟨x0, x1, x2, x3⟩ := HBX11.out.cells
              obtain ⟨t, ht⟩ : ∃ t : Bool, t = true ↔ Formed h1 (updG (ownG L) bn (some bes)) (keysI (dirsI L) bn) := by
                by_cases hF : Formed h1 (updG (ownG L) bn (some bes)) (keysI (dirsI L) bn)
                · exact ⟨true, by simp [hF]⟩
                · exact ⟨false, by simp [hF]⟩
              have cM := make_c w11 mb _ _ _ _ h1 HD11.out.at' HD11.out.f HSMALL.out t (tail_make HCNT.out ht)
              have cFo : Hid (∀ W, Below w11.heap.size w11 W → Calls Try.prog 21 #[.int .i64 h1, .map (some mb), .slice ad i2 cd, .int .i64 bn] W fun e w' => e = .returned (.bool t) ∧ Below W.heap.size W w') := Lib.hid (fun W hW => formed10_c h1 bn mb _ _ _ (.slice ad i2 cd) (dirsI L) W (HD11.out.at'.below hW) (LstIs.kept HN11.out hW) (dirs_i64 L) HBN.out (by rw [HDL.out]; omega) HALL.out (tail_names HSMALL.out _) t ht)
              unfold MakePost at cM
              have hh1 := HH1.out
              have hw1 : IntKind.i64.wrap h1 = h1 := by rw [IntKind.wrap_i64]; omega
              clear ht HD11 HSMALL HALL HCNT
              cases t with
              | false =>
                have cM2 := cM.mono (fun e w' h => h.1 rfl)
                clear cM
                go_wp2_with (first
                  | (go_at_call 16; refine cM2.mono ?_; rintro e w12 ⟨rfl, hb12⟩; have HB12 := Lib.hid hb12; obtain ⟨x0, x1, x2, x3⟩ := (HBX11.out.below hb12).cells; clear hb12)
                  | (go_at_call 21; refine (cFo.out w12 HB12.out).mono ?_; rintro e w13 ⟨rfl, hb13⟩; have HB13 := Lib.hid (HB12.out.trans (hb13.mono HB12.out.size)); clear hb13))
                go_ret
                exact ⟨rfl, HW11.out.trans (HB13.out.mono HW11.out.size)⟩
              | true =>
                have cM2 := cM.mono (fun e w' h => h.2 rfl)
                clear cM
                go_upto_region 30 with (first
                  | (go_at_call 16; refine cM2.mono ?_; rintro e w12 ⟨b3, S3, rfl, hi12, _, hb12⟩; have HB12 := Lib.hid hb12; have HI12 := Lib.hid hi12; obtain ⟨x0, x1, x2, x3⟩ := (HBX11.out.below hb12).cells; clear hb12 hi12)
                  | (go_at_call 21; refine (cFo.out w12 HB12.out).mono ?_; rintro e w13 ⟨rfl, hb13⟩; have HB13 := Lib.hid (HB12.out.trans (hb13.mono HB12.out.size)); have HI13 := Lib.hid (theTree.below HI12.out hb13); obtain ⟨x0, x1, x2, x3⟩ := (HBX11.out.below HB13.out).cells; clear hb13))
                have cQ : ∀ q, Calls Try.prog 17 #[ptrV b3] (w13.drewN q) fun e w' => e = .returned (.int .i64 h1) ∧ w' = w13.drewN q := fun q => theCook (theTree.below HI13.out (below_drewN1 (Below.refl _ _) q))
                go_quiet ((go_at_call 17; exact Calls.quiet_of_same ((cQ _).mono fun _ _ h => ⟨h.1, h.2⟩)))
                go_wp2
                go_ret
                exact ⟨rfl, below_drewN1 (HW11.out.trans (HB13.out.mono HW11.out.size)) _⟩
            · have hodd1 : h0 % 2 = 1 := by omega
              have ht0 : h0.tmod 2 = 1 := by rw [Int.tmod_eq_emod_of_nonneg hh.1]; exact hodd1
              obtain ⟨w11, hrun, hd11, hturn⟩ := HD10.out.cut hbn 0
              have HCNT : Hid ((thereI (updG (ownG L) bn none) (keysI (dirsI L) bn)).length = (if (F bn).isSome = true then i2 - 1 else i2)) := Lib.hid (by rw [count_cut, HD10.out.some hbn, HDL.out])
              have HSMALL := Lib.hid (upd_small (own_small HG.out) bn (v := none) (fun es h => by cases h) (fun es h => by cases h))
              have HALL := Lib.hid (tail_all HG.out bn (v := none) (by simp))
              have HD11 := Lib.hid hd11
              have HN11 := Lib.hid (numsTurned HN10.out hturn)
              have HBX11 := Lib.hid (HBX10.out.turned hturn)
              have HW11 := Lib.hid (below_turned HW10.out hturn HWB.out)
              clear hd11 hturn hbl hab hbe
              go_upto_region 27 with fail
              clear hrun x0 x1 x2 x3 HBX10 HN10 HW10 HD10
              obtain ⟨x0, x1, x2, x3⟩ := HBX11.out.cells
              obtain ⟨t, ht⟩ : ∃ t : Bool, t = true ↔ Formed h1 (updG (ownG L) bn none) (keysI (dirsI L) bn) := by
                by_cases hF : Formed h1 (updG (ownG L) bn none) (keysI (dirsI L) bn)
                · exact ⟨true, by simp [hF]⟩
                · exact ⟨false, by simp [hF]⟩
              have cM := make_c w11 mb _ _ _ _ h1 HD11.out.at' HD11.out.f HSMALL.out t (tail_make HCNT.out ht)
              have cFo : Hid (∀ W, Below w11.heap.size w11 W → Calls Try.prog 21 #[.int .i64 h1, .map (some mb), .slice ad i2 cd, .int .i64 bn] W fun e w' => e = .returned (.bool t) ∧ Below W.heap.size W w') := Lib.hid (fun W hW => formed10_c h1 bn mb _ _ _ (.slice ad i2 cd) (dirsI L) W (HD11.out.at'.below hW) (LstIs.kept HN11.out hW) (dirs_i64 L) HBN.out (by rw [HDL.out]; omega) HALL.out (tail_names HSMALL.out _) t ht)
              unfold MakePost at cM
              have hh1 := HH1.out
              have hw1 : IntKind.i64.wrap h1 = h1 := by rw [IntKind.wrap_i64]; omega
              clear ht HD11 HSMALL HALL HCNT
              cases t with
              | false =>
                have cM2 := cM.mono (fun e w' h => h.1 rfl)
                clear cM
                go_wp2_with (first
                  | (go_at_call 16; refine cM2.mono ?_; rintro e w12 ⟨rfl, hb12⟩; have HB12 := Lib.hid hb12; obtain ⟨x0, x1, x2, x3⟩ := (HBX11.out.below hb12).cells; clear hb12)
                  | (go_at_call 21; refine (cFo.out w12 HB12.out).mono ?_; rintro e w13 ⟨rfl, hb13⟩; have HB13 := Lib.hid (HB12.out.trans (hb13.mono HB12.out.size)); clear hb13))
                go_ret
                exact ⟨rfl, HW11.out.trans (HB13.out.mono HW11.out.size)⟩
              | true =>
                have cM2 := cM.mono (fun e w' h => h.2 rfl)
                clear cM
                go_upto_region 30 with (first
                  | (go_at_call 16; refine cM2.mono ?_; rintro e w12 ⟨b3, S3, rfl, hi12, _, hb12⟩; have HB12 := Lib.hid hb12; have HI12 := Lib.hid hi12; obtain ⟨x0, x1, x2, x3⟩ := (HBX11.out.below hb12).cells; clear hb12 hi12)
                  | (go_at_call 21; refine (cFo.out w12 HB12.out).mono ?_; rintro e w13 ⟨rfl, hb13⟩; have HB13 := Lib.hid (HB12.out.trans (hb13.mono HB12.out.size)); have HI13 := Lib.hid (theTree.below HI12.out hb13); obtain ⟨x0, x1, x2, x3⟩ := (HBX11.out.below HB13.out).cells; clear hb13))
                have cQ : ∀ q, Calls Try.prog 17 #[ptrV b3] (w13.drewN q) fun e w' => e = .returned (.int .i64 h1) ∧ w' = w13.drewN q := fun q => theCook (theTree.below HI13.out (below_drewN1 (Below.refl _ _) q))
                go_quiet ((go_at_call 17; exact Calls.quiet_of_same ((cQ _).mono fun _ _ h => ⟨h.1, h.2⟩)))
                go_wp2
                go_ret
                exact ⟨rfl, below_drewN1 (HW11.out.trans (HB13.out.mono HW11.out.size)) _⟩
end Go.Proofs.Ythjieagmglbonaa
