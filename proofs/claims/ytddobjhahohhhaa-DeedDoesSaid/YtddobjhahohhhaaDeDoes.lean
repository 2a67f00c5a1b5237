/-
  The law DeedDoes on any TreeC.
-/
import Derived.Test.YtddobjhahohhhaaDeFew
import Derived.Test.YtddobjhahohhhaaDeLawKit
namespace Go.Proofs.Ytddobjhahohhhaa
open Go.RowKit Go.Sort
set_option linter.unusedVariables false
set_option linter.unusedSimpArgs false

theorem deI_next (l : List Itm) (nx : Int) (x : De) : nx ≤ (deI l nx x).1.2 ∧ (deI l nx x).1.2 ≤ nx + 1 := by
  unfold deI
  split
  · exact doI_next _ _ _
  · dsimp only; omega
set_option maxHeartbeats 16000000 in
set_option maxRecDepth 100000 in
theorem deedDoes_c (T : TreeC) (v : Value) (l : List De) (w : World) (hv : DeTs w v l) (hl : l.length ≤ 9223372036854775807) (hs : ∀ x ∈ l, x.s.size ≤ 9223372036854775807 ∧ x.ns.size ≤ 9223372036854775807) :
    Calls Try.prog 6 #[v] w fun e w' => e = .returned (.bool true) ∧ Below w.heap.size w w' := by
  obtain ⟨a, cap, rfl⟩ := hv.len
  obtain ⟨R, hR⟩ : ∃ R, fewDI l 60 = R := ⟨_, rfl⟩
  have cF := fun W (h : DeTs W (.slice a l.length cap) l) => few11_c (.slice a l.length cap) l 60 W h hl (by omega) hs
  rw [hR] at cF
  obtain ⟨m, hm⟩ : ∃ n, l.length = n := ⟨_, rfl⟩
  have HM := Lib.hid hm
  have HSZ := Lib.hid hs
  rw [hm] at hl hv ⊢
  simp only [hm] at cF
  have HV := Lib.hid hv
  have HR := Lib.hid hR
  have cA := awake11_c
  have cN := new10_c
  unfold treeV at cN
  clear hR hm hs hv
  go_enter Try.func6, Try.ntmps6
  cases R with
  | false =>
    go_wp2_with (first
      | (go_at_call 9; with_reducible refine (cA w).mono ?_; rintro e w1 ⟨rfl, hb1⟩)
      | (go_at_call 13; refine (cF _ (LstIs.kept HV.out hb1)).mono ?_; rintro e w2 ⟨rfl, hw2⟩; subst hw2)
      | (go_at_call 9; refine (cA _).mono ?_; rintro e w3 ⟨rfl, hb3⟩))
    go_ret
    exact ⟨rfl, hb1.trans (hb3.mono hb1.size)⟩
  | true =>
    go_upto_region 4 with (first
      | (go_at_call 9; refine (cA _).mono ?_; rintro e w1 ⟨rfl, hb1⟩)
      | (go_at_call 13; refine (cF _ (LstIs.kept HV.out hb1)).mono ?_; rintro e w1b ⟨rfl, hw1⟩; subst hw1)
      | (go_at_call 14; refine (T.new _).mono ?_; rintro e w2 ⟨b, S, rfl, hi2, hs2, hb2⟩)
      | (go_at_call 15; refine (cN _).mono ?_; rintro e w3 ⟨rfl, hb3⟩))
    have hm100 : m ≤ 60 := by rw [← HM.out]; exact (fewDI_spec HR.out (by omega)).1
    have HLO : Hid (Below w.heap.size w w1b) := Lib.hid hb1
    have hx3 : Below w.heap.size w w3 := hb1.trans ((hb2.mono hb1.size).trans (hb3.mono (Nat.le_trans hb1.size hb2.size)))
    have HX : Hid (Below w.heap.size w (w3.alloc (.cells #[.slice none 0 0, .int .i64 1] 40))) := Lib.hid (hx3.alloc hx3.size _)
    have HT0 : Hid (T.Is (w3.alloc (.cells #[.slice none 0 0, .int .i64 1] 40)) b [] 1 S) := Lib.hid (T.below (T.below hi2 hb3) ((Below.refl _ w3).alloc (Nat.le_refl _) _))
    have HR0 : Hid ((w3.alloc (.cells #[.slice none 0 0, .int .i64 1] 40)).heap[w3.heap.size]? = some (.cells #[.slice none 0 0, .int .i64 1] 40 (0, 0))) := Lib.hid (heap_alloc_new _ _)
    have HS0 : Hid (∀ k, S k → w.heap.size ≤ k) := Lib.hid (fun k hk => Nat.le_trans hb1.size (hs2 k hk))
    generalize (w3.alloc (.cells #[.slice none 0 0, .int .i64 1] 40)) = W4 at *
    have hrw : w.heap.size ≤ w3.heap.size := hx3.size
    generalize w3.heap.size = r at *
    clear hx3 hb1 hb2 hb3 hi2 hs2 cA cF cN
    go_wp2
    go_loopw [5] (fun iv wr => ∃ (i : Nat) (L : List Itm) (nx : Int) (S : Nat → Prop) (vr : Value), i ≤ m ∧ iv = .int .i64 i ∧ T.Is wr b L nx S ∧ wr.heap[r]? = some (.cells #[vr, .int .i64 nx] 40 (0, 0)) ∧ ItmsT wr vr L ∧ (∀ k, S k → w.heap.size ≤ k) ∧ nx ≤ 1 + i ∧ Below w.heap.size w wr) (fun iv wr => m - (intOf iv).toNat)
    case atStart => exact ⟨0, [], 1, S, _, by omega, rfl, HT0.out, HR0.out, ItmsT.nil _, HS0.out, by omega, HX.out⟩
    case round =>
      clear HT0 HR0 HS0 HX
      obtain ⟨i, L, nx, S, vr, hi, rfl, his, hr, hvr, hS, hnx, hb⟩ := hrel
      obtain ⟨ar, cr, rfl⟩ := hvr.1.len
      have hLl := T.len his
      have hn1 := T.next his
      obtain ⟨nl, hnl⟩ : ∃ n, L.length = n := ⟨_, rfl⟩
      have HNL := Lib.hid hnl
      rw [hnl] at hLl
      simp only [hnl] at hr hvr
      clear hnl
      by_cases him : i < m
      · have hiz : (i : Int) < (m : Int) := by omega
        obtain ⟨o, ho⟩ : ∃ o, l[i]? = some o := ⟨_, List.getElem?_eq_getElem (by rw [HM.out]; omega)⟩
        obtain ⟨g, off, rfl, hg, hrg⟩ := HV.out.at ho
        have HOC : Hid (∀ W, Below w.heap.size w W → W.cell? ⟨g, off + i * 7, none⟩ = some (.int .i64 o.k) ∧ W.cell? ⟨g, off + i * 7 + 1, none⟩ = some (.int .i64 o.d) ∧ W.cell? ⟨g, off + i * 7 + 2, none⟩ = some (.int .i64 o.dt) ∧ W.cell? ⟨g, off + i * 7 + 3, none⟩ = some (.string o.s) ∧ W.cell? ⟨g, off + i * 7 + 4, none⟩ = some (.string o.ns) ∧ W.cell? ⟨g, off + i * 7 + 5, none⟩ = some (.bool o.isD) ∧ W.cell? ⟨g, off + i * 7 + 6, none⟩ = some (.int .i64 o.sh)) := Lib.hid (fun W hW => by
          have h := rangeAt_below hrg hg hW
          exact ⟨h 0 _ rfl, h 1 _ rfl, h 2 _ rfl, h 3 _ rfl, h 4 _ rfl, h 5 _ rfl, h 6 _ rfl⟩)
        obtain ⟨Q, hQ⟩ : ∃ Q, deI L nx o = Q := ⟨_, rfl⟩
        have HQ := Lib.hid hQ
        have hqn := deI_next L nx o
        rw [hQ] at hqn
        have cDo := deedDo_c T o his (by omega)
        rw [hQ] at cDo
        have cMay := refMay_c o
        unfold DonePost deV at cDo
        unfold deV at cMay
        obtain ⟨o0, o1, o2, o3, o4, o5, o6⟩ := HOC.out wr hb
        clear hQ hg hrg ho
        go_upto_region 8 with (go_at_call 16; refine cDo.mono ?_; rintro e w2 ⟨S2, rfl, hi2, ht2⟩)
        have hr2 := T.block his ht2 hr (by simp)
        have hv2 := T.items his ht2 hvr
        have hlow := ht2.low hb.size hS
        have hb2 := hb.trans hlow.1
        have HI2 := Lib.hid hi2
        have HR2 := Lib.hid hr2
        have HV2 := Lib.hid hv2
        have HB2 := Lib.hid hb2
        have HS2 := Lib.hid hlow.2
        clear his hr hvr hS hb cDo o0 o1 o2 o3 o4 o5 o6 hi2 ht2 hr2 hv2 hlow hb2
        obtain ⟨o0, o1, o2, o3, o4, o5, o6⟩ := HOC.out w2 HB2.out
        by_cases hmay : May o
        · rw [decide_eq_true hmay] at cMay
          have HMAY := Lib.hid hmay
          clear hmay
          have hQ2 : Hid (doI L nx (opOf o) = Q) := Lib.hid (by rw [← HQ.out]; unfold deI; rw [if_pos HMAY.out])
          go_upto_region 11 with (go_at_call 10; refine (cMay _).mono ?_; rintro e w2b ⟨rfl, hbm⟩; have HBM := Lib.hid hbm; clear hbm)
          have HI2 := Lib.hid (T.below HI2.out HBM.out)
          have HR2 := Lib.hid ((HBM.out.block r (lt_of_get HR2.out)).trans HR2.out)
          have HV2 := Lib.hid (HV2.out.kept HBM.out)
          have HB2 := Lib.hid (HB2.out.trans (HBM.out.mono HB2.out.size))
          clear HBM o0 o1 o2 o3 o4 o5 o6 cMay
          generalize w2b = w5 at *
          have HSK : Hid (∀ W, Below w5.heap.size w5 W → Below w5.heap.size w5 W ∧ W.cell? ⟨r, 0, none⟩ = some (.slice ar nl cr) ∧ W.cell? ⟨r, 1, none⟩ = some (.int .i64 (nx)) ∧ W.cell? ⟨g, off + i * 7, none⟩ = some (.int .i64 o.k) ∧ W.cell? ⟨g, off + i * 7 + 1, none⟩ = some (.int .i64 o.d) ∧ W.cell? ⟨g, off + i * 7 + 2, none⟩ = some (.int .i64 o.dt) ∧ W.cell? ⟨g, off + i * 7 + 3, none⟩ = some (.string o.s) ∧ W.cell? ⟨g, off + i * 7 + 4, none⟩ = some (.string o.ns) ∧ W.cell? ⟨g, off + i * 7 + 5, none⟩ = some (.bool o.isD) ∧ W.cell? ⟨g, off + i * 7 + 6, none⟩ = some (.int .i64 o.sh)) := Lib.hid (fun W hW => by
            have h := (two_cells ((hW.block r (lt_of_get HR2.out)).trans HR2.out)).1
            exact ⟨hW, h.1, h.2, HOC.out W (HB2.out.trans (hW.mono HB2.out.size))⟩)
          have hk1 := HMAY.out.1
          have hss : o.s.size ≤ 9223372036854775807 := by have := HMAY.out.2.2.2.2.2.2.1; omega
          have hns : o.ns.size ≤ 9223372036854775807 := by have := HMAY.out.2.2.2.2.2.2.2.1; omega
          have cR := fun W (h : ItmsT W (.slice ar nl cr) L) => do10_c (.slice ar nl cr) L nx (opOf o) W h (by rw [HNL.out]; omega) hss hns (by show 0 ≤ o.k - 1; omega) (by show o.k - 1 ≤ 255; omega) (by omega) (by omega)
          rw [hQ2.out] at cR
          unfold LinkPost treeV at cR
          have cO := fun W => refOp_c o W hk1
          generalize hOV : opV (opOf o) = OV at cR cO
          unfold opV opOf at hOV
          subst hOV
          unfold deV at cO
          clear hk1 hss hns
          go_cut [8, 9, 10] from 48 to 59 (fun v8 v9 v10 wx => ∃ (q : Nat) (vq : Value), v8 = .pointer (some ⟨q, 0, none⟩) ∧ v9 = .int .i64 Q.2.1 ∧ v10 = .int .i64 Q.2.2 ∧ wx.heap[q]? = some (.cells #[vq, .int .i64 Q.1.2] 40 (0, 0)) ∧ ItmsT wx vq Q.1.1 ∧ w5.heap.size ≤ q ∧ Below w5.heap.size w5 wx)
          case first =>
            have hs0 := HSK.out w5.drew (Below.refl _ _).drew
            have HVW : Hid (∀ W, Below w5.heap.size w5 W → ItmsT W (.slice ar nl cr) L) := Lib.hid (fun W hW => HV2.out.kept hW)
            go_region_held3 (fun W => Below w5.heap.size w5 W ∧ W.cell? ⟨r, 0, none⟩ = some (.slice ar nl cr) ∧ W.cell? ⟨r, 1, none⟩ = some (.int .i64 (nx)) ∧ W.cell? ⟨g, off + i * 7, none⟩ = some (.int .i64 o.k) ∧ W.cell? ⟨g, off + i * 7 + 1, none⟩ = some (.int .i64 o.d) ∧ W.cell? ⟨g, off + i * 7 + 2, none⟩ = some (.int .i64 o.dt) ∧ W.cell? ⟨g, off + i * 7 + 3, none⟩ = some (.string o.s) ∧ W.cell? ⟨g, off + i * 7 + 4, none⟩ = some (.string o.ns) ∧ W.cell? ⟨g, off + i * 7 + 5, none⟩ = some (.bool o.isD) ∧ W.cell? ⟨g, off + i * 7 + 6, none⟩ = some (.int .i64 o.sh)) (with_reducible first | assumption | (refine HSK.out _ ?_; with_reducible first | assumption | exact (Below.refl _ _).drew | exact (below_al (Below.refl _ _) (Nat.le_refl _)).drew | exact Below.drew ‹_› | exact below_al ‹_› (Nat.le_refl _) | exact below_two hq8 hqq)) (first
              | (go_at_call 18; (with_reducible refine (cO (w5.alloc tree0).drew).mono ?_); rintro e w6 ⟨rfl, hb6⟩; have hTA : w6.heap[w5.heap.size]? = some tree0 := tree_kept (W := (w5.alloc tree0).drew) (tree_fresh w5) hb6; have hqA : Below w5.heap.size w5 w6 := below_step (Nat.le_refl _) (below_al (Below.refl _ _) (Nat.le_refl _)).drew hb6)
              | (go_at_call 18; (with_reducible refine (cO w5.drew).mono ?_); rintro e w6 ⟨rfl, hb6⟩; have hqB : Below w5.heap.size w5 w6 := below_step (Nat.le_refl _) (Below.refl _ _).drew hb6)
              | (go_at_call 17; (with_reducible refine (cR w6 (HVW.out _ hqA)).mono ?_); rintro e w7 ⟨v7, rfl, hi7, hb7⟩; obtain ⟨a7, c7, hv7⟩ := hi7.1.len; have hT7 : w7.heap[w5.heap.size]? = some tree0 := tree_kept hTA hb7; have hq8 : Below w5.heap.size w5 w7 := below_step (Nat.le_refl _) hqA hb7; have hqq : w5.heap.size ≤ w5.heap.size := Nat.le_refl _; have hI8 := hi7; subst hv7; obtain ⟨⟨z0, z1⟩, y0, y1⟩ := two_cells hT7)
              | (go_at_call 17; (with_reducible refine (cR (w6.alloc tree0) (HVW.out _ (below_al hqB (Nat.le_refl _)))).mono ?_); rintro e w7 ⟨v7, rfl, hi7, hb7⟩; obtain ⟨a7, c7, hv7⟩ := hi7.1.len; have hT7 : w7.heap[w6.heap.size]? = some tree0 := tree_kept (tree_fresh w6) hb7; have hq8 : Below w5.heap.size w5 w7 := below_step (Nat.le_refl _) (below_al hqB (Nat.le_refl _)) hb7; have hqq : w5.heap.size ≤ w6.heap.size := hqB.size; have hI8 := hi7; subst hv7; obtain ⟨⟨z0, z1⟩, y0, y1⟩ := two_cells hT7)
              | (go_at_call 17; (with_reducible refine (cR w6 (HVW.out _ hqB)).mono ?_); rintro e w7 ⟨v7, rfl, hi7, hb7⟩; obtain ⟨a7, c7, hv7⟩ := hi7.1.len; have hq7 : Below w5.heap.size w5 w7 := below_step (Nat.le_refl _) hqB hb7; have hT7 : (w7.alloc tree0).heap[w7.heap.size]? = some tree0 := tree_fresh w7; have hq8 : Below w5.heap.size w5 (w7.alloc tree0) := below_al hq7 (Nat.le_refl _); have hqq : w5.heap.size ≤ w7.heap.size := hq7.size; have hI8 : ItmsT (w7.alloc tree0) v7 Q.1.1 := hi7.kept ((Below.refl _ _).alloc (Nat.le_refl _) _); have hI9 := fun x => hi7.kept ((Below.refl _ w7).alloc (Nat.le_refl _) x); subst hv7; obtain ⟨⟨z0, z1⟩, y0, y1⟩ := two_cells hT7))
            all_goals
              go_wp2
              go_meet
              first
                | exact ⟨_, _, rfl, rfl, rfl, (put_tree hT7 hI8).1, (put_tree hT7 hI8).2, hqq, below_two hq8 hqq⟩
                | exact ⟨_, _, rfl, rfl, rfl, heap_alloc_new _ _, hI9 _, hqq, below_al hq7 (Nat.le_refl _)⟩
          case rest =>
            obtain ⟨q, vq, h8, h9, h10, hq, hiq, hql, hbq⟩ := hcut
            subst h8
            subst h9
            subst h10
            obtain ⟨⟨L1, nx1⟩, mm, ff⟩ := Q
            simp only at hq hiq hqn HI2
            obtain ⟨aq, cq, rfl⟩ := hiq.1.len
            obtain ⟨nq, hnq⟩ : ∃ n, L1.length = n := ⟨_, rfl⟩
            have HNQ := Lib.hid hnq
            have hnq1 := T.len HI2.out
            rw [hnq] at hnq1
            simp only [hnq] at hq hiq
            have hrq := (hbq.block r (lt_of_get HR2.out)).trans HR2.out
            have hiw := T.below HI2.out hbq
            have HI9 : Hid (T.Is ((wc.setCell ⟨r, 0, none⟩ (.slice aq nq cq)).setCell ⟨r, 1, none⟩ (.int .i64 nx1)) b L1 nx1 S2) := Lib.hid (T.set2 hiw hrq _ _)
            have HR9 := Lib.hid (put_tree2 hrq hiq (nx8 := nx1)).1
            have HV9 := Lib.hid (put_tree2 hrq hiq (nx8 := nx1)).2
            have HB9 : Hid (Below w.heap.size w ((wc.setCell ⟨r, 0, none⟩ (.slice aq nq cq)).setCell ⟨r, 1, none⟩ (.int .i64 nx1))) := Lib.hid (below_two (HB2.out.trans (hbq.mono HB2.out.size)) hrw)
            obtain ⟨⟨r0, r1⟩, y0, y1⟩ := two_cells hrq
            obtain ⟨⟨q0, q1⟩, _⟩ := two_cells hq
            clear hnq hrq hiw hq hiq hbq HR2 HV2 HB2 HI2 HSK cR HQ cO hQ2
            go_wp2
            go_roundw
            case rel => exact ⟨i + 1, L1, nx1, S2, _, by omega, by first | rfl | go_num, HI9.out, HR9.out, HV9.out, HS2.out, by omega, HB9.out⟩
            case measure => simp [intOf]; omega
        · rw [decide_eq_false hmay] at cMay
          have hQ3 : Hid (Q = ((L, nx), 0, 1)) := Lib.hid (by rw [← HQ.out]; unfold deI; rw [if_neg hmay])
          obtain rfl := hQ3.out
          clear hmay hQ3 HQ
          go_wp2_with (go_at_call 10; refine (cMay _).mono ?_; rintro e w2b ⟨rfl, hbm⟩; have HBM := Lib.hid hbm; clear hbm)
          go_roundw
          case rel => exact ⟨i + 1, L, nx, S2, _, by omega, by first | rfl | go_num, T.below HI2.out HBM.out, (HBM.out.block r (lt_of_get HR2.out)).trans HR2.out, HV2.out.kept HBM.out, HS2.out, by omega, HB2.out.trans (HBM.out.mono HB2.out.size)⟩
          case measure => simp [intOf]; omega
      · have hiz : ¬ (i : Int) < (m : Int) := by omega
        have cE := alike10_c T (.slice ar nl cr) his hvr
        unfold treeV at cE
        obtain ⟨⟨r0, r1⟩, _⟩ := two_cells hr
        have HBQ := Lib.hid hb
        go_wp2_with (go_at_call 19; refine cE.mono ?_; rintro e w9 ⟨rfl, hb9⟩)
        go_ret
        exact ⟨rfl, HBQ.out.trans (hb9.mono HBQ.out.size)⟩
end Go.Proofs.Ytddobjhahohhhaa
