/-
  The law TreeClones, on any TreeC that has Clone and Same.
-/
import Derived.Test.YthaghhleidopeaaTreeC
import Derived.Test.YthaghhleidopeaaTreeBack
namespace Go.Proofs.Ythaghhleidopeaa
open Go.RowKit Go.Sort
set_option linter.unusedVariables false

theorem unlink_fail {l : List Itm} {nx d : Int} {s : ByteArray} {isD : Bool} (h : (unlinkI l nx d s isD).2 ≠ 0) : (unlinkI l nx d s isD).1 = (l, nx) := by
  unfold unlinkI at h ⊢
  split
  · rfl
  · rename_i h1
    rw [if_neg h1] at h
    split
    · rfl
    · rename_i h2
      rw [if_neg h2] at h
      split
      · rfl
      · rename_i h3
        rw [if_neg h3] at h
        split
        · rfl
        · rename_i h4
          rw [if_neg h4] at h
          exact absurd rfl h
theorem move_fail {l : List Itm} {nx d : Int} {s : ByteArray} {dt : Int} {ns : ByteArray} {sh : Int} (h : (moveI l nx d s dt ns sh).2 ≠ 0) : (moveI l nx d s dt ns sh).1 = (l, nx) := by
  unfold moveI at h ⊢
  split
  · rfl
  · rename_i h1
    rw [if_neg h1] at h
    split
    · rfl
    · rename_i h2
      rw [if_neg h2] at h
      split
      · rfl
      · rename_i h3
        rw [if_neg h3] at h
        split
        · rfl
        · rename_i h4
          rw [if_neg h4] at h
          split
          · rfl
          · rename_i h5
            rw [if_neg h5] at h
            exact absurd rfl h
theorem do_fail {l : List Itm} {nx : Int} {o : OpT} (h : (doI l nx o).2.2 ≠ 0) : (doI l nx o).1 = (l, nx) := by
  unfold doI at h ⊢
  split
  · rename_i h1
    rw [if_pos h1] at h
    exact link_fail h
  · rename_i h1
    rw [if_neg h1] at h
    split
    · rename_i h2
      rw [if_pos h2] at h
      exact unlink_fail h
    · rename_i h2
      rw [if_neg h2] at h
      exact move_fail h
set_option maxHeartbeats 16000000 in
set_option maxRecDepth 100000 in
theorem treeClones_c (T : TreeC) (hClone : ∀ {w b l nx S}, T.Is w b l nx S → Calls Try.prog 26 #[ptrV b] w fun e w' => ∃ b2 S2, e = .returned (ptrV b2) ∧ T.Is w' b2 l nx S2 ∧ (∀ k, S2 k → w.heap.size ≤ k) ∧ Below w.heap.size w w')
    (hSame : ∀ {w b b' l nx S S'}, T.Is w b l nx S → T.Is w b' l nx S' → Calls Try.prog 27 #[ptrV b, ptrV b'] w fun e w' => e = .returned (.bool true) ∧ Below w.heap.size w w')
    (v v2 : Value) (l l2 : List OpT) (w : World) (hv : OpTs w v l) (hl : l.length ≤ 9223372036854775807) (hs : ∀ x ∈ l, x.s.size ≤ 9223372036854775807 ∧ x.ns.size ≤ 9223372036854775807) (hk : ∀ x ∈ l, 0 ≤ x.k ∧ x.k ≤ 255)
    (hv2 : OpTs w v2 l2) (hl2 : l2.length ≤ 9223372036854775807) (hs2 : ∀ x ∈ l2, x.s.size ≤ 9223372036854775807 ∧ x.ns.size ≤ 9223372036854775807) (hk2 : ∀ x ∈ l2, 0 ≤ x.k ∧ x.k ≤ 255) :
    Calls Try.prog 6 #[v, v2] w fun e w' => e = .returned (.bool true) ∧ Below w.heap.size w w' := by
  obtain ⟨a, cap, rfl⟩ := hv.len
  obtain ⟨aa, cap2, rfl⟩ := hv2.len
  obtain ⟨R, hR⟩ : ∃ R, fewI l 60 = R := ⟨_, rfl⟩
  obtain ⟨R2, hR2⟩ : ∃ R, fewI l2 20 = R := ⟨_, rfl⟩
  have cF := fun W (h : OpTs W (.slice a l.length cap) l) => few10_c (.slice a l.length cap) l 60 W h hl (by omega) hs
  have cF2 := fun W (h : OpTs W (.slice aa l2.length cap2) l2) => few10_c (.slice aa l2.length cap2) l2 20 W h hl2 (by omega) hs2
  rw [hR] at cF
  rw [hR2] at cF2
  obtain ⟨m, hm⟩ : ∃ n, l.length = n := ⟨_, rfl⟩
  obtain ⟨m2, hm2⟩ : ∃ n, l2.length = n := ⟨_, rfl⟩
  have HM := Lib.hid hm
  have HM2 := Lib.hid hm2
  have HSZ := Lib.hid hs
  have HK := Lib.hid hk
  have HSZ2 := Lib.hid hs2
  have HK2 := Lib.hid hk2
  rw [hm] at hl hv ⊢
  rw [hm2] at hl2 hv2 ⊢
  simp only [hm] at cF
  simp only [hm2] at cF2
  have cFa : ∀ W, OpTs W (.slice a m cap) l → Calls Try.prog 9 #[.slice a m cap, .int .i64 60] W fun e w' => e = .returned (.bool R) ∧ w' = W := cF
  have cFb : ∀ W, OpTs W (.slice aa m2 cap2) l2 → Calls Try.prog 9 #[.slice aa m2 cap2, .int .i64 20] W fun e w' => e = .returned (.bool R2) ∧ w' = W := cF2
  clear cF cF2
  have HV := Lib.hid hv
  have HV2 := Lib.hid hv2
  have HR := Lib.hid hR
  have HRR2 := Lib.hid hR2
  have cA := awake10_c T
  have cN := new10_c
  unfold treeV at cN
  have HEA := Lib.hid (fun W (hW : Below w.heap.size w W) => (cA W).mono (R' := fun e w' => e = .returned (.bool true) ∧ Below w.heap.size w w') fun e w' ⟨h1, h2⟩ => ⟨h1, hW.trans (h2.mono hW.size)⟩)
  clear hR hR2 hm hm2 hs hk hs2 hk2 hv hv2
  go_enter Try.func6, Try.ntmps6
  cases R with
  | false =>
    go_wp2_with (first
      | (go_at_call 8; with_reducible refine (HEA.out w (Below.refl _ _)).mono ?_; rintro e w1 ⟨rfl, hb1⟩)
      | (go_at_call 9; with_reducible refine (cFa _ (LstIs.kept HV.out hb1)).mono ?_; rintro e w2 ⟨rfl, hw2⟩; subst hw2)
      | (go_at_call 9; with_reducible refine (cFb _ (LstIs.kept HV2.out hb1)).mono ?_; rintro e w2 ⟨rfl, hw2⟩; subst hw2)
      | (go_at_call 8; refine (HEA.out _ hb1).mono ?_; rintro e w3 ⟨rfl, hb3⟩))
    go_ret
    exact ⟨rfl, hb3⟩
  | true =>
    cases R2 with
    | false =>
      go_wp2_with (first
        | (go_at_call 8; with_reducible refine (HEA.out w (Below.refl _ _)).mono ?_; rintro e w1 ⟨rfl, hb1⟩)
        | (go_at_call 9; with_reducible refine (cFa _ (LstIs.kept HV.out hb1)).mono ?_; rintro e w2 ⟨rfl, hw2⟩; subst hw2)
        | (go_at_call 9; with_reducible refine (cFb _ (LstIs.kept HV2.out hb1)).mono ?_; rintro e w2 ⟨rfl, hw2⟩; subst hw2)
        | (go_at_call 8; refine (HEA.out _ hb1).mono ?_; rintro e w3 ⟨rfl, hb3⟩))
      go_ret
      exact ⟨rfl, hb3⟩
    | true =>
      have hm60 : m ≤ 60 := by rw [← HM.out]; exact (fewI_spec HR.out (by omega)).1
      have hm20 : m2 ≤ 20 := by rw [← HM2.out]; exact (fewI_spec HRR2.out (by omega)).1
      go_upto_region 4 with (first
        | (go_at_call 8; refine (cA _).mono ?_; rintro e w1 ⟨rfl, hb1⟩)
        | (go_at_call 9; with_reducible refine (cFa _ (LstIs.kept HV.out hb1)).mono ?_; rintro e w1b ⟨rfl, hw1⟩; subst hw1)
        | (go_at_call 9; with_reducible refine (cFb _ (LstIs.kept HV2.out hb1)).mono ?_; rintro e w1b ⟨rfl, hw1⟩; subst hw1)
        | (go_at_call 10; refine (T.new _).mono ?_; rintro e w2 ⟨b, S, rfl, hi2, hs2, hb2⟩)
        | (go_at_call 19; refine (cN _).mono ?_; rintro e w3 ⟨rfl, hb3⟩))
      have hx3 : Below w.heap.size w w3 := hb1.trans ((hb2.mono hb1.size).trans (hb3.mono (Nat.le_trans hb1.size hb2.size)))
      have HX : Hid (Below w.heap.size w (w3.alloc (.cells #[.slice none 0 0, .int .i64 1] 48))) := Lib.hid (hx3.alloc hx3.size _)
      have HT0 : Hid (T.Is (w3.alloc (.cells #[.slice none 0 0, .int .i64 1] 48)) b [] 1 S) := Lib.hid (T.below (T.below hi2 hb3) ((Below.refl _ w3).alloc (Nat.le_refl _) _))
      have HR0 : Hid ((w3.alloc (.cells #[.slice none 0 0, .int .i64 1] 48)).heap[w3.heap.size]? = some (.cells #[.slice none 0 0, .int .i64 1] 48 (0, 0))) := Lib.hid (heap_alloc_new _ _)
      have HS0 : Hid (∀ k, S k → w.heap.size ≤ k) := Lib.hid (fun k hk => Nat.le_trans hb1.size (hs2 k hk))
      generalize (w3.alloc (.cells #[.slice none 0 0, .int .i64 1] 48)) = W4 at *
      have hrw : w.heap.size ≤ w3.heap.size := hx3.size
      generalize w3.heap.size = r at *
      clear hx3 hb1 hb2 hb3 hi2 hs2 cA cN cFa cFb
      go_wp2
      go_loopw [7] (fun iv wr => ∃ (i : Nat) (L : List Itm) (nx : Int) (S : Nat → Prop) (vr : Value), i ≤ m ∧ iv = .int .i64 i ∧ T.Is wr b L nx S ∧ wr.heap[r]? = some (.cells #[vr, .int .i64 nx] 48 (0, 0)) ∧ ItmsT wr vr L ∧ (∀ k, S k → w.heap.size ≤ k) ∧ nx ≤ 1 + i ∧ Below w.heap.size w wr) (fun iv _ => m - (intOf iv).toNat)
      case atStart => exact ⟨0, [], 1, S, _, by omega, rfl, HT0.out, HR0.out, ItmsT.nil _, HS0.out, by omega, HX.out⟩
      case round =>
        clear HT0 HR0 HS0 HX
        obtain ⟨i, L, nx, S, vr, hi, rfl, his, hr, hvr, hS, hnx, hb⟩ := hrel
        obtain ⟨ar, cr, rfl⟩ := hvr.1.len
        have hLl := T.len his
        have hn1 := T.next his
        obtain ⟨nl, hnl⟩ : ∃ n, L.length = n := ⟨_, rfl⟩
        have HNL := Lib.hid hnl
        rw [hnl] at hLl
        simp only [hnl] at hr hvr
        clear hnl
        by_cases him : i < m
        · have hiz : (i : Int) < (m : Int) := by omega
          obtain ⟨o, ho⟩ : ∃ o, l[i]? = some o := ⟨_, List.getElem?_eq_getElem (by rw [HM.out]; omega)⟩
          obtain ⟨g, off, rfl, hg, hrg⟩ := HV.out.at ho
          have hom := List.mem_of_getElem? ho
          have HOC : Hid (∀ W, Below w.heap.size w W → W.cell? ⟨g, off + i * 7, none⟩ = some (.int .u8 o.k) ∧ W.cell? ⟨g, off + i * 7 + 1, none⟩ = some (.int .i64 o.d) ∧ W.cell? ⟨g, off + i * 7 + 2, none⟩ = some (.int .i64 o.dt) ∧ W.cell? ⟨g, off + i * 7 + 3, none⟩ = some (.string o.s) ∧ W.cell? ⟨g, off + i * 7 + 4, none⟩ = some (.string o.ns) ∧ W.cell? ⟨g, off + i * 7 + 5, none⟩ = some (.bool o.isD) ∧ W.cell? ⟨g, off + i * 7 + 6, none⟩ = some (.int .i64 o.sh)) := Lib.hid (fun W hW => by
            have h := rangeAt_below hrg hg hW
            exact ⟨h 0 _ rfl, h 1 _ rfl, h 2 _ rfl, h 3 _ rfl, h 4 _ rfl, h 5 _ rfl, h 6 _ rfl⟩)
          have hos := HSZ.out o hom
          have hok := HK.out o hom
          have hdf := do_fail (l := L) (nx := nx) (o := o)
          obtain ⟨Q, hQ⟩ : ∃ Q, doI L nx o = Q := ⟨_, rfl⟩
          have HQ := Lib.hid hQ
          have hqn := doI_next L nx o
          rw [hQ] at hqn hdf
          have HDF := Lib.hid hdf
          have cCl := hClone his
          have HLT : Hid (∀ k, S k → k < wr.heap.size) := Lib.hid (T.lt his)
          have HI0 := Lib.hid his
          have HR0 := Lib.hid hr
          have HV0 := Lib.hid hvr
          have HB0 := Lib.hid hb
          have HSS := Lib.hid hS
          clear hQ hg hrg ho hom hdf his hr hvr hb hS
          go_upto_region 8 with (go_at_call 26; refine cCl.mono ?_; rintro e w1 ⟨b1, S1, rfl, hi1, hs1, hb1⟩)
          have HI1 := Lib.hid (T.below HI0.out hb1)
          have HC1 := Lib.hid hi1
          have HR1 := Lib.hid ((hb1.block r (lt_of_get HR0.out)).trans HR0.out)
          have HV1 := Lib.hid (HV0.out.kept hb1)
          have HB1 := Lib.hid (HB0.out.trans (hb1.mono HB0.out.size))
          have HAP : Hid (∀ k, S1 k → ¬ S k) := Lib.hid (fun k hk hc => by have := hs1 k hk; have := HLT.out k hc; omega)
          clear hb1 hi1 hs1 cCl HI0 HR0 HV0 HB0
          have cDo := lawDo10_c T o HI1.out hos.1 hos.2 hok.1 hok.2 (by omega)
          rw [HQ.out] at cDo
          unfold opV at cDo
          obtain ⟨o0, o1, o2, o3, o4, o5, o6⟩ := HOC.out w1 HB1.out
          go_upto_region 9 with (go_at_call 11; refine cDo.mono ?_; rintro e w2 ⟨S2, rfl, hi2, ht2⟩)
          have HR2 := Lib.hid (T.block HI1.out ht2 HR1.out (by simp))
          have HV2' := Lib.hid (T.items HI1.out ht2 HV1.out)
          have hlow := ht2.low HB1.out.size HSS.out
          have hap := T.apart HC1.out ht2 HAP.out
          have HC2 := Lib.hid hap.1
          have HI2 := Lib.hid hi2
          have HB2 := Lib.hid (HB1.out.trans hlow.1)
          have HS2 := Lib.hid hlow.2
          clear cDo o0 o1 o2 o3 o4 o5 o6 hi2 ht2 hlow hap HI1 HC1 HR1 HV1 HB1 HAP HLT HSS
          have HSK : Hid (∀ W, Below w2.heap.size w2 W → Below w2.heap.size w2 W ∧ W.cell? ⟨r, 0, none⟩ = some (.slice ar nl cr) ∧ W.cell? ⟨r, 1, none⟩ = some (.int .i64 (nx)) ∧ W.cell? ⟨g, off + i * 7, none⟩ = some (.int .u8 o.k) ∧ W.cell? ⟨g, off + i * 7 + 1, none⟩ = some (.int .i64 o.d) ∧ W.cell? ⟨g, off + i * 7 + 2, none⟩ = some (.int .i64 o.dt) ∧ W.cell? ⟨g, off + i * 7 + 3, none⟩ = some (.string o.s) ∧ W.cell? ⟨g, off + i * 7 + 4, none⟩ = some (.string o.ns) ∧ W.cell? ⟨g, off + i * 7 + 5, none⟩ = some (.bool o.isD) ∧ W.cell? ⟨g, off + i * 7 + 6, none⟩ = some (.int .i64 o.sh)) := Lib.hid (fun W hW => by
            have h := (two_cells ((hW.block r (lt_of_get HR2.out)).trans HR2.out)).1
            exact ⟨hW, h.1, h.2, HOC.out W (HB2.out.trans (hW.mono HB2.out.size))⟩)
          have cR := fun W (h : ItmsT W (.slice ar nl cr) L) => do10_c (.slice ar nl cr) L nx o W h (by rw [HNL.out]; omega) hos.1 hos.2 hok.1 hok.2 (by omega) (by omega)
          rw [HQ.out] at cR
          unfold LinkPost treeV opV at cR
          go_cut [11, 12, 13] from 31 to 57 (fun v8 v9 v10 wx => ∃ (q : Nat) (vq : Value), v8 = .pointer (some ⟨q, 0, none⟩) ∧ v9 = .int .i64 Q.2.1 ∧ v10 = .int .i64 Q.2.2 ∧ wx.heap[q]? = some (.cells #[vq, .int .i64 Q.1.2] 48 (0, 0)) ∧ ItmsT wx vq Q.1.1 ∧ w2.heap.size ≤ q ∧ Below w2.heap.size w2 wx)
          case first =>
            have hs0 := HSK.out w2.drew (Below.refl _ _).drew
            have HVW : Hid (∀ W, Below w2.heap.size w2 W → ItmsT W (.slice ar nl cr) L) := Lib.hid (fun W hW => HV2'.out.kept hW)
            clear HOC hos hok HI2 HC2
            go_region_held3 (fun W => Below w2.heap.size w2 W ∧ W.cell? ⟨r, 0, none⟩ = some (.slice ar nl cr) ∧ W.cell? ⟨r, 1, none⟩ = some (.int .i64 (nx)) ∧ W.cell? ⟨g, off + i * 7, none⟩ = some (.int .u8 o.k) ∧ W.cell? ⟨g, off + i * 7 + 1, none⟩ = some (.int .i64 o.d) ∧ W.cell? ⟨g, off + i * 7 + 2, none⟩ = some (.int .i64 o.dt) ∧ W.cell? ⟨g, off + i * 7 + 3, none⟩ = some (.string o.s) ∧ W.cell? ⟨g, off + i * 7 + 4, none⟩ = some (.string o.ns) ∧ W.cell? ⟨g, off + i * 7 + 5, none⟩ = some (.bool o.isD) ∧ W.cell? ⟨g, off + i * 7 + 6, none⟩ = some (.int .i64 o.sh)) (first | assumption | (refine HSK.out _ ?_; first | assumption | exact (Below.refl _ _).drew | exact (below_al (Below.refl _ _) (Nat.le_refl _)).drew | exact Below.drew ‹_› | exact below_al ‹_› (Nat.le_refl _) | exact below_two hq8 hqq)) (first
              | (go_at_call 20; refine (cR (w2.alloc tree0).drew (HVW.out _ (below_al (Below.refl _ _) (Nat.le_refl _)).drew)).mono ?_; rintro e w7 ⟨v7, rfl, hi7, hb7⟩; obtain ⟨a7, c7, hv7⟩ := hi7.1.len; have hT7 : w7.heap[w2.heap.size]? = some tree0 := tree_kept (W := (w2.alloc tree0).drew) (tree_fresh w2) hb7; have hq8 : Below w2.heap.size w2 w7 := below_step (Nat.le_refl _) (below_al (Below.refl _ _) (Nat.le_refl _)).drew hb7; have hqq : w2.heap.size ≤ w2.heap.size := Nat.le_refl _; have hI8 := hi7; subst hv7; obtain ⟨⟨z0, z1⟩, y0, y1⟩ := two_cells hT7)
              | (go_at_call 20; refine (cR _ (HVW.out _ (Below.refl _ _).drew)).mono ?_; rintro e w7 ⟨v7, rfl, hi7, hb7⟩; obtain ⟨a7, c7, hv7⟩ := hi7.1.len; have hq7 : Below w2.heap.size w2 w7 := below_step (Nat.le_refl _) (Below.refl _ _).drew hb7; have hT7 : (w7.alloc tree0).heap[w7.heap.size]? = some tree0 := tree_fresh w7; have hq8 : Below w2.heap.size w2 (w7.alloc tree0) := below_al hq7 (Nat.le_refl _); have hqq : w2.heap.size ≤ w7.heap.size := hq7.size; have hI8 : ItmsT (w7.alloc tree0) v7 Q.1.1 := hi7.kept ((Below.refl _ _).alloc (Nat.le_refl _) _); have hI9 := fun x => hi7.kept ((Below.refl _ w7).alloc (Nat.le_refl _) x); subst hv7; obtain ⟨⟨z0, z1⟩, y0, y1⟩ := two_cells hT7))
            all_goals
              go_wp2
              go_meet
              first
                | exact ⟨_, _, rfl, rfl, rfl, (put_tree hT7 hI8).1, (put_tree hT7 hI8).2, hqq, below_two hq8 hqq⟩
                | exact ⟨_, _, rfl, rfl, rfl, heap_alloc_new _ _, hI9 _, hqq, below_al hq7 (Nat.le_refl _)⟩
          case rest =>
            obtain ⟨q, vq, h8, h9, h10, hq, hiq, hql, hbq⟩ := hcut
            subst h8
            subst h9
            subst h10
            obtain ⟨⟨L1, nx1⟩, mm, ff⟩ := Q
            simp only at hq hiq hqn HI2 HDF
            obtain ⟨aq, cq, rfl⟩ := hiq.1.len
            obtain ⟨nq, hnq⟩ : ∃ n, L1.length = n := ⟨_, rfl⟩
            have HNQ := Lib.hid hnq
            simp only [hnq] at hq hiq
            have hrq := (hbq.block r (lt_of_get HR2.out)).trans HR2.out
            have HI9 : Hid (T.Is ((wc.setCell ⟨r, 0, none⟩ (.slice aq nq cq)).setCell ⟨r, 1, none⟩ (.int .i64 nx1)) b L1 nx1 S2) := Lib.hid (T.set2 (T.below HI2.out hbq) hrq _ _)
            have HC9 : Hid (T.Is ((wc.setCell ⟨r, 0, none⟩ (.slice aq nq cq)).setCell ⟨r, 1, none⟩ (.int .i64 nx1)) b1 L nx S1) := Lib.hid (T.set2 (T.below HC2.out hbq) hrq _ _)
            have HR9 := Lib.hid (put_tree2 hrq hiq (nx8 := nx1)).1
            have HV9 := Lib.hid (put_tree2 hrq hiq (nx8 := nx1)).2
            have HB9 : Hid (Below w.heap.size w ((wc.setCell ⟨r, 0, none⟩ (.slice aq nq cq)).setCell ⟨r, 1, none⟩ (.int .i64 nx1))) := Lib.hid (below_two (HB2.out.trans (hbq.mono HB2.out.size)) hrw)
            obtain ⟨⟨r0, r1⟩, y0, y1⟩ := two_cells hrq
            obtain ⟨⟨q0, q1⟩, _⟩ := two_cells hq
            clear hnq hrq hq hiq hbq HR2 HV2' HB2 HI2 HC2 HSK cR HQ HOC hos hok
            go_upto_region 11 with fail
            generalize ((wc.setCell ⟨r, 0, none⟩ (.slice aq nq cq)).setCell ⟨r, 1, none⟩ (.int .i64 nx1)) = W9 at *
            clear r0 r1 y0 y1 q0 q1
            by_cases hff : ff = 0
            · subst hff
              go_wp2
              go_roundw
              case rel => exact ⟨i + 1, L1, nx1, S2, _, by omega, by first | rfl | go_num, HI9.out, HR9.out, HV9.out, HS2.out, by omega, HB9.out⟩
              case measure => simp [intOf]; omega
            · have hffb : (ff == 0) = false := beq_eq_false_iff_ne.2 hff
              have hun := HDF.out hff
              injection hun with hun1 hun2
              subst hun1
              subst hun2
              have cS := hSame HI9.out HC9.out
              go_wp2_with (go_at_call 27; refine cS.mono ?_; rintro e w10 ⟨rfl, hb10⟩; have HB10 := Lib.hid hb10; clear hb10)
              go_roundw
              case rel => exact ⟨i + 1, _, _, S2, _, by omega, by first | rfl | go_num, T.below HI9.out HB10.out, (HB10.out.block r (lt_of_get HR9.out)).trans HR9.out, HV9.out.kept HB10.out, HS2.out, by omega, HB9.out.trans (HB10.out.mono HB9.out.size)⟩
              case measure => simp [intOf]; omega
        · have hiz : ¬ (i : Int) < (m : Int) := by omega
          have cCl := hClone his
          have HLT : Hid (∀ k, S k → k < wr.heap.size) := Lib.hid (T.lt his)
          have HI0 := Lib.hid his
          have HR0 := Lib.hid hr
          have HV0 := Lib.hid hvr
          have HB0 := Lib.hid hb
          have hnx61 : nx ≤ 61 := by omega
          clear his hr hvr hb hS
          go_upto_region 14 with (go_at_call 26; refine cCl.mono ?_; rintro e w1 ⟨b1, S1, rfl, hi1, hs1, hb1⟩)
          have HI1 := Lib.hid (T.below HI0.out hb1)
          have HC1 := Lib.hid hi1
          have HR1 := Lib.hid ((hb1.block r (lt_of_get HR0.out)).trans HR0.out)
          have HV1 := Lib.hid (HV0.out.kept hb1)
          have HB1 := Lib.hid (HB0.out.trans (hb1.mono HB0.out.size))
          have HAP : Hid (∀ k, S k → ¬ S1 k) := Lib.hid (fun k hk hc => by have := hs1 k hc; have := HLT.out k hk; omega)
          have HS1 : Hid (∀ k, S1 k → w.heap.size ≤ k) := Lib.hid (fun k hk => Nat.le_trans HB0.out.size (hs1 k hk))
          clear hb1 hi1 hs1 cCl HI0 HR0 HV0 HB0 HLT
          go_wp2
          go_loopw [15] (fun iv wr => ∃ (j : Nat) (Lc : List Itm) (nc : Int) (Sc : Nat → Prop), j ≤ m2 ∧ iv = .int .i64 j ∧ T.Is wr b1 Lc nc Sc ∧ T.Is wr b L nx S ∧ (∀ k, S k → ¬ Sc k) ∧ wr.heap[r]? = some (.cells #[.slice ar nl cr, .int .i64 nx] 48 (0, 0)) ∧ ItmsT wr (.slice ar nl cr) L ∧ (∀ k, Sc k → w.heap.size ≤ k) ∧ nc ≤ 61 + j ∧ Below w.heap.size w wr) (fun iv _ => m2 - (intOf iv).toNat)
          case atStart => exact ⟨0, L, nx, S1, by omega, rfl, HC1.out, HI1.out, HAP.out, HR1.out, HV1.out, HS1.out, by omega, HB1.out⟩
          case round =>
            clear HC1 HI1 HAP HR1 HV1 HS1 HB1
            obtain ⟨j, Lc, nc, Sc, hj, rfl, hic, hit, hap, hr, hvr, hSc, hnc, hb⟩ := hrel
            by_cases hjm : j < m2
            · have hjz : (j : Int) < (m2 : Int) := by omega
              obtain ⟨o, ho⟩ : ∃ o, l2[j]? = some o := ⟨_, List.getElem?_eq_getElem (by rw [HM2.out]; omega)⟩
              obtain ⟨g, off, rfl, hg, hrg⟩ := HV2.out.at ho
              have hom := List.mem_of_getElem? ho
              have hoc : wr.cell? ⟨g, off + j * 7, none⟩ = some (.int .u8 o.k) ∧ wr.cell? ⟨g, off + j * 7 + 1, none⟩ = some (.int .i64 o.d) ∧ wr.cell? ⟨g, off + j * 7 + 2, none⟩ = some (.int .i64 o.dt) ∧ wr.cell? ⟨g, off + j * 7 + 3, none⟩ = some (.string o.s) ∧ wr.cell? ⟨g, off + j * 7 + 4, none⟩ = some (.string o.ns) ∧ wr.cell? ⟨g, off + j * 7 + 5, none⟩ = some (.bool o.isD) ∧ wr.cell? ⟨g, off + j * 7 + 6, none⟩ = some (.int .i64 o.sh) := by
                have h := rangeAt_below hrg hg hb
                exact ⟨h 0 _ rfl, h 1 _ rfl, h 2 _ rfl, h 3 _ rfl, h 4 _ rfl, h 5 _ rfl, h 6 _ rfl⟩
              have hos := HSZ2.out o hom
              have hok := HK2.out o hom
              have hqn := doI_next Lc nc o
              have cDo := lawDo10_c T o hic hos.1 hos.2 hok.1 hok.2 (by omega)
              unfold opV at cDo
              obtain ⟨Q, hQ⟩ : ∃ Q, doI Lc nc o = Q := ⟨_, rfl⟩
              rw [hQ] at hqn cDo
              obtain ⟨o0, o1, o2, o3, o4, o5, o6⟩ := hoc
              have HIC := Lib.hid hic
              have HIT := Lib.hid hit
              have HAP := Lib.hid hap
              have HRR := Lib.hid hr
              have HVR := Lib.hid hvr
              have HSC := Lib.hid hSc
              have HB := Lib.hid hb
              clear hQ hg hrg ho hom hic hit hap hr hvr hSc hb
              go_wp2_with (go_at_call 11; refine cDo.mono ?_; rintro e w2 ⟨S2, rfl, hi2, ht2⟩; have HI2 := Lib.hid hi2; have HT2 := Lib.hid ht2; clear hi2 ht2)
              go_roundw
              case rel =>
                have hlow := HT2.out.low HB.out.size HSC.out
                have hap2 := T.apart HIT.out HT2.out HAP.out
                exact ⟨j + 1, Q.1.1, Q.1.2, S2, by omega, by first | rfl | go_num, HI2.out, hap2.1, hap2.2, T.block HIC.out HT2.out HRR.out (by simp), T.items HIC.out HT2.out HVR.out, hlow.2, by omega, HB.out.trans hlow.1⟩
              case measure => simp [intOf]; omega
            · have hjz : ¬ (j : Int) < (m2 : Int) := by omega
              have cE := alike10_c T (.slice ar nl cr) hit hvr
              unfold treeV at cE
              obtain ⟨⟨r0, r1⟩, _⟩ := two_cells hr
              have HBQ := Lib.hid hb
              have HIT := Lib.hid hit
              clear hic hit hap hr hvr hSc hb
              go_wp2_with (first
                | (go_at_call 23; refine cE.mono ?_; rintro e w9 ⟨rfl, hb9⟩; have HB9 := Lib.hid hb9; clear hb9)
                | (go_at_call 26; refine (hClone (T.below HIT.out HB9.out)).mono ?_; rintro e w10 ⟨b2, S2, rfl, hi10, _, hb10⟩; have HB10 := Lib.hid hb10; have HI10 := Lib.hid hi10; clear hb10 hi10)
                | (go_at_call 27; refine (hSame (T.below (T.below HIT.out HB9.out) HB10.out) HI10.out).mono ?_; rintro e w11 ⟨rfl, hb11⟩; have HB11 := Lib.hid hb11; clear hb11))
              go_ret
              have hA := HBQ.out.trans (HB9.out.mono HBQ.out.size)
              have hB := hA.trans (HB10.out.mono hA.size)
              exact ⟨rfl, hB.trans (HB11.out.mono hB.size)⟩
end Go.Proofs.Ythaghhleidopeaa
