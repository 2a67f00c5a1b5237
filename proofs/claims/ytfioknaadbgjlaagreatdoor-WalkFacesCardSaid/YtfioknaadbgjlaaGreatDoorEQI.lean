/- Kit. -/
import Derived.StillTailTactics
import Derived.Test.YtfioknaadbgjlaaGreatDoorEQH
set_option maxRecDepth 100000
set_option linter.unusedVariables false
set_option linter.unusedSimpArgs false
namespace Go.Proofs.YtfioknaadbgjlaaGreatDoor
open Go.RowKit Go.Sort
theorem results_tmp_cell {fn : Func} {p u : Tmp} {ty : TypeId} (h : fn.results = #[.tmp u, .cell p ty]) (tmps : Array Value) (P : Program) (w : World) :
    (results fn tmps).run P w =
      ((asAddr (tmps.getD p undef)).run P w).andThen fun a w₁ => ((loadVar ty a).run P w₁).andThen fun v w₂ => .ok (.tuple #[tmps.getD u undef, v]) w₂ := by
  simp only [results, h]
  simp [Sem.run_bind, Result.andThen]
def MadePost (l : List OpT) (w : World) (e : Ending) (w' : World) : Prop :=
  ∃ b L nx S rv, e = .returned (.tuple #[ptrV b, treeV rv nx]) ∧ theTree.Is w' b L nx S ∧ ItmsT w' rv L ∧ (∀ k, S k → w.heap.size ≤ k) ∧ nx ≤ 1 + l.length ∧ Below w.heap.size w w'
set_option maxHeartbeats 8000000 in
set_option maxRecDepth 100000 in
theorem made_c (v : Value) (l : List OpT) (w : World) (hv : OpTs w v l) (hl : l.length ≤ 80) (hs : ∀ x ∈ l, x.s.size ≤ 9223372036854775807 ∧ x.ns.size ≤ 9223372036854775807) (hk : ∀ x ∈ l, 0 ≤ x.k ∧ x.k ≤ 255) :
    Calls Tryz.prog 7 #[v] w (MadePost l w) := by
  unfold MadePost
  obtain ⟨a, cap, rfl⟩ := hv.len
  obtain ⟨m, hm⟩ : ∃ n, l.length = n := ⟨_, rfl⟩
  have HM := Lib.hid hm
  have HSZ := Lib.hid hs
  have HK := Lib.hid hk
  rw [hm] at hl hv ⊢
  have HV := Lib.hid hv
  have cN := new10_c
  unfold treeV at cN
  have HZ0 : Hid ((w.alloc tree0).heap[w.heap.size]? = some tree0) := Lib.hid (heap_alloc_new _ _)
  have HB0 : Hid (Below w.heap.size w (w.alloc tree0)) := Lib.hid ((Below.refl _ w).alloc (Nat.le_refl _) _)
  unfold tree0 at HZ0 HB0
  clear hm hs hk hv
  go_enter Tryz.func7, Tryz.ntmps7
  go_upto_region 1 with fail
  generalize (w.alloc (.cells #[.slice none 0 0, .int .i64 0] 28)) = W0 at *
  obtain ⟨q0, hq0⟩ : ∃ q, w.heap.size = q := ⟨_, rfl⟩
  rw [hq0] at HZ0
  have HQ0 := Lib.hid hq0
  rw [hq0]
  clear hq0
  have hb1 := HB0.out
  go_upto_region 2 with (first
    | (go_at_call 16; refine (theTree.new _).mono ?_; rintro e w2 ⟨b, S, rfl, hi2, hs2, hb2⟩)
    | (go_at_call 17; refine (cN _).mono ?_; rintro e w3 ⟨rfl, hb3⟩))
  have hx3 : Below w.heap.size w w3 := hb1.trans ((hb2.mono hb1.size).trans (hb3.mono (Nat.le_trans hb1.size hb2.size)))
  have HX : Hid (Below w.heap.size w (w3.alloc (.cells #[.slice none 0 0, .int .i64 1] 28))) := Lib.hid (hx3.alloc hx3.size _)
  have HT0 : Hid (theTree.Is (w3.alloc (.cells #[.slice none 0 0, .int .i64 1] 28)) b [] 1 S) := Lib.hid (theTree.below (theTree.below hi2 hb3) ((Below.refl _ w3).alloc (Nat.le_refl _) _))
  have HR0 : Hid ((w3.alloc (.cells #[.slice none 0 0, .int .i64 1] 28)).heap[w3.heap.size]? = some (.cells #[.slice none 0 0, .int .i64 1] 28 (0, 0))) := Lib.hid (heap_alloc_new _ _)
  have HS0 : Hid (∀ k, S k → w.heap.size ≤ k) := Lib.hid (fun k hk => Nat.le_trans hb1.size (hs2 k hk))
  have HZ3 : Hid ((w3.alloc (.cells #[.slice none 0 0, .int .i64 1] 28)).heap[q0]? = some (.cells #[.slice none 0 0, .int .i64 0] 28 (0, 0))) := Lib.hid (by
    have k1 := (hb2.block q0 (lt_of_get HZ0.out)).trans HZ0.out
    have k2 := (hb3.block q0 (lt_of_get k1)).trans k1
    rw [Lib.alloc_old _ _ _ (lt_of_get k2)]
    exact k2)
  have hqr : q0 < w3.heap.size := by
    have k1 := (hb2.block q0 (lt_of_get HZ0.out)).trans HZ0.out
    exact lt_of_get ((hb3.block q0 (lt_of_get k1)).trans k1)
  generalize (w3.alloc (.cells #[.slice none 0 0, .int .i64 1] 28)) = W4 at *
  have hrw : w.heap.size ≤ w3.heap.size := hx3.size
  generalize w3.heap.size = r at *
  clear hx3 hb1 hb2 hb3 hi2 hs2 HB0 cN HZ0
  go_wp2
  go_loopw [6] (fun iv wr => ∃ (i : Nat) (L : List Itm) (nx : Int) (S : Nat → Prop) (vr : Value), i ≤ m ∧ iv = .int .i64 i ∧ theTree.Is wr b L nx S ∧ wr.heap[r]? = some (.cells #[vr, .int .i64 nx] 28 (0, 0)) ∧ ItmsT wr vr L ∧ (∀ k, S k → w.heap.size ≤ k) ∧ nx ≤ 1 + i ∧ Below w.heap.size w wr ∧ wr.heap[q0]? = some (.cells #[.slice none 0 0, .int .i64 0] 28 (0, 0))) (fun iv wr => m - (intOf iv).toNat)
  case atStart => exact ⟨0, [], 1, S, _, by omega, rfl, HT0.out, HR0.out, ItmsT.nil _, HS0.out, by omega, HX.out, HZ3.out⟩
  case round =>
      clear HT0 HR0 HS0 HX HZ3
      obtain ⟨i, L, nx, S, vr, hi, rfl, his, hr, hvr, hS, hnx, hb, hz⟩ := hrel
      obtain ⟨ar, cr, rfl⟩ := hvr.1.len
      have hLl := theTree.len his
      have hn1 := theTree.next his
      obtain ⟨nl, hnl⟩ : ∃ n, L.length = n := ⟨_, rfl⟩
      have HNL := Lib.hid hnl
      rw [hnl] at hLl
      simp only [hnl] at hr hvr
      clear hnl
      by_cases him : i < m
      · have hiz : (i : Int) < (m : Int) := by omega
        obtain ⟨o, ho⟩ : ∃ o, l[i]? = some o := ⟨_, List.getElem?_eq_getElem (by rw [HM.out]; omega)⟩
        obtain ⟨g, off, rfl, hg, hrg⟩ := HV.out.at ho
        have hom := List.mem_of_getElem? ho
        have HOC : Hid (∀ W, Below w.heap.size w W → W.cell? ⟨g, off + i * 7, none⟩ = some (.int .u8 o.k) ∧ W.cell? ⟨g, off + i * 7 + 1, none⟩ = some (.int .i64 o.d) ∧ W.cell? ⟨g, off + i * 7 + 2, none⟩ = some (.int .i64 o.dt) ∧ W.cell? ⟨g, off + i * 7 + 3, none⟩ = some (.string o.s) ∧ W.cell? ⟨g, off + i * 7 + 4, none⟩ = some (.string o.ns) ∧ W.cell? ⟨g, off + i * 7 + 5, none⟩ = some (.bool o.isD) ∧ W.cell? ⟨g, off + i * 7 + 6, none⟩ = some (.int .i64 o.sh)) := Lib.hid (fun W hW => by
          have h := rangeAt_below hrg hg hW
          exact ⟨h 0 _ rfl, h 1 _ rfl, h 2 _ rfl, h 3 _ rfl, h 4 _ rfl, h 5 _ rfl, h 6 _ rfl⟩)
        have hos := HSZ.out o hom
        have hok := HK.out o hom
        obtain ⟨Q, hQ⟩ : ∃ Q, doI L nx o = Q := ⟨_, rfl⟩
        have HQ := Lib.hid hQ
        have hqn := doI_next L nx o
        rw [hQ] at hqn
        have cDo := lawDo10_c theTree o his hos.1 hos.2 hok.1 hok.2 (by omega)
        rw [hQ] at cDo
        unfold opV at cDo
        obtain ⟨o0, o1, o2, o3, o4, o5, o6⟩ := HOC.out wr hb
        clear hQ hg hrg ho hom
        go_upto_region 6 with (go_at_call 18; refine cDo.mono ?_; rintro e w2 ⟨S2, rfl, hi2, ht2⟩)
        have hr2 := theTree.block his ht2 hr (by simp)
        have hz2 := theTree.block his ht2 hz (by simp)
        have hv2 := theTree.items his ht2 hvr
        have hlow := ht2.low hb.size hS
        have hb2 := hb.trans hlow.1
        have HI2 := Lib.hid hi2
        have HR2 := Lib.hid hr2
        have HZ2 := Lib.hid hz2
        have HV2 := Lib.hid hv2
        have HB2 := Lib.hid hb2
        have HS2 := Lib.hid hlow.2
        clear his hr hz hvr hS hb cDo o0 o1 o2 o3 o4 o5 o6 hi2 ht2 hr2 hz2 hv2 hlow hb2
        have HSK : Hid (∀ W, Below w2.heap.size w2 W → Below w2.heap.size w2 W ∧ W.cell? ⟨r, 0, none⟩ = some (.slice ar nl cr) ∧ W.cell? ⟨r, 1, none⟩ = some (.int .i64 (nx)) ∧ W.cell? ⟨g, off + i * 7, none⟩ = some (.int .u8 o.k) ∧ W.cell? ⟨g, off + i * 7 + 1, none⟩ = some (.int .i64 o.d) ∧ W.cell? ⟨g, off + i * 7 + 2, none⟩ = some (.int .i64 o.dt) ∧ W.cell? ⟨g, off + i * 7 + 3, none⟩ = some (.string o.s) ∧ W.cell? ⟨g, off + i * 7 + 4, none⟩ = some (.string o.ns) ∧ W.cell? ⟨g, off + i * 7 + 5, none⟩ = some (.bool o.isD) ∧ W.cell? ⟨g, off + i * 7 + 6, none⟩ = some (.int .i64 o.sh)) := Lib.hid (fun W hW => by
          have h := (two_cells ((hW.block r (lt_of_get HR2.out)).trans HR2.out)).1
          exact ⟨hW, h.1, h.2, HOC.out W (HB2.out.trans (hW.mono HB2.out.size))⟩)
        have cR := fun W (h : ItmsT W (.slice ar nl cr) L) => do10_c (.slice ar nl cr) L nx o W h (by rw [HNL.out]; omega) hos.1 hos.2 hok.1 hok.2 (by omega) (by omega)
        rw [HQ.out] at cR
        unfold LinkPost treeV opV at cR
        go_cut [7, 8, 9] from 24 to 34 (fun v8 v9 v10 wx => ∃ (q : Nat) (vq : Value), v8 = .pointer (some ⟨q, 0, none⟩) ∧ v9 = .int .i64 Q.2.1 ∧ v10 = .int .i64 Q.2.2 ∧ wx.heap[q]? = some (.cells #[vq, .int .i64 Q.1.2] 28 (0, 0)) ∧ ItmsT wx vq Q.1.1 ∧ w2.heap.size ≤ q ∧ Below w2.heap.size w2 wx)
        case first =>
            have hs0 := HSK.out w2.drew (Below.refl _ _).drew
            have HVW : Hid (∀ W, Below w2.heap.size w2 W → ItmsT W (.slice ar nl cr) L) := Lib.hid (fun W hW => HV2.out.kept hW)
            go_region_held3 (fun W => Below w2.heap.size w2 W ∧ W.cell? ⟨r, 0, none⟩ = some (.slice ar nl cr) ∧ W.cell? ⟨r, 1, none⟩ = some (.int .i64 (nx)) ∧ W.cell? ⟨g, off + i * 7, none⟩ = some (.int .u8 o.k) ∧ W.cell? ⟨g, off + i * 7 + 1, none⟩ = some (.int .i64 o.d) ∧ W.cell? ⟨g, off + i * 7 + 2, none⟩ = some (.int .i64 o.dt) ∧ W.cell? ⟨g, off + i * 7 + 3, none⟩ = some (.string o.s) ∧ W.cell? ⟨g, off + i * 7 + 4, none⟩ = some (.string o.ns) ∧ W.cell? ⟨g, off + i * 7 + 5, none⟩ = some (.bool o.isD) ∧ W.cell? ⟨g, off + i * 7 + 6, none⟩ = some (.int .i64 o.sh)) (first | assumption | (refine HSK.out _ ?_; first | assumption | exact (Below.refl _ _).drew | exact (below_al (Below.refl _ _) (Nat.le_refl _)).drew | exact Below.drew ‹_› | exact below_al ‹_› (Nat.le_refl _) | exact below_two hq8 hqq)) (first
              | (go_at_call 19; refine (cR (w2.alloc tree0).drew (HVW.out _ (below_al (Below.refl _ _) (Nat.le_refl _)).drew)).mono ?_; rintro e w7 ⟨v7, rfl, hi7, hb7⟩; obtain ⟨a7, c7, hv7⟩ := hi7.1.len; have hT7 : w7.heap[w2.heap.size]? = some tree0 := tree_kept (W := (w2.alloc tree0).drew) (tree_fresh w2) hb7; have hq8 : Below w2.heap.size w2 w7 := below_step (Nat.le_refl _) (below_al (Below.refl _ _) (Nat.le_refl _)).drew hb7; have hqq : w2.heap.size ≤ w2.heap.size := Nat.le_refl _; have hI8 := hi7; subst hv7; obtain ⟨⟨z0, z1⟩, y0, y1⟩ := two_cells hT7)
              | (go_at_call 19; refine (cR _ (HVW.out _ (Below.refl _ _).drew)).mono ?_; rintro e w7 ⟨v7, rfl, hi7, hb7⟩; obtain ⟨a7, c7, hv7⟩ := hi7.1.len; have hq7 : Below w2.heap.size w2 w7 := below_step (Nat.le_refl _) (Below.refl _ _).drew hb7; have hT7 : (w7.alloc tree0).heap[w7.heap.size]? = some tree0 := tree_fresh w7; have hq8 : Below w2.heap.size w2 (w7.alloc tree0) := below_al hq7 (Nat.le_refl _); have hqq : w2.heap.size ≤ w7.heap.size := hq7.size; have hI8 : ItmsT (w7.alloc tree0) v7 Q.1.1 := hi7.kept ((Below.refl _ _).alloc (Nat.le_refl _) _); have hI9 := fun x => hi7.kept ((Below.refl _ w7).alloc (Nat.le_refl _) x); subst hv7; obtain ⟨⟨z0, z1⟩, y0, y1⟩ := two_cells hT7))
            all_goals
              go_wp2
              go_meet
              first
                | exact ⟨_, _, rfl, rfl, rfl, (put_tree hT7 hI8).1, (put_tree hT7 hI8).2, hqq, below_two hq8 hqq⟩
                | exact ⟨_, _, rfl, rfl, rfl, heap_alloc_new _ _, hI9 _, hqq, below_al hq7 (Nat.le_refl _)⟩
        case rest =>
          obtain ⟨q, vq, h8, h9, h10, hq, hiq, hql, hbq⟩ := hcut
          subst h8
          subst h9
          subst h10
          obtain ⟨⟨L1, nx1⟩, mm, ff⟩ := Q
          simp only at hq hiq hqn HI2
          obtain ⟨aq, cq, rfl⟩ := hiq.1.len
          obtain ⟨nq, hnq⟩ : ∃ n, L1.length = n := ⟨_, rfl⟩
          have hnq1 := theTree.len HI2.out
          rw [hnq] at hnq1
          simp only [hnq] at hq hiq
          have hrq := (hbq.block r (lt_of_get HR2.out)).trans HR2.out
          have hzq := (hbq.block q0 (lt_of_get HZ2.out)).trans HZ2.out
          have hiw := theTree.below HI2.out hbq
          have HI9 : Hid (theTree.Is ((wc.setCell ⟨r, 0, none⟩ (.slice aq nq cq)).setCell ⟨r, 1, none⟩ (.int .i64 nx1)) b L1 nx1 S2) := Lib.hid (theTree.set2 hiw hrq _ _)
          have HR9 := Lib.hid (put_tree2 hrq hiq (nx8 := nx1)).1
          have HV9 := Lib.hid (put_tree2 hrq hiq (nx8 := nx1)).2
          have HB9 : Hid (Below w.heap.size w ((wc.setCell ⟨r, 0, none⟩ (.slice aq nq cq)).setCell ⟨r, 1, none⟩ (.int .i64 nx1))) := Lib.hid (below_two (HB2.out.trans (hbq.mono HB2.out.size)) hrw)
          have HZ9 : Hid (((wc.setCell ⟨r, 0, none⟩ (.slice aq nq cq)).setCell ⟨r, 1, none⟩ (.int .i64 nx1)).heap[q0]? = some (.cells #[.slice none 0 0, .int .i64 0] 28 (0, 0))) := Lib.hid (by
            rw [Below.heap_setCell _ _ _ _ (show q0 ≠ r by omega), Below.heap_setCell _ _ _ _ (show q0 ≠ r by omega)]
            exact hzq)
          obtain ⟨⟨r0, r1⟩, y0, y1⟩ := two_cells hrq
          obtain ⟨⟨p0, p1⟩, _⟩ := two_cells hq
          clear hnq hrq hzq hiw hq hiq hbq HR2 HV2 HB2 HI2 HZ2 HSK cR HQ
          go_wp2
          go_roundw
          case rel => exact ⟨i + 1, L1, nx1, S2, _, by omega, by first | rfl | go_num, HI9.out, HR9.out, HV9.out, HS2.out, by omega, HB9.out, HZ9.out⟩
          case measure => simp [intOf]; omega
      · have hiz : ¬ (i : Int) < (m : Int) := by omega
        obtain rfl : i = m := by omega
        have HI9 := Lib.hid his
        have HR9 := Lib.hid hr
        have HV9 := Lib.hid hvr
        have HS9 := Lib.hid hS
        have HB9 := Lib.hid hb
        have HZ9 := Lib.hid hz
        obtain ⟨⟨r0, r1⟩, _⟩ := two_cells hr
        clear his hr hvr hS hb hz
        go_upto_region 8 with fail
        go_still_tail 3, (by kernel_rfl)
        change wpList _ _ _ _ _ wr.drew
        have HD : Hid (Below wr.heap.size wr wr.drew) := Lib.hid (Below.refl _ _).drew
        have HI10 := Lib.hid (theTree.below HI9.out HD.out)
        have HV10 := Lib.hid (HV9.out.kept HD.out)
        have HB10 : Hid (Below w.heap.size w wr.drew) := Lib.hid (Below.drew HB9.out)
        have HZ10 : Hid (wr.drew.heap[q0]? = some (.cells #[.slice none 0 0, .int .i64 0] 28 (0, 0))) := Lib.hid HZ9.out
        have HR10 : Hid (wr.drew.heap[r]? = some (.cells #[.slice ar nl cr, .int .i64 nx] 28 (0, 0))) := Lib.hid HR9.out
        clear r0 r1 HD HI9 HV9 HB9 HZ9 HR9
        generalize wr.drew = w9 at *
        obtain ⟨⟨r0, r1⟩, _⟩ := two_cells HR10.out
        obtain ⟨⟨z0, z1⟩, y0, y1⟩ := two_cells HZ10.out
        go_wp2_with fail
        (try simp only [Exit.inBlock, Exit.then])
        have hp := put_tree2 HZ10.out HV10.out (nx8 := nx)
        have HP1 := Lib.hid hp.1
        have HP2 := Lib.hid hp.2
        have HI11 : Hid (theTree.Is ((w9.setCell ⟨q0, 0, none⟩ (.slice ar nl cr)).setCell ⟨q0, 1, none⟩ (.int .i64 nx)) b L nx S) := Lib.hid (theTree.set2 HI10.out HZ10.out _ _)
        have HB11 : Hid (Below w.heap.size w ((w9.setCell ⟨q0, 0, none⟩ (.slice ar nl cr)).setCell ⟨q0, 1, none⟩ (.int .i64 nx))) := Lib.hid (below_two HB10.out (by rw [HQ0.out]; exact Nat.le_refl _))
        clear hp
        generalize ((w9.setCell ⟨q0, 0, none⟩ (.slice ar nl cr)).setCell ⟨q0, 1, none⟩ (.int .i64 nx)) = W9 at *
        refine bodyPost_ret (v := .tuple #[ptrV b, treeV (.slice ar nl cr) nx]) ?_ rfl ⟨b, L, nx, S, _, rfl, HI11.out, HP2.out, HS9.out, by omega, HB11.out⟩
        rw [results_tmp_cell rfl]
        obtain ⟨⟨z0, z1⟩, _⟩ := two_cells HP1.out
        unfold treeV
        go_simp
end Go.Proofs.YtfioknaadbgjlaaGreatDoor
