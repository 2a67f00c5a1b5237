/-
  The law's Alike, of a project's tree and a reference's that have the same entries.
-/
import Derived.Test.YtddobjhahohhhaaGreatQH
namespace Go.Proofs.YtddobjhahohhhaaGreat
open Go.RowKit Go.Sort
set_option linter.unusedVariables false

set_option maxHeartbeats 8000000 in
set_option maxRecDepth 100000 in
theorem alike2_c (T : TreeC) {w : World} {b : Nat} {A l : List Itm} {nx : Int} {S : Nat → Prop} (v : Value) (h : T.Is w b A nx S) (hv : ItmsT w v l) (tD : dirsI A = dirsI l) (tL : ∀ q, listE A q = listE l q ∧ listI A q = listI l q) (tN : A.length = l.length) :
    Calls Tryz.prog 12 #[ptrV b, treeV v nx] w fun e w' => e = .returned (.bool true) ∧ Below w.heap.size w w' := by
  have hlen : l.length ≤ 200 := by rw [← tN]; exact T.len h
  have TD : Hid (∀ W, T.Is W b A nx S → Calls Tryz.prog 19 #[ptrV b] W fun e w' => ∃ v, e = .returned v ∧ NumsL w' v (dirsI l) ∧ (∀ g, v.ownBlock = some g → W.heap.size ≤ g) ∧ Below W.heap.size W w') := Lib.hid fun W hW => by
    rw [← tD]
    exact T.dirs hW
  have TN : Hid (∀ W, T.Is W b A nx S → Calls Tryz.prog 33 #[ptrV b] W fun e w' => e = .returned (.int .i64 (l.length : Int)) ∧ Below W.heap.size W w') := Lib.hid fun W hW => by
    rw [← tN]
    exact T.nodes hW
  have TL : Hid (∀ q W, T.Is W b A nx S → Calls Tryz.prog 20 #[ptrV b, .int .i64 q] W fun e w' => ∃ v, e = .returned (.tuple #[v, .int .i64 (listE l q)]) ∧ EntsIs w' v (listI l q) ∧ (∀ g, v.ownBlock = some g → W.heap.size ≤ g) ∧ Below W.heap.size W w') := Lib.hid fun q W hW => by
    rw [← (tL q).1, ← (tL q).2]
    exact T.list q hW
  clear tD tL tN
  obtain ⟨a, cap, rfl⟩ := hv.1.len
  obtain ⟨m, hm⟩ : ∃ m, l.length = m := ⟨_, rfl⟩
  have HM := Lib.hid hm
  rw [hm] at hlen hv ⊢
  have hb0 : Below w.heap.size w (w.alloc (.cells #[.slice a m cap, .int .i64 nx] 28)) := (Below.refl _ w).alloc (Nat.le_refl _) _
  have HB0 := Lib.hid hb0
  have HI0 := Lib.hid (T.below h hb0)
  have HV0 := Lib.hid (hv.kept hb0)
  have HO : Hid ((w.alloc (.cells #[.slice a m cap, .int .i64 nx] 28)).heap[w.heap.size]? = some (.cells #[.slice a m cap, .int .i64 nx] 28 (0, 0))) := Lib.hid (heap_alloc_new _ _)
  unfold treeV
  clear h hv hm hb0
  go_enter Tryz.func12, Tryz.ntmps12
  go_upto_region 1 with fail
  generalize (w.alloc (.cells #[.slice a m cap, .int .i64 nx] 28)) = W0 at *
  generalize hbx : w.heap.size = bx at *
  have HBX := Lib.hid hbx
  have hlt : bx + 1 ≤ W0.heap.size := lt_of_get HO.out
  have HIW : Hid (∀ W, Below W0.heap.size W0 W → T.Is W b A nx S) := Lib.hid (fun W hW => T.below HI0.out hW)
  have HVW : Hid (∀ W, Below W0.heap.size W0 W → ItmsT W (.slice a m cap) l) := Lib.hid (fun W hW => HV0.out.kept hW)
  have HSK : Hid (∀ W, Below W0.heap.size W0 W → Below W0.heap.size W0 W ∧ W.cell? ⟨bx, 0, none⟩ = some (.slice a m cap) ∧ W.cell? ⟨bx, 1, none⟩ = some (.int .i64 nx)) := Lib.hid (fun W hW => ⟨hW, (two_cells ((hW.block bx (by omega)).trans HO.out)).1⟩)
  have cD := fun W (h : ItmsT W (.slice a m cap) l) => dirs10_c (.slice a m cap) l nx W h (by rw [HM.out]; omega)
  have cL := fun n W (h : ItmsT W (.slice a m cap) l) => list10_c (.slice a m cap) l nx n W h.1 (by rw [HM.out]; omega)
  unfold DirsPost treeV at cD
  unfold ListPost treeV at cL
  obtain ⟨D, hD⟩ : ∃ D, (dirsI l).length = D := ⟨_, rfl⟩
  have HD := Lib.hid hD
  have hD1 : D ≤ 201 := by rw [← hD]; exact dirsTo_le l 201
  clear hbx hD
  go_cut [5, 6] from 12 to 15 (fun v5 v6 wx => ∃ a5 c5 a6 c6, v5 = .slice a5 D c5 ∧ v6 = .slice a6 D c6 ∧ NumsL wx (.slice a5 D c5) (dirsI l) ∧ NumsL wx (.slice a6 D c6) (dirsI l) ∧ Below W0.heap.size W0 wx)
  case first =>
    have hs0 := HSK.out W0.drew (Below.refl _ _).drew
    go_region_held3 (fun W => Below W0.heap.size W0 W ∧ W.cell? ⟨bx, 0, none⟩ = some (.slice a m cap) ∧ W.cell? ⟨bx, 1, none⟩ = some (.int .i64 nx)) (first | assumption | (refine HSK.out _ ?_; first | assumption | exact (Below.refl _ _).drew | exact Below.drew ‹_›)) (first
      | (go_at_call 19; refine (TD.out _ (HIW.out _ (by first | assumption | exact (Below.refl _ _).drew))).mono ?_; rintro e w1 ⟨v1, rfl, hn1, _, hb1⟩; have hq1 : Below W0.heap.size W0 w1 := below_step (Nat.le_refl _) (by first | assumption | exact (Below.refl _ _).drew) hb1; obtain ⟨a1, c1, hv1⟩ := hn1.len; subst hv1; have hk1 := fun W (h : Below w1.heap.size w1 W) => LstIs.kept hn1 h; rw [HD.out])
      | (go_at_call 30; refine (cD _ (HVW.out _ (by first | assumption | exact (Below.refl _ _).drew))).mono ?_; rintro e w2 ⟨v2, rfl, hn2, hb2⟩; have hq2 : Below W0.heap.size W0 w2 := below_step (Nat.le_refl _) (by first | assumption | exact (Below.refl _ _).drew) hb2; obtain ⟨a2, c2, hv2⟩ := hn2.len; subst hv2; have hk2 := fun W (h : Below w2.heap.size w2 W) => LstIs.kept hn2 h; rw [HD.out]))
    all_goals
      rw [HD.out] at hn1 hn2
      go_wp2
      go_meet
      first
        | exact ⟨_, _, _, _, rfl, rfl, LstIs.kept hn1 hb2, hn2, hq2⟩
        | exact ⟨_, _, _, _, rfl, rfl, hn1, LstIs.kept hn2 hb1, hq1⟩
  case rest =>
    obtain ⟨W2, hW2⟩ : ∃ W, W = wc := ⟨_, rfl⟩
    subst hW2
    obtain ⟨a5, c5, a6, c6, h5, h6, hn5, hn6, hb2⟩ := hcut
    subst h5
    subst h6
    have HN5 := Lib.hid hn5
    have HN6 := Lib.hid hn6
    have HB2 := Lib.hid hb2
    have hs2 := HSK.out W2 hb2
    clear hn5 hn6
    go_upto_region 2 with fail
    go_cut [35] from 16 to 35 (fun c wx => c = .bool false ∧ Below W2.heap.size W2 wx)
    case first =>
      have hs3 := HSK.out W2.drew hb2.drew
      have hr2 : Below W2.heap.size W2 W2.drew := (Below.refl _ _).drew
      have HSL : Hid (W0.heap.size ≤ W2.heap.size) := Lib.hid hb2.size
      go_region_held3 (fun W => Below W0.heap.size W0 W ∧ W.cell? ⟨bx, 0, none⟩ = some (.slice a m cap) ∧ W.cell? ⟨bx, 1, none⟩ = some (.int .i64 nx)) (first | assumption | (refine HSK.out _ ?_; first | assumption | exact hb2.drew | exact Below.drew ‹_›)) (first
        | (go_at_call 18; refine (T.cookie (HIW.out _ (by first | assumption | exact hb2.drew))).mono ?_; rintro e w1 ⟨rfl, hb1⟩; have hq1 : Below W2.heap.size W2 w1 := below_step (Nat.le_refl _) (by assumption) hb1; have hz1 : Below W0.heap.size W0 w1 := hb2.trans (hq1.mono HSL.out))
        | (go_at_call 33; refine (TN.out _ (HIW.out _ (by first | assumption | exact hb2.drew))).mono ?_; rintro e w3 ⟨rfl, hb3⟩; have hq3 : Below W2.heap.size W2 w3 := below_step (Nat.le_refl _) (by assumption) hb3; have hz3 : Below W0.heap.size W0 w3 := hb2.trans (hq3.mono HSL.out); rw [HM.out]))
      all_goals
        go_wp2
        go_meet
        exact ⟨rfl, by assumption⟩
    case rest =>
      obtain ⟨W3, hW3⟩ : ∃ W, W = wc := ⟨_, rfl⟩
      subst hW3
      obtain ⟨h35, hb3⟩ := hcut
      subst h35
      go_wp2
      go_loopw [7] (fun iv wr => ∃ i : Nat, i ≤ D ∧ iv = .int .i64 i ∧ Below W2.heap.size W2 wr) (fun iv _ => D - (intOf iv).toNat)
      case atStart => exact ⟨0, by omega, rfl, hb3⟩
      case round =>
        obtain ⟨i, hi, rfl, hb⟩ := hrel
        clear hb3 hs2
        have HB := Lib.hid hb
        have hbw : Below W0.heap.size W0 wr := hb2.trans (hb.mono hb2.size)
        have HBW := Lib.hid hbw
        by_cases hin : i < D
        · have hiz : (i : Int) < (D : Int) := by omega
          obtain ⟨q, hq⟩ : ∃ x, (dirsI l)[i]? = some x := ⟨_, List.getElem?_eq_getElem (by rw [HD.out]; omega)⟩
          obtain ⟨g5, o5, rfl, hg5, hr5⟩ := HN5.out.at hq
          obtain ⟨g6, o6, rfl, hg6, hr6⟩ := HN6.out.at hq
          have HC : Hid (∀ W, Below W2.heap.size W2 W → W.cell? ⟨g5, o5 + i, none⟩ = some (.int .i64 q) ∧ W.cell? ⟨g6, o6 + i, none⟩ = some (.int .i64 q)) := Lib.hid (fun W hW => by
            have h1 := num_at (rangeAt_below hr5 hg5 hW)
            have h2 := num_at (rangeAt_below hr6 hg6 hW)
            rw [Nat.mul_one] at h1 h2
            exact ⟨h1, h2⟩)
          obtain ⟨p1, p2⟩ := HC.out wr hb
          obtain ⟨n, hn⟩ : ∃ n, (listI l q).length = n := ⟨_, rfl⟩
          have HNN := Lib.hid hn
          have hn1 : n ≤ 200 := by have := listI_le l q; have := HM.out; omega
          have cT := TL.out q _ (HIW.out wr hbw)
          have HSC : Hid (∀ W, Below W2.heap.size W2 W → Below W2.heap.size W2 W ∧ W.cell? ⟨bx, 0, none⟩ = some (.slice a m cap) ∧ W.cell? ⟨bx, 1, none⟩ = some (.int .i64 nx) ∧ W.cell? ⟨g6, o6 + i, none⟩ = some (.int .i64 q)) := Lib.hid (fun W hW => ⟨hW, (HSK.out W (hb2.trans (hW.mono hb2.size))).2.1, (HSK.out W (hb2.trans (hW.mono hb2.size))).2.2, (HC.out W hW).2⟩)
          have HB2' : Hid (∀ W, Below W2.heap.size W2 W → Below W0.heap.size W0 W) := Lib.hid (fun W hW => hb2.trans (hW.mono hb2.size))
          clear hr5 hr6 hg5 hg6 hq hn hb2 hbw
          go_upto_region 8 with (go_at_call 20; refine cT.mono ?_; rintro e w4 ⟨v4, rfl, he4, _, hb4⟩; have hq4 : Below W2.heap.size W2 w4 := below_step (Nat.le_refl _) hb hb4; obtain ⟨a4, c4, hv4⟩ := he4.len; subst hv4; rw [HNN.out] at he4; have HE4 := Lib.hid he4; rw [HNN.out]; clear he4 hb4 hb p1 p2)
          obtain ⟨s0, s1, s2, s3⟩ := HSC.out w4.drew hq4.drew
          go_region_held3 (fun W => Below W2.heap.size W2 W ∧ W.cell? ⟨bx, 0, none⟩ = some (.slice a m cap) ∧ W.cell? ⟨bx, 1, none⟩ = some (.int .i64 nx) ∧ W.cell? ⟨g6, o6 + i, none⟩ = some (.int .i64 q)) (first | assumption | (refine HSC.out _ ?_; first | assumption | exact hq4.drew | exact Below.drew ‹_›)) ((go_at_call 31; refine (cL q _ (HVW.out _ (HB2'.out _ hq4.drew))).mono ?_; rintro e w5 ⟨v5, rfl, he5, hb5⟩; have hq5 : Below W2.heap.size W2 w5 := below_step (Nat.le_refl _) hq4.drew hb5; obtain ⟨a5', c5', hv5⟩ := he5.len; subst hv5; rw [HNN.out] at he5; rw [HNN.out]))
          all_goals
            have HE5 := Lib.hid he5
            have HE4b : Hid (EntsIs w5 (.slice a4 n c4) (listI l q)) := Lib.hid (LstIs.kept (w := w4.drew) (LstIs.kept HE4.out (Below.refl _ _).drew) hb5)
            have cS : ∀ p, Calls Tryz.prog 34 #[.slice a4 n c4, .slice a5' n c5'] (w5.drewN p) fun e w' => e = .returned (.bool true) ∧ ∃ q, w' = (w5.drewN p).drewN q := fun p => by
              have h := same10_c (.slice a4 n c4) (.slice a5' n c5') (listI l q) (listI l q) (w5.drewN p) (LstIs.kept HE4b.out (below_drewN1 (Below.refl _ _) p)) (LstIs.kept HE5.out (below_drewN1 (Below.refl _ _) p)) (by rw [HNN.out]; omega) (by rw [HNN.out]; omega)
              rw [decide_eq_true rfl] at h
              exact h
            obtain ⟨p1, p2⟩ := HC.out w5 hq5
            have HQ5 := Lib.hid hq5
            clear he5 hb5 hq5 hq4 s0 s1 s2 s3
            go_wp2
            go_quiet ((go_at_call 34; exact Calls.quiet_of (cS _)))
            go_wp2
            go_roundw
            case rel => exact ⟨i + 1, by omega, by first | rfl | go_num, below_drewN1 HQ5.out _⟩
            case measure => simp [intOf]; omega
        · have hiz : ¬ (i : Int) < (D : Int) := by omega
          go_wp2
          go_ret
          exact ⟨rfl, by rw [HBX.out]; exact HB0.out.trans (HBW.out.mono (by omega))⟩
end Go.Proofs.YtddobjhahohhhaaGreat
