/-
  The tree's Link: the answer, and the tree behind it.
-/
import Derived.Test.YthaghhleidopeaaTrMath
namespace Go.Proofs.Ythaghhleidopeaa
open Go.RowKit Go.Sort
set_option linter.unusedVariables false

/-- A tree of the project, standing in S. -/
def TIs (w : World) (b : Nat) (l : List Itm) (nx : Int) (S : Nat → Prop) : Prop :=
  ∃ R u v ys, TM w b (kindN l) (entsN l) R u v ys nx ∧ outRow u ys = usedRow l ∧ GoodT l nx ∧ S = Foot b R v
theorem place_find {l : List Itm} {nx : Int} (h : GoodT l nx) {d : Nat} (hd : listE l (d : Int) = 0) (s : ByteArray) : ((findI l (d : Int) s).2 = 0 ∧ 0 ≤ placeI (entsN l d) s) ∨ ((findI l (d : Int) s).2 ≠ 0 ∧ placeI (entsN l d) s = -1) := by
  unfold findI listI
  rw [if_pos hd]
  rcases placeI_spec (entsN l d) s with ⟨h1, h2, _⟩ | ⟨i, x, h1, _, _, h2, _⟩
  · right
    unfold entsN at h2
    rw [h2]
    exact ⟨by simp only [if_pos hd]; decide, h1⟩
  · left
    unfold entsN at h2
    rw [h2]
    exact ⟨rfl, by rw [h1]; omega⟩
theorem freeGo_kind (l : List Itm) : ∀ k n, freeGo l k n ≠ 0 → kindI l (freeGo l k n : Int) = 0
  | 0, n, h => absurd rfl h
  | k + 1, n, h => by
    unfold freeGo at h ⊢
    split
    · assumption
    · rename_i h1
      rw [if_neg h1] at h
      exact freeGo_kind l k (n + 1) h
theorem freeN_kind (l : List Itm) (h : freeN l ≠ 0) : kindN l (freeN l) = 0 := freeGo_kind l 200 1 h
theorem badE_size {s : ByteArray} {sh : Int} (h : badE s sh = 0) : s.size ≤ 255 := by
  unfold badE at h
  split at h
  · rename_i hg
    unfold goodB at hg
    simp only [Bool.and_eq_true, decide_eq_true_eq] at hg
    exact hg.2.2.1
  · omega
section
variable {w : World} {b : Nat} {l : List Itm} {nx : Int} {R : Nat → Value} {u : Nat} {v : Value} {ys : List Int}
def LinkTPost (b : Nat) (r : (List Itm × Int) × Int × Int) (S : Nat → Prop) (w : World) (e : Ending) (w' : World) : Prop :=
  ∃ S', e = .returned (.tuple #[.int .i64 r.2.1, .int .i64 r.2.2]) ∧ TIs w' b r.1.1 r.1.2 S' ∧ Trod w w' S S'
set_option maxHeartbeats 8000000 in
set_option maxRecDepth 100000 in
theorem treeLink_c (h : TM w b (kindN l) (entsN l) R u v ys nx) (ho : outRow u ys = usedRow l) (hg : GoodT l nx) (d : Int) (s : ByteArray) (isD : Bool) (sh : Int) (hs : s.size ≤ 9223372036854775807) (hnx : nx + 1 ≤ 9223372036854775807) :
    Calls Try.prog 13 #[ptrV b, .int .i64 d, .string s, .bool isD, .int .i64 sh] w (LinkTPost b (linkI l nx d s isD sh) (Foot b R v) w) := by
  unfold LinkTPost
  have cA := admits_c h d s hs sh
  have HSAME : Hid (∀ W, Below w.heap.size w W → TIs W b l nx (Foot b R v) ∧ Trod w W (Foot b R v) (Foot b R v)) := Lib.hid (fun W hW => ⟨⟨R, u, v, ys, h.below hW, ho, hg, rfl⟩, Trod.of_below hW⟩)
  have HT := Lib.hid h
  have HG := Lib.hid hg
  have HOU := Lib.hid ho
  obtain ⟨Q, hQ⟩ : ∃ Q, linkI l nx d s isD sh = Q := ⟨_, rfl⟩
  rw [hQ]
  unfold linkI at hQ
  obtain ⟨r, hr⟩ : ∃ r, admitsI (kindN l) d s sh = r := ⟨_, rfl⟩
  rw [hr] at cA
  unfold admitsI at hr
  rw [hg.open'] at hr
  clear h hg ho
  by_cases hr0 : r = 0
  · subst hr0
    have hd : listE l d = 0 := by
      apply Classical.byContradiction
      intro hc
      rw [if_neg hc] at hr
      exact hc hr
    rw [if_pos hd] at hr
    obtain ⟨n, rfl, hn, hk2⟩ := HG.out.dir hd
    rw [if_neg (by simp [hd]), if_neg (by simp [hr])] at hQ
    have hel := HG.out.elen n
    rcases place_find HG.out hd s with ⟨hf, hp⟩ | ⟨hf, hp⟩
    · rw [if_pos hf] at hQ
      subst hQ
      have cP := fun W (hW : Below w.heap.size w W) => hasPlace_c (HT.out.below hW) hn (by omega) s
      have HP6 : hasPlaceI (entsN l n) s nx = 6 := if_pos hp
      rw [HP6] at cP
      clear hr hd hf hp HP6 hk2 hel
      go_enter Try.func13, Try.ntmps13
      go_wp2_with (first
        | (go_at_call 35; refine cA.mono ?_; rintro e w1 ⟨rfl, hb1⟩)
        | (go_at_call 36; refine (cP _ hb1).mono ?_; rintro e w2 ⟨rfl, hb2⟩))
      go_ret2
      obtain ⟨h1, h2⟩ := HSAME.out _ (hb1.trans (hb2.mono hb1.size))
      exact ⟨_, rfl, h1, h2⟩
    · rw [if_neg hf] at hQ
      have HP0 : hasPlaceI (entsN l n) s nx = 0 := by
        unfold hasPlaceI
        rw [hp, if_neg (by omega), if_neg (by have := HG.out.nx1; omega)]
      have cP := fun W (hW : Below w.heap.size w W) => hasPlace_c (HT.out.below hW) hn (by omega) s
      rw [HP0] at cP
      have hfr := used_free l
      rw [← HOU.out] at hfr
      by_cases hz : leastN 200 (outRow u ys) = 0
      · have hfz : freeN l = 0 := by rw [hz] at hfr; omega
        rw [if_pos hfz] at hQ
        subst hQ
        have cT := fun W (hW : Below w.heap.size w W) => (Emb.take_c W v.ownBlock 200 b v (outRow u ys) W (HT.out.below hW).poolIs).mono (R' := fun e w' => e = .returned (.tuple #[.int .i64 0, .bool false]) ∧ ∃ v', Emb.PoolIs W v.ownBlock 200 b w' v' (outRow u ys)) (fun e w' hh => by
          rcases hh with ⟨_, h1, h2⟩ | ⟨k, v', h1, _, h3, _⟩
          · exact ⟨h1, v, h2⟩
          · omega)
        clear hr hd hf hp HP0 hk2 hel hfr hz hfz
        go_enter Try.func13, Try.ntmps13
        go_wp2_with (first
          | (go_at_call 35; refine cA.mono ?_; rintro e w1 ⟨rfl, hb1⟩)
          | (go_at_call 36; refine (cP _ hb1).mono ?_; rintro e w2 ⟨rfl, hb2⟩; have HB2 := Lib.hid (hb1.trans (hb2.mono hb1.size)))
          | (go_at_call 37; refine (cT _ HB2.out).mono ?_; rintro e w3 ⟨rfl, v3, hp3⟩; have HP3 := Lib.hid hp3; clear hp3))
        go_ret2
        obtain ⟨u3, ys3, h1, h2, h3⟩ := (HT.out.below HB2.out).pool HP3.out
        exact ⟨_, rfl, ⟨R, u3, v3, ys3, h1, by rw [← h2]; exact HOU.out, HG.out, rfl⟩, (Trod.of_below HB2.out).trans h3⟩
      · obtain ⟨k, hk⟩ : ∃ k, leastN 200 (outRow u ys) = k := ⟨_, rfl⟩
        rw [hk] at hfr hz
        have hkle : k ≤ 200 := by rw [← hk]; exact leastN_le _ _
        have hfz : freeN l = k := by omega
        rw [if_neg (by rw [hfz]; omega), hfz] at hQ
        subst hQ
        have cT := fun W (hW : Below w.heap.size w W) => (Emb.take_c W v.ownBlock 200 b v (outRow u ys) W (HT.out.below hW).poolIs).mono (R' := fun e w' => e = .returned (.tuple #[.int .i64 (k : Int), .bool true]) ∧ ∃ v', Emb.PoolIs W v.ownBlock 200 b w' v' ((outRow u ys).set k true)) (fun e w' hh => by
          rcases hh with ⟨h0, _, _⟩ | ⟨k2, v', h1, _, h3, h4, h5⟩
          · omega
          · obtain rfl : k2 = k := h3.symm.trans hk
            exact ⟨h4, v', h5⟩)
        have hk0 : kindN l k = 0 := by
          have h5 := freeN_kind l (by rw [hfz]; omega)
          rw [hfz] at h5
          exact h5
        have HK0 := Lib.hid hk0
        have HGL : Hid (GoodT (putI l nx (n : Int) ⟨s, (k : Int), isD, 0, sh⟩) (nx + 1)) := Lib.hid (HG.out.link hd hr hf (by omega) hkle hk0)
        have HS255 : s.size ≤ 281474976710656 := by have := badE_size hr; omega
        have hnx0 : 0 ≤ nx := by have := HG.out.nx1; omega
        have HKN : Hid (kindN (putI l nx (n : Int) ⟨s, (k : Int), isD, 0, sh⟩) = upd (kindN l) k (kindOf isD)) := Lib.hid (kindN_snoc l (n : Int) ⟨s, (k : Int), isD, nx, sh⟩ rfl (by omega) hk0)
        have HEN : Hid (entsN (putI l nx (n : Int) ⟨s, (k : Int), isD, 0, sh⟩) = upd (entsN l) n (entsN l n ++ [⟨s, (k : Int), isD, nx, sh⟩])) := Lib.hid (entsN_snoc l n ⟨s, (k : Int), isD, nx, sh⟩)
        have HUS : Hid (usedRow (putI l nx (n : Int) ⟨s, (k : Int), isD, 0, sh⟩) = (usedRow l).set k true) := Lib.hid (usedRow_set hkle (decide_eq_true ⟨by omega, by rw [HKN.out, upd_same]; exact kindOf_ne _⟩) (fun m hm => by rw [HKN.out, upd_ne _ _ hm]))
        have HHN := Lib.hid hn
        have HHK := Lib.hid hkle
        clear hr hd hf hp HP0 hk2 hfr hz hfz hk hk0 hn hkle
        have HEL := Lib.hid hel
        clear hel
        go_enter Try.func13, Try.ntmps13
        go_upto_region 8 with (first
          | (go_at_call 35; refine cA.mono ?_; rintro e w1 ⟨rfl, hb1⟩)
          | (go_at_call 36; refine (cP _ hb1).mono ?_; rintro e w2 ⟨rfl, hb2⟩; have HB2 := Lib.hid (hb1.trans (hb2.mono hb1.size)))
          | (go_at_call 37; refine (cT _ HB2.out).mono ?_; rintro e w3 ⟨rfl, v3, hp3⟩; have HP3 := Lib.hid hp3; clear hp3))
        obtain ⟨u3, ys3, h1, h2, h3⟩ := (HT.out.below HB2.out).pool HP3.out
        have H2 := Lib.hid h2
        have H3 := Lib.hid ((Trod.of_below HB2.out).trans h3)
        have cAd := treeAdd_c h1 HHN.out (by have := HEL.out; omega) ⟨s, (k : Int), isD, 0, sh⟩ rfl HHK.out HS255 hnx0 hnx
        unfold PutPost entV at cAd
        clear h1 h2 h3 cA cP cT hb1
        go_wp2_with (go_at_call 38; refine cAd.mono ?_; rintro e w4 ⟨R4, rfl, hm4, ht4⟩; have HM4 := Lib.hid hm4; have HT4 := Lib.hid ht4; clear hm4 ht4)
        go_ret2
        refine ⟨_, rfl, ⟨R4, u3, v3, ys3, ?_, ?_, HGL.out, rfl⟩, H3.out.trans HT4.out⟩
        · show TM w4 b (kindN (putI l nx (n : Int) ⟨s, (k : Int), isD, 0, sh⟩)) (entsN (putI l nx (n : Int) ⟨s, (k : Int), isD, 0, sh⟩)) R4 u3 v3 ys3 (nx + 1)
          rw [HKN.out, HEN.out]
          exact HM4.out
        · show outRow u3 ys3 = usedRow (putI l nx (n : Int) ⟨s, (k : Int), isD, 0, sh⟩)
          rw [HUS.out, ← HOU.out]
          exact H2.out.symm
  · have hQ2 : Q = ((l, nx), 0, r) := by
      by_cases hd : listE l d = 0
      · rw [if_pos hd] at hr
        rw [← hQ, if_neg (by simp [hd]), if_pos (by rw [hr]; exact hr0), hr]
      · rw [if_neg hd] at hr
        rw [← hQ, if_pos hd, hr]
    subst hQ2
    have h0b : (r == 0) = false := beq_eq_false_iff_ne.2 hr0
    clear hr hQ hr0
    go_enter Try.func13, Try.ntmps13
    go_wp2_with (go_at_call 35; refine cA.mono ?_; rintro e w1 ⟨rfl, hb1⟩)
    go_ret2
    obtain ⟨h1, h2⟩ := HSAME.out _ hb1
    exact ⟨_, rfl, h1, h2⟩
end
end Go.Proofs.Ythaghhleidopeaa
