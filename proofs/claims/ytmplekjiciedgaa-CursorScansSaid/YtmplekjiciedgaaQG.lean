/-
  The tree's Link: the answer, and the tree behind it.
  The tree's Unlink.
  The tree's Move.
-/
import Derived.Test.YtmplekjiciedgaaQF
namespace Go.Proofs.Ytmplekjiciedgaa
open Go.RowKit Go.Sort
set_option linter.unusedVariables false

/-- A tree of the project, standing in S. -/
def TIs (w : World) (b : Nat) (l : List Itm) (nx : Int) (S : Nat → Prop) : Prop :=
  ∃ R u v ys, TM w b (kindN l) (entsN l) R u v ys nx ∧ outRow u ys = usedRow l ∧ GoodT l nx ∧ S = Foot b R v
theorem place_find {l : List Itm} {nx : Int} (h : GoodT l nx) {d : Nat} (hd : listE l (d : Int) = 0) (s : ByteArray) : ((findI l (d : Int) s).2 = 0 ∧ 0 ≤ placeI (entsN l d) s) ∨ ((findI l (d : Int) s).2 ≠ 0 ∧ placeI (entsN l d) s = -1) := by
  unfold findI listI
  rw [if_pos hd]
  rcases placeI_spec (entsN l d) s with ⟨h1, h2, _⟩ | ⟨i, x, h1, _, _, h2, _⟩
  · right
    unfold entsN at h2
    rw [h2]
    exact ⟨by simp only [if_pos hd]; decide, h1⟩
  · left
    unfold entsN at h2
    rw [h2]
    exact ⟨rfl, by rw [h1]; omega⟩
theorem freeGo_kind (l : List Itm) : ∀ k n, freeGo l k n ≠ 0 → kindI l (freeGo l k n : Int) = 0
  | 0, n, h => absurd rfl h
  | k + 1, n, h => by
    unfold freeGo at h ⊢
    split
    · assumption
    · rename_i h1
      rw [if_neg h1] at h
      exact freeGo_kind l k (n + 1) h
theorem freeN_kind (l : List Itm) (h : freeN l ≠ 0) : kindN l (freeN l) = 0 := freeGo_kind l 200 1 h
theorem badE_size {s : ByteArray} {sh : Int} (h : badE s sh = 0) : s.size ≤ 255 := by
  unfold badE at h
  split at h
  · rename_i hg
    unfold goodB at hg
    simp only [Bool.and_eq_true, decide_eq_true_eq] at hg
    exact hg.2.2.1
  · omega
section
variable {w : World} {b : Nat} {l : List Itm} {nx : Int} {R : Nat → Value} {u : Nat} {v : Value} {ys : List Int}
def LinkTPost (b : Nat) (r : (List Itm × Int) × Int × Int) (S : Nat → Prop) (w : World) (e : Ending) (w' : World) : Prop :=
  ∃ S', e = .returned (.tuple #[.int .i64 r.2.1, .int .i64 r.2.2]) ∧ TIs w' b r.1.1 r.1.2 S' ∧ Trod w w' S S'
set_option maxHeartbeats 8000000 in
set_option maxRecDepth 100000 in
theorem treeLink_c (h : TM w b (kindN l) (entsN l) R u v ys nx) (ho : outRow u ys = usedRow l) (hg : GoodT l nx) (d : Int) (s : ByteArray) (isD : Bool) (sh : Int) (hs : s.size ≤ 9223372036854775807) (hnx : nx + 1 ≤ 9223372036854775807) :
    Calls Try.prog 19 #[ptrV b, .int .i64 d, .string s, .bool isD, .int .i64 sh] w (LinkTPost b (linkI l nx d s isD sh) (Foot b R v) w) := by
  unfold LinkTPost
  have cA := admits_c h d s hs sh
  have HSAME : Hid (∀ W, Below w.heap.size w W → TIs W b l nx (Foot b R v) ∧ Trod w W (Foot b R v) (Foot b R v)) := Lib.hid (fun W hW => ⟨⟨R, u, v, ys, h.below hW, ho, hg, rfl⟩, Trod.of_below hW⟩)
  have HT := Lib.hid h
  have HG := Lib.hid hg
  have HOU := Lib.hid ho
  obtain ⟨Q, hQ⟩ : ∃ Q, linkI l nx d s isD sh = Q := ⟨_, rfl⟩
  rw [hQ]
  unfold linkI at hQ
  obtain ⟨r, hr⟩ : ∃ r, admitsI (kindN l) d s sh = r := ⟨_, rfl⟩
  rw [hr] at cA
  unfold admitsI at hr
  rw [hg.open'] at hr
  clear h hg ho
  by_cases hr0 : r = 0
  · subst hr0
    have hd : listE l d = 0 := by
      apply Classical.byContradiction
      intro hc
      rw [if_neg hc] at hr
      exact hc hr
    rw [if_pos hd] at hr
    obtain ⟨n, rfl, hn, hk2⟩ := HG.out.dir hd
    rw [if_neg (by simp [hd]), if_neg (by simp [hr])] at hQ
    have hel := HG.out.elen n
    rcases place_find HG.out hd s with ⟨hf, hp⟩ | ⟨hf, hp⟩
    · rw [if_pos hf] at hQ
      subst hQ
      have cP := fun W (hW : Below w.heap.size w W) => hasPlace_c (HT.out.below hW) hn (by omega) s
      have HP6 : hasPlaceI (entsN l n) s nx = 6 := if_pos hp
      rw [HP6] at cP
      clear hr hd hf hp HP6 hk2 hel
      go_enter Try.func19, Try.ntmps19
      go_wp2_with (first
        | (go_at_call 27; refine cA.mono ?_; rintro e w1 ⟨rfl, hb1⟩)
        | (go_at_call 28; refine (cP _ hb1).mono ?_; rintro e w2 ⟨rfl, hb2⟩))
      go_ret2
      obtain ⟨h1, h2⟩ := HSAME.out _ (hb1.trans (hb2.mono hb1.size))
      exact ⟨_, rfl, h1, h2⟩
    · rw [if_neg hf] at hQ
      have HP0 : hasPlaceI (entsN l n) s nx = 0 := by
        unfold hasPlaceI
        rw [hp, if_neg (by omega), if_neg (by have := HG.out.nx1; omega)]
      have cP := fun W (hW : Below w.heap.size w W) => hasPlace_c (HT.out.below hW) hn (by omega) s
      rw [HP0] at cP
      have hfr := used_free l
      rw [← HOU.out] at hfr
      by_cases hz : leastN 200 (outRow u ys) = 0
      · have hfz : freeN l = 0 := by rw [hz] at hfr; omega
        rw [if_pos hfz] at hQ
        subst hQ
        have cT := fun W (hW : Below w.heap.size w W) => (Emb.take_c W v.ownBlock 200 b v (outRow u ys) W (HT.out.below hW).poolIs).mono (R' := fun e w' => e = .returned (.tuple #[.int .i64 0, .bool false]) ∧ ∃ v', Emb.PoolIs W v.ownBlock 200 b w' v' (outRow u ys)) (fun e w' hh => by
          rcases hh with ⟨_, h1, h2⟩ | ⟨k, v', h1, _, h3, _⟩
          · exact ⟨h1, v, h2⟩
          · omega)
        clear hr hd hf hp HP0 hk2 hel hfr hz hfz
        go_enter Try.func19, Try.ntmps19
        go_wp2_with (first
          | (go_at_call 27; refine cA.mono ?_; rintro e w1 ⟨rfl, hb1⟩)
          | (go_at_call 28; refine (cP _ hb1).mono ?_; rintro e w2 ⟨rfl, hb2⟩; have HB2 := Lib.hid (hb1.trans (hb2.mono hb1.size)))
          | (go_at_call 29; refine (cT _ HB2.out).mono ?_; rintro e w3 ⟨rfl, v3, hp3⟩; have HP3 := Lib.hid hp3; clear hp3))
        go_ret2
        obtain ⟨u3, ys3, h1, h2, h3⟩ := (HT.out.below HB2.out).pool HP3.out
        exact ⟨_, rfl, ⟨R, u3, v3, ys3, h1, by rw [← h2]; exact HOU.out, HG.out, rfl⟩, (Trod.of_below HB2.out).trans h3⟩
      · obtain ⟨k, hk⟩ : ∃ k, leastN 200 (outRow u ys) = k := ⟨_, rfl⟩
        rw [hk] at hfr hz
        have hkle : k ≤ 200 := by rw [← hk]; exact leastN_le _ _
        have hfz : freeN l = k := by omega
        rw [if_neg (by rw [hfz]; omega), hfz] at hQ
        subst hQ
        have cT := fun W (hW : Below w.heap.size w W) => (Emb.take_c W v.ownBlock 200 b v (outRow u ys) W (HT.out.below hW).poolIs).mono (R' := fun e w' => e = .returned (.tuple #[.int .i64 (k : Int), .bool true]) ∧ ∃ v', Emb.PoolIs W v.ownBlock 200 b w' v' ((outRow u ys).set k true)) (fun e w' hh => by
          rcases hh with ⟨h0, _, _⟩ | ⟨k2, v', h1, _, h3, h4, h5⟩
          · omega
          · obtain rfl : k2 = k := h3.symm.trans hk
            exact ⟨h4, v', h5⟩)
        have hk0 : kindN l k = 0 := by
          have h5 := freeN_kind l (by rw [hfz]; omega)
          rw [hfz] at h5
          exact h5
        have HK0 := Lib.hid hk0
        have HGL : Hid (GoodT (putI l nx (n : Int) ⟨s, (k : Int), isD, 0, sh⟩) (nx + 1)) := Lib.hid (HG.out.link hd hr hf (by omega) hkle hk0)
        have HS255 : s.size ≤ 281474976710656 := by have := badE_size hr; omega
        have hnx0 : 0 ≤ nx := by have := HG.out.nx1; omega
        have HKN : Hid (kindN (putI l nx (n : Int) ⟨s, (k : Int), isD, 0, sh⟩) = upd (kindN l) k (kindOf isD)) := Lib.hid (kindN_snoc l (n : Int) ⟨s, (k : Int), isD, nx, sh⟩ rfl (by omega) hk0)
        have HEN : Hid (entsN (putI l nx (n : Int) ⟨s, (k : Int), isD, 0, sh⟩) = upd (entsN l) n (entsN l n ++ [⟨s, (k : Int), isD, nx, sh⟩])) := Lib.hid (entsN_snoc l n ⟨s, (k : Int), isD, nx, sh⟩)
        have HUS : Hid (usedRow (putI l nx (n : Int) ⟨s, (k : Int), isD, 0, sh⟩) = (usedRow l).set k true) := Lib.hid (usedRow_set hkle (decide_eq_true ⟨by omega, by rw [HKN.out, upd_same]; exact kindOf_ne _⟩) (fun m hm => by rw [HKN.out, upd_ne _ _ hm]))
        have HHN := Lib.hid hn
        have HHK := Lib.hid hkle
        clear hr hd hf hp HP0 hk2 hfr hz hfz hk hk0 hn hkle
        have HEL := Lib.hid hel
        clear hel
        go_enter Try.func19, Try.ntmps19
        go_upto_region 8 with (first
          | (go_at_call 27; refine cA.mono ?_; rintro e w1 ⟨rfl, hb1⟩)
          | (go_at_call 28; refine (cP _ hb1).mono ?_; rintro e w2 ⟨rfl, hb2⟩; have HB2 := Lib.hid (hb1.trans (hb2.mono hb1.size)))
          | (go_at_call 29; refine (cT _ HB2.out).mono ?_; rintro e w3 ⟨rfl, v3, hp3⟩; have HP3 := Lib.hid hp3; clear hp3))
        obtain ⟨u3, ys3, h1, h2, h3⟩ := (HT.out.below HB2.out).pool HP3.out
        have H2 := Lib.hid h2
        have H3 := Lib.hid ((Trod.of_below HB2.out).trans h3)
        have cAd := treeAdd_c h1 HHN.out (by have := HEL.out; omega) ⟨s, (k : Int), isD, 0, sh⟩ rfl HHK.out HS255 hnx0 hnx
        unfold PutPost entV at cAd
        clear h1 h2 h3 cA cP cT hb1
        go_wp2_with (go_at_call 30; refine cAd.mono ?_; rintro e w4 ⟨R4, rfl, hm4, ht4⟩; have HM4 := Lib.hid hm4; have HT4 := Lib.hid ht4; clear hm4 ht4)
        go_ret2
        refine ⟨_, rfl, ⟨R4, u3, v3, ys3, ?_, ?_, HGL.out, rfl⟩, H3.out.trans HT4.out⟩
        · show TM w4 b (kindN (putI l nx (n : Int) ⟨s, (k : Int), isD, 0, sh⟩)) (entsN (putI l nx (n : Int) ⟨s, (k : Int), isD, 0, sh⟩)) R4 u3 v3 ys3 (nx + 1)
          rw [HKN.out, HEN.out]
          exact HM4.out
        · show outRow u3 ys3 = usedRow (putI l nx (n : Int) ⟨s, (k : Int), isD, 0, sh⟩)
          rw [HUS.out, ← HOU.out]
          exact H2.out.symm
  · have hQ2 : Q = ((l, nx), 0, r) := by
      by_cases hd : listE l d = 0
      · rw [if_pos hd] at hr
        rw [← hQ, if_neg (by simp [hd]), if_pos (by rw [hr]; exact hr0), hr]
      · rw [if_neg hd] at hr
        rw [← hQ, if_pos hd, hr]
    subst hQ2
    have h0b : (r == 0) = false := beq_eq_false_iff_ne.2 hr0
    clear hr hQ hr0
    go_enter Try.func19, Try.ntmps19
    go_wp2_with (go_at_call 27; refine cA.mono ?_; rintro e w1 ⟨rfl, hb1⟩)
    go_ret2
    obtain ⟨h1, h2⟩ := HSAME.out _ hb1
    exact ⟨_, rfl, h1, h2⟩
end
end Go.Proofs.Ytmplekjiciedgaa

namespace Go.Proofs.Ytmplekjiciedgaa
open Go.RowKit Go.Sort
set_option linter.unusedVariables false

section
variable {w : World} {b : Nat} {l : List Itm} {nx : Int} {R : Nat → Value} {u : Nat} {v : Value} {ys : List Int}
def UnTPost (b : Nat) (r : (List Itm × Int) × Int) (S : Nat → Prop) (w : World) (e : Ending) (w' : World) : Prop :=
  ∃ S', e = .returned (.int .i64 r.2) ∧ TIs w' b r.1.1 r.1.2 S' ∧ Trod w w' S S'
/-- An entry in a block of its own. -/
abbrev entB (x : Ent) : Obj := .cells #[.string x.name, .int .i64 x.node, .bool x.dir, .int .i64 x.cookie, .int .i64 x.short] 46
theorem GoodT.findS (h : GoodT l nx) (hm : TM w b (kindN l) (entsN l) R u v ys nx) (d : Int) (s : ByteArray) : Calls Try.prog 31 #[ptrV b, .int .i64 d, .string s] w fun e w' => e = .returned (.tuple #[entV (findI l d s).1, .int .i64 (findI l d s).2]) ∧ Below w.heap.size w w' := by
  have := treeFind_c hm (fun n hn => Nat.le_trans (h.elen n) (by omega)) d s
  rw [h.find'] at this
  exact this
set_option maxHeartbeats 8000000 in
set_option maxRecDepth 100000 in
theorem treeUnlink_c (h : TM w b (kindN l) (entsN l) R u v ys nx) (ho : outRow u ys = usedRow l) (hg : GoodT l nx) (d : Int) (s : ByteArray) (isD : Bool) :
    Calls Try.prog 20 #[ptrV b, .int .i64 d, .string s, .bool isD] w (UnTPost b (unlinkI l nx d s isD) (Foot b R v) w) := by
  unfold UnTPost
  have cF := hg.findS h d s
  have HSAME : Hid (∀ W, Below w.heap.size w W → TIs W b l nx (Foot b R v) ∧ Trod w W (Foot b R v) (Foot b R v)) := Lib.hid (fun W hW => ⟨⟨R, u, v, ys, h.below hW, ho, hg, rfl⟩, Trod.of_below hW⟩)
  have HT := Lib.hid h
  have HG := Lib.hid hg
  have HOU := Lib.hid ho
  obtain ⟨Q, hQ⟩ : ∃ Q, unlinkI l nx d s isD = Q := ⟨_, rfl⟩
  rw [hQ]
  unfold unlinkI at hQ
  have hfd := fun h => found (l := l) (d := d) (s := s) h
  obtain ⟨⟨x, f⟩, hF⟩ : ∃ F, findI l d s = F := ⟨_, rfl⟩
  rw [hF] at cF hQ hfd
  simp only at cF hQ hfd
  unfold entV at cF
  have hlt := h.lt
  clear h hg ho hF
  have pre : ∀ w1, Below w.heap.size w w1 → Below w.heap.size w (w1.alloc (entB x)) ∧ (w1.alloc (entB x)).heap[w1.heap.size]? = some (.cells #[.string x.name, .int .i64 x.node, .bool x.dir, .int .i64 x.cookie, .int .i64 x.short] 46 (0, 0)) := fun w1 hb => ⟨hb.alloc hb.size _, heap_alloc_new _ _⟩
  have HPRE := Lib.hid pre
  have HLT : Hid (∀ k, Foot b R v k → k < w.heap.size) := Lib.hid (fun k hk => (hlt k hk).2)
  clear pre hlt
  by_cases hf : f = 0
  · subst hf
    obtain ⟨hd, hnm, hmem, hns⟩ := hfd rfl
    rw [if_neg (by simp)] at hQ
    obtain ⟨n, rfl, hn, hk2⟩ := HG.out.dir hd
    obtain ⟨nd, hnd⟩ : ∃ nd : Nat, x.node = (nd : Int) := ⟨x.node.toNat, by have := HG.out.node _ hmem; simp only at this; omega⟩
    have hnr : 1 ≤ nd ∧ nd ≤ 200 := by have := HG.out.node _ hmem; simp only [hnd] at this; omega
    obtain ⟨nm, x1, dr, ck, sh⟩ := x
    simp only at hnd hns hQ HPRE cF
    subst hnd
    subst hns
    by_cases h1 : isD = true ∧ dr = false
    · obtain ⟨rfl, rfl⟩ := h1
      rw [if_pos ⟨rfl, rfl⟩] at hQ
      subst hQ
      clear hfd hk2
      go_enter Try.func20, Try.ntmps20
      go_upto_region 2 with (go_at_call 31; refine cF.mono ?_; rintro e w1 ⟨rfl, hb1⟩)
      obtain ⟨hb2, hq2⟩ := HPRE.out w1 hb1
      have HB2 := Lib.hid hb2
      obtain ⟨⟨q0, q1, q2, q3, q4⟩, _⟩ := five_cells hq2
      clear hb2 hq2 hb1
      go_wp2
      go_ret
      obtain ⟨g1, g2⟩ := HSAME.out _ HB2.out
      exact ⟨_, rfl, g1, g2⟩
    · rw [if_neg h1] at hQ
      by_cases h2 : isD = false ∧ dr = true
      · obtain ⟨rfl, rfl⟩ := h2
        rw [if_pos ⟨rfl, rfl⟩] at hQ
        subst hQ
        clear hfd hk2 h1
        go_enter Try.func20, Try.ntmps20
        go_upto_region 2 with (go_at_call 31; refine cF.mono ?_; rintro e w1 ⟨rfl, hb1⟩)
        obtain ⟨hb2, hq2⟩ := HPRE.out w1 hb1
        have HB2 := Lib.hid hb2
        obtain ⟨⟨q0, q1, q2, q3, q4⟩, _⟩ := five_cells hq2
        clear hb2 hq2 hb1
        go_wp2
        go_ret
        obtain ⟨g1, g2⟩ := HSAME.out _ HB2.out
        exact ⟨_, rfl, g1, g2⟩
      · rw [if_neg h2, hasIn_ents] at hQ
        have hdd : dr = isD := by cases dr <;> cases isD <;> simp_all
        subst hdd
        have hn0 : (0 : Int) ≤ (nd : Int) := by omega
        have hn1 : (nd : Int) < 201 := by omega
        obtain ⟨m, hm⟩ : ∃ m, (entsN l nd).length = m := ⟨_, rfl⟩
        have hm' : (entsI l (nd : Int)).length = m := hm
        rw [hm'] at hQ
        obtain ⟨ad, cap, hra⟩ := (HT.out.ents hnr.2).len
        rw [hm] at hra
        have HRA := Lib.hid hra
        by_cases hm0 : 0 < m
        · rw [if_pos (decide_eq_true hm0)] at hQ
          subst hQ
          have hmz : (0 : Int) < (m : Int) := by omega
          clear hfd hk2 h1 h2 hm hm' hra
          cases dr with
          | false =>
            go_enter Try.func20, Try.ntmps20
            go_upto_region 2 with (go_at_call 31; refine cF.mono ?_; rintro e w1 ⟨rfl, hb1⟩)
            obtain ⟨hb2, hq2⟩ := HPRE.out w1 hb1
            have HB2 := Lib.hid hb2
            have r1 := ((HT.out.below hb2).rcell hnr.2).1
            rw [HRA.out] at r1
            obtain ⟨⟨q0, q1, q2, q3, q4⟩, _⟩ := five_cells hq2
            clear hb2 hq2 hb1
            go_wp2
            go_quiet (fail)
            go_wp2
            go_ret
            obtain ⟨g1, g2⟩ := HSAME.out _ (below_drewN1 HB2.out _)
            exact ⟨_, rfl, g1, g2⟩
          | true =>
            go_enter Try.func20, Try.ntmps20
            go_upto_region 2 with (go_at_call 31; refine cF.mono ?_; rintro e w1 ⟨rfl, hb1⟩)
            obtain ⟨hb2, hq2⟩ := HPRE.out w1 hb1
            have HB2 := Lib.hid hb2
            have r1 := ((HT.out.below hb2).rcell hnr.2).1
            rw [HRA.out] at r1
            obtain ⟨⟨q0, q1, q2, q3, q4⟩, _⟩ := five_cells hq2
            clear hb2 hq2 hb1
            go_wp2
            go_quiet (fail)
            go_wp2
            go_ret
            obtain ⟨g1, g2⟩ := HSAME.out _ (below_drewN1 HB2.out _)
            exact ⟨_, rfl, g1, g2⟩
        · obtain rfl : m = 0 := by omega
          rw [if_neg (by simp)] at hQ
          subst hQ
          rcases placeI_spec (entsN l n) nm with ⟨_, hc, _⟩ | ⟨i, y, hp, hy, hyn, hyy, _⟩
          · unfold entsN at hc
            rw [hc] at hnm
            cases hnm
          · unfold entsN at hyy
            rw [hyy] at hnm
            obtain rfl := Option.some.inj hnm
            have hil : i < (entsN l n).length := (List.getElem?_eq_some_iff.1 hy).1
            have hel := HG.out.elen n
            have HEN : Hid (entsN (dropI l (n : Int) nm) = upd (upd (entsN l) n ((entsN l n).eraseIdx i)) nd []) := Lib.hid (by
              rw [entsN_drop HG.out hy rfl]
              have hne : nd ≠ n := fun e => by
                obtain ⟨H, hH⟩ := HG.out.low
                have := hH _ hmem
                simp only [Int.toNat_natCast, e] at this
                omega
              have hz : upd (entsN l) n ((entsN l n).eraseIdx i) nd = [] := by
                rw [upd_ne _ _ hne]
                exact List.eq_nil_of_length_eq_zero hm
              have hu := (upd_self (upd (entsN l) n ((entsN l n).eraseIdx i)) nd).symm
              rw [hz] at hu
              exact hu)
            have HKN : Hid (kindN (dropI l (n : Int) nm) = upd (kindN l) nd 0) := Lib.hid (by
              have := kindN_drop HG.out hmem
              simp only [Int.toNat_natCast] at this
              exact this)
            have HGU : Hid (GoodT (dropI l (n : Int) nm) nx) := Lib.hid (HG.out.unlink hmem (List.eq_nil_of_length_eq_zero hm'))
            have HUS : Hid (usedRow (dropI l (n : Int) nm) = (usedRow l).set nd false) := Lib.hid (usedRow_set hnr.2 (decide_eq_false (fun hc => hc.2 (by rw [HKN.out, upd_same]))) (fun k hk => by rw [HKN.out, upd_ne _ _ hk]))
            have HIO : Hid (isOut 200 (outRow u ys) (nd : Int) = true) := Lib.hid (by
              unfold isOut
              rw [HOU.out, Int.toNat_natCast, usedRow_getD l hnr.2, decide_eq_true (by omega), decide_eq_true (by omega), decide_eq_true]
              · rfl
              · refine ⟨by omega, ?_⟩
                have := kindI_mem HG.out hmem
                simp only at this
                unfold kindN
                rw [this]
                exact kindOf_ne _)
            have HPL := Lib.hid hp
            have HIL := Lib.hid hil
            have HEL := Lib.hid hel
            have HN := Lib.hid hn
            have HNR := Lib.hid hnr
            have hd0 : (0 : Int) ≤ (n : Int) := by omega
            clear hfd hk2 h1 h2 hm hm' hra hyy hy hp hil hel hd hmem hn hnr hm0
            cases dr with
            | false =>
              go_enter Try.func20, Try.ntmps20
              go_upto_region 2 with (go_at_call 31; refine cF.mono ?_; rintro e w1 ⟨rfl, hb1⟩)
              obtain ⟨hb2, hq2⟩ := HPRE.out w1 hb1
              have HB2 := Lib.hid hb2
              have HQ2 := Lib.hid hq2
              have hqq : w.heap.size ≤ w1.heap.size := hb1.size
              have r1 := ((HT.out.below hb2).rcell HNR.out.2).1
              rw [HRA.out] at r1
              obtain ⟨⟨q0, q1, q2, q3, q4⟩, _⟩ := five_cells hq2
              generalize w1.alloc (entB ⟨nm, (nd : Int), false, ck, sh⟩) = W0 at *
              generalize w1.heap.size = q at *
              clear hb2 hq2 hb1
              go_upto_region 8 with fail
              go_quiet (fail)
              go_upto_region 10 with fail
              clear q0 q1 q2 q3 q4 r1
              have hb3 : Below w.heap.size w (W0.drewN nq) := below_drewN1 HB2.out nq
              have HQ3 : Hid ((W0.drewN nq).heap[q]? = some (.cells #[.string nm, .int .i64 (nd : Int), .bool false, .int .i64 ck, .int .i64 sh] 46 (0, 0))) := Lib.hid (((below_drewN1 (Below.refl W0.heap.size W0) nq).block q (lt_of_get HQ2.out)).trans HQ2.out)
              have HB3 := Lib.hid hb3
              generalize W0.drewN nq = W3 at *
              have cR := remove_c (HT.out.below hb3) HN.out (by have := HEL.out; omega) nm HPL.out HIL.out
              clear hb3
              go_upto_region 11 with (go_at_call 32; refine cR.mono ?_; rintro e w5 ⟨R5, rfl, hm5, ht5⟩; have HM5 := Lib.hid hm5; have HT5 := Lib.hid ht5; clear hm5 ht5)
              have hq5 : w5.heap[q]? = some (.cells #[.string nm, .int .i64 (nd : Int), .bool false, .int .i64 ck, .int .i64 sh] 46 (0, 0)) := (HT5.out.rest q (lt_of_get HQ3.out) (fun hc => by have := HLT.out q hc; omega)).trans HQ3.out
              have HQ5 := Lib.hid hq5
              have hqb : q ≠ b := fun e => by have := HLT.out b (Or.inl rfl); omega
              obtain ⟨⟨q0, q1, q2, q3, q4⟩, _⟩ := five_cells (W := w5.drew) hq5
              obtain ⟨k0, k1⟩ : w5.drew.cell? ⟨b, nd * 2, none⟩ = some (.int .i64 (kindN l nd)) ∧ w5.drew.frozen? ⟨b, nd * 2, none⟩ = false := HM5.out.kcell HNR.out.2
              have hm6 := HM5.out.setKind HNR.out.2 0
              obtain ⟨k2, k3⟩ : (w5.setCell ⟨b, nd * 2, none⟩ (.int .i64 0)).drew.cell? ⟨b, nd * 2 + 1, none⟩ = some (R5 nd) ∧ (w5.setCell ⟨b, nd * 2, none⟩ (.int .i64 0)).drew.frozen? ⟨b, nd * 2 + 1, none⟩ = false := hm6.rcell HNR.out.2
              have k4 : w5.drew.cell? ⟨b, nd * 2 + 1, none⟩ = some (R5 nd) := (HM5.out.rcell HNR.out.2).1
              have k5 : w5.drew.frozen? ⟨b, nd * 2 + 1, none⟩ = false := (HM5.out.rcell HNR.out.2).2
              obtain ⟨hm7, ht7⟩ := hm6.setRow HNR.out.2 (l := []) (grown_refl _ _) (r := .slice none 0 0) ⟨rfl, Or.inl ⟨rfl, rfl⟩⟩ (fun g hg => by cases hg)
              have ht6 := HM5.out.trod_cell (nd * 2) (.int .i64 0) R5 v (fun k hk => Or.inl hk)
              clear hq5 cR hm6
              go_big_region
              obtain ⟨W7, hW7⟩ : ∃ W7, ((w5.setCell ⟨b, nd * 2, none⟩ (.int .i64 0)).setCell ⟨b, nd * 2 + 1, none⟩ (.slice none 0 0)).drew = W7 := ⟨_, rfl⟩
              have HM7 : Hid (TM W7 b (upd (kindN l) nd 0) (upd (upd (entsN l) n ((entsN l n).eraseIdx i)) nd []) (upd R5 nd (.slice none 0 0)) u v ys nx) := Lib.hid (by rw [← hW7]; exact hm7.below (Below.refl _ _).drew)
              have HT7 : Hid (Trod w W7 (Foot b R v) (Foot b (upd R5 nd (.slice none 0 0)) v)) := Lib.hid (by rw [← hW7]; exact ((((Trod.of_below HB3.out).trans HT5.out).trans ht6).trans ht7).trans (Trod.of_below (Below.refl _ _).drew))
              have HQ7 : Hid (W7.heap[q]? = some (.cells #[.string nm, .int .i64 (nd : Int), .bool false, .int .i64 ck, .int .i64 sh] 46 (0, 0))) := Lib.hid (by
                rw [← hW7]
                show ((w5.setCell _ _).setCell _ _).heap[q]? = _
                rw [Below.heap_setCell _ _ _ _ hqb, Below.heap_setCell _ _ _ _ hqb]
                exact HQ5.out)
              clear q0 q1 q2 q3 q4 k0 k1 k2 k3 k4 k5 hm7 ht7 ht6
              (try rw [hW7])
              go_upto_region 12 with fail
              clear hW7
              obtain ⟨⟨q0, q1, q2, q3, q4⟩, _⟩ := five_cells (W := W7.drew) HQ7.out
              have cG := Emb.give_c W7.drew v.ownBlock 200 b v (outRow u ys) (nd : Int) W7.drew (HM7.out.below (Below.refl _ _).drew).poolIs true HIO.out
              rw [if_pos rfl, Int.toNat_natCast] at cG
              go_region_with (first
                | (go_at_call 33; refine cG.mono ?_; rintro e w8 ⟨rfl, v8, hp8⟩; have HP8 := Lib.hid hp8; clear hp8))
              all_goals
                go_wp2
                go_ret
                obtain ⟨u8, ys8, g1, g2, g3⟩ := (HM7.out.below (Below.refl _ _).drew).pool HP8.out
                refine ⟨_, rfl, ⟨_, u8, v8, ys8, ?_, ?_, HGU.out, rfl⟩, (HT7.out.trans (Trod.of_below (Below.refl _ _).drew)).trans g3⟩
                · rw [HKN.out, HEN.out]
                  exact g1
                · rw [HUS.out, ← HOU.out]
                  exact g2.symm
            | true =>
              go_enter Try.func20, Try.ntmps20
              go_upto_region 2 with (go_at_call 31; refine cF.mono ?_; rintro e w1 ⟨rfl, hb1⟩)
              obtain ⟨hb2, hq2⟩ := HPRE.out w1 hb1
              have HB2 := Lib.hid hb2
              have HQ2 := Lib.hid hq2
              have hqq : w.heap.size ≤ w1.heap.size := hb1.size
              have r1 := ((HT.out.below hb2).rcell HNR.out.2).1
              rw [HRA.out] at r1
              obtain ⟨⟨q0, q1, q2, q3, q4⟩, _⟩ := five_cells hq2
              generalize w1.alloc (entB ⟨nm, (nd : Int), true, ck, sh⟩) = W0 at *
              generalize w1.heap.size = q at *
              clear hb2 hq2 hb1
              go_upto_region 8 with fail
              go_quiet (fail)
              go_upto_region 10 with fail
              clear q0 q1 q2 q3 q4 r1
              have hb3 : Below w.heap.size w (W0.drewN nq) := below_drewN1 HB2.out nq
              have HQ3 : Hid ((W0.drewN nq).heap[q]? = some (.cells #[.string nm, .int .i64 (nd : Int), .bool true, .int .i64 ck, .int .i64 sh] 46 (0, 0))) := Lib.hid (((below_drewN1 (Below.refl W0.heap.size W0) nq).block q (lt_of_get HQ2.out)).trans HQ2.out)
              have HB3 := Lib.hid hb3
              generalize W0.drewN nq = W3 at *
              have cR := remove_c (HT.out.below hb3) HN.out (by have := HEL.out; omega) nm HPL.out HIL.out
              clear hb3
              go_upto_region 11 with (go_at_call 32; refine cR.mono ?_; rintro e w5 ⟨R5, rfl, hm5, ht5⟩; have HM5 := Lib.hid hm5; have HT5 := Lib.hid ht5; clear hm5 ht5)
              have hq5 : w5.heap[q]? = some (.cells #[.string nm, .int .i64 (nd : Int), .bool true, .int .i64 ck, .int .i64 sh] 46 (0, 0)) := (HT5.out.rest q (lt_of_get HQ3.out) (fun hc => by have := HLT.out q hc; omega)).trans HQ3.out
              have HQ5 := Lib.hid hq5
              have hqb : q ≠ b := fun e => by have := HLT.out b (Or.inl rfl); omega
              obtain ⟨⟨q0, q1, q2, q3, q4⟩, _⟩ := five_cells (W := w5.drew) hq5
              obtain ⟨k0, k1⟩ : w5.drew.cell? ⟨b, nd * 2, none⟩ = some (.int .i64 (kindN l nd)) ∧ w5.drew.frozen? ⟨b, nd * 2, none⟩ = false := HM5.out.kcell HNR.out.2
              have hm6 := HM5.out.setKind HNR.out.2 0
              obtain ⟨k2, k3⟩ : (w5.setCell ⟨b, nd * 2, none⟩ (.int .i64 0)).drew.cell? ⟨b, nd * 2 + 1, none⟩ = some (R5 nd) ∧ (w5.setCell ⟨b, nd * 2, none⟩ (.int .i64 0)).drew.frozen? ⟨b, nd * 2 + 1, none⟩ = false := hm6.rcell HNR.out.2
              have k4 : w5.drew.cell? ⟨b, nd * 2 + 1, none⟩ = some (R5 nd) := (HM5.out.rcell HNR.out.2).1
              have k5 : w5.drew.frozen? ⟨b, nd * 2 + 1, none⟩ = false := (HM5.out.rcell HNR.out.2).2
              obtain ⟨hm7, ht7⟩ := hm6.setRow HNR.out.2 (l := []) (grown_refl _ _) (r := .slice none 0 0) ⟨rfl, Or.inl ⟨rfl, rfl⟩⟩ (fun g hg => by cases hg)
              have ht6 := HM5.out.trod_cell (nd * 2) (.int .i64 0) R5 v (fun k hk => Or.inl hk)
              clear hq5 cR hm6
              go_big_region
              obtain ⟨W7, hW7⟩ : ∃ W7, ((w5.setCell ⟨b, nd * 2, none⟩ (.int .i64 0)).setCell ⟨b, nd * 2 + 1, none⟩ (.slice none 0 0)).drew = W7 := ⟨_, rfl⟩
              have HM7 : Hid (TM W7 b (upd (kindN l) nd 0) (upd (upd (entsN l) n ((entsN l n).eraseIdx i)) nd []) (upd R5 nd (.slice none 0 0)) u v ys nx) := Lib.hid (by rw [← hW7]; exact hm7.below (Below.refl _ _).drew)
              have HT7 : Hid (Trod w W7 (Foot b R v) (Foot b (upd R5 nd (.slice none 0 0)) v)) := Lib.hid (by rw [← hW7]; exact ((((Trod.of_below HB3.out).trans HT5.out).trans ht6).trans ht7).trans (Trod.of_below (Below.refl _ _).drew))
              have HQ7 : Hid (W7.heap[q]? = some (.cells #[.string nm, .int .i64 (nd : Int), .bool true, .int .i64 ck, .int .i64 sh] 46 (0, 0))) := Lib.hid (by
                rw [← hW7]
                show ((w5.setCell _ _).setCell _ _).heap[q]? = _
                rw [Below.heap_setCell _ _ _ _ hqb, Below.heap_setCell _ _ _ _ hqb]
                exact HQ5.out)
              clear q0 q1 q2 q3 q4 k0 k1 k2 k3 k4 k5 hm7 ht7 ht6
              (try rw [hW7])
              go_upto_region 12 with fail
              clear hW7
              obtain ⟨⟨q0, q1, q2, q3, q4⟩, _⟩ := five_cells (W := W7.drew) HQ7.out
              have cG := Emb.give_c W7.drew v.ownBlock 200 b v (outRow u ys) (nd : Int) W7.drew (HM7.out.below (Below.refl _ _).drew).poolIs true HIO.out
              rw [if_pos rfl, Int.toNat_natCast] at cG
              go_region_with (first
                | (go_at_call 33; refine cG.mono ?_; rintro e w8 ⟨rfl, v8, hp8⟩; have HP8 := Lib.hid hp8; clear hp8))
              all_goals
                go_wp2
                go_ret
                obtain ⟨u8, ys8, g1, g2, g3⟩ := (HM7.out.below (Below.refl _ _).drew).pool HP8.out
                refine ⟨_, rfl, ⟨_, u8, v8, ys8, ?_, ?_, HGU.out, rfl⟩, (HT7.out.trans (Trod.of_below (Below.refl _ _).drew)).trans g3⟩
                · rw [HKN.out, HEN.out]
                  exact g1
                · rw [HUS.out, ← HOU.out]
                  exact g2.symm
  · rw [if_pos hf] at hQ
    subst hQ
    have h0b : (f == 0) = false := beq_eq_false_iff_ne.2 hf
    clear hfd hf
    go_enter Try.func20, Try.ntmps20
    go_upto_region 2 with (go_at_call 31; refine cF.mono ?_; rintro e w1 ⟨rfl, hb1⟩)
    obtain ⟨hb2, hq2⟩ := HPRE.out w1 hb1
    have HB2 := Lib.hid hb2
    clear hb2 hq2 hb1
    go_wp2
    go_ret
    obtain ⟨g1, g2⟩ := HSAME.out _ HB2.out
    exact ⟨_, rfl, g1, g2⟩
end
end Go.Proofs.Ytmplekjiciedgaa

namespace Go.Proofs.Ytmplekjiciedgaa
open Go.RowKit Go.Sort
set_option linter.unusedVariables false

section
variable {w : World} {b : Nat} {l : List Itm} {nx : Int} {R : Nat → Value} {u : Nat} {v : Value} {ys : List Int}
set_option maxHeartbeats 8000000 in
set_option maxRecDepth 100000 in
theorem treeMove_c (h : TM w b (kindN l) (entsN l) R u v ys nx) (ho : outRow u ys = usedRow l) (hg : GoodT l nx) (d : Int) (s : ByteArray) (dt : Int) (ns : ByteArray) (sh : Int) (hs : ns.size ≤ 9223372036854775807) (hnx : nx + 1 ≤ 9223372036854775807) :
    Calls Try.prog 21 #[ptrV b, .int .i64 d, .string s, .int .i64 dt, .string ns, .int .i64 sh] w (UnTPost b (moveI l nx d s dt ns sh) (Foot b R v) w) := by
  unfold UnTPost
  have cF := hg.findS h d s
  have cA := fun W (hW : Below w.heap.size w W) => admits_c (h.below hW) dt ns hs sh
  have HSAME : Hid (∀ W, Below w.heap.size w W → TIs W b l nx (Foot b R v) ∧ Trod w W (Foot b R v) (Foot b R v)) := Lib.hid (fun W hW => ⟨⟨R, u, v, ys, h.below hW, ho, hg, rfl⟩, Trod.of_below hW⟩)
  have HT := Lib.hid h
  have HG := Lib.hid hg
  have HOU := Lib.hid ho
  obtain ⟨Q, hQ⟩ : ∃ Q, moveI l nx d s dt ns sh = Q := ⟨_, rfl⟩
  rw [hQ]
  unfold moveI at hQ
  have hfd := fun h => found (l := l) (d := d) (s := s) h
  obtain ⟨⟨x, f⟩, hF⟩ : ∃ F, findI l d s = F := ⟨_, rfl⟩
  rw [hF] at cF hQ hfd
  simp only at cF hQ hfd
  unfold entV at cF
  have hlt := h.lt
  clear h hg ho hF
  have pre : ∀ w1, Below w.heap.size w w1 → Below w.heap.size w (w1.alloc (entB x)) ∧ (w1.alloc (entB x)).heap[w1.heap.size]? = some (.cells #[.string x.name, .int .i64 x.node, .bool x.dir, .int .i64 x.cookie, .int .i64 x.short] 46 (0, 0)) := fun w1 hb => ⟨hb.alloc hb.size _, heap_alloc_new _ _⟩
  have HPRE := Lib.hid pre
  have HLT : Hid (∀ k, Foot b R v k → k < w.heap.size) := Lib.hid (fun k hk => (hlt k hk).2)
  clear pre hlt
  by_cases hf : f = 0
  · subst hf
    obtain ⟨hd, hnm, hmem, hns⟩ := hfd rfl
    rw [if_neg (by simp)] at hQ
    obtain ⟨n, rfl, hn, hk2⟩ := HG.out.dir hd
    obtain ⟨nd, hnd⟩ : ∃ nd : Nat, x.node = (nd : Int) := ⟨x.node.toNat, by have := HG.out.node _ hmem; simp only at this; omega⟩
    have hnr : 1 ≤ nd ∧ nd ≤ 200 := by have := HG.out.node _ hmem; simp only [hnd] at this; omega
    obtain ⟨nm, x1, dr, ck, sh0⟩ := x
    simp only at hnd hns hQ HPRE cF
    subst hnd
    subst hns
    clear hfd
    obtain ⟨r, hr⟩ : ∃ r, admitsI (kindN l) dt ns sh = r := ⟨_, rfl⟩
    rw [hr] at cA
    unfold admitsI at hr
    rw [HG.out.open'] at hr
    by_cases hr0 : r = 0
    · subst hr0
      have hdt : listE l dt = 0 := by
        apply Classical.byContradiction
        intro hc
        rw [if_neg hc] at hr
        exact hc hr
      rw [if_pos hdt] at hr
      obtain ⟨n2, rfl, hn2, hk3⟩ := HG.out.dir hdt
      rw [if_neg (by simp [hdt]), if_neg (by simp [hr])] at hQ
      obtain ⟨H, hH⟩ := HG.out.low
      rw [loop_below HG.out hH nd (n2 : Int)] at hQ
      have cB := fun W (hW : Below w.heap.size w W) => isBelow_c (HT.out.below hW) H (HG.out.lower hH) hnr.2 (n2 : Int)
      obtain ⟨B, hB⟩ : ∃ B, belowG (entsN l) (n2 : Int) (H nd + 1) nd = B := ⟨_, rfl⟩
      rw [hB] at cB
      have HLB := loop_below HG.out hH nd (n2 : Int)
      rw [hB] at hQ HLB
      by_cases hE : (nd : Int) = (n2 : Int)
      · rw [decide_eq_true hE, if_pos (by rfl)] at hQ
        subst hQ
        have hEb : ((nd : Int) == (n2 : Int)) = true := by rw [hE]; simp
        clear cB hr hk3 hk2 hd hdt hmem hnm hH hB HLB hE
        go_enter Try.func21, Try.ntmps21
        go_upto_region 2 with (go_at_call 31; refine cF.mono ?_; rintro e w1 ⟨rfl, hb1⟩)
        obtain ⟨hb2, hq2⟩ := HPRE.out w1 hb1
        have HB2 := Lib.hid hb2
        have HQ2 := Lib.hid hq2
        have hqq : w.heap.size ≤ w1.heap.size := hb1.size
        generalize w1.alloc (entB ⟨nm, (nd : Int), dr, ck, sh0⟩) = W0 at *
        generalize w1.heap.size = q at *
        clear hb2 hq2 hb1
        go_wp2_with (go_at_call 27; refine (cA _ HB2.out).mono ?_; rintro e w3 ⟨rfl, hb3⟩; have HB3 := Lib.hid (HB2.out.trans (hb3.mono HB2.out.size)); have hq3 := (hb3.block q (lt_of_get HQ2.out)).trans HQ2.out; have HQ3 := Lib.hid hq3; obtain ⟨⟨q0, q1, q2, q3, q4⟩, _⟩ := five_cells hq3; clear hb3 hq3)
        go_ret
        obtain ⟨g1, g2⟩ := HSAME.out _ HB3.out
        exact ⟨_, rfl, g1, g2⟩
      · have hEb : ((nd : Int) == (n2 : Int)) = false := beq_eq_false_iff_ne.2 hE
        rw [decide_eq_false hE, Bool.false_or] at hQ HLB
        cases B with
        | true =>
          rw [if_pos rfl] at hQ
          subst hQ
          clear hr hk3 hk2 hd hdt hmem hnm hH hB HLB hE
          go_enter Try.func21, Try.ntmps21
          go_upto_region 2 with (go_at_call 31; refine cF.mono ?_; rintro e w1 ⟨rfl, hb1⟩)
          obtain ⟨hb2, hq2⟩ := HPRE.out w1 hb1
          have HB2 := Lib.hid hb2
          have HQ2 := Lib.hid hq2
          have hqq : w.heap.size ≤ w1.heap.size := hb1.size
          generalize w1.alloc (entB ⟨nm, (nd : Int), dr, ck, sh0⟩) = W0 at *
          generalize w1.heap.size = q at *
          clear hb2 hq2 hb1
          go_wp2_with (first
            | (go_at_call 27; refine (cA _ HB2.out).mono ?_; rintro e w3 ⟨rfl, hb3⟩; have HB3 := Lib.hid (HB2.out.trans (hb3.mono HB2.out.size)); have hq3 := (hb3.block q (lt_of_get HQ2.out)).trans HQ2.out; have HQ3 := Lib.hid hq3; obtain ⟨⟨q0, q1, q2, q3, q4⟩, _⟩ := five_cells hq3; clear hb3 hq3)
            | (go_at_call 34; refine (cB _ HB3.out).mono ?_; rintro e w4 ⟨rfl, hb4⟩; have HB4 := Lib.hid (HB3.out.trans (hb4.mono HB3.out.size)); have hq4 := (hb4.block q (lt_of_get HQ3.out)).trans HQ3.out; have HQ4 := Lib.hid hq4; clear hb4 hq4))
          go_ret
          obtain ⟨g1, g2⟩ := HSAME.out _ HB4.out
          exact ⟨_, rfl, g1, g2⟩
        | false =>
          rw [if_neg (by simp)] at hQ
          rcases place_find HG.out hdt ns with ⟨hfp, hp⟩ | ⟨hfp, hp⟩
          · rw [if_pos hfp] at hQ
            subst hQ
            have cP := fun W (hW : Below w.heap.size w W) => hasPlace_c (HT.out.below hW) hn2 (by have := HG.out.elen n2; omega) ns
            have HP6 : hasPlaceI (entsN l n2) ns nx = 6 := if_pos hp
            rw [HP6] at cP
            clear hr hk3 hk2 hd hdt hmem hnm hH hB HLB hE hfp hp HP6
            go_enter Try.func21, Try.ntmps21
            go_upto_region 2 with (go_at_call 31; refine cF.mono ?_; rintro e w1 ⟨rfl, hb1⟩)
            obtain ⟨hb2, hq2⟩ := HPRE.out w1 hb1
            have HB2 := Lib.hid hb2
            have HQ2 := Lib.hid hq2
            have hqq : w.heap.size ≤ w1.heap.size := hb1.size
            generalize w1.alloc (entB ⟨nm, (nd : Int), dr, ck, sh0⟩) = W0 at *
            generalize w1.heap.size = q at *
            clear hb2 hq2 hb1
            go_wp2_with (first
              | (go_at_call 27; refine (cA _ HB2.out).mono ?_; rintro e w3 ⟨rfl, hb3⟩; have HB3 := Lib.hid (HB2.out.trans (hb3.mono HB2.out.size)); have hq3 := (hb3.block q (lt_of_get HQ2.out)).trans HQ2.out; have HQ3 := Lib.hid hq3; obtain ⟨⟨q0, q1, q2, q3, q4⟩, _⟩ := five_cells hq3; clear hb3 hq3)
              | (go_at_call 34; refine (cB _ HB3.out).mono ?_; rintro e w4 ⟨rfl, hb4⟩; have HB4 := Lib.hid (HB3.out.trans (hb4.mono HB3.out.size)); have hq4 := (hb4.block q (lt_of_get HQ3.out)).trans HQ3.out; have HQ4 := Lib.hid hq4; clear hb4 hq4)
              | (go_at_call 28; refine (cP _ HB4.out).mono ?_; rintro e w5 ⟨rfl, hb5⟩; have HB5 := Lib.hid (HB4.out.trans (hb5.mono HB4.out.size)); have hq5 := (hb5.block q (lt_of_get HQ4.out)).trans HQ4.out; have HQ5 := Lib.hid hq5; clear hb5 hq5))
            go_ret
            obtain ⟨g1, g2⟩ := HSAME.out _ HB5.out
            exact ⟨_, rfl, g1, g2⟩
          · rw [if_neg hfp] at hQ
            subst hQ
            have cP := fun W (hW : Below w.heap.size w W) => hasPlace_c (HT.out.below hW) hn2 (by have := HG.out.elen n2; omega) ns
            have HP0 : hasPlaceI (entsN l n2) ns nx = 0 := by
              unfold hasPlaceI
              rw [hp, if_neg (by omega), if_neg (by have := HG.out.nx1; omega)]
            rw [HP0] at cP
            have HGM : Hid (GoodT (putI (dropI l (n : Int) nm) nx (n2 : Int) ⟨ns, (nd : Int), dr, 0, sh⟩) (nx + 1)) := Lib.hid (HG.out.move hmem hdt hr (by rw [HLB]; simp) hfp)
            have HKM : Hid (kindN (putI (dropI l (n : Int) nm) nx (n2 : Int) ⟨ns, (nd : Int), dr, 0, sh⟩) = kindN l) := Lib.hid (kindN_move HG.out hmem (n2 : Int) ns sh)
            have HUS : Hid (usedRow (putI (dropI l (n : Int) nm) nx (n2 : Int) ⟨ns, (nd : Int), dr, 0, sh⟩) = usedRow l) := Lib.hid (usedRow_same (fun k => by rw [HKM.out]))
            have HKD : Hid (upd (kindN l) nd (kindOf dr) = kindN l) := Lib.hid (by
              have h9 := kindI_mem HG.out hmem
              have h8 : kindOf dr = kindN l nd := h9.symm
              rw [h8, upd_self])
            have HS255 : Hid (ns.size ≤ 281474976710656) := Lib.hid (by have := badE_size hr; omega)
            rcases placeI_spec (entsN l n) nm with ⟨_, hc, _⟩ | ⟨i, y, hpp, hy, hyn, hyy, _⟩
            · unfold entsN at hc
              rw [hc] at hnm
              cases hnm
            · unfold entsN at hyy
              rw [hyy] at hnm
              obtain rfl := Option.some.inj hnm
              have hil : i < (entsN l n).length := (List.getElem?_eq_some_iff.1 hy).1
              have hel := HG.out.elen n
              have HED : Hid (entsN (dropI l (n : Int) nm) = upd (entsN l) n ((entsN l n).eraseIdx i)) := Lib.hid (entsN_drop HG.out hy rfl)
              have HEM : Hid (entsN (putI (dropI l (n : Int) nm) nx (n2 : Int) ⟨ns, (nd : Int), dr, 0, sh⟩) = upd (upd (entsN l) n ((entsN l n).eraseIdx i)) n2 (upd (entsN l) n ((entsN l n).eraseIdx i) n2 ++ [⟨ns, (nd : Int), dr, nx, sh⟩])) := Lib.hid (by
                rw [← HED.out]
                exact entsN_snoc (dropI l (n : Int) nm) n2 ⟨ns, (nd : Int), dr, nx, sh⟩)
              have HEL2 : Hid ((upd (entsN l) n ((entsN l n).eraseIdx i) n2).length ≤ 1000) := Lib.hid (by
                unfold upd
                split
                · have := List.length_eraseIdx_le (entsN l n) i
                  omega
                · have := HG.out.elen n2
                  omega)
              have HPL := Lib.hid hpp
              have HIL := Lib.hid hil
              have HEL := Lib.hid hel
              have HN := Lib.hid hn
              have HN2 := Lib.hid hn2
              have HNR := Lib.hid hnr
              have HNX0 : Hid (0 ≤ nx) := Lib.hid (by have := HG.out.nx1; omega)
              have HNX := Lib.hid hnx
              clear hr hk3 hk2 hd hdt hmem hH hB HLB hE hfp hp HP0 hy hyy hpp hil hel hn hn2 hnr hnx
              go_enter Try.func21, Try.ntmps21
              go_upto_region 2 with (go_at_call 31; refine cF.mono ?_; rintro e w1 ⟨rfl, hb1⟩)
              obtain ⟨hb2, hq2⟩ := HPRE.out w1 hb1
              have HB2 := Lib.hid hb2
              have HQ2 := Lib.hid hq2
              have hqq : w.heap.size ≤ w1.heap.size := hb1.size
              generalize w1.alloc (entB ⟨nm, (nd : Int), dr, ck, sh0⟩) = W0 at *
              generalize w1.heap.size = q at *
              clear hb2 hq2 hb1
              go_upto_region 12 with (first
                | (go_at_call 27; refine (cA _ HB2.out).mono ?_; rintro e w3 ⟨rfl, hb3⟩; have HB3 := Lib.hid (HB2.out.trans (hb3.mono HB2.out.size)); have hq3 := (hb3.block q (lt_of_get HQ2.out)).trans HQ2.out; have HQ3 := Lib.hid hq3; obtain ⟨⟨q0, q1, q2, q3, q4⟩, _⟩ := five_cells hq3; clear hb3 hq3)
                | (go_at_call 34; refine (cB _ HB3.out).mono ?_; rintro e w4 ⟨rfl, hb4⟩; have HB4 := Lib.hid (HB3.out.trans (hb4.mono HB3.out.size)); have hq4 := (hb4.block q (lt_of_get HQ3.out)).trans HQ3.out; have HQ4 := Lib.hid hq4; clear hb4 hq4)
                | (go_at_call 28; refine (cP _ HB4.out).mono ?_; rintro e w5 ⟨rfl, hb5⟩; have HB5 := Lib.hid (HB4.out.trans (hb5.mono HB4.out.size)); have hq5 := (hb5.block q (lt_of_get HQ4.out)).trans HQ4.out; have HQ5 := Lib.hid hq5; clear hb5 hq5))
              clear q0 q1 q2 q3 q4
              have cR := remove_c (HT.out.below HB5.out) HN.out (by have := HEL.out; omega) nm HPL.out HIL.out
              go_upto_region 13 with (go_at_call 32; refine cR.mono ?_; rintro e w6 ⟨R6, rfl, hm6, ht6⟩; have HM6 := Lib.hid hm6; have HT6 := Lib.hid ht6; clear hm6 ht6)
              have hq6 : w6.heap[q]? = some (.cells #[.string nm, .int .i64 (nd : Int), .bool dr, .int .i64 ck, .int .i64 sh0] 46 (0, 0)) := (HT6.out.rest q (lt_of_get HQ5.out) (fun hc => by have := HLT.out q hc; omega)).trans HQ5.out
              have HQ6 := Lib.hid hq6
              have hqf : ∀ k, Foot b R6 v k → k ≠ q := fun k hk e => by
                rcases HT6.out.sub k hk with h9 | h9
                · have := HLT.out k h9; omega
                · have := lt_of_get HQ5.out; omega
              obtain ⟨⟨q0, q1, q2, q3, q4⟩, ⟨f0, f1, f2, f3, f4⟩⟩ := five_cells hq6
              have HQ7 : Hid (((w6.setCell ⟨q, 0, none⟩ (.string ns)).setCell ⟨q, 4, none⟩ (.int .i64 sh)).heap[q]? = some (.cells #[.string ns, .int .i64 (nd : Int), .bool dr, .int .i64 ck, .int .i64 sh] 46 (0, 0))) := Lib.hid (by
                rw [heap_setCell_same _ q 4 _ _ _ (heap_setCell_same _ q 0 _ _ _ hq6)]
                rfl)
              have HM7 : Hid (TM ((w6.setCell ⟨q, 0, none⟩ (.string ns)).setCell ⟨q, 4, none⟩ (.int .i64 sh)) b (kindN l) (upd (entsN l) n ((entsN l n).eraseIdx i)) R6 u v ys nx) := Lib.hid (HM6.out.kept (fun k hk => by
                rw [Below.heap_setCell _ _ _ _ (hqf k hk), Below.heap_setCell _ _ _ _ (hqf k hk)]))
              have HT7 : Hid (Trod w ((w6.setCell ⟨q, 0, none⟩ (.string ns)).setCell ⟨q, 4, none⟩ (.int .i64 sh)) (Foot b R v) (Foot b R6 v)) := Lib.hid (by
                have h9 := (Trod.of_below HB5.out).trans HT6.out
                refine ⟨h9.os, h9.tape, h9.output, by have := h9.size; simpa [World.setCell] using this, fun k hk hs => ?_, h9.sub⟩
                have hkq : k ≠ q := by omega
                rw [Below.heap_setCell _ _ _ _ hkq, Below.heap_setCell _ _ _ _ hkq]
                exact h9.rest k hk hs)
              clear hq6 hqf cR
              go_upto_region 14 with fail
              clear q0 q1 q2 q3 q4 f0 f1 f2 f3 f4
              generalize (w6.setCell ⟨q, 0, none⟩ (.string ns)).setCell ⟨q, 4, none⟩ (.int .i64 sh) = W7 at *
              obtain ⟨⟨q0, q1, q2, q3, q4⟩, _⟩ := five_cells HQ7.out
              have cAd := treeAdd_c HM7.out HN2.out HEL2.out ⟨ns, (nd : Int), dr, ck, sh⟩ rfl HNR.out.2 HS255.out HNX0.out HNX.out
              unfold PutPost entV at cAd
              go_wp2_with (go_at_call 30; refine cAd.mono ?_; rintro e w8 ⟨R8, rfl, hm8, ht8⟩; have HM8 := Lib.hid hm8; have HT8 := Lib.hid ht8; clear hm8 ht8)
              go_ret
              refine ⟨_, rfl, ⟨R8, u, v, ys, ?_, ?_, HGM.out, rfl⟩, HT7.out.trans HT8.out⟩
              · show TM w8 b (kindN (putI (dropI l (n : Int) nm) nx (n2 : Int) ⟨ns, (nd : Int), dr, 0, sh⟩)) (entsN (putI (dropI l (n : Int) nm) nx (n2 : Int) ⟨ns, (nd : Int), dr, 0, sh⟩)) R8 u v ys (nx + 1)
                rw [HKM.out, HEM.out]
                have h9 := HM8.out
                rw [HKD.out] at h9
                exact h9
              · show outRow u ys = usedRow (putI (dropI l (n : Int) nm) nx (n2 : Int) ⟨ns, (nd : Int), dr, 0, sh⟩)
                rw [HUS.out]
                exact HOU.out
    · have hQ2 : Q = ((l, nx), r) := by
        by_cases hdt : listE l dt = 0
        · rw [if_pos hdt] at hr
          rw [← hQ, if_neg (by simp [hdt]), if_pos (by rw [hr]; exact hr0), hr]
        · rw [if_neg hdt] at hr
          rw [← hQ, if_pos hdt, hr]
      subst hQ2
      have h0b : (r == 0) = false := beq_eq_false_iff_ne.2 hr0
      clear hr hQ hr0 hmem hnm hd hk2
      go_enter Try.func21, Try.ntmps21
      go_upto_region 2 with (go_at_call 31; refine cF.mono ?_; rintro e w1 ⟨rfl, hb1⟩)
      obtain ⟨hb2, hq2⟩ := HPRE.out w1 hb1
      have HB2 := Lib.hid hb2
      have HQ2 := Lib.hid hq2
      have hqq : w.heap.size ≤ w1.heap.size := hb1.size
      generalize w1.alloc (entB ⟨nm, (nd : Int), dr, ck, sh0⟩) = W0 at *
      generalize w1.heap.size = q at *
      clear hb2 hq2 hb1
      go_wp2_with (go_at_call 27; refine (cA _ HB2.out).mono ?_; rintro e w3 ⟨rfl, hb3⟩; have HB3 := Lib.hid (HB2.out.trans (hb3.mono HB2.out.size)); have hq3 := (hb3.block q (lt_of_get HQ2.out)).trans HQ2.out; have HQ3 := Lib.hid hq3; obtain ⟨⟨q0, q1, q2, q3, q4⟩, _⟩ := five_cells hq3; clear hb3 hq3)
      go_ret
      obtain ⟨g1, g2⟩ := HSAME.out _ HB3.out
      exact ⟨_, rfl, g1, g2⟩
  · rw [if_pos hf] at hQ
    subst hQ
    have h0b : (f == 0) = false := beq_eq_false_iff_ne.2 hf
    clear hfd hf cA
    go_enter Try.func21, Try.ntmps21
    go_upto_region 2 with (go_at_call 31; refine cF.mono ?_; rintro e w1 ⟨rfl, hb1⟩)
    obtain ⟨hb2, hq2⟩ := HPRE.out w1 hb1
    have HB2 := Lib.hid hb2
    have HQ2 := Lib.hid hq2
    have hqq : w.heap.size ≤ w1.heap.size := hb1.size
    generalize w1.alloc (entB x) = W0 at *
    generalize w1.heap.size = q at *
    clear hb2 hq2 hb1
    go_wp2
    go_ret
    obtain ⟨g1, g2⟩ := HSAME.out _ HB2.out
    exact ⟨_, rfl, g1, g2⟩
end
end Go.Proofs.Ytmplekjiciedgaa
