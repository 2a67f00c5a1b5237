/-
  Does an entry fit into a directory of a tree?
-/
import Derived.Test.YtddobjhahohhhaaGreatQI
namespace Go.Proofs.YtddobjhahohhhaaGreat
open Go.RowKit Go.Sort
set_option linter.unusedVariables false
set_option linter.unusedSimpArgs false

def FitsT (K : Nat → Int) (E : Nat → List Ent) (c : Int) (d : Nat) (e : Ent) : Prop := (1 ≤ e.node ∧ e.node ≤ 200) ∧ K e.node.toNat = 0 ∧ badE e.name e.short = 0 ∧ placeI (E d) e.name < 0 ∧ (lastI (E d) < e.cookie ∧ e.cookie < c) ∧ ¬ hasCk E e.cookie
section
variable {w : World} {b : Nat} {K : Nat → Int} {E : Nat → List Ent} {R : Nat → Value} {u : Nat} {v : Value} {ys : List Int} {c : Int}
set_option maxHeartbeats 8000000 in
set_option maxRecDepth 100000 in
theorem fits_c (h : TM w b K E R u v ys c) {d : Nat} (hd : d ≤ 200) (hE : ∀ n, n ≤ 200 → (E n).length ≤ 1000) (x : Ent) (hs : x.name.size ≤ 9223372036854775807) (t : Bool) (ht : t = true ↔ FitsT K E c d x) :
    Calls Tryz.prog 50 #[ptrV b, .int .i64 (d : Int), entV x] w fun e w' => e = .returned (.bool t) ∧ Below w.heap.size w w' := by
  unfold FitsT at ht
  obtain ⟨nm, n0, dr, ck, sh⟩ := x
  simp only at hs ht
  unfold entV
  simp only
  have HTT := Lib.hid ht
  have hb0 : Below w.heap.size w (w.alloc (.cells #[.string nm, .int .i64 n0, .bool dr, .int .i64 ck, .int .i64 sh] 84)) := (Below.refl _ w).alloc (Nat.le_refl _) _
  have HB0 := Lib.hid hb0
  have HT0 := Lib.hid (h.below hb0)
  have HQ0 : Hid ((w.alloc (.cells #[.string nm, .int .i64 n0, .bool dr, .int .i64 ck, .int .i64 sh] 84)).heap[w.heap.size]? = some (.cells #[.string nm, .int .i64 n0, .bool dr, .int .i64 ck, .int .i64 sh] 84 (0, 0))) := Lib.hid (heap_alloc_new _ _)
  have HE := Lib.hid hE
  have HSM := Lib.hid hs
  have HD := Lib.hid hd
  clear hb0 h hE ht hs hd
  go_enter Tryz.func50, Tryz.ntmps50
  go_upto_region 1 with fail
  generalize (w.alloc (.cells #[.string nm, .int .i64 n0, .bool dr, .int .i64 ck, .int .i64 sh] 84)) = W0 at *
  generalize hbO : w.heap.size = bO at *
  obtain ⟨⟨p0, p1, p2, p3, p4⟩, _⟩ := five_cells HQ0.out
  by_cases g1 : n0 < 1
  · have HF : Hid (t = false) := Lib.hid (by cases t with | false => rfl | true => have := (HTT.out.1 rfl).1.1; omega)
    have e1 := decide_eq_true g1
    go_quiet (fail)
    go_wp2
    go_ret
    exact ⟨by rw [HF.out]; rfl, by first | exact below_drewN1 HB0.out _ | (rw [hbO]; exact below_drewN1 HB0.out _)⟩
  have e1 := decide_eq_false g1
  by_cases g2 : 200 < n0
  · have HF : Hid (t = false) := Lib.hid (by cases t with | false => rfl | true => have := (HTT.out.1 rfl).1.2; omega)
    have e2 := decide_eq_true g2
    go_quiet (fail)
    go_wp2
    go_ret
    exact ⟨by rw [HF.out]; rfl, by first | exact below_drewN1 HB0.out _ | (rw [hbO]; exact below_drewN1 HB0.out _)⟩
  have e2 := decide_eq_false g2
  obtain ⟨n, rfl⟩ : ∃ n : Nat, n0 = n := ⟨n0.toNat, by omega⟩
  have hn2 : n ≤ 200 := by omega
  have hn0 : (0 : Int) ≤ (n : Int) := by omega
  have hn1 : (n : Int) < 201 := by omega
  have k1 := (HT0.out.kcell hn2).1
  have hnat : ((n : Int)).toNat = n := Int.toNat_natCast n
  rw [hnat] at HTT
  clear hnat
  by_cases g3 : ¬ (K n = 0)
  · have HF : Hid (t = false) := Lib.hid (by cases t with | false => rfl | true => exact absurd (HTT.out.1 rfl).2.1 g3)
    have e3 : (K n == 0) = false := beq_eq_false_iff_ne.2 g3
    generalize K n = kn at *
    go_quiet (fail)
    go_wp2
    go_ret
    exact ⟨by rw [HF.out]; rfl, by first | exact below_drewN1 HB0.out _ | (rw [hbO]; exact below_drewN1 HB0.out _)⟩
  have g3 := Classical.not_not.1 g3
  rw [g3] at k1
  go_quiet (fail)
  have HB1 : Hid (Below bO w (W0.drewN nq)) := Lib.hid (below_drewN1 HB0.out _)
  have HBD : Hid (Below W0.heap.size W0 (W0.drewN nq)) := Lib.hid (below_drewN1 (Below.refl _ _) _)
  have HT1 := Lib.hid (HT0.out.below HBD.out)
  have HQ1 := Lib.hid ((HBD.out.block _ (lt_of_get HQ0.out)).trans HQ0.out)
  clear p0 p1 p2 p3 p4 k1 HBD HT0 HQ0 HB0
  generalize (W0.drewN nq) = W1 at *
  obtain ⟨⟨p0, p1, p2, p3, p4⟩, _⟩ := five_cells HQ1.out
  have cA := askEntry_c nm HSM.out sh
  by_cases g4 : ¬ (badE nm sh = 0)
  · have HF : Hid (t = false) := Lib.hid (by cases t with | false => rfl | true => exact absurd (HTT.out.1 rfl).2.2.1 g4)
    have e4 : (badE nm sh == 0) = false := beq_eq_false_iff_ne.2 g4
    generalize badE nm sh = bd at *
    go_wp2_with (go_at_call 75; refine (cA _).mono ?_; rintro e w2 ⟨rfl, hb2⟩; have HB2 := Lib.hid hb2; clear hb2)
    go_ret
    exact ⟨by rw [HF.out]; rfl, by first | exact HB1.out.trans (HB2.out.mono (Nat.le_trans (Nat.le_of_lt (lt_of_get HQ1.out)) (Nat.le_refl _))) | (rw [hbO]; exact HB1.out.trans (HB2.out.mono (Nat.le_trans (Nat.le_of_lt (lt_of_get HQ1.out)) (Nat.le_refl _))))⟩
  have g4 := Classical.not_not.1 g4
  rw [g4] at cA
  have cP : Hid (∀ W, Below W1.heap.size W1 W → Calls Tryz.prog 76 #[ptrV b, .int .i64 (d : Int), .string nm] W fun e w' => e = .returned (.int .i64 (placeI (E d) nm)) ∧ Below W.heap.size W w') := Lib.hid (fun W hW => place_c (HT1.out.below hW) HD.out (HE.out d HD.out) nm)
  by_cases g5 : ¬ (placeI (E d) nm < 0)
  · have HF : Hid (t = false) := Lib.hid (by cases t with | false => rfl | true => exact absurd (HTT.out.1 rfl).2.2.2.1 g5)
    have e5 : 0 ≤ placeI (E d) nm := by omega
    have e6 := decide_eq_true e5
    generalize placeI (E d) nm = pl at *
    go_wp2_with (first
      | (go_at_call 75; refine (cA _).mono ?_; rintro e w2 ⟨rfl, hb2⟩; have HB2 := Lib.hid hb2; obtain ⟨⟨p0, p1, p2, p3, p4⟩, _⟩ := five_cells ((hb2.block _ (lt_of_get HQ1.out)).trans HQ1.out); clear hb2)
      | (go_at_call 76; refine (cP.out _ HB2.out).mono ?_; rintro e w3 ⟨rfl, hb3⟩; have HB3 := Lib.hid (HB2.out.trans (hb3.mono HB2.out.size)); clear hb3))
    go_ret
    exact ⟨by rw [HF.out]; rfl, by first | exact HB1.out.trans (HB3.out.mono (Nat.le_of_lt (lt_of_get HQ1.out))) | (rw [hbO]; exact HB1.out.trans (HB3.out.mono (Nat.le_of_lt (lt_of_get HQ1.out))))⟩
  have g5 := Classical.not_not.1 g5
  have e5 : ¬ 0 ≤ placeI (E d) nm := by omega
  have e6 := decide_eq_false e5
  generalize placeI (E d) nm = pl at *
  go_upto_region 5 with (first
    | (go_at_call 75; refine (cA _).mono ?_; rintro e w2 ⟨rfl, hb2⟩; have HB2 := Lib.hid hb2; obtain ⟨⟨p0, p1, p2, p3, p4⟩, _⟩ := five_cells ((hb2.block _ (lt_of_get HQ1.out)).trans HQ1.out); clear hb2)
    | (go_at_call 76; refine (cP.out _ HB2.out).mono ?_; rintro e w3 ⟨rfl, hb3⟩; have HB3 := Lib.hid (HB2.out.trans (hb3.mono HB2.out.size)); clear hb3))
  have HT3 := Lib.hid (HT1.out.below HB3.out)
  have HQ3 := Lib.hid ((HB3.out.block _ (lt_of_get HQ1.out)).trans HQ1.out)
  have HBF := Lib.hid (HB1.out.trans (HB3.out.mono (Nat.le_of_lt (lt_of_get HQ1.out))))
  have HNR : Hid (1 ≤ (n : Int) ∧ (n : Int) ≤ 200) := Lib.hid ⟨by omega, by omega⟩
  clear p0 p1 p2 p3 p4 cA cP HT1 HQ1 HB1 HB2 HB3 e5 e6 e1 e2 g1 g2
  have HSK : Hid (∀ W, Below w3.heap.size w3 W → Below w3.heap.size w3 W ∧ W.cell? ⟨bO, 3, none⟩ = some (.int .i64 ck) ∧ W.cell? ⟨b, 405, none⟩ = some (.int .i64 c)) := Lib.hid (fun W hW => by
    obtain ⟨⟨_, _, _, p3, _⟩, _⟩ := five_cells ((hW.block _ (lt_of_get HQ3.out)).trans HQ3.out)
    exact ⟨hW, p3, (HT3.out.below hW).ccell.1⟩)
  have cL : Hid (∀ W, Below w3.heap.size w3 W → Calls Tryz.prog 77 #[ptrV b, .int .i64 (d : Int)] W fun e w' => e = .returned (.int .i64 (lastI (E d))) ∧ Below W.heap.size W w') := Lib.hid (fun W hW => (lastCookie_c (HT3.out.below hW) HD.out (HE.out d HD.out)).mono fun e w' h => ⟨h.1, by rw [h.2]; exact Below.refl _ _⟩)
  have HLA : Hid (∀ W, Below w3.heap.size w3 W → Calls Tryz.prog 77 #[ptrV b, .int .i64 (d : Int)] W fun e w' => e = .returned (.int .i64 (lastI (E d))) ∧ W = w') := Lib.hid (fun W hW => (lastCookie_c (HT3.out.below hW) HD.out (HE.out d HD.out)).mono fun e w' h => ⟨h.1, h.2.symm⟩)
  have hfin : ∀ W, Below w3.heap.size w3 W → Below w.heap.size w W := fun W hW => by first | exact HBF.out.trans (hW.mono (Nat.le_of_lt (lt_of_get HQ3.out))) | (rw [hbO]; exact HBF.out.trans (hW.mono (Nat.le_of_lt (lt_of_get HQ3.out))))
  have HFIN := Lib.hid hfin
  clear hfin
  have hs3 := HSK.out w3.drew (Below.refl _ _).drew
  by_cases g6 : ¬ (lastI (E d) < ck)
  · have HF : Hid (t = false) := Lib.hid (by cases t with | false => rfl | true => exact absurd (HTT.out.1 rfl).2.2.2.2.1.1 g6)
    have e7 := decide_eq_false g6
    generalize lastI (E d) = la at *
    have cQ : ∀ q, Calls Tryz.prog 77 #[ptrV b, .int .i64 (d : Int)] (w3.drewN q) fun e w' => e = .returned (.int .i64 la) ∧ w3.drewN q = w' := fun q => HLA.out _ (below_drewN1 (Below.refl _ _) q)
    obtain ⟨_, p3, p4⟩ := HSK.out w3 (Below.refl _ _)
    clear hs3
    go_quiet ((go_at_call 77; exact Calls.quiet_of_same ((cQ _).mono fun _ _ h => ⟨h.1, h.2.symm⟩)))
    go_wp2
    go_ret
    exact ⟨by rw [HF.out]; rfl, by first | exact HFIN.out _ (below_drewN1 (Below.refl _ _) _) | (rw [← hbO]; exact HFIN.out _ (below_drewN1 (Below.refl _ _) _))⟩
  have g6 := Classical.not_not.1 g6
  have e7 := decide_eq_true g6
  by_cases g7 : ¬ (ck < c)
  · have HF : Hid (t = false) := Lib.hid (by cases t with | false => rfl | true => exact absurd (HTT.out.1 rfl).2.2.2.2.1.2 g7)
    have e8 := decide_eq_false g7
    generalize lastI (E d) = la at *
    have cQ : ∀ q, Calls Tryz.prog 77 #[ptrV b, .int .i64 (d : Int)] (w3.drewN q) fun e w' => e = .returned (.int .i64 la) ∧ w3.drewN q = w' := fun q => HLA.out _ (below_drewN1 (Below.refl _ _) q)
    obtain ⟨_, p3, p4⟩ := HSK.out w3 (Below.refl _ _)
    clear hs3
    go_quiet ((go_at_call 77; exact Calls.quiet_of_same ((cQ _).mono fun _ _ h => ⟨h.1, h.2.symm⟩)))
    go_wp2
    go_ret
    exact ⟨by rw [HF.out]; rfl, by first | exact HFIN.out _ (below_drewN1 (Below.refl _ _) _) | (rw [← hbO]; exact HFIN.out _ (below_drewN1 (Below.refl _ _) _))⟩
  have g7 := Classical.not_not.1 g7
  have e8 := decide_eq_true g7
  obtain ⟨hc, hhc, HF⟩ : ∃ hc : Bool, (hc = true ↔ hasCk E ck) ∧ Hid (t = !hc) := by
    by_cases g8 : hasCk E ck
    · exact ⟨true, by simp [g8], Lib.hid (by cases t with | false => rfl | true => exact absurd g8 (HTT.out.1 rfl).2.2.2.2.2)⟩
    · exact ⟨false, by simp [g8], Lib.hid (HTT.out.2 ⟨HNR.out, g3, g4, g5, ⟨g6, g7⟩, g8⟩)⟩
  have cH : Hid (∀ W, Below w3.heap.size w3 W → Calls Tryz.prog 78 #[ptrV b, .int .i64 ck] W fun e w' => e = .returned (.bool hc) ∧ Below W.heap.size W w') := Lib.hid (fun W hW => hasCookie_c (HT3.out.below hW) HE.out ck hc hhc)
  clear hhc
  generalize lastI (E d) = la at *
  go_region_held3 (fun W => Below w3.heap.size w3 W ∧ W.cell? ⟨bO, 3, none⟩ = some (.int .i64 ck) ∧ W.cell? ⟨b, 405, none⟩ = some (.int .i64 c)) (first | assumption | (refine HSK.out _ ?_; first | assumption | exact (Below.refl _ _).drew | exact Below.drew ‹_›)) (first
    | (go_at_call 77; refine (cL.out _ (by first | assumption | exact (Below.refl _ _).drew)).mono ?_; rintro e w4 ⟨rfl, hb4⟩; have hq4 : Below w3.heap.size w3 w4 := below_step (Nat.le_refl _) (by first | assumption | exact (Below.refl _ _).drew) hb4)
    | (go_at_call 78; refine (cH.out _ (by first | assumption | exact (Below.refl _ _).drew)).mono ?_; rintro e w5 ⟨rfl, hb5⟩; have hq5 : Below w3.heap.size w3 w5 := below_step (Nat.le_refl _) (by first | assumption | exact (Below.refl _ _).drew) hb5))
  all_goals
    go_wp2
    go_ret
    exact ⟨by rw [HF.out]; rfl, HFIN.out _ (by assumption)⟩
end
end Go.Proofs.YtddobjhahohhhaaGreat
