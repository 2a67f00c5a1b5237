/-
  Make, of a map's entries.
-/
import Derived.Test.YtddobjhahohhhaaGreatTrFill
import Derived.Test.YtddobjhahohhhaaGreatTrUsed
import Derived.Test.YtddobjhahohhhaaGreatQ9
namespace Go.Proofs.YtddobjhahohhhaaGreat
open Go.RowKit Go.Sort
set_option linter.unusedVariables false
set_option linter.unusedSimpArgs false

theorem mkF_getD (m : Nat) (M : List Bool) (x : Int) (n : Nat) (hM : M.length = 201) (hn : n ≤ 200) : (mkF m M x).getD n false = (M.getD n false || decide (1 ≤ x ∧ x ≤ (m : Int) ∧ x = (n : Int))) := by
  unfold mkF
  split
  · rename_i h
    rw [List.getD_eq_getElem?_getD, List.getD_eq_getElem?_getD, List.getElem?_set]
    by_cases e : x.toNat = n
    · rw [if_pos e, if_pos (by omega), decide_eq_true (by omega : 1 ≤ x ∧ x ≤ (m : Int) ∧ x = (n : Int))]
      simp
    · rw [if_neg e, decide_eq_false (by omega : ¬ (1 ≤ x ∧ x ≤ (m : Int) ∧ x = (n : Int)))]
      simp
  · rename_i h
    rw [decide_eq_false (fun h2 => h ⟨h2.1, h2.2.1⟩)]
    simp
theorem mkFs_getD (m : Nat) (n : Nat) (hn : n ≤ 200) : ∀ (l : List Int) (M : List Bool), M.length = 201 → (l.foldl (mkF m) M).getD n false = (M.getD n false || decide ((n : Int) ∈ l ∧ 1 ≤ n ∧ n ≤ m))
  | [], M, _ => by simp
  | x :: l, M, hM => by
    rw [List.foldl_cons, mkFs_getD m n hn l _ ((mkF_len m M x).trans hM), mkF_getD m M x n hM hn, Bool.or_assoc]
    congr 1
    rw [Bool.eq_iff_iff, Bool.or_eq_true, decide_eq_true_eq, decide_eq_true_eq, decide_eq_true_eq, List.mem_cons]
    constructor
    · rintro (⟨h1, h2, h3⟩ | ⟨h1, h2, h3⟩)
      · exact ⟨Or.inl h3.symm, by omega, by omega⟩
      · exact ⟨Or.inr h1, h2, h3⟩
    · rintro ⟨h1 | h1, h2, h3⟩
      · exact Or.inl ⟨by omega, by omega, h1.symm⟩
      · exact Or.inr ⟨h1, h2, h3⟩
theorem mk_used (l : List Itm) : mkRow 200 (usedK (kindN l) 201) = usedRow l := by
  apply List.ext_getElem
  · rw [mkRow_len]
    simp [usedRow]
  · intro n h1 h2
    have hn : n ≤ 200 := by rw [mkRow_len] at h1; omega
    have e1 : (mkRow 200 (usedK (kindN l) 201)).getD n false = (usedRow l).getD n false := by
      rw [usedRow_getD l hn]
      unfold mkRow
      rw [mkFs_getD 200 n hn _ _ List.length_replicate]
      rw [Bool.eq_iff_iff, Bool.or_eq_true, decide_eq_true_eq, decide_eq_true_eq]
      have hr : (List.replicate 201 false).getD n false = false := by
        rw [List.getD_eq_getElem?_getD, List.getElem?_replicate]
        split <;> rfl
      rw [hr]
      constructor
      · rintro (h | ⟨h, h3, h4⟩)
        · cases h
        · obtain ⟨k, k1, k2, k3, k4⟩ := (usedK_mem _ _ _).1 h
          have : n = k := by omega
          subst this
          exact ⟨k2, k3⟩
      · rintro ⟨h3, h4⟩
        exact Or.inr ⟨(usedK_mem _ _ _).2 ⟨n, by omega, h3, h4, rfl⟩, by omega, hn⟩
    rw [List.getD_eq_getElem?_getD, List.getD_eq_getElem?_getD, List.getElem?_eq_getElem h1, List.getElem?_eq_getElem h2] at e1
    exact e1
theorem kind_three (l : List Itm) (n : Nat) : kindN l n = 0 ∨ kindN l n = 1 ∨ kindN l n = 2 := by
  show kindI l (n : Int) = 0 ∨ kindI l (n : Int) = 1 ∨ kindI l (n : Int) = 2
  unfold kindI
  split
  · exact Or.inr (Or.inr rfl)
  · unfold kindGo
    split
    · split
      · exact Or.inr (Or.inr rfl)
      · exact Or.inr (Or.inl rfl)
    · exact Or.inl rfl
section
variable {w : World} {b : Nat} {K : Nat → Int} {E : Nat → List Ent} {R : Nat → Value} {u : Nat} {v : Value} {ys : List Int} {c : Int}
theorem own_mono {w : World} {B B' : Nat} {T : TypeId} {k : Nat} {v : Value} {n : Nat} {xs : List Value} (h : w.ownsRow B T k v n xs) (hB : B' ≤ B) : w.ownsRow B' T k v n xs := by
  refine ⟨h.1, ?_⟩
  rcases h.2 with h1 | ⟨g, cap, cur, h1, h2, h3⟩
  · exact Or.inl h1
  · exact Or.inr ⟨g, cap, cur, h1, Nat.le_trans hB h2, h3⟩
/-- A tree gets another pool. -/
theorem TM.newPool (h : TM w b K E R u v ys c) {u' : Nat} {v' : Value} {ys' : List Int} (ho : OwnN (b + 1) w v' ys') (hg : GoodP 200 u' ys') :
    TM (((w.setCell ⟨b, 402, none⟩ (.int .i64 200)).setCell ⟨b, 403, none⟩ (.int .i64 (u' : Int))).setCell ⟨b, 404, none⟩ v') b K E R u' v' ys' c := by
  obtain ⟨cs, hc, hO⟩ := h.cells
  have hf : ∀ g, g ≠ b → (((w.setCell ⟨b, 402, none⟩ (.int .i64 200)).setCell ⟨b, 403, none⟩ (.int .i64 (u' : Int))).setCell ⟨b, 404, none⟩ v').heap[g]? = w.heap[g]? := fun g hg => by
    rw [Below.heap_setCell _ _ _ _ hg, Below.heap_setCell _ _ _ _ hg, Below.heap_setCell _ _ _ _ hg]
  have hs := hO.size
  refine ⟨⟨_, heap_setCell_same _ b 404 _ _ _ (heap_setCell_same _ b 403 _ _ _ (heap_setCell_same _ b 402 _ _ _ hc)), ?_⟩, fun n hn => ownsRow_same (h.rows n hn) fun g hg => hf g (by have := ((h.rows n hn).lt g hg).1; omega), h.apart, ownsRow_same ho fun g hg => hf g (by have := (World.ownsRow.lt ho g hg).1; omega), hg⟩
  have hne : ∀ j, j < 402 ∨ j = 405 → (((cs.setIfInBounds 402 (.int .i64 200)).setIfInBounds 403 (.int .i64 (u' : Int))).setIfInBounds 404 v')[j]? = cs[j]? := fun j hj => by
    rw [Array.getElem?_setIfInBounds_ne (by omega), Array.getElem?_setIfInBounds_ne (by omega), Array.getElem?_setIfInBounds_ne (by omega)]
  refine ⟨by simp [hs], fun n hn => by rw [hne _ (by omega)]; exact hO.kind n hn, fun n hn => by rw [hne _ (by omega)]; exact hO.row n hn, ?_, ?_, ?_, by rw [hne _ (by omega)]; exact hO.cook⟩
  · rw [Array.getElem?_setIfInBounds_ne (by omega), Array.getElem?_setIfInBounds_ne (by omega), Array.getElem?_setIfInBounds_self_of_lt (by omega)]
    rfl
  · rw [Array.getElem?_setIfInBounds_ne (by omega), Array.getElem?_setIfInBounds_self_of_lt (by simp; omega)]
  · rw [Array.getElem?_setIfInBounds_self_of_lt (by simp; omega)]
end
theorem alloc_old2 (w : World) (a b : Obj) : ((w.alloc a).alloc b).heap[w.heap.size]? = some a := by
  rw [Lib.alloc_old _ _ _ (by simp)]
  exact heap_alloc_new _ _
/-- Does Make go well? -/
def makeB (G : DirsG) (c : Int) (cnt : Nat) : Prop := 1 ≤ c ∧ (fillAll G c).1 = true ∧ (fillAll G c).2.2 = cnt
def MakePost (G : DirsG) (c : Int) (t : Bool) (w : World) (e : Ending) (w' : World) : Prop :=
  (t = false → e = .returned (.tuple #[.pointer none, .int .i64 2]) ∧ Below w.heap.size w w') ∧
  (t = true → ∃ b S, e = .returned (.tuple #[ptrV b, .int .i64 0]) ∧ theTree.Is w' b (fillAll G c).2.1 c S ∧ (∀ k, S k → w.heap.size ≤ k) ∧ Below w.heap.size w w')
set_option maxHeartbeats 8000000 in
set_option maxRecDepth 100000 in
theorem make_c (w : World) (mb n cnt : Nat) (F : Int → Option Value) (G : DirsG) (c : Int) (hm : DirsAt w mb n F G) (hf : MapF Tryz.prog 3 w mb n F cnt) (hsm : SmallG G) (t : Bool) (ht : t = true ↔ makeB G c cnt) :
    Calls Tryz.prog 25 #[.int .i64 c, .map (some mb)] w (MakePost G c t w) := by
  unfold MakePost
  have HM := Lib.hid hm
  have HMF := Lib.hid hf
  have HSM := Lib.hid hsm
  have HT := Lib.hid ht
  have cN := treeNew_c
  unfold NewTPost at cN
  have hb0 : Below w.heap.size w (w.alloc (.cells #[.map (some mb)] 77)) := (Below.refl _ w).alloc (Nat.le_refl _) _
  have HB0 := Lib.hid hb0
  have HA0 : Hid ((w.alloc (.cells #[.map (some mb)] 77)).heap[w.heap.size]? = some (.cells #[.map (some mb)] 77 (0, 0))) := Lib.hid (heap_alloc_new _ _)
  clear hb0 hm hf hsm ht
  go_enter Tryz.func25, Tryz.ntmps25
  go_upto_region 1 with fail
  generalize (w.alloc (.cells #[.map (some mb)] 77)) = W0 at *
  generalize hA : w.heap.size = A at *
  go_upto_region 2 with (go_at_call 13; refine (cN _).mono ?_; rintro e w1 ⟨b, rfl, hbl, htm, hb1⟩; have HBL := Lib.hid hbl; have HTM := Lib.hid htm; have HB1 := Lib.hid hb1; clear hbl htm hb1)
  have hbw : Below w1.heap.size w1 (w1.alloc (.cells #[ptrV b] 25)) := (Below.refl _ w1).alloc (Nat.le_refl _) _
  have HTM1 := Lib.hid (HTM.out.below hbw)
  have HC1 : Hid ((w1.alloc (.cells #[ptrV b] 25)).heap[w1.heap.size]? = some (.cells #[ptrV b] 25 (0, 0))) := Lib.hid (heap_alloc_new _ _)
  have HBB1 := Lib.hid (HB1.out.trans (hbw.mono HB1.out.size))
  have hbC : b < w1.heap.size := HTM.out.blt
  clear hbw HTM HB1
  generalize (w1.alloc (.cells #[ptrV b] 25)) = W1 at *
  generalize w1.heap.size = C at *
  obtain ⟨k1, k2⟩ := HTM1.out.ccell
  have e1 : W1.cell? ⟨C, 0, none⟩ = some (ptrV b) := Lib.cell_of_heap HC1.out 0
  go_upto_region 6 with fail
  have HW5 : Hid (FillW w b mb A W1.heap.size C (W1.heap.size + 1) c [] 0 (((W1.setCell ⟨b, 405, none⟩ (.int .i64 c)).alloc (.cells #[.int .i64 0] 3)).alloc (.cells #[.func (.func 49) #[] #[ptrV A, ptrV W1.heap.size, ptrV C, ptrV (W1.heap.size + 1)]] 119))) := by
    have hlt0 := lt_of_get HA0.out
    have hlt1 := lt_of_get HC1.out
    have hAb : A < b := by have := HBL.out; omega
    have hs5 : ((W1.setCell ⟨b, 405, none⟩ (.int .i64 c)).alloc (.cells #[.int .i64 0] 3)).heap.size = W1.heap.size + 1 := by simp [World.setCell]
    have hs4 : (W1.setCell ⟨b, 405, none⟩ (.int .i64 c)).heap.size = W1.heap.size := by simp [World.setCell]
    have hbelow : Below (W1.setCell ⟨b, 405, none⟩ (.int .i64 c)).heap.size (W1.setCell ⟨b, 405, none⟩ (.int .i64 c)) (((W1.setCell ⟨b, 405, none⟩ (.int .i64 c)).alloc (.cells #[.int .i64 0] 3)).alloc (.cells #[.func (.func 49) #[] #[ptrV A, ptrV W1.heap.size, ptrV C, ptrV (W1.heap.size + 1)]] 119)) := ((Below.refl _ _).alloc (Nat.le_refl _) _).alloc (by simp) _
    have hset : ∀ g, g ≠ b → g < W1.heap.size → (((W1.setCell ⟨b, 405, none⟩ (.int .i64 c)).alloc (.cells #[.int .i64 0] 3)).alloc (.cells #[.func (.func 49) #[] #[ptrV A, ptrV W1.heap.size, ptrV C, ptrV (W1.heap.size + 1)]] 119)).heap[g]? = W1.heap[g]? := fun g h1 h2 => by
      rw [hbelow.block g (by rw [hs4]; exact h2)]
      exact Below.heap_setCell _ _ _ _ h1
    have hbA : Below A w W1 := by
      have := HB0.out.trans (HBB1.out.mono (by omega))
      first | exact this | (rw [hA] at this; exact this) | (rw [← hA] at this ⊢; exact this)
    refine Lib.hid ⟨⟨fun _ => .slice none 0 0, ?_⟩, ?_, ?_, ?_, ?_, ?_, by omega, by have := HBB1.out.size; omega⟩
    · have h9 := (HTM1.out.setCook c).below hbelow
      rw [← kindN_nil] at h9
      exact h9
    · rw [hset A (by omega) (by have := HBB1.out.size; omega), HBB1.out.block A hlt0]
      exact HA0.out
    · have h9 := alloc_old2 (W1.setCell ⟨b, 405, none⟩ (.int .i64 c)) (.cells #[.int .i64 0] 3) (.cells #[.func (.func 49) #[] #[ptrV A, ptrV W1.heap.size, ptrV C, ptrV (W1.heap.size + 1)]] 119)
      rw [hs4] at h9
      exact h9
    · rw [hset C (by omega) hlt1]
      exact HC1.out
    · have h9 := heap_alloc_new ((W1.setCell ⟨b, 405, none⟩ (.int .i64 c)).alloc (.cells #[.int .i64 0] 3)) (.cells #[.func (.func 49) #[] #[ptrV A, ptrV W1.heap.size, ptrV C, ptrV (W1.heap.size + 1)]] 119)
      rw [hs5] at h9
      exact h9
    · (try rw [hA])
      exact (hbA.setCell (p := ⟨b, 405, none⟩) (by show A ≤ b; omega) _).trans (hbelow.mono (by rw [hs4]; have := HBB1.out.size; omega))
  generalize hWW5 : (((W1.setCell ⟨b, 405, none⟩ (.int .i64 c)).alloc (.cells #[.int .i64 0] 3)).alloc (.cells #[.func (.func 49) #[] #[ptrV A, ptrV W1.heap.size, ptrV C, ptrV (W1.heap.size + 1)]] 119)) = W5 at *
  clear hWW5
  generalize W1.heap.size = B at *
  generalize hD : B + 1 = D at *
  clear k1 k2 e1 HTM1 HC1 HBB1 HA0 HB0 cN hD
  have e1 : W5.cell? ⟨D, 0, none⟩ = some (.func (.func 49) #[] #[ptrV A, ptrV B, ptrV C, ptrV D]) := Lib.cell_of_heap HW5.out.f 0
  by_cases hc : c < 1
  · have HF : Hid (t = false) := Lib.hid (by
      cases t with
      | false => rfl
      | true => have := (HT.out.1 rfl).1; omega)
    have hcb := decide_eq_true hc
    go_wp2
    go_ret2
    rw [HF.out]
    exact ⟨fun _ => ⟨rfl, by first | exact HW5.out.b0 | (rw [← hA]; exact HW5.out.b0)⟩, fun h => by cases h⟩
  have hcb := decide_eq_false hc
  have hc1 : 1 ≤ c := by omega
  have cI := fill_c w b mb n A B C D F G c HM.out HSM.out 202 0 [] 0 W5 (by omega) (good_nil hc1) rfl (by simp) (by simp) HW5.out
  unfold FillPost at cI
  have HALL : Hid (fillI G c 202 ((0 : Nat) : Int) ([], 0) = fillAll G c) := Lib.hid rfl
  rw [HALL.out] at cI
  have HOK := Lib.hid (fun h => fillAll_ok (G := G) hc1 h)
  cases hr : (fillAll G c).1 with
  | false =>
    have HF : Hid (t = false) := Lib.hid (by
      cases t with
      | false => rfl
      | true => have := (HT.out.1 rfl).2.1; rw [hr] at this; cases this)
    rw [hr] at cI
    clear hr
    go_wp2_with (go_at_call 49; refine cI.mono ?_; rintro e w6 ⟨rfl, hb6, _⟩; have HB6 := Lib.hid hb6; clear hb6)
    go_ret2
    rw [HF.out]
    exact ⟨fun _ => ⟨rfl, by first | exact HB6.out | (rw [← hA]; exact HB6.out)⟩, fun h => by cases h⟩
  | true =>
    obtain ⟨l, h1, hg, hdn, hfu⟩ := HOK.out hr
    rw [hr, h1] at cI
    have HR1 := Lib.hid h1
    have HG := Lib.hid hg
    have HR := Lib.hid hr
    simp only [true_implies] at cI
    clear hr h1 hg hdn hfu
    generalize 1 + (dirNodes l).length = f at *
    by_cases hfc : f = cnt
    · subst hfc
      have HF : Hid (t = true) := Lib.hid (HT.out.2 ⟨hc1, HR.out, by rw [HR1.out]⟩)
      go_upto_region 8 with (go_at_call 49; refine cI.mono ?_; rintro e w6 ⟨rfl, hb6, hw6⟩; have HW6 := Lib.hid hw6; clear hb6 hw6; have q1 : w6.cell? ⟨B, 0, none⟩ = some (.int .i64 (f : Int)) := Lib.cell_of_heap HW6.out.n 0; have q2 : w6.cell? ⟨A, 0, none⟩ = some (.map (some mb)) := Lib.cell_of_heap HW6.out.a 0; have q3 := fun ty => (HMF.out.below HW6.out.b0).len Tryz.underlying77 ty)
      obtain ⟨R, htm⟩ := HW6.out.tm
      have HTM := Lib.hid htm
      have HFB : Hid (∀ W, Below w6.heap.size w6 W → (W.frozen? ⟨b, 402, none⟩ = false ∧ W.frozen? ⟨b, 403, none⟩ = false ∧ W.frozen? ⟨b, 404, none⟩ = false) ∧ W.cell? ⟨b, 402, none⟩ = some (.int .i64 200) ∧ W.cell? ⟨b, 403, none⟩ = some (.int .i64 0) ∧ W.cell? ⟨b, 404, none⟩ = some (.slice none 0 0)) := Lib.hid (fun W hW => by
        obtain ⟨cs, hcs, hO⟩ := (HTM.out.below hW).cells
        exact ⟨⟨Lib.frozen_of_heap hcs _, Lib.frozen_of_heap hcs _, Lib.frozen_of_heap hcs _⟩, (Lib.cell_of_heap hcs _).trans hO.most, (Lib.cell_of_heap hcs _).trans hO.used, (Lib.cell_of_heap hcs _).trans hO.wait⟩)
      have HCC : Hid (∀ W, Below w6.heap.size w6 W → W.cell? ⟨C, 0, none⟩ = some (ptrV b)) := Lib.hid (fun W hW => Lib.cell_of_heap ((hW.block _ (lt_of_get HW6.out.t)).trans HW6.out.t) 0)
      have HCB : Hid (C ≠ b) := Lib.hid (by
        obtain ⟨cs, hcs, _⟩ := htm.cells
        exact typ_ne HW6.out.t hcs (by decide))
      have HCS : Hid (∀ (W : World) (x y z : Value), W.cell? ⟨C, 0, none⟩ = some (ptrV b) → (((W.setCell ⟨b, 402, none⟩ x).setCell ⟨b, 403, none⟩ y).setCell ⟨b, 404, none⟩ z).cell? ⟨C, 0, none⟩ = some (ptrV b)) := Lib.hid (fun W x y z h => by
        rw [World.cell?_of_block (Below.heap_setCell _ _ _ _ HCB.out), World.cell?_of_block (Below.heap_setCell _ _ _ _ HCB.out), World.cell?_of_block (Below.heap_setCell _ _ _ _ HCB.out)]
        exact h)
      have cU : Hid (∀ W, Below w6.heap.size w6 W → Calls Tryz.prog 52 #[ptrV b] W (UsedPost (usedK (kindN l) 201) W)) := Lib.hid (fun W hW => used_c (HTM.out.below hW) (fun n _ => kind_three l n))
      have cNw : Hid (∀ v W, NumsIs W v (usedK (kindN l) 201) → Calls Tryz.prog 35 #[.int .i64 200, v] W (NewPost 200 (usedRow l) W)) := Lib.hid (fun v W hv => by
        have h9 := new_c 200 v _ W hv (Nat.le_trans (usedK_le _ _) (by omega))
        rw [show mostN 200 = 200 from rfl, mk_used] at h9
        exact h9)
      unfold UsedPost at cU
      unfold NewPost at cNw
      clear htm q1 q2 q3 cI
      have hs6 := HCC.out w6.drew (Below.refl _ _).drew
      go_region_with (first
        | (go_at_call 52; refine (cU.out w6.drew (Below.refl _ _).drew).mono ?_; rintro e w7 ⟨vu, rfl, hnu, hb7⟩; have hq7 : Below w6.heap.size w6 w7 := below_step (Nat.le_refl _) (Below.refl _ _).drew hb7; have hC7 := HCC.out w7 hq7)
        | (go_at_call 35; refine (cNw.out vu w7 hnu).mono ?_; rintro e w8 ⟨pb, vp, rfl, hpl, hpool⟩; obtain ⟨u8, ys8, hbox, hgd, hrow⟩ := hpool; have hq8 : Below w6.heap.size w6 w8 := hq7.trans ((hbox.keep.below hpl (Nat.le_refl _) (fun k hk => (by cases hk))).mono hq7.size); have hk0 : w8.cell? ⟨pb, 0, none⟩ = some (.int .i64 200) := Lib.cell_of_heap hbox.at' 0; have hk1 : w8.cell? ⟨pb, 1, none⟩ = some (.int .i64 (u8 : Int)) := Lib.cell_of_heap hbox.at' 1; have hk2 : w8.cell? ⟨pb, 2, none⟩ = some vp := Lib.cell_of_heap hbox.at' 2; obtain ⟨av, nv, cv, hvp⟩ := own_form hbox.own; subst hvp; obtain ⟨⟨f2, f3, f4⟩, f5, f6, f7⟩ := HFB.out w8 hq8; have hC8 := HCC.out w8 hq8))
      all_goals
        have hC9 := HCS.out w8 (.int .i64 200) (.int .i64 (u8 : Int)) (.slice av nv cv) hC8
        have hTM9 := (HTM.out.below hq8).newPool (own_mono hbox.own (show b + 1 ≤ pb + 1 by have := (HTM.out.below hq7).blt; omega)) hgd
        have HTM9 := Lib.hid hTM9
        have HRW := Lib.hid hrow
        have HBW : Hid (Below w.heap.size w (((w8.setCell ⟨b, 402, none⟩ (.int .i64 200)).setCell ⟨b, 403, none⟩ (.int .i64 (u8 : Int))).setCell ⟨b, 404, none⟩ (.slice av nv cv))) := Lib.hid (by
          have h9 := HW6.out.b0.trans (hq8.mono HW6.out.b0.size)
          exact ((h9.setCell (p := ⟨b, 402, none⟩) HW6.out.hb _).setCell (p := ⟨b, 403, none⟩) HW6.out.hb _).setCell (p := ⟨b, 404, none⟩) HW6.out.hb _)
        clear hTM9 hrow hq7 hq8 hb7 hnu hbox hk0 hk1 hk2 f2 f3 f4 f5 f6 f7 hC7 hC8 hpl
        generalize (((w8.setCell ⟨b, 402, none⟩ (.int .i64 200)).setCell ⟨b, 403, none⟩ (.int .i64 (u8 : Int))).setCell ⟨b, 404, none⟩ (.slice av nv cv)) = W9 at *
        go_wp2
        go_ret2
        refine ⟨fun h => (by rw [HF.out] at h; cases h), fun _ => ⟨b, Foot b R (.slice av nv cv), rfl, ?_, fun k hk => Nat.le_trans HW6.out.hb (HTM9.out.lt k hk).1, HBW.out⟩⟩
        rw [HR1.out]
        exact ⟨R, u8, .slice av nv cv, ys8, HTM9.out, HRW.out.symm, HG.out, rfl⟩
    · have HF : Hid (t = false) := Lib.hid (by
        cases t with
        | false => rfl
        | true => have := (HT.out.1 rfl).2.2; rw [HR1.out] at this; exact absurd this hfc)
      have n1 : ¬ (f : Int) = (cnt : Int) := by omega
      have n2 : ((f : Int) == (cnt : Int)) = false := beq_eq_false_iff_ne.2 n1
      have n3 : ((f : Int) != (cnt : Int)) = true := by rw [bne, n2]; rfl
      go_wp2_with (go_at_call 49; refine cI.mono ?_; rintro e w6 ⟨rfl, hb6, hw6⟩; have HW6 := Lib.hid hw6; clear hb6 hw6; have q1 : w6.cell? ⟨B, 0, none⟩ = some (.int .i64 (f : Int)) := Lib.cell_of_heap HW6.out.n 0; have q2 : w6.cell? ⟨A, 0, none⟩ = some (.map (some mb)) := Lib.cell_of_heap HW6.out.a 0; have q3 := fun ty => (HMF.out.below HW6.out.b0).len Tryz.underlying77 ty)
      go_ret2
      rw [HF.out]
      exact ⟨fun _ => ⟨rfl, by first | exact HW6.out.b0 | (rw [← hA]; exact HW6.out.b0)⟩, fun h => by cases h⟩
end Go.Proofs.YtddobjhahohhhaaGreat
