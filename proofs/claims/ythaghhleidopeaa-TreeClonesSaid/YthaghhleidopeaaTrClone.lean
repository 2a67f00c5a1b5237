/-
  The tree's Clone; Same of two trees that have the same.
-/
import Derived.Test.YthaghhleidopeaaTrTheTree
import Derived.Test.YthaghhleidopeaaR10Same
import Derived.Deep.WholeRow
import Derived.Deep.MidRow
namespace Go.Proofs.Ythaghhleidopeaa
open Go.RowKit Go.Sort
set_option linter.unusedVariables false

def zTree : Array Value := (nilNodes 201 ++ ([.int .i64 0, .int .i64 0, .slice none 0 0, .int .i64 0] : List Value)).toArray
theorem zTree_size : zTree.size = 406 := by
  unfold zTree
  rw [List.size_toArray, List.length_append, nilNodes_len]
  rfl
theorem zero_tree (W : World) : (zeroValue 84).run Try.prog W = .ok (.agg zTree) W := (zero_of_info (P := Try.prog) (t := 84) (v := .agg zTree) (n := 406) (by kernel_rfl)).1 W
theorem Try.infoTreeS : (Try.prog.info? 84).map (·.size) = some 406 := (zero_of_info (P := Try.prog) (t := 84) (v := .agg zTree) (n := 406) (by kernel_rfl)).2
section
variable {w : World} {b : Nat} {K : Nat → Int} {E : Nat → List Ent} {R : Nat → Value} {u : Nat} {v : Value} {ys : List Int} {c : Int}
theorem one_slice {v : Value} (h : ∃ a n cap, v = .slice a n cap) : v.oneCell' = true := by
  obtain ⟨a, n, cap, rfl⟩ := h
  rfl
theorem treeO_one {cs : Array Value} (h : TreeO cs K R u v c) (hr : ∀ n, n ≤ 200 → ∃ a m cap, R n = .slice a m cap) (hv : ∃ a m cap, v = .slice a m cap) : cs.all (·.oneCell') = true := by
  rw [Array.all_eq_true]
  intro k hk
  have hs := h.size
  have key : ∃ x, cs[k]? = some x ∧ x.oneCell' = true := by
    by_cases h1 : k < 402
    · rcases Nat.mod_two_eq_zero_or_one k with h2 | h2
      · exact ⟨_, (by have := h.kind (k / 2) (by omega); rw [show k / 2 * 2 = k by omega] at this; exact this), rfl⟩
      · exact ⟨_, (by have := h.row (k / 2) (by omega); rw [show k / 2 * 2 + 1 = k by omega] at this; exact this), one_slice (hr _ (by omega))⟩
    · have : k = 402 ∨ k = 403 ∨ k = 404 ∨ k = 405 := by omega
      rcases this with rfl | rfl | rfl | rfl
      · exact ⟨_, h.most, rfl⟩
      · exact ⟨_, h.used, rfl⟩
      · exact ⟨_, h.wait, one_slice hv⟩
      · exact ⟨_, h.cook, rfl⟩
  obtain ⟨x, h1, h2⟩ := key
  rw [Array.getElem?_eq_getElem hk] at h1
  rw [Option.some.inj h1]
  exact h2
/-- What a clone has come to: the nodes below n have rows of their own. -/
structure ClI (w0 : World) (W : World) (b2 n : Nat) (K : Nat → Int) (E : Nat → List Ent) (R R' : Nat → Value) (u : Nat) (v : Value) (ys : List Int) (c : Int) : Prop where
  cells : ∃ cs, W.heap[b2]? = some (.cells cs 84 (0, 0)) ∧ TreeO cs K R' u v c
  rows : ∀ j, j < n → W.ownsRow (b2 + 1) 40 5 (R' j) (E j).length ((E j).flatMap entC)
  apart : ∀ i j g, i < n → j < n → (R' i).ownBlock = some g → (R' j).ownBlock = some g → i = j
  rest : ∀ j, n ≤ j → j ≤ 200 → R' j = R j
  own : OwnN (b2 + 1) W v ys
  below : Below w0.heap.size w0 W
  at' : w0.heap.size ≤ b2
set_option maxHeartbeats 8000000 in
set_option maxRecDepth 100000 in
theorem treeClone_c (h : TM w b K E R u v ys c) (hl : ∀ n, n ≤ 200 → (E n).length ≤ 1000) : Calls Try.prog 26 #[ptrV b] w fun e w' => ∃ b2 R' u' v' ys', e = .returned (ptrV b2) ∧ w.heap.size ≤ b2 ∧ TM w' b2 K E R' u' v' ys' c ∧ outRow u' ys' = outRow u ys ∧ Below w.heap.size w w' := by
  obtain ⟨cs, hc, ho⟩ := h.cells
  have hone := treeO_one ho (fun n hn => by
    obtain ⟨a, cap, e⟩ := (h.ents hn).len
    exact ⟨a, _, cap, e⟩) (by
    obtain ⟨a, cap, e⟩ := h.own.len
    exact ⟨a, _, cap, e⟩)
  have hld : (Instr.loadAt 84 (.pointer (some ⟨b, 0, none⟩))).run Try.prog w = .ok (.agg cs) w := by
    have := run_loadAt_mid (P := Try.prog) w b 0 84 cs.toList _ (fun j x hx => by
      rw [Nat.zero_add, cell_of_row _ _ _ _ _ _ hc, ← Array.getElem?_toList]
      exact hx) Try.underlying84 rfl (by rw [Array.length_toList, ho.size]; exact Try.infoTreeS)
    rwa [Array.toArray_toList] at this
  have hst : (Instr.storeAt 84 (.pointer (some ⟨w.heap.size, 0, none⟩)) (.agg cs)).run Try.prog (w.alloc (.cells zTree 84)) = .ok () (w.alloc (.cells cs 84)) := run_storeAt_new (P := Try.prog) w 84 zTree cs (by rw [ho.size]; exact Try.infoTreeS) (by rw [zTree_size, ho.size]) hone
  have hst2 : (storeCells ⟨w.heap.size, 0, none⟩ cs.toList 0).run Try.prog (w.alloc (.cells zTree 84)) = .ok () (w.alloc (.cells cs 84)) := run_storeCells_new (P := Try.prog) w 84 zTree cs (by rw [ho.size]; exact Try.infoTreeS) (by rw [zTree_size, ho.size]) hone
  have hsz : cs.size = 406 := ho.size
  have HZ := zero_tree
  have HO := Lib.hid ho
  have HT := Lib.hid h
  have HL := Lib.hid hl
  have hb0 : Below w.heap.size w (w.alloc (.cells cs 84)) := (Below.refl _ w).alloc (Nat.le_refl _) _
  have HB0 := Lib.hid hb0
  have HN0 : Hid ((w.alloc (.cells cs 84)).heap[w.heap.size]? = some (.cells cs 84 (0, 0))) := Lib.hid (heap_alloc_new _ _)
  generalize zTree = Z at *
  clear h hl hc ho hone hb0
  go_enter Try.func26, Try.ntmps26
  go_upto_region 2 with (first
    | ((with_reducible refine wpL_load 84 _ (.pointer (some ⟨b, 0, none⟩)) (.agg cs) ?_ ?_ ?_); exact rfl; exact hld)
    | ((with_reducible refine wpL_store 84 _ _ (.pointer (some ⟨w.heap.size, 0, none⟩)) (.agg cs) ?_ ?_ ?_ ?_); exact rfl; exact rfl; exact hst))
  have cC := Emb.clone_c _ v.ownBlock 200 b v (outRow u ys) _ (HT.out.below HB0.out).poolIs
  unfold ClonePost at cC
  generalize (w.alloc (.cells cs 84)) = W1 at *
  clear hst hst2 hld HZ hsz
  generalize hb2 : w.heap.size = b2 at *
  have HB2 := Lib.hid hb2
  clear hb2
  go_upto_region 3 with (go_at_call 49; refine cC.mono ?_; rintro e w2 ⟨pb, v2, rfl, hpb, hP⟩; obtain ⟨u2, ys2, hbx, hg2, hl2⟩ := hP; have HBX := Lib.hid hbx; have HG2 := Lib.hid hg2; have HL2 := Lib.hid hl2; obtain ⟨k0, k1, k2⟩ : w2.cell? ⟨pb, 0, none⟩ = some (.int .i64 ((200 : Nat) : Int)) ∧ w2.cell? ⟨pb, 1, none⟩ = some (.int .i64 (u2 : Int)) ∧ w2.cell? ⟨pb, 2, none⟩ = some v2 := ⟨Lib.cell_of_heap hbx.at' 0, Lib.cell_of_heap hbx.at' 1, Lib.cell_of_heap hbx.at' 2⟩; have hw12 : Below W1.heap.size W1 w2 := hbx.keep.below hpb (Nat.le_refl _) (fun k hk => by cases hk); have hc2 : w2.heap[b2]? = some (.cells cs 84 (0, 0)) := (hw12.block b2 (lt_of_get HN0.out)).trans HN0.out; have HC2 := Lib.hid hc2; have HW12 := Lib.hid hw12; obtain ⟨m0, m1, m2⟩ : w2.cell? ⟨b2, 402, none⟩ = some (.int .i64 ((200 : Nat) : Int)) ∧ w2.cell? ⟨b2, 403, none⟩ = some (.int .i64 (u : Int)) ∧ w2.cell? ⟨b2, 404, none⟩ = some v := ⟨(cell_of_row _ _ _ _ _ _ hc2).trans HO.out.most, (cell_of_row _ _ _ _ _ _ hc2).trans HO.out.used, (cell_of_row _ _ _ _ _ _ hc2).trans HO.out.wait⟩; obtain ⟨f0, f1, f2⟩ : w2.frozen? ⟨b2, 402, none⟩ = false ∧ w2.frozen? ⟨b2, 403, none⟩ = false ∧ w2.frozen? ⟨b2, 404, none⟩ = false := ⟨Lib.frozen_of_heap hc2 _, Lib.frozen_of_heap hc2 _, Lib.frozen_of_heap hc2 _⟩; obtain ⟨a2, c2, hv2⟩ := hbx.own.len; subst hv2; clear hbx hg2 hl2 hw12 hc2)
  have HI0 : Hid (ClI w (((w2.setCell ⟨b2, 402, none⟩ (.int .i64 ((200 : Nat) : Int))).setCell ⟨b2, 403, none⟩ (.int .i64 (u2 : Int))).setCell ⟨b2, 404, none⟩ (.slice a2 ys2.length c2)) b2 0 K E R R u2 (.slice a2 ys2.length c2) ys2 c) := Lib.hid (by
    have hlt := lt_of_get HN0.out
    have hbb : Below b2 w w2 := HB0.out.trans (HW12.out.mono (Nat.le_of_lt hlt))
    refine ⟨⟨_, heap_setCell_same _ b2 404 _ _ _ (heap_setCell_same _ b2 403 _ _ _ (heap_setCell_same _ b2 402 _ _ _ HC2.out)), HO.out.pool u2 _⟩, fun j hj => absurd hj (Nat.not_lt_zero _), fun i j g hi => absurd hi (Nat.not_lt_zero _), fun j _ _ => rfl, ?_, ?_, by rw [HB2.out]; exact Nat.le_refl _⟩
    · have ho2 := HBX.out.own
      refine ownsRow_same (w := w2) (B := b2 + 1) ⟨ho2.1, ?_⟩ (fun g hg => ?_)
      · rcases ho2.2 with h1 | ⟨g, cap, cur, hv, hg, h1⟩
        · exact Or.inl h1
        · exact Or.inr ⟨g, cap, cur, hv, by omega, h1⟩
      · have := (World.ownsRow.lt ho2 g hg).1
        rw [Below.heap_setCell _ _ _ _ (by show g ≠ b2; omega), Below.heap_setCell _ _ _ _ (by show g ≠ b2; omega), Below.heap_setCell _ _ _ _ (by show g ≠ b2; omega)]
    · rw [HB2.out]
      exact ((hbb.setCell (p := ⟨b2, 402, none⟩) (Nat.le_refl _) _).setCell (p := ⟨b2, 403, none⟩) (Nat.le_refl _) _).setCell (p := ⟨b2, 404, none⟩) (Nat.le_refl _) _)
  clear k0 k1 k2 m0 m1 m2 f0 f1 f2 cC
  go_upto_region 3 with fail
  clear HB0 HN0 HBX HC2 HW12
  go_wp2
  go_loopw [15] (fun iv wr => ∃ (n : Nat) (R' : Nat → Value), n ≤ 201 ∧ iv = .int .i64 n ∧ ClI w wr b2 n K E R R' u2 (.slice a2 ys2.length c2) ys2 c) (fun iv _ => 201 - (intOf iv).toNat)
  case atStart => exact ⟨0, R, by omega, rfl, HI0.out⟩
  case round =>
    obtain ⟨n, R', hn, rfl, hcl⟩ := hrel
    have HCL := Lib.hid hcl
    by_cases hn2 : n ≤ 200
    · have hnz : (n : Int) < 201 := by omega
      have hn0 : (0 : Int) ≤ (n : Int) := by omega
      have htm := HT.out.below hcl.below
      have he := htm.ents hn2
      have cE := eclone_c (R n) (E n) wr he (HL.out n hn2)
      unfold ECPost at cE
      obtain ⟨cs9, hc9, ho9⟩ := hcl.cells
      have HC9 := Lib.hid hc9
      have HO9 := Lib.hid ho9
      have c1 : wr.cell? ⟨b2, n * 2 + 1, none⟩ = some (R n) := by
        rw [cell_of_row _ _ _ _ _ _ hc9, ho9.row n hn2, hcl.rest n (Nat.le_refl _) hn2]
      obtain ⟨a9, cap9, hr9⟩ := he.len
      rw [hr9] at c1 cE
      clear hcl htm he hc9 ho9 hr9
      go_wp2_with (go_at_call 34; refine cE.mono ?_; rintro e w3 ⟨v3, rfl, ho3, hb3⟩; obtain ⟨a3, c3, hv3⟩ := ownsRow_slice ho3; subst hv3; have HO3 := Lib.hid ho3; have HB3 := Lib.hid hb3; have hc3 := (hb3.block b2 (lt_of_get HC9.out)).trans HC9.out; have HC3 := Lib.hid hc3; have m1 : w3.cell? ⟨b2, n * 2 + 1, none⟩ = some (R' n) := (cell_of_row _ _ _ _ _ _ hc3).trans (HO9.out.row n hn2); have f1 : w3.frozen? ⟨b2, n * 2 + 1, none⟩ = false := Lib.frozen_of_heap hc3 _; clear ho3 hb3 hc3)
      go_roundw
      case rel =>
        refine ⟨n + 1, upd R' n (.slice a3 (E n).length c3), by omega, by first | rfl | go_num, ?_⟩
        have hcl := HCL.out
        have hsz := HB3.out.size
        have hb2l := lt_of_get HC9.out
        have hf : ∀ g, g ≠ b2 → (w3.setCell ⟨b2, n * 2 + 1, none⟩ (.slice a3 (E n).length c3)).heap[g]? = w3.heap[g]? := fun g hg => Below.heap_setCell _ _ _ _ hg
        refine ⟨⟨_, heap_setCell_same w3 b2 (n * 2 + 1) _ _ _ HC3.out, HO9.out.setRow hn2 _⟩, fun j hj => ?_, fun i j g hi hj h1 h2 => ?_, fun j hj1 hj2 => ?_, ?_, ?_, hcl.at'⟩
        · by_cases e : j = n
          · subst e
            rw [upd_same]
            refine ownsRow_same (w := w3) ⟨HO3.out.1, ?_⟩ (fun g hg => hf g (by have := (HO3.out.lt g hg).1; omega))
            rcases HO3.out.2 with h1 | ⟨g, cap, cur, hv, hg, h1⟩
            · exact Or.inl h1
            · exact Or.inr ⟨g, cap, cur, hv, by omega, h1⟩
          · rw [upd_ne _ _ e]
            have hr := hcl.rows j (by omega)
            exact ownsRow_same hr (fun g hg => by
              have := hr.lt g hg
              rw [hf g (by omega)]
              exact HB3.out.block g this.2)
        · by_cases e1 : i = n
          · by_cases e2 : j = n
            · rw [e1, e2]
            · rw [e1, upd_same] at h1
              rw [upd_ne _ _ e2] at h2
              have := (HO3.out.lt g h1).1
              have := ((hcl.rows j (by omega)).lt g h2).2
              omega
          · rw [upd_ne _ _ e1] at h1
            by_cases e2 : j = n
            · rw [e2, upd_same] at h2
              have := (HO3.out.lt g h2).1
              have := ((hcl.rows i (by omega)).lt g h1).2
              omega
            · rw [upd_ne _ _ e2] at h2
              exact hcl.apart i j g (by omega) (by omega) h1 h2
        · rw [upd_ne _ _ (by omega)]
          exact hcl.rest j (by omega) hj2
        · exact ownsRow_same hcl.own (fun g hg => by
            have := World.ownsRow.lt hcl.own g hg
            rw [hf g (by omega)]
            exact HB3.out.block g this.2)
        · exact (hcl.below.trans (HB3.out.mono hcl.below.size)).setCell (p := ⟨b2, n * 2 + 1, none⟩) hcl.at' _
      case measure => simp [intOf]; omega
    · have hnz : ¬ (n : Int) < 201 := by omega
      obtain rfl : n = 201 := by omega
      have HX : Hid (TM wr b2 K E R' u2 (.slice a2 ys2.length c2) ys2 c) := Lib.hid ⟨hcl.cells, fun j hj => hcl.rows j (by omega), fun i j g hi hj => hcl.apart i j g (by omega) (by omega), hcl.own, HG2.out⟩
      have HBX := Lib.hid hcl.below
      have hat := hcl.at'
      clear hcl
      go_wp2
      go_ret
      refine ⟨b2, rfl, hat, ?_⟩
      have hfin := And.intro HX.out (And.intro HL2.out.symm HBX.out)
      first
        | exact ⟨R', u2, _, ys2, hfin⟩
        | exact ⟨R', u2, _, ⟨ys2, HX.out, HL2.out.symm⟩, HBX.out⟩
        | exact ⟨⟨R', u2, _, ys2, HX.out, HL2.out.symm⟩, HBX.out⟩
set_option maxHeartbeats 4000000 in
/-- The library's Equal of two rows of the same entries. -/
theorem eequal_c (v1 v2 : Value) (l : List Ent) (w : World) (h1 : EntsIs w v1 l) (h2 : EntsIs w v2 l) (hl : l.length ≤ 100000) :
    Calls Try.prog 50 #[v1, v2] w fun e w' => e = .returned (.bool true) ∧ ∃ q, w' = w.drewN q := by
  obtain ⟨a1, cap1, rfl⟩ := h1.len
  obtain ⟨a2, cap2, rfl⟩ := h2.len
  have H1 := Lib.hid h1
  have H2 := Lib.hid h2
  obtain ⟨n1, hn1⟩ : ∃ n, l.length = n := ⟨_, rfl⟩
  have HN1 := Lib.hid hn1
  rw [hn1] at hl ⊢
  clear h1 h2 hn1
  go_enter Try.func50, Try.ntmps50
  go_wp2
  go_loopw [13] (fun iv wr => ∃ i : Nat, i ≤ n1 ∧ iv = .int .i64 i ∧ ∃ q, wr = w.drewN q) (fun iv _ => n1 - (intOf iv).toNat)
  case atStart => exact ⟨0, by omega, rfl, 0, rfl⟩
  case round =>
    obtain ⟨i, hi, rfl, q, hq⟩ := hrel
    have HQ := Lib.hid hq
    clear hq
    by_cases hin : i < n1
    · have hiz : (i : Int) < (n1 : Int) := by omega
      obtain ⟨x, hx⟩ : ∃ x, l[i]? = some x := ⟨_, List.getElem?_eq_getElem (by rw [HN1.out]; omega)⟩
      have hb : Below w.heap.size w wr := by rw [HQ.out]; exact below_drewN1 (Below.refl _ _) q
      obtain ⟨g1, o1, rfl, hg1, r1⟩ := (LstIs.kept H1.out hb).at hx
      obtain ⟨g2, o2, rfl, hg2, r2⟩ := (LstIs.kept H2.out hb).at hx
      obtain ⟨d0, d1, d2, d3, d4⟩ := ent_at r1
      obtain ⟨e0, e1, e2, e3, e4⟩ := ent_at r2
      have hcmp := ent_neq x x
      rw [decide_eq_true rfl] at hcmp
      have hgd := fun op a b => ent_guard op a b x x
      clear hx r1 r2 hg1 hg2 hb
      obtain ⟨xn, xa, xb, xc, xd⟩ := x
      simp only at d0 d1 d2 d3 d4 e0 e1 e2 e3 e4
      unfold entV at hcmp hgd
      go_wp2
      go_quiet (fail)
      go_wp2
      go_roundw
      case rel => exact ⟨i + 1, by omega, by first | rfl | go_num, _, by rw [HQ.out, World.drewN_drewN]⟩
      case measure => simp [intOf]; omega
    · have hge : ¬ ((i : Int) < (n1 : Int)) := by omega
      go_wp2
      go_ret
      exact ⟨rfl, q, HQ.out⟩
set_option maxHeartbeats 4000000 in
set_option maxRecDepth 100000 in
/-- Two trees of the same entries, and the same next cookie. -/
theorem treeSame_c {b' : Nat} {K' : Nat → Int} {E' : Nat → List Ent} {R' : Nat → Value} {u' : Nat} {v' : Value} {ys' : List Int} (h : TM w b K E R u v ys c) (h' : TM w b' K' E' R' u' v' ys' c) (hE : ∀ n, n ≤ 200 → E' n = E n) (hl : ∀ n, n ≤ 200 → (E n).length ≤ 1000) :
    Calls Try.prog 27 #[ptrV b, ptrV b'] w fun e w' => e = .returned (.bool true) ∧ ∃ q, w' = w.drewN q := by
  have HT := Lib.hid h
  have HT' := Lib.hid h'
  have HE := Lib.hid hE
  have HL := Lib.hid hl
  clear h h' hE hl
  go_enter Try.func27, Try.ntmps27
  go_wp2
  go_loopw [6] (fun iv wr => ∃ i : Nat, i ≤ 201 ∧ iv = .int .i64 i ∧ ∃ q, wr = w.drewN q) (fun iv _ => 201 - (intOf iv).toNat)
  case atStart => exact ⟨0, by omega, rfl, 0, rfl⟩
  case round =>
    obtain ⟨i, hi, rfl, q, hq⟩ := hrel
    have HQ := Lib.hid hq
    have hb : Below w.heap.size w wr := by rw [hq]; exact below_drewN1 (Below.refl _ _) q
    have ht := HT.out.below hb
    have ht' := HT'.out.below hb
    clear hq hb
    by_cases hin : i ≤ 200
    · have hiz : (i : Int) < 201 := by omega
      have hi0 : (0 : Int) ≤ (i : Int) := by omega
      have c1 := (ht.rcell hin).1
      have c2 := (ht'.rcell hin).1
      have he2 := ht'.ents hin
      rw [HE.out i hin] at he2
      have cS : ∀ p, Calls Try.prog 50 #[R i, R' i] (wr.drewN p) fun e w' => e = .returned (.bool true) ∧ ∃ q, w' = (wr.drewN p).drewN q := fun p => eequal_c (R i) (R' i) (E i) (wr.drewN p) (LstIs.kept (ht.ents hin) (below_drewN1 (Below.refl _ _) p)) (LstIs.kept he2 (below_drewN1 (Below.refl _ _) p)) (by have := HL.out i hin; omega)
      obtain ⟨a1, cap1, e1⟩ := (ht.ents hin).len
      obtain ⟨a2, cap2, e2⟩ := he2.len
      rw [e1] at c1 cS
      rw [e2] at c2 cS
      clear ht ht' he2 e1 e2
      go_wp2
      go_quiet ((go_at_call 50; exact Calls.quiet_of (cS _)))
      go_wp2
      go_roundw
      case rel => exact ⟨i + 1, by omega, by first | rfl | go_num, _, by rw [HQ.out, World.drewN_drewN]⟩
      case measure => simp [intOf]; omega
    · have hiz : ¬ (i : Int) < 201 := by omega
      have c1 := ht.ccell.1
      have c2 := ht'.ccell.1
      have hcc : (c == c) = true := by simp
      clear ht ht'
      go_wp2
      go_quiet (fail)
      go_wp2
      go_ret
      exact ⟨rfl, _, by rw [HQ.out, World.drewN_drewN]⟩
end
theorem theClone {w : World} {b : Nat} {l : List Itm} {nx : Int} {S : Nat → Prop} (h : theTree.Is w b l nx S) : Calls Try.prog 26 #[ptrV b] w fun e w' => ∃ b2 S2, e = .returned (ptrV b2) ∧ theTree.Is w' b2 l nx S2 ∧ (∀ k, S2 k → w.heap.size ≤ k) ∧ Below w.heap.size w w' := by
  obtain ⟨R, u, v, ys, hm, ho, hg, _⟩ := h
  refine (treeClone_c hm (fun n hn => Nat.le_trans (hg.elen n) (by omega))).mono ?_
  rintro e w' ⟨b2, R', u', v', ys', rfl, hle, hm', ho', hb⟩
  exact ⟨b2, Foot b2 R' v', rfl, ⟨R', u', v', ys', hm', ho'.trans ho, hg, rfl⟩, fun k hk => Nat.le_trans hle (hm'.lt k hk).1, hb⟩
theorem theSame {w : World} {b b' : Nat} {l : List Itm} {nx : Int} {S S' : Nat → Prop} (h : theTree.Is w b l nx S) (h' : theTree.Is w b' l nx S') : Calls Try.prog 27 #[ptrV b, ptrV b'] w fun e w' => e = .returned (.bool true) ∧ Below w.heap.size w w' := by
  obtain ⟨R, u, v, ys, hm, ho, hg, _⟩ := h
  obtain ⟨R', u', v', ys', hm', ho', hg', _⟩ := h'
  refine (treeSame_c hm hm' (fun _ _ => rfl) (fun n hn => Nat.le_trans (hg.elen n) (by omega))).mono ?_
  rintro e w' ⟨rfl, q, rfl⟩
  exact ⟨rfl, below_drewN1 (Below.refl _ _) q⟩
end Go.Proofs.Ythaghhleidopeaa
