/-
  Prepared for stage 10: the reference's drop.
-/
import Derived.Test.YthaghhleidopeaaR10Put
namespace Go.Proofs.Ythaghhleidopeaa
open Go.RowKit Go.Sort
set_option linter.unusedVariables false

theorem dropI_snoc {l : List Itm} {i : Nat} {x : Itm} (h : l[i]? = some x) (d : Int) (s : ByteArray) : dropI (l.take (i + 1)) d s = dropI (l.take i) d s ++ (if x.inn = d ∧ x.e.name = s then [] else [x]) := by
  unfold dropI
  rw [take_snoc h, List.filter_append]
  congr 1
  by_cases h1 : x.inn = d <;> by_cases h2 : x.e.name = s <;> simp [h1, h2]
theorem dropI_le (l : List Itm) (d : Int) (s : ByteArray) : (dropI l d s).length ≤ l.length := List.length_filter_le _ _
/-- A tree's block and an own row. -/
theorem two_cells {W : World} {b : Nat} {v0 v1 : Value} {T : TypeId} (h : W.heap[b]? = some (.cells #[v0, v1] T (0, 0))) :
    (W.cell? ⟨b, 0, none⟩ = some v0 ∧ W.cell? ⟨b, 1, none⟩ = some v1) ∧ (W.frozen? ⟨b, 0, none⟩ = false ∧ W.frozen? ⟨b, 1, none⟩ = false) :=
  ⟨⟨by rw [cell_of_row _ _ _ _ _ _ h]; rfl, by rw [cell_of_row _ _ _ _ _ _ h]; rfl⟩, ⟨frozen_of_row _ _ _ _ _ h, frozen_of_row _ _ _ _ _ h⟩⟩
theorem below_set1 {B : Nat} {W0 W : World} {x : Value} (h : Below B W0 W) : Below B W0 (W.setCell ⟨B, 0, none⟩ x) := h.setCell (p := ⟨B, 0, none⟩) (Nat.le_refl _) _
theorem treeElem_zero : (Try.prog.info? 48).map (·.size) = some 2 := by kernel_rfl
set_option maxHeartbeats 8000000 in
set_option maxRecDepth 100000 in
theorem drop10_c (v : Value) (l : List Itm) (nx d : Int) (s : ByteArray) (w : World) (hv : ItmsIs w v l) (hl : l.length ≤ 1000) :
    Calls Try.prog 48 #[treeV v nx, .int .i64 d, .string s] w (TreePost (dropI l d s) nx w) := by
  unfold TreePost
  obtain ⟨a, cap, rfl⟩ := hv.len
  obtain ⟨m, hm⟩ : ∃ m, l.length = m := ⟨_, rfl⟩
  have HM := Lib.hid hm
  rw [hm] at hv hl ⊢
  have HV := Lib.hid hv
  unfold treeV
  clear hv hm
  have s1 : (w.alloc (.cells #[.slice a m cap, .int .i64 nx] 48)).heap.size = w.heap.size + 1 := by simp
  have s2 : ((w.alloc (.cells #[.slice a m cap, .int .i64 nx] 48)).alloc (.cells #[.slice none 0 0, .int .i64 0] 48)).heap.size = w.heap.size + 1 + 1 := by simp
  have HT : Hid (TreeAt (((w.alloc (.cells #[.slice a m cap, .int .i64 nx] 48)).alloc (.cells #[.slice none 0 0, .int .i64 0] 48)).alloc (.cells #[.slice none 0 0, .int .i64 nx] 48)) w.heap.size (.slice a m cap) nx) := Lib.hid (by
    unfold TreeAt
    rw [Below.heap_alloc _ _ _ (by rw [s2]; omega), Below.heap_alloc _ _ _ (by rw [s1]; omega)]
    exact heap_alloc_new _ _)
  have HR : Hid ((((w.alloc (.cells #[.slice a m cap, .int .i64 nx] 48)).alloc (.cells #[.slice none 0 0, .int .i64 0] 48)).alloc (.cells #[.slice none 0 0, .int .i64 nx] 48)).heap[w.heap.size + 1]? = some (.cells #[.slice none 0 0, .int .i64 0] 48 (0, 0))) := Lib.hid (by
    rw [Below.heap_alloc _ _ _ (by rw [s2]; omega), ← s1]
    exact heap_alloc_new _ _)
  have HO : Hid ((((w.alloc (.cells #[.slice a m cap, .int .i64 nx] 48)).alloc (.cells #[.slice none 0 0, .int .i64 0] 48)).alloc (.cells #[.slice none 0 0, .int .i64 nx] 48)).heap[w.heap.size + 1 + 1]? = some (.cells #[.slice none 0 0, .int .i64 nx] 48 (0, 0))) := Lib.hid (by
    rw [← s2]
    exact heap_alloc_new _ _)
  have HB : Hid (Below w.heap.size w (((w.alloc (.cells #[.slice a m cap, .int .i64 nx] 48)).alloc (.cells #[.slice none 0 0, .int .i64 0] 48)).alloc (.cells #[.slice none 0 0, .int .i64 nx] 48))) := Lib.hid ((((Below.refl _ w).alloc (Nat.le_refl _) _).alloc (by rw [s1]; omega) _).alloc (by rw [s2]; omega) _)
  go_enter Try.func48, Try.ntmps48
  go_upto_region 2 with fail
  generalize ((w.alloc (.cells #[.slice a m cap, .int .i64 nx] 48)).alloc (.cells #[.slice none 0 0, .int .i64 0] 48)).alloc (.cells #[.slice none 0 0, .int .i64 nx] 48) = W0 at *
  clear s1 s2
  generalize hbT : w.heap.size = bT at *
  have HBT := Lib.hid hbT
  clear hbT
  have hbs : bT + 1 + 1 < W0.heap.size := lt_of_get HO.out
  obtain ⟨BO, hBO⟩ : ∃ BO, W0.heap.size = BO := ⟨_, rfl⟩
  rw [hBO] at hbs
  go_wp2
  go_loopw [8] (fun iv wr => ∃ (i : Nat) (vo : Value), i ≤ m ∧ iv = .int .i64 i ∧ TreeAt wr bT (.slice a m cap) nx ∧ wr.heap[bT + 1]? = some (.cells #[.slice none 0 0, .int .i64 0] 48 (0, 0)) ∧ wr.heap[bT + 1 + 1]? = some (.cells #[vo, .int .i64 nx] 48 (0, 0)) ∧ wr.ownsRow BO 99 6 vo (dropI (l.take i) d s).length ((dropI (l.take i) d s).flatMap itmC) ∧ Below bT w wr ∧ BO ≤ wr.heap.size) (fun iv _ => m - (intOf iv).toNat)
  case atStart => exact ⟨0, _, by omega, rfl, HT.out, HR.out, HO.out, World.ownsRow_nil _ _ _ _, HB.out, by omega⟩
  case round =>
    obtain ⟨i, vo, hi, rfl, ht, hr, ho, hrow, hb, hsz⟩ := hrel
    clear HT HR HO HB
    have HT := Lib.hid ht
    have HR := Lib.hid hr
    have HO := Lib.hid ho
    have HW := Lib.hid hrow
    have HB := Lib.hid hb
    have hlt1 := lt_of_get hr
    clear ht hr ho hrow hb
    obtain ⟨c0, c1⟩ := HT.out.l
    by_cases him : i < m
    · have hiz : (i : Int) < (m : Int) := by omega
      obtain ⟨x, hx⟩ : ∃ x, l[i]? = some x := ⟨_, List.getElem?_eq_getElem (by rw [HM.out]; omega)⟩
      obtain ⟨g, off, rfl, hg, hrg⟩ := HV.out.at hx
      have HD := Lib.hid (dropI_snoc hx d s)
      have hdl := dropI_le (l.take i) d s
      rw [List.length_take] at hdl
      have HDL : Hid ((dropI (l.take i) d s).length ≤ 1000) := Lib.hid (by omega)
      have HGX : Hid (∀ W : World, Below bT w W → (W.cell? ⟨g, off + i * 6, none⟩ = some (.int .i64 x.inn) ∧ W.cell? ⟨g, off + i * 6 + 1, none⟩ = some (.string x.e.name) ∧ W.cell? ⟨g, off + i * 6 + 2, none⟩ = some (.int .i64 x.e.node) ∧ W.cell? ⟨g, off + i * 6 + 3, none⟩ = some (.bool x.e.dir) ∧ W.cell? ⟨g, off + i * 6 + 4, none⟩ = some (.int .i64 x.e.cookie) ∧ W.cell? ⟨g, off + i * 6 + 5, none⟩ = some (.int .i64 x.e.short))) := Lib.hid (fun W hW => itm_at (rangeAt_below hrg hg (by rw [HBT.out]; exact hW)))
      obtain ⟨d0, d1, d2, d3, d4, d5⟩ := HGX.out _ HB.out
      clear hx hrg hdl
      by_cases hin : x.inn = d ∧ x.e.name = s
      · have HD2 : Hid (dropI (l.take (i + 1)) d s = dropI (l.take i) d s) := Lib.hid (by rw [HD.out, if_pos hin, List.append_nil])
        obtain ⟨h1, h2⟩ := hin
        rw [h1] at d0
        rw [h2] at d1
        clear HD
        go_wp2
        go_roundw
        case rel => exact ⟨i + 1, vo, by omega, by first | rfl | go_num, HT.out, HR.out, HO.out, by rw [HD2.out]; exact HW.out, HB.out, by omega⟩
        case measure => simp [intOf]; omega
      · have HD2 : Hid (dropI (l.take (i + 1)) d s = dropI (l.take i) d s ++ [x]) := Lib.hid (by rw [HD.out, if_neg hin])
        clear HD
        have hcond : x.inn = d ∨ ¬ x.inn = d := Decidable.em _
        rcases hcond with hc | hc
        · have hc2 := text_ne (fun h2 => hin ⟨hc, h2⟩)
          have hc3 : (x.e.name.toList != s.toList) = true := by rw [bne, hc2]; rfl
          clear hin
          subst hc
          go_upto_region 6 with fail
          have hbel : Below BO wr (wr.alloc (.cells #[.int .i64 x.inn, .string x.e.name, .int .i64 x.e.node, .bool x.e.dir, .int .i64 x.e.cookie, .int .i64 x.e.short] 99)).drew := ((Below.refl _ wr).alloc hsz _).drew
          have HBEL := Lib.hid hbel
          have HOA : Hid (World.ownsRow (wr.alloc (.cells #[.int .i64 x.inn, .string x.e.name, .int .i64 x.e.node, .bool x.e.dir, .int .i64 x.e.cookie, .int .i64 x.e.short] 99)).drew BO 99 6 vo (dropI (l.take i) x.inn s).length ((dropI (l.take i) x.inn s).flatMap itmC)) := Lib.hid (HW.out.alloc _)
          have HI : Hid ((wr.alloc (.cells #[.int .i64 x.inn, .string x.e.name, .int .i64 x.e.node, .bool x.e.dir, .int .i64 x.e.cookie, .int .i64 x.e.short] 99)).drew.heap[wr.heap.size]? = some (.cells (itmC x).toArray 99 (0, 0))) := Lib.hid (show (wr.alloc _).heap[wr.heap.size]? = _ from heap_alloc_new _ _)
          have HSA : Hid (BO ≤ (wr.alloc (.cells #[.int .i64 x.inn, .string x.e.name, .int .i64 x.e.node, .bool x.e.dir, .int .i64 x.e.cookie, .int .i64 x.e.short] 99)).drew.heap.size) := Lib.hid (by have := hbel.size; omega)
          have q0 : wr.drew.cell? ⟨bT + 1 + 1, 0, none⟩ = some vo := (two_cells HO.out).1.1
          have q1 : (wr.alloc (.cells #[.int .i64 x.inn, .string x.e.name, .int .i64 x.e.node, .bool x.e.dir, .int .i64 x.e.cookie, .int .i64 x.e.short] 99)).drew.cell? ⟨bT + 1 + 1, 0, none⟩ = some vo := by rw [hbel.cell (p := ⟨bT + 1 + 1, 0, none⟩) (by show bT + 1 + 1 < BO; omega)]; exact (two_cells HO.out).1.1
          have HSK : Hid (∀ W : World, Below (bT + 1 + 1) wr W → Below (bT + 1 + 1) wr W ∧ W.cell? ⟨bT, 0, none⟩ = some (.slice (some ⟨g, off, none⟩) m cap) ∧ W.cell? ⟨g, off + i * 6, none⟩ = some (.int .i64 x.inn) ∧ W.cell? ⟨g, off + i * 6 + 1, none⟩ = some (.string x.e.name) ∧ W.cell? ⟨g, off + i * 6 + 2, none⟩ = some (.int .i64 x.e.node) ∧ W.cell? ⟨g, off + i * 6 + 3, none⟩ = some (.bool x.e.dir) ∧ W.cell? ⟨g, off + i * 6 + 4, none⟩ = some (.int .i64 x.e.cookie) ∧ W.cell? ⟨g, off + i * 6 + 5, none⟩ = some (.int .i64 x.e.short)) := Lib.hid (fun W hW =>
            ⟨hW, by rw [hW.cell (p := ⟨bT, 0, none⟩) (by show bT < _; omega)]; exact HT.out.l.1, HGX.out W (HB.out.trans (hW.mono (by omega)))⟩)
          have hlen1 : (dropI (l.take i) x.inn s).length + [x].length ≤ 100000 := by have := HDL.out; simp; omega
          have HZ : Hid (∀ W : World, Below BO wr W → (W.cell? ⟨bT + 1 + 1, 0, none⟩ = some vo ∧ W.frozen? ⟨bT + 1 + 1, 0, none⟩ = false)) := Lib.hid (fun W hW => ⟨by rw [hW.cell (p := ⟨bT + 1 + 1, 0, none⟩) (by show bT + 1 + 1 < BO; omega)]; exact (two_cells HO.out).1.1, by rw [hW.frozen (p := ⟨bT + 1 + 1, 0, none⟩) (by show bT + 1 + 1 < BO; omega)]; exact (two_cells HO.out).2.1⟩)
          clear hbel c0 c1 d0 d1 d2 d3 d4 d5
          have hs0 := HSK.out wr.drew ((Below.refl _ _).drew)
          obtain ⟨t0, t1, t2, t3, t4, t5, t6, t7⟩ := hs0
          go_region_law ((refine step_append_lst itmElem rfl _ _ rfl BO vo _ _ rfl HOA.out _ [x] (itmC_len _) (fun y _ => itmC_one y) rfl (LstIs.block (itmC_len _) HI.out) hlen1 HSA.out ?_; intro v8 w8 ho8 hg8 hr8; have hb8 : Below BO wr w8 := HBEL.out.grown hg8 HSA.out (fun j hj => (HOA.out.lt j hj).1); have hq8 := hb8.mono (show bT + 1 + 1 ≤ BO by omega); obtain ⟨z0, y0⟩ := HZ.out w8 hb8; obtain ⟨a8, k8, c8, hv8⟩ := own_form ho8; subst hv8))
          all_goals
            have ho9 : World.ownsRow w8 BO 99 6 (.slice a8 k8 c8) (dropI (l.take (i + 1)) x.inn s).length ((dropI (l.take (i + 1)) x.inn s).flatMap itmC) := by
              rw [HD2.out, List.length_append, List.flatMap_append]
              exact ho8
            have HW9 := Lib.hid (own_set ho9 (show bT + 1 + 1 < BO by omega) 0 (.slice a8 k8 c8))
            have HT9 : Hid (TreeAt (w8.setCell ⟨bT + 1 + 1, 0, none⟩ (.slice a8 k8 c8)) bT (.slice (some ⟨g, off, none⟩) m cap) nx) := Lib.hid (by
              unfold TreeAt
              rw [Below.heap_setCell _ _ _ _ (by show bT ≠ bT + 1 + 1; omega), hb8.block _ (by omega)]
              exact HT.out)
            have HR9 : Hid ((w8.setCell ⟨bT + 1 + 1, 0, none⟩ (.slice a8 k8 c8)).heap[bT + 1]? = some (.cells #[.slice none 0 0, .int .i64 0] 48 (0, 0))) := Lib.hid (by
              rw [Below.heap_setCell _ _ _ _ (by show bT + 1 ≠ bT + 1 + 1; omega), hb8.block _ (by omega)]
              exact HR.out)
            have HO9 : Hid ((w8.setCell ⟨bT + 1 + 1, 0, none⟩ (.slice a8 k8 c8)).heap[bT + 1 + 1]? = some (.cells #[.slice a8 k8 c8, .int .i64 nx] 48 (0, 0))) := Lib.hid (by
              rw [heap_setCell_same _ (bT + 1 + 1) 0 _ _ _ ((hb8.block _ (by omega)).trans HO.out)]
              rfl)
            have HB9 : Hid (Below bT w (w8.setCell ⟨bT + 1 + 1, 0, none⟩ (.slice a8 k8 c8))) := Lib.hid ((HB.out.trans (hb8.mono (by omega))).setCell (p := ⟨bT + 1 + 1, 0, none⟩) (by show bT ≤ bT + 1 + 1; omega) _)
            have hs9 : BO ≤ (w8.setCell ⟨bT + 1 + 1, 0, none⟩ (.slice a8 k8 c8)).heap.size := by have := hb8.size; simp [World.setCell]; omega
            have HS9 := Lib.hid hs9
            clear ho8 ho9 hb8 hq8 hs9 hg8 hr8
            go_wp2
            go_roundw
            case rel => exact ⟨i + 1, _, by omega, by first | rfl | go_num, HT9.out, HR9.out, HO9.out, HW9.out, HB9.out, HS9.out⟩
            case measure => simp [intOf]; omega
        have hc2 : (x.inn == d) = false := by rw [beq_eq_false_iff_ne]; exact hc
        have hc3 : (x.inn != d) = true := by rw [bne, hc2]; rfl
        clear hin
        go_upto_region 6 with fail
        have hbel : Below BO wr (wr.alloc (.cells #[.int .i64 x.inn, .string x.e.name, .int .i64 x.e.node, .bool x.e.dir, .int .i64 x.e.cookie, .int .i64 x.e.short] 99)).drew := ((Below.refl _ wr).alloc hsz _).drew
        have HBEL := Lib.hid hbel
        have HOA : Hid (World.ownsRow (wr.alloc (.cells #[.int .i64 x.inn, .string x.e.name, .int .i64 x.e.node, .bool x.e.dir, .int .i64 x.e.cookie, .int .i64 x.e.short] 99)).drew BO 99 6 vo (dropI (l.take i) d s).length ((dropI (l.take i) d s).flatMap itmC)) := Lib.hid (HW.out.alloc _)
        have HI : Hid ((wr.alloc (.cells #[.int .i64 x.inn, .string x.e.name, .int .i64 x.e.node, .bool x.e.dir, .int .i64 x.e.cookie, .int .i64 x.e.short] 99)).drew.heap[wr.heap.size]? = some (.cells (itmC x).toArray 99 (0, 0))) := Lib.hid (show (wr.alloc _).heap[wr.heap.size]? = _ from heap_alloc_new _ _)
        have HSA : Hid (BO ≤ (wr.alloc (.cells #[.int .i64 x.inn, .string x.e.name, .int .i64 x.e.node, .bool x.e.dir, .int .i64 x.e.cookie, .int .i64 x.e.short] 99)).drew.heap.size) := Lib.hid (by have := hbel.size; omega)
        have q0 : wr.drew.cell? ⟨bT + 1 + 1, 0, none⟩ = some vo := (two_cells HO.out).1.1
        have q1 : (wr.alloc (.cells #[.int .i64 x.inn, .string x.e.name, .int .i64 x.e.node, .bool x.e.dir, .int .i64 x.e.cookie, .int .i64 x.e.short] 99)).drew.cell? ⟨bT + 1 + 1, 0, none⟩ = some vo := by rw [hbel.cell (p := ⟨bT + 1 + 1, 0, none⟩) (by show bT + 1 + 1 < BO; omega)]; exact (two_cells HO.out).1.1
        have HSK : Hid (∀ W : World, Below (bT + 1 + 1) wr W → Below (bT + 1 + 1) wr W ∧ W.cell? ⟨bT, 0, none⟩ = some (.slice (some ⟨g, off, none⟩) m cap) ∧ W.cell? ⟨g, off + i * 6, none⟩ = some (.int .i64 x.inn) ∧ W.cell? ⟨g, off + i * 6 + 1, none⟩ = some (.string x.e.name) ∧ W.cell? ⟨g, off + i * 6 + 2, none⟩ = some (.int .i64 x.e.node) ∧ W.cell? ⟨g, off + i * 6 + 3, none⟩ = some (.bool x.e.dir) ∧ W.cell? ⟨g, off + i * 6 + 4, none⟩ = some (.int .i64 x.e.cookie) ∧ W.cell? ⟨g, off + i * 6 + 5, none⟩ = some (.int .i64 x.e.short)) := Lib.hid (fun W hW =>
          ⟨hW, by rw [hW.cell (p := ⟨bT, 0, none⟩) (by show bT < _; omega)]; exact HT.out.l.1, HGX.out W (HB.out.trans (hW.mono (by omega)))⟩)
        have hlen1 : (dropI (l.take i) d s).length + [x].length ≤ 100000 := by have := HDL.out; simp; omega
        have HZ : Hid (∀ W : World, Below BO wr W → (W.cell? ⟨bT + 1 + 1, 0, none⟩ = some vo ∧ W.frozen? ⟨bT + 1 + 1, 0, none⟩ = false)) := Lib.hid (fun W hW => ⟨by rw [hW.cell (p := ⟨bT + 1 + 1, 0, none⟩) (by show bT + 1 + 1 < BO; omega)]; exact (two_cells HO.out).1.1, by rw [hW.frozen (p := ⟨bT + 1 + 1, 0, none⟩) (by show bT + 1 + 1 < BO; omega)]; exact (two_cells HO.out).2.1⟩)
        clear hbel c0 c1 d0 d1 d2 d3 d4 d5
        have hs0 := HSK.out wr.drew ((Below.refl _ _).drew)
        obtain ⟨t0, t1, t2, t3, t4, t5, t6, t7⟩ := hs0
        go_region_law ((refine step_append_lst itmElem rfl _ _ rfl BO vo _ _ rfl HOA.out _ [x] (itmC_len _) (fun y _ => itmC_one y) rfl (LstIs.block (itmC_len _) HI.out) hlen1 HSA.out ?_; intro v8 w8 ho8 hg8 hr8; have hb8 : Below BO wr w8 := HBEL.out.grown hg8 HSA.out (fun j hj => (HOA.out.lt j hj).1); have hq8 := hb8.mono (show bT + 1 + 1 ≤ BO by omega); obtain ⟨z0, y0⟩ := HZ.out w8 hb8; obtain ⟨a8, k8, c8, hv8⟩ := own_form ho8; subst hv8))
        all_goals
          have ho9 : World.ownsRow w8 BO 99 6 (.slice a8 k8 c8) (dropI (l.take (i + 1)) d s).length ((dropI (l.take (i + 1)) d s).flatMap itmC) := by
            rw [HD2.out, List.length_append, List.flatMap_append]
            exact ho8
          have HW9 := Lib.hid (own_set ho9 (show bT + 1 + 1 < BO by omega) 0 (.slice a8 k8 c8))
          have HT9 : Hid (TreeAt (w8.setCell ⟨bT + 1 + 1, 0, none⟩ (.slice a8 k8 c8)) bT (.slice (some ⟨g, off, none⟩) m cap) nx) := Lib.hid (by
            unfold TreeAt
            rw [Below.heap_setCell _ _ _ _ (by show bT ≠ bT + 1 + 1; omega), hb8.block _ (by omega)]
            exact HT.out)
          have HR9 : Hid ((w8.setCell ⟨bT + 1 + 1, 0, none⟩ (.slice a8 k8 c8)).heap[bT + 1]? = some (.cells #[.slice none 0 0, .int .i64 0] 48 (0, 0))) := Lib.hid (by
            rw [Below.heap_setCell _ _ _ _ (by show bT + 1 ≠ bT + 1 + 1; omega), hb8.block _ (by omega)]
            exact HR.out)
          have HO9 : Hid ((w8.setCell ⟨bT + 1 + 1, 0, none⟩ (.slice a8 k8 c8)).heap[bT + 1 + 1]? = some (.cells #[.slice a8 k8 c8, .int .i64 nx] 48 (0, 0))) := Lib.hid (by
            rw [heap_setCell_same _ (bT + 1 + 1) 0 _ _ _ ((hb8.block _ (by omega)).trans HO.out)]
            rfl)
          have HB9 : Hid (Below bT w (w8.setCell ⟨bT + 1 + 1, 0, none⟩ (.slice a8 k8 c8))) := Lib.hid ((HB.out.trans (hb8.mono (by omega))).setCell (p := ⟨bT + 1 + 1, 0, none⟩) (by show bT ≤ bT + 1 + 1; omega) _)
          have hs9 : BO ≤ (w8.setCell ⟨bT + 1 + 1, 0, none⟩ (.slice a8 k8 c8)).heap.size := by have := hb8.size; simp [World.setCell]; omega
          have HS9 := Lib.hid hs9
          clear ho8 ho9 hb8 hq8 hs9 hg8 hr8
          go_wp2
          go_roundw
          case rel => exact ⟨i + 1, _, by omega, by first | rfl | go_num, HT9.out, HR9.out, HO9.out, HW9.out, HB9.out, HS9.out⟩
          case measure => simp [intOf]; omega
    · have hiz : ¬ (i : Int) < (m : Int) := by omega
      have HA : Hid (l.take i = l) := Lib.hid (List.take_of_length_le (by rw [HM.out]; omega))
      rw [HA.out] at HW
      obtain ⟨a8, k8, c8, hv8⟩ := own_form HW.out
      subst hv8
      obtain ⟨⟨q0, q1⟩, _⟩ := two_cells HO.out
      obtain ⟨⟨r0, r1⟩, ⟨f0, f1⟩⟩ := two_cells HR.out
      have HW9 := Lib.hid (own_set (own_set HW.out (show bT + 1 < BO by omega) 0 (.slice a8 k8 c8)) (show bT + 1 < BO by omega) 1 (.int .i64 nx))
      have HX := Lib.hid (ItmsT.own HW9.out rfl)
      have HZ : Hid (((wr.setCell ⟨bT + 1, 0, none⟩ (.slice a8 k8 c8)).setCell ⟨bT + 1, 1, none⟩ (.int .i64 nx)).heap[bT + 1]? = some (.cells #[.slice a8 k8 c8, .int .i64 nx] 48 (0, 0))) := Lib.hid (by
        rw [heap_setCell_same _ (bT + 1) 1 _ _ _ (heap_setCell_same _ (bT + 1) 0 _ _ _ HR.out)]
        rfl)
      have HB9 : Hid (Below bT w ((wr.setCell ⟨bT + 1, 0, none⟩ (.slice a8 k8 c8)).setCell ⟨bT + 1, 1, none⟩ (.int .i64 nx))) := Lib.hid ((HB.out.setCell (p := ⟨bT + 1, 0, none⟩) (by show bT ≤ bT + 1; omega) _).setCell (p := ⟨bT + 1, 1, none⟩) (by show bT ≤ bT + 1; omega) _)
      go_wp2
      refine bodyPost_ret (results_cell_row Try.results48 _ _ _ _ _ _ _ rfl HZ.out Try.underlying48 rfl treeElem_zero) rfl ⟨_, rfl, HX.out, ?_, ?_⟩
      · intro j hj
        have := (HW.out.lt j hj).1
        have := HBT.out
        omega
      · rw [HBT.out]
        exact HB9.out
end Go.Proofs.Ythaghhleidopeaa
