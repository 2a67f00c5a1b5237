/-
  Prepared for stage 10: the reference's Link.
-/
import Derived.Test.YthaghhleidopeaaR10Drop
namespace Go.Proofs.Ythaghhleidopeaa
open Go.RowKit Go.Sort
set_option linter.unusedVariables false

/-- The least number that no entry has, from n on, of k. -/
def freeGo (l : List Itm) : Nat → Nat → Nat
  | 0, _ => 0
  | k + 1, n => if kindI l n = 0 then n else freeGo l k (n + 1)
def freeN (l : List Itm) : Nat := freeGo l 200 1
theorem freeGo_le (l : List Itm) : ∀ k n, freeGo l k n = 0 ∨ (n ≤ freeGo l k n ∧ freeGo l k n < n + k)
  | 0, n => Or.inl rfl
  | k + 1, n => by
    unfold freeGo
    split
    · right; omega
    · rcases freeGo_le l k (n + 1) with h | h
      · exact Or.inl h
      · right; omega
def linkI (l : List Itm) (nx d : Int) (s : ByteArray) (isD : Bool) (sh : Int) : (List Itm × Int) × Int × Int :=
  if listE l d ≠ 0 then ((l, nx), 0, listE l d)
  else if badE s sh ≠ 0 then ((l, nx), 0, badE s sh)
  else if (findI l d s).2 = 0 then ((l, nx), 0, 6)
  else if freeN l = 0 then ((l, nx), 0, 12)
  else ((putI l nx d ⟨s, freeN l, isD, 0, sh⟩, nx + 1), freeN l, 0)

/-- A tree that came by value, at b, and the answer's block behind it. -/
structure Fr (w : World) (b : Nat) (v : Value) (nx : Int) (l : List Itm) (W : World) : Prop where
  t : TreeAt W b v nx
  r : W.heap[b + 1]? = some (.cells #[.slice none 0 0, .int .i64 0] 48 (0, 0))
  i : ItmsT W v l
  bel : Below b w W
  sz : w.heap.size = b
theorem Fr.below {w W W' : World} {b : Nat} {v : Value} {nx : Int} {l : List Itm} (h : Fr w b v nx l W) (hb : Below W.heap.size W W') : Fr w b v nx l W' :=
  ⟨h.t.below hb, by rw [hb.block _ (lt_of_get h.r)]; exact h.r, h.i.kept hb, h.bel.trans (hb.mono (by have := h.bel.size; have := h.sz; omega)), h.sz⟩
theorem Fr.cells {w W : World} {b : Nat} {v : Value} {nx : Int} {l : List Itm} (h : Fr w b v nx l W) : W.cell? ⟨b, 0, none⟩ = some v ∧ W.cell? ⟨b, 1, none⟩ = some (.int .i64 nx) ∧ W.cell? ⟨b + 1, 0, none⟩ = some (.slice none 0 0) ∧ W.cell? ⟨b + 1, 1, none⟩ = some (.int .i64 0) ∧ W.frozen? ⟨b + 1, 0, none⟩ = false ∧ W.frozen? ⟨b + 1, 1, none⟩ = false :=
  ⟨h.t.l.1, h.t.l.2, (two_cells h.r).1.1, (two_cells h.r).1.2, (two_cells h.r).2.1, (two_cells h.r).2.2⟩
/-- The answer's block is written. -/
theorem Fr.done {w W : World} {b : Nat} {v : Value} {nx : Int} {l : List Itm} (h : Fr w b v nx l W) {v8 : Value} {nx8 : Int} {l8 : List Itm} (h8 : ItmsT W v8 l8) (hb : v8.ownBlock ≠ some (b + 1)) :
    ((W.setCell ⟨b + 1, 0, none⟩ v8).setCell ⟨b + 1, 1, none⟩ (.int .i64 nx8)).heap[b + 1]? = some (.cells #[v8, .int .i64 nx8] 48 (0, 0)) ∧ ItmsT ((W.setCell ⟨b + 1, 0, none⟩ v8).setCell ⟨b + 1, 1, none⟩ (.int .i64 nx8)) v8 l8 ∧ Below w.heap.size w ((W.setCell ⟨b + 1, 0, none⟩ v8).setCell ⟨b + 1, 1, none⟩ (.int .i64 nx8)) := by
  refine ⟨?_, (h8.set hb 0 _).set hb 1 _, ?_⟩
  · rw [heap_setCell_same _ (b + 1) 1 _ _ _ (heap_setCell_same _ (b + 1) 0 _ _ _ h.r)]
    rfl
  · rw [h.sz]
    exact (h.bel.setCell (p := ⟨b + 1, 0, none⟩) (Nat.le_succ _) _).setCell (p := ⟨b + 1, 1, none⟩) (Nat.le_succ _) _
theorem Fr.own {w W : World} {b : Nat} {v : Value} {nx : Int} {l : List Itm} (h : Fr w b v nx l W) : v.ownBlock ≠ some (b + 1) := fun e => by
  obtain ⟨cs, hc⟩ := h.i.2 _ e
  exact block_ne hc h.r (by decide) rfl
theorem fr_new (w : World) (v : Value) (nx : Int) (l : List Itm) (hv : ItmsT w v l) : Fr w w.heap.size v nx l ((w.alloc (.cells #[v, .int .i64 nx] 48)).alloc (.cells #[.slice none 0 0, .int .i64 0] 48)) := by
  have hb : Below w.heap.size w ((w.alloc (.cells #[v, .int .i64 nx] 48)).alloc (.cells #[.slice none 0 0, .int .i64 0] 48)) := ((Below.refl _ w).alloc (Nat.le_refl _) _).alloc (by simp) _
  refine ⟨?_, heap_alloc2_new _ _ _, hv.kept hb, hb, rfl⟩
  unfold TreeAt
  rw [Below.heap_alloc _ _ _ (by simp)]
  exact heap_alloc_new _ _
theorem results_cell_two {fn : Func} {p u q : Tmp} {ty : TypeId} (h : fn.results = #[.cell p ty, .tmp u, .tmp q]) (tmps : Array Value) (P : Program) (w : World) :
    (results fn tmps).run P w =
      ((asAddr (tmps.getD p undef)).run P w).andThen fun a w₁ => ((loadVar ty a).run P w₁).andThen fun v w₂ => .ok (.tuple #[v, tmps.getD u undef, tmps.getD q undef]) w₂ := by
  simp only [results, h]
  simp [Sem.run_bind, Result.andThen]
/-- The answer's block is read. -/
theorem load_tree {W : World} {b : Nat} {v : Value} {nx : Int} (h : W.heap[b]? = some (.cells #[v, .int .i64 nx] 48 (0, 0))) : (loadVar 48 ⟨b, 0, none⟩).run Try.prog W = .ok (treeV v nx) W := by
  have hr := run_loadVar_row (P := Try.prog) W b 48 48 #[v, .int .i64 nx] (0, 0) _ h Try.underlying48 rfl (by kernel_rfl)
  exact hr
def LinkPost (r : (List Itm × Int) × Int × Int) (w0 : World) (e : Ending) (w' : World) : Prop := ∃ v', e = .returned (.tuple #[treeV v' r.1.2, .int .i64 r.2.1, .int .i64 r.2.2]) ∧ ItmsT w' v' r.1.1 ∧ Below w0.heap.size w0 w'
theorem findE_cases (l : List Itm) (d : Int) (s : ByteArray) : 0 ≤ (findI l d s).2 ∧ (findI l d s).2 ≤ 8 := by
  unfold findI listE
  split
  · simp
  · repeat' split
    all_goals simp_all
set_option maxHeartbeats 8000000 in
set_option maxRecDepth 100000 in
theorem link10_c (v : Value) (l : List Itm) (nx d : Int) (s : ByteArray) (isD : Bool) (sh : Int) (w : World) (hv : ItmsT w v l) (hl : l.length ≤ 999) (hs : s.size ≤ 9223372036854775807) (hnx : nx + 1 ≤ 9223372036854775807) (hnx0 : 0 ≤ nx) :
    Calls Try.prog 24 #[treeV v nx, .int .i64 d, .string s, .bool isD, .int .i64 sh] w (LinkPost (linkI l nx d s isD sh) w) := by
  unfold LinkPost
  obtain ⟨R, hR⟩ : ∃ R, linkI l nx d s isD sh = R := ⟨_, rfl⟩
  rw [hR]
  unfold linkI at hR
  have HRR := Lib.hid hR
  obtain ⟨a, cap, rfl⟩ := hv.1.len
  have cL := fun W (h : ItmsT W (.slice a l.length cap) l) => list10_c (.slice a l.length cap) l nx d W h.1 (by omega)
  have cF := fun W (h : ItmsT W (.slice a l.length cap) l) => find10_c (.slice a l.length cap) l nx d s W h.1 (by omega)
  have cK := fun (n : Nat) W (h : ItmsT W (.slice a l.length cap) l) => kind10_c (.slice a l.length cap) l nx n W h.1 (by omega)
  have cP := fun (n : Nat) W (h : ItmsT W (.slice a l.length cap) l) => put10_c (.slice a l.length cap) l nx d ⟨s, n, isD, 0, sh⟩ W h.1 (by omega) hnx hnx0
  have cB := fun W => bad10_c s hs sh W
  obtain ⟨m, hm⟩ : ∃ m, l.length = m := ⟨_, rfl⟩
  simp only [hm] at cL cF cK cP
  rw [hm] at hv ⊢
  have HF0 := Lib.hid (fr_new w _ nx l hv)
  unfold treeV at cL cF cK cP ⊢
  unfold entV at cP
  clear hv hm hR hl
  go_enter Try.func24, Try.ntmps24
  go_upto_region 1 with fail
  generalize (w.alloc (.cells #[.slice a m cap, .int .i64 nx] 48)).alloc (.cells #[.slice none 0 0, .int .i64 0] 48) = W0 at *
  generalize hbT : w.heap.size = bT at *
  have HBT := Lib.hid hbT
  clear hbT
  have cL0 := cL W0 HF0.out.i
  unfold ListPost at cL0
  obtain ⟨t0, t1, r0, r1, f0, f1⟩ := HF0.out.cells
  have hLE : listE l d = 0 ∨ listE l d ≠ 0 := Decidable.em _
  have HE1 := Lib.hid (listE_cases l d)
  go_upto_region 2 with (go_at_call 22; refine cL0.mono ?_; rintro e w1 ⟨lv, rfl, hlv, hb1⟩; have HF1 := Lib.hid (HF0.out.below hb1); clear hlv hb1)
  clear cL cL0 HF0 t0 t1 r0 r1 f0 f1
  obtain ⟨t0, t1, r0, r1, f0, f1⟩ := HF1.out.cells
  rcases hLE with hLE | hLE
  · have HL0 := Lib.hid hLE
    rw [hLE]
    have cB1 := cB w1
    have hBE : badE s sh = 0 ∨ badE s sh ≠ 0 := Decidable.em _
    rcases hBE with hBE | hBE
    · have HBZ := Lib.hid hBE
      rw [hBE] at cB1
      have cF1 := cF w1 HF1.out.i
      unfold FindPost at cF1
      clear hBE hLE
      go_upto_region 7 with (first | (go_at_call 46; refine cB1.mono ?_; rintro e w2 ⟨rfl, rfl⟩) | (go_at_call 21; refine cF1.mono ?_; rintro e w3 ⟨rfl, hb3⟩; have HF3 := Lib.hid (HF1.out.below hb3); clear hb3))
      clear cF cF1 cB cB1 HF1 t0 t1 r0 r1 f0 f1
      obtain ⟨t0, t1, r0, r1, f0, f1⟩ := HF3.out.cells
      have hFE : (findI l d s).2 = 0 ∨ (findI l d s).2 ≠ 0 := Decidable.em _
      rcases hFE with hFE | hFE
      · rw [hFE]
        have HR9 : Hid (R = ((l, nx), 0, 6)) := Lib.hid (by rw [← HRR.out, if_neg (by rw [HL0.out]; simp), if_neg (by rw [HBZ.out]; simp), if_pos hFE])
        clear hFE cK cP
        obtain ⟨hz, hi, hb⟩ := HF3.out.done (nx8 := nx) HF3.out.i HF3.out.own
        have HZ := Lib.hid hz
        have HI := Lib.hid hi
        have HBE := Lib.hid hb
        clear hz hi hb
        go_wp2
        refine bodyPost_ret (v := .tuple #[treeV (.slice a m cap) (nx), .int .i64 (0), .int .i64 (6)]) ?_ rfl ?_
        · rw [results_cell_two rfl]
          go_simp
          rfl
        · rw [HR9.out]
          exact ⟨_, rfl, HI.out, HBE.out⟩
      · have hz : ((findI l d s).2 == 0) = false := by rw [beq_eq_false_iff_ne]; exact hFE
        have HFZ := Lib.hid hFE
        generalize (findI l d s).2 = FE at *
        clear hFE
        go_wp2
        go_loopw [15] (fun iv wr => ∃ n : Nat, 1 ≤ n ∧ n ≤ 201 ∧ iv = .int .i64 n ∧ freeGo l (201 - n) n = freeN l ∧ Fr w bT (.slice a m cap) nx l wr) (fun iv _ => 201 - (intOf iv).toNat)
        case atStart => exact ⟨1, by omega, by omega, rfl, rfl, HF3.out⟩
        case round =>
          obtain ⟨n, hn1, hn2, rfl, hgo, hfr⟩ := hrel
          clear HF3 t0 t1 r0 r1 f0 f1
          have HGO := Lib.hid hgo
          have HF3 := Lib.hid hfr
          obtain ⟨t0, t1, r0, r1, f0, f1⟩ := hfr.cells
          have cK1 := cK n wr hfr.i
          clear hgo hfr
          by_cases hn : n ≤ 200
          · have hnz : (n : Int) ≤ 200 := by omega
            have HST : Hid (freeN l = if kindI l n = 0 then n else freeGo l (201 - (n + 1)) (n + 1)) := Lib.hid (by
              rw [← HGO.out, show 201 - n = (200 - n) + 1 by omega, show 201 - (n + 1) = 200 - n by omega]
              rfl)
            have hK : kindI l n = 0 ∨ kindI l n ≠ 0 := Decidable.em _
            rcases hK with hK | hK
            · have HFN : Hid (freeN l = n) := Lib.hid (by rw [HST.out, if_pos hK])
              rw [hK] at cK1
              clear hK HGO
              go_upto_region 13 with (go_at_call 44; refine cK1.mono ?_; rintro e w5 ⟨rfl, hb5⟩; have HF5 := Lib.hid (HF3.out.below hb5); clear hb5)
              clear HF3 t0 t1 r0 r1 f0 f1
              obtain ⟨t0, t1, r0, r1, f0, f1⟩ := HF5.out.cells
              have cP1 := cP n w5 HF5.out.i
              unfold TreePost treeV at cP1
              have HR9 : Hid (R = ((putI l nx d ⟨s, n, isD, 0, sh⟩, nx + 1), (n : Int), 0)) := Lib.hid (by
                rw [← HRR.out, if_neg (by rw [HL0.out]; simp), if_neg (by rw [HBZ.out]; simp), if_neg HFZ.out, if_neg (by rw [HFN.out]; omega), HFN.out])
              go_wp2_with (go_at_call 47; refine cP1.mono ?_; rintro e w8 ⟨v8, rfl, hi8, hfr8, hb8⟩; obtain ⟨a8, c8, hv8⟩ := hi8.1.len; have HF8 := Lib.hid (HF5.out.below hb8); obtain ⟨hz, hi, hb⟩ := HF8.out.done (nx8 := nx + 1) hi8 (fun e => by have h1 := hfr8 _ e; have h2 := lt_of_get HF5.out.r; omega); have HZ := Lib.hid hz; have HI := Lib.hid hi; have HBE := Lib.hid hb; obtain ⟨q0, q1, y0, y1, x0, x1⟩ := HF8.out.cells; generalize (putI l nx d ⟨s, n, isD, 0, sh⟩).length = L8 at hv8; subst hv8; clear hz hi hb hi8 hfr8 hb8)
              refine bodyPost_ret (v := .tuple #[treeV (.slice a8 L8 c8) (nx + 1), .int .i64 n, .int .i64 0]) ?_ rfl ?_
              · rw [results_cell_two rfl]
                go_simp
                rfl
              · rw [HR9.out]
                exact ⟨_, rfl, HI.out, HBE.out⟩
            · have HFN : Hid (freeGo l (201 - (n + 1)) (n + 1) = freeN l) := Lib.hid (by rw [HST.out, if_neg hK])
              have hKz : (kindI l n == 0) = false := by rw [beq_eq_false_iff_ne]; exact hK
              clear hK HGO
              go_wp2_with (go_at_call 44; refine cK1.mono ?_; rintro e w5 ⟨rfl, hb5⟩; have HF5 := Lib.hid (HF3.out.below hb5); clear hb5)
              go_roundw
              case rel => exact ⟨n + 1, by omega, by omega, by first | rfl | go_num, HFN.out, HF5.out⟩
              case measure => simp [intOf]; omega
          · have hnz : ¬ (n : Int) ≤ 200 := by omega
            have HFN : Hid (freeN l = 0) := Lib.hid (by
              rw [← HGO.out, show 201 - n = 0 by omega]
              rfl)
            have HR9 : Hid (R = ((l, nx), 0, 12)) := Lib.hid (by rw [← HRR.out, if_neg (by rw [HL0.out]; simp), if_neg (by rw [HBZ.out]; simp), if_neg HFZ.out, if_pos HFN.out])
            clear cK1
            obtain ⟨hz, hi, hb⟩ := HF3.out.done (nx8 := nx) HF3.out.i HF3.out.own
            have HZ := Lib.hid hz
            have HI := Lib.hid hi
            have HBE := Lib.hid hb
            clear hz hi hb
            go_wp2
            refine bodyPost_ret (v := .tuple #[treeV (.slice a m cap) (nx), .int .i64 (0), .int .i64 (12)]) ?_ rfl ?_
            · rw [results_cell_two rfl]
              go_simp
              rfl
            · rw [HR9.out]
              exact ⟨_, rfl, HI.out, HBE.out⟩
    · have hz : (badE s sh == 0) = false := by rw [beq_eq_false_iff_ne]; exact hBE
      have hz2 : (badE s sh != 0) = true := by rw [bne, hz]; rfl
      have HR9 : Hid (R = ((l, nx), 0, badE s sh)) := Lib.hid (by rw [← HRR.out, if_neg (by rw [HL0.out]; simp), if_pos hBE])
      generalize badE s sh = BE at *
      clear hLE hBE cF cK cP
      go_upto_region 5 with (go_at_call 46; refine cB1.mono ?_; rintro e w2 ⟨rfl, rfl⟩)
      have HK : Hid (∀ (W : World) (x y : Value), (W.cell? ⟨bT, 0, none⟩ = some (.slice a m cap) ∧ W.cell? ⟨bT, 1, none⟩ = some (.int .i64 nx)) → (((W.setCell ⟨bT + 1, 0, none⟩ x).setCell ⟨bT + 1, 1, none⟩ y).cell? ⟨bT, 0, none⟩ = some (.slice a m cap) ∧ ((W.setCell ⟨bT + 1, 0, none⟩ x).setCell ⟨bT + 1, 1, none⟩ y).cell? ⟨bT, 1, none⟩ = some (.int .i64 nx))) := Lib.hid (fun W x y h => by
        have e : ((W.setCell ⟨bT + 1, 0, none⟩ x).setCell ⟨bT + 1, 1, none⟩ y).heap[bT]? = W.heap[bT]? := by rw [Below.heap_setCell _ _ _ _ (by show bT ≠ bT + 1; omega), Below.heap_setCell _ _ _ _ (by show bT ≠ bT + 1; omega)]
        exact ⟨by rw [World.cell?_of_block (w := W) (a := ⟨bT, 0, none⟩) e]; exact h.1, by rw [World.cell?_of_block (w := W) (a := ⟨bT, 1, none⟩) e]; exact h.2⟩)
      have HFD : Hid (Fr w bT (.slice a m cap) nx l w2.drew) := Lib.hid (HF1.out.below (Below.refl _ _).drew)
      have u0 : w2.drew.cell? ⟨bT, 0, none⟩ = some (.slice a m cap) := t0
      have u1 : w2.drew.cell? ⟨bT, 1, none⟩ = some (.int .i64 nx) := t1
      have v0 : w2.drew.cell? ⟨bT + 1, 0, none⟩ = some (.slice none 0 0) := r0
      have v1 : w2.drew.cell? ⟨bT + 1, 1, none⟩ = some (.int .i64 0) := r1
      have g0 : w2.drew.frozen? ⟨bT + 1, 0, none⟩ = false := f0
      have g1 : w2.drew.frozen? ⟨bT + 1, 1, none⟩ = false := f1
      go_region_held3 (fun W => W.cell? ⟨bT, 0, none⟩ = some (.slice a m cap) ∧ W.cell? ⟨bT, 1, none⟩ = some (.int .i64 nx)) (first | exact ⟨‹_›, ‹_›⟩ | exact HK.out _ _ _ ⟨‹_›, ‹_›⟩ | assumption | (constructor <;> assumption)) ((go_at_call 46; refine (cB _).mono ?_; rintro e w9 ⟨rfl, rfl⟩))
      all_goals
        obtain ⟨hz, hi, hb⟩ := HFD.out.done (nx8 := nx) HFD.out.i HFD.out.own
        have HZ := Lib.hid hz
        have HI := Lib.hid hi
        have HBE := Lib.hid hb
        clear hz hi hb
        go_wp2
        refine bodyPost_ret (v := .tuple #[treeV (.slice a m cap) nx, .int .i64 0, .int .i64 BE]) ?_ rfl ?_
        · rw [results_cell_two rfl]
          go_simp
          rfl
        · rw [HR9.out]
          exact ⟨_, rfl, HI.out, HBE.out⟩
  · have hz : (listE l d == 0) = false := by rw [beq_eq_false_iff_ne]; exact hLE
    have hz2 : (listE l d != 0) = true := by rw [bne, hz]; rfl
    have HR9 : Hid (R = ((l, nx), 0, listE l d)) := Lib.hid (by rw [← HRR.out, if_pos hLE])
    clear cF cK cP cB
    obtain ⟨hz, hi, hb⟩ := HF1.out.done (nx8 := nx) HF1.out.i HF1.out.own
    have HZ := Lib.hid hz
    have HI := Lib.hid hi
    have HBE := Lib.hid hb
    clear hz hi hb
    go_wp2
    refine bodyPost_ret (v := .tuple #[treeV (.slice a m cap) (nx), .int .i64 (0), .int .i64 (listE l d)]) ?_ rfl ?_
    · rw [results_cell_two rfl]
      go_simp
      rfl
    · rw [HR9.out]
      exact ⟨_, rfl, HI.out, HBE.out⟩
end Go.Proofs.Ythaghhleidopeaa
