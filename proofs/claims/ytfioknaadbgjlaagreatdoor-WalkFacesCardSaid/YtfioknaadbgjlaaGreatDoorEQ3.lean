/- Kit. -/
import Derived.Test.YtfioknaadbgjlaaGreatDoorEQ2
set_option maxRecDepth 100000
set_option linter.unusedVariables false
set_option linter.unusedSimpArgs false
namespace Go.Proofs.YtfioknaadbgjlaaGreatDoor
open Go.RowKit Go.Sort
/-- Is x met on the way up from n, within k steps? -/
def loopGo (l : List Itm) (x : Int) : Nat → Int → Bool
  | 0, _ => false
  | k + 1, n => if n < 0 then false else if n = x then true else loopGo l x k (aboveI l n)
def moveI (l : List Itm) (nx d : Int) (s : ByteArray) (dt : Int) (ns : ByteArray) (sh : Int) : (List Itm × Int) × Int :=
  if (findI l d s).2 ≠ 0 then ((l, nx), (findI l d s).2)
  else if listE l dt ≠ 0 then ((l, nx), listE l dt)
  else if badE ns sh ≠ 0 then ((l, nx), badE ns sh)
  else if loopGo l (findI l d s).1.node 300 dt = true then ((l, nx), 10)
  else if (findI l dt ns).2 = 0 then ((l, nx), 6)
  else ((putI (dropI l d s) nx dt ⟨ns, (findI l d s).1.node, (findI l d s).1.dir, 0, sh⟩, nx + 1), 0)
set_option maxHeartbeats 8000000 in
set_option maxRecDepth 100000 in
theorem move10_c (v : Value) (l : List Itm) (nx d : Int) (s : ByteArray) (dt : Int) (ns : ByteArray) (sh : Int) (w : World) (hv : ItmsT w v l) (hl : l.length ≤ 999) (hs : ns.size ≤ 9223372036854775807) (hnx : nx + 1 ≤ 9223372036854775807) (hnx0 : 0 ≤ nx) :
    Calls Tryz.prog 43 #[treeV v nx, .int .i64 d, .string s, .int .i64 dt, .string ns, .int .i64 sh] w (UnPost (moveI l nx d s dt ns sh) w) := by
  unfold UnPost
  obtain ⟨R, hR⟩ : ∃ R, moveI l nx d s dt ns sh = R := ⟨_, rfl⟩
  rw [hR]
  unfold moveI at hR
  have HRR := Lib.hid hR
  obtain ⟨a, cap, rfl⟩ := hv.1.len
  have cF := fun W (h : ItmsT W (.slice a l.length cap) l) => find10_c (.slice a l.length cap) l nx d s W h.1 (by omega)
  have cF2 := fun W (h : ItmsT W (.slice a l.length cap) l) => find10_c (.slice a l.length cap) l nx dt ns W h.1 (by omega)
  have cL := fun W (h : ItmsT W (.slice a l.length cap) l) => list10_c (.slice a l.length cap) l nx dt W h.1 (by omega)
  have cU := fun n W (h : ItmsT W (.slice a l.length cap) l) => above10_c (.slice a l.length cap) l nx n W h.1 (by omega)
  have cD := fun W (h : ItmsT W (.slice a l.length cap) l) => drop10_c (.slice a l.length cap) l nx d s W h.1 (by omega)
  have cB := fun W => bad10_c ns hs sh W
  have HDL : Hid ((dropI l d s).length ≤ 1000) := Lib.hid (by have := dropI_le l d s; omega)
  obtain ⟨m, hm⟩ : ∃ m, l.length = m := ⟨_, rfl⟩
  have HM := Lib.hid hm
  simp only [hm] at cF cF2 cL cU cD
  rw [hm] at hv hl ⊢
  have HF0 := Lib.hid (fr_new w _ nx l hv)
  unfold treeV at cF cF2 cL cU cD ⊢
  clear hv hm hR
  go_enter Tryz.func43, Tryz.ntmps43
  go_upto_region 1 with fail
  generalize (w.alloc (.cells #[.slice a m cap, .int .i64 nx] 28)).alloc (.cells #[.slice none 0 0, .int .i64 0] 28) = W0 at *
  generalize hbT : w.heap.size = bT at *
  have HBT := Lib.hid hbT
  clear hbT
  have cF0 := cF W0 HF0.out.i
  unfold FindPost entV at cF0
  obtain ⟨t0, t1, r0, r1, f0, f1⟩ := HF0.out.cells
  generalize hFI : findI l d s = F at *
  clear hFI
  obtain ⟨⟨nm, nd, dr, ck, sk⟩, FE⟩ := F
  simp only at cF0 HRR
  go_upto_region 2 with (go_at_call 74; refine cF0.mono ?_; rintro e w1 ⟨rfl, hb1⟩; have HF1 := Lib.hid (HF0.out.below hb1); clear hb1)
  clear cF cF0 HF0 t0 t1 r0 r1 f0 f1
  have HFX : Hid (Fr w bT (.slice a m cap) nx l (w1.alloc (.cells #[.string nm, .int .i64 nd, .bool dr, .int .i64 ck, .int .i64 sk] 47))) := Lib.hid (HF1.out.below ((Below.refl _ w1).alloc (Nat.le_refl _) _))
  have HEB : Hid ((w1.alloc (.cells #[.string nm, .int .i64 nd, .bool dr, .int .i64 ck, .int .i64 sk] 47)).heap[w1.heap.size]? = some (.cells #[.string nm, .int .i64 nd, .bool dr, .int .i64 ck, .int .i64 sk] 47 (0, 0))) := Lib.hid (heap_alloc_new _ _)
  generalize w1.alloc (.cells #[.string nm, .int .i64 nd, .bool dr, .int .i64 ck, .int .i64 sk] 47) = W2 at *
  generalize w1.heap.size = bX at *
  clear HF1
  have HXB : Hid (bX ≠ bT + 1) := Lib.hid (fun e => by subst e; exact block_ne HEB.out HFX.out.r (by decide) rfl)
  obtain ⟨t0, t1, r0, r1, f0, f1⟩ := HFX.out.cells
  obtain ⟨⟨x0, x1, x2, x3, x4⟩, _⟩ := five_cells HEB.out
  have HEX : Hid (∀ W : World, Below W2.heap.size W2 W → (W.cell? ⟨bX, 1, none⟩ = some (.int .i64 nd) ∧ W.cell? ⟨bX, 2, none⟩ = some (.bool dr))) := Lib.hid (fun W hW => by
    have h := (hW.block _ (lt_of_get HEB.out)).trans HEB.out
    exact ⟨(five_cells h).1.2.1, (five_cells h).1.2.2.1⟩)
  by_cases hFE : FE = 0
  · have HR1 : Hid ((if listE l dt ≠ 0 then ((l, nx), listE l dt) else if badE ns sh ≠ 0 then ((l, nx), badE ns sh) else if loopGo l nd 300 dt = true then ((l, nx), 10) else if (findI l dt ns).2 = 0 then ((l, nx), 6) else ((putI (dropI l d s) nx dt ⟨ns, nd, dr, 0, sh⟩, nx + 1), 0)) = R) := Lib.hid (by rw [← HRR.out, if_neg (show ¬ FE ≠ 0 by rw [hFE]; simp)])
    subst hFE
    clear HRR
    have cL0 := cL W2 HFX.out.i
    unfold ListPost at cL0
    go_upto_region 5 with (go_at_call 46; refine cL0.mono ?_; rintro e w3 ⟨lv, rfl, hlv, hb3⟩; have HF3 := Lib.hid (HFX.out.below hb3); have HB23 := Lib.hid hb3; clear hlv hb3)
    clear cL cL0 HFX t0 t1 r0 r1 f0 f1 x0 x1 x2 x3 x4
    obtain ⟨t0, t1, r0, r1, f0, f1⟩ := HF3.out.cells
    obtain ⟨x1, x2⟩ := HEX.out _ HB23.out
    have hLE : listE l dt = 0 ∨ listE l dt ≠ 0 := Decidable.em _
    rcases hLE with hLE | hLE
    · have HR2 : Hid ((if badE ns sh ≠ 0 then ((l, nx), badE ns sh) else if loopGo l nd 300 dt = true then ((l, nx), 10) else if (findI l dt ns).2 = 0 then ((l, nx), 6) else ((putI (dropI l d s) nx dt ⟨ns, nd, dr, 0, sh⟩, nx + 1), 0)) = R) := Lib.hid (by rw [← HR1.out, if_neg (show ¬ listE l dt ≠ 0 by rw [hLE]; simp)])
      clear HR1
      rw [hLE]
      have cB1 := cB w3
      have hBE : badE ns sh = 0 ∨ badE ns sh ≠ 0 := Decidable.em _
      rcases hBE with hBE | hBE
      · have HR3 : Hid ((if loopGo l nd 300 dt = true then ((l, nx), (10 : Int)) else if (findI l dt ns).2 = 0 then ((l, nx), 6) else ((putI (dropI l d s) nx dt ⟨ns, nd, dr, 0, sh⟩, nx + 1), 0)) = R) := Lib.hid (by rw [← HR2.out, if_neg (show ¬ badE ns sh ≠ 0 by rw [hBE]; simp)])
        rw [hBE] at cB1
        clear HR2 hBE hLE
        go_upto_region 9 with (go_at_call 73; refine cB1.mono ?_; rintro e w4 ⟨rfl, rfl⟩)
        clear cB1
        go_wp2
        go_loopw [16, 17] (fun nv iv wr => ∃ (n : Int) (i : Nat), i ≤ 300 ∧ nv = .int .i64 n ∧ iv = .int .i64 i ∧ loopGo l nd (300 - i) n = loopGo l nd 300 dt ∧ Fr w bT (.slice a m cap) nx l wr ∧ Below W2.heap.size W2 wr) (fun _ iv _ => 300 - (intOf iv).toNat)
        case atStart => exact ⟨dt, 0, by omega, rfl, rfl, rfl, HF3.out, HB23.out⟩
        case round =>
          obtain ⟨n, i, hi, rfl, rfl, hgo, hfr, hbw⟩ := hrel
          clear HF3 HB23 t0 t1 r0 r1 f0 f1 x1 x2
          have HGO := Lib.hid hgo
          have HF3 := Lib.hid hfr
          have HB23 := Lib.hid hbw
          obtain ⟨t0, t1, r0, r1, f0, f1⟩ := HF3.out.cells
          obtain ⟨x1, x2⟩ := HEX.out _ HB23.out
          clear hgo hfr hbw
          by_cases hcont : 0 ≤ n ∧ i < 300
          · obtain ⟨hn0, hi3⟩ := hcont
            have hiz : (i : Int) < 300 := by omega
            have hnd0 : decide (0 ≤ n) = true := decide_eq_true hn0
            have hid0 : decide ((i : Int) < 300) = true := decide_eq_true hiz
            have HST : Hid (loopGo l nd 300 dt = if n = nd then true else loopGo l nd (300 - (i + 1)) (aboveI l n)) := Lib.hid (by
              rw [← HGO.out, show 300 - i = (300 - (i + 1)) + 1 by omega]
              show (if n < 0 then false else if n = nd then true else loopGo l nd (300 - (i + 1)) (aboveI l n)) = _
              rw [if_neg (by omega)])
            by_cases hnn : n = nd
            · have HR9 : Hid (R = ((l, nx), 10)) := Lib.hid (by rw [← HR3.out, if_pos (by rw [HST.out, if_pos hnn])])
              subst hnn
              clear cU cD cB cF2
              obtain ⟨hz, hi, hb⟩ := HF3.out.done (nx8 := nx) HF3.out.i HF3.out.own
              have HZ := Lib.hid hz
              have HI := Lib.hid hi
              have HBE := Lib.hid hb
              clear hz hi hb
              go_wp2
              refine bodyPost_ret (v := .tuple #[treeV (.slice a m cap) (nx), .int .i64 (10)]) ?_ rfl ?_
              · rw [results_cell_tmp rfl]
                go_simp
                rfl
              · rw [HR9.out]
                exact ⟨_, rfl, HI.out, HBE.out⟩
            · have e1 : (n == nd) = false := by rw [beq_eq_false_iff_ne]; exact hnn
              have HGN : Hid (loopGo l nd (300 - (i + 1)) (aboveI l n) = loopGo l nd 300 dt) := Lib.hid (by rw [HST.out, if_neg hnn])
              have cU1 := cU n wr HF3.out.i
              go_wp2_with (go_at_call 78; refine cU1.mono ?_; rintro e w5 ⟨rfl, hb5⟩; have HF5 := Lib.hid (HF3.out.below hb5); have HB25 := Lib.hid (HB23.out.trans (hb5.mono HB23.out.size)); clear hb5)
              go_roundw
              case rel => exact ⟨aboveI l n, i + 1, by omega, rfl, by first | rfl | go_num, HGN.out, HF5.out, HB25.out⟩
              case measure => simp [intOf]; omega
          · have HNL : Hid (loopGo l nd 300 dt = false) := Lib.hid (by
              rw [← HGO.out]
              by_cases hi3 : i = 300
              · subst hi3; rfl
              · rw [show 300 - i = (299 - i) + 1 by omega]
                show (if n < 0 then false else if n = nd then true else loopGo l nd (299 - i) (aboveI l n)) = _
                rw [if_pos (by omega)])
            have HR4 : Hid ((if (findI l dt ns).2 = 0 then ((l, nx), (6 : Int)) else ((putI (dropI l d s) nx dt ⟨ns, nd, dr, 0, sh⟩, nx + 1), 0)) = R) := Lib.hid (by rw [← HR3.out, if_neg (show ¬ loopGo l nd 300 dt = true by rw [HNL.out]; simp)])
            clear HR3
            have cF0 := cF2 wr HF3.out.i
            unfold FindPost at cF0
            have hguard : (decide (0 ≤ n) = true ∧ decide ((i : Int) < 300) = false) ∨ decide (0 ≤ n) = false := by
              by_cases h : 0 ≤ n
              · exact Or.inl ⟨decide_eq_true h, decide_eq_false (by omega)⟩
              · exact Or.inr (decide_eq_false h)
            have hng : (0 ≤ n ∧ ¬ (i : Int) < 300) ∨ ¬ 0 ≤ n := by
              by_cases h : 0 ≤ n
              · exact Or.inl ⟨h, by omega⟩
              · exact Or.inr h
            clear hcont HGO
            rcases hng with ⟨hg1, hg2⟩ | hg1
            all_goals
              (try have hg3 := decide_eq_true hg1)
              (try have hg4 := decide_eq_false hg2)
              (try have hg5 := decide_eq_false hg1)
              clear hguard
              go_upto_region 16 with (go_at_call 74; refine cF0.mono ?_; rintro e w6 ⟨rfl, hb6⟩; have HF6 := Lib.hid (HF3.out.below hb6); have HB26 := Lib.hid (HB23.out.trans (hb6.mono HB23.out.size)); clear hb6)
              clear HF3 HB23 t0 t1 r0 r1 f0 f1 x1 x2 cF0 cF2 cU cB
              obtain ⟨t0, t1, r0, r1, f0, f1⟩ := HF6.out.cells
              obtain ⟨x1, x2⟩ := HEX.out _ HB26.out
              have hF2 : (findI l dt ns).2 = 0 ∨ (findI l dt ns).2 ≠ 0 := Decidable.em _
              rcases hF2 with hF2 | hF2
              · have HR9 : Hid (R = ((l, nx), 6)) := Lib.hid (by rw [← HR4.out, if_pos hF2])
                rw [hF2]
                clear cD hF2
                obtain ⟨hz, hi, hb⟩ := HF6.out.done (nx8 := nx) HF6.out.i HF6.out.own
                have HZ := Lib.hid hz
                have HI := Lib.hid hi
                have HBE := Lib.hid hb
                clear hz hi hb
                go_wp2
                refine bodyPost_ret (v := .tuple #[treeV (.slice a m cap) (nx), .int .i64 (6)]) ?_ rfl ?_
                · rw [results_cell_tmp rfl]
                  go_simp
                  rfl
                · rw [HR9.out]
                  exact ⟨_, rfl, HI.out, HBE.out⟩
              · have HR9 : Hid (R = ((putI (dropI l d s) nx dt ⟨ns, nd, dr, 0, sh⟩, nx + 1), 0)) := Lib.hid (by rw [← HR4.out, if_neg hF2])
                have hz : ((findI l dt ns).2 == 0) = false := by rw [beq_eq_false_iff_ne]; exact hF2
                generalize (findI l dt ns).2 = FE2 at *
                clear hF2
                go_upto_region 18 with fail
                have HK : Hid (∀ (W : World) (x y : Value), (W.cell? ⟨bT, 0, none⟩ = some (.slice a m cap) ∧ W.cell? ⟨bT, 1, none⟩ = some (.int .i64 nx) ∧ W.cell? ⟨bX, 1, none⟩ = some (.int .i64 nd) ∧ W.cell? ⟨bX, 2, none⟩ = some (.bool dr)) → (((W.setCell ⟨bT + 1, 0, none⟩ x).setCell ⟨bT + 1, 1, none⟩ y).cell? ⟨bT, 0, none⟩ = some (.slice a m cap) ∧ ((W.setCell ⟨bT + 1, 0, none⟩ x).setCell ⟨bT + 1, 1, none⟩ y).cell? ⟨bT, 1, none⟩ = some (.int .i64 nx) ∧ ((W.setCell ⟨bT + 1, 0, none⟩ x).setCell ⟨bT + 1, 1, none⟩ y).cell? ⟨bX, 1, none⟩ = some (.int .i64 nd) ∧ ((W.setCell ⟨bT + 1, 0, none⟩ x).setCell ⟨bT + 1, 1, none⟩ y).cell? ⟨bX, 2, none⟩ = some (.bool dr))) := Lib.hid (fun W x y h => by
                  have e : ∀ k, k ≠ bT + 1 → ((W.setCell ⟨bT + 1, 0, none⟩ x).setCell ⟨bT + 1, 1, none⟩ y).heap[k]? = W.heap[k]? := fun k hk => by rw [Below.heap_setCell _ _ _ _ hk, Below.heap_setCell _ _ _ _ hk]
                  exact ⟨by rw [World.cell?_of_block (w := W) (a := ⟨bT, 0, none⟩) (e bT (by omega))]; exact h.1, by rw [World.cell?_of_block (w := W) (a := ⟨bT, 1, none⟩) (e bT (by omega))]; exact h.2.1, by rw [World.cell?_of_block (w := W) (a := ⟨bX, 1, none⟩) (e bX HXB.out)]; exact h.2.2.1, by rw [World.cell?_of_block (w := W) (a := ⟨bX, 2, none⟩) (e bX HXB.out)]; exact h.2.2.2⟩)
                have HFD : Hid (Fr w bT (.slice a m cap) nx l w6.drew) := Lib.hid (HF6.out.below (Below.refl _ _).drew)
                have u0 : w6.drew.cell? ⟨bT, 0, none⟩ = some (.slice a m cap) := t0
                have u1 : w6.drew.cell? ⟨bT, 1, none⟩ = some (.int .i64 nx) := t1
                have u2 : w6.drew.cell? ⟨bX, 1, none⟩ = some (.int .i64 nd) := x1
                have u3 : w6.drew.cell? ⟨bX, 2, none⟩ = some (.bool dr) := x2
                have v0 : w6.drew.cell? ⟨bT + 1, 0, none⟩ = some (.slice none 0 0) := r0
                have v1 : w6.drew.cell? ⟨bT + 1, 1, none⟩ = some (.int .i64 0) := r1
                have g0 : w6.drew.frozen? ⟨bT + 1, 0, none⟩ = false := f0
                have g1 : w6.drew.frozen? ⟨bT + 1, 1, none⟩ = false := f1
                have cD1 := cD w6.drew HFD.out.i
                unfold TreePost treeV at cD1
                have HX6 : Hid (bX < w6.drew.heap.size) := Lib.hid (World.block_lt_of_cell? w6.drew ⟨bX, 1, none⟩ u2)
                go_region_held3 (fun W => W.cell? ⟨bT, 0, none⟩ = some (.slice a m cap) ∧ W.cell? ⟨bT, 1, none⟩ = some (.int .i64 nx) ∧ W.cell? ⟨bX, 1, none⟩ = some (.int .i64 nd) ∧ W.cell? ⟨bX, 2, none⟩ = some (.bool dr)) (first | exact ⟨‹_›, ‹_›, ‹_›, ‹_›⟩ | exact HK.out _ _ _ ⟨‹_›, ‹_›, ‹_›, ‹_›⟩ | assumption | (refine ⟨?_, ?_, ?_, ?_⟩ <;> assumption)) (first
                  | (go_at_call 77; refine cD1.mono ?_; rintro e w8 ⟨v8, rfl, hi8, hfr8, hb8⟩; have HF8 := Lib.hid (HFD.out.below hb8); have k2 : w8.cell? ⟨bX, 1, none⟩ = some (.int .i64 nd) := (hb8.cell (p := ⟨bX, 1, none⟩) HX6.out).trans u2; have k3 : w8.cell? ⟨bX, 2, none⟩ = some (.bool dr) := (hb8.cell (p := ⟨bX, 2, none⟩) HX6.out).trans u3; have k0 := HF8.out.cells.1; have k1 := HF8.out.cells.2.1; have HX8 : Hid (bX < w8.heap.size) := Lib.hid (by have := hb8.size; have := HX6.out; omega); have cP1 := put10_c v8 (dropI l d s) nx dt ⟨ns, nd, dr, 0, sh⟩ w8 hi8.1 HDL.out hnx hnx0; unfold TreePost treeV entV at cP1; obtain ⟨a8, c8, hv8⟩ := hi8.1.len; generalize (dropI l d s).length = L8 at hv8; subst hv8)
                  | (go_at_call 76; refine cP1.mono ?_; rintro e w9 ⟨v9, rfl, hi9, hfr9, hb9⟩; have HF9 := Lib.hid (HF8.out.below hb9); have j2 : w9.cell? ⟨bX, 1, none⟩ = some (.int .i64 nd) := (hb9.cell (p := ⟨bX, 1, none⟩) HX8.out).trans k2; have j3 : w9.cell? ⟨bX, 2, none⟩ = some (.bool dr) := (hb9.cell (p := ⟨bX, 2, none⟩) HX8.out).trans k3; obtain ⟨j0, j1, l0, l1, o0, o1⟩ := HF9.out.cells; obtain ⟨hz9, hi99, hb99⟩ := HF9.out.done (nx8 := nx + 1) hi9 (fun e => by have h1 := hfr9 _ e; have h2 := lt_of_get HF8.out.r; omega); have HZ := Lib.hid hz9; have HI := Lib.hid hi99; have HBE := Lib.hid hb99; obtain ⟨a9, c9, hv9⟩ := hi9.1.len; generalize (putI (dropI l d s) nx dt ⟨ns, nd, dr, 0, sh⟩).length = L9 at hv9; subst hv9; clear hz9 hi99 hb99))
                all_goals
                  go_wp2
                  refine bodyPost_ret (v := .tuple #[treeV (.slice a9 L9 c9) (nx + 1), .int .i64 0]) ?_ rfl ?_
                  · rw [results_cell_tmp rfl]
                    go_simp
                    rfl
                  · rw [HR9.out]
                    exact ⟨_, rfl, HI.out, HBE.out⟩
      · have hz : (badE ns sh == 0) = false := by rw [beq_eq_false_iff_ne]; exact hBE
        have hz2 : (badE ns sh != 0) = true := by rw [bne, hz]; rfl
        have HR9 : Hid (R = ((l, nx), badE ns sh)) := Lib.hid (by rw [← HR2.out, if_pos hBE])
        generalize badE ns sh = BE at *
        clear hLE hBE cF2 cU cD
        go_upto_region 8 with (go_at_call 73; refine cB1.mono ?_; rintro e w4 ⟨rfl, rfl⟩)
        have HK : Hid (∀ (W : World) (x y : Value), (W.cell? ⟨bT, 0, none⟩ = some (.slice a m cap) ∧ W.cell? ⟨bT, 1, none⟩ = some (.int .i64 nx) ∧ W.cell? ⟨bX, 1, none⟩ = some (.int .i64 nd) ∧ W.cell? ⟨bX, 2, none⟩ = some (.bool dr)) → (((W.setCell ⟨bT + 1, 0, none⟩ x).setCell ⟨bT + 1, 1, none⟩ y).cell? ⟨bT, 0, none⟩ = some (.slice a m cap) ∧ ((W.setCell ⟨bT + 1, 0, none⟩ x).setCell ⟨bT + 1, 1, none⟩ y).cell? ⟨bT, 1, none⟩ = some (.int .i64 nx) ∧ ((W.setCell ⟨bT + 1, 0, none⟩ x).setCell ⟨bT + 1, 1, none⟩ y).cell? ⟨bX, 1, none⟩ = some (.int .i64 nd) ∧ ((W.setCell ⟨bT + 1, 0, none⟩ x).setCell ⟨bT + 1, 1, none⟩ y).cell? ⟨bX, 2, none⟩ = some (.bool dr))) := Lib.hid (fun W x y h => by
          have e : ∀ k, k ≠ bT + 1 → ((W.setCell ⟨bT + 1, 0, none⟩ x).setCell ⟨bT + 1, 1, none⟩ y).heap[k]? = W.heap[k]? := fun k hk => by rw [Below.heap_setCell _ _ _ _ hk, Below.heap_setCell _ _ _ _ hk]
          exact ⟨by rw [World.cell?_of_block (w := W) (a := ⟨bT, 0, none⟩) (e bT (by omega))]; exact h.1, by rw [World.cell?_of_block (w := W) (a := ⟨bT, 1, none⟩) (e bT (by omega))]; exact h.2.1, by rw [World.cell?_of_block (w := W) (a := ⟨bX, 1, none⟩) (e bX HXB.out)]; exact h.2.2.1, by rw [World.cell?_of_block (w := W) (a := ⟨bX, 2, none⟩) (e bX HXB.out)]; exact h.2.2.2⟩)
        have HFD : Hid (Fr w bT (.slice a m cap) nx l w4.drew) := Lib.hid (HF3.out.below (Below.refl _ _).drew)
        have u0 : w4.drew.cell? ⟨bT, 0, none⟩ = some (.slice a m cap) := t0
        have u1 : w4.drew.cell? ⟨bT, 1, none⟩ = some (.int .i64 nx) := t1
        have u2 : w4.drew.cell? ⟨bX, 1, none⟩ = some (.int .i64 nd) := x1
        have u3 : w4.drew.cell? ⟨bX, 2, none⟩ = some (.bool dr) := x2
        have v0 : w4.drew.cell? ⟨bT + 1, 0, none⟩ = some (.slice none 0 0) := r0
        have v1 : w4.drew.cell? ⟨bT + 1, 1, none⟩ = some (.int .i64 0) := r1
        have g0 : w4.drew.frozen? ⟨bT + 1, 0, none⟩ = false := f0
        have g1 : w4.drew.frozen? ⟨bT + 1, 1, none⟩ = false := f1
        go_region_held3 (fun W => W.cell? ⟨bT, 0, none⟩ = some (.slice a m cap) ∧ W.cell? ⟨bT, 1, none⟩ = some (.int .i64 nx) ∧ W.cell? ⟨bX, 1, none⟩ = some (.int .i64 nd) ∧ W.cell? ⟨bX, 2, none⟩ = some (.bool dr)) (first | exact ⟨‹_›, ‹_›, ‹_›, ‹_›⟩ | exact HK.out _ _ _ ⟨‹_›, ‹_›, ‹_›, ‹_›⟩ | assumption | (refine ⟨?_, ?_, ?_, ?_⟩ <;> assumption)) ((go_at_call 73; refine (cB _).mono ?_; rintro e w9 ⟨rfl, rfl⟩))
        all_goals
          obtain ⟨hz, hi, hb⟩ := HFD.out.done (nx8 := nx) HFD.out.i HFD.out.own
          have HZ := Lib.hid hz
          have HI := Lib.hid hi
          have HBE := Lib.hid hb
          clear hz hi hb
          go_wp2
          refine bodyPost_ret (v := .tuple #[treeV (.slice a m cap) (nx), .int .i64 (BE)]) ?_ rfl ?_
          · rw [results_cell_tmp rfl]
            go_simp
            rfl
          · rw [HR9.out]
            exact ⟨_, rfl, HI.out, HBE.out⟩
    · have hz : (listE l dt == 0) = false := by rw [beq_eq_false_iff_ne]; exact hLE
      have hz2 : (listE l dt != 0) = true := by rw [bne, hz]; rfl
      have HR9 : Hid (R = ((l, nx), listE l dt)) := Lib.hid (by rw [← HR1.out, if_pos hLE])
      clear cF2 cU cD cB
      obtain ⟨hz, hi, hb⟩ := HF3.out.done (nx8 := nx) HF3.out.i HF3.out.own
      have HZ := Lib.hid hz
      have HI := Lib.hid hi
      have HBE := Lib.hid hb
      clear hz hi hb
      go_wp2
      refine bodyPost_ret (v := .tuple #[treeV (.slice a m cap) (nx), .int .i64 (listE l dt)]) ?_ rfl ?_
      · rw [results_cell_tmp rfl]
        go_simp
        rfl
      · rw [HR9.out]
        exact ⟨_, rfl, HI.out, HBE.out⟩
  · have HR9 : Hid (R = ((l, nx), FE)) := Lib.hid (by rw [← HRR.out, if_pos hFE])
    have hz : (FE == 0) = false := by rw [beq_eq_false_iff_ne]; exact hFE
    have hz2 : (FE != 0) = true := by rw [bne, hz]; rfl
    clear cF2 cL cU cD cB
    obtain ⟨hz, hi, hb⟩ := HFX.out.done (nx8 := nx) HFX.out.i HFX.out.own
    have HZ := Lib.hid hz
    have HI := Lib.hid hi
    have HBE := Lib.hid hb
    clear hz hi hb
    go_wp2
    refine bodyPost_ret (v := .tuple #[treeV (.slice a m cap) (nx), .int .i64 (FE)]) ?_ rfl ?_
    · rw [results_cell_tmp rfl]
      go_simp
      rfl
    · rw [HR9.out]
      exact ⟨_, rfl, HI.out, HBE.out⟩
end Go.Proofs.YtfioknaadbgjlaaGreatDoor
