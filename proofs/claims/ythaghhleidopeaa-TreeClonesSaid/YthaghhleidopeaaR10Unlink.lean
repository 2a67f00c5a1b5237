/-
  Prepared for stage 10: the reference's Unlink.
-/
import Derived.Test.YthaghhleidopeaaR10Link
namespace Go.Proofs.Ythaghhleidopeaa
open Go.RowKit Go.Sort
set_option linter.unusedVariables false

theorem below_drewN1 {B : Nat} {a w : World} (h : Below B a w) : ∀ q, Below B a (w.drewN q)
  | 0 => h
  | q + 1 => (below_drewN1 h q).drew
def hasIn (l : List Itm) (n : Int) : Bool := l.any fun x => decide (x.inn = n)
theorem hasIn_cons (x : Itm) (l : List Itm) (n : Int) : hasIn (x :: l) n = (decide (x.inn = n) || hasIn l n) := rfl
def unlinkI (l : List Itm) (nx d : Int) (s : ByteArray) (isD : Bool) : (List Itm × Int) × Int :=
  if (findI l d s).2 ≠ 0 then ((l, nx), (findI l d s).2)
  else if isD = true ∧ (findI l d s).1.dir = false then ((l, nx), 8)
  else if isD = false ∧ (findI l d s).1.dir = true then ((l, nx), 7)
  else if hasIn l (findI l d s).1.node = true then ((l, nx), 9)
  else ((dropI l d s, nx), 0)
def UnPost (r : (List Itm × Int) × Int) (w0 : World) (e : Ending) (w' : World) : Prop := ∃ v', e = .returned (.tuple #[treeV v' r.1.2, .int .i64 r.2]) ∧ ItmsT w' v' r.1.1 ∧ Below w0.heap.size w0 w'
/-- An entry's block. -/
theorem ent_block {W : World} {b : Nat} {x : Ent} {T : TypeId} (h : W.heap[b]? = some (.cells (entC x).toArray T (0, 0))) : W.cell? ⟨b, 0, none⟩ = some (.string x.name) ∧ W.cell? ⟨b, 1, none⟩ = some (.int .i64 x.node) ∧ W.cell? ⟨b, 2, none⟩ = some (.bool x.dir) ∧ W.cell? ⟨b, 3, none⟩ = some (.int .i64 x.cookie) ∧ W.cell? ⟨b, 4, none⟩ = some (.int .i64 x.short) :=
  (five_cells h).1
set_option maxHeartbeats 8000000 in
set_option maxRecDepth 100000 in
theorem unlink10_c (v : Value) (l : List Itm) (nx d : Int) (s : ByteArray) (isD : Bool) (w : World) (hv : ItmsT w v l) (hl : l.length ≤ 999) :
    Calls Try.prog 25 #[treeV v nx, .int .i64 d, .string s, .bool isD] w (UnPost (unlinkI l nx d s isD) w) := by
  unfold UnPost
  obtain ⟨R, hR⟩ : ∃ R, unlinkI l nx d s isD = R := ⟨_, rfl⟩
  rw [hR]
  unfold unlinkI at hR
  have HRR := Lib.hid hR
  obtain ⟨a, cap, rfl⟩ := hv.1.len
  have cF := fun W (h : ItmsT W (.slice a l.length cap) l) => find10_c (.slice a l.length cap) l nx d s W h.1 (by omega)
  have cD := fun W (h : ItmsT W (.slice a l.length cap) l) => drop10_c (.slice a l.length cap) l nx d s W h.1 (by omega)
  obtain ⟨m, hm⟩ : ∃ m, l.length = m := ⟨_, rfl⟩
  have HM := Lib.hid hm
  simp only [hm] at cF cD
  rw [hm] at hv hl ⊢
  have HF0 := Lib.hid (fr_new w _ nx l hv)
  unfold treeV at cF cD ⊢
  clear hv hm hR
  go_enter Try.func25, Try.ntmps25
  go_upto_region 1 with fail
  generalize (w.alloc (.cells #[.slice a m cap, .int .i64 nx] 48)).alloc (.cells #[.slice none 0 0, .int .i64 0] 48) = W0 at *
  generalize hbT : w.heap.size = bT at *
  have HBT := Lib.hid hbT
  clear hbT
  have cF0 := cF W0 HF0.out.i
  unfold FindPost entV at cF0
  obtain ⟨t0, t1, r0, r1, f0, f1⟩ := HF0.out.cells
  generalize hFI : findI l d s = F at *
  clear hFI
  obtain ⟨⟨nm, nd, dr, ck, sh⟩, FE⟩ := F
  simp only at cF0 HRR
  go_upto_region 2 with (go_at_call 21; refine cF0.mono ?_; rintro e w1 ⟨rfl, hb1⟩; have HF1 := Lib.hid (HF0.out.below hb1); clear hb1)
  clear cF cF0 HF0 t0 t1 r0 r1 f0 f1
  have HFX : Hid (Fr w bT (.slice a m cap) nx l (w1.alloc (.cells #[.string nm, .int .i64 nd, .bool dr, .int .i64 ck, .int .i64 sh] 40))) := Lib.hid (HF1.out.below ((Below.refl _ w1).alloc (Nat.le_refl _) _))
  have HEB : Hid ((w1.alloc (.cells #[.string nm, .int .i64 nd, .bool dr, .int .i64 ck, .int .i64 sh] 40)).heap[w1.heap.size]? = some (.cells #[.string nm, .int .i64 nd, .bool dr, .int .i64 ck, .int .i64 sh] 40 (0, 0))) := Lib.hid (heap_alloc_new _ _)
  generalize w1.alloc (.cells #[.string nm, .int .i64 nd, .bool dr, .int .i64 ck, .int .i64 sh] 40) = W2 at *
  generalize w1.heap.size = bX at *
  clear HF1
  obtain ⟨t0, t1, r0, r1, f0, f1⟩ := HFX.out.cells
  obtain ⟨⟨x0, x1, x2, x3, x4⟩, _⟩ := five_cells HEB.out
  by_cases hFE : FE = 0
  · have HR1 : Hid ((if isD = true ∧ dr = false then ((l, nx), (8 : Int)) else if isD = false ∧ dr = true then ((l, nx), 7) else if hasIn l nd = true then ((l, nx), 9) else ((dropI l d s, nx), 0)) = R) := Lib.hid (by rw [← HRR.out, if_neg (show ¬ FE ≠ 0 by rw [hFE]; simp)])
    subst hFE
    clear HRR
    by_cases h8 : isD = true ∧ dr = false
    · have HR9 : Hid (R = ((l, nx), 8)) := Lib.hid (by rw [← HR1.out, if_pos h8])
      obtain ⟨rfl, rfl⟩ := h8
      clear cD
      obtain ⟨hz, hi, hb⟩ := HFX.out.done (nx8 := nx) HFX.out.i HFX.out.own
      have HZ := Lib.hid hz
      have HI := Lib.hid hi
      have HBE := Lib.hid hb
      clear hz hi hb
      go_wp2
      refine bodyPost_ret (v := .tuple #[treeV (.slice a m cap) (nx), .int .i64 (8)]) ?_ rfl ?_
      · rw [results_cell_tmp rfl]
        go_simp
        rfl
      · rw [HR9.out]
        exact ⟨_, rfl, HI.out, HBE.out⟩
    · by_cases h7 : isD = false ∧ dr = true
      · have HR9 : Hid (R = ((l, nx), 7)) := Lib.hid (by rw [← HR1.out, if_neg h8, if_pos h7])
        obtain ⟨rfl, rfl⟩ := h7
        clear cD h8
        obtain ⟨hz, hi, hb⟩ := HFX.out.done (nx8 := nx) HFX.out.i HFX.out.own
        have HZ := Lib.hid hz
        have HI := Lib.hid hi
        have HBE := Lib.hid hb
        clear hz hi hb
        go_wp2
        refine bodyPost_ret (v := .tuple #[treeV (.slice a m cap) (nx), .int .i64 (7)]) ?_ rfl ?_
        · rw [results_cell_tmp rfl]
          go_simp
          rfl
        · rw [HR9.out]
          exact ⟨_, rfl, HI.out, HBE.out⟩
      · have HR2 : Hid ((if hasIn l nd = true then ((l, nx), (9 : Int)) else ((dropI l d s, nx), 0)) = R) := Lib.hid (by rw [← HR1.out, if_neg h8, if_neg h7])
        have hdd : dr = isD := by
          cases isD <;> cases dr <;> simp_all
        subst hdd
        clear h8 h7 HR1
        have hwalk : dr = true ∨ dr = false := by cases dr <;> simp
        rcases hwalk with rfl | rfl
        all_goals
          go_upto_region 8 with fail
          generalize hW2 : W2 = W3 at *
          clear hW2
          go_wp2
          go_loopw [12] (fun iv wr => ∃ i : Nat, i ≤ m ∧ iv = .int .i64 i ∧ hasIn (l.drop i) nd = hasIn l nd ∧ Fr w bT (.slice a m cap) nx l wr ∧ wr.cell? ⟨bX, 1, none⟩ = some (.int .i64 nd)) (fun iv _ => m - (intOf iv).toNat)
          case atStart => exact ⟨0, by omega, rfl, rfl, HFX.out, x1⟩
          case round =>
            obtain ⟨i, hi, rfl, hgo, hfr, hx1⟩ := hrel
            clear HFX t0 t1 r0 r1 f0 f1 x0 x1 x2 x3 x4 HEB
            have HGO := Lib.hid hgo
            have HFX := Lib.hid hfr
            obtain ⟨t0, t1, r0, r1, f0, f1⟩ := hfr.cells
            clear hgo hfr
            by_cases him : i < m
            · have hiz : (i : Int) < (m : Int) := by omega
              obtain ⟨x, hx⟩ : ∃ x, l[i]? = some x := ⟨_, List.getElem?_eq_getElem (by rw [HM.out]; omega)⟩
              obtain ⟨g, off, rfl, hg, hrg⟩ := HFX.out.i.1.at hx
              have d0 := (itm_at hrg).1
              have HG : Hid (hasIn l nd = (decide (x.inn = nd) || hasIn (l.drop (i + 1)) nd)) := Lib.hid (by rw [← HGO.out, drop_eq_cons hx, hasIn_cons])
              clear hx hrg
              generalize x.inn = inn at *
              by_cases hin : inn = nd
              · subst hin
                have HR9 : Hid (R = ((l, nx), 9)) := Lib.hid (by rw [← HR2.out, if_pos (by rw [HG.out]; simp)])
                go_wp2
                go_quiet (fail)
                have HFQ := Lib.hid (HFX.out.below (below_drewN1 (Below.refl _ _) nq))
                generalize wr.drewN nq = wq at *
                clear HFX t0 t1 r0 r1 f0 f1 d0 hx1
                obtain ⟨t0, t1, r0, r1, f0, f1⟩ := HFQ.out.cells
                clear cD
                obtain ⟨hz, hi, hb⟩ := HFQ.out.done (nx8 := nx) HFQ.out.i HFQ.out.own
                have HZ := Lib.hid hz
                have HI := Lib.hid hi
                have HBE := Lib.hid hb
                clear hz hi hb
                go_wp2
                refine bodyPost_ret (v := .tuple #[treeV (.slice (some ⟨g, off, none⟩) m cap) (nx), .int .i64 (9)]) ?_ rfl ?_
                · rw [results_cell_tmp rfl]
                  go_simp
                  rfl
                · rw [HR9.out]
                  exact ⟨_, rfl, HI.out, HBE.out⟩
              · have HGN : Hid (hasIn (l.drop (i + 1)) nd = hasIn l nd) := Lib.hid (by rw [HG.out, decide_eq_false hin, Bool.false_or])
                have e1 : (inn == nd) = false := by rw [beq_eq_false_iff_ne]; exact hin
                go_wp2
                go_quiet (fail)
                have HFQ := Lib.hid (HFX.out.below (below_drewN1 (Below.refl _ _) nq))
                have hxq : (wr.drewN nq).cell? ⟨bX, 1, none⟩ = some (.int .i64 nd) := by
                  rw [(below_drewN1 (Below.refl wr.heap.size wr) nq).cell (p := ⟨bX, 1, none⟩) (World.block_lt_of_cell? wr ⟨bX, 1, none⟩ hx1)]
                  exact hx1
                have HXQ := Lib.hid hxq
                clear hxq
                go_wp2
                go_roundw
                case rel => exact ⟨i + 1, by omega, by first | rfl | go_num, HGN.out, HFQ.out, HXQ.out⟩
                case measure => simp [intOf]; omega
            · have hiz : ¬ (i : Int) < (m : Int) := by omega
              have HGN : Hid (hasIn l nd = false) := Lib.hid (by
                rw [← HGO.out, List.drop_of_length_le (by rw [HM.out]; omega)]
                rfl)
              have HR9 : Hid (R = ((dropI l d s, nx), 0)) := Lib.hid (by rw [← HR2.out, if_neg (by rw [HGN.out]; simp)])
              have cD1 := cD wr HFX.out.i
              unfold TreePost treeV at cD1
              clear cD
              go_wp2_with (go_at_call 48; refine cD1.mono ?_; rintro e w8 ⟨v8, rfl, hi8, hfr8, hb8⟩; obtain ⟨a8, c8, hv8⟩ := hi8.1.len; have HF8 := Lib.hid (HFX.out.below hb8); obtain ⟨hz, hi, hb⟩ := HF8.out.done (nx8 := nx) hi8 (fun e => by have h1 := hfr8 _ e; have h2 := lt_of_get HFX.out.r; omega); have HZ := Lib.hid hz; have HI := Lib.hid hi; have HBE := Lib.hid hb; obtain ⟨q0, q1, y0, y1, z0, z1⟩ := HF8.out.cells; generalize (dropI l d s).length = L8 at hv8; subst hv8; clear hz hi hb hi8 hfr8 hb8)
              refine bodyPost_ret (v := .tuple #[treeV (.slice a8 L8 c8) nx, .int .i64 0]) ?_ rfl ?_
              · rw [results_cell_tmp rfl]
                go_simp
                rfl
              · rw [HR9.out]
                exact ⟨_, rfl, HI.out, HBE.out⟩
  · have HR9 : Hid (R = ((l, nx), FE)) := Lib.hid (by rw [← HRR.out, if_pos hFE])
    have hz : (FE == 0) = false := by rw [beq_eq_false_iff_ne]; exact hFE
    have hz2 : (FE != 0) = true := by rw [bne, hz]; rfl
    clear cD
    obtain ⟨hz, hi, hb⟩ := HFX.out.done (nx8 := nx) HFX.out.i HFX.out.own
    have HZ := Lib.hid hz
    have HI := Lib.hid hi
    have HBE := Lib.hid hb
    clear hz hi hb
    go_wp2
    refine bodyPost_ret (v := .tuple #[treeV (.slice a m cap) (nx), .int .i64 (FE)]) ?_ rfl ?_
    · rw [results_cell_tmp rfl]
      go_simp
      rfl
    · rw [HR9.out]
      exact ⟨_, rfl, HI.out, HBE.out⟩
end Go.Proofs.Ythaghhleidopeaa
