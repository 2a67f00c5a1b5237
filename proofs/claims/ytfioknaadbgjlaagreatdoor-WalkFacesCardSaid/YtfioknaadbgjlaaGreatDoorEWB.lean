/- Kit. -/
import Derived.Test.YtfioknaadbgjlaaGreatDoorEWA
import Derived.Handy
import Derived.Laws.EntriesVeiled
import Derived.Test.YtfioknaadbgjlaaGreatDoorEShelf
import Derived.Lib.SplitLaws
import Derived.IntWalk
set_option maxRecDepth 100000
set_option linter.unusedVariables false
set_option linter.unusedSimpArgs false
namespace Go.Proofs.YtfioknaadbgjlaaGreatDoor
open Go.RowKit Go.Sort
abbrev poV (b : Nat) : Value := .pointer (some ⟨b, 0, none⟩)
/-- What a step answers. -/
def stepI (fd : List Ent → List UInt8 → Option Ent) (l : List Itm) (n : Int) (s : List UInt8) : Ent × Int :=
  if listE l n ≠ 0 then (noEnt, listE l n) else match fd (listI l n) s with
    | none => (noEnt, 5)
    | some x => (x, 0)
def wstV (r : Ent × Int) : Value := .tuple #[entV r.1, .int .i64 r.2]
/-- The lists of a tree, in all worlds behind w0. -/
def ListW (w0 : World) (b : Nat) (l : List Itm) : Prop := ∀ (d : Int) (W : World), Below w0.heap.size w0 W → Calls Tryz.prog 12 #[poV b, .int .i64 d] W fun e w' => ∃ v, e = .returned (.tuple #[v, .int .i64 (listE l d)]) ∧ EntsIs w' v (listI l d) ∧ Below W.heap.size W w'
def FindW (w0 : World) (E : Int) (fd : List Ent → List UInt8 → Option Ent) (l : List Itm) : Prop := ∀ (d : Int) (v : Value) (s : ByteArray) (W : World), Below w0.heap.size w0 W → EntsIs W v (listI l d) → Calls Tryz.prog 45 #[.int .i64 E, v, .string s] W fun e w' => e = .returned (fndV (fd (listI l d) s.data.toList)) ∧ Below W.heap.size W w'
theorem wk_five {B q : Nat} {W0 W : World} {x0 x1 x2 x3 x4 : Value} (h : Below B W0 W) (hq : B ≤ q) : Below B W0 (((((W.setCell ⟨q, 0, none⟩ x0).setCell ⟨q, 1, none⟩ x1).setCell ⟨q, 2, none⟩ x2).setCell ⟨q, 3, none⟩ x3).setCell ⟨q, 4, none⟩ x4) :=
  ((((h.setCell (p := ⟨q, 0, none⟩) hq _).setCell (p := ⟨q, 1, none⟩) hq _).setCell (p := ⟨q, 2, none⟩) hq _).setCell (p := ⟨q, 3, none⟩) hq _).setCell (p := ⟨q, 4, none⟩) hq _
theorem wk_put {W : World} {q : Nat} {y0 y1 y2 y3 y4 : Value} (h : W.heap[q]? = some (.cells #[y0, y1, y2, y3, y4] 47 (0, 0))) (x0 x1 x2 x3 x4 : Value) : (((((W.setCell ⟨q, 0, none⟩ x0).setCell ⟨q, 1, none⟩ x1).setCell ⟨q, 2, none⟩ x2).setCell ⟨q, 3, none⟩ x3).setCell ⟨q, 4, none⟩ x4).heap[q]? = some (.cells #[x0, x1, x2, x3, x4] 47 (0, 0)) := by
  rw [heap_setCell_same _ q 4 _ _ _ (heap_setCell_same _ q 3 _ _ _ (heap_setCell_same _ q 2 _ _ _ (heap_setCell_same _ q 1 _ _ _ (heap_setCell_same _ q 0 _ _ _ h))))]
  rfl
theorem wk_off {W : World} {q k : Nat} (h : k ≠ q) (x0 x1 x2 x3 x4 : Value) : (((((W.setCell ⟨q, 0, none⟩ x0).setCell ⟨q, 1, none⟩ x1).setCell ⟨q, 2, none⟩ x2).setCell ⟨q, 3, none⟩ x3).setCell ⟨q, 4, none⟩ x4).heap[k]? = W.heap[k]? := by
  rw [Below.heap_setCell _ _ _ _ h, Below.heap_setCell _ _ _ _ h, Below.heap_setCell _ _ _ _ h, Below.heap_setCell _ _ _ _ h, Below.heap_setCell _ _ _ _ h]
set_option maxHeartbeats 4000000 in
set_option maxRecDepth 100000 in
theorem wstep_c {fd : List Ent → List UInt8 → Option Ent} {l : List Itm} {E : Int} {b p q : Nat} {w0 : World} (LC : ListW w0 b l) (FC : FindW w0 E fd l) (e : Ent) (s : ByteArray) (w : World) (hb : Below w0.heap.size w0 w)
    (hp : w.heap[p]? = some (.cells #[poV b] 25 (0, 0))) (hq : w.heap[q]? = some (.cells #[.int .i64 E] 3 (0, 0))) :
    Calls Tryz.prog 44 #[entV e, .string s, poV p, poV q] w fun r w' => r = .returned (wstV (stepI fd l e.node s.data.toList)) ∧ Below w.heap.size w w' := by
  obtain ⟨nm, nd, dr, ck, sh⟩ := e
  unfold entV
  simp only
  have HB : Hid (Below w.heap.size w ((w.alloc (.cells #[.string nm, .int .i64 nd, .bool dr, .int .i64 ck, .int .i64 sh] 47)).alloc (.cells #[.string ⟨#[]⟩, .int .i64 0, .bool false, .int .i64 0, .int .i64 0] 47))) := Lib.hid (((Below.refl _ _).alloc (Nat.le_refl _) _).alloc (by simp) _)
  have HQ : Hid (((w.alloc (.cells #[.string nm, .int .i64 nd, .bool dr, .int .i64 ck, .int .i64 sh] 47)).alloc (.cells #[.string ⟨#[]⟩, .int .i64 0, .bool false, .int .i64 0, .int .i64 0] 47)).heap[w.heap.size]? = some (.cells #[.string nm, .int .i64 nd, .bool dr, .int .i64 ck, .int .i64 sh] 47 (0, 0))) := Lib.hid (heap_alloc2_old _ _ _)
  have HZ : Hid (((w.alloc (.cells #[.string nm, .int .i64 nd, .bool dr, .int .i64 ck, .int .i64 sh] 47)).alloc (.cells #[.string ⟨#[]⟩, .int .i64 0, .bool false, .int .i64 0, .int .i64 0] 47)).heap[w.heap.size + 1]? = some (.cells #[.string ⟨#[]⟩, .int .i64 0, .bool false, .int .i64 0, .int .i64 0] 47 (0, 0))) := Lib.hid (heap_alloc2_new _ _ _)
  have HP := Lib.hid ((HB.out.block p (lt_of_get hp)).trans hp)
  have HE := Lib.hid ((HB.out.block q (lt_of_get hq)).trans hq)
  obtain ⟨A, hA⟩ : ∃ A, w.heap.size = A := ⟨_, rfl⟩
  have HB0 := Lib.hid (hb.trans (HB.out.mono hb.size))
  obtain ⟨R, hR⟩ : ∃ R, stepI fd l nd s.data.toList = R := ⟨_, rfl⟩
  have HR : Hid ((if listE l nd ≠ 0 then (noEnt, listE l nd) else match fd (listI l nd) s.data.toList with | none => (noEnt, 5) | some x => (x, 0)) = R) := Lib.hid hR
  rw [hR]
  clear hR hp hq hb
  go_enter Tryz.func44, Tryz.ntmps44
  go_upto_region 1 with fail
  generalize ((w.alloc (.cells #[.string nm, .int .i64 nd, .bool dr, .int .i64 ck, .int .i64 sh] 47)).alloc (.cells #[.string ⟨#[]⟩, .int .i64 0, .bool false, .int .i64 0, .int .i64 0] 47)) = W0 at *
  rw [hA] at HB HQ HZ
  (try rw [hA])
  have HA := Lib.hid hA
  clear hA
  have e0 : W0.cell? ⟨p, 0, none⟩ = some (poV b) := Lib.cell_of_heap HP.out 0
  have e1 : W0.cell? ⟨A, 1, none⟩ = some (.int .i64 nd) := Lib.cell_of_heap HQ.out 1
  have cL := LC nd W0 HB0.out
  go_upto_region 2 with (go_at_call 12; refine cL.mono ?_; rintro r w1 ⟨v, rfl, hE, hb1⟩; have HE1 := Lib.hid hE; have HB1 := Lib.hid hb1; clear hE hb1)
  have HZ1 := Lib.hid ((HB1.out.block _ (lt_of_get HZ.out)).trans HZ.out)
  have HQ1 := Lib.hid ((HB1.out.block _ (lt_of_get HE.out)).trans HE.out)
  have HS : Hid (A ≤ W0.heap.size) := Lib.hid (HB.out.size |> fun h => by have := HA.out; omega)
  have HW1 : Hid (Below A w w1) := Lib.hid (HB.out.trans (HB1.out.mono HS.out))
  have HX1 := Lib.hid (HB0.out.trans (HB1.out.mono HB0.out.size))
  clear e0 e1 cL LC
  by_cases hz : listE l nd = 0
  · have hz2 : ¬ listE l nd ≠ 0 := fun h => h hz
    have HRF := HR.out
    rw [if_neg hz2] at HRF
    rw [hz]
    have e1 : w1.cell? ⟨q, 0, none⟩ = some (.int .i64 E) := Lib.cell_of_heap HQ1.out 0
    have cF := FC nd v s w1 HX1.out HE1.out
    obtain ⟨av, cv, hv⟩ := HE1.out.len
    subst hv
    clear hz hz2 HR
    cases hf : fd (listI l nd) s.data.toList with
    | none =>
      rw [hf] at cF HRF
      simp only at HRF
      have HRR := Lib.hid HRF
      simp only [fndV, entV, noEnt] at cF
      clear HRF hf
      go_upto_region 5 with (go_at_call 45; refine cF.mono ?_; rintro r w2 ⟨rfl, hb2⟩; have HB2 := Lib.hid hb2; clear hb2)
      have hal : Below w2.heap.size w2 (w2.alloc (.cells #[.string ⟨#[]⟩, .int .i64 0, .bool false, .int .i64 0, .int .i64 0] 47)) := (Below.refl _ _).alloc (Nat.le_refl _) _
      have HW2 : Hid (Below A w (w2.alloc (.cells #[.string ⟨#[]⟩, .int .i64 0, .bool false, .int .i64 0, .int .i64 0] 47))) := Lib.hid ((HW1.out.trans (HB2.out.mono (Nat.le_trans HS.out HB1.out.size))).trans (hal.mono (Nat.le_trans HS.out (Nat.le_trans HB1.out.size HB2.out.size))))
      have hz2 := (HB2.out.block _ (lt_of_get HZ1.out)).trans HZ1.out
      have hz3 := (hal.block _ (lt_of_get hz2)).trans hz2
      obtain ⟨⟨p0, p1, p2, p3, p4⟩, ⟨f0, f1, f2, f3, f4⟩⟩ := five_cells hz3
      clear hal hz2 hz3 e1 cF FC
      generalize (w2.alloc (.cells #[.string ⟨#[]⟩, .int .i64 0, .bool false, .int .i64 0, .int .i64 0] 47)) = W2 at *
      go_wp2
      (try simp only [Exit.inBlock, Exit.then])
      refine bodyPost_ret (v := .tuple #[entV noEnt, .int .i64 5]) ?_ rfl ⟨by rw [← HRR.out]; rfl, by first | exact wk_five HW2.out (Nat.le_succ _) | (rw [HA.out]; exact wk_five HW2.out (Nat.le_succ _))⟩
      rw [results_cell_tmp rfl]
      unfold entV noEnt
      go_simp
    | some x =>
      rw [hf] at cF HRF
      simp only at HRF
      obtain ⟨nm2, nd2, dr2, ck2, sh2⟩ := x
      have HRR := Lib.hid HRF
      simp only [fndV, entV] at cF
      clear HRF hf
      go_upto_region 5 with (go_at_call 45; refine cF.mono ?_; rintro r w2 ⟨rfl, hb2⟩; have HB2 := Lib.hid hb2; clear hb2)
      have hal : Below w2.heap.size w2 (w2.alloc (.cells #[.string nm2, .int .i64 nd2, .bool dr2, .int .i64 ck2, .int .i64 sh2] 47)) := (Below.refl _ _).alloc (Nat.le_refl _) _
      have HW2 : Hid (Below A w (w2.alloc (.cells #[.string nm2, .int .i64 nd2, .bool dr2, .int .i64 ck2, .int .i64 sh2] 47))) := Lib.hid ((HW1.out.trans (HB2.out.mono (Nat.le_trans HS.out HB1.out.size))).trans (hal.mono (Nat.le_trans HS.out (Nat.le_trans HB1.out.size HB2.out.size))))
      have hz2 := (HB2.out.block _ (lt_of_get HZ1.out)).trans HZ1.out
      have hz3 := (hal.block _ (lt_of_get hz2)).trans hz2
      have hn := heap_alloc_new w2 (.cells #[.string nm2, .int .i64 nd2, .bool dr2, .int .i64 ck2, .int .i64 sh2] 47)
      obtain ⟨⟨p0, p1, p2, p3, p4⟩, ⟨f0, f1, f2, f3, f4⟩⟩ := five_cells hz3
      obtain ⟨⟨r0, r1, r2, r3, r4⟩, -⟩ := five_cells hn
      clear hal hz2 hz3 hn e1 cF FC
      generalize (w2.alloc (.cells #[.string nm2, .int .i64 nd2, .bool dr2, .int .i64 ck2, .int .i64 sh2] 47)) = W2 at *
      generalize w2.heap.size = k2 at *
      go_wp2
      (try simp only [Exit.inBlock, Exit.then])
      refine bodyPost_ret (v := .tuple #[entV ⟨nm2, nd2, dr2, ck2, sh2⟩, .int .i64 0]) ?_ rfl ⟨by rw [← HRR.out]; rfl, by first | exact wk_five HW2.out (Nat.le_succ _) | (rw [HA.out]; exact wk_five HW2.out (Nat.le_succ _))⟩
      rw [results_cell_tmp rfl]
      unfold entV
      go_simp
  · have HRF := HR.out
    rw [if_pos hz] at HRF
    have HRR := Lib.hid HRF
    have hzb : (listE l nd != 0) = true := bne_iff_ne.2 hz
    obtain ⟨⟨p0, p1, p2, p3, p4⟩, ⟨f0, f1, f2, f3, f4⟩⟩ := five_cells HZ1.out
    clear HR HRF FC hz
    generalize listE l nd = z at *
    go_wp2
    (try simp only [Exit.inBlock, Exit.then])
    refine bodyPost_ret (v := .tuple #[entV noEnt, .int .i64 z]) ?_ rfl ⟨by rw [← HRR.out]; rfl, by first | exact wk_five HW1.out (Nat.le_succ _) | (rw [HA.out]; exact wk_five HW1.out (Nat.le_succ _))⟩
    rw [results_cell_tmp rfl]
    unfold entV noEnt
    go_simp
/-- A walker over the captured blocks. -/
def walkerV (p q : Nat) : Value := .agg #[.func (.func 44) #[] #[poV p, poV q]]
theorem walkerSize : (Tryz.prog.info? 62).map (·.size) = some 1 := by kernel_rfl
set_option maxHeartbeats 4000000 in
set_option maxRecDepth 100000 in
theorem byFaces_c (E : Int) (b : Nat) (w : World) : Calls Tryz.prog 20 #[.int .i64 E, poV b] w fun r w' => ∃ p q, r = .returned (walkerV p q) ∧ w'.heap[p]? = some (.cells #[poV b] 25 (0, 0)) ∧ w'.heap[q]? = some (.cells #[.int .i64 E] 3 (0, 0)) ∧ Below w.heap.size w w' := by
  obtain ⟨A, hA⟩ : ∃ A, w.heap.size = A := ⟨_, rfl⟩
  have s1 : (w.alloc (.cells #[.int .i64 E] 3)).heap.size = w.heap.size + 1 := by simp
  have s2 : ((w.alloc (.cells #[.int .i64 E] 3)).alloc (.cells #[poV b] 25)).heap.size = w.heap.size + 1 + 1 := by simp
  have b1 : Below w.heap.size w (((w.alloc (.cells #[.int .i64 E] 3)).alloc (.cells #[poV b] 25)).alloc (.cells #[.nilFunc] 62)) := (((Below.refl _ w).alloc (Nat.le_refl _) _).alloc (by simp) _).alloc (by simp; omega) _
  have e0 : (((w.alloc (.cells #[.int .i64 E] 3)).alloc (.cells #[poV b] 25)).alloc (.cells #[.nilFunc] 62)).heap[w.heap.size]? = some (.cells #[.int .i64 E] 3 (0, 0)) := by
    rw [Below.heap_alloc _ _ _ (by rw [s2]; omega), Below.heap_alloc _ _ _ (by rw [s1]; omega)]
    exact heap_alloc_new _ _
  have e1 : (((w.alloc (.cells #[.int .i64 E] 3)).alloc (.cells #[poV b] 25)).alloc (.cells #[.nilFunc] 62)).heap[w.heap.size + 1]? = some (.cells #[poV b] 25 (0, 0)) := by
    rw [Below.heap_alloc _ _ _ (by rw [s2]; omega), ← s1]
    exact heap_alloc_new _ _
  have e2 : (((w.alloc (.cells #[.int .i64 E] 3)).alloc (.cells #[poV b] 25)).alloc (.cells #[.nilFunc] 62)).heap[w.heap.size + 1 + 1]? = some (.cells #[.nilFunc] 62 (0, 0)) := by
    rw [← s2]
    exact heap_alloc_new _ _
  have E0 := Lib.hid e0
  have E1 := Lib.hid e1
  have E2 := Lib.hid e2
  have B1 := Lib.hid b1
  have HA := Lib.hid hA
  clear e0 e1 e2 b1 s1 s2
  go_enter Tryz.func20, Tryz.ntmps20
  go_upto_region 1 with fail
  generalize ((w.alloc (.cells #[.int .i64 E] 3)).alloc (.cells #[poV b] 25)).alloc (.cells #[.nilFunc] 62) = W0 at *
  rw [hA] at E0 E1 E2 B1
  (try rw [hA])
  have q1 : W0.cell? ⟨A + 1 + 1, 0, none⟩ = some .nilFunc := Lib.cell_of_heap E2.out 0
  have q2 : W0.frozen? ⟨A + 1 + 1, 0, none⟩ = false := Lib.frozen_of_heap E2.out 0
  clear hA
  go_wp2
  (try simp only [Exit.inBlock, Exit.then])
  have hset : (W0.setCell ⟨A + 1 + 1, 0, none⟩ (.func (.func 44) #[] #[poV (A + 1), poV A])).heap[A + 1 + 1]? = some (.cells #[.func (.func 44) #[] #[poV (A + 1), poV A]] 62 (0, 0)) := by
    rw [heap_setCell_same W0 (A + 1 + 1) 0 _ _ _ E2.out]
    rfl
  refine bodyPost_ret (results_cell_row Tryz.results20 _ _ _ _ _ _ _ rfl hset Tryz.underlying62 rfl walkerSize) rfl ⟨A + 1, A, rfl, ?_, ?_, ?_⟩
  · rw [Below.heap_setCell _ _ _ _ (by show A + 1 ≠ A + 1 + 1; omega)]
    exact E1.out
  · rw [Below.heap_setCell _ _ _ _ (by show A ≠ A + 1 + 1; omega)]
    exact E0.out
  · rw [HA.out]
    exact B1.out.setCell (p := ⟨A + 1 + 1, 0, none⟩) (by show A ≤ A + 1 + 1; omega) _
end Go.Proofs.YtfioknaadbgjlaaGreatDoor
namespace Go.Proofs.YtfioknaadbgjlaaGreatDoor
open Go.RowKit Go.Sort
def followGo (fd : List Ent → List UInt8 → Option Ent) (l : List Itm) : Ent → List (List UInt8) → Ent × Int
  | c, [] => (c, 0)
  | c, x :: r => if (stepI fd l c.node x).2 ≠ 0 then (noEnt, (stepI fd l c.node x).2) else followGo fd l (stepI fd l c.node x).1 r
def rootE : Ent := ⟨⟨#[]⟩, 0, true, 0, 0⟩
theorem follow_err {fd : List Ent → List UInt8 → Option Ent} {l : List Itm} {c : Ent} {x : List UInt8} (r : List (List UInt8)) {e : Ent} {z : Int} (h : stepI fd l c.node x = (e, z)) (hz : z ≠ 0) : followGo fd l c (x :: r) = (noEnt, z) := by
  rw [followGo, h, if_pos hz]
theorem follow_ok {fd : List Ent → List UInt8 → Option Ent} {l : List Itm} {c : Ent} {x : List UInt8} (r : List (List UInt8)) {e : Ent} (h : stepI fd l c.node x = (e, 0)) : followGo fd l c (x :: r) = followGo fd l e r := by
  rw [followGo, h, if_neg (fun h => h rfl)]
set_option maxHeartbeats 4000000 in
set_option maxRecDepth 100000 in
theorem follow_c {fd : List Ent → List UInt8 → Option Ent} {l : List Itm} {E : Int} {b p q : Nat} {w0 : World} (LC : ListW w0 b l) (FC : FindW w0 E fd l) (nv : Value) (ns : List (List UInt8)) (w : World) (hb : Below w0.heap.size w0 w)
    (hp : w.heap[p]? = some (.cells #[poV b] 25 (0, 0))) (hq : w.heap[q]? = some (.cells #[.int .i64 E] 3 (0, 0))) (hn : TxtsIs w nv (ns.map mkS)) (hns : ns.length ≤ 1000) :
    Calls Tryz.prog 21 #[walkerV p q, nv] w fun r w' => r = .returned (wstV (followGo fd l rootE ns)) ∧ Below w.heap.size w w' := by
  obtain ⟨a, c, hnv⟩ := hn.len
  obtain ⟨m, hm⟩ : ∃ m, ns.length = m := ⟨_, rfl⟩
  rw [List.length_map, hm] at hnv
  subst hnv
  have hmk : m ≤ 1000 := by omega
  have HM := Lib.hid hm
  have HN := Lib.hid hn
  have HC : Hid (∀ (W : World), Below w.heap.size w W → ∀ (e : Ent) (s : ByteArray), Calls Tryz.prog 44 #[entV e, .string s, poV p, poV q] W fun r w' => r = .returned (wstV (stepI fd l e.node s.data.toList)) ∧ Below W.heap.size W w') :=
    Lib.hid (fun W hW e s => wstep_c LC FC e s W (hb.trans (hW.mono hb.size)) ((hW.block p (lt_of_get hp)).trans hp) ((hW.block q (lt_of_get hq)).trans hq))
  obtain ⟨A, hA⟩ : ∃ A, w.heap.size = A := ⟨_, rfl⟩
  unfold walkerV
  have s1 : (w.alloc (.cells #[.func (.func 44) #[] #[poV p, poV q]] 62)).heap.size = w.heap.size + 1 := by simp
  have s2 : ((w.alloc (.cells #[.func (.func 44) #[] #[poV p, poV q]] 62)).alloc (.cells #[.string ⟨#[]⟩, .int .i64 0, .bool false, .int .i64 0, .int .i64 0] 47)).heap.size = w.heap.size + 1 + 1 := by simp
  have b1 : Below w.heap.size w (((w.alloc (.cells #[.func (.func 44) #[] #[poV p, poV q]] 62)).alloc (.cells #[.string ⟨#[]⟩, .int .i64 0, .bool false, .int .i64 0, .int .i64 0] 47)).alloc (.cells #[.string ⟨#[]⟩, .int .i64 0, .bool true, .int .i64 0, .int .i64 0] 47)) := (((Below.refl _ w).alloc (Nat.le_refl _) _).alloc (by simp) _).alloc (by simp; omega) _
  have e0 : (((w.alloc (.cells #[.func (.func 44) #[] #[poV p, poV q]] 62)).alloc (.cells #[.string ⟨#[]⟩, .int .i64 0, .bool false, .int .i64 0, .int .i64 0] 47)).alloc (.cells #[.string ⟨#[]⟩, .int .i64 0, .bool true, .int .i64 0, .int .i64 0] 47)).heap[w.heap.size]? = some (.cells #[.func (.func 44) #[] #[poV p, poV q]] 62 (0, 0)) := by
    rw [Below.heap_alloc _ _ _ (by rw [s2]; omega), Below.heap_alloc _ _ _ (by rw [s1]; omega)]
    exact heap_alloc_new _ _
  have e1 : (((w.alloc (.cells #[.func (.func 44) #[] #[poV p, poV q]] 62)).alloc (.cells #[.string ⟨#[]⟩, .int .i64 0, .bool false, .int .i64 0, .int .i64 0] 47)).alloc (.cells #[.string ⟨#[]⟩, .int .i64 0, .bool true, .int .i64 0, .int .i64 0] 47)).heap[w.heap.size + 1]? = some (.cells #[.string ⟨#[]⟩, .int .i64 0, .bool false, .int .i64 0, .int .i64 0] 47 (0, 0)) := by
    rw [Below.heap_alloc _ _ _ (by rw [s2]; omega), ← s1]
    exact heap_alloc_new _ _
  have e2 : (((w.alloc (.cells #[.func (.func 44) #[] #[poV p, poV q]] 62)).alloc (.cells #[.string ⟨#[]⟩, .int .i64 0, .bool false, .int .i64 0, .int .i64 0] 47)).alloc (.cells #[.string ⟨#[]⟩, .int .i64 0, .bool true, .int .i64 0, .int .i64 0] 47)).heap[w.heap.size + 1 + 1]? = some (.cells #[.string ⟨#[]⟩, .int .i64 0, .bool true, .int .i64 0, .int .i64 0] 47 (0, 0)) := by
    rw [← s2]
    exact heap_alloc_new _ _
  have E0 := Lib.hid e0
  have E1 := Lib.hid e1
  have E2 := Lib.hid e2
  have B1 := Lib.hid b1
  have HA := Lib.hid hA
  clear e0 e1 e2 b1 s1 s2 hm hn hp hq hb LC FC hns
  go_enter Tryz.func21, Tryz.ntmps21
  go_upto_region 2 with fail
  generalize (((w.alloc (.cells #[.func (.func 44) #[] #[poV p, poV q]] 62)).alloc (.cells #[.string ⟨#[]⟩, .int .i64 0, .bool false, .int .i64 0, .int .i64 0] 47)).alloc (.cells #[.string ⟨#[]⟩, .int .i64 0, .bool true, .int .i64 0, .int .i64 0] 47)) = W0 at *
  rw [hA] at E0 E1 E2 B1
  (try rw [hA])
  clear hA
  go_wp2
  go_loopw [14] (fun iv wr => ∃ (i : Nat) (e : Ent), iv = .int .i64 i ∧ i ≤ m ∧ followGo fd l rootE ns = followGo fd l e (ns.drop i) ∧ Below A w wr ∧ wr.heap[A]? = some (.cells #[.func (.func 44) #[] #[poV p, poV q]] 62 (0, 0)) ∧ wr.heap[A + 1]? = some (.cells #[.string ⟨#[]⟩, .int .i64 0, .bool false, .int .i64 0, .int .i64 0] 47 (0, 0)) ∧ wr.heap[A + 1 + 1]? = some (.cells #[.string e.name, .int .i64 e.node, .bool e.dir, .int .i64 e.cookie, .int .i64 e.short] 47 (0, 0))) (fun iv _ => m - (intOf iv).toNat)
  case atStart => exact ⟨0, rootE, rfl, by omega, rfl, B1.out, E0.out, E1.out, E2.out⟩
  case round =>
    obtain ⟨i, e, rfl, him, hgo, hbel, h0, h1, h2⟩ := hrel
    obtain ⟨nm, nd, dr, ck, sh⟩ := e
    simp only at h2
    have HGO := Lib.hid hgo
    have HB := Lib.hid hbel
    have H0 := Lib.hid h0
    have H1 := Lib.hid h1
    have H2 := Lib.hid h2
    have HBW : Hid (Below w.heap.size w wr) := Lib.hid (by rw [HA.out]; exact hbel)
    have hc0 : wr.cell? ⟨A, 0, none⟩ = some (.func (.func 44) #[] #[poV p, poV q]) := Lib.cell_of_heap h0 0
    obtain ⟨⟨r0, r1, r2, r3, r4⟩, -⟩ := five_cells h2
    clear hgo hbel h0 h1 h2 E0 E1 E2 B1
    by_cases hk : i < m
    · have hkz : (i : Int) < (m : Int) := by omega
      have hk0 : (0 : Int) ≤ (i : Int) := by omega
      obtain ⟨x, hx⟩ : ∃ x, ns[i]? = some x := ⟨_, List.getElem?_eq_getElem (by rw [HM.out]; omega)⟩
      have HX := Lib.hid hx
      have HDR : Hid (ns.drop i = x :: ns.drop (i + 1)) := Lib.hid (drop_eq_cons hx)
      have HTX := Lib.hid (LstIs.kept HN.out HBW.out)
      obtain ⟨g, off, rfl, hg, hcell⟩ := txt_at HTX.out (j := i) (s := mkS x) (by rw [List.getElem?_map, HX.out]; rfl)
      have cS := HC.out wr HBW.out ⟨nm, nd, dr, ck, sh⟩ (mkS x)
      rw [mkS_list] at cS
      obtain ⟨S, hS⟩ : ∃ S, stepI fd l nd x = S := ⟨_, rfl⟩
      have HS := Lib.hid hS
      simp only [hS] at cS
      obtain ⟨⟨nm2, nd2, dr2, ck2, sh2⟩, z⟩ := S
      unfold wstV entV at cS
      simp only at cS
      generalize mkS x = T at *
      clear hS hx
      go_upto_region 6 with (go_at_call 44; refine cS.mono ?_; rintro r w1 ⟨rfl, hb1⟩; have HB1 := Lib.hid hb1; clear hb1)
      clear cS r0 r1 r2 r3 r4 hc0 hcell hg
      have hal : Below w1.heap.size w1 (w1.alloc (.cells #[.string nm2, .int .i64 nd2, .bool dr2, .int .i64 ck2, .int .i64 sh2] 47)) := (Below.refl _ _).alloc (Nat.le_refl _) _
      have hab : Below wr.heap.size wr (w1.alloc (.cells #[.string nm2, .int .i64 nd2, .bool dr2, .int .i64 ck2, .int .i64 sh2] 47)) := HB1.out.trans (hal.mono HB1.out.size)
      have hsz := lt_of_get H2.out
      have HW2 : Hid (Below A w (w1.alloc (.cells #[.string nm2, .int .i64 nd2, .bool dr2, .int .i64 ck2, .int .i64 sh2] 47))) := Lib.hid (HB.out.trans (hab.mono (by omega)))
      have HN2 := Lib.hid (heap_alloc_new w1 (.cells #[.string nm2, .int .i64 nd2, .bool dr2, .int .i64 ck2, .int .i64 sh2] 47))
      have J0 := Lib.hid ((hab.block _ (lt_of_get H0.out)).trans H0.out)
      have J1 := Lib.hid ((hab.block _ (lt_of_get H1.out)).trans H1.out)
      have J2 := Lib.hid ((hab.block _ (lt_of_get H2.out)).trans H2.out)
      have HLT : Hid (A + 1 + 1 < w1.heap.size) := Lib.hid (Nat.lt_of_lt_of_le hsz HB1.out.size)
      clear hal hab hsz HB1
      generalize (w1.alloc (.cells #[.string nm2, .int .i64 nd2, .bool dr2, .int .i64 ck2, .int .i64 sh2] 47)) = W2 at *
      generalize w1.heap.size = k2 at *
      by_cases hz : z = 0
      · subst hz
        have HG : Hid (followGo fd l rootE ns = followGo fd l ⟨nm2, nd2, dr2, ck2, sh2⟩ (ns.drop (i + 1))) := Lib.hid (by rw [HGO.out, HDR.out]; exact follow_ok _ HS.out)
        obtain ⟨⟨r0, r1, r2, r3, r4⟩, -⟩ := five_cells HN2.out
        obtain ⟨⟨p0, p1, p2, p3, p4⟩, ⟨f0, f1, f2, f3, f4⟩⟩ := five_cells J2.out
        clear HGO
        go_wp2
        go_roundw
        case rel => exact ⟨i + 1, ⟨nm2, nd2, dr2, ck2, sh2⟩, by first | rfl | go_num, by omega, HG.out, wk_five HW2.out (by omega), by rw [wk_off (by omega)]; exact J0.out, by rw [wk_off (by omega)]; exact J1.out, wk_put J2.out _ _ _ _ _⟩
        case measure => simp [intOf] <;> omega
      · have HG : Hid (followGo fd l rootE ns = (noEnt, z)) := Lib.hid (by rw [HGO.out, HDR.out]; exact follow_err _ HS.out hz)
        have hzb : (z != 0) = true := bne_iff_ne.2 hz
        obtain ⟨⟨p0, p1, p2, p3, p4⟩, ⟨f0, f1, f2, f3, f4⟩⟩ := five_cells J1.out
        clear HGO
        go_wp2
        (try simp only [Exit.inBlock, Exit.then])
        refine bodyPost_ret (v := .tuple #[entV noEnt, .int .i64 z]) ?_ rfl ⟨by rw [HG.out]; rfl, by rw [HA.out]; exact wk_five HW2.out (Nat.le_succ _)⟩
        rw [results_cell_tmp rfl]
        unfold entV noEnt
        go_simp
    · have hkz : ¬ (i : Int) < (m : Int) := by omega
      have HG : Hid (followGo fd l rootE ns = (⟨nm, nd, dr, ck, sh⟩, 0)) := Lib.hid (by rw [HGO.out, List.drop_eq_nil_of_le (by rw [HM.out]; omega)]; rfl)
      obtain ⟨⟨p0, p1, p2, p3, p4⟩, ⟨f0, f1, f2, f3, f4⟩⟩ := five_cells H1.out
      clear HGO
      go_wp2
      (try simp only [Exit.inBlock, Exit.then])
      refine bodyPost_ret (v := .tuple #[entV ⟨nm, nd, dr, ck, sh⟩, .int .i64 0]) ?_ rfl ⟨by rw [HG.out]; rfl, by rw [HA.out]; exact wk_five HB.out (Nat.le_succ _)⟩
      rw [results_cell_tmp rfl]
      unfold entV
      go_simp
end Go.Proofs.YtfioknaadbgjlaaGreatDoor
namespace Go.Proofs.YtfioknaadbgjlaaGreatDoor
open Go.RowKit Go.Sort
theorem splitK_char {c : UInt8} (h : c ≠ 47) (t : List UInt8) (k : Nat) : Lib.splitK [47] 0 k (c :: t) = frontB [c] (Lib.splitK [47] 0 k t) := by
  cases k with
  | zero => rfl
  | succ k =>
    have hp : ([47] : List UInt8).isPrefixOf (c :: t) = false := by simp [List.isPrefixOf, Ne.symm h]
    have hix : Lib.index (c :: t) [47] = if Lib.index t [47] == -1 then -1 else Lib.index t [47] + 1 := by rw [Lib.index, hp]; simp
    unfold Lib.splitK
    by_cases hm : Lib.index t [47] = -1
    · have h2 : Lib.index (c :: t) [47] = -1 := by rw [hix, if_pos (beq_iff_eq.2 hm)]
      rw [if_pos (beq_iff_eq.2 h2), if_pos (beq_iff_eq.2 hm)]
      rfl
    · have hge := Lib.index_ge t [47]
      obtain ⟨j, hj⟩ : ∃ j : Nat, Lib.index t [47] = j := ⟨(Lib.index t [47]).toNat, by omega⟩
      have hix' : Lib.index (c :: t) [47] = ((j + 1 : Nat) : Int) := by rw [hix, if_neg (fun e => hm (beq_iff_eq.1 e)), hj]; omega
      rw [if_neg (fun e => hm (beq_iff_eq.1 e)), if_neg (fun e => by have := beq_iff_eq.1 e; omega), hix', hj]
      simp only [Int.toNat_natCast, Nat.add_zero, List.length_cons, List.length_nil, List.take_succ_cons]
      rw [show j + 1 + (0 + 1) = (j + (0 + 1)) + 1 by omega, List.drop_succ_cons]
      rfl
theorem splitK_all : ∀ t : List UInt8, Lib.splitK [47] 0 (t.count 47) t = splitB t
  | [] => rfl
  | c :: t => by
    by_cases h : c = 47
    · subst h
      rw [List.count_cons_self, splitB_sl]
      have hix : Lib.index ((47 : UInt8) :: t) [47] = ((0 : Nat) : Int) := by rw [Lib.index]; simp [List.isPrefixOf]
      unfold Lib.splitK
      rw [if_neg (fun e => by have := beq_iff_eq.1 e; omega), hix]
      simp only [Int.toNat_natCast, Nat.add_zero, List.length_cons, List.length_nil, List.take_zero, Nat.zero_add, List.drop_succ_cons, List.drop_zero]
      rw [splitK_all t]
    · rw [List.count_cons_of_ne (by simpa using h), splitK_char h, splitK_all t, splitB_char h]
theorem countB_47 (s : ByteArray) : Lib.countB s ⟨#[47]⟩ = s.data.toList.count 47 := Lib.count_one 47 s.data.toList
theorem splitB_47 (s : ByteArray) : Lib.splitB ⟨#[47]⟩ 0 (s.data.toList.count 47) s = (splitB s.data.toList).map mkS := by
  have h := Lib.splitB_data ⟨#[47]⟩ 0 (s.data.toList.count 47) s
  rw [show (⟨#[47]⟩ : ByteArray).data.toList = [47] from rfl, splitK_all] at h
  rw [← h, List.map_map]
  conv => lhs; rw [← List.map_id (Lib.splitB _ _ _ _)]
  rfl
theorem splitB_len (t : List UInt8) : (splitB t).length = t.count 47 + 1 := by
  have h := Lib.splitB_all ⟨#[47]⟩ (by decide) 0 (t.count 47) (mkS t) (countB_47 (mkS t))
  have h2 := splitB_47 (mkS t)
  rw [mkS_list] at h2
  rw [h2, List.length_map] at h
  exact h
theorem gen_c (s : ByteArray) (hs : s.size < 4294967281) (w : World) : Calls Tryz.prog 62 #[.string s, .string ⟨#[47]⟩, .int .i64 0, .int .i64 (-1)] w fun e w' =>
    e = .returned (.slice (some ⟨w.heap.size, 0, none⟩) (splitB s.data.toList).length (splitB s.data.toList).length) ∧ w' = w.alloc (.cells (((splitB s.data.toList).map mkS).map Value.string).toArray 9) := by
  have hN : (((splitB s.data.toList).length : Nat) : Int) = min (if (-1 : Int) < 0 then (Lib.countB s ⟨#[47]⟩ : Int) + 1 else -1) ((s.size : Int) + 1) := by
    rw [if_pos (by decide), countB_47, splitB_len]
    have hle : s.data.toList.count 47 ≤ s.size := by
      have := List.count_le_length (a := (47 : UInt8)) (l := s.data.toList)
      rw [Array.length_toList] at this
      exact this
    omega
  have c := Any.strings_genSplit_core Tryz.lays221 (by kernel_rfl) s ⟨#[47]⟩ 0 (-1) (splitB s.data.toList).length w hs (by decide) (by decide)
    (fun x c _ => by
      have h := Tryz.strings_Index_one x 47 (w.alloc (.cells c 9))
      rw [← Lib.index_one] at h
      exact h)
    (by
      have h := Tryz.strings_Count_one s 47 w
      rw [show Lib.countByte s.data.toList 47 = Lib.countB s ⟨#[47]⟩ from (countB_47 s).symm] at h
      exact h)
    (by decide) (by decide) hN
  rw [splitB_len, Nat.add_sub_cancel, splitB_47] at c
  rw [splitB_len]
  refine c.mono ?_
  rintro e w' ⟨rfl, rfl⟩
  refine ⟨?_, ?_⟩
  · rw [List.length_map, splitB_len]
  · rw [show Lib.cellsOf ((splitB s.data.toList).map mkS) (s.data.toList.count 47 + 1) = (((splitB s.data.toList).map mkS).map Value.string).toArray by
      have h := Lib.cellsOf_full ((splitB s.data.toList).map mkS)
      rw [List.length_map, splitB_len] at h
      exact h]
    rfl
set_option maxHeartbeats 1000000 in
theorem wkCut_c (s : ByteArray) (hs : s.size < 4294967281) (w : World) : Calls Tryz.prog 34 #[.string s, .string ⟨#[47]⟩] w fun e w' =>
    ∃ m : Nat, e = .returned (.slice (some ⟨w.heap.size, 0, none⟩) m m) ∧ m = (splitB s.data.toList).length ∧ TxtsIs w' (.slice (some ⟨w.heap.size, 0, none⟩) m m) ((splitB s.data.toList).map mkS) ∧ Below w.heap.size w w' := by
  have c := gen_c s hs w
  go_enter Tryz.func34, Tryz.ntmps34
  go_wp2_with fail
  refine c.mono ?_
  rintro e w1 ⟨rfl, rfl⟩
  go_wp2
  go_ret
  refine ⟨_, rfl, rfl, ?_, (Below.refl _ _).alloc (Nat.le_refl _) _⟩
  refine Or.inr ⟨w.heap.size, 0, _, by simp, by rw [List.length_map], fun j x hj k u hu => ?_⟩
  have hk : k = 0 := by
    have h := (List.getElem?_eq_some_iff.1 hu).1
    simpa [txC] using h
  subst hk
  have hux : Value.string x = u := by simpa [txC] using hu
  rw [cell_of_row _ _ _ _ _ _ (heap_alloc_new _ _), List.getElem?_toArray, ← hux, Nat.zero_add, Nat.mul_one, Nat.add_zero]
  have h2 := congrArg (Option.map Value.string) hj
  rw [List.getElem?_map, Option.map_map] at h2
  rw [List.getElem?_map]
  exact h2
set_option maxHeartbeats 1000000 in
theorem wkClone_c (s : ByteArray) (hs : s.size ≤ 281474976710656) (w : World) : Calls Tryz.prog 35 #[.string s] w fun e w' => e = .returned (.string s) ∧ Below w.heap.size w w' := by
  by_cases h0 : s.toList = []
  · have hz : s = ⟨#[]⟩ := by
      have h1 : s.data.toList = [] := by rw [← ByteArray.toList_eq]; exact h0
      rw [← mkS_of s, h1]; rfl
    subst hz
    clear h0
    go_enter Tryz.func35, Tryz.ntmps35
    go_wp2
    go_ret
    exact ⟨rfl, Below.refl _ _⟩
  · have c := Tryz.stringslite_Clone s w hs
    have hp : s.size ≠ 0 := fun h => h0 (List.eq_nil_of_length_eq_zero (by rw [ByteArray.toList_eq, Array.length_toList]; exact h))
    have he : ((s.size : Int) == 0) = false := beq_eq_false_iff_ne.2 (by omega)
    clear h0 hp
    go_enter Tryz.func35, Tryz.ntmps35
    go_wp2_with fail
    refine c.mono ?_
    rintro e w1 ⟨rfl, hb⟩
    go_wp2
    go_ret
    exact ⟨rfl, hb⟩
theorem cut_47 (s : ByteArray) (w : World) : Calls Tryz.prog 33 #[.string s, .string ⟨#[47]⟩] w fun e w' => e = .returned (.tuple #[.string ⟨(Lib.trimPrefix s.data.toList [47]).toArray⟩, .bool (Lib.hasPrefix s.data.toList [47])]) ∧ w' = w := Tryz.strings_CutPrefix s ⟨#[47]⟩ w
theorem has_47 (c : UInt8) (t : List UInt8) : Lib.hasPrefix (c :: t) [47] = decide (c = 47) := by
  by_cases h : c = 47
  · subst h; simp [Lib.hasPrefix, List.isPrefixOf]
  · rw [decide_eq_false h]; simp [Lib.hasPrefix, List.isPrefixOf, Ne.symm h]
set_option maxHeartbeats 1000000 in
theorem mayBe_c (x : List UInt8) (w : World) : Calls Tryz.prog 36 #[.string (mkS x)] w fun e w' => e = .returned (.bool (!badN x)) ∧ w' = w := by
  have hs0 : (mkS x).toList.isEmpty = decide (x = []) := by rw [ByteArray.toList_eq, mkS_list]; cases x <;> simp
  have hs1 : ((mkS x).toList == [46]) = decide (x = [46]) := by rw [ByteArray.toList_eq, mkS_list, Bool.eq_iff_iff, beq_iff_eq, decide_eq_true_iff]
  have hs2 : ((mkS x).toList == [46, 46]) = decide (x = [46, 46]) := by rw [ByteArray.toList_eq, mkS_list, Bool.eq_iff_iff, beq_iff_eq, decide_eq_true_iff]
  have hr : badN x = (decide (x = []) || decide (x = [46]) || decide (x = [46, 46])) := rfl
  rw [hr]
  clear hr
  generalize decide (x = []) = t0 at *
  generalize decide (x = [46]) = t1 at *
  generalize decide (x = [46, 46]) = t2 at *
  generalize mkS x = S at *
  cases t0 <;> cases t1 <;> cases t2
  all_goals
    go_enter Tryz.func36, Tryz.ntmps36
    go_wp2
    go_ret
    exact ⟨by first | rfl | simp_all, rfl⟩
/-- What the program's Split keeps; what it answers is within its capacity. -/
def SplitD : Prop := ∀ (b : ByteArray) (w : World), b.size ≤ 9223372036854775807 → Calls Tryz.prog 15 #[.string b] w fun e w' => ∃ v, e = .returned (.tuple #[v, .int .i64 (splitI b.data.toList).2]) ∧ TxtsIs w' v ((splitI b.data.toList).1.map mkS) ∧ CapOk v ∧ Below w.heap.size w w'
set_option maxHeartbeats 4000000 in
set_option maxRecDepth 100000 in
theorem split_d : SplitD := by
  intro b w hs
  have hbl : b.data.toList.length = b.size := by simp
  have htl : b.toList = b.data.toList := ByteArray.toList_eq b
  by_cases hbig : 1024 < b.size
  · have hz : (1024 : Int) < (b.size : Int) := by omega
    rw [show splitI b.data.toList = ([], 4) by unfold splitI; rw [if_pos (by omega)]]
    clear hbig hbl htl
    go_enter Tryz.func15, Tryz.ntmps15
    go_wp2
    go_ret2
    exact ⟨_, rfl, LstIs.nil _ _ _, CapOk.none, Below.refl _ _⟩
  · have hz : ¬ (1024 : Int) < (b.size : Int) := by omega
    by_cases h1 : b.toList = [47]
    · have h11 : b.data.toList = [47] := by rw [← htl]; exact h1
      rw [h11, show splitI [47] = ([], 0) from rfl]
      have he1 : (b.toList == [47]) = true := beq_iff_eq.2 h1
      clear hbig hbl htl h11 h1
      go_enter Tryz.func15, Tryz.ntmps15
      go_wp2
      go_ret2
      exact ⟨_, rfl, LstIs.nil _ _ _, CapOk.none, Below.refl _ _⟩
    · have he1 : (b.toList == [47]) = false := beq_eq_false_iff_ne.2 h1
      have cC := cut_47 b w
      by_cases hh : ∃ t, b.data.toList = 47 :: t
      · obtain ⟨t, ht⟩ := hh
        have htr : (⟨(Lib.trimPrefix b.data.toList [47]).toArray⟩ : ByteArray) = mkS t := by
          rw [ht]; unfold Lib.trimPrefix; rw [if_pos (by rw [has_47]; rfl)]; rfl
        have hhp : Lib.hasPrefix b.data.toList [47] = true := by rw [ht, has_47]; rfl
        rw [htr, hhp] at cC
        have htne : t ≠ [] := fun h => h1 (by rw [htl, ht, h])
        have hlt : t.length ≤ 1024 := by
          rw [ht, List.length_cons] at hbl
          omega
        have hms : (mkS t).size = t.length := by show t.toArray.size = _; rw [List.size_toArray]
        have HSP := Lib.hid (splitI_go ht (by omega) htne)
        obtain ⟨names, hnm⟩ : ∃ l, splitB t = l := ⟨_, rfl⟩
        rw [hnm] at HSP
        obtain ⟨P, hP⟩ : ∃ P, b.data.toList = P := ⟨_, rfl⟩
        rw [hP] at HSP ⊢
        have hcl : names.length ≤ 1025 := by
          have h := splitB_len t
          have h2 := List.count_le_length (a := (47 : UInt8)) (l := t)
          rw [hnm] at h
          omega
        have HK := Lib.hid (fun w1 => wkClone_c (mkS t) (by omega) w1)
        have HG := Lib.hid (fun w1 => wkCut_c (mkS t) (by omega) w1)
        rw [mkS_list, hnm] at HG
        clear hbig hbl htl h1 ht htr hhp htne hlt hms hnm hP
        go_enter Tryz.func15, Tryz.ntmps15
        go_wp2_with fail
        refine cC.mono ?_
        rintro e w1 ⟨rfl, rfl⟩
        clear cC
        go_wp2_with fail
        refine (HK.out w1).mono ?_
        rintro e w2 ⟨rfl, hb2⟩
        go_wp2_with fail
        refine (HG.out w2).mono ?_
        rintro e w3 ⟨m, rfl, hm, hT, hb3⟩
        have HB3 : Hid (Below w1.heap.size w1 w3) := Lib.hid (hb2.trans (hb3.mono hb2.size))
        have HM := Lib.hid hm
        have HT := Lib.hid hT
        rw [← hm] at hcl
        generalize (⟨w2.heap.size, 0, none⟩ : Addr) = ad at *
        clear hm hT hb2 hb3
        go_wp2
        go_loopw [26] (fun iv wr => ∃ i : Nat, iv = .int .i64 i ∧ i ≤ m ∧ (names.take i).any badN = false ∧ wr = w3) (fun iv _ => m - (intOf iv).toNat)
        case atStart => exact ⟨0, rfl, by omega, rfl, rfl⟩
        case round =>
          obtain ⟨i, rfl, him, hany, rfl⟩ := hrel
          have HAN := Lib.hid hany
          clear hany
          by_cases hk : i < m
          · have hkz : (i : Int) < (m : Int) := by omega
            have hk0 : (0 : Int) ≤ (i : Int) := by omega
            obtain ⟨x, hx⟩ : ∃ x, names[i]? = some x := ⟨_, List.getElem?_eq_getElem (by rw [← HM.out]; omega)⟩
            have HX := Lib.hid hx
            obtain ⟨g, off, hga, hg, hcell⟩ := txt_at HT.out (j := i) (s := mkS x) (by rw [List.getElem?_map, hx]; rfl)
            injection hga with hga
            subst hga
            have cB := mayBe_c x wr
            clear hx
            go_wp2_with fail
            refine cB.mono ?_
            rintro e w4 ⟨rfl, rfl⟩
            clear cB
            cases hbx : badN x with
            | true =>
              have HE : Hid (splitI P = ([], 3)) := Lib.hid (by
                have h2 : names.any badN = true := List.any_eq_true.2 ⟨x, List.mem_of_getElem? HX.out, hbx⟩
                rw [HSP.out, if_pos h2])
              go_wp2
              go_ret2
              exact ⟨_, by rw [HE.out]; rfl, by rw [HE.out]; exact LstIs.nil _ _ _, CapOk.none, HB3.out⟩
            | false =>
              have HN : Hid ((names.take (i + 1)).any badN = false) := Lib.hid (by rw [take_snoc HX.out, List.any_append, HAN.out]; simp [hbx])
              go_wp2
              go_roundw
              case rel => exact ⟨i + 1, by first | rfl | go_num, by omega, HN.out, by first | trivial | rfl⟩
              case measure => simp [intOf] <;> omega
          · have hkz : ¬ (i : Int) < (m : Int) := by omega
            have HNB : Hid (names.any badN = false) := Lib.hid (by
              have h := HAN.out
              rwa [List.take_of_length_le (by rw [← HM.out]; omega)] at h)
            by_cases h16 : 16 < m
            · have h16z : (16 : Int) < (m : Int) := by omega
              have HE : Hid (splitI P = ([], 4)) := Lib.hid (by rw [HSP.out, HNB.out, if_neg (by decide), if_pos (by rw [← HM.out]; exact h16)])
              go_wp2
              go_ret2
              exact ⟨_, by rw [HE.out]; rfl, by rw [HE.out]; exact LstIs.nil _ _ _, CapOk.none, HB3.out⟩
            · have h16z : ¬ (16 : Int) < (m : Int) := by omega
              have HE : Hid (splitI P = (names, 0)) := Lib.hid (by rw [HSP.out, HNB.out, if_neg (by decide), if_neg (by rw [← HM.out]; exact h16)])
              go_wp2
              go_ret2
              exact ⟨_, by rw [HE.out]; rfl, by rw [HE.out]; exact HT.out, ⟨_, _, _, rfl, Nat.le_refl _⟩, HB3.out⟩
      · have hhp : Lib.hasPrefix b.data.toList [47] = false := by
          cases hq : b.data.toList with
          | nil => rfl
          | cons c t =>
            rw [has_47]
            exact decide_eq_false (fun h => hh ⟨t, by rw [hq, h]⟩)
        rw [hhp] at cC
        have hE : splitI b.data.toList = ([], 3) := by
          unfold splitI
          rw [if_neg (by omega)]
          cases hq : b.data.toList with
          | nil => rfl
          | cons c t =>
            simp only
            rw [if_pos (fun h => hh ⟨t, by rw [hq, h]⟩)]
        rw [hE]
        clear hbig hbl htl h1 hh hhp hE
        go_enter Tryz.func15, Tryz.ntmps15
        go_wp2_with fail
        refine cC.mono ?_
        rintro e w1 ⟨rfl, rfl⟩
        go_wp2
        go_ret2
        exact ⟨_, rfl, LstIs.nil _ _ _, CapOk.none, Below.refl _ _⟩
theorem split_c : SplitC fun _ => True := fun b w hs _ => (split_d b w hs).mono fun e w' ⟨v, h1, h2, _, h4⟩ => ⟨v, h1, h2, h4⟩
end Go.Proofs.YtfioknaadbgjlaaGreatDoor
namespace Go.Proofs.YtfioknaadbgjlaaGreatDoor
open Go.RowKit Go.Sort
abbrev zEn : Obj := .cells #[.string ⟨#[]⟩, .int .i64 0, .bool false, .int .i64 0, .int .i64 0] 47
/-- A tree's kinds, and what a find finds. -/
structure KindsOk (fd : List Ent → List UInt8 → Option Ent) (l : List Itm) : Prop where
  kind : ∀ d, ∀ e ∈ listI l d, kindI l e.node = if e.dir = true then 2 else 1
  mem : ∀ L x e, fd L x = some e → e ∈ L
theorem follow_walk {fd : List Ent → List UInt8 → Option Ent} {l : List Itm} (hK : KindsOk fd l) : ∀ (ns : List (List UInt8)) (c : Ent), kindI l c.node = (if c.dir = true then 2 else 1) → walkGo fd l c.node c.dir ns = ((followGo fd l c ns).1.node, (followGo fd l c ns).1.dir, (followGo fd l c ns).2)
  | [], c, _ => rfl
  | x :: r, c, hc => by
    obtain ⟨nm, nd, dr, ck, sh⟩ := c
    simp only at hc
    cases dr with
    | false =>
      have hl : listE l nd = 8 := by unfold listE; rw [hc]; rfl
      have hs : stepI fd l nd x = (noEnt, 8) := by unfold stepI; rw [hl, if_pos (by decide)]
      rw [walkGo_file, follow_err r hs (by decide)]
      rfl
    | true =>
      have hl : listE l nd = 0 := by unfold listE; rw [hc]; rfl
      cases hf : fd (listI l nd) x with
      | none =>
        have hs : stepI fd l nd x = (noEnt, 5) := by unfold stepI; rw [hl, if_neg (fun h => h rfl), hf]
        rw [walkGo_none r hf, follow_err r hs (by decide)]
        rfl
      | some e =>
        have hs : stepI fd l nd x = (e, 0) := by unfold stepI; rw [hl, if_neg (fun h => h rfl), hf]
        rw [walkGo_some r hf, follow_ok r hs]
        exact follow_walk hK r e (hK.kind nd e (hK.mem _ _ _ hf))
theorem walk_follow {fd : List Ent → List UInt8 → Option Ent} {l : List Itm} (hK : KindsOk fd l) (ns : List (List UInt8)) : walkI fd l ns = ((followGo fd l rootE ns).1.node, (followGo fd l rootE ns).1.dir, (followGo fd l rootE ns).2) :=
  follow_walk hK ns rootE rfl
set_option maxHeartbeats 4000000 in
set_option maxRecDepth 100000 in
theorem pnode_c {K : World → Prop} {fd : List Ent → List UInt8 → Option Ent} {l : List Itm} {E : Int} {b : Nat} {w0 : World} (hS : SplitC K) (hw : K w0) (LC : ListW w0 b l) (FC : FindW w0 E fd l) (hK : KindsOk fd l) (s : ByteArray) (hs : s.size ≤ 9223372036854775807) :
    Calls Tryz.prog 8 #[.int .i64 E, poV b, .string s] w0 fun e w' => e = .returned (walkV (nodeI fd l s.data.toList)) ∧ Below w0.heap.size w0 w' := by
  have cS := hS s w0 hs hw
  have hln := splitI_len s.data.toList
  obtain ⟨r, hr⟩ : ∃ r, splitI s.data.toList = r := ⟨_, rfl⟩
  have HN : Hid (nodeI fd l s.data.toList = if r.2 ≠ 0 then (0, false, r.2) else walkI fd l r.1) := Lib.hid (by unfold nodeI; rw [hr])
  rw [hr] at cS hln
  have HL := Lib.hid hln
  clear hr hln hS hw
  obtain ⟨ns, z⟩ := r
  simp only at cS
  by_cases hz : z = 0
  · subst hz
    have HW := Lib.hid (walk_follow hK ns)
    have HC := Lib.hid (fun p q nv W hb hp hq hn => follow_c (p := p) (q := q) LC FC nv ns W hb hp hq hn (Nat.le_trans HL.out (by decide)))
    obtain ⟨R, hR⟩ : ∃ R, followGo fd l rootE ns = R := ⟨_, rfl⟩
    rw [hR] at HW HC
    obtain ⟨⟨nm, nd, dr, ck, sh⟩, z⟩ := R
    have HE : Hid (nodeI fd l s.data.toList = (nd, dr, z)) := Lib.hid (by rw [HN.out, if_neg (fun h => h rfl), HW.out])
    unfold wstV entV at HC
    simp only at HC
    clear HN HW hR LC FC hK
    go_enter Tryz.func8, Tryz.ntmps8
    go_wp2_with fail
    refine cS.mono ?_
    rintro e w1 ⟨sv, rfl, hT, hb1⟩
    obtain ⟨a, c, hsv⟩ := hT.len
    obtain ⟨m, hm⟩ : ∃ m, ns.length = m := ⟨_, rfl⟩
    rw [List.length_map, hm] at hsv
    subst hsv
    have HB1 := Lib.hid hb1
    have HT := Lib.hid hT
    clear hT hb1 cS hm
    have cB := byFaces_c E b w1
    go_upto_region 5 with (first
      | (go_at_call 20; refine cB.mono ?_; rintro e w2 ⟨p, q, rfl, hp, hq, hb2⟩; have HP := Lib.hid hp; have HQ := Lib.hid hq; have HB2 := Lib.hid (HB1.out.trans (hb2.mono HB1.out.size)); have HT2 := Lib.hid (LstIs.kept HT.out hb2); clear hp hq hb2)
      | (go_at_call 21; refine (HC.out p q _ _ HB2.out HP.out HQ.out HT2.out).mono ?_; rintro e w3 ⟨rfl, hb3⟩; have HB3 := Lib.hid (HB2.out.trans (hb3.mono HB2.out.size)); clear hb3))
    have HB4 : Hid (Below w0.heap.size w0 (w3.alloc (.cells #[.string nm, .int .i64 nd, .bool dr, .int .i64 ck, .int .i64 sh] 47))) := Lib.hid (HB3.out.alloc HB3.out.size _)
    obtain ⟨⟨r0, r1, r2, r3, r4⟩, -⟩ := five_cells (heap_alloc_new w3 (.cells #[.string nm, .int .i64 nd, .bool dr, .int .i64 ck, .int .i64 sh] 47))
    generalize (w3.alloc (.cells #[.string nm, .int .i64 nd, .bool dr, .int .i64 ck, .int .i64 sh] 47)) = W4 at *
    generalize w3.heap.size = k3 at *
    go_quiet (fail)
    go_wp2
    go_ret3
    exact ⟨by rw [HE.out]; rfl, below_draws HB4.out _⟩
  · have hzb := ball_ne hz
    have HE : Hid (nodeI fd l s.data.toList = (0, false, z)) := Lib.hid (by rw [HN.out, if_pos hz])
    clear HN LC FC hK
    go_enter Tryz.func8, Tryz.ntmps8
    go_wp2_with fail
    refine cS.mono ?_
    rintro e w1 ⟨sv, rfl, hT, hb1⟩
    clear hT cS
    go_wp2
    go_ret3
    exact ⟨by rw [HE.out]; rfl, hb1⟩
set_option maxHeartbeats 4000000 in
set_option maxRecDepth 100000 in
theorem pparent_c {fd : List Ent → List UInt8 → Option Ent} {l : List Itm} {E : Int} {b : Nat} {w0 : World} (hS : SplitD) (LC : ListW w0 b l) (FC : FindW w0 E fd l) (hK : KindsOk fd l) (s : ByteArray) (hs : s.size ≤ 9223372036854775807) :
    Calls Tryz.prog 10 #[.int .i64 E, poV b, .string s] w0 fun e w' => e = .returned (parV (parentI fd l s.data.toList)) ∧ Below w0.heap.size w0 w' := by
  have cS := hS s w0 hs
  have hln := splitI_len s.data.toList
  obtain ⟨r, hr⟩ : ∃ r, splitI s.data.toList = r := ⟨_, rfl⟩
  have HN : Hid (parentI fd l s.data.toList = if r.2 ≠ 0 then (0, [], r.2) else if r.1 = [] then (0, [], 1) else if (walkI fd l r.1.dropLast).2.2 ≠ 0 then (0, [], (walkI fd l r.1.dropLast).2.2) else if (walkI fd l r.1.dropLast).2.1 = false then (0, [], 8) else ((walkI fd l r.1.dropLast).1, (r.1.getLast?).getD [], 0)) := Lib.hid (by unfold parentI; rw [hr])
  rw [hr] at cS hln
  have HL := Lib.hid hln
  clear hr hln hS
  obtain ⟨ns, z⟩ := r
  simp only at cS
  by_cases hz : z = 0
  · subst hz
    have HE : Hid (parentI fd l s.data.toList = if ns = [] then (0, [], 1) else if (walkI fd l ns.dropLast).2.2 ≠ 0 then (0, [], (walkI fd l ns.dropLast).2.2) else if (walkI fd l ns.dropLast).2.1 = false then (0, [], 8) else ((walkI fd l ns.dropLast).1, (ns.getLast?).getD [], 0)) := Lib.hid (by rw [HN.out, if_neg (fun h => h rfl)])
    clear HN
    obtain ⟨m, hm⟩ : ∃ m, ns.length = m := ⟨_, rfl⟩
    have HM := Lib.hid hm
    have hm16 : m ≤ 16 := by have := HL.out; simp only at this; omega
    have HW := Lib.hid (walk_follow hK ns.dropLast)
    have HC := Lib.hid (fun p q nv W hb hp hq hn => follow_c (p := p) (q := q) LC FC nv ns.dropLast W hb hp hq hn (by rw [List.length_dropLast]; omega))
    obtain ⟨R, hR⟩ : ∃ R, followGo fd l rootE ns.dropLast = R := ⟨_, rfl⟩
    rw [hR] at HW HC
    obtain ⟨⟨nm, nd, dr, ck, sh⟩, z⟩ := R
    rw [HW.out] at HE
    unfold wstV entV at HC
    simp only at HC HE
    clear hm hR LC FC hK HW
    go_enter Tryz.func10, Tryz.ntmps10
    go_wp2_with fail
    refine cS.mono ?_
    rintro e w1 ⟨sv, rfl, hT, hcap, hb1⟩
    obtain ⟨a, c, hsv⟩ := hT.len
    rw [List.length_map, HM.out] at hsv
    subst hsv
    have hmc : m ≤ c := hcap.le
    have HB1 := Lib.hid hb1
    have HT := Lib.hid hT
    clear hT hb1 cS
    by_cases h0 : m = 0
    · subst h0
      have HR : Hid (parentI fd l s.data.toList = (0, [], 1)) := Lib.hid (by rw [HE.out, if_pos (List.eq_nil_of_length_eq_zero HM.out)])
      clear HE HC
      go_wp2
      go_ret3
      exact ⟨by rw [HR.out]; rfl, HB1.out⟩
    · have hmz : ((m : Int) == 0) = false := beq_eq_false_iff_ne.2 (by omega)
      have hm1 : (0 : Int) ≤ (m : Int) - 1 := by omega
      have hm1b : (1 : Int) ≤ (m : Int) := by omega
      have hm2 : (m : Int) - 1 ≤ (m : Int) := by omega
      have hm3 : (m : Int) - 1 < (m : Int) := by omega
      have hmc2 : (m : Int) - 1 ≤ (c : Int) := by omega
      have hk1 : ((m : Int) - 1).toNat = m - 1 := by omega
      have hwr : IntKind.i64.wrap ((m : Int) - 1) = (m : Int) - 1 := IntWalk.i64_in _ (by omega)
      have HTP : Hid (TxtsIs w1 (.slice a (m - 1) c) (ns.dropLast.map mkS)) := Lib.hid (by
        have h := HT.out.pre (k := m - 1) (by rw [List.length_map, HM.out]; omega) c
        rw [← List.map_take] at h
        rw [dropLast_take, HM.out]
        exact h)
      have HNE : Hid (¬ ns = []) := Lib.hid (fun h => h0 (by rw [← HM.out, h]; rfl))
      go_upto_region 7 with fail
      go_cut [10, 12] from 27 to 36 (fun zv av wx => zv = .int .i64 z ∧ (∃ g, av = poV g ∧ wx.heap[g]? = some (.cells #[.string nm, .int .i64 nd, .bool dr, .int .i64 ck, .int .i64 sh] 47 (0, 0))) ∧ Below w1.heap.size w1 wx)
      case first =>
        go_region_with (first
          | (go_at_call 20; (with_reducible refine (byFaces_c E b w1.drew).mono ?_); rintro e w2 ⟨p, q, rfl, hp, hq, hb2⟩; have HP := Lib.hid hp; have HQ := Lib.hid hq; have HB2 : Hid (Below w1.heap.size w1 w2) := Lib.hid ((Below.refl _ _).drew.trans hb2); clear hp hq hb2)
          | (go_at_call 20; (with_reducible refine (byFaces_c E b (w1.alloc zEn).drew).mono ?_); rintro e w2 ⟨p, q, rfl, hp, hq, hb2⟩; have HP := Lib.hid hp; have HQ := Lib.hid hq; have HZ2 := Lib.hid ((hb2.block _ (lt_of_get (heap_alloc_new w1 zEn))).trans (heap_alloc_new w1 zEn)); have HB2 : Hid (Below w1.heap.size w1 w2) := Lib.hid (((Below.refl _ _).alloc (Nat.le_refl _) _).drew.trans (hb2.mono (by show w1.heap.size ≤ (w1.heap.push _).size; simp))); clear hp hq hb2)
          | (go_at_call 21; have hz2 := HZ2.out; have h1 := HC.out p q (.slice a (m - 1) c) w2 (HB1.out.trans (HB2.out.mono HB1.out.size)) HP.out HQ.out (LstIs.kept HTP.out HB2.out); refine h1.mono ?_; rintro e w3 ⟨rfl, hb3⟩; have HB3 := Lib.hid (HB2.out.trans (hb3.mono HB2.out.size)); have HZ3 := Lib.hid ((hb3.block _ (lt_of_get hz2)).trans hz2); obtain ⟨⟨p0, p1, p2, p3, p4⟩, ⟨f0, f1, f2, f3, f4⟩⟩ := five_cells HZ3.out; clear hb3 h1)
          | (go_at_call 21; have h1 := HC.out p q (.slice a (m - 1) c) w2 (HB1.out.trans (HB2.out.mono HB1.out.size)) HP.out HQ.out (LstIs.kept HTP.out HB2.out); refine h1.mono ?_; rintro e w3 ⟨rfl, hb3⟩; have HB3 := Lib.hid (HB2.out.trans (hb3.mono HB2.out.size)); clear hb3 h1)
          | (go_at_call 21; have h1 := HC.out p q (.slice a (m - 1) c) (w2.alloc zEn) (HB1.out.trans ((HB2.out.alloc HB2.out.size _).mono HB1.out.size)) (by rw [Below.heap_alloc _ _ _ (lt_of_get HP.out)]; exact HP.out) (by rw [Below.heap_alloc _ _ _ (lt_of_get HQ.out)]; exact HQ.out) (LstIs.kept HTP.out (HB2.out.alloc HB2.out.size _)); refine h1.mono ?_; rintro e w3 ⟨rfl, hb3⟩; have HB3 := Lib.hid ((HB2.out.alloc HB2.out.size _).trans (hb3.mono (Nat.le_trans HB2.out.size (by simp)))); have HZ3 := Lib.hid ((hb3.block _ (lt_of_get (heap_alloc_new w2 zEn))).trans (heap_alloc_new w2 zEn)); obtain ⟨⟨p0, p1, p2, p3, p4⟩, ⟨f0, f1, f2, f3, f4⟩⟩ := five_cells HZ3.out; clear hb3 h1)
          | fail)
        all_goals
          go_wp2
          go_meet
          refine ⟨rfl, ⟨_, rfl, ?_⟩, ?_⟩
          · first
              | (with_reducible exact heap_alloc_new _ _)
              | (with_reducible exact wk_put HZ3.out _ _ _ _ _)
              | fail
          · first
              | (with_reducible exact Below.alloc HB3.out HB3.out.size _)
              | (with_reducible exact wk_five HB3.out (Nat.le_refl _))
              | (with_reducible exact wk_five HB3.out HB2.out.size)
              | fail
      case rest =>
        obtain ⟨W2, hW2⟩ : ∃ W, W = wc := ⟨_, rfl⟩
        subst hW2
        obtain ⟨h1, ⟨g, h2, h3⟩, hb2⟩ := hcut
        subst h1 h2
        obtain ⟨⟨r0, r1, r2, r3, r4⟩, -⟩ := five_cells h3
        have HH : Hid (Below w0.heap.size w0 W2) := Lib.hid (HB1.out.trans (hb2.mono HB1.out.size))
        have HTX2 := Lib.hid (LstIs.kept HT.out hb2)
        clear h3 hb2 HC
        by_cases hr3 : z = 0
        · subst hr3
          cases dr with
          | false =>
            have HR : Hid (parentI fd l s.data.toList = (0, [], 8)) := Lib.hid (by rw [HE.out, if_neg HNE.out, if_neg (fun h => h rfl), if_pos rfl])
            clear HE
            go_wp2
            go_ret3
            exact ⟨by rw [HR.out]; rfl, HH.out⟩
          | true =>
            obtain ⟨x, hx⟩ : ∃ x, ns[m - 1]? = some x := ⟨_, List.getElem?_eq_getElem (by rw [HM.out]; omega)⟩
            have HR : Hid (parentI fd l s.data.toList = (nd, x, 0)) := Lib.hid (by
              rw [HE.out, if_neg HNE.out, if_neg (fun h => h rfl), if_neg (by decide), List.getLast?_eq_getElem?, HM.out, hx]
              rfl)
            obtain ⟨g, off, rfl, hg, hcell⟩ := txt_at HTX2.out (j := m - 1) (s := mkS x) (by rw [List.getElem?_map, hx]; rfl)
            clear HE hx
            have hm5 : (0 : Int) ≤ (m : Int) - 1 ∧ (m : Int) - 1 < (m : Int) := by omega
            go_wp2
            go_quiet (fail)
            go_wp2
            go_ret3
            exact ⟨by rw [HR.out]; rfl, below_draws HH.out _⟩
        · have hzb := ball_ne hr3
          have HR : Hid (parentI fd l s.data.toList = (0, [], z)) := Lib.hid (by rw [HE.out, if_neg HNE.out, if_pos hr3])
          clear HE
          go_wp2
          go_ret3
          exact ⟨by rw [HR.out]; rfl, HH.out⟩
  · have hzb := ball_ne hz
    have HE : Hid (parentI fd l s.data.toList = (0, [], z)) := Lib.hid (by rw [HN.out, if_pos hz])
    clear HN LC FC hK
    go_enter Tryz.func10, Tryz.ntmps10
    go_wp2_with fail
    refine cS.mono ?_
    rintro e w1 ⟨sv, rfl, hT, hcap, hb1⟩
    clear hT cS
    go_wp2
    go_ret3
    exact ⟨by rw [HE.out]; rfl, hb1⟩
end Go.Proofs.YtfioknaadbgjlaaGreatDoor
