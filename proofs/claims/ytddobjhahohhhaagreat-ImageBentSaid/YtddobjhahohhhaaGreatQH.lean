/-
  Prepared for stage 10: what the laws ask of the project's tree, whatever it is made of: 'TreeC' (to be shown of the landed code); the law's own Do on it.   Prepared for stage 10: the law's Alike, of a project's tree and a reference's that hold the same.   Prepared for stage 10: the law's awake, on any TreeC.
  What the laws ask of a tree, shown of the project's.
-/
import Derived.Test.YtddobjhahohhhaaGreatQ5
import Derived.Test.YtddobjhahohhhaaGreatQD
import Derived.Test.YtddobjhahohhhaaGreatQG
namespace Go.Proofs.YtddobjhahohhhaaGreat
open Go.RowKit Go.Sort
set_option linter.unusedVariables false


/-- A tree of the project at block b: its items in their order, the next cookie, what it stands in. -/
structure TreeC where
  Is : World → Nat → List Itm → Int → (Nat → Prop) → Prop
  lt : ∀ {w b l nx S}, Is w b l nx S → ∀ k, S k → k < w.heap.size
  len : ∀ {w b l nx S}, Is w b l nx S → l.length ≤ 200
  next : ∀ {w b l nx S}, Is w b l nx S → 1 ≤ nx
  kept : ∀ {w w' b l nx S}, Is w b l nx S → w.heap.size ≤ w'.heap.size → (∀ k, S k → w'.heap[k]? = w.heap[k]?) → Is w' b l nx S
  typ : ∀ {w b l nx S}, Is w b l nx S → ∀ k, S k → ∀ t ∈ [127, 28, 45], ∀ cs fr, w.heap[k]? ≠ some (.cells cs t fr)
  new : ∀ w, Calls Tryz.prog 13 #[] w fun e w' => ∃ b S, e = .returned (ptrV b) ∧ Is w' b [] 1 S ∧ (∀ k, S k → w.heap.size ≤ k) ∧ Below w.heap.size w w'
  link : ∀ {w b l nx S} (d : Int) (s : ByteArray) (isD : Bool) (sh : Int), Is w b l nx S → s.size ≤ 9223372036854775807 → nx + 1 ≤ 9223372036854775807 →
    Calls Tryz.prog 36 #[ptrV b, .int .i64 d, .string s, .bool isD, .int .i64 sh] w fun e w' => ∃ S', e = .returned (.tuple #[.int .i64 (linkI l nx d s isD sh).2.1, .int .i64 (linkI l nx d s isD sh).2.2]) ∧ Is w' b (linkI l nx d s isD sh).1.1 (linkI l nx d s isD sh).1.2 S' ∧ Trod w w' S S'
  unlink : ∀ {w b l nx S} (d : Int) (s : ByteArray) (isD : Bool), Is w b l nx S →
    Calls Tryz.prog 37 #[ptrV b, .int .i64 d, .string s, .bool isD] w fun e w' => ∃ S', e = .returned (.int .i64 (unlinkI l nx d s isD).2) ∧ Is w' b (unlinkI l nx d s isD).1.1 (unlinkI l nx d s isD).1.2 S' ∧ Trod w w' S S'
  move : ∀ {w b l nx S} (d : Int) (s : ByteArray) (dt : Int) (ns : ByteArray) (sh : Int), Is w b l nx S → ns.size ≤ 9223372036854775807 → nx + 1 ≤ 9223372036854775807 →
    Calls Tryz.prog 38 #[ptrV b, .int .i64 d, .string s, .int .i64 dt, .string ns, .int .i64 sh] w fun e w' => ∃ S', e = .returned (.int .i64 (moveI l nx d s dt ns sh).2) ∧ Is w' b (moveI l nx d s dt ns sh).1.1 (moveI l nx d s dt ns sh).1.2 S' ∧ Trod w w' S S'
  list : ∀ {w b l nx S} (d : Int), Is w b l nx S →
    Calls Tryz.prog 20 #[ptrV b, .int .i64 d] w fun e w' => ∃ v, e = .returned (.tuple #[v, .int .i64 (listE l d)]) ∧ EntsIs w' v (listI l d) ∧ (∀ g, v.ownBlock = some g → w.heap.size ≤ g) ∧ Below w.heap.size w w'
  find : ∀ {w b l nx S} (d : Int) (s : ByteArray), Is w b l nx S →
    Calls Tryz.prog 63 #[ptrV b, .int .i64 d, .string s] w fun e w' => e = .returned (.tuple #[entV (findI l d s).1, .int .i64 (findI l d s).2]) ∧ Below w.heap.size w w'
  dirs : ∀ {w b l nx S}, Is w b l nx S →
    Calls Tryz.prog 19 #[ptrV b] w fun e w' => ∃ v, e = .returned v ∧ NumsL w' v (dirsI l) ∧ (∀ g, v.ownBlock = some g → w.heap.size ≤ g) ∧ Below w.heap.size w w'
  nodes : ∀ {w b l nx S}, Is w b l nx S →
    Calls Tryz.prog 33 #[ptrV b] w fun e w' => e = .returned (.int .i64 (l.length : Int)) ∧ Below w.heap.size w w'
  cookie : ∀ {w b l nx S}, Is w b l nx S →
    Calls Tryz.prog 18 #[ptrV b] w fun e w' => e = .returned (.int .i64 nx) ∧ Below w.heap.size w w'
namespace TreeC
variable (T : TreeC)
variable {w w' : World} {b : Nat} {l : List Itm} {nx : Int} {S S' : Nat → Prop}
theorem below (h : T.Is w b l nx S) (hb : Below w.heap.size w w') : T.Is w' b l nx S := T.kept h hb.size fun k hk => hb.block k (T.lt h k hk)
/-- Another tree, apart from the one that was trodden, is as it was. -/
theorem apart {a : Nat} {l2 : List Itm} {nx2 : Int} {S2 : Nat → Prop} (h : T.Is w a l2 nx2 S2) (ht : Trod w w' S S') (hd : ∀ k, S2 k → ¬ S k) : T.Is w' a l2 nx2 S2 ∧ ∀ k, S2 k → ¬ S' k :=
  ⟨T.kept h ht.size fun k hk => ht.rest k (T.lt h k hk) (hd k hk), fun k hk h1 => (ht.sub k h1).elim (hd k hk) (by have := T.lt h k hk; omega)⟩
/-- A block of the reference's is none of the tree's. -/
theorem off (h : T.Is w b l nx S) {g : Nat} {cs : Array Value} {t : TypeId} {fr : Nat × Nat} (hg : w.heap[g]? = some (.cells cs t fr)) (ht : t ∈ [127, 28, 45]) : ¬ S g := fun hs => T.typ h g hs t ht cs fr hg
theorem block (h : T.Is w b l nx S) (ht : Trod w w' S S') {g : Nat} {cs : Array Value} {t : TypeId} {fr : Nat × Nat} (hg : w.heap[g]? = some (.cells cs t fr)) (hm : t ∈ [127, 28, 45]) : w'.heap[g]? = some (.cells cs t fr) := (ht.rest g (lt_of_get hg) (T.off h hg hm)).trans hg
theorem items (h : T.Is w b l nx S) (ht : Trod w w' S S') {v : Value} {m : List Itm} (hv : ItmsT w v m) : ItmsT w' v m := by
  have hb : ∀ g, v.ownBlock = some g → w'.heap[g]? = w.heap[g]? := fun g hg => by
    obtain ⟨cs, hc⟩ := hv.2 g hg
    rw [T.block h ht hc (by simp), hc]
  exact ⟨hv.1.only ht.size hb, fun g hg => by
    obtain ⟨cs, hc⟩ := hv.2 g hg
    exact ⟨cs, T.block h ht hc (by simp)⟩⟩
/-- A store into a cell of the reference's. -/
theorem set (h : T.Is w b l nx S) {g : Nat} {cs : Array Value} {t : TypeId} {fr : Nat × Nat} (hg : w.heap[g]? = some (.cells cs t fr)) (hm : t ∈ [127, 28, 45]) (o : Nat) (x : Value) : T.Is (w.setCell ⟨g, o, none⟩ x) b l nx S :=
  T.kept h (by simp [World.setCell]) fun k hk => Below.heap_setCell _ _ _ _ (fun e => T.off h hg hm (show S g from (show k = g from e) ▸ hk))
end TreeC
theorem linkI_next (l : List Itm) (nx d : Int) (s : ByteArray) (isD : Bool) (sh : Int) : nx ≤ (linkI l nx d s isD sh).1.2 ∧ (linkI l nx d s isD sh).1.2 ≤ nx + 1 := by
  unfold linkI
  repeat' split
  all_goals (dsimp only; omega)
theorem unlinkI_next (l : List Itm) (nx d : Int) (s : ByteArray) (isD : Bool) : nx ≤ (unlinkI l nx d s isD).1.2 ∧ (unlinkI l nx d s isD).1.2 ≤ nx + 1 := by
  unfold unlinkI
  repeat' split
  all_goals (dsimp only; omega)
theorem moveI_next (l : List Itm) (nx d : Int) (s : ByteArray) (dt : Int) (ns : ByteArray) (sh : Int) : nx ≤ (moveI l nx d s dt ns sh).1.2 ∧ (moveI l nx d s dt ns sh).1.2 ≤ nx + 1 := by
  unfold moveI
  repeat' split
  all_goals (dsimp only; omega)
theorem doI_next (l : List Itm) (nx : Int) (o : OpT) : nx ≤ (doI l nx o).1.2 ∧ (doI l nx o).1.2 ≤ nx + 1 := by
  unfold doI
  split
  · exact linkI_next _ _ _ _ _ _
  · split
    · exact unlinkI_next _ _ _ _ _
    · exact moveI_next _ _ _ _ _ _ _
theorem put_tree2 {W : World} {q : Nat} {x0 x1 : Value} (hq : W.heap[q]? = some (.cells #[x0, x1] 28 (0, 0))) {v8 : Value} {nx8 : Int} {l8 : List Itm} (h8 : ItmsT W v8 l8) :
    ((W.setCell ⟨q, 0, none⟩ v8).setCell ⟨q, 1, none⟩ (.int .i64 nx8)).heap[q]? = some (.cells #[v8, .int .i64 nx8] 28 (0, 0)) ∧ ItmsT ((W.setCell ⟨q, 0, none⟩ v8).setCell ⟨q, 1, none⟩ (.int .i64 nx8)) v8 l8 := by
  have hb : v8.ownBlock ≠ some q := fun e => by
    obtain ⟨cs, hc⟩ := h8.2 _ e
    exact block_ne hc hq (by decide) rfl
  refine ⟨?_, (h8.set hb 0 _).set hb 1 _⟩
  rw [heap_setCell_same _ q 1 _ _ _ (heap_setCell_same _ q 0 _ _ _ hq)]
  rfl
theorem TreeC.set2 (T : TreeC) {w : World} {b : Nat} {l : List Itm} {nx : Int} {S : Nat → Prop} (h : T.Is w b l nx S) {q : Nat} {x0 x1 : Value} (hq : w.heap[q]? = some (.cells #[x0, x1] 28 (0, 0))) (x y : Value) : T.Is ((w.setCell ⟨q, 0, none⟩ x).setCell ⟨q, 1, none⟩ y) b l nx S :=
  T.set (T.set h hq (by simp) 0 x) (heap_setCell_same _ q 0 _ _ _ hq) (by simp) 1 y
abbrev ent0 : Obj := .cells #[.string ⟨#[]⟩, .int .i64 0, .bool false, .int .i64 0, .int .i64 0] 84
theorem ent_kept {W W' : World} {q : Nat} (h : W.heap[q]? = some ent0) (hb : Below W.heap.size W W') : W'.heap[q]? = some ent0 := (hb.block q (lt_of_get h)).trans h
theorem ent_fresh (W : World) : (W.alloc ent0).heap[W.heap.size]? = some ent0 := heap_alloc_new _ _
theorem ent_put {W : World} {q : Nat} (h : W.heap[q]? = some ent0) (x0 x1 x2 x3 x4 : Value) : (((((W.setCell ⟨q, 0, none⟩ x0).setCell ⟨q, 1, none⟩ x1).setCell ⟨q, 2, none⟩ x2).setCell ⟨q, 3, none⟩ x3).setCell ⟨q, 4, none⟩ x4).heap[q]? = some (.cells #[x0, x1, x2, x3, x4] 84 (0, 0)) := by
  rw [heap_setCell_same _ q 4 _ _ _ (heap_setCell_same _ q 3 _ _ _ (heap_setCell_same _ q 2 _ _ _ (heap_setCell_same _ q 1 _ _ _ (heap_setCell_same _ q 0 _ _ _ h))))]
  rfl
theorem below_five {B q : Nat} {W0 W : World} {x0 x1 x2 x3 x4 : Value} (h : Below B W0 W) (hq : B ≤ q) : Below B W0 (((((W.setCell ⟨q, 0, none⟩ x0).setCell ⟨q, 1, none⟩ x1).setCell ⟨q, 2, none⟩ x2).setCell ⟨q, 3, none⟩ x3).setCell ⟨q, 4, none⟩ x4) :=
  ((((h.setCell (p := ⟨q, 0, none⟩) hq _).setCell (p := ⟨q, 1, none⟩) hq _).setCell (p := ⟨q, 2, none⟩) hq _).setCell (p := ⟨q, 3, none⟩) hq _).setCell (p := ⟨q, 4, none⟩) hq _
set_option maxHeartbeats 8000000 in
set_option maxRecDepth 100000 in
theorem lawDo10_c (T : TreeC) {w : World} {b : Nat} {l : List Itm} {nx : Int} {S : Nat → Prop} (o : OpT) (h : T.Is w b l nx S) (hs : o.s.size ≤ 9223372036854775807) (hns : o.ns.size ≤ 9223372036854775807) (hk0 : 0 ≤ o.k) (hk1 : o.k ≤ 255) (hnx : nx + 1 ≤ 9223372036854775807) :
    Calls Tryz.prog 15 #[ptrV b, opV o] w fun e w' => ∃ S', e = .returned (.tuple #[.int .i64 (doI l nx o).2.1, .int .i64 (doI l nx o).2.2]) ∧ T.Is w' b (doI l nx o).1.1 (doI l nx o).1.2 S' ∧ Trod w w' S S' := by
  obtain ⟨k, d, dt, s, ns, isD, sh⟩ := o
  simp only at hs hns hk0 hk1
  obtain ⟨R, hR⟩ : ∃ R, doI l nx ⟨k, d, dt, s, ns, isD, sh⟩ = R := ⟨_, rfl⟩
  rw [hR]
  unfold doI at hR
  simp only at hR
  have HRR := Lib.hid hR
  have hb0 : Below w.heap.size w (w.alloc (.cells #[.int .u8 k, .int .i64 d, .int .i64 dt, .string s, .string ns, .bool isD, .int .i64 sh] 45)) := (Below.refl _ w).alloc (Nat.le_refl _) _
  have hi0 := T.below h hb0
  have HTR : Hid (Trod w (w.alloc (.cells #[.int .u8 k, .int .i64 d, .int .i64 dt, .string s, .string ns, .bool isD, .int .i64 sh] 45)) S S) := Lib.hid (Trod.of_below hb0)
  have HO : Hid ((w.alloc (.cells #[.int .u8 k, .int .i64 d, .int .i64 dt, .string s, .string ns, .bool isD, .int .i64 sh] 45)).heap[w.heap.size]? = some (.cells #[.int .u8 k, .int .i64 d, .int .i64 dt, .string s, .string ns, .bool isD, .int .i64 sh] 45 (0, 0))) := Lib.hid (heap_alloc_new _ _)
  have cL := T.link d s isD sh hi0 hs hnx
  have cU := T.unlink d s isD hi0
  have cM := T.move d s dt ns sh hi0 hns hnx
  unfold opV
  clear hR hb0 hi0 h
  go_enter Tryz.func15, Tryz.ntmps15
  go_upto_region 1 with fail
  generalize (w.alloc (.cells #[.int .u8 k, .int .i64 d, .int .i64 dt, .string s, .string ns, .bool isD, .int .i64 sh] 45)) = W0 at *
  generalize hbO : w.heap.size = bO at *
  have p0 : W0.cell? ⟨bO, 0, none⟩ = some (.int .u8 k) := Lib.cell_of_heap HO.out 0
  have p1 : W0.cell? ⟨bO, 1, none⟩ = some (.int .i64 d) := Lib.cell_of_heap HO.out 1
  have p2 : W0.cell? ⟨bO, 2, none⟩ = some (.int .i64 dt) := Lib.cell_of_heap HO.out 2
  have p3 : W0.cell? ⟨bO, 3, none⟩ = some (.string s) := Lib.cell_of_heap HO.out 3
  have p4 : W0.cell? ⟨bO, 4, none⟩ = some (.string ns) := Lib.cell_of_heap HO.out 4
  have p5 : W0.cell? ⟨bO, 5, none⟩ = some (.bool isD) := Lib.cell_of_heap HO.out 5
  have p6 : W0.cell? ⟨bO, 6, none⟩ = some (.int .i64 sh) := Lib.cell_of_heap HO.out 6
  have hkm : k.tmod 3 = k % 3 := Int.tmod_eq_emod_of_nonneg hk0
  have hkc : k % 3 = 0 ∨ k % 3 = 1 ∨ k % 3 = 2 := by omega
  rcases hkc with hkc | hkc | hkc
  · have HR9 : Hid (linkI l nx d s isD sh = R) := Lib.hid (by rw [← HRR.out, if_pos hkc])
    rw [HR9.out] at cL
    rw [hkc] at hkm
    clear cU cM hkc
    go_wp2_with (go_at_call 36; refine cL.mono ?_; rintro e w1 ⟨S1, rfl, hi1, ht1⟩; have HI := Lib.hid hi1; have HT := Lib.hid ht1; clear hi1 ht1)
    go_ret2
    exact ⟨S1, rfl, HI.out, HTR.out.trans HT.out⟩
  · have HR9 : Hid (((unlinkI l nx d s isD).1, 0, (unlinkI l nx d s isD).2) = R) := Lib.hid (by rw [← HRR.out, if_neg (show ¬ k % 3 = 0 by omega), if_pos hkc])
    generalize unlinkI l nx d s isD = U at *
    rw [hkc] at hkm
    clear cL cM hkc
    go_wp2_with (go_at_call 37; refine cU.mono ?_; rintro e w1 ⟨S1, rfl, hi1, ht1⟩; have HI := Lib.hid hi1; have HT := Lib.hid ht1; clear hi1 ht1)
    go_ret2
    rw [← HR9.out]
    exact ⟨S1, rfl, HI.out, HTR.out.trans HT.out⟩
  · have HR9 : Hid (((moveI l nx d s dt ns sh).1, 0, (moveI l nx d s dt ns sh).2) = R) := Lib.hid (by rw [← HRR.out, if_neg (show ¬ k % 3 = 0 by omega), if_neg (show ¬ k % 3 = 1 by omega)])
    generalize moveI l nx d s dt ns sh = U at *
    rw [hkc] at hkm
    clear cL cU hkc
    go_wp2_with (go_at_call 38; refine cM.mono ?_; rintro e w1 ⟨S1, rfl, hi1, ht1⟩; have HI := Lib.hid hi1; have HT := Lib.hid ht1; clear hi1 ht1)
    go_ret2
    rw [← HR9.out]
    exact ⟨S1, rfl, HI.out, HTR.out.trans HT.out⟩
end Go.Proofs.YtddobjhahohhhaaGreat

namespace Go.Proofs.YtddobjhahohhhaaGreat
open Go.RowKit Go.Sort
set_option linter.unusedVariables false

set_option maxHeartbeats 8000000 in
set_option maxRecDepth 100000 in
theorem alike10_c (T : TreeC) {w : World} {b : Nat} {l : List Itm} {nx : Int} {S : Nat → Prop} (v : Value) (h : T.Is w b l nx S) (hv : ItmsT w v l) :
    Calls Tryz.prog 12 #[ptrV b, treeV v nx] w fun e w' => e = .returned (.bool true) ∧ Below w.heap.size w w' := by
  have hlen := T.len h
  obtain ⟨a, cap, rfl⟩ := hv.1.len
  obtain ⟨m, hm⟩ : ∃ m, l.length = m := ⟨_, rfl⟩
  have HM := Lib.hid hm
  rw [hm] at hlen hv ⊢
  have hb0 : Below w.heap.size w (w.alloc (.cells #[.slice a m cap, .int .i64 nx] 28)) := (Below.refl _ w).alloc (Nat.le_refl _) _
  have HB0 := Lib.hid hb0
  have HI0 := Lib.hid (T.below h hb0)
  have HV0 := Lib.hid (hv.kept hb0)
  have HO : Hid ((w.alloc (.cells #[.slice a m cap, .int .i64 nx] 28)).heap[w.heap.size]? = some (.cells #[.slice a m cap, .int .i64 nx] 28 (0, 0))) := Lib.hid (heap_alloc_new _ _)
  unfold treeV
  clear h hv hm hb0
  go_enter Tryz.func12, Tryz.ntmps12
  go_upto_region 1 with fail
  generalize (w.alloc (.cells #[.slice a m cap, .int .i64 nx] 28)) = W0 at *
  generalize hbx : w.heap.size = bx at *
  have HBX := Lib.hid hbx
  have hlt : bx + 1 ≤ W0.heap.size := lt_of_get HO.out
  have HIW : Hid (∀ W, Below W0.heap.size W0 W → T.Is W b l nx S) := Lib.hid (fun W hW => T.below HI0.out hW)
  have HVW : Hid (∀ W, Below W0.heap.size W0 W → ItmsT W (.slice a m cap) l) := Lib.hid (fun W hW => HV0.out.kept hW)
  have HSK : Hid (∀ W, Below W0.heap.size W0 W → Below W0.heap.size W0 W ∧ W.cell? ⟨bx, 0, none⟩ = some (.slice a m cap) ∧ W.cell? ⟨bx, 1, none⟩ = some (.int .i64 nx)) := Lib.hid (fun W hW => ⟨hW, (two_cells ((hW.block bx (by omega)).trans HO.out)).1⟩)
  have cD := fun W (h : ItmsT W (.slice a m cap) l) => dirs10_c (.slice a m cap) l nx W h (by rw [HM.out]; omega)
  have cL := fun n W (h : ItmsT W (.slice a m cap) l) => list10_c (.slice a m cap) l nx n W h.1 (by rw [HM.out]; omega)
  unfold DirsPost treeV at cD
  unfold ListPost treeV at cL
  obtain ⟨D, hD⟩ : ∃ D, (dirsI l).length = D := ⟨_, rfl⟩
  have HD := Lib.hid hD
  have hD1 : D ≤ 201 := by rw [← hD]; exact dirsTo_le l 201
  clear hbx hD
  go_cut [5, 6] from 12 to 15 (fun v5 v6 wx => ∃ a5 c5 a6 c6, v5 = .slice a5 D c5 ∧ v6 = .slice a6 D c6 ∧ NumsL wx (.slice a5 D c5) (dirsI l) ∧ NumsL wx (.slice a6 D c6) (dirsI l) ∧ Below W0.heap.size W0 wx)
  case first =>
    have hs0 := HSK.out W0.drew (Below.refl _ _).drew
    go_region_held3 (fun W => Below W0.heap.size W0 W ∧ W.cell? ⟨bx, 0, none⟩ = some (.slice a m cap) ∧ W.cell? ⟨bx, 1, none⟩ = some (.int .i64 nx)) (first | assumption | (refine HSK.out _ ?_; first | assumption | exact (Below.refl _ _).drew | exact Below.drew ‹_›)) (first
      | (go_at_call 19; refine (T.dirs (HIW.out _ (by first | assumption | exact (Below.refl _ _).drew))).mono ?_; rintro e w1 ⟨v1, rfl, hn1, _, hb1⟩; have hq1 : Below W0.heap.size W0 w1 := below_step (Nat.le_refl _) (by first | assumption | exact (Below.refl _ _).drew) hb1; obtain ⟨a1, c1, hv1⟩ := hn1.len; subst hv1; have hk1 := fun W (h : Below w1.heap.size w1 W) => LstIs.kept hn1 h; rw [HD.out])
      | (go_at_call 30; refine (cD _ (HVW.out _ (by first | assumption | exact (Below.refl _ _).drew))).mono ?_; rintro e w2 ⟨v2, rfl, hn2, hb2⟩; have hq2 : Below W0.heap.size W0 w2 := below_step (Nat.le_refl _) (by first | assumption | exact (Below.refl _ _).drew) hb2; obtain ⟨a2, c2, hv2⟩ := hn2.len; subst hv2; have hk2 := fun W (h : Below w2.heap.size w2 W) => LstIs.kept hn2 h; rw [HD.out]))
    all_goals
      rw [HD.out] at hn1 hn2
      go_wp2
      go_meet
      first
        | exact ⟨_, _, _, _, rfl, rfl, LstIs.kept hn1 hb2, hn2, hq2⟩
        | exact ⟨_, _, _, _, rfl, rfl, hn1, LstIs.kept hn2 hb1, hq1⟩
  case rest =>
    obtain ⟨W2, hW2⟩ : ∃ W, W = wc := ⟨_, rfl⟩
    subst hW2
    obtain ⟨a5, c5, a6, c6, h5, h6, hn5, hn6, hb2⟩ := hcut
    subst h5
    subst h6
    have HN5 := Lib.hid hn5
    have HN6 := Lib.hid hn6
    have HB2 := Lib.hid hb2
    have hs2 := HSK.out W2 hb2
    clear hn5 hn6
    go_upto_region 2 with fail
    go_cut [35] from 16 to 35 (fun c wx => c = .bool false ∧ Below W2.heap.size W2 wx)
    case first =>
      have hs3 := HSK.out W2.drew hb2.drew
      have hr2 : Below W2.heap.size W2 W2.drew := (Below.refl _ _).drew
      have HSL : Hid (W0.heap.size ≤ W2.heap.size) := Lib.hid hb2.size
      go_region_held3 (fun W => Below W0.heap.size W0 W ∧ W.cell? ⟨bx, 0, none⟩ = some (.slice a m cap) ∧ W.cell? ⟨bx, 1, none⟩ = some (.int .i64 nx)) (first | assumption | (refine HSK.out _ ?_; first | assumption | exact hb2.drew | exact Below.drew ‹_›)) (first
        | (go_at_call 18; refine (T.cookie (HIW.out _ (by first | assumption | exact hb2.drew))).mono ?_; rintro e w1 ⟨rfl, hb1⟩; have hq1 : Below W2.heap.size W2 w1 := below_step (Nat.le_refl _) (by assumption) hb1; have hz1 : Below W0.heap.size W0 w1 := hb2.trans (hq1.mono HSL.out))
        | (go_at_call 33; refine (T.nodes (HIW.out _ (by first | assumption | exact hb2.drew))).mono ?_; rintro e w3 ⟨rfl, hb3⟩; have hq3 : Below W2.heap.size W2 w3 := below_step (Nat.le_refl _) (by assumption) hb3; have hz3 : Below W0.heap.size W0 w3 := hb2.trans (hq3.mono HSL.out); rw [HM.out]))
      all_goals
        go_wp2
        go_meet
        exact ⟨rfl, by assumption⟩
    case rest =>
      obtain ⟨W3, hW3⟩ : ∃ W, W = wc := ⟨_, rfl⟩
      subst hW3
      obtain ⟨h35, hb3⟩ := hcut
      subst h35
      go_wp2
      go_loopw [7] (fun iv wr => ∃ i : Nat, i ≤ D ∧ iv = .int .i64 i ∧ Below W2.heap.size W2 wr) (fun iv _ => D - (intOf iv).toNat)
      case atStart => exact ⟨0, by omega, rfl, hb3⟩
      case round =>
        obtain ⟨i, hi, rfl, hb⟩ := hrel
        clear hb3 hs2
        have HB := Lib.hid hb
        have hbw : Below W0.heap.size W0 wr := hb2.trans (hb.mono hb2.size)
        have HBW := Lib.hid hbw
        by_cases hin : i < D
        · have hiz : (i : Int) < (D : Int) := by omega
          obtain ⟨q, hq⟩ : ∃ x, (dirsI l)[i]? = some x := ⟨_, List.getElem?_eq_getElem (by rw [HD.out]; omega)⟩
          obtain ⟨g5, o5, rfl, hg5, hr5⟩ := HN5.out.at hq
          obtain ⟨g6, o6, rfl, hg6, hr6⟩ := HN6.out.at hq
          have HC : Hid (∀ W, Below W2.heap.size W2 W → W.cell? ⟨g5, o5 + i, none⟩ = some (.int .i64 q) ∧ W.cell? ⟨g6, o6 + i, none⟩ = some (.int .i64 q)) := Lib.hid (fun W hW => by
            have h1 := num_at (rangeAt_below hr5 hg5 hW)
            have h2 := num_at (rangeAt_below hr6 hg6 hW)
            rw [Nat.mul_one] at h1 h2
            exact ⟨h1, h2⟩)
          obtain ⟨p1, p2⟩ := HC.out wr hb
          obtain ⟨n, hn⟩ : ∃ n, (listI l q).length = n := ⟨_, rfl⟩
          have HNN := Lib.hid hn
          have hn1 : n ≤ 200 := by have := listI_le l q; have := HM.out; omega
          have cT := T.list q (HIW.out wr hbw)
          have HSC : Hid (∀ W, Below W2.heap.size W2 W → Below W2.heap.size W2 W ∧ W.cell? ⟨bx, 0, none⟩ = some (.slice a m cap) ∧ W.cell? ⟨bx, 1, none⟩ = some (.int .i64 nx) ∧ W.cell? ⟨g6, o6 + i, none⟩ = some (.int .i64 q)) := Lib.hid (fun W hW => ⟨hW, (HSK.out W (hb2.trans (hW.mono hb2.size))).2.1, (HSK.out W (hb2.trans (hW.mono hb2.size))).2.2, (HC.out W hW).2⟩)
          have HB2' : Hid (∀ W, Below W2.heap.size W2 W → Below W0.heap.size W0 W) := Lib.hid (fun W hW => hb2.trans (hW.mono hb2.size))
          clear hr5 hr6 hg5 hg6 hq hn hb2 hbw
          go_upto_region 8 with (go_at_call 20; refine cT.mono ?_; rintro e w4 ⟨v4, rfl, he4, _, hb4⟩; have hq4 : Below W2.heap.size W2 w4 := below_step (Nat.le_refl _) hb hb4; obtain ⟨a4, c4, hv4⟩ := he4.len; subst hv4; rw [HNN.out] at he4; have HE4 := Lib.hid he4; rw [HNN.out]; clear he4 hb4 hb p1 p2)
          obtain ⟨s0, s1, s2, s3⟩ := HSC.out w4.drew hq4.drew
          go_region_held3 (fun W => Below W2.heap.size W2 W ∧ W.cell? ⟨bx, 0, none⟩ = some (.slice a m cap) ∧ W.cell? ⟨bx, 1, none⟩ = some (.int .i64 nx) ∧ W.cell? ⟨g6, o6 + i, none⟩ = some (.int .i64 q)) (first | assumption | (refine HSC.out _ ?_; first | assumption | exact hq4.drew | exact Below.drew ‹_›)) ((go_at_call 31; refine (cL q _ (HVW.out _ (HB2'.out _ hq4.drew))).mono ?_; rintro e w5 ⟨v5, rfl, he5, hb5⟩; have hq5 : Below W2.heap.size W2 w5 := below_step (Nat.le_refl _) hq4.drew hb5; obtain ⟨a5', c5', hv5⟩ := he5.len; subst hv5; rw [HNN.out] at he5; rw [HNN.out]))
          all_goals
            have HE5 := Lib.hid he5
            have HE4b : Hid (EntsIs w5 (.slice a4 n c4) (listI l q)) := Lib.hid (LstIs.kept (w := w4.drew) (LstIs.kept HE4.out (Below.refl _ _).drew) hb5)
            have cS : ∀ p, Calls Tryz.prog 34 #[.slice a4 n c4, .slice a5' n c5'] (w5.drewN p) fun e w' => e = .returned (.bool true) ∧ ∃ q, w' = (w5.drewN p).drewN q := fun p => by
              have h := same10_c (.slice a4 n c4) (.slice a5' n c5') (listI l q) (listI l q) (w5.drewN p) (LstIs.kept HE4b.out (below_drewN1 (Below.refl _ _) p)) (LstIs.kept HE5.out (below_drewN1 (Below.refl _ _) p)) (by rw [HNN.out]; omega) (by rw [HNN.out]; omega)
              rw [decide_eq_true rfl] at h
              exact h
            obtain ⟨p1, p2⟩ := HC.out w5 hq5
            have HQ5 := Lib.hid hq5
            clear he5 hb5 hq5 hq4 s0 s1 s2 s3
            go_wp2
            go_quiet ((go_at_call 34; exact Calls.quiet_of (cS _)))
            go_wp2
            go_roundw
            case rel => exact ⟨i + 1, by omega, by first | rfl | go_num, below_drewN1 HQ5.out _⟩
            case measure => simp [intOf]; omega
        · have hiz : ¬ (i : Int) < (D : Int) := by omega
          go_wp2
          go_ret
          exact ⟨rfl, by rw [HBX.out]; exact HB0.out.trans (HBW.out.mono (by omega))⟩
end Go.Proofs.YtddobjhahohhhaaGreat

namespace Go.Proofs.YtddobjhahohhhaaGreat
open Go.RowKit Go.Sort
set_option linter.unusedVariables false

theorem awake_name : badE ⟨#[97]⟩ 0 = 0 := by
  unfold badE
  rw [if_pos (by kernel_rfl)]
  decide
theorem awake_link : linkI [] 1 0 ⟨#[97]⟩ false 0 = (([⟨0, ⟨⟨#[97]⟩, 1, false, 1, 0⟩⟩], 2), 1, 0) := by
  rw [link_empty, if_pos awake_name]
end Go.Proofs.YtddobjhahohhhaaGreat

namespace Go.Proofs.YtddobjhahohhhaaGreat
open Go.RowKit Go.Sort
set_option linter.unusedVariables false

theorem outRow_empty : outRow 0 [] = usedRow [] := by decide +kernel
theorem kindN_nil : kindN [] = rootK := by
  funext n
  unfold rootK upd
  rw [kindN_at]
  by_cases h : n = 0
  · subst h; rfl
  · rw [if_neg (by omega), if_neg h]; rfl
theorem goodT_nil : GoodT [] 1 := ⟨(fun x hx => nomatch hx), List.nodup_nil, (fun x hx => nomatch hx), (fun x hx => nomatch hx), List.Pairwise.nil, (fun x hx => nomatch hx), List.Pairwise.nil, ⟨fun _ => 0, (fun x hx => nomatch hx)⟩, by decide⟩
theorem foot_typ {w : World} {b : Nat} {K : Nat → Int} {E : Nat → List Ent} {R : Nat → Value} {u : Nat} {v : Value} {ys : List Int} {c : Int} (h : TM w b K E R u v ys c) : ∀ k, Foot b R v k → ∀ t ∈ [127, 28, 45], ∀ cs fr, w.heap[k]? ≠ some (.cells cs t fr) := by
  intro k hk t ht cs fr hc
  have key : ∃ T cs', w.heap[k]? = some (.cells cs' T (0, 0)) ∧ (T = 96 ∨ T = 84 ∨ T = 3) := by
    rcases hk with rfl | ⟨n, hn, hg⟩ | hg
    · obtain ⟨cs', h1, _⟩ := h.cells
      exact ⟨_, cs', h1, Or.inl rfl⟩
    · obtain ⟨cs', h1⟩ := ownsRow_typ (h.rows n hn) hg
      exact ⟨_, cs', h1, Or.inr (Or.inl rfl)⟩
    · obtain ⟨cs', h1⟩ := ownsRow_typ h.own hg
      exact ⟨_, cs', h1, Or.inr (Or.inr rfl)⟩
  obtain ⟨T, cs', h1, h2⟩ := key
  rw [hc] at h1
  injection h1 with h1
  injection h1 with _ h3 _
  rw [h3] at ht
  rcases h2 with rfl | rfl | rfl <;> exact absurd ht (by decide)
theorem theNew (w : World) : Calls Tryz.prog 13 #[] w fun e w' => ∃ b S, e = .returned (ptrV b) ∧ TIs w' b [] 1 S ∧ (∀ k, S k → w.heap.size ≤ k) ∧ Below w.heap.size w w' := by
  have h := treeNew_c w
  unfold NewTPost at h
  refine h.mono ?_
  rintro e w' ⟨b, rfl, hb, hm, hbb⟩
  rw [← kindN_nil] at hm
  refine ⟨b, Foot b (fun _ => .slice none 0 0) (.slice none 0 0), rfl, ⟨_, 0, _, [], hm, outRow_empty, goodT_nil, rfl⟩, ?_, hbb⟩
  rintro k (rfl | ⟨n, _, hg⟩ | hg)
  · exact hb
  · cases hg
  · cases hg
def theTree : TreeC where
  Is := TIs
  lt := by
    rintro w b l nx S ⟨R, u, v, ys, hm, _, _, rfl⟩ k hk
    exact (hm.lt k hk).2
  len := by
    rintro w b l nx S ⟨R, u, v, ys, hm, _, hg, rfl⟩
    exact hg.len
  next := by
    rintro w b l nx S ⟨R, u, v, ys, hm, _, hg, rfl⟩
    exact hg.nx1
  kept := by
    rintro w w' b l nx S ⟨R, u, v, ys, hm, ho, hg, rfl⟩ hs hk
    exact ⟨R, u, v, ys, hm.kept hk, ho, hg, rfl⟩
  typ := by
    rintro w b l nx S ⟨R, u, v, ys, hm, ho, hg, rfl⟩
    exact foot_typ hm
  new := theNew
  link := by
    rintro w b l nx S d s isD sh ⟨R, u, v, ys, hm, ho, hg, rfl⟩ hs hnx
    exact treeLink_c hm ho hg d s isD sh hs hnx
  unlink := by
    rintro w b l nx S d s isD ⟨R, u, v, ys, hm, ho, hg, rfl⟩
    exact treeUnlink_c hm ho hg d s isD
  move := by
    rintro w b l nx S d s dt ns sh ⟨R, u, v, ys, hm, ho, hg, rfl⟩ hs hnx
    exact treeMove_c hm ho hg d s dt ns sh hs hnx
  list := by
    rintro w b l nx S d ⟨R, u, v, ys, hm, ho, hg, rfl⟩
    have h := treeList_c hm (fun n hn => Nat.le_trans (hg.elen n) (by omega)) d
    unfold TListPost at h
    rw [hg.open'] at h
    refine h.mono ?_
    rintro e w' ⟨v', rfl, he, hf, hb⟩
    refine ⟨v', rfl, ?_, hf, hb⟩
    unfold listI
    by_cases hd : listE l d = 0
    · obtain ⟨n, rfl, _, _⟩ := hg.dir hd
      rw [if_pos hd] at he ⊢
      rw [Int.toNat_natCast] at he
      exact he
    · rw [if_neg hd] at he ⊢
      exact he
  find := by
    rintro w b l nx S d s ⟨R, u, v, ys, hm, ho, hg, rfl⟩
    exact hg.findS hm d s
  dirs := by
    rintro w b l nx S ⟨R, u, v, ys, hm, ho, hg, rfl⟩
    have h := treeDirs_c hm
    unfold TDirsPost at h
    rw [dirsK_to] at h
    exact h
  nodes := by
    rintro w b l nx S ⟨R, u, v, ys, hm, ho, hg, rfl⟩
    have h := nodes_c hm
    rw [ho, hg.count] at h
    exact h.mono fun e w' ⟨h1, q, h2⟩ => ⟨h1, by rw [h2]; exact below_drewN1 (Below.refl _ _) q⟩
  cookie := by
    rintro w b l nx S ⟨R, u, v, ys, hm, ho, hg, rfl⟩
    exact (cookie_c hm).mono fun e w' ⟨h1, h2⟩ => ⟨h1, by rw [h2]; exact Below.refl _ _⟩
theorem theGood {w : World} {b : Nat} {l : List Itm} {nx : Int} {S : Nat → Prop} (h : theTree.Is w b l nx S) : GoodT l nx := by
  obtain ⟨R, u, v, ys, hm, ho, hg, _⟩ := h
  exact hg
theorem theCook {w : World} {b : Nat} {l : List Itm} {nx : Int} {S : Nat → Prop} (h : theTree.Is w b l nx S) : Calls Tryz.prog 18 #[ptrV b] w fun e w' => e = .returned (.int .i64 nx) ∧ w' = w := by
  obtain ⟨R, u, v, ys, hm, ho, hg, _⟩ := h
  exact cookie_c hm
end Go.Proofs.YtddobjhahohhhaaGreat
