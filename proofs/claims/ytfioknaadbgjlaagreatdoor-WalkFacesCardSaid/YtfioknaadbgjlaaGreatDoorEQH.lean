/- Kit. -/
import Derived.Test.YtfioknaadbgjlaaGreatDoorEQ5
import Derived.Test.YtfioknaadbgjlaaGreatDoorEQD
import Derived.Test.YtfioknaadbgjlaaGreatDoorEQG
set_option maxRecDepth 100000
set_option linter.unusedVariables false
set_option linter.unusedSimpArgs false
namespace Go.Proofs.YtfioknaadbgjlaaGreatDoor
open Go.RowKit Go.Sort
/-- A tree of the project at block b: its items in their order, the next cookie, what it stands in. -/
structure TreeC where
  Is : World → Nat → List Itm → Int → (Nat → Prop) → Prop
  lt : ∀ {w b l nx S}, Is w b l nx S → ∀ k, S k → k < w.heap.size
  len : ∀ {w b l nx S}, Is w b l nx S → l.length ≤ 200
  next : ∀ {w b l nx S}, Is w b l nx S → 1 ≤ nx
  kept : ∀ {w w' b l nx S}, Is w b l nx S → w.heap.size ≤ w'.heap.size → (∀ k, S k → w'.heap[k]? = w.heap[k]?) → Is w' b l nx S
  typ : ∀ {w b l nx S}, Is w b l nx S → ∀ k, S k → ∀ t ∈ [140, 28, 52], ∀ cs fr, w.heap[k]? ≠ some (.cells cs t fr)
  new : ∀ w, Calls Tryz.prog 16 #[] w fun e w' => ∃ b S, e = .returned (ptrV b) ∧ Is w' b [] 1 S ∧ (∀ k, S k → w.heap.size ≤ k) ∧ Below w.heap.size w w'
  link : ∀ {w b l nx S} (d : Int) (s : ByteArray) (isD : Bool) (sh : Int), Is w b l nx S → s.size ≤ 9223372036854775807 → nx + 1 ≤ 9223372036854775807 →
    Calls Tryz.prog 38 #[ptrV b, .int .i64 d, .string s, .bool isD, .int .i64 sh] w fun e w' => ∃ S', e = .returned (.tuple #[.int .i64 (linkI l nx d s isD sh).2.1, .int .i64 (linkI l nx d s isD sh).2.2]) ∧ Is w' b (linkI l nx d s isD sh).1.1 (linkI l nx d s isD sh).1.2 S' ∧ Trod w w' S S'
  unlink : ∀ {w b l nx S} (d : Int) (s : ByteArray) (isD : Bool), Is w b l nx S →
    Calls Tryz.prog 39 #[ptrV b, .int .i64 d, .string s, .bool isD] w fun e w' => ∃ S', e = .returned (.int .i64 (unlinkI l nx d s isD).2) ∧ Is w' b (unlinkI l nx d s isD).1.1 (unlinkI l nx d s isD).1.2 S' ∧ Trod w w' S S'
  move : ∀ {w b l nx S} (d : Int) (s : ByteArray) (dt : Int) (ns : ByteArray) (sh : Int), Is w b l nx S → ns.size ≤ 9223372036854775807 → nx + 1 ≤ 9223372036854775807 →
    Calls Tryz.prog 40 #[ptrV b, .int .i64 d, .string s, .int .i64 dt, .string ns, .int .i64 sh] w fun e w' => ∃ S', e = .returned (.int .i64 (moveI l nx d s dt ns sh).2) ∧ Is w' b (moveI l nx d s dt ns sh).1.1 (moveI l nx d s dt ns sh).1.2 S' ∧ Trod w w' S S'
  list : ∀ {w b l nx S} (d : Int), Is w b l nx S →
    Calls Tryz.prog 12 #[ptrV b, .int .i64 d] w fun e w' => ∃ v, e = .returned (.tuple #[v, .int .i64 (listE l d)]) ∧ EntsIs w' v (listI l d) ∧ (∀ g, v.ownBlock = some g → w.heap.size ≤ g) ∧ Below w.heap.size w w'
  find : ∀ {w b l nx S} (d : Int) (s : ByteArray), Is w b l nx S →
    Calls Tryz.prog 69 #[ptrV b, .int .i64 d, .string s] w fun e w' => e = .returned (.tuple #[entV (findI l d s).1, .int .i64 (findI l d s).2]) ∧ Below w.heap.size w w'
namespace TreeC
variable (T : TreeC)
variable {w w' : World} {b : Nat} {l : List Itm} {nx : Int} {S S' : Nat → Prop}
theorem below (h : T.Is w b l nx S) (hb : Below w.heap.size w w') : T.Is w' b l nx S := T.kept h hb.size fun k hk => hb.block k (T.lt h k hk)
/-- Another tree, apart from the one that was trodden, is as it was. -/
theorem apart {a : Nat} {l2 : List Itm} {nx2 : Int} {S2 : Nat → Prop} (h : T.Is w a l2 nx2 S2) (ht : Trod w w' S S') (hd : ∀ k, S2 k → ¬ S k) : T.Is w' a l2 nx2 S2 ∧ ∀ k, S2 k → ¬ S' k :=
  ⟨T.kept h ht.size fun k hk => ht.rest k (T.lt h k hk) (hd k hk), fun k hk h1 => (ht.sub k h1).elim (hd k hk) (by have := T.lt h k hk; omega)⟩
/-- A block of the reference's is none of the tree's. -/
theorem off (h : T.Is w b l nx S) {g : Nat} {cs : Array Value} {t : TypeId} {fr : Nat × Nat} (hg : w.heap[g]? = some (.cells cs t fr)) (ht : t ∈ [140, 28, 52]) : ¬ S g := fun hs => T.typ h g hs t ht cs fr hg
theorem block (h : T.Is w b l nx S) (ht : Trod w w' S S') {g : Nat} {cs : Array Value} {t : TypeId} {fr : Nat × Nat} (hg : w.heap[g]? = some (.cells cs t fr)) (hm : t ∈ [140, 28, 52]) : w'.heap[g]? = some (.cells cs t fr) := (ht.rest g (lt_of_get hg) (T.off h hg hm)).trans hg
theorem items (h : T.Is w b l nx S) (ht : Trod w w' S S') {v : Value} {m : List Itm} (hv : ItmsT w v m) : ItmsT w' v m := by
  have hb : ∀ g, v.ownBlock = some g → w'.heap[g]? = w.heap[g]? := fun g hg => by
    obtain ⟨cs, hc⟩ := hv.2 g hg
    rw [T.block h ht hc (by simp), hc]
  exact ⟨hv.1.only ht.size hb, fun g hg => by
    obtain ⟨cs, hc⟩ := hv.2 g hg
    exact ⟨cs, T.block h ht hc (by simp)⟩⟩
/-- A store into a cell of the reference's. -/
theorem set (h : T.Is w b l nx S) {g : Nat} {cs : Array Value} {t : TypeId} {fr : Nat × Nat} (hg : w.heap[g]? = some (.cells cs t fr)) (hm : t ∈ [140, 28, 52]) (o : Nat) (x : Value) : T.Is (w.setCell ⟨g, o, none⟩ x) b l nx S :=
  T.kept h (by simp [World.setCell]) fun k hk => Below.heap_setCell _ _ _ _ (fun e => T.off h hg hm (show S g from (show k = g from e) ▸ hk))
end TreeC
theorem linkI_next (l : List Itm) (nx d : Int) (s : ByteArray) (isD : Bool) (sh : Int) : nx ≤ (linkI l nx d s isD sh).1.2 ∧ (linkI l nx d s isD sh).1.2 ≤ nx + 1 := by
  unfold linkI
  repeat' split
  all_goals (dsimp only; omega)
theorem unlinkI_next (l : List Itm) (nx d : Int) (s : ByteArray) (isD : Bool) : nx ≤ (unlinkI l nx d s isD).1.2 ∧ (unlinkI l nx d s isD).1.2 ≤ nx + 1 := by
  unfold unlinkI
  repeat' split
  all_goals (dsimp only; omega)
theorem moveI_next (l : List Itm) (nx d : Int) (s : ByteArray) (dt : Int) (ns : ByteArray) (sh : Int) : nx ≤ (moveI l nx d s dt ns sh).1.2 ∧ (moveI l nx d s dt ns sh).1.2 ≤ nx + 1 := by
  unfold moveI
  repeat' split
  all_goals (dsimp only; omega)
theorem doI_next (l : List Itm) (nx : Int) (o : OpT) : nx ≤ (doI l nx o).1.2 ∧ (doI l nx o).1.2 ≤ nx + 1 := by
  unfold doI
  split
  · exact linkI_next _ _ _ _ _ _
  · split
    · exact unlinkI_next _ _ _ _ _
    · exact moveI_next _ _ _ _ _ _ _
theorem put_tree2 {W : World} {q : Nat} {x0 x1 : Value} (hq : W.heap[q]? = some (.cells #[x0, x1] 28 (0, 0))) {v8 : Value} {nx8 : Int} {l8 : List Itm} (h8 : ItmsT W v8 l8) :
    ((W.setCell ⟨q, 0, none⟩ v8).setCell ⟨q, 1, none⟩ (.int .i64 nx8)).heap[q]? = some (.cells #[v8, .int .i64 nx8] 28 (0, 0)) ∧ ItmsT ((W.setCell ⟨q, 0, none⟩ v8).setCell ⟨q, 1, none⟩ (.int .i64 nx8)) v8 l8 := by
  have hb : v8.ownBlock ≠ some q := fun e => by
    obtain ⟨cs, hc⟩ := h8.2 _ e
    exact block_ne hc hq (by decide) rfl
  refine ⟨?_, (h8.set hb 0 _).set hb 1 _⟩
  rw [heap_setCell_same _ q 1 _ _ _ (heap_setCell_same _ q 0 _ _ _ hq)]
  rfl
theorem TreeC.set2 (T : TreeC) {w : World} {b : Nat} {l : List Itm} {nx : Int} {S : Nat → Prop} (h : T.Is w b l nx S) {q : Nat} {x0 x1 : Value} (hq : w.heap[q]? = some (.cells #[x0, x1] 28 (0, 0))) (x y : Value) : T.Is ((w.setCell ⟨q, 0, none⟩ x).setCell ⟨q, 1, none⟩ y) b l nx S :=
  T.set (T.set h hq (by simp) 0 x) (heap_setCell_same _ q 0 _ _ _ hq) (by simp) 1 y
set_option maxHeartbeats 8000000 in
set_option maxRecDepth 100000 in
theorem lawDo10_c (T : TreeC) {w : World} {b : Nat} {l : List Itm} {nx : Int} {S : Nat → Prop} (o : OpT) (h : T.Is w b l nx S) (hs : o.s.size ≤ 9223372036854775807) (hns : o.ns.size ≤ 9223372036854775807) (hk0 : 0 ≤ o.k) (hk1 : o.k ≤ 255) (hnx : nx + 1 ≤ 9223372036854775807) :
    Calls Tryz.prog 18 #[ptrV b, opV o] w fun e w' => ∃ S', e = .returned (.tuple #[.int .i64 (doI l nx o).2.1, .int .i64 (doI l nx o).2.2]) ∧ T.Is w' b (doI l nx o).1.1 (doI l nx o).1.2 S' ∧ Trod w w' S S' := by
  obtain ⟨k, d, dt, s, ns, isD, sh⟩ := o
  simp only at hs hns hk0 hk1
  obtain ⟨R, hR⟩ : ∃ R, doI l nx ⟨k, d, dt, s, ns, isD, sh⟩ = R := ⟨_, rfl⟩
  rw [hR]
  unfold doI at hR
  simp only at hR
  have HRR := Lib.hid hR
  have hb0 : Below w.heap.size w (w.alloc (.cells #[.int .u8 k, .int .i64 d, .int .i64 dt, .string s, .string ns, .bool isD, .int .i64 sh] 52)) := (Below.refl _ w).alloc (Nat.le_refl _) _
  have hi0 := T.below h hb0
  have HTR : Hid (Trod w (w.alloc (.cells #[.int .u8 k, .int .i64 d, .int .i64 dt, .string s, .string ns, .bool isD, .int .i64 sh] 52)) S S) := Lib.hid (Trod.of_below hb0)
  have HO : Hid ((w.alloc (.cells #[.int .u8 k, .int .i64 d, .int .i64 dt, .string s, .string ns, .bool isD, .int .i64 sh] 52)).heap[w.heap.size]? = some (.cells #[.int .u8 k, .int .i64 d, .int .i64 dt, .string s, .string ns, .bool isD, .int .i64 sh] 52 (0, 0))) := Lib.hid (heap_alloc_new _ _)
  have cL := T.link d s isD sh hi0 hs hnx
  have cU := T.unlink d s isD hi0
  have cM := T.move d s dt ns sh hi0 hns hnx
  unfold opV
  clear hR hb0 hi0 h
  go_enter Tryz.func18, Tryz.ntmps18
  go_upto_region 1 with fail
  generalize (w.alloc (.cells #[.int .u8 k, .int .i64 d, .int .i64 dt, .string s, .string ns, .bool isD, .int .i64 sh] 52)) = W0 at *
  generalize hbO : w.heap.size = bO at *
  have p0 : W0.cell? ⟨bO, 0, none⟩ = some (.int .u8 k) := Lib.cell_of_heap HO.out 0
  have p1 : W0.cell? ⟨bO, 1, none⟩ = some (.int .i64 d) := Lib.cell_of_heap HO.out 1
  have p2 : W0.cell? ⟨bO, 2, none⟩ = some (.int .i64 dt) := Lib.cell_of_heap HO.out 2
  have p3 : W0.cell? ⟨bO, 3, none⟩ = some (.string s) := Lib.cell_of_heap HO.out 3
  have p4 : W0.cell? ⟨bO, 4, none⟩ = some (.string ns) := Lib.cell_of_heap HO.out 4
  have p5 : W0.cell? ⟨bO, 5, none⟩ = some (.bool isD) := Lib.cell_of_heap HO.out 5
  have p6 : W0.cell? ⟨bO, 6, none⟩ = some (.int .i64 sh) := Lib.cell_of_heap HO.out 6
  have hkm : k.tmod 3 = k % 3 := Int.tmod_eq_emod_of_nonneg hk0
  have hkc : k % 3 = 0 ∨ k % 3 = 1 ∨ k % 3 = 2 := by omega
  rcases hkc with hkc | hkc | hkc
  · have HR9 : Hid (linkI l nx d s isD sh = R) := Lib.hid (by rw [← HRR.out, if_pos hkc])
    rw [HR9.out] at cL
    rw [hkc] at hkm
    clear cU cM hkc
    go_wp2_with (go_at_call 38; refine cL.mono ?_; rintro e w1 ⟨S1, rfl, hi1, ht1⟩; have HI := Lib.hid hi1; have HT := Lib.hid ht1; clear hi1 ht1)
    go_ret2
    exact ⟨S1, rfl, HI.out, HTR.out.trans HT.out⟩
  · have HR9 : Hid (((unlinkI l nx d s isD).1, 0, (unlinkI l nx d s isD).2) = R) := Lib.hid (by rw [← HRR.out, if_neg (show ¬ k % 3 = 0 by omega), if_pos hkc])
    generalize unlinkI l nx d s isD = U at *
    rw [hkc] at hkm
    clear cL cM hkc
    go_wp2_with (go_at_call 39; refine cU.mono ?_; rintro e w1 ⟨S1, rfl, hi1, ht1⟩; have HI := Lib.hid hi1; have HT := Lib.hid ht1; clear hi1 ht1)
    go_ret2
    rw [← HR9.out]
    exact ⟨S1, rfl, HI.out, HTR.out.trans HT.out⟩
  · have HR9 : Hid (((moveI l nx d s dt ns sh).1, 0, (moveI l nx d s dt ns sh).2) = R) := Lib.hid (by rw [← HRR.out, if_neg (show ¬ k % 3 = 0 by omega), if_neg (show ¬ k % 3 = 1 by omega)])
    generalize moveI l nx d s dt ns sh = U at *
    rw [hkc] at hkm
    clear cL cU hkc
    go_wp2_with (go_at_call 40; refine cM.mono ?_; rintro e w1 ⟨S1, rfl, hi1, ht1⟩; have HI := Lib.hid hi1; have HT := Lib.hid ht1; clear hi1 ht1)
    go_ret2
    rw [← HR9.out]
    exact ⟨S1, rfl, HI.out, HTR.out.trans HT.out⟩
end Go.Proofs.YtfioknaadbgjlaaGreatDoor
namespace Go.Proofs.YtfioknaadbgjlaaGreatDoor
open Go.RowKit Go.Sort
end Go.Proofs.YtfioknaadbgjlaaGreatDoor
namespace Go.Proofs.YtfioknaadbgjlaaGreatDoor
open Go.RowKit Go.Sort
end Go.Proofs.YtfioknaadbgjlaaGreatDoor
namespace Go.Proofs.YtfioknaadbgjlaaGreatDoor
open Go.RowKit Go.Sort
theorem outRow_empty : outRow 0 [] = usedRow [] := by decide +kernel
theorem kindN_nil : kindN [] = rootK := by
  funext n
  unfold rootK upd
  rw [kindN_at]
  by_cases h : n = 0
  · subst h; rfl
  · rw [if_neg (by omega), if_neg h]; rfl
theorem goodT_nil : GoodT [] 1 := ⟨(fun x hx => nomatch hx), List.nodup_nil, (fun x hx => nomatch hx), (fun x hx => nomatch hx), List.Pairwise.nil, (fun x hx => nomatch hx), List.Pairwise.nil, ⟨fun _ => 0, (fun x hx => nomatch hx)⟩, by decide⟩
theorem foot_typ {w : World} {b : Nat} {K : Nat → Int} {E : Nat → List Ent} {R : Nat → Value} {u : Nat} {v : Value} {ys : List Int} {c : Int} (h : TM w b K E R u v ys c) : ∀ k, Foot b R v k → ∀ t ∈ [140, 28, 52], ∀ cs fr, w.heap[k]? ≠ some (.cells cs t fr) := by
  intro k hk t ht cs fr hc
  have key : ∃ T cs', w.heap[k]? = some (.cells cs' T (0, 0)) ∧ (T = 78 ∨ T = 47 ∨ T = 3) := by
    rcases hk with rfl | ⟨n, hn, hg⟩ | hg
    · obtain ⟨cs', h1, _⟩ := h.cells
      exact ⟨_, cs', h1, Or.inl rfl⟩
    · obtain ⟨cs', h1⟩ := ownsRow_typ (h.rows n hn) hg
      exact ⟨_, cs', h1, Or.inr (Or.inl rfl)⟩
    · obtain ⟨cs', h1⟩ := ownsRow_typ h.own hg
      exact ⟨_, cs', h1, Or.inr (Or.inr rfl)⟩
  obtain ⟨T, cs', h1, h2⟩ := key
  rw [hc] at h1
  injection h1 with h1
  injection h1 with _ h3 _
  rw [h3] at ht
  rcases h2 with rfl | rfl | rfl <;> exact absurd ht (by decide)
theorem theNew (w : World) : Calls Tryz.prog 16 #[] w fun e w' => ∃ b S, e = .returned (ptrV b) ∧ TIs w' b [] 1 S ∧ (∀ k, S k → w.heap.size ≤ k) ∧ Below w.heap.size w w' := by
  have h := treeNew_c w
  unfold NewTPost at h
  refine h.mono ?_
  rintro e w' ⟨b, rfl, hb, hm, hbb⟩
  rw [← kindN_nil] at hm
  refine ⟨b, Foot b (fun _ => .slice none 0 0) (.slice none 0 0), rfl, ⟨_, 0, _, [], hm, outRow_empty, goodT_nil, rfl⟩, ?_, hbb⟩
  rintro k (rfl | ⟨n, _, hg⟩ | hg)
  · exact hb
  · cases hg
  · cases hg
def theTree : TreeC where
  Is := TIs
  lt := by
    rintro w b l nx S ⟨R, u, v, ys, hm, _, _, rfl⟩ k hk
    exact (hm.lt k hk).2
  len := by
    rintro w b l nx S ⟨R, u, v, ys, hm, _, hg, rfl⟩
    exact hg.len
  next := by
    rintro w b l nx S ⟨R, u, v, ys, hm, _, hg, rfl⟩
    exact hg.nx1
  kept := by
    rintro w w' b l nx S ⟨R, u, v, ys, hm, ho, hg, rfl⟩ hs hk
    exact ⟨R, u, v, ys, hm.kept hk, ho, hg, rfl⟩
  typ := by
    rintro w b l nx S ⟨R, u, v, ys, hm, ho, hg, rfl⟩
    exact foot_typ hm
  new := theNew
  link := by
    rintro w b l nx S d s isD sh ⟨R, u, v, ys, hm, ho, hg, rfl⟩ hs hnx
    exact treeLink_c hm ho hg d s isD sh hs hnx
  unlink := by
    rintro w b l nx S d s isD ⟨R, u, v, ys, hm, ho, hg, rfl⟩
    exact treeUnlink_c hm ho hg d s isD
  move := by
    rintro w b l nx S d s dt ns sh ⟨R, u, v, ys, hm, ho, hg, rfl⟩ hs hnx
    exact treeMove_c hm ho hg d s dt ns sh hs hnx
  list := by
    rintro w b l nx S d ⟨R, u, v, ys, hm, ho, hg, rfl⟩
    have h := treeList_c hm (fun n hn => Nat.le_trans (hg.elen n) (by omega)) d
    unfold TListPost at h
    rw [hg.open'] at h
    refine h.mono ?_
    rintro e w' ⟨v', rfl, he, hf, hb⟩
    refine ⟨v', rfl, ?_, hf, hb⟩
    unfold listI
    by_cases hd : listE l d = 0
    · obtain ⟨n, rfl, _, _⟩ := hg.dir hd
      rw [if_pos hd] at he ⊢
      rw [Int.toNat_natCast] at he
      exact he
    · rw [if_neg hd] at he ⊢
      exact he
  find := by
    rintro w b l nx S d s ⟨R, u, v, ys, hm, ho, hg, rfl⟩
    exact hg.findS hm d s
theorem theGood {w : World} {b : Nat} {l : List Itm} {nx : Int} {S : Nat → Prop} (h : theTree.Is w b l nx S) : GoodT l nx := by
  obtain ⟨R, u, v, ys, hm, ho, hg, _⟩ := h
  exact hg
end Go.Proofs.YtfioknaadbgjlaaGreatDoor
