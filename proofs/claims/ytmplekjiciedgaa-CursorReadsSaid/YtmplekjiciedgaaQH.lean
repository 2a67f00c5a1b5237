/-
  Prepared for stage 10: what the laws ask of the project's tree, whatever it is made of: 'TreeC' (to be shown of the landed code); the law's own Do on it.   Prepared for stage 10: the law's Alike, of a project's tree and a reference's that hold the same.   Prepared for stage 10: the law's awake, on any TreeC.
  What the laws ask of a tree, shown of the project's.
-/
import Derived.Test.YtmplekjiciedgaaQ5
import Derived.Test.YtmplekjiciedgaaQD
import Derived.Test.YtmplekjiciedgaaQG
namespace Go.Proofs.Ytmplekjiciedgaa
open Go.RowKit Go.Sort
set_option linter.unusedVariables false


/-- A slice has room for what it holds. -/
def RoomV : Value → Prop
  | .slice _ n cap => n ≤ cap
  | _ => False
theorem RoomV.own {B : Nat} {T : TypeId} {c : Nat} {w : World} {v : Value} {n : Nat} {xs : List Value} (h : w.ownsRow B T c v n xs) : RoomV v := by
  rcases h.2 with ⟨rfl, _⟩ | ⟨g, cap, cur, rfl, _, _, h2, _⟩
  · exact Nat.le_refl _
  · exact h2
/-- A tree of the project at block b: its items in their order, the next cookie, what it stands in. -/
structure TreeC where
  Is : World → Nat → List Itm → Int → (Nat → Prop) → Prop
  lt : ∀ {w b l nx S}, Is w b l nx S → ∀ k, S k → k < w.heap.size
  len : ∀ {w b l nx S}, Is w b l nx S → l.length ≤ 200
  next : ∀ {w b l nx S}, Is w b l nx S → 1 ≤ nx
  kept : ∀ {w w' b l nx S}, Is w b l nx S → w.heap.size ≤ w'.heap.size → (∀ k, S k → w'.heap[k]? = w.heap[k]?) → Is w' b l nx S
  typ : ∀ {w b l nx S}, Is w b l nx S → ∀ k, S k → ∀ t ∈ [31], ∀ cs fr, w.heap[k]? ≠ some (.cells cs t fr)
  new : ∀ w, Calls Try.prog 8 #[] w fun e w' => ∃ b S, e = .returned (ptrV b) ∧ Is w' b [] 1 S ∧ (∀ k, S k → w.heap.size ≤ k) ∧ Below w.heap.size w w'
  link : ∀ {w b l nx S} (d : Int) (s : ByteArray) (isD : Bool) (sh : Int), Is w b l nx S → s.size ≤ 9223372036854775807 → nx + 1 ≤ 9223372036854775807 →
    Calls Try.prog 19 #[ptrV b, .int .i64 d, .string s, .bool isD, .int .i64 sh] w fun e w' => ∃ S', e = .returned (.tuple #[.int .i64 (linkI l nx d s isD sh).2.1, .int .i64 (linkI l nx d s isD sh).2.2]) ∧ Is w' b (linkI l nx d s isD sh).1.1 (linkI l nx d s isD sh).1.2 S' ∧ Trod w w' S S'
  unlink : ∀ {w b l nx S} (d : Int) (s : ByteArray) (isD : Bool), Is w b l nx S →
    Calls Try.prog 20 #[ptrV b, .int .i64 d, .string s, .bool isD] w fun e w' => ∃ S', e = .returned (.int .i64 (unlinkI l nx d s isD).2) ∧ Is w' b (unlinkI l nx d s isD).1.1 (unlinkI l nx d s isD).1.2 S' ∧ Trod w w' S S'
  move : ∀ {w b l nx S} (d : Int) (s : ByteArray) (dt : Int) (ns : ByteArray) (sh : Int), Is w b l nx S → ns.size ≤ 9223372036854775807 → nx + 1 ≤ 9223372036854775807 →
    Calls Try.prog 21 #[ptrV b, .int .i64 d, .string s, .int .i64 dt, .string ns, .int .i64 sh] w fun e w' => ∃ S', e = .returned (.int .i64 (moveI l nx d s dt ns sh).2) ∧ Is w' b (moveI l nx d s dt ns sh).1.1 (moveI l nx d s dt ns sh).1.2 S' ∧ Trod w w' S S'
  list : ∀ {w b l nx S} (d : Int), Is w b l nx S →
    Calls Try.prog 10 #[ptrV b, .int .i64 d] w fun e w' => ∃ v, e = .returned (.tuple #[v, .int .i64 (listE l d)]) ∧ EntsIs w' v (listI l d) ∧ ((∀ g, v.ownBlock = some g → w.heap.size ≤ g) ∧ RoomV v) ∧ Below w.heap.size w w'
  find : ∀ {w b l nx S} (d : Int) (s : ByteArray), Is w b l nx S →
    Calls Try.prog 31 #[ptrV b, .int .i64 d, .string s] w fun e w' => e = .returned (.tuple #[entV (findI l d s).1, .int .i64 (findI l d s).2]) ∧ Below w.heap.size w w'
  dirs : ∀ {w b l nx S}, Is w b l nx S →
    Calls Try.prog 13 #[ptrV b] w fun e w' => ∃ v, e = .returned v ∧ NumsL w' v (dirsI l) ∧ (∀ g, v.ownBlock = some g → w.heap.size ≤ g) ∧ Below w.heap.size w w'
namespace TreeC
variable (T : TreeC)
variable {w w' : World} {b : Nat} {l : List Itm} {nx : Int} {S S' : Nat → Prop}
theorem below (h : T.Is w b l nx S) (hb : Below w.heap.size w w') : T.Is w' b l nx S := T.kept h hb.size fun k hk => hb.block k (T.lt h k hk)
/-- Another tree, apart from the one that was trodden, is as it was. -/
theorem apart {a : Nat} {l2 : List Itm} {nx2 : Int} {S2 : Nat → Prop} (h : T.Is w a l2 nx2 S2) (ht : Trod w w' S S') (hd : ∀ k, S2 k → ¬ S k) : T.Is w' a l2 nx2 S2 ∧ ∀ k, S2 k → ¬ S' k :=
  ⟨T.kept h ht.size fun k hk => ht.rest k (T.lt h k hk) (hd k hk), fun k hk h1 => (ht.sub k h1).elim (hd k hk) (by have := T.lt h k hk; omega)⟩
/-- A block of the reference's is none of the tree's. -/
theorem off (h : T.Is w b l nx S) {g : Nat} {cs : Array Value} {t : TypeId} {fr : Nat × Nat} (hg : w.heap[g]? = some (.cells cs t fr)) (ht : t ∈ [31]) : ¬ S g := fun hs => T.typ h g hs t ht cs fr hg
theorem block (h : T.Is w b l nx S) (ht : Trod w w' S S') {g : Nat} {cs : Array Value} {t : TypeId} {fr : Nat × Nat} (hg : w.heap[g]? = some (.cells cs t fr)) (hm : t ∈ [31]) : w'.heap[g]? = some (.cells cs t fr) := (ht.rest g (lt_of_get hg) (T.off h hg hm)).trans hg
/-- A store into a cell of the reference's. -/
theorem set (h : T.Is w b l nx S) {g : Nat} {cs : Array Value} {t : TypeId} {fr : Nat × Nat} (hg : w.heap[g]? = some (.cells cs t fr)) (hm : t ∈ [31]) (o : Nat) (x : Value) : T.Is (w.setCell ⟨g, o, none⟩ x) b l nx S :=
  T.kept h (by simp [World.setCell]) fun k hk => Below.heap_setCell _ _ _ _ (fun e => T.off h hg hm (show S g from (show k = g from e) ▸ hk))
end TreeC
theorem linkI_next (l : List Itm) (nx d : Int) (s : ByteArray) (isD : Bool) (sh : Int) : nx ≤ (linkI l nx d s isD sh).1.2 ∧ (linkI l nx d s isD sh).1.2 ≤ nx + 1 := by
  unfold linkI
  repeat' split
  all_goals (dsimp only; omega)
theorem unlinkI_next (l : List Itm) (nx d : Int) (s : ByteArray) (isD : Bool) : nx ≤ (unlinkI l nx d s isD).1.2 ∧ (unlinkI l nx d s isD).1.2 ≤ nx + 1 := by
  unfold unlinkI
  repeat' split
  all_goals (dsimp only; omega)
theorem moveI_next (l : List Itm) (nx d : Int) (s : ByteArray) (dt : Int) (ns : ByteArray) (sh : Int) : nx ≤ (moveI l nx d s dt ns sh).1.2 ∧ (moveI l nx d s dt ns sh).1.2 ≤ nx + 1 := by
  unfold moveI
  repeat' split
  all_goals (dsimp only; omega)
theorem doI_next (l : List Itm) (nx : Int) (o : OpT) : nx ≤ (doI l nx o).1.2 ∧ (doI l nx o).1.2 ≤ nx + 1 := by
  unfold doI
  split
  · exact linkI_next _ _ _ _ _ _
  · split
    · exact unlinkI_next _ _ _ _ _
    · exact moveI_next _ _ _ _ _ _ _
abbrev ent0 : Obj := .cells #[.string ⟨#[]⟩, .int .i64 0, .bool false, .int .i64 0, .int .i64 0] 46
theorem ent_kept {W W' : World} {q : Nat} (h : W.heap[q]? = some ent0) (hb : Below W.heap.size W W') : W'.heap[q]? = some ent0 := (hb.block q (lt_of_get h)).trans h
theorem ent_fresh (W : World) : (W.alloc ent0).heap[W.heap.size]? = some ent0 := heap_alloc_new _ _
theorem ent_put {W : World} {q : Nat} (h : W.heap[q]? = some ent0) (x0 x1 x2 x3 x4 : Value) : (((((W.setCell ⟨q, 0, none⟩ x0).setCell ⟨q, 1, none⟩ x1).setCell ⟨q, 2, none⟩ x2).setCell ⟨q, 3, none⟩ x3).setCell ⟨q, 4, none⟩ x4).heap[q]? = some (.cells #[x0, x1, x2, x3, x4] 46 (0, 0)) := by
  rw [heap_setCell_same _ q 4 _ _ _ (heap_setCell_same _ q 3 _ _ _ (heap_setCell_same _ q 2 _ _ _ (heap_setCell_same _ q 1 _ _ _ (heap_setCell_same _ q 0 _ _ _ h))))]
  rfl
theorem below_five {B q : Nat} {W0 W : World} {x0 x1 x2 x3 x4 : Value} (h : Below B W0 W) (hq : B ≤ q) : Below B W0 (((((W.setCell ⟨q, 0, none⟩ x0).setCell ⟨q, 1, none⟩ x1).setCell ⟨q, 2, none⟩ x2).setCell ⟨q, 3, none⟩ x3).setCell ⟨q, 4, none⟩ x4) :=
  ((((h.setCell (p := ⟨q, 0, none⟩) hq _).setCell (p := ⟨q, 1, none⟩) hq _).setCell (p := ⟨q, 2, none⟩) hq _).setCell (p := ⟨q, 3, none⟩) hq _).setCell (p := ⟨q, 4, none⟩) hq _
set_option maxHeartbeats 8000000 in
set_option maxRecDepth 100000 in
theorem lawDo10_c (T : TreeC) {w : World} {b : Nat} {l : List Itm} {nx : Int} {S : Nat → Prop} (o : OpT) (h : T.Is w b l nx S) (hs : o.s.size ≤ 9223372036854775807) (hns : o.ns.size ≤ 9223372036854775807) (hk0 : 0 ≤ o.k) (hk1 : o.k ≤ 255) (hnx : nx + 1 ≤ 9223372036854775807) :
    Calls Try.prog 9 #[ptrV b, opV o] w fun e w' => ∃ S', e = .returned (.tuple #[.int .i64 (doI l nx o).2.1, .int .i64 (doI l nx o).2.2]) ∧ T.Is w' b (doI l nx o).1.1 (doI l nx o).1.2 S' ∧ Trod w w' S S' := by
  obtain ⟨k, d, dt, s, ns, isD, sh⟩ := o
  simp only at hs hns hk0 hk1
  obtain ⟨R, hR⟩ : ∃ R, doI l nx ⟨k, d, dt, s, ns, isD, sh⟩ = R := ⟨_, rfl⟩
  rw [hR]
  unfold doI at hR
  simp only at hR
  have HRR := Lib.hid hR
  have hb0 : Below w.heap.size w (w.alloc (.cells #[.int .u8 k, .int .i64 d, .int .i64 dt, .string s, .string ns, .bool isD, .int .i64 sh] 31)) := (Below.refl _ w).alloc (Nat.le_refl _) _
  have hi0 := T.below h hb0
  have HTR : Hid (Trod w (w.alloc (.cells #[.int .u8 k, .int .i64 d, .int .i64 dt, .string s, .string ns, .bool isD, .int .i64 sh] 31)) S S) := Lib.hid (Trod.of_below hb0)
  have HO : Hid ((w.alloc (.cells #[.int .u8 k, .int .i64 d, .int .i64 dt, .string s, .string ns, .bool isD, .int .i64 sh] 31)).heap[w.heap.size]? = some (.cells #[.int .u8 k, .int .i64 d, .int .i64 dt, .string s, .string ns, .bool isD, .int .i64 sh] 31 (0, 0))) := Lib.hid (heap_alloc_new _ _)
  have cL := T.link d s isD sh hi0 hs hnx
  have cU := T.unlink d s isD hi0
  have cM := T.move d s dt ns sh hi0 hns hnx
  unfold opV
  clear hR hb0 hi0 h
  go_enter Try.func9, Try.ntmps9
  go_upto_region 1 with fail
  generalize (w.alloc (.cells #[.int .u8 k, .int .i64 d, .int .i64 dt, .string s, .string ns, .bool isD, .int .i64 sh] 31)) = W0 at *
  generalize hbO : w.heap.size = bO at *
  have p0 : W0.cell? ⟨bO, 0, none⟩ = some (.int .u8 k) := Lib.cell_of_heap HO.out 0
  have p1 : W0.cell? ⟨bO, 1, none⟩ = some (.int .i64 d) := Lib.cell_of_heap HO.out 1
  have p2 : W0.cell? ⟨bO, 2, none⟩ = some (.int .i64 dt) := Lib.cell_of_heap HO.out 2
  have p3 : W0.cell? ⟨bO, 3, none⟩ = some (.string s) := Lib.cell_of_heap HO.out 3
  have p4 : W0.cell? ⟨bO, 4, none⟩ = some (.string ns) := Lib.cell_of_heap HO.out 4
  have p5 : W0.cell? ⟨bO, 5, none⟩ = some (.bool isD) := Lib.cell_of_heap HO.out 5
  have p6 : W0.cell? ⟨bO, 6, none⟩ = some (.int .i64 sh) := Lib.cell_of_heap HO.out 6
  have hkm : k.tmod 3 = k % 3 := Int.tmod_eq_emod_of_nonneg hk0
  have hkc : k % 3 = 0 ∨ k % 3 = 1 ∨ k % 3 = 2 := by omega
  rcases hkc with hkc | hkc | hkc
  · have HR9 : Hid (linkI l nx d s isD sh = R) := Lib.hid (by rw [← HRR.out, if_pos hkc])
    rw [HR9.out] at cL
    rw [hkc] at hkm
    clear cU cM hkc
    go_wp2_with (go_at_call 19; refine cL.mono ?_; rintro e w1 ⟨S1, rfl, hi1, ht1⟩; have HI := Lib.hid hi1; have HT := Lib.hid ht1; clear hi1 ht1)
    go_ret2
    exact ⟨S1, rfl, HI.out, HTR.out.trans HT.out⟩
  · have HR9 : Hid (((unlinkI l nx d s isD).1, 0, (unlinkI l nx d s isD).2) = R) := Lib.hid (by rw [← HRR.out, if_neg (show ¬ k % 3 = 0 by omega), if_pos hkc])
    generalize unlinkI l nx d s isD = U at *
    rw [hkc] at hkm
    clear cL cM hkc
    go_wp2_with (go_at_call 20; refine cU.mono ?_; rintro e w1 ⟨S1, rfl, hi1, ht1⟩; have HI := Lib.hid hi1; have HT := Lib.hid ht1; clear hi1 ht1)
    go_ret2
    rw [← HR9.out]
    exact ⟨S1, rfl, HI.out, HTR.out.trans HT.out⟩
  · have HR9 : Hid (((moveI l nx d s dt ns sh).1, 0, (moveI l nx d s dt ns sh).2) = R) := Lib.hid (by rw [← HRR.out, if_neg (show ¬ k % 3 = 0 by omega), if_neg (show ¬ k % 3 = 1 by omega)])
    generalize moveI l nx d s dt ns sh = U at *
    rw [hkc] at hkm
    clear cL cU hkc
    go_wp2_with (go_at_call 21; refine cM.mono ?_; rintro e w1 ⟨S1, rfl, hi1, ht1⟩; have HI := Lib.hid hi1; have HT := Lib.hid ht1; clear hi1 ht1)
    go_ret2
    rw [← HR9.out]
    exact ⟨S1, rfl, HI.out, HTR.out.trans HT.out⟩
end Go.Proofs.Ytmplekjiciedgaa

namespace Go.Proofs.Ytmplekjiciedgaa
open Go.RowKit Go.Sort
set_option linter.unusedVariables false

end Go.Proofs.Ytmplekjiciedgaa

namespace Go.Proofs.Ytmplekjiciedgaa
open Go.RowKit Go.Sort
set_option linter.unusedVariables false

theorem awake_name : badE ⟨#[97]⟩ 0 = 0 := by
  unfold badE
  rw [if_pos (by kernel_rfl)]
  decide
theorem awake_link : linkI [] 1 0 ⟨#[97]⟩ false 0 = (([⟨0, ⟨⟨#[97]⟩, 1, false, 1, 0⟩⟩], 2), 1, 0) := by
  rw [link_empty, if_pos awake_name]
end Go.Proofs.Ytmplekjiciedgaa

namespace Go.Proofs.Ytmplekjiciedgaa
open Go.RowKit Go.Sort
set_option linter.unusedVariables false

theorem outRow_empty : outRow 0 [] = usedRow [] := by decide +kernel
theorem kindN_nil : kindN [] = rootK := by
  funext n
  unfold rootK upd
  rw [kindN_at]
  by_cases h : n = 0
  · subst h; rfl
  · rw [if_neg (by omega), if_neg h]; rfl
theorem goodT_nil : GoodT [] 1 := ⟨(fun x hx => nomatch hx), List.nodup_nil, (fun x hx => nomatch hx), (fun x hx => nomatch hx), List.Pairwise.nil, (fun x hx => nomatch hx), List.Pairwise.nil, ⟨fun _ => 0, (fun x hx => nomatch hx)⟩, by decide⟩
theorem foot_typ {w : World} {b : Nat} {K : Nat → Int} {E : Nat → List Ent} {R : Nat → Value} {u : Nat} {v : Value} {ys : List Int} {c : Int} (h : TM w b K E R u v ys c) : ∀ k, Foot b R v k → ∀ t ∈ [31], ∀ cs fr, w.heap[k]? ≠ some (.cells cs t fr) := by
  intro k hk t ht cs fr hc
  have key : ∃ T cs', w.heap[k]? = some (.cells cs' T (0, 0)) ∧ (T = 61 ∨ T = 46 ∨ T = 3) := by
    rcases hk with rfl | ⟨n, hn, hg⟩ | hg
    · obtain ⟨cs', h1, _⟩ := h.cells
      exact ⟨_, cs', h1, Or.inl rfl⟩
    · obtain ⟨cs', h1⟩ := ownsRow_typ (h.rows n hn) hg
      exact ⟨_, cs', h1, Or.inr (Or.inl rfl)⟩
    · obtain ⟨cs', h1⟩ := ownsRow_typ h.own hg
      exact ⟨_, cs', h1, Or.inr (Or.inr rfl)⟩
  obtain ⟨T, cs', h1, h2⟩ := key
  rw [hc] at h1
  injection h1 with h1
  injection h1 with _ h3 _
  rw [h3] at ht
  rcases h2 with rfl | rfl | rfl <;> exact absurd ht (by decide)
theorem theNew (w : World) : Calls Try.prog 8 #[] w fun e w' => ∃ b S, e = .returned (ptrV b) ∧ TIs w' b [] 1 S ∧ (∀ k, S k → w.heap.size ≤ k) ∧ Below w.heap.size w w' := by
  have h := treeNew_c w
  unfold NewTPost at h
  refine h.mono ?_
  rintro e w' ⟨b, rfl, hb, hm, hbb⟩
  rw [← kindN_nil] at hm
  refine ⟨b, Foot b (fun _ => .slice none 0 0) (.slice none 0 0), rfl, ⟨_, 0, _, [], hm, outRow_empty, goodT_nil, rfl⟩, ?_, hbb⟩
  rintro k (rfl | ⟨n, _, hg⟩ | hg)
  · exact hb
  · cases hg
  · cases hg
def theTree : TreeC where
  Is := TIs
  lt := by
    rintro w b l nx S ⟨R, u, v, ys, hm, _, _, rfl⟩ k hk
    exact (hm.lt k hk).2
  len := by
    rintro w b l nx S ⟨R, u, v, ys, hm, _, hg, rfl⟩
    exact hg.len
  next := by
    rintro w b l nx S ⟨R, u, v, ys, hm, _, hg, rfl⟩
    exact hg.nx1
  kept := by
    rintro w w' b l nx S ⟨R, u, v, ys, hm, ho, hg, rfl⟩ hs hk
    exact ⟨R, u, v, ys, hm.kept hk, ho, hg, rfl⟩
  typ := by
    rintro w b l nx S ⟨R, u, v, ys, hm, ho, hg, rfl⟩
    exact foot_typ hm
  new := theNew
  link := by
    rintro w b l nx S d s isD sh ⟨R, u, v, ys, hm, ho, hg, rfl⟩ hs hnx
    exact treeLink_c hm ho hg d s isD sh hs hnx
  unlink := by
    rintro w b l nx S d s isD ⟨R, u, v, ys, hm, ho, hg, rfl⟩
    exact treeUnlink_c hm ho hg d s isD
  move := by
    rintro w b l nx S d s dt ns sh ⟨R, u, v, ys, hm, ho, hg, rfl⟩ hs hnx
    exact treeMove_c hm ho hg d s dt ns sh hs hnx
  list := by
    rintro w b l nx S d ⟨R, u, v, ys, hm, ho, hg, rfl⟩
    have h := treeListT_c hm (fun n hn => Nat.le_trans (hg.elen n) (by omega)) d
    unfold TListOwn tListI at h
    rw [hg.open'] at h
    refine h.mono ?_
    rintro e w' ⟨v', rfl, hw, hb⟩
    refine ⟨v', rfl, ?_, ⟨fun g hg => (hw.lt g hg).1, RoomV.own hw⟩, hb⟩
    have he := LstIs.own (f := entC) (entC_len _) hw rfl
    unfold listI
    by_cases hd : listE l d = 0
    · obtain ⟨n, rfl, _, _⟩ := hg.dir hd
      rw [if_pos hd] at he ⊢
      rw [Int.toNat_natCast] at he
      exact he
    · rw [if_neg hd] at he ⊢
      exact he
  find := by
    rintro w b l nx S d s ⟨R, u, v, ys, hm, ho, hg, rfl⟩
    exact hg.findS hm d s
  dirs := by
    rintro w b l nx S ⟨R, u, v, ys, hm, ho, hg, rfl⟩
    have h := treeDirs_c hm
    unfold TDirsPost at h
    rw [dirsK_to] at h
    exact h
theorem theGood {w : World} {b : Nat} {l : List Itm} {nx : Int} {S : Nat → Prop} (h : theTree.Is w b l nx S) : GoodT l nx := by
  obtain ⟨R, u, v, ys, hm, ho, hg, _⟩ := h
  exact hg
end Go.Proofs.Ytmplekjiciedgaa
