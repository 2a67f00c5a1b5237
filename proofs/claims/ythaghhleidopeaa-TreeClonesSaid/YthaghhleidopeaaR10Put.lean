/-
  Prepared for stage 10: the reference's bad, and put.
-/
import Derived.Test.YthaghhleidopeaaR10List
import Derived.Test.YthaghhleidopeaaR4Good
import Derived.Test.YthaghhleidopeaaLst
import Derived.Deep.AppendLies
import Derived.Deep.RegionLaw
import Derived.Deep.RegionHeld3
namespace Go.Proofs.Ythaghhleidopeaa
open Go.RowKit Go.Sort
set_option linter.unusedVariables false

/-- What is wrong with a name, and a number. -/
def badE (s : ByteArray) (sh : Int) : Int := if goodB s = true then (if sh < 0 ∨ 1000000 < sh then 1 else 0) else 3
theorem bad10_c (s : ByteArray) (hs : s.size ≤ 9223372036854775807) (sh : Int) (w : World) : Calls Try.prog 46 #[.string s, .int .i64 sh] w fun e w' => e = .returned (.int .i64 (badE s sh)) ∧ w' = w := by
  have cG := refGood_c s hs w
  obtain ⟨E, hE⟩ : ∃ E, badE s sh = E := ⟨_, rfl⟩
  rw [hE]
  unfold badE at hE
  cases hg : goodB s with
  | false =>
    rw [hg] at cG hE
    rw [if_neg (by simp)] at hE
    subst hE
    clear hg
    go_enter Try.func46, Try.ntmps46
    go_wp2_with fail
    refine cG.mono ?_
    rintro e w1 ⟨rfl, rfl⟩
    clear cG
    go_wp2
    go_ret
    exact ⟨rfl, rfl⟩
  | true =>
    rw [hg] at cG hE
    rw [if_pos rfl] at hE
    clear hg
    by_cases h1 : sh < 0
    · rw [if_pos (Or.inl h1)] at hE
      subst hE
      have h1d : decide (sh < 0) = true := decide_eq_true h1
      go_enter Try.func46, Try.ntmps46
      go_wp2_with fail
      refine cG.mono ?_
      rintro e w1 ⟨rfl, rfl⟩
      clear cG
      go_wp2
      go_ret
      exact ⟨rfl, rfl⟩
    · have h1d : decide (sh < 0) = false := decide_eq_false h1
      by_cases h2 : 1000000 < sh
      · rw [if_pos (Or.inr h2)] at hE
        subst hE
        have h2d : decide (1000000 < sh) = true := decide_eq_true h2
        go_enter Try.func46, Try.ntmps46
        go_wp2_with fail
        refine cG.mono ?_
        rintro e w1 ⟨rfl, rfl⟩
        clear cG
        go_wp2
        go_ret
        exact ⟨rfl, rfl⟩
      · rw [if_neg (by omega)] at hE
        subst hE
        have h2d : decide (1000000 < sh) = false := decide_eq_false h2
        go_enter Try.func46, Try.ntmps46
        go_wp2_with fail
        refine cG.mono ?_
        rintro e w1 ⟨rfl, rfl⟩
        clear cG
        go_wp2
        go_ret
        exact ⟨rfl, rfl⟩
/-- With one more entry. -/
def putI (l : List Itm) (nx d : Int) (e : Ent) : List Itm := l ++ [⟨d, { e with cookie := nx }⟩]
theorem own_set {B : Nat} {T : TypeId} {c : Nat} {w : World} {v : Value} {n : Nat} {xs : List Value} (ho : w.ownsRow B T c v n xs) {b : Nat} (hb : b < B) (o : Nat) (x : Value) : (w.setCell ⟨b, o, none⟩ x).ownsRow B T c v n xs :=
  World.ownsRow.kept (row := some b) ho ⟨rfl, rfl, rfl, by simp [World.setCell], fun k hk hne => Below.heap_setCell w ⟨b, o, none⟩ x k (fun e => hne (by rw [e]))⟩ (Or.inr (fun e => by have := (ho.lt b e).1; omega))
theorem below_al {B : Nat} {W0 W : World} {o : Obj} (h : Below B W0 W) (hB : B ≤ W0.heap.size) : Below B W0 (W.alloc o) := h.alloc (Nat.le_trans hB h.size) o
theorem below_set2 {B : Nat} {W0 W : World} {x y : Value} (h : Below B W0 W) : Below B W0 ((W.setCell ⟨B, 0, none⟩ x).setCell ⟨B, 1, none⟩ y) := (h.setCell (p := ⟨B, 0, none⟩) (Nat.le_refl _) _).setCell (p := ⟨B, 1, none⟩) (Nat.le_refl _) _
theorem own_form {B : Nat} {T : TypeId} {c : Nat} {w7 : World} {v : Value} {n : Nat} {xs : List Value} (ho : w7.ownsRow B T c v n xs) : ∃ a k cp, v = .slice a k cp := by
  rcases ho.2 with ⟨h, _⟩ | ⟨g, cap, cur, h, _⟩
  · exact ⟨_, _, _, h⟩
  · exact ⟨_, _, _, h⟩
/-- A tree that is answered. -/
def TreePost (l : List Itm) (nx : Int) (w0 : World) (e : Ending) (w' : World) : Prop := ∃ v', e = .returned (treeV v' nx) ∧ ItmsT w' v' l ∧ (∀ g, v'.ownBlock = some g → w0.heap.size ≤ g) ∧ Below w0.heap.size w0 w'
set_option maxHeartbeats 8000000 in
set_option maxRecDepth 100000 in
theorem put10_c (v : Value) (l : List Itm) (nx d : Int) (e : Ent) (w : World) (hv : ItmsIs w v l) (hl : l.length ≤ 1000) (hnx : nx + 1 ≤ 9223372036854775807) (hnx0 : 0 ≤ nx) :
    Calls Try.prog 47 #[treeV v nx, .int .i64 d, entV e] w (TreePost (putI l nx d e) (nx + 1) w) := by
  unfold TreePost
  obtain ⟨nm, nd, dr, ck, sh⟩ := e
  have HPU : Hid (putI l nx d ⟨nm, nd, dr, ck, sh⟩ = l ++ [(Itm.mk d (Ent.mk nm nd dr nx sh))]) := Lib.hid rfl
  obtain ⟨a, cap, rfl⟩ := hv.len
  obtain ⟨m, hm⟩ : ∃ m, l.length = m := ⟨_, rfl⟩
  have HM := Lib.hid hm
  rw [hm] at hv hl ⊢
  have HV := Lib.hid hv
  unfold treeV entV
  clear hv hm
  go_enter Try.func47, Try.ntmps47
  go_upto_region 2 with fail
  have s1 : (w.alloc (.cells #[.slice a m cap, .int .i64 nx] 48)).heap.size = w.heap.size + 1 := by simp
  have s2 : ((w.alloc (.cells #[.slice a m cap, .int .i64 nx] 48)).alloc (.cells #[.string nm, .int .i64 nd, .bool dr, .int .i64 nx, .int .i64 sh] 40)).heap.size = w.heap.size + 1 + 1 := by simp
  have HT : Hid (TreeAt (((w.alloc (.cells #[.slice a m cap, .int .i64 nx] 48)).alloc (.cells #[.string nm, .int .i64 nd, .bool dr, .int .i64 nx, .int .i64 sh] 40)).alloc (.cells #[.slice none 0 0, .int .i64 0] 48)) w.heap.size (.slice a m cap) nx) := Lib.hid (by
    unfold TreeAt
    rw [Below.heap_alloc _ _ _ (by rw [s2]; omega), Below.heap_alloc _ _ _ (by rw [s1]; omega)]
    exact heap_alloc_new _ _)
  have HE : Hid ((((w.alloc (.cells #[.slice a m cap, .int .i64 nx] 48)).alloc (.cells #[.string nm, .int .i64 nd, .bool dr, .int .i64 nx, .int .i64 sh] 40)).alloc (.cells #[.slice none 0 0, .int .i64 0] 48)).heap[w.heap.size + 1]? = some (.cells #[.string nm, .int .i64 nd, .bool dr, .int .i64 nx, .int .i64 sh] 40 (0, 0))) := Lib.hid (by
    rw [Below.heap_alloc _ _ _ (by rw [s2]; omega), ← s1]
    exact heap_alloc_new _ _)
  have HR0 : Hid ((((w.alloc (.cells #[.slice a m cap, .int .i64 nx] 48)).alloc (.cells #[.string nm, .int .i64 nd, .bool dr, .int .i64 nx, .int .i64 sh] 40)).alloc (.cells #[.slice none 0 0, .int .i64 0] 48)).heap[w.heap.size + 1 + 1]? = some (.cells #[.slice none 0 0, .int .i64 0] 48 (0, 0))) := Lib.hid (by
    rw [← s2]
    exact heap_alloc_new _ _)
  have HB0 : Hid (Below w.heap.size w (((w.alloc (.cells #[.slice a m cap, .int .i64 nx] 48)).alloc (.cells #[.string nm, .int .i64 nd, .bool dr, .int .i64 nx, .int .i64 sh] 40)).alloc (.cells #[.slice none 0 0, .int .i64 0] 48))) := Lib.hid ((((Below.refl _ w).alloc (Nat.le_refl _) _).alloc (by rw [s1]; omega) _).alloc (by rw [s2]; omega) _)
  generalize ((w.alloc (.cells #[.slice a m cap, .int .i64 nx] 48)).alloc (.cells #[.string nm, .int .i64 nd, .bool dr, .int .i64 nx, .int .i64 sh] 40)).alloc (.cells #[.slice none 0 0, .int .i64 0] 48) = W0 at *
  clear s1 s2
  have HVW := Lib.hid (LstIs.kept HV.out HB0.out)
  clear HV
  have HV := HVW
  clear HVW
  generalize hbT : w.heap.size = bT at *
  have HBT := Lib.hid hbT
  clear hbT
  have c0 : W0.drew.cell? ⟨bT, 0, none⟩ = some (.slice a m cap) := HT.out.l.1
  have c1 : W0.drew.cell? ⟨bT, 1, none⟩ = some (.int .i64 nx) := HT.out.l.2
  obtain ⟨⟨e0, e1, e2, e3, e4⟩, _⟩ := five_cells (W := W0.drew) HE.out
  have HR : Hid (∀ W : World, Below W0.heap.size W0 W → W.cell? ⟨bT + 1 + 1, 0, none⟩ = some (.slice none 0 0) ∧ W.cell? ⟨bT + 1 + 1, 1, none⟩ = some (.int .i64 0) ∧ W.frozen? ⟨bT + 1 + 1, 0, none⟩ = false ∧ W.frozen? ⟨bT + 1 + 1, 1, none⟩ = false) := Lib.hid (fun W hW => by
    have h := (hW.block _ (lt_of_get HR0.out)).trans HR0.out
    exact ⟨Lib.cell_of_heap h 0, Lib.cell_of_heap h 1, Lib.frozen_of_heap h 0, Lib.frozen_of_heap h 1⟩)
  have hwr : IntKind.i64.wrap (nx + 1) = nx + 1 := by rw [IntKind.wrap_i64]; omega
  have hlen1 : 0 + l.length ≤ 100000 := by have := HM.out; omega
  have hlen2 : 0 + l.length + [((Itm.mk d (Ent.mk nm nd dr nx sh)) : Itm)].length ≤ 100000 := by have := HM.out; simp; omega
  have HBa : Hid (Below W0.heap.size W0 ((W0.alloc (.cells #[] 99)).alloc (.cells #[.int .i64 d, .string nm, .int .i64 nd, .bool dr, .int .i64 nx, .int .i64 sh] 99)).drew) := Lib.hid (((((Below.refl _ W0).alloc (Nat.le_refl _) _).alloc (by simp) _)).drew)
  have HOa : Hid (World.ownsRow ((W0.alloc (.cells #[] 99)).alloc (.cells #[.int .i64 d, .string nm, .int .i64 nd, .bool dr, .int .i64 nx, .int .i64 sh] 99)).drew W0.heap.size 99 6 (.slice (some ⟨W0.heap.size, 0, none⟩) 0 0) 0 []) := Lib.hid (own_new (show ((W0.alloc _).alloc _).heap[W0.heap.size]? = _ by rw [Below.heap_alloc _ _ _ (by simp)]; exact heap_alloc_new _ _) (by omega))
  have HIa : Hid ((((W0.alloc (.cells #[] 99)).alloc (.cells #[.int .i64 d, .string nm, .int .i64 nd, .bool dr, .int .i64 nx, .int .i64 sh] 99)).drew).heap[W0.heap.size + 1]? = some (.cells (itmC (Itm.mk d (Ent.mk nm nd dr nx sh))).toArray 99 (0, 0))) := Lib.hid (show ((W0.alloc _).alloc _).heap[W0.heap.size + 1]? = _ from heap_alloc2_new _ _ _)
  have HVa := Lib.hid (HV.out.kept HBa.out)
  have HLa : Hid (W0.heap.size ≤ (((W0.alloc (.cells #[] 99)).alloc (.cells #[.int .i64 d, .string nm, .int .i64 nd, .bool dr, .int .i64 nx, .int .i64 sh] 99)).drew).heap.size) := Lib.hid HBa.out.size
  have HBb : Hid (Below W0.heap.size W0 (W0.alloc (.cells #[] 99)).drew) := Lib.hid ((((Below.refl _ W0).alloc (Nat.le_refl _) _)).drew)
  have HOb : Hid (World.ownsRow (W0.alloc (.cells #[] 99)).drew W0.heap.size 99 6 (.slice (some ⟨W0.heap.size, 0, none⟩) 0 0) 0 []) := Lib.hid (own_new (show (W0.alloc _).heap[W0.heap.size]? = _ from heap_alloc_new _ _) (by omega))
  have HVb := Lib.hid (HV.out.kept HBb.out)
  have HLb : Hid (W0.heap.size ≤ ((W0.alloc (.cells #[] 99)).drew).heap.size) := Lib.hid HBb.out.size
  have HBc : Hid (Below W0.heap.size W0 ((W0.alloc (.cells #[.int .i64 d, .string nm, .int .i64 nd, .bool dr, .int .i64 nx, .int .i64 sh] 99)).alloc (.cells #[] 99)).drew) := Lib.hid (((((Below.refl _ W0).alloc (Nat.le_refl _) _).alloc (by simp) _)).drew)
  have HOc : Hid (World.ownsRow ((W0.alloc (.cells #[.int .i64 d, .string nm, .int .i64 nd, .bool dr, .int .i64 nx, .int .i64 sh] 99)).alloc (.cells #[] 99)).drew W0.heap.size 99 6 (.slice (some ⟨W0.heap.size + 1, 0, none⟩) 0 0) 0 []) := Lib.hid (own_new (show ((W0.alloc _).alloc _).heap[W0.heap.size + 1]? = _ from heap_alloc2_new _ _ _) (by omega))
  have HIc : Hid ((((W0.alloc (.cells #[.int .i64 d, .string nm, .int .i64 nd, .bool dr, .int .i64 nx, .int .i64 sh] 99)).alloc (.cells #[] 99)).drew).heap[W0.heap.size]? = some (.cells (itmC (Itm.mk d (Ent.mk nm nd dr nx sh))).toArray 99 (0, 0))) := Lib.hid (show ((W0.alloc _).alloc _).heap[W0.heap.size]? = _ by rw [Below.heap_alloc _ _ _ (by simp)]; exact heap_alloc_new _ _)
  have HVc := Lib.hid (HV.out.kept HBc.out)
  have HLc : Hid (W0.heap.size ≤ (((W0.alloc (.cells #[.int .i64 d, .string nm, .int .i64 nd, .bool dr, .int .i64 nx, .int .i64 sh] 99)).alloc (.cells #[] 99)).drew).heap.size) := Lib.hid HBc.out.size
  have HBd : Hid (Below W0.heap.size W0 (W0.alloc (.cells #[.int .i64 d, .string nm, .int .i64 nd, .bool dr, .int .i64 nx, .int .i64 sh] 99)).drew) := Lib.hid ((((Below.refl _ W0).alloc (Nat.le_refl _) _)).drew)
  have HBB : Hid (bT + 1 + 1 ≤ W0.heap.size) := Lib.hid (by have := lt_of_get HR0.out; omega)
  have HSK : Hid (∀ W : World, Below (bT + 1 + 1) W0 W → Below (bT + 1 + 1) W0 W ∧ W.cell? ⟨bT, 0, none⟩ = some (.slice a m cap) ∧ W.cell? ⟨bT, 1, none⟩ = some (.int .i64 nx) ∧ W.cell? ⟨bT + 1, 0, none⟩ = some (.string nm) ∧ W.cell? ⟨bT + 1, 1, none⟩ = some (.int .i64 nd) ∧ W.cell? ⟨bT + 1, 2, none⟩ = some (.bool dr) ∧ W.cell? ⟨bT + 1, 3, none⟩ = some (.int .i64 nx) ∧ W.cell? ⟨bT + 1, 4, none⟩ = some (.int .i64 sh)) := Lib.hid (fun W hW =>
    ⟨hW, by rw [hW.cell (p := ⟨bT, 0, none⟩) (by show bT < _; omega)]; exact c0, by rw [hW.cell (p := ⟨bT, 1, none⟩) (by show bT < _; omega)]; exact c1, by rw [hW.cell (p := ⟨bT + 1, 0, none⟩) (by show bT + 1 < _; omega)]; exact e0, by rw [hW.cell (p := ⟨bT + 1, 1, none⟩) (by show bT + 1 < _; omega)]; exact e1, by rw [hW.cell (p := ⟨bT + 1, 2, none⟩) (by show bT + 1 < _; omega)]; exact e2, by rw [hW.cell (p := ⟨bT + 1, 3, none⟩) (by show bT + 1 < _; omega)]; exact e3, by rw [hW.cell (p := ⟨bT + 1, 4, none⟩) (by show bT + 1 < _; omega)]; exact e4⟩)
  clear c0 c1 e0 e1 e2 e3 e4
  go_region_held3 (fun W => Below (bT + 1 + 1) W0 W ∧ W.cell? ⟨bT, 0, none⟩ = some (.slice a m cap) ∧ W.cell? ⟨bT, 1, none⟩ = some (.int .i64 nx) ∧ W.cell? ⟨bT + 1, 0, none⟩ = some (.string nm) ∧ W.cell? ⟨bT + 1, 1, none⟩ = some (.int .i64 nd) ∧ W.cell? ⟨bT + 1, 2, none⟩ = some (.bool dr) ∧ W.cell? ⟨bT + 1, 3, none⟩ = some (.int .i64 nx) ∧ W.cell? ⟨bT + 1, 4, none⟩ = some (.int .i64 sh)) (first | assumption | (refine HSK.out _ ?_; first | assumption | exact (HBa.out.mono HBB.out) | exact (HBb.out.mono HBB.out) | exact (HBc.out.mono HBB.out) | exact (HBd.out.mono HBB.out) | exact (Below.refl _ _).drew | exact Below.drew ‹_› | exact below_al ‹_› HBB.out | exact below_set2 ‹_›)) (first
    | (refine step_append_lst itmElem rfl _ _ rfl W0.heap.size (.slice (some ⟨W0.heap.size, 0, none⟩) 0 0) 0 [] rfl HOa.out (.slice a m cap) l (itmC_len l) (fun x _ => itmC_one x) rfl HVa.out hlen1 HLa.out ?_; intro v7 w7 ho7 hg7 hr7; have hb7 : Below W0.heap.size W0 w7 := HBa.out.grown hg7 HLa.out (fun j hj => (HOa.out.lt j hj).1); have hq7 := hb7.mono HBB.out; obtain ⟨a7, k7, c7, hv7⟩ := own_form ho7; subst hv7; have hi7 : w7.heap[W0.heap.size + 1]? = some (.cells (itmC (Itm.mk d (Ent.mk nm nd dr nx sh))).toArray 99 (0, 0)) := by rw [hg7.block _ (lt_of_get HIa.out) (fun e => by have e2 : W0.heap.size + 1 = W0.heap.size := Option.some.inj e; omega)]; exact HIa.out)
    | (refine step_append_lst itmElem rfl _ _ rfl W0.heap.size (.slice (some ⟨W0.heap.size, 0, none⟩) 0 0) 0 [] rfl HOb.out (.slice a m cap) l (itmC_len l) (fun x _ => itmC_one x) rfl HVb.out hlen1 HLb.out ?_; intro v7 w7 ho7 hg7 hr7; have hb7 : Below W0.heap.size W0 w7 := HBb.out.grown hg7 HLb.out (fun j hj => (HOb.out.lt j hj).1); have hq7 := hb7.mono HBB.out; obtain ⟨a7, k7, c7, hv7⟩ := own_form ho7; subst hv7; have hb7a := hb7.alloc hb7.size (.cells #[.int .i64 d, .string nm, .int .i64 nd, .bool dr, .int .i64 nx, .int .i64 sh] 99); have ho7a := ho7.alloc (.cells #[.int .i64 d, .string nm, .int .i64 nd, .bool dr, .int .i64 nx, .int .i64 sh] 99); have hi7 : (w7.alloc (.cells #[.int .i64 d, .string nm, .int .i64 nd, .bool dr, .int .i64 nx, .int .i64 sh] 99)).heap[w7.heap.size]? = some (.cells (itmC (Itm.mk d (Ent.mk nm nd dr nx sh))).toArray 99 (0, 0)) := heap_alloc_new _ _)
    | (refine step_append_lst itmElem rfl _ _ rfl W0.heap.size (.slice (some ⟨W0.heap.size + 1, 0, none⟩) 0 0) 0 [] rfl HOc.out (.slice a m cap) l (itmC_len l) (fun x _ => itmC_one x) rfl HVc.out hlen1 HLc.out ?_; intro v7 w7 ho7 hg7 hr7; have hb7 : Below W0.heap.size W0 w7 := HBc.out.grown hg7 HLc.out (fun j hj => (HOc.out.lt j hj).1); have hq7 := hb7.mono HBB.out; obtain ⟨a7, k7, c7, hv7⟩ := own_form ho7; subst hv7; have hi7 : w7.heap[W0.heap.size]? = some (.cells (itmC (Itm.mk d (Ent.mk nm nd dr nx sh))).toArray 99 (0, 0)) := by rw [hg7.block _ (lt_of_get HIc.out) (fun e => by have e2 : W0.heap.size = W0.heap.size + 1 := Option.some.inj e; omega)]; exact HIc.out)
    | (refine step_append_lst itmElem rfl _ _ rfl W0.heap.size _ (0 + l.length) ([] ++ l.flatMap itmC) rfl ho7 _ [((Itm.mk d (Ent.mk nm nd dr nx sh)) : Itm)] (itmC_len _) (fun x _ => itmC_one x) rfl (LstIs.block (itmC_len _) hi7) hlen2 hb7.size ?_; intro v8 w8 ho8 hg8 hr8; have hb8 : Below W0.heap.size W0 w8 := hb7.grown hg8 hb7.size (fun j hj => (ho7.lt j hj).1); have hq8 := hb8.mono HBB.out; obtain ⟨z0, z1, y0, y1⟩ := HR.out w8 hb8; obtain ⟨a8, k8, c8, hv8⟩ := own_form ho8; subst hv8)
    | (refine step_append_lst itmElem rfl _ _ rfl W0.heap.size _ (0 + l.length) ([] ++ l.flatMap itmC) rfl ho7a _ [((Itm.mk d (Ent.mk nm nd dr nx sh)) : Itm)] (itmC_len _) (fun x _ => itmC_one x) rfl (LstIs.block (itmC_len _) hi7) hlen2 hb7a.size ?_; intro v8 w8 ho8 hg8 hr8; have hb8 : Below W0.heap.size W0 w8 := hb7a.grown hg8 hb7a.size (fun j hj => (ho7a.lt j hj).1); have hq8 := hb8.mono HBB.out; obtain ⟨z0, z1, y0, y1⟩ := HR.out w8 hb8; obtain ⟨a8, k8, c8, hv8⟩ := own_form ho8; subst hv8))
  all_goals
    have hlt8 : bT + 1 + 1 < W0.heap.size := lt_of_get HR0.out
    have ho9 : World.ownsRow w8 W0.heap.size 99 6 (.slice a8 k8 c8) (l ++ [(Itm.mk d (Ent.mk nm nd dr nx sh))]).length ((l ++ [(Itm.mk d (Ent.mk nm nd dr nx sh))]).flatMap itmC) := by
      have := ho8
      rw [Nat.zero_add, List.nil_append] at this
      rw [List.length_append, List.flatMap_append]
      exact this
    have HX : Hid (ItmsT ((w8.setCell ⟨bT + 1 + 1, 0, none⟩ (.slice a8 k8 c8)).setCell ⟨bT + 1 + 1, 1, none⟩ (.int .i64 (nx + 1))) (.slice a8 k8 c8) (l ++ [(Itm.mk d (Ent.mk nm nd dr nx sh))])) := Lib.hid (ItmsT.own (own_set (own_set ho9 hlt8 0 _) hlt8 1 _) rfl)
    have h8 : w8.heap[bT + 1 + 1]? = some (.cells #[.slice none 0 0, .int .i64 0] 48 (0, 0)) := (hb8.block _ hlt8).trans HR0.out
    have HZ : Hid (((w8.setCell ⟨bT + 1 + 1, 0, none⟩ (.slice a8 k8 c8)).setCell ⟨bT + 1 + 1, 1, none⟩ (.int .i64 (nx + 1))).heap[bT + 1 + 1]? = some (.cells #[.slice a8 k8 c8, .int .i64 (nx + 1)] 48 (0, 0))) := Lib.hid (by
      rw [heap_setCell_same _ (bT + 1 + 1) 1 _ _ _ (heap_setCell_same _ (bT + 1 + 1) 0 _ _ _ h8)]
      rfl)
    have HBE : Hid (Below bT w ((w8.setCell ⟨bT + 1 + 1, 0, none⟩ (.slice a8 k8 c8)).setCell ⟨bT + 1 + 1, 1, none⟩ (.int .i64 (nx + 1)))) := Lib.hid (((HB0.out.trans (hb8.mono (by omega))).setCell (p := ⟨bT + 1 + 1, 0, none⟩) (by show bT ≤ bT + 1 + 1; omega) _).setCell (p := ⟨bT + 1 + 1, 1, none⟩) (by show bT ≤ bT + 1 + 1; omega) _)
    have HOW : Hid (∀ j, (Value.slice a8 k8 c8).ownBlock = some j → W0.heap.size ≤ j) := Lib.hid (fun j hj => (ho8.lt j hj).1)
    clear ho8 ho9 hb8 h8 z0 z1 y0 y1
    go_wp2
    refine bodyPost_ret (results_cell_row Try.results47 _ _ _ _ _ _ _ rfl HZ.out Try.underlying48 rfl (by kernel_rfl)) rfl ⟨_, rfl, ?_, ?_, ?_⟩
    · rw [HPU.out]
      exact HX.out
    · intro j hj
      have := HOW.out j hj
      have := HBT.out
      omega
    · rw [HBT.out]
      exact HBE.out
end Go.Proofs.Ythaghhleidopeaa
