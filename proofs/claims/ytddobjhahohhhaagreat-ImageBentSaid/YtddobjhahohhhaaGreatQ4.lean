/-
  Prepared for stage 10: the reference's New, and Do.
  Prepared for stage 10: the reference's Same, and Few; two entries compared.
  Prepared for stage 10: the reference's Few, and Dirs.
-/
import Derived.Test.YtddobjhahohhhaaGreatQ3
import Derived.Laws.StructEq
namespace Go.Proofs.YtddobjhahohhhaaGreat
open Go.RowKit Go.Sort
set_option linter.unusedVariables false

theorem new10_c (w : World) : Calls Tryz.prog 14 #[] w fun e w' => e = .returned (treeV (.slice none 0 0) 1) ∧ Below w.heap.size w w' := by
  unfold treeV
  go_enter Tryz.func14, Tryz.ntmps14
  have HB : Hid (Below w.heap.size w (w.alloc (.cells #[.slice none 0 0, .int .i64 1] 28))) := Lib.hid ((Below.refl _ w).alloc (Nat.le_refl _) _)
  go_wp2
  refine bodyPost_ret (results_cell_row Tryz.results14 _ _ _ _ _ _ _ rfl (heap_alloc_new _ _) Tryz.underlying28 rfl treeElem_zero) rfl ⟨rfl, HB.out⟩
/-- A call. -/
structure OpT where
  k : Int
  d : Int
  dt : Int
  s : ByteArray
  ns : ByteArray
  isD : Bool
  sh : Int
deriving Inhabited
def opC (o : OpT) : List Value := [.int .u8 o.k, .int .i64 o.d, .int .i64 o.dt, .string o.s, .string o.ns, .bool o.isD, .int .i64 o.sh]
def opV (o : OpT) : Value := .agg #[.int .u8 o.k, .int .i64 o.d, .int .i64 o.dt, .string o.s, .string o.ns, .bool o.isD, .int .i64 o.sh]
/-- What is behind a call: the tree, the node, the error. -/
def doI (l : List Itm) (nx : Int) (o : OpT) : (List Itm × Int) × Int × Int :=
  if o.k % 3 = 0 then linkI l nx o.d o.s o.isD o.sh
  else if o.k % 3 = 1 then ((unlinkI l nx o.d o.s o.isD).1, 0, (unlinkI l nx o.d o.s o.isD).2)
  else ((moveI l nx o.d o.s o.dt o.ns o.sh).1, 0, (moveI l nx o.d o.s o.dt o.ns o.sh).2)
theorem put_tree {W : World} {q : Nat} (hq : W.heap[q]? = some (.cells #[.slice none 0 0, .int .i64 0] 28 (0, 0))) {v8 : Value} {nx8 : Int} {l8 : List Itm} (h8 : ItmsT W v8 l8) :
    ((W.setCell ⟨q, 0, none⟩ v8).setCell ⟨q, 1, none⟩ (.int .i64 nx8)).heap[q]? = some (.cells #[v8, .int .i64 nx8] 28 (0, 0)) ∧ ItmsT ((W.setCell ⟨q, 0, none⟩ v8).setCell ⟨q, 1, none⟩ (.int .i64 nx8)) v8 l8 := by
  have hb : v8.ownBlock ≠ some q := fun e => by
    obtain ⟨cs, hc⟩ := h8.2 _ e
    exact block_ne hc hq (by decide) rfl
  refine ⟨?_, (h8.set hb 0 _).set hb 1 _⟩
  rw [heap_setCell_same _ q 1 _ _ _ (heap_setCell_same _ q 0 _ _ _ hq)]
  rfl
theorem below_two {B q : Nat} {W0 W : World} {x y : Value} (h : Below B W0 W) (hq : B ≤ q) : Below B W0 ((W.setCell ⟨q, 0, none⟩ x).setCell ⟨q, 1, none⟩ y) := (h.setCell (p := ⟨q, 0, none⟩) hq _).setCell (p := ⟨q, 1, none⟩) hq _
set_option maxHeartbeats 8000000 in
set_option maxRecDepth 100000 in
theorem do10_c (v : Value) (l : List Itm) (nx : Int) (o : OpT) (w : World) (hv : ItmsT w v l) (hl : l.length ≤ 999) (hs : o.s.size ≤ 9223372036854775807) (hns : o.ns.size ≤ 9223372036854775807) (hk0 : 0 ≤ o.k) (hk1 : o.k ≤ 255) (hnx : nx + 1 ≤ 9223372036854775807) (hnx0 : 0 ≤ nx) :
    Calls Tryz.prog 16 #[treeV v nx, opV o] w (LinkPost (doI l nx o) w) := by
  unfold LinkPost
  obtain ⟨k, d, dt, s, ns, isD, sh⟩ := o
  simp only at hs hns hk0 hk1
  obtain ⟨R, hR⟩ : ∃ R, doI l nx ⟨k, d, dt, s, ns, isD, sh⟩ = R := ⟨_, rfl⟩
  rw [hR]
  unfold doI at hR
  simp only at hR
  have HRR := Lib.hid hR
  obtain ⟨a, cap, rfl⟩ := hv.1.len
  have cL := fun W (h : ItmsT W (.slice a l.length cap) l) => link10_c (.slice a l.length cap) l nx d s isD sh W h hl hs hnx hnx0
  have cU := fun W (h : ItmsT W (.slice a l.length cap) l) => unlink10_c (.slice a l.length cap) l nx d s isD W h hl
  have cM := fun W (h : ItmsT W (.slice a l.length cap) l) => move10_c (.slice a l.length cap) l nx d s dt ns sh W h hl hns hnx hnx0
  obtain ⟨m, hm⟩ : ∃ m, l.length = m := ⟨_, rfl⟩
  simp only [hm] at cL cU cM
  rw [hm] at hv hl ⊢
  have s1 : (w.alloc (.cells #[.slice a m cap, .int .i64 nx] 28)).heap.size = w.heap.size + 1 := by simp
  have s2 : ((w.alloc (.cells #[.slice a m cap, .int .i64 nx] 28)).alloc (.cells #[.int .u8 k, .int .i64 d, .int .i64 dt, .string s, .string ns, .bool isD, .int .i64 sh] 45)).heap.size = w.heap.size + 1 + 1 := by simp
  have hb0 : Below w.heap.size w (((w.alloc (.cells #[.slice a m cap, .int .i64 nx] 28)).alloc (.cells #[.int .u8 k, .int .i64 d, .int .i64 dt, .string s, .string ns, .bool isD, .int .i64 sh] 45)).alloc (.cells #[.slice none 0 0, .int .i64 0] 28)) := (((Below.refl _ w).alloc (Nat.le_refl _) _).alloc (by rw [s1]; omega) _).alloc (by rw [s2]; omega) _
  have HT : Hid (TreeAt (((w.alloc (.cells #[.slice a m cap, .int .i64 nx] 28)).alloc (.cells #[.int .u8 k, .int .i64 d, .int .i64 dt, .string s, .string ns, .bool isD, .int .i64 sh] 45)).alloc (.cells #[.slice none 0 0, .int .i64 0] 28)) w.heap.size (.slice a m cap) nx) := Lib.hid (by
    unfold TreeAt
    rw [Below.heap_alloc _ _ _ (by rw [s2]; omega), Below.heap_alloc _ _ _ (by rw [s1]; omega)]
    exact heap_alloc_new _ _)
  have HO : Hid (((((w.alloc (.cells #[.slice a m cap, .int .i64 nx] 28)).alloc (.cells #[.int .u8 k, .int .i64 d, .int .i64 dt, .string s, .string ns, .bool isD, .int .i64 sh] 45)).alloc (.cells #[.slice none 0 0, .int .i64 0] 28))).heap[w.heap.size + 1]? = some (.cells #[.int .u8 k, .int .i64 d, .int .i64 dt, .string s, .string ns, .bool isD, .int .i64 sh] 45 (0, 0))) := Lib.hid (by
    rw [Below.heap_alloc _ _ _ (by rw [s2]; omega), ← s1]
    exact heap_alloc_new _ _)
  have HQ : Hid (((((w.alloc (.cells #[.slice a m cap, .int .i64 nx] 28)).alloc (.cells #[.int .u8 k, .int .i64 d, .int .i64 dt, .string s, .string ns, .bool isD, .int .i64 sh] 45)).alloc (.cells #[.slice none 0 0, .int .i64 0] 28))).heap[w.heap.size + 1 + 1]? = some (.cells #[.slice none 0 0, .int .i64 0] 28 (0, 0))) := Lib.hid (by
    rw [← s2]
    exact heap_alloc_new _ _)
  have HB := Lib.hid hb0
  have HI0 := Lib.hid (hv.kept hb0)
  unfold treeV at cL cU cM ⊢
  unfold opV
  clear hv hm hR hb0
  go_enter Tryz.func16, Tryz.ntmps16
  go_upto_region 1 with fail
  generalize (((w.alloc (.cells #[.slice a m cap, .int .i64 nx] 28)).alloc (.cells #[.int .u8 k, .int .i64 d, .int .i64 dt, .string s, .string ns, .bool isD, .int .i64 sh] 45)).alloc (.cells #[.slice none 0 0, .int .i64 0] 28)) = W0 at *
  clear s1 s2
  generalize hbT : w.heap.size = bT at *
  have HBT := Lib.hid hbT
  clear hbT
  obtain ⟨t0, t1⟩ := HT.out.l
  have p0 : W0.cell? ⟨bT + 1, 0, none⟩ = some (.int .u8 k) := Lib.cell_of_heap HO.out 0
  have p1 : W0.cell? ⟨bT + 1, 1, none⟩ = some (.int .i64 d) := Lib.cell_of_heap HO.out 1
  have p2 : W0.cell? ⟨bT + 1, 2, none⟩ = some (.int .i64 dt) := Lib.cell_of_heap HO.out 2
  have p3 : W0.cell? ⟨bT + 1, 3, none⟩ = some (.string s) := Lib.cell_of_heap HO.out 3
  have p4 : W0.cell? ⟨bT + 1, 4, none⟩ = some (.string ns) := Lib.cell_of_heap HO.out 4
  have p5 : W0.cell? ⟨bT + 1, 5, none⟩ = some (.bool isD) := Lib.cell_of_heap HO.out 5
  have p6 : W0.cell? ⟨bT + 1, 6, none⟩ = some (.int .i64 sh) := Lib.cell_of_heap HO.out 6
  have hsw : W0.heap.size ≥ bT + 1 + 1 + 1 := lt_of_get HQ.out
  have hkm : k.tmod 3 = k % 3 := Int.tmod_eq_emod_of_nonneg hk0
  have hkc : k % 3 = 0 ∨ k % 3 = 1 ∨ k % 3 = 2 := by omega
  have HQB : Hid (∀ W : World, Below W0.heap.size W0 W → (W.heap[bT + 1 + 1]? = some (.cells #[.slice none 0 0, .int .i64 0] 28 (0, 0)) ∧ Below bT w W)) := Lib.hid (fun W hW => ⟨by rw [hW.block _ (by omega)]; exact HQ.out, HB.out.trans (hW.mono (by omega))⟩)
  rcases hkc with hkc | hkc | hkc
  · have HR9 : Hid (R = linkI l nx d s isD sh) := Lib.hid (by rw [← HRR.out, if_pos hkc])
    have cL0 := cL W0 HI0.out
    unfold LinkPost treeV at cL0
    rw [← HR9.out] at cL0
    rw [hkc] at hkm
    clear cL cU cM hkc
    go_wp2_with (go_at_call 39; refine cL0.mono ?_; rintro e w1 ⟨v1, rfl, hi1, hb1⟩; obtain ⟨hq1, hbw1⟩ := HQB.out _ hb1; obtain ⟨a1, c1, hv1⟩ := hi1.1.len; obtain ⟨hz, hi⟩ := put_tree hq1 hi1 (nx8 := R.1.2); have HZ := Lib.hid hz; have HI := Lib.hid hi; have HBE := Lib.hid (below_two (x := v1) (y := .int .i64 R.1.2) hbw1 (show bT ≤ bT + 1 + 1 by omega)); obtain ⟨⟨z0, z1⟩, ⟨y0, y1⟩⟩ := two_cells hq1; generalize R.1.1.length = L1 at hv1; subst hv1; clear hz hi hi1 hb1 hq1 hbw1)
    refine bodyPost_ret (v := .tuple #[treeV (.slice a1 L1 c1) R.1.2, .int .i64 R.2.1, .int .i64 R.2.2]) ?_ rfl ?_
    · rw [results_cell_two rfl]
      go_simp
      rfl
    · refine ⟨_, rfl, HI.out, ?_⟩
      rw [HBT.out]
      exact HBE.out
  · have HR9 : Hid (R = ((unlinkI l nx d s isD).1, 0, (unlinkI l nx d s isD).2)) := Lib.hid (by rw [← HRR.out, if_neg (show ¬ k % 3 = 0 by omega), if_pos hkc])
    have cL0 := cU W0 HI0.out
    unfold UnPost treeV at cL0
    generalize unlinkI l nx d s isD = U at *
    rw [hkc] at hkm
    clear cL cU cM hkc
    go_wp2_with (go_at_call 40; refine cL0.mono ?_; rintro e w1 ⟨v1, rfl, hi1, hb1⟩; have hi2 := hi1.kept ((Below.refl _ w1).alloc (Nat.le_refl _) (.cells #[v1, .int .i64 U.1.2] 28)); have hb2 := hb1.trans (((Below.refl w1.heap.size w1).alloc (Nat.le_refl _) (.cells #[v1, .int .i64 U.1.2] 28)).mono hb1.size); obtain ⟨hq1, hbw1⟩ := HQB.out _ hb2; obtain ⟨a1, c1, hv1⟩ := hi1.1.len; obtain ⟨hz, hi⟩ := put_tree hq1 hi2 (nx8 := U.1.2); have HZ := Lib.hid hz; have HI := Lib.hid hi; have HBE := Lib.hid (below_two (x := v1) (y := .int .i64 U.1.2) hbw1 (show bT ≤ bT + 1 + 1 by omega)); obtain ⟨⟨z0, z1⟩, ⟨y0, y1⟩⟩ := two_cells hq1; generalize U.1.1.length = L1 at hv1; subst hv1; clear hz hi hi1 hi2 hb1 hb2 hq1 hbw1)
    refine bodyPost_ret (v := .tuple #[treeV (.slice a1 L1 c1) U.1.2, .int .i64 0, .int .i64 U.2]) ?_ rfl ?_
    · rw [results_cell_two rfl]
      go_simp
      rfl
    · rw [HR9.out]
      refine ⟨_, rfl, HI.out, ?_⟩
      rw [HBT.out]
      exact HBE.out
  · have HR9 : Hid (R = ((moveI l nx d s dt ns sh).1, 0, (moveI l nx d s dt ns sh).2)) := Lib.hid (by rw [← HRR.out, if_neg (show ¬ k % 3 = 0 by omega), if_neg (show ¬ k % 3 = 1 by omega)])
    have cL0 := cM W0 HI0.out
    unfold UnPost treeV at cL0
    generalize moveI l nx d s dt ns sh = U at *
    rw [hkc] at hkm
    clear cL cU cM hkc
    go_wp2_with (go_at_call 41; refine cL0.mono ?_; rintro e w1 ⟨v1, rfl, hi1, hb1⟩; have hi2 := hi1.kept ((Below.refl _ w1).alloc (Nat.le_refl _) (.cells #[v1, .int .i64 U.1.2] 28)); have hb2 := hb1.trans (((Below.refl w1.heap.size w1).alloc (Nat.le_refl _) (.cells #[v1, .int .i64 U.1.2] 28)).mono hb1.size); obtain ⟨hq1, hbw1⟩ := HQB.out _ hb2; obtain ⟨a1, c1, hv1⟩ := hi1.1.len; obtain ⟨hz, hi⟩ := put_tree hq1 hi2 (nx8 := U.1.2); have HZ := Lib.hid hz; have HI := Lib.hid hi; have HBE := Lib.hid (below_two (x := v1) (y := .int .i64 U.1.2) hbw1 (show bT ≤ bT + 1 + 1 by omega)); obtain ⟨⟨z0, z1⟩, ⟨y0, y1⟩⟩ := two_cells hq1; generalize U.1.1.length = L1 at hv1; subst hv1; clear hz hi hi1 hi2 hb1 hb2 hq1 hbw1)
    refine bodyPost_ret (v := .tuple #[treeV (.slice a1 L1 c1) U.1.2, .int .i64 0, .int .i64 U.2]) ?_ rfl ?_
    · rw [results_cell_two rfl]
      go_simp
      rfl
    · rw [HR9.out]
      refine ⟨_, rfl, HI.out, ?_⟩
      rw [HBT.out]
      exact HBE.out
end Go.Proofs.YtddobjhahohhhaaGreat

namespace Go.Proofs.YtddobjhahohhhaaGreat
open Go.RowKit Go.Sort
set_option linter.unusedVariables false

theorem ent_eql (x y : Ent) (w : World) : (Op.equalIn 10000 84 (entV x) (entV y)).run Tryz.prog w = .ok (decide (x = y)) w := by
  have hS : Tryz.prog.underlying 84 = some (.struct (Tryz.prog.fieldsOf 84)) := by kernel_rfl
  have hp : Tryz.prog.stoodInHeld 84 = false := by kernel_rfl
  obtain ⟨n1, a1, b1, c1, d1⟩ := x
  obtain ⟨n2, a2, b2, c2, d2⟩ := y
  unfold entV
  rw [show (10000 : Nat) = 9999 + 1 from rfl, run_equalIn_agg w 9999 84 _ _ hS hp]
  simp only [Program.fieldsOf, Tryz.underlying84]
  go_simp
  have hn : (n1.toList == n2.toList) = decide (n1 = n2) := by
    by_cases h : n1 = n2
    · subst h; simp
    · rw [text_ne h, decide_eq_false h]
  have hl : n1.toList = n2.toList ↔ n1 = n2 := ⟨fun h => by
    rw [ByteArray.toList_eq, ByteArray.toList_eq] at h
    exact ByteArray.ext (Array.toList_inj.1 h), fun h => by rw [h]⟩
  (try simp only [Ent.mk.injEq])
  (try rw [hn])
  by_cases h1 : n1 = n2 <;> by_cases h2 : a1 = a2 <;> by_cases h3 : b1 = b2 <;> by_cases h4 : c1 = c2 <;> by_cases h5 : d1 = d2 <;> simp [hl, h1, h2, h3, h4, h5]
theorem ent_neq (x y : Ent) (w : World) : (binOp .neq 84 (entV x) (entV y)).run Tryz.prog w = .ok (.bool (!decide (x = y))) w := by
  have h := ent_eql x y w
  unfold entV at h ⊢
  rw [run_neq_struct, h]
  rfl
theorem ent_eq (x y : Ent) (w : World) : (binOp .eql 84 (entV x) (entV y)).run Tryz.prog w = .ok (.bool (decide (x = y))) w := by
  have h := ent_eql x y w
  unfold entV at h ⊢
  rw [run_eql_struct, h]
  rfl
theorem ent_guard (op : BinOp) (a b : Operand) (x y : Ent) (w : World) : (eqGuard op 84 a b (entV x) (entV y)).run Tryz.prog w = .ok () w := by
  unfold entV
  exact run_eqGuard_agg w op 84 a b _ _ (by kernel_rfl)
theorem drop_same {α : Type} [DecidableEq α] {l l' : List α} {i : Nat} {x y : α} (h1 : l[i]? = some x) (h2 : l'[i]? = some y) : decide (l.drop i = l'.drop i) = (decide (x = y) && decide (l.drop (i + 1) = l'.drop (i + 1))) := by
  rw [drop_eq_cons h1, drop_eq_cons h2]
  by_cases h : x = y <;> simp [h]
set_option maxHeartbeats 4000000 in
theorem same10_c (v1 v2 : Value) (l1 l2 : List Ent) (w : World) (h1 : EntsIs w v1 l1) (h2 : EntsIs w v2 l2) (hl1 : l1.length ≤ 100000) (hl2 : l2.length ≤ 100000) :
    Calls Tryz.prog 34 #[v1, v2] w fun e w' => e = .returned (.bool (decide (l1 = l2))) ∧ ∃ q, w' = w.drewN q := by
  obtain ⟨a1, cap1, rfl⟩ := h1.len
  obtain ⟨a2, cap2, rfl⟩ := h2.len
  have H1 := Lib.hid h1
  have H2 := Lib.hid h2
  obtain ⟨R, hR⟩ : ∃ R, decide (l1 = l2) = R := ⟨_, rfl⟩
  rw [hR]
  obtain ⟨n1, hn1⟩ : ∃ n, l1.length = n := ⟨_, rfl⟩
  obtain ⟨n2, hn2⟩ : ∃ n, l2.length = n := ⟨_, rfl⟩
  have HN1 := Lib.hid hn1
  have HN2 := Lib.hid hn2
  rw [hn1] at hl1 ⊢
  rw [hn2] at hl2 ⊢
  have HRR := Lib.hid hR
  clear h1 h2 hR hn1 hn2
  by_cases hne : n1 = n2
  · subst hne
    go_enter Tryz.func34, Tryz.ntmps34
    go_wp2
    go_loopw [5] (fun iv wr => ∃ i : Nat, i ≤ n1 ∧ iv = .int .i64 i ∧ decide (l1.drop i = l2.drop i) = R ∧ ∃ q, wr = w.drewN q) (fun iv _ => n1 - (intOf iv).toNat)
    case atStart => exact ⟨0, by omega, rfl, HRR.out, 0, rfl⟩
    case round =>
      obtain ⟨i, hi, rfl, hgo, q, hq⟩ := hrel
      have HGO := Lib.hid hgo
      have HQ := Lib.hid hq
      clear hgo hq
      by_cases hin : i < n1
      · have hiz : (i : Int) < (n1 : Int) := by omega
        obtain ⟨x, hx⟩ : ∃ x, l1[i]? = some x := ⟨_, List.getElem?_eq_getElem (by rw [HN1.out]; omega)⟩
        obtain ⟨y, hy⟩ : ∃ y, l2[i]? = some y := ⟨_, List.getElem?_eq_getElem (by rw [HN2.out]; omega)⟩
        have hb : Below w.heap.size w wr := by rw [HQ.out]; exact below_drewN1 (Below.refl _ _) q
        obtain ⟨g1, o1, rfl, hg1, r1⟩ := (LstIs.kept H1.out hb).at hx
        obtain ⟨g2, o2, rfl, hg2, r2⟩ := (LstIs.kept H2.out hb).at hy
        obtain ⟨d0, d1, d2, d3, d4⟩ := ent_at r1
        obtain ⟨e0, e1, e2, e3, e4⟩ := ent_at r2
        have HD := Lib.hid (drop_same hx hy)
        have hcmp := ent_neq x y
        have hgd := fun op a b => ent_guard op a b x y
        clear hx hy r1 r2 hg1 hg2 hb
        obtain ⟨xn, xa, xb, xc, xd⟩ := x
        obtain ⟨yn, ya, yb, yc, yd⟩ := y
        simp only at d0 d1 d2 d3 d4 e0 e1 e2 e3 e4
        unfold entV at hcmp hgd
        by_cases hxy : (⟨xn, xa, xb, xc, xd⟩ : Ent) = ⟨yn, ya, yb, yc, yd⟩
        · rw [decide_eq_true hxy] at hcmp
          have HG : Hid (decide (l1.drop (i + 1) = l2.drop (i + 1)) = R) := Lib.hid (by rw [← HGO.out, HD.out, decide_eq_true hxy, Bool.true_and])
          clear hxy HD
          go_wp2
          go_quiet (fail)
          go_wp2
          go_roundw
          case rel => exact ⟨i + 1, by omega, by first | rfl | go_num, HG.out, _, by rw [HQ.out, World.drewN_drewN]⟩
          case measure => simp [intOf]; omega
        · rw [decide_eq_false hxy] at hcmp
          have HG : Hid (R = false) := Lib.hid (by rw [← HGO.out, HD.out, decide_eq_false hxy, Bool.false_and])
          clear hxy HD
          go_wp2
          go_quiet (fail)
          go_wp2
          go_ret
          exact ⟨by rw [HG.out]; rfl, _, by rw [HQ.out, World.drewN_drewN]⟩
      · have hge : ¬ ((i : Int) < (n1 : Int)) := by omega
        have HG : Hid (R = true) := Lib.hid (by
          rw [← HGO.out, List.drop_of_length_le (by rw [HN1.out]; omega), List.drop_of_length_le (by rw [HN2.out]; omega)]
          rfl)
        go_wp2
        go_ret
        exact ⟨by rw [HG.out]; rfl, q, HQ.out⟩
  · have hz : ((n1 : Int) == (n2 : Int)) = false := by rw [beq_eq_false_iff_ne]; omega
    have HG : Hid (R = false) := Lib.hid (by
      rw [← HRR.out]
      exact decide_eq_false (fun e => hne (by rw [← HN1.out, ← HN2.out, e])))
    go_enter Tryz.func34, Tryz.ntmps34
    go_wp2
    go_ret
    exact ⟨by rw [HG.out]; rfl, 0, rfl⟩
end Go.Proofs.YtddobjhahohhhaaGreat

namespace Go.Proofs.YtddobjhahohhhaaGreat
open Go.RowKit Go.Sort
set_option linter.unusedVariables false

abbrev OpTs := @LstIs OpT opC 7
theorem op_at {w : World} {g p : Nat} {x : OpT} (h : w.rangeAt g p (opC x)) : w.cell? ⟨g, p, none⟩ = some (.int .u8 x.k) ∧ w.cell? ⟨g, p + 1, none⟩ = some (.int .i64 x.d) ∧ w.cell? ⟨g, p + 2, none⟩ = some (.int .i64 x.dt) ∧ w.cell? ⟨g, p + 3, none⟩ = some (.string x.s) ∧ w.cell? ⟨g, p + 4, none⟩ = some (.string x.ns) ∧ w.cell? ⟨g, p + 5, none⟩ = some (.bool x.isD) ∧ w.cell? ⟨g, p + 6, none⟩ = some (.int .i64 x.sh) :=
  ⟨h 0 _ rfl, h 1 _ rfl, h 2 _ rfl, h 3 _ rfl, h 4 _ rfl, h 5 _ rfl, h 6 _ rfl⟩
def shortOp (x : OpT) : Bool := decide (x.s.size ≤ 400) && decide (x.ns.size ≤ 400)
def fewI (l : List OpT) (n : Nat) : Bool := (l.take 500).all shortOp && decide (l.length ≤ n)
theorem fewI_spec {l : List OpT} {n : Nat} (h : fewI l n = true) (hn : n ≤ 500) : l.length ≤ n ∧ ∀ x ∈ l, x.s.size ≤ 400 ∧ x.ns.size ≤ 400 := by
  unfold fewI at h
  rw [Bool.and_eq_true, decide_eq_true_eq] at h
  refine ⟨h.2, fun x hx => ?_⟩
  rw [List.take_of_length_le (by omega)] at h
  have := List.all_eq_true.1 h.1 x hx
  unfold shortOp at this
  simpa using this
theorem take500 {l : List OpT} {i : Nat} {x : OpT} (hx : l[i]? = some x) (hi : i < 500) : (l.drop i).take (500 - i) = x :: (l.drop (i + 1)).take (500 - (i + 1)) := by
  rw [drop_eq_cons hx, show 500 - i = (500 - (i + 1)) + 1 by omega, List.take_succ_cons]
set_option maxHeartbeats 4000000 in
theorem few10_c (v : Value) (l : List OpT) (n : Nat) (w : World) (hv : OpTs w v l) (hl : l.length ≤ 9223372036854775807) (hn : n ≤ 1000) (hs : ∀ x ∈ l, x.s.size ≤ 9223372036854775807 ∧ x.ns.size ≤ 9223372036854775807) :
    Calls Tryz.prog 6 #[v, .int .i64 (n : Int)] w fun e w' => e = .returned (.bool (fewI l n)) ∧ w' = w := by
  obtain ⟨a, cap, rfl⟩ := hv.len
  obtain ⟨R, hR⟩ : ∃ R, fewI l n = R := ⟨_, rfl⟩
  rw [hR]
  have HRR := Lib.hid hR
  have HV := Lib.hid hv
  obtain ⟨m, hm⟩ : ∃ m, l.length = m := ⟨_, rfl⟩
  have HM := Lib.hid hm
  rw [hm] at hl ⊢
  have HS := Lib.hid hs
  clear hv hm hR hs
  go_enter Tryz.func6, Tryz.ntmps6
  go_wp2
  go_loop [5] (fun iv => ∃ i : Nat, i ≤ m ∧ i ≤ 500 ∧ iv = .int .i64 i ∧ (((l.drop i).take (500 - i)).all shortOp && decide (l.length ≤ n)) = R) (fun iv => 501 - (intOf iv).toNat)
  case atStart => exact ⟨0, by omega, by omega, rfl, HRR.out⟩
  case round =>
    obtain ⟨i, hi, hi5, rfl, hgo⟩ := hrel
    have HGO := Lib.hid hgo
    clear hgo
    by_cases him : i < m ∧ i < 500
    · obtain ⟨h1, h2⟩ := him
      have h1z : (i : Int) < (m : Int) := by omega
      have h2z : (i : Int) < 500 := by omega
      obtain ⟨x, hx⟩ : ∃ x, l[i]? = some x := ⟨_, List.getElem?_eq_getElem (by rw [HM.out]; omega)⟩
      obtain ⟨g, off, rfl, hg, hr⟩ := HV.out.at hx
      obtain ⟨d0, d1, d2, d3, d4, d5, d6⟩ := op_at hr
      have hsx := HS.out x (List.mem_of_getElem? hx)
      have HG : Hid ((shortOp x && (((l.drop (i + 1)).take (500 - (i + 1))).all shortOp && decide (l.length ≤ n))) = R) := Lib.hid (by rw [← HGO.out, take500 hx h2, List.all_cons, Bool.and_assoc])
      obtain ⟨hs1, hs2⟩ := hsx
      clear hx hr hg
      obtain ⟨k, d, dt, s, ns, isD, sh⟩ := x
      simp only at d0 d1 d2 d3 d4 d5 d6 hs1 hs2
      by_cases hb : 400 < s.size ∨ 400 < ns.size
      · have HF : Hid (R = false) := Lib.hid (by
          rw [← HG.out, Bool.and_eq_false_iff]
          left
          unfold shortOp
          simp only [Bool.and_eq_false_iff, decide_eq_false_iff_not]
          omega)
        by_cases hb1 : 400 < s.size
        · have e1 : (400 : Int) < (s.size : Int) := by omega
          have e2 := decide_eq_true e1
          clear hb
          go_wp2
          go_ret
          exact ⟨by rw [HF.out]; rfl, rfl⟩
        · have e1 : ¬ (400 : Int) < (s.size : Int) := by omega
          have e2 := decide_eq_false e1
          have e3 : (400 : Int) < (ns.size : Int) := by omega
          have e4 := decide_eq_true e3
          clear hb
          go_wp2
          go_ret
          exact ⟨by rw [HF.out]; rfl, rfl⟩
      · have HF : Hid ((((l.drop (i + 1)).take (500 - (i + 1))).all shortOp && decide (l.length ≤ n)) = R) := Lib.hid (by
          have h9 := HG.out
          rw [show shortOp ⟨k, d, dt, s, ns, isD, sh⟩ = true by unfold shortOp; simp; omega, Bool.true_and] at h9
          exact h9)
        have e1 : ¬ (400 : Int) < (s.size : Int) := by omega
        have e2 := decide_eq_false e1
        have e3 : ¬ (400 : Int) < (ns.size : Int) := by omega
        have e4 := decide_eq_false e3
        clear hb
        go_wp2
        go_round
        case rel => exact ⟨i + 1, by omega, by omega, by first | rfl | go_num, HF.out⟩
        case measure => simp [intOf]; omega
    · have HF : Hid (R = decide (m ≤ n)) := Lib.hid (by
        rw [← HGO.out]
        have : (l.drop i).take (500 - i) = [] := by
          by_cases h5 : i = 500
          · subst h5; rfl
          · rw [List.drop_of_length_le (by rw [HM.out]; omega), List.take_nil]
        rw [this, HM.out]
        rfl)
      have hlast : decide ((m : Int) ≤ (n : Int)) = decide (m ≤ n) := by
        congr 1
        exact propext (by omega)
      by_cases hmi : i < m
      · have h1z : (i : Int) < (m : Int) := by omega
        have h2z : ¬ (i : Int) < 500 := by omega
        have e1 := decide_eq_true h1z
        have e2 := decide_eq_false h2z
        clear him
        go_wp2
        go_ret
        exact ⟨by rw [HF.out, ← hlast]; simp, rfl⟩
      · have h1z : ¬ (i : Int) < (m : Int) := by omega
        have e1 := decide_eq_false h1z
        clear him
        go_wp2
        go_ret
        exact ⟨by rw [HF.out, ← hlast]; simp, rfl⟩
/-! Lists of numbers. -/
def numC (x : Int) : List Value := [.int .i64 x]
abbrev NumsL := @LstIs Int numC 1
theorem numC_len (l : List Int) : ∀ x ∈ l, (numC x).length = 1 := fun _ _ => rfl
theorem numC_one (l : List Int) : ∀ x ∈ l, ∀ u ∈ numC x, u.oneCell' = true := fun x _ u hu => by
  obtain rfl := List.mem_singleton.1 hu
  rfl
theorem intElem : ElemOf Tryz.prog 60 3 1 :=
  ⟨Tryz.underlying60, by
    have h : (Tryz.prog.info? 3).map (fun i => (i.zero, i.size, i.bytes)) = some (some (.int .i64 0), 1, 8) := by kernel_rfl
    obtain ⟨i0, h1, h2, h3, h4⟩ := info_parts h
    exact ⟨i0, _, 8, h1, h2, h3, h4, rfl, by decide⟩, by decide⟩
theorem num_at {w : World} {g p : Nat} {x : Int} (h : w.rangeAt g p (numC x)) : w.cell? ⟨g, p, none⟩ = some (.int .i64 x) := h 0 _ rfl
/-- All directories below n. -/
def dirsTo (l : List Itm) (n : Nat) : List Int := ((List.range n).map Int.ofNat).filter fun x => decide (kindI l x = 2)
def dirsI (l : List Itm) : List Int := dirsTo l 201
theorem dirsTo_succ (l : List Itm) (n : Nat) : dirsTo l (n + 1) = dirsTo l n ++ (if kindI l (n : Int) = 2 then [(n : Int)] else []) := by
  unfold dirsTo
  rw [List.range_succ, List.map_append, List.filter_append]
  congr 1
  by_cases h : kindI l (n : Int) = 2 <;> simp [h]
theorem dirsTo_le (l : List Itm) (n : Nat) : (dirsTo l n).length ≤ n := by
  unfold dirsTo
  exact Nat.le_trans (List.length_filter_le _ _) (by simp)
def DirsPost (r : List Int) (w0 : World) (e : Ending) (w' : World) : Prop := ∃ v', e = .returned v' ∧ NumsL w' v' r ∧ Below w0.heap.size w0 w'
set_option maxHeartbeats 4000000 in
theorem dirs10_c (v : Value) (l : List Itm) (nx : Int) (w : World) (hv : ItmsT w v l) (hl : l.length ≤ 999) :
    Calls Tryz.prog 30 #[treeV v nx] w (DirsPost (dirsI l) w) := by
  unfold DirsPost
  obtain ⟨a, cap, rfl⟩ := hv.1.len
  have cK := fun (n : Nat) W (h : ItmsT W (.slice a l.length cap) l) => kind10_c (.slice a l.length cap) l nx n W h.1 (by omega)
  obtain ⟨m, hm⟩ : ∃ m, l.length = m := ⟨_, rfl⟩
  simp only [hm] at cK
  rw [hm] at hv ⊢
  have hb0 : Below w.heap.size w (w.alloc (.cells #[.slice a m cap, .int .i64 nx] 28)) := (Below.refl _ w).alloc (Nat.le_refl _) _
  have HT : Hid (TreeAt (w.alloc (.cells #[.slice a m cap, .int .i64 nx] 28)) w.heap.size (.slice a m cap) nx) := Lib.hid (heap_alloc_new _ _)
  have HI := Lib.hid (hv.kept hb0)
  have HB := Lib.hid hb0
  have HZ : Hid ((w.alloc (.cells #[.slice a m cap, .int .i64 nx] 28)).heap.size = w.heap.size + 1) := Lib.hid (by simp)
  unfold treeV at cK ⊢
  clear hv hm hb0
  go_enter Tryz.func30, Tryz.ntmps30
  go_upto_region 1 with fail
  generalize w.alloc (.cells #[.slice a m cap, .int .i64 nx] 28) = W0 at *
  generalize hbT : w.heap.size = bT at *
  have HBT := Lib.hid hbT
  clear hbT
  go_wp2
  go_loopw [3, 4] (fun ov iv wr => ∃ n : Nat, n ≤ 201 ∧ iv = .int .i64 n ∧ wr.ownsRow W0.heap.size 3 1 ov (dirsTo l n).length ((dirsTo l n).flatMap numC) ∧ Below W0.heap.size W0 wr) (fun _ iv _ => 201 - (intOf iv).toNat)
  case atStart => exact ⟨0, by omega, rfl, World.ownsRow_nil _ _ _ _, Below.refl _ _⟩
  case round =>
    obtain ⟨n, hn, rfl, hrow, hb⟩ := hrel
    have HW := Lib.hid hrow
    have HBW := Lib.hid hb
    have HTr := Lib.hid (HT.out.below hb)
    obtain ⟨t0, t1⟩ := HTr.out.l
    have cK1 := cK n wr (HI.out.kept hb)
    have hdl := dirsTo_le l n
    have HSC := Lib.hid (dirsTo_succ l n)
    have hsz := hb.size
    clear hrow hb
    by_cases hn2 : n ≤ 200
    · have hnz : (n : Int) ≤ 200 := by omega
      by_cases hk : kindI l (n : Int) = 2
      · rw [hk] at cK1
        have HS2 : Hid (dirsTo l (n + 1) = dirsTo l n ++ [(n : Int)]) := Lib.hid (by rw [HSC.out, if_pos hk])
        clear hk HSC
        go_upto_region 6 with (go_at_call 56; refine cK1.mono ?_; rintro e w5 ⟨rfl, hb5⟩; have HB5 := Lib.hid (HBW.out.trans (hb5.mono hsz)); have HW5 : Hid (World.ownsRow w5 W0.heap.size 3 1 u3 (dirsTo l n).length ((dirsTo l n).flatMap numC)) := Lib.hid (HW.out.kept (row := none) ⟨hb5.os, hb5.tape, hb5.output, hb5.size, fun k hk _ => hb5.block k hk⟩ (by cases h : u3.ownBlock with | none => exact Or.inl rfl | some x => exact Or.inr (by simp))); have hs5 : W0.heap.size ≤ w5.heap.size := HB5.out.size; clear hb5)
        have HOA : Hid (World.ownsRow (w5.alloc (.cells #[.int .i64 (n : Int)] 3)) W0.heap.size 3 1 u3 (dirsTo l n).length ((dirsTo l n).flatMap numC)) := Lib.hid (HW5.out.alloc _)
        have HIA : Hid (NumsL (w5.alloc (.cells #[.int .i64 (n : Int)] 3)) (.slice (some ⟨w5.heap.size, 0, none⟩) 1 1) [(n : Int)]) := Lib.hid (LstIs.block (numC_len _) (heap_alloc_new _ _))
        have hsa : W0.heap.size ≤ (w5.alloc (.cells #[.int .i64 (n : Int)] 3)).heap.size := by show _ ≤ (w5.heap.push _).size; simp; omega
        have HSA := Lib.hid hsa
        have HBA : Hid (Below W0.heap.size W0 (w5.alloc (.cells #[.int .i64 (n : Int)] 3))) := Lib.hid (HB5.out.alloc hs5 _)
        have hlen : (dirsTo l n).length + [(n : Int)].length ≤ 100000 := by simp; omega
        clear hsa
        go_wp2_with (at_builtin; refine wpList_append_lst intElem rfl _ _ rfl W0.heap.size _ _ _ rfl HOA.out _ [(n : Int)] (numC_len _) (numC_one _) rfl HIA.out hlen HSA.out ?_; intro v8 w8 ho8 hg8 hr8; have HB8 := Lib.hid (HBA.out.grown hg8 HSA.out (fun j hj => (HOA.out.lt j hj).1)); have HO8 := Lib.hid ho8; clear ho8 hg8 hr8)
        go_roundw
        case rel => exact ⟨n + 1, by omega, by first | rfl | go_num, by rw [HS2.out, List.length_append, List.flatMap_append]; exact HO8.out, HB8.out⟩
        case measure => simp [intOf]; omega
      · have hkz : (kindI l (n : Int) == 2) = false := by rw [beq_eq_false_iff_ne]; exact hk
        have HS2 : Hid (dirsTo l (n + 1) = dirsTo l n) := Lib.hid (by rw [HSC.out, if_neg hk, List.append_nil])
        clear hk HSC
        go_wp2_with (go_at_call 56; refine cK1.mono ?_; rintro e w5 ⟨rfl, hb5⟩; have HB5 := Lib.hid (HBW.out.trans (hb5.mono hsz)); have HW5 : Hid (World.ownsRow w5 W0.heap.size 3 1 u3 (dirsTo l n).length ((dirsTo l n).flatMap numC)) := Lib.hid (HW.out.kept (row := none) ⟨hb5.os, hb5.tape, hb5.output, hb5.size, fun k hk _ => hb5.block k hk⟩ (by cases h : u3.ownBlock with | none => exact Or.inl rfl | some x => exact Or.inr (by simp))); clear hb5)
        go_roundw
        case rel => exact ⟨n + 1, by omega, by first | rfl | go_num, by rw [HS2.out]; exact HW5.out, HB5.out⟩
        case measure => simp [intOf]; omega
    · have hnz : ¬ (n : Int) ≤ 200 := by omega
      obtain rfl : n = 201 := by omega
      have HE : Hid (NumsL wr u3 (dirsI l)) := Lib.hid (LstIs.own (numC_len _) HW.out rfl)
      have HBE : Hid (Below bT w wr) := Lib.hid (HB.out.trans (HBW.out.mono (by have := HZ.out; omega)))
      clear cK1
      go_wp2
      go_ret
      exact ⟨_, rfl, HE.out, by rw [HBT.out]; exact HBE.out⟩
end Go.Proofs.YtddobjhahohhhaaGreat
