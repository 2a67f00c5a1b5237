/- Kit. -/
import Derived.Test.YtfioknaadbgjlaaGreatDoorEQ3
import Derived.Laws.StructEq
set_option maxRecDepth 100000
set_option linter.unusedVariables false
set_option linter.unusedSimpArgs false
namespace Go.Proofs.YtfioknaadbgjlaaGreatDoor
open Go.RowKit Go.Sort
theorem new10_c (w : World) : Calls Tryz.prog 17 #[] w fun e w' => e = .returned (treeV (.slice none 0 0) 1) ∧ Below w.heap.size w w' := by
  unfold treeV
  go_enter Tryz.func17, Tryz.ntmps17
  have HB : Hid (Below w.heap.size w (w.alloc (.cells #[.slice none 0 0, .int .i64 1] 28))) := Lib.hid ((Below.refl _ w).alloc (Nat.le_refl _) _)
  go_wp2
  refine bodyPost_ret (results_cell_row Tryz.results17 _ _ _ _ _ _ _ rfl (heap_alloc_new _ _) Tryz.underlying28 rfl treeElem_zero) rfl ⟨rfl, HB.out⟩
/-- A call. -/
structure OpT where
  k : Int
  d : Int
  dt : Int
  s : ByteArray
  ns : ByteArray
  isD : Bool
  sh : Int
deriving Inhabited
def opC (o : OpT) : List Value := [.int .u8 o.k, .int .i64 o.d, .int .i64 o.dt, .string o.s, .string o.ns, .bool o.isD, .int .i64 o.sh]
def opV (o : OpT) : Value := .agg #[.int .u8 o.k, .int .i64 o.d, .int .i64 o.dt, .string o.s, .string o.ns, .bool o.isD, .int .i64 o.sh]
/-- What is behind a call: the tree, the node, the error. -/
def doI (l : List Itm) (nx : Int) (o : OpT) : (List Itm × Int) × Int × Int :=
  if o.k % 3 = 0 then linkI l nx o.d o.s o.isD o.sh
  else if o.k % 3 = 1 then ((unlinkI l nx o.d o.s o.isD).1, 0, (unlinkI l nx o.d o.s o.isD).2)
  else ((moveI l nx o.d o.s o.dt o.ns o.sh).1, 0, (moveI l nx o.d o.s o.dt o.ns o.sh).2)
theorem put_tree {W : World} {q : Nat} (hq : W.heap[q]? = some (.cells #[.slice none 0 0, .int .i64 0] 28 (0, 0))) {v8 : Value} {nx8 : Int} {l8 : List Itm} (h8 : ItmsT W v8 l8) :
    ((W.setCell ⟨q, 0, none⟩ v8).setCell ⟨q, 1, none⟩ (.int .i64 nx8)).heap[q]? = some (.cells #[v8, .int .i64 nx8] 28 (0, 0)) ∧ ItmsT ((W.setCell ⟨q, 0, none⟩ v8).setCell ⟨q, 1, none⟩ (.int .i64 nx8)) v8 l8 := by
  have hb : v8.ownBlock ≠ some q := fun e => by
    obtain ⟨cs, hc⟩ := h8.2 _ e
    exact block_ne hc hq (by decide) rfl
  refine ⟨?_, (h8.set hb 0 _).set hb 1 _⟩
  rw [heap_setCell_same _ q 1 _ _ _ (heap_setCell_same _ q 0 _ _ _ hq)]
  rfl
theorem below_two {B q : Nat} {W0 W : World} {x y : Value} (h : Below B W0 W) (hq : B ≤ q) : Below B W0 ((W.setCell ⟨q, 0, none⟩ x).setCell ⟨q, 1, none⟩ y) := (h.setCell (p := ⟨q, 0, none⟩) hq _).setCell (p := ⟨q, 1, none⟩) hq _
set_option maxHeartbeats 8000000 in
set_option maxRecDepth 100000 in
theorem do10_c (v : Value) (l : List Itm) (nx : Int) (o : OpT) (w : World) (hv : ItmsT w v l) (hl : l.length ≤ 999) (hs : o.s.size ≤ 9223372036854775807) (hns : o.ns.size ≤ 9223372036854775807) (hk0 : 0 ≤ o.k) (hk1 : o.k ≤ 255) (hnx : nx + 1 ≤ 9223372036854775807) (hnx0 : 0 ≤ nx) :
    Calls Tryz.prog 19 #[treeV v nx, opV o] w (LinkPost (doI l nx o) w) := by
  unfold LinkPost
  obtain ⟨k, d, dt, s, ns, isD, sh⟩ := o
  simp only at hs hns hk0 hk1
  obtain ⟨R, hR⟩ : ∃ R, doI l nx ⟨k, d, dt, s, ns, isD, sh⟩ = R := ⟨_, rfl⟩
  rw [hR]
  unfold doI at hR
  simp only at hR
  have HRR := Lib.hid hR
  obtain ⟨a, cap, rfl⟩ := hv.1.len
  have cL := fun W (h : ItmsT W (.slice a l.length cap) l) => link10_c (.slice a l.length cap) l nx d s isD sh W h hl hs hnx hnx0
  have cU := fun W (h : ItmsT W (.slice a l.length cap) l) => unlink10_c (.slice a l.length cap) l nx d s isD W h hl
  have cM := fun W (h : ItmsT W (.slice a l.length cap) l) => move10_c (.slice a l.length cap) l nx d s dt ns sh W h hl hns hnx hnx0
  obtain ⟨m, hm⟩ : ∃ m, l.length = m := ⟨_, rfl⟩
  simp only [hm] at cL cU cM
  rw [hm] at hv hl ⊢
  have s1 : (w.alloc (.cells #[.slice a m cap, .int .i64 nx] 28)).heap.size = w.heap.size + 1 := by simp
  have s2 : ((w.alloc (.cells #[.slice a m cap, .int .i64 nx] 28)).alloc (.cells #[.int .u8 k, .int .i64 d, .int .i64 dt, .string s, .string ns, .bool isD, .int .i64 sh] 52)).heap.size = w.heap.size + 1 + 1 := by simp
  have hb0 : Below w.heap.size w (((w.alloc (.cells #[.slice a m cap, .int .i64 nx] 28)).alloc (.cells #[.int .u8 k, .int .i64 d, .int .i64 dt, .string s, .string ns, .bool isD, .int .i64 sh] 52)).alloc (.cells #[.slice none 0 0, .int .i64 0] 28)) := (((Below.refl _ w).alloc (Nat.le_refl _) _).alloc (by rw [s1]; omega) _).alloc (by rw [s2]; omega) _
  have HT : Hid (TreeAt (((w.alloc (.cells #[.slice a m cap, .int .i64 nx] 28)).alloc (.cells #[.int .u8 k, .int .i64 d, .int .i64 dt, .string s, .string ns, .bool isD, .int .i64 sh] 52)).alloc (.cells #[.slice none 0 0, .int .i64 0] 28)) w.heap.size (.slice a m cap) nx) := Lib.hid (by
    unfold TreeAt
    rw [Below.heap_alloc _ _ _ (by rw [s2]; omega), Below.heap_alloc _ _ _ (by rw [s1]; omega)]
    exact heap_alloc_new _ _)
  have HO : Hid (((((w.alloc (.cells #[.slice a m cap, .int .i64 nx] 28)).alloc (.cells #[.int .u8 k, .int .i64 d, .int .i64 dt, .string s, .string ns, .bool isD, .int .i64 sh] 52)).alloc (.cells #[.slice none 0 0, .int .i64 0] 28))).heap[w.heap.size + 1]? = some (.cells #[.int .u8 k, .int .i64 d, .int .i64 dt, .string s, .string ns, .bool isD, .int .i64 sh] 52 (0, 0))) := Lib.hid (by
    rw [Below.heap_alloc _ _ _ (by rw [s2]; omega), ← s1]
    exact heap_alloc_new _ _)
  have HQ : Hid (((((w.alloc (.cells #[.slice a m cap, .int .i64 nx] 28)).alloc (.cells #[.int .u8 k, .int .i64 d, .int .i64 dt, .string s, .string ns, .bool isD, .int .i64 sh] 52)).alloc (.cells #[.slice none 0 0, .int .i64 0] 28))).heap[w.heap.size + 1 + 1]? = some (.cells #[.slice none 0 0, .int .i64 0] 28 (0, 0))) := Lib.hid (by
    rw [← s2]
    exact heap_alloc_new _ _)
  have HB := Lib.hid hb0
  have HI0 := Lib.hid (hv.kept hb0)
  unfold treeV at cL cU cM ⊢
  unfold opV
  clear hv hm hR hb0
  go_enter Tryz.func19, Tryz.ntmps19
  go_upto_region 1 with fail
  generalize (((w.alloc (.cells #[.slice a m cap, .int .i64 nx] 28)).alloc (.cells #[.int .u8 k, .int .i64 d, .int .i64 dt, .string s, .string ns, .bool isD, .int .i64 sh] 52)).alloc (.cells #[.slice none 0 0, .int .i64 0] 28)) = W0 at *
  clear s1 s2
  generalize hbT : w.heap.size = bT at *
  have HBT := Lib.hid hbT
  clear hbT
  obtain ⟨t0, t1⟩ := HT.out.l
  have p0 : W0.cell? ⟨bT + 1, 0, none⟩ = some (.int .u8 k) := Lib.cell_of_heap HO.out 0
  have p1 : W0.cell? ⟨bT + 1, 1, none⟩ = some (.int .i64 d) := Lib.cell_of_heap HO.out 1
  have p2 : W0.cell? ⟨bT + 1, 2, none⟩ = some (.int .i64 dt) := Lib.cell_of_heap HO.out 2
  have p3 : W0.cell? ⟨bT + 1, 3, none⟩ = some (.string s) := Lib.cell_of_heap HO.out 3
  have p4 : W0.cell? ⟨bT + 1, 4, none⟩ = some (.string ns) := Lib.cell_of_heap HO.out 4
  have p5 : W0.cell? ⟨bT + 1, 5, none⟩ = some (.bool isD) := Lib.cell_of_heap HO.out 5
  have p6 : W0.cell? ⟨bT + 1, 6, none⟩ = some (.int .i64 sh) := Lib.cell_of_heap HO.out 6
  have hsw : W0.heap.size ≥ bT + 1 + 1 + 1 := lt_of_get HQ.out
  have hkm : k.tmod 3 = k % 3 := Int.tmod_eq_emod_of_nonneg hk0
  have hkc : k % 3 = 0 ∨ k % 3 = 1 ∨ k % 3 = 2 := by omega
  have HQB : Hid (∀ W : World, Below W0.heap.size W0 W → (W.heap[bT + 1 + 1]? = some (.cells #[.slice none 0 0, .int .i64 0] 28 (0, 0)) ∧ Below bT w W)) := Lib.hid (fun W hW => ⟨by rw [hW.block _ (by omega)]; exact HQ.out, HB.out.trans (hW.mono (by omega))⟩)
  rcases hkc with hkc | hkc | hkc
  · have HR9 : Hid (R = linkI l nx d s isD sh) := Lib.hid (by rw [← HRR.out, if_pos hkc])
    have cL0 := cL W0 HI0.out
    unfold LinkPost treeV at cL0
    rw [← HR9.out] at cL0
    rw [hkc] at hkm
    clear cL cU cM hkc
    go_wp2_with (go_at_call 41; refine cL0.mono ?_; rintro e w1 ⟨v1, rfl, hi1, hb1⟩; obtain ⟨hq1, hbw1⟩ := HQB.out _ hb1; obtain ⟨a1, c1, hv1⟩ := hi1.1.len; obtain ⟨hz, hi⟩ := put_tree hq1 hi1 (nx8 := R.1.2); have HZ := Lib.hid hz; have HI := Lib.hid hi; have HBE := Lib.hid (below_two (x := v1) (y := .int .i64 R.1.2) hbw1 (show bT ≤ bT + 1 + 1 by omega)); obtain ⟨⟨z0, z1⟩, ⟨y0, y1⟩⟩ := two_cells hq1; generalize R.1.1.length = L1 at hv1; subst hv1; clear hz hi hi1 hb1 hq1 hbw1)
    refine bodyPost_ret (v := .tuple #[treeV (.slice a1 L1 c1) R.1.2, .int .i64 R.2.1, .int .i64 R.2.2]) ?_ rfl ?_
    · rw [results_cell_two rfl]
      go_simp
      rfl
    · refine ⟨_, rfl, HI.out, ?_⟩
      rw [HBT.out]
      exact HBE.out
  · have HR9 : Hid (R = ((unlinkI l nx d s isD).1, 0, (unlinkI l nx d s isD).2)) := Lib.hid (by rw [← HRR.out, if_neg (show ¬ k % 3 = 0 by omega), if_pos hkc])
    have cL0 := cU W0 HI0.out
    unfold UnPost treeV at cL0
    generalize unlinkI l nx d s isD = U at *
    rw [hkc] at hkm
    clear cL cU cM hkc
    go_wp2_with (go_at_call 42; refine cL0.mono ?_; rintro e w1 ⟨v1, rfl, hi1, hb1⟩; have hi2 := hi1.kept ((Below.refl _ w1).alloc (Nat.le_refl _) (.cells #[v1, .int .i64 U.1.2] 28)); have hb2 := hb1.trans (((Below.refl w1.heap.size w1).alloc (Nat.le_refl _) (.cells #[v1, .int .i64 U.1.2] 28)).mono hb1.size); obtain ⟨hq1, hbw1⟩ := HQB.out _ hb2; obtain ⟨a1, c1, hv1⟩ := hi1.1.len; obtain ⟨hz, hi⟩ := put_tree hq1 hi2 (nx8 := U.1.2); have HZ := Lib.hid hz; have HI := Lib.hid hi; have HBE := Lib.hid (below_two (x := v1) (y := .int .i64 U.1.2) hbw1 (show bT ≤ bT + 1 + 1 by omega)); obtain ⟨⟨z0, z1⟩, ⟨y0, y1⟩⟩ := two_cells hq1; generalize U.1.1.length = L1 at hv1; subst hv1; clear hz hi hi1 hi2 hb1 hb2 hq1 hbw1)
    refine bodyPost_ret (v := .tuple #[treeV (.slice a1 L1 c1) U.1.2, .int .i64 0, .int .i64 U.2]) ?_ rfl ?_
    · rw [results_cell_two rfl]
      go_simp
      rfl
    · rw [HR9.out]
      refine ⟨_, rfl, HI.out, ?_⟩
      rw [HBT.out]
      exact HBE.out
  · have HR9 : Hid (R = ((moveI l nx d s dt ns sh).1, 0, (moveI l nx d s dt ns sh).2)) := Lib.hid (by rw [← HRR.out, if_neg (show ¬ k % 3 = 0 by omega), if_neg (show ¬ k % 3 = 1 by omega)])
    have cL0 := cM W0 HI0.out
    unfold UnPost treeV at cL0
    generalize moveI l nx d s dt ns sh = U at *
    rw [hkc] at hkm
    clear cL cU cM hkc
    go_wp2_with (go_at_call 43; refine cL0.mono ?_; rintro e w1 ⟨v1, rfl, hi1, hb1⟩; have hi2 := hi1.kept ((Below.refl _ w1).alloc (Nat.le_refl _) (.cells #[v1, .int .i64 U.1.2] 28)); have hb2 := hb1.trans (((Below.refl w1.heap.size w1).alloc (Nat.le_refl _) (.cells #[v1, .int .i64 U.1.2] 28)).mono hb1.size); obtain ⟨hq1, hbw1⟩ := HQB.out _ hb2; obtain ⟨a1, c1, hv1⟩ := hi1.1.len; obtain ⟨hz, hi⟩ := put_tree hq1 hi2 (nx8 := U.1.2); have HZ := Lib.hid hz; have HI := Lib.hid hi; have HBE := Lib.hid (below_two (x := v1) (y := .int .i64 U.1.2) hbw1 (show bT ≤ bT + 1 + 1 by omega)); obtain ⟨⟨z0, z1⟩, ⟨y0, y1⟩⟩ := two_cells hq1; generalize U.1.1.length = L1 at hv1; subst hv1; clear hz hi hi1 hi2 hb1 hb2 hq1 hbw1)
    refine bodyPost_ret (v := .tuple #[treeV (.slice a1 L1 c1) U.1.2, .int .i64 0, .int .i64 U.2]) ?_ rfl ?_
    · rw [results_cell_two rfl]
      go_simp
      rfl
    · rw [HR9.out]
      refine ⟨_, rfl, HI.out, ?_⟩
      rw [HBT.out]
      exact HBE.out
end Go.Proofs.YtfioknaadbgjlaaGreatDoor
namespace Go.Proofs.YtfioknaadbgjlaaGreatDoor
open Go.RowKit Go.Sort
end Go.Proofs.YtfioknaadbgjlaaGreatDoor
namespace Go.Proofs.YtfioknaadbgjlaaGreatDoor
open Go.RowKit Go.Sort
abbrev OpTs := @LstIs OpT opC 7
theorem op_at {w : World} {g p : Nat} {x : OpT} (h : w.rangeAt g p (opC x)) : w.cell? ⟨g, p, none⟩ = some (.int .u8 x.k) ∧ w.cell? ⟨g, p + 1, none⟩ = some (.int .i64 x.d) ∧ w.cell? ⟨g, p + 2, none⟩ = some (.int .i64 x.dt) ∧ w.cell? ⟨g, p + 3, none⟩ = some (.string x.s) ∧ w.cell? ⟨g, p + 4, none⟩ = some (.string x.ns) ∧ w.cell? ⟨g, p + 5, none⟩ = some (.bool x.isD) ∧ w.cell? ⟨g, p + 6, none⟩ = some (.int .i64 x.sh) :=
  ⟨h 0 _ rfl, h 1 _ rfl, h 2 _ rfl, h 3 _ rfl, h 4 _ rfl, h 5 _ rfl, h 6 _ rfl⟩
def shortOp (x : OpT) : Bool := decide (x.s.size ≤ 400) && decide (x.ns.size ≤ 400)
def fewI (l : List OpT) (n : Nat) : Bool := (l.take 500).all shortOp && decide (l.length ≤ n)
theorem fewI_spec {l : List OpT} {n : Nat} (h : fewI l n = true) (hn : n ≤ 500) : l.length ≤ n ∧ ∀ x ∈ l, x.s.size ≤ 400 ∧ x.ns.size ≤ 400 := by
  unfold fewI at h
  rw [Bool.and_eq_true, decide_eq_true_eq] at h
  refine ⟨h.2, fun x hx => ?_⟩
  rw [List.take_of_length_le (by omega)] at h
  have := List.all_eq_true.1 h.1 x hx
  unfold shortOp at this
  simpa using this
theorem take500 {l : List OpT} {i : Nat} {x : OpT} (hx : l[i]? = some x) (hi : i < 500) : (l.drop i).take (500 - i) = x :: (l.drop (i + 1)).take (500 - (i + 1)) := by
  rw [drop_eq_cons hx, show 500 - i = (500 - (i + 1)) + 1 by omega, List.take_succ_cons]
set_option maxHeartbeats 4000000 in
theorem few10_c (v : Value) (l : List OpT) (n : Nat) (w : World) (hv : OpTs w v l) (hl : l.length ≤ 9223372036854775807) (hn : n ≤ 1000) (hs : ∀ x ∈ l, x.s.size ≤ 9223372036854775807 ∧ x.ns.size ≤ 9223372036854775807) :
    Calls Tryz.prog 6 #[v, .int .i64 (n : Int)] w fun e w' => e = .returned (.bool (fewI l n)) ∧ w' = w := by
  obtain ⟨a, cap, rfl⟩ := hv.len
  obtain ⟨R, hR⟩ : ∃ R, fewI l n = R := ⟨_, rfl⟩
  rw [hR]
  have HRR := Lib.hid hR
  have HV := Lib.hid hv
  obtain ⟨m, hm⟩ : ∃ m, l.length = m := ⟨_, rfl⟩
  have HM := Lib.hid hm
  rw [hm] at hl ⊢
  have HS := Lib.hid hs
  clear hv hm hR hs
  go_enter Tryz.func6, Tryz.ntmps6
  go_wp2
  go_loop [5] (fun iv => ∃ i : Nat, i ≤ m ∧ i ≤ 500 ∧ iv = .int .i64 i ∧ (((l.drop i).take (500 - i)).all shortOp && decide (l.length ≤ n)) = R) (fun iv => 501 - (intOf iv).toNat)
  case atStart => exact ⟨0, by omega, by omega, rfl, HRR.out⟩
  case round =>
    obtain ⟨i, hi, hi5, rfl, hgo⟩ := hrel
    have HGO := Lib.hid hgo
    clear hgo
    by_cases him : i < m ∧ i < 500
    · obtain ⟨h1, h2⟩ := him
      have h1z : (i : Int) < (m : Int) := by omega
      have h2z : (i : Int) < 500 := by omega
      obtain ⟨x, hx⟩ : ∃ x, l[i]? = some x := ⟨_, List.getElem?_eq_getElem (by rw [HM.out]; omega)⟩
      obtain ⟨g, off, rfl, hg, hr⟩ := HV.out.at hx
      obtain ⟨d0, d1, d2, d3, d4, d5, d6⟩ := op_at hr
      have hsx := HS.out x (List.mem_of_getElem? hx)
      have HG : Hid ((shortOp x && (((l.drop (i + 1)).take (500 - (i + 1))).all shortOp && decide (l.length ≤ n))) = R) := Lib.hid (by rw [← HGO.out, take500 hx h2, List.all_cons, Bool.and_assoc])
      obtain ⟨hs1, hs2⟩ := hsx
      clear hx hr hg
      obtain ⟨k, d, dt, s, ns, isD, sh⟩ := x
      simp only at d0 d1 d2 d3 d4 d5 d6 hs1 hs2
      by_cases hb : 400 < s.size ∨ 400 < ns.size
      · have HF : Hid (R = false) := Lib.hid (by
          rw [← HG.out, Bool.and_eq_false_iff]
          left
          unfold shortOp
          simp only [Bool.and_eq_false_iff, decide_eq_false_iff_not]
          omega)
        by_cases hb1 : 400 < s.size
        · have e1 : (400 : Int) < (s.size : Int) := by omega
          have e2 := decide_eq_true e1
          clear hb
          go_wp2
          go_ret
          exact ⟨by rw [HF.out]; rfl, rfl⟩
        · have e1 : ¬ (400 : Int) < (s.size : Int) := by omega
          have e2 := decide_eq_false e1
          have e3 : (400 : Int) < (ns.size : Int) := by omega
          have e4 := decide_eq_true e3
          clear hb
          go_wp2
          go_ret
          exact ⟨by rw [HF.out]; rfl, rfl⟩
      · have HF : Hid ((((l.drop (i + 1)).take (500 - (i + 1))).all shortOp && decide (l.length ≤ n)) = R) := Lib.hid (by
          have h9 := HG.out
          rw [show shortOp ⟨k, d, dt, s, ns, isD, sh⟩ = true by unfold shortOp; simp; omega, Bool.true_and] at h9
          exact h9)
        have e1 : ¬ (400 : Int) < (s.size : Int) := by omega
        have e2 := decide_eq_false e1
        have e3 : ¬ (400 : Int) < (ns.size : Int) := by omega
        have e4 := decide_eq_false e3
        clear hb
        go_wp2
        go_round
        case rel => exact ⟨i + 1, by omega, by omega, by first | rfl | go_num, HF.out⟩
        case measure => simp [intOf]; omega
    · have HF : Hid (R = decide (m ≤ n)) := Lib.hid (by
        rw [← HGO.out]
        have : (l.drop i).take (500 - i) = [] := by
          by_cases h5 : i = 500
          · subst h5; rfl
          · rw [List.drop_of_length_le (by rw [HM.out]; omega), List.take_nil]
        rw [this, HM.out]
        rfl)
      have hlast : decide ((m : Int) ≤ (n : Int)) = decide (m ≤ n) := by
        congr 1
        exact propext (by omega)
      by_cases hmi : i < m
      · have h1z : (i : Int) < (m : Int) := by omega
        have h2z : ¬ (i : Int) < 500 := by omega
        have e1 := decide_eq_true h1z
        have e2 := decide_eq_false h2z
        clear him
        go_wp2
        go_ret
        exact ⟨by rw [HF.out, ← hlast]; simp, rfl⟩
      · have h1z : ¬ (i : Int) < (m : Int) := by omega
        have e1 := decide_eq_false h1z
        clear him
        go_wp2
        go_ret
        exact ⟨by rw [HF.out, ← hlast]; simp, rfl⟩
/-! Lists of numbers. -/
def numC (x : Int) : List Value := [.int .i64 x]
abbrev NumsL := @LstIs Int numC 1
theorem numC_len (l : List Int) : ∀ x ∈ l, (numC x).length = 1 := fun _ _ => rfl
theorem numC_one (l : List Int) : ∀ x ∈ l, ∀ u ∈ numC x, u.oneCell' = true := fun x _ u hu => by
  obtain rfl := List.mem_singleton.1 hu
  rfl
theorem intElem : ElemOf Tryz.prog 39 3 1 :=
  ⟨Tryz.underlying39, by
    have h : (Tryz.prog.info? 3).map (fun i => (i.zero, i.size, i.bytes)) = some (some (.int .i64 0), 1, 8) := by kernel_rfl
    obtain ⟨i0, h1, h2, h3, h4⟩ := info_parts h
    exact ⟨i0, _, 8, h1, h2, h3, h4, rfl, by decide⟩, by decide⟩
theorem num_at {w : World} {g p : Nat} {x : Int} (h : w.rangeAt g p (numC x)) : w.cell? ⟨g, p, none⟩ = some (.int .i64 x) := h 0 _ rfl
end Go.Proofs.YtfioknaadbgjlaaGreatDoor
