/-
  What a deed's kind has and does; what may be encoded is asked.
-/
import Derived.Test.YtddobjhahohhhaaQ1
import Derived.Test.YtddobjhahohhhaaDeMath
import Derived.Laws.EntriesVeiled
namespace Go.Proofs.Ytddobjhahohhhaa
open Go.RowKit Go.Sort
set_option linter.unusedVariables false

abbrev linkF : Value := .func (.func 58) #[] #[]
abbrev unlinkF : Value := .func (.func 60) #[] #[]
abbrev moveF : Value := .func (.func 62) #[] #[]
/-- What a kind does: a closure of the package's over a method of the tree's. -/
def DoIs (w : World) (k : Int) (f : Value) : Prop := ∃ g,
  (k = 1 ∧ f = .func (.func 83) #[] #[ptV g] ∧ w.heap[g]? = some (.cells #[linkF] 126 (0, 0))) ∨
  (k = 2 ∧ f = .func (.func 88) #[] #[ptV g] ∧ w.heap[g]? = some (.cells #[unlinkF] 129 (0, 0))) ∨
  (k = 3 ∧ f = .func (.func 92) #[] #[ptV g] ∧ w.heap[g]? = some (.cells #[moveF] 132 (0, 0)))
theorem DoIs.below {w w' : World} {k : Int} {f : Value} (h : DoIs w k f) (hb : Below w.heap.size w w') : DoIs w' k f := by
  obtain ⟨g, h | h | h⟩ := h
  · exact ⟨g, Or.inl ⟨h.1, h.2.1, (hb.block g (lt_of_get h.2.2)).trans h.2.2⟩⟩
  · exact ⟨g, Or.inr (Or.inl ⟨h.1, h.2.1, (hb.block g (lt_of_get h.2.2)).trans h.2.2⟩)⟩
  · exact ⟨g, Or.inr (Or.inr ⟨h.1, h.2.1, (hb.block g (lt_of_get h.2.2)).trans h.2.2⟩)⟩
theorem DoIs.form {w : World} {k : Int} {f : Value} (h : DoIs w k f) : ∃ n g, f = .func n #[] #[ptV g] := by
  obtain ⟨g, h | h | h⟩ := h
  · exact ⟨_, g, h.2.1⟩
  · exact ⟨_, g, h.2.1⟩
  · exact ⟨_, g, h.2.1⟩
/-- A block of a deed's cells. -/
theorem de_cells {W : World} {b : Nat} {T : TypeId} {x : De} (h : W.heap[b]? = some (.cells ⟨deC x⟩ T (0, 0))) :
    W.cell? ⟨b, 0, none⟩ = some (.int .i64 x.k) ∧ W.cell? ⟨b, 1, none⟩ = some (.int .i64 x.d) ∧ W.cell? ⟨b, 2, none⟩ = some (.int .i64 x.dt) ∧ W.cell? ⟨b, 3, none⟩ = some (.string x.s) ∧ W.cell? ⟨b, 4, none⟩ = some (.string x.ns) ∧ W.cell? ⟨b, 5, none⟩ = some (.bool x.isD) ∧ W.cell? ⟨b, 6, none⟩ = some (.int .i64 x.sh) :=
  ⟨Lib.cell_of_heap h 0, Lib.cell_of_heap h 1, Lib.cell_of_heap h 2, Lib.cell_of_heap h 3, Lib.cell_of_heap h 4, Lib.cell_of_heap h 5, Lib.cell_of_heap h 6⟩
theorem four_cells {W : World} {b : Nat} {v0 v1 v2 v3 : Value} {T : TypeId} (h : W.heap[b]? = some (.cells #[v0, v1, v2, v3] T (0, 0))) :
    (W.cell? ⟨b, 0, none⟩ = some v0 ∧ W.cell? ⟨b, 1, none⟩ = some v1 ∧ W.cell? ⟨b, 2, none⟩ = some v2 ∧ W.cell? ⟨b, 3, none⟩ = some v3) ∧
    (W.frozen? ⟨b, 0, none⟩ = false ∧ W.frozen? ⟨b, 1, none⟩ = false ∧ W.frozen? ⟨b, 2, none⟩ = false ∧ W.frozen? ⟨b, 3, none⟩ = false) :=
  ⟨⟨Lib.cell_of_heap h 0, Lib.cell_of_heap h 1, Lib.cell_of_heap h 2, Lib.cell_of_heap h 3⟩, Lib.frozen_of_heap h 0, Lib.frozen_of_heap h 1, Lib.frozen_of_heap h 2, Lib.frozen_of_heap h 3⟩
def kindV (k : Int) (f : Value) : Value := .agg #[.bool (decide (k = 1 ∨ k = 2)), .bool (decide (k = 3)), .bool (decide (k = 1 ∨ k = 3)), f]
abbrev kind0 : Value := .agg #[.bool false, .bool false, .bool false, .nilFunc]
set_option maxHeartbeats 1000000 in
set_option maxRecDepth 100000 in
theorem linkBy_c (w : World) : Calls Try.prog 57 #[linkF] w fun e w' => e = .returned (.func (.func 83) #[] #[ptV w.heap.size]) ∧ w' = w.alloc (.cells #[linkF] 126) := by
  go_enter Try.func57, Try.ntmps57
  go_wp2
  go_ret
  exact ⟨rfl, rfl⟩
set_option maxHeartbeats 1000000 in
set_option maxRecDepth 100000 in
theorem unlinkBy_c (w : World) : Calls Try.prog 59 #[unlinkF] w fun e w' => e = .returned (.func (.func 88) #[] #[ptV w.heap.size]) ∧ w' = w.alloc (.cells #[unlinkF] 129) := by
  go_enter Try.func59, Try.ntmps59
  go_wp2
  go_ret
  exact ⟨rfl, rfl⟩
set_option maxHeartbeats 1000000 in
set_option maxRecDepth 100000 in
theorem moveBy_c (w : World) : Calls Try.prog 61 #[moveF] w fun e w' => e = .returned (.func (.func 92) #[] #[ptV w.heap.size]) ∧ w' = w.alloc (.cells #[moveF] 132) := by
  go_enter Try.func61, Try.ntmps61
  go_wp2
  go_ret
  exact ⟨rfl, rfl⟩
abbrev zKind : Obj := .cells #[.bool false, .bool false, .bool false, .nilFunc] 56
theorem alloc_two (w : World) (a b : Obj) : ((w.alloc a).alloc b).heap[w.heap.size + 1]? = some b := by
  have h := heap_alloc_new (w.alloc a) b
  rwa [show (w.alloc a).heap.size = w.heap.size + 1 by simp] at h
theorem belowTwoD (w : World) (a b : Obj) : Below w.heap.size w ((w.alloc a).alloc b) := ((Below.refl _ w).alloc (Nat.le_refl _) _).alloc (by simp) _
set_option maxHeartbeats 2000000 in
set_option maxRecDepth 100000 in
theorem kindOf_yes (k : Int) (w : World) (hk : k = 1 ∨ k = 2 ∨ k = 3) : Calls Try.prog 31 #[.int .i64 k] w fun e w' => ∃ f, e = .returned (.tuple #[kindV k f, .bool true]) ∧ DoIs w' k f ∧ Below w.heap.size w w' := by
  have c1 := linkBy_c
  have c2 := unlinkBy_c
  have c3 := moveBy_c
  rcases hk with rfl | rfl | rfl
  · go_enter Try.func31, Try.ntmps31
    go_wp2_with (go_at_call 57; refine (c1 _).mono ?_; rintro e w1 ⟨rfl, rfl⟩)
    (try simp only [Exit.inBlock, Exit.then])
    refine bodyPost_ret (v := .tuple #[kindV 1 (.func (.func 83) #[] #[ptV (w.heap.size + 1)]), .bool true]) ?_ rfl ⟨_, rfl, ⟨_, Or.inl ⟨rfl, rfl, alloc_two _ _ _⟩⟩, belowTwoD _ _ _⟩
    rw [results_cell_tmp rfl]
    unfold kindV
    go_simp
  · go_enter Try.func31, Try.ntmps31
    go_wp2_with (go_at_call 59; refine (c2 _).mono ?_; rintro e w1 ⟨rfl, rfl⟩)
    (try simp only [Exit.inBlock, Exit.then])
    refine bodyPost_ret (v := .tuple #[kindV 2 (.func (.func 88) #[] #[ptV (w.heap.size + 1)]), .bool true]) ?_ rfl ⟨_, rfl, ⟨_, Or.inr (Or.inl ⟨rfl, rfl, alloc_two _ _ _⟩)⟩, belowTwoD _ _ _⟩
    rw [results_cell_tmp rfl]
    unfold kindV
    go_simp
  · go_enter Try.func31, Try.ntmps31
    go_wp2_with (go_at_call 61; refine (c3 _).mono ?_; rintro e w1 ⟨rfl, rfl⟩)
    (try simp only [Exit.inBlock, Exit.then])
    refine bodyPost_ret (v := .tuple #[kindV 3 (.func (.func 92) #[] #[ptV (w.heap.size + 1)]), .bool true]) ?_ rfl ⟨_, rfl, ⟨_, Or.inr (Or.inr ⟨rfl, rfl, alloc_two _ _ _⟩)⟩, belowTwoD _ _ _⟩
    rw [results_cell_tmp rfl]
    unfold kindV
    go_simp
set_option maxHeartbeats 2000000 in
set_option maxRecDepth 100000 in
theorem kindOf_no (k : Int) (w : World) (hk : ¬ (k = 1 ∨ k = 2 ∨ k = 3)) : Calls Try.prog 31 #[.int .i64 k] w fun e w' => e = .returned (.tuple #[kind0, .bool false]) ∧ Below w.heap.size w w' := by
  have h1 : (k == 1) = false := by rw [beq_eq_false_iff_ne]; omega
  have h2 : (k == 2) = false := by rw [beq_eq_false_iff_ne]; omega
  have h3 : (k == 3) = false := by rw [beq_eq_false_iff_ne]; omega
  clear hk
  go_enter Try.func31, Try.ntmps31
  go_wp2
  (try simp only [Exit.inBlock, Exit.then])
  refine bodyPost_ret (v := .tuple #[kind0, .bool false]) ?_ rfl ⟨rfl, ?_⟩
  · rw [results_cell_tmp rfl]
    go_simp
  · first | exact (Below.refl _ _).alloc (Nat.le_refl _) _ | exact ((Below.refl _ _).alloc (Nat.le_refl _) _).setCells (Nat.le_refl _) _ _
/-- Has a kind all of a deed? -/
def hasAll (a b c : Bool) (x : De) : Bool := (a || !x.isD) && (b || (decide (x.dt = 0) && decide (x.ns = ⟨#[]⟩))) && (c || decide (x.sh = 0))
def hasRoomB (x : De) : Bool := decide ((x.s.size : Int) ≤ 255) && decide ((x.ns.size : Int) ≤ 255) && decide (x.d ≥ 0) && decide (x.d ≤ 65535) && decide (x.dt ≥ 0) && decide (x.dt ≤ 65535) && decide (x.sh ≥ 0) && decide (x.sh ≤ 1000000)
theorem text_nil (s : ByteArray) : s.toList = [] ↔ s = ⟨#[]⟩ := by
  constructor
  · intro h
    rw [ByteArray.toList_eq] at h
    exact ByteArray.ext (Array.toList_inj.1 h)
  · rintro rfl
    rw [ByteArray.toList_eq]
set_option maxHeartbeats 2000000 in
set_option maxRecDepth 100000 in
theorem hasAllOf_c (a b c : Bool) (f : Value) (x : De) (w : World) : Calls Try.prog 50 #[.agg #[.bool a, .bool b, .bool c, f], deV x] w fun e w' => e = .returned (.bool (hasAll a b c x)) ∧ Below w.heap.size w w' := by
  obtain ⟨k, d, dt, s, ns, isD, sh⟩ := x
  unfold deV hasAll
  simp only
  go_enter Try.func50, Try.ntmps50
  go_wp2
  all_goals (go_ret; refine ⟨?_, belowTwoD _ _ _⟩; simp_all [text_nil] <;> rfl)
set_option maxHeartbeats 2000000 in
set_option maxRecDepth 100000 in
theorem hasRoom_c (x : De) (w : World) : Calls Try.prog 51 #[deV x] w fun e w' => e = .returned (.bool (hasRoomB x)) ∧ Below w.heap.size w w' := by
  obtain ⟨k, d, dt, s, ns, isD, sh⟩ := x
  unfold deV hasRoomB
  simp only
  go_enter Try.func51, Try.ntmps51
  go_wp2
  all_goals (go_ret; refine ⟨?_, (Below.refl _ w).alloc (Nat.le_refl _) _⟩; simp_all <;> omega)
theorem may_iff (x : De) : May x ↔ ((x.k = 1 ∨ x.k = 2 ∨ x.k = 3) ∧ hasAll (decide (x.k = 1 ∨ x.k = 2)) (decide (x.k = 3)) (decide (x.k = 1 ∨ x.k = 3)) x = true ∧ hasRoomB x = true) := by
  obtain ⟨k, d, dt, s, ns, isD, sh⟩ := x
  unfold May hasAll hasRoomB
  simp only [Bool.and_eq_true, Bool.or_eq_true, decide_eq_true_eq, Bool.not_eq_true']
  constructor
  · rintro ⟨h1, h2, h3, h4, h5, h6, h7, h8, h9⟩
    refine ⟨h1, ⟨⟨?_, ?_⟩, ?_⟩, ?_⟩
    · rcases h1 with rfl | rfl | rfl
      · exact Or.inl (Or.inl rfl)
      · exact Or.inl (Or.inr rfl)
      · exact Or.inr (h3 rfl)
    · rcases h2 with h2 | h2
      · exact Or.inl h2
      · exact Or.inr h2
    · rcases h1 with rfl | rfl | rfl
      · exact Or.inl (Or.inl rfl)
      · exact Or.inr (h4 rfl)
      · exact Or.inl (Or.inr rfl)
    · refine ⟨⟨⟨⟨⟨⟨⟨?_, ?_⟩, ?_⟩, ?_⟩, ?_⟩, ?_⟩, ?_⟩, ?_⟩ <;> omega
  · rintro ⟨h1, ⟨⟨a1, a2⟩, a3⟩, ⟨⟨⟨⟨⟨⟨⟨b1, b2⟩, b3⟩, b4⟩, b5⟩, b6⟩, b7⟩, b8⟩⟩
    refine ⟨h1, ?_, ?_, ?_, ?_, ?_, ?_, ?_, ?_⟩
    · rcases a2 with h | h
      · exact Or.inl h
      · exact Or.inr h
    · rintro rfl
      rcases a1 with h | h
      · omega
      · exact h
    · rintro rfl
      rcases a3 with h | h
      · omega
      · exact h
    all_goals omega
/-- Within 'ask': the deed, the result's kind, the kind that was looked up. -/
structure AskW (w : World) (bO b4 : Nat) (x : De) (A B C : Bool) (n9 : Fn) (g9 : Nat) (W : World) : Prop where
  d : W.heap[bO]? = some (.cells ⟨deC x⟩ 23 (0, 0))
  z : W.heap[bO + 1]? = some zKind
  k : W.heap[b4]? = some (.cells #[.bool A, .bool B, .bool C, .func n9 #[] #[ptV g9]] 56 (0, 0))
  f : DoIs W x.k (.func n9 #[] #[ptV g9])
  b : Below bO w W
  lt : bO + 1 < b4
theorem AskW.below {w : World} {bO b4 : Nat} {x : De} {A B C : Bool} {n9 : Fn} {g9 : Nat} {W W' : World} (h : AskW w bO b4 x A B C n9 g9 W) (hb : Below W.heap.size W W') : AskW w bO b4 x A B C n9 g9 W' :=
  ⟨(hb.block _ (lt_of_get h.d)).trans h.d, (hb.block _ (lt_of_get h.z)).trans h.z, (hb.block _ (lt_of_get h.k)).trans h.k, h.f.below hb, h.b.trans (hb.mono (by have := lt_of_get h.d; omega)), h.lt⟩
theorem kind_put {W : World} {q : Nat} (h : W.heap[q]? = some zKind) (x0 x1 x2 x3 : Value) : ((((W.setCell ⟨q, 0, none⟩ x0).setCell ⟨q, 1, none⟩ x1).setCell ⟨q, 2, none⟩ x2).setCell ⟨q, 3, none⟩ x3).heap[q]? = some (.cells #[x0, x1, x2, x3] 56 (0, 0)) := by
  rw [heap_setCell_same _ q 3 _ _ _ (heap_setCell_same _ q 2 _ _ _ (heap_setCell_same _ q 1 _ _ _ (heap_setCell_same _ q 0 _ _ _ h)))]
  rfl
theorem DoIs.put {W : World} {q : Nat} (h : W.heap[q]? = some zKind) {k : Int} {f : Value} (hd : DoIs W k f) (x0 x1 x2 x3 : Value) : DoIs ((((W.setCell ⟨q, 0, none⟩ x0).setCell ⟨q, 1, none⟩ x1).setCell ⟨q, 2, none⟩ x2).setCell ⟨q, 3, none⟩ x3) k f := by
  have key : ∀ (g : Nat) (cs : Array Value) (T : TypeId), W.heap[g]? = some (.cells cs T (0, 0)) → T ≠ 56 → ((((W.setCell ⟨q, 0, none⟩ x0).setCell ⟨q, 1, none⟩ x1).setCell ⟨q, 2, none⟩ x2).setCell ⟨q, 3, none⟩ x3).heap[g]? = some (.cells cs T (0, 0)) := by
    intro g cs T hg hT
    have hne : g ≠ q := by
      rintro rfl
      rw [h] at hg
      injection hg with hg
      injection hg with _ h2 _
      exact hT h2.symm
    rw [Below.heap_setCell _ _ _ _ hne, Below.heap_setCell _ _ _ _ hne, Below.heap_setCell _ _ _ _ hne, Below.heap_setCell _ _ _ _ hne]
    exact hg
  obtain ⟨g, h1 | h1 | h1⟩ := hd
  · exact ⟨g, Or.inl ⟨h1.1, h1.2.1, key g _ _ h1.2.2 (by decide)⟩⟩
  · exact ⟨g, Or.inr (Or.inl ⟨h1.1, h1.2.1, key g _ _ h1.2.2 (by decide)⟩)⟩
  · exact ⟨g, Or.inr (Or.inr ⟨h1.1, h1.2.1, key g _ _ h1.2.2 (by decide)⟩)⟩
theorem below_four {B q : Nat} {W0 W : World} {x0 x1 x2 x3 : Value} (h : Below B W0 W) (hq : B ≤ q) : Below B W0 ((((W.setCell ⟨q, 0, none⟩ x0).setCell ⟨q, 1, none⟩ x1).setCell ⟨q, 2, none⟩ x2).setCell ⟨q, 3, none⟩ x3) :=
  (((h.setCell (p := ⟨q, 0, none⟩) hq _).setCell (p := ⟨q, 1, none⟩) hq _).setCell (p := ⟨q, 2, none⟩) hq _).setCell (p := ⟨q, 3, none⟩) hq _
/-- What 'ask' answers: the kind of a deed that may be encoded. -/
def AskPost (x : De) (w : World) (e : Ending) (w' : World) : Prop := ∃ f, (e = .returned (.tuple #[kindV x.k f, .int .i64 0]) ∧ DoIs w' x.k f ∧ Below w.heap.size w w')
set_option maxHeartbeats 4000000 in
set_option maxRecDepth 100000 in
theorem ask_yes (x : De) (w : World) (h : May x) : Calls Try.prog 23 #[deV x] w (AskPost x w) := by
  unfold AskPost
  obtain ⟨h1, h2, h3⟩ := (may_iff x).1 h
  have cK := fun W => kindOf_yes x.k W h1
  have cA := fun f W => hasAllOf_c (decide (x.k = 1 ∨ x.k = 2)) (decide (x.k = 3)) (decide (x.k = 1 ∨ x.k = 3)) f x W
  have cR := hasRoom_c x
  rw [h2] at cA
  rw [h3] at cR
  clear h h1 h2 h3
  obtain ⟨k, d, dt, s, ns, isD, sh⟩ := x
  unfold kindV deV at *
  simp only at cK cA cR ⊢
  generalize decide (k = 1 ∨ k = 2) = A at *
  generalize decide (k = 3) = B at *
  generalize decide (k = 1 ∨ k = 3) = C at *
  have HO : Hid (((w.alloc (.cells #[.int .i64 k, .int .i64 d, .int .i64 dt, .string s, .string ns, .bool isD, .int .i64 sh] 23)).alloc zKind).heap[w.heap.size]? = some (.cells ⟨deC ⟨k, d, dt, s, ns, isD, sh⟩⟩ 23 (0, 0))) := Lib.hid (by rw [Lib.alloc_old _ _ _ (by simp)]; exact heap_alloc_new _ _)
  have HZ : Hid (((w.alloc (.cells #[.int .i64 k, .int .i64 d, .int .i64 dt, .string s, .string ns, .bool isD, .int .i64 sh] 23)).alloc zKind).heap[w.heap.size + 1]? = some zKind) := Lib.hid (alloc_two _ _ _)
  have HB0 := Lib.hid (belowTwoD w (.cells #[.int .i64 k, .int .i64 d, .int .i64 dt, .string s, .string ns, .bool isD, .int .i64 sh] 23) zKind)
  unfold zKind at HO HZ HB0
  go_enter Try.func23, Try.ntmps23
  go_upto_region 1 with fail
  generalize ((w.alloc (.cells #[.int .i64 k, .int .i64 d, .int .i64 dt, .string s, .string ns, .bool isD, .int .i64 sh] 23)).alloc (.cells #[.bool false, .bool false, .bool false, .nilFunc] 56)) = W0 at *
  have k0 := (de_cells HO.out).1
  have HSZ : Hid (w.heap.size + 1 < W0.heap.size) := Lib.hid (lt_of_get HZ.out)
  generalize hbO : w.heap.size = bO at *
  go_upto_region 2 with (go_at_call 31; refine (cK _).mono ?_; rintro e w1 ⟨f, rfl, hd1, hb1⟩; obtain ⟨n9, g9, rfl⟩ := hd1.form; have HD1 := Lib.hid hd1; have HB1 := Lib.hid hb1; clear hd1 hb1)
  have HA : Hid (AskW w bO w1.heap.size ⟨k, d, dt, s, ns, isD, sh⟩ A B C n9 g9 (w1.alloc (.cells #[.bool A, .bool B, .bool C, .func n9 #[] #[ptV g9]] 56))) := by
    have hs1 := HB1.out.size
    have hba : Below w1.heap.size w1 (w1.alloc (.cells #[.bool A, .bool B, .bool C, .func n9 #[] #[ptV g9]] 56)) := (Below.refl _ _).alloc (Nat.le_refl _) _
    have hlt := HSZ.out
    refine Lib.hid ⟨?_, ?_, heap_alloc_new _ _, HD1.out.below hba, (HB0.out.trans (HB1.out.mono (by omega))).trans (hba.mono (by omega)), by omega⟩
    · rw [hba.block _ (by omega), HB1.out.block _ (by omega)]; exact HO.out
    · rw [hba.block _ (by omega), HB1.out.block _ (by omega)]; exact HZ.out
  generalize (w1.alloc (.cells #[.bool A, .bool B, .bool C, .func n9 #[] #[ptV g9]] 56)) = W1 at *
  generalize w1.heap.size = b4 at *
  clear HO HZ HB0 HSZ k0 HB1 HD1
  obtain ⟨p0, p1, p2, p3, p4, p5, p6⟩ := de_cells HA.out.d
  obtain ⟨⟨q0, q1, q2, q3⟩, q4, q5, q6, q7⟩ := four_cells HA.out.k
  go_upto_region 4 with (first | (go_at_call 50; refine (cA _ _).mono ?_; rintro e w2 ⟨rfl, hb2⟩; have HA2 := Lib.hid (HA.out.below hb2); obtain ⟨p0, p1, p2, p3, p4, p5, p6⟩ := de_cells HA2.out.d) | (go_at_call 51; refine (cR _).mono ?_; rintro e w3 ⟨rfl, hb3⟩; have HA3 := Lib.hid (HA2.out.below hb3)))
  obtain ⟨⟨q0, q1, q2, q3⟩, q4, q5, q6, q7⟩ := four_cells HA3.out.k
  obtain ⟨⟨z0, z1, z2, z3⟩, z4, z5, z6, z7⟩ := four_cells HA3.out.z
  go_wp2
  (try simp only [Exit.inBlock, Exit.then])
  have HF : Hid _ := Lib.hid (kind_put HA3.out.z (.bool A) (.bool B) (.bool C) (.func n9 #[] #[ptV g9]))
  have HF2 := Lib.hid (HA3.out.f.put HA3.out.z (.bool A) (.bool B) (.bool C) (.func n9 #[] #[ptV g9]))
  have HF3 : Hid _ := Lib.hid (below_four (x0 := .bool A) (x1 := .bool B) (x2 := .bool C) (x3 := .func n9 #[] #[ptV g9]) HA3.out.b (Nat.le_succ bO))
  generalize ((((w3.setCell ⟨bO + 1, 0, none⟩ (.bool A)).setCell ⟨bO + 1, 1, none⟩ (.bool B)).setCell ⟨bO + 1, 2, none⟩ (.bool C)).setCell ⟨bO + 1, 3, none⟩ (.func n9 #[] #[ptV g9])) = W5 at *
  clear p0 p1 p2 p3 p4 p5 p6 q0 q1 q2 q3 q4 q5 q6 q7 z0 z1 z2 z3 z4 z5 z6 z7
  obtain ⟨⟨z0, z1, z2, z3⟩, _⟩ := four_cells HF.out
  refine bodyPost_ret (v := .tuple #[.agg #[.bool A, .bool B, .bool C, .func n9 #[] #[ptV g9]], .int .i64 0]) ?_ rfl ⟨_, rfl, HF2.out, by rw [hbO]; exact HF3.out⟩
  rw [results_cell_tmp rfl]
  go_simp
def AskNo (w : World) (e : Ending) (w' : World) : Prop := e = .returned (.tuple #[kind0, .int .i64 1]) ∧ Below w.heap.size w w'
set_option maxHeartbeats 4000000 in
set_option maxRecDepth 100000 in
theorem ask_kind (x : De) (w : World) (h : ¬ (x.k = 1 ∨ x.k = 2 ∨ x.k = 3)) : Calls Try.prog 23 #[deV x] w (AskNo w) := by
  unfold AskNo
  have cK := fun W => kindOf_no x.k W h
  clear h
  obtain ⟨k, d, dt, s, ns, isD, sh⟩ := x
  unfold deV at *
  simp only at cK ⊢
  have HO : Hid (((w.alloc (.cells #[.int .i64 k, .int .i64 d, .int .i64 dt, .string s, .string ns, .bool isD, .int .i64 sh] 23)).alloc zKind).heap[w.heap.size]? = some (.cells ⟨deC ⟨k, d, dt, s, ns, isD, sh⟩⟩ 23 (0, 0))) := Lib.hid (by rw [Lib.alloc_old _ _ _ (by simp)]; exact heap_alloc_new _ _)
  have HZ : Hid (((w.alloc (.cells #[.int .i64 k, .int .i64 d, .int .i64 dt, .string s, .string ns, .bool isD, .int .i64 sh] 23)).alloc zKind).heap[w.heap.size + 1]? = some zKind) := Lib.hid (alloc_two _ _ _)
  have HB0 := Lib.hid (belowTwoD w (.cells #[.int .i64 k, .int .i64 d, .int .i64 dt, .string s, .string ns, .bool isD, .int .i64 sh] 23) zKind)
  unfold zKind at HO HZ HB0
  go_enter Try.func23, Try.ntmps23
  go_upto_region 1 with fail
  generalize ((w.alloc (.cells #[.int .i64 k, .int .i64 d, .int .i64 dt, .string s, .string ns, .bool isD, .int .i64 sh] 23)).alloc (.cells #[.bool false, .bool false, .bool false, .nilFunc] 56)) = W0 at *
  have k0 := (de_cells HO.out).1
  have HSZ : Hid (w.heap.size + 1 < W0.heap.size) := Lib.hid (lt_of_get HZ.out)
  generalize hbO : w.heap.size = bO at *
  go_upto_region 3 with (go_at_call 31; refine (cK _).mono ?_; rintro e w1 ⟨rfl, hb1⟩; have HB1 := Lib.hid hb1; clear hb1)
  have HA : Hid ((w1.alloc (.cells #[.bool false, .bool false, .bool false, .nilFunc] 56)).heap[bO + 1]? = some zKind ∧ Below bO w (w1.alloc (.cells #[.bool false, .bool false, .bool false, .nilFunc] 56))) := by
    have hs1 := HB1.out.size
    have hba : Below w1.heap.size w1 (w1.alloc (.cells #[.bool false, .bool false, .bool false, .nilFunc] 56)) := (Below.refl _ _).alloc (Nat.le_refl _) _
    have hlt := HSZ.out
    refine Lib.hid ⟨?_, (HB0.out.trans (HB1.out.mono (by omega))).trans (hba.mono (by omega))⟩
    rw [hba.block _ (by omega), HB1.out.block _ (by omega)]; exact HZ.out
  generalize (w1.alloc (.cells #[.bool false, .bool false, .bool false, .nilFunc] 56)) = W1 at *
  clear HO HZ HB0 HSZ k0 HB1
  obtain ⟨⟨z0, z1, z2, z3⟩, z4, z5, z6, z7⟩ := four_cells HA.out.1
  go_wp2
  (try simp only [Exit.inBlock, Exit.then])
  have HF : Hid _ := Lib.hid (kind_put HA.out.1 (.bool false) (.bool false) (.bool false) .nilFunc)
  have HF3 : Hid _ := Lib.hid (below_four (x0 := .bool false) (x1 := .bool false) (x2 := .bool false) (x3 := .nilFunc) HA.out.2 (Nat.le_succ bO))
  generalize ((((W1.setCell ⟨bO + 1, 0, none⟩ (.bool false)).setCell ⟨bO + 1, 1, none⟩ (.bool false)).setCell ⟨bO + 1, 2, none⟩ (.bool false)).setCell ⟨bO + 1, 3, none⟩ .nilFunc) = W5 at *
  clear z0 z1 z2 z3 z4 z5 z6 z7
  obtain ⟨⟨z0, z1, z2, z3⟩, _⟩ := four_cells HF.out
  refine bodyPost_ret (v := .tuple #[kind0, .int .i64 1]) ?_ rfl ⟨rfl, by rw [hbO]; exact HF3.out⟩
  rw [results_cell_tmp rfl]
  go_simp
set_option maxHeartbeats 4000000 in
set_option maxRecDepth 100000 in
theorem ask_fits (x : De) (w : World) (h1 : x.k = 1 ∨ x.k = 2 ∨ x.k = 3) (h : ¬ May x) : Calls Try.prog 23 #[deV x] w (AskNo w) := by
  unfold AskNo
  have cK := fun W => kindOf_yes x.k W h1
  have cA := fun f W => hasAllOf_c (decide (x.k = 1 ∨ x.k = 2)) (decide (x.k = 3)) (decide (x.k = 1 ∨ x.k = 3)) f x W
  have cR := hasRoom_c x
  have hno : ∃ H1 H2 : Bool, hasAll (decide (x.k = 1 ∨ x.k = 2)) (decide (x.k = 3)) (decide (x.k = 1 ∨ x.k = 3)) x = H1 ∧ hasRoomB x = H2 ∧ ((H1 = false) ∨ (H1 = true ∧ H2 = false)) := by
    refine ⟨_, _, rfl, rfl, ?_⟩
    cases e1 : hasAll (decide (x.k = 1 ∨ x.k = 2)) (decide (x.k = 3)) (decide (x.k = 1 ∨ x.k = 3)) x with
    | false => exact Or.inl rfl
    | true =>
      cases e2 : hasRoomB x with
      | false => exact Or.inr ⟨rfl, rfl⟩
      | true => exact absurd ((may_iff x).2 ⟨h1, e1, e2⟩) h
  obtain ⟨H1, H2, e1, e2, hno⟩ := hno
  rw [e1] at cA
  rw [e2] at cR
  clear h h1 e1 e2
  obtain ⟨k, d, dt, s, ns, isD, sh⟩ := x
  unfold kindV deV at *
  simp only at cK cA cR ⊢
  generalize decide (k = 1 ∨ k = 2) = A at *
  generalize decide (k = 3) = B at *
  generalize decide (k = 1 ∨ k = 3) = C at *
  have HO : Hid (((w.alloc (.cells #[.int .i64 k, .int .i64 d, .int .i64 dt, .string s, .string ns, .bool isD, .int .i64 sh] 23)).alloc zKind).heap[w.heap.size]? = some (.cells ⟨deC ⟨k, d, dt, s, ns, isD, sh⟩⟩ 23 (0, 0))) := Lib.hid (by rw [Lib.alloc_old _ _ _ (by simp)]; exact heap_alloc_new _ _)
  have HZ : Hid (((w.alloc (.cells #[.int .i64 k, .int .i64 d, .int .i64 dt, .string s, .string ns, .bool isD, .int .i64 sh] 23)).alloc zKind).heap[w.heap.size + 1]? = some zKind) := Lib.hid (alloc_two _ _ _)
  have HB0 := Lib.hid (belowTwoD w (.cells #[.int .i64 k, .int .i64 d, .int .i64 dt, .string s, .string ns, .bool isD, .int .i64 sh] 23) zKind)
  unfold zKind at HO HZ HB0
  go_enter Try.func23, Try.ntmps23
  go_upto_region 1 with fail
  generalize ((w.alloc (.cells #[.int .i64 k, .int .i64 d, .int .i64 dt, .string s, .string ns, .bool isD, .int .i64 sh] 23)).alloc (.cells #[.bool false, .bool false, .bool false, .nilFunc] 56)) = W0 at *
  have k0 := (de_cells HO.out).1
  have HSZ : Hid (w.heap.size + 1 < W0.heap.size) := Lib.hid (lt_of_get HZ.out)
  generalize hbO : w.heap.size = bO at *
  go_upto_region 2 with (go_at_call 31; refine (cK _).mono ?_; rintro e w1 ⟨f, rfl, hd1, hb1⟩; obtain ⟨n9, g9, rfl⟩ := hd1.form; have HD1 := Lib.hid hd1; have HB1 := Lib.hid hb1; clear hd1 hb1)
  have HA : Hid (AskW w bO w1.heap.size ⟨k, d, dt, s, ns, isD, sh⟩ A B C n9 g9 (w1.alloc (.cells #[.bool A, .bool B, .bool C, .func n9 #[] #[ptV g9]] 56))) := by
    have hs1 := HB1.out.size
    have hba : Below w1.heap.size w1 (w1.alloc (.cells #[.bool A, .bool B, .bool C, .func n9 #[] #[ptV g9]] 56)) := (Below.refl _ _).alloc (Nat.le_refl _) _
    have hlt := HSZ.out
    refine Lib.hid ⟨?_, ?_, heap_alloc_new _ _, HD1.out.below hba, (HB0.out.trans (HB1.out.mono (by omega))).trans (hba.mono (by omega)), by omega⟩
    · rw [hba.block _ (by omega), HB1.out.block _ (by omega)]; exact HO.out
    · rw [hba.block _ (by omega), HB1.out.block _ (by omega)]; exact HZ.out
  generalize (w1.alloc (.cells #[.bool A, .bool B, .bool C, .func n9 #[] #[ptV g9]] 56)) = W1 at *
  generalize w1.heap.size = b4 at *
  clear HO HZ HB0 HSZ k0 HB1 HD1
  obtain ⟨p0, p1, p2, p3, p4, p5, p6⟩ := de_cells HA.out.d
  obtain ⟨⟨q0, q1, q2, q3⟩, q4, q5, q6, q7⟩ := four_cells HA.out.k
  rcases hno with rfl | ⟨rfl, rfl⟩
  · go_upto_region 3 with (first | (go_at_call 50; refine (cA _ _).mono ?_; rintro e w3 ⟨rfl, hb2⟩; have HA3 := Lib.hid (HA.out.below hb2)))
    obtain ⟨⟨z0, z1, z2, z3⟩, z4, z5, z6, z7⟩ := four_cells HA3.out.z
    go_wp2
    (try simp only [Exit.inBlock, Exit.then])
    have HF : Hid _ := Lib.hid (kind_put HA3.out.z (.bool false) (.bool false) (.bool false) .nilFunc)
    have HF3 : Hid _ := Lib.hid (below_four (x0 := .bool false) (x1 := .bool false) (x2 := .bool false) (x3 := .nilFunc) HA3.out.b (Nat.le_succ bO))
    generalize ((((w3.setCell ⟨bO + 1, 0, none⟩ (.bool false)).setCell ⟨bO + 1, 1, none⟩ (.bool false)).setCell ⟨bO + 1, 2, none⟩ (.bool false)).setCell ⟨bO + 1, 3, none⟩ .nilFunc) = W5 at *
    clear z0 z1 z2 z3 z4 z5 z6 z7
    obtain ⟨⟨z0, z1, z2, z3⟩, _⟩ := four_cells HF.out
    refine bodyPost_ret (v := .tuple #[kind0, .int .i64 1]) ?_ rfl ⟨rfl, by rw [hbO]; exact HF3.out⟩
    rw [results_cell_tmp rfl]
    go_simp
  · go_upto_region 3 with (first | (go_at_call 50; refine (cA _ _).mono ?_; rintro e w2 ⟨rfl, hb2⟩; have HA2 := Lib.hid (HA.out.below hb2); obtain ⟨p0, p1, p2, p3, p4, p5, p6⟩ := de_cells HA2.out.d) | (go_at_call 51; refine (cR _).mono ?_; rintro e w3 ⟨rfl, hb3⟩; have HA3 := Lib.hid (HA2.out.below hb3)))
    obtain ⟨⟨z0, z1, z2, z3⟩, z4, z5, z6, z7⟩ := four_cells HA3.out.z
    go_wp2
    (try simp only [Exit.inBlock, Exit.then])
    have HF : Hid _ := Lib.hid (kind_put HA3.out.z (.bool false) (.bool false) (.bool false) .nilFunc)
    have HF3 : Hid _ := Lib.hid (below_four (x0 := .bool false) (x1 := .bool false) (x2 := .bool false) (x3 := .nilFunc) HA3.out.b (Nat.le_succ bO))
    generalize ((((w3.setCell ⟨bO + 1, 0, none⟩ (.bool false)).setCell ⟨bO + 1, 1, none⟩ (.bool false)).setCell ⟨bO + 1, 2, none⟩ (.bool false)).setCell ⟨bO + 1, 3, none⟩ .nilFunc) = W5 at *
    clear z0 z1 z2 z3 z4 z5 z6 z7
    obtain ⟨⟨z0, z1, z2, z3⟩, _⟩ := four_cells HF.out
    refine bodyPost_ret (v := .tuple #[kind0, .int .i64 1]) ?_ rfl ⟨rfl, by rw [hbO]; exact HF3.out⟩
    rw [results_cell_tmp rfl]
    go_simp
theorem ask_no (x : De) (w : World) (h : ¬ May x) : Calls Try.prog 23 #[deV x] w (AskNo w) := by
  by_cases h1 : x.k = 1 ∨ x.k = 2 ∨ x.k = 3
  · exact ask_fits x w h1 h
  · exact ask_kind x w h1
end Go.Proofs.Ytddobjhahohhhaa
