/-
  The reference's Do (stage 6): what goes wrong, Get, Cut.
-/
import Derived.Test.YtdjfojpfnfhaiaaSeRef
namespace Go.Proofs.Ytdjfojpfnfhaiaa
open Go.RowKit Go.Sort
set_option linter.unusedVariables false

def DoPost (B r : Nat) (st' : St) (res : ByteArray) (code : Int) (w : World) (e : Ending) (w' : World) : Prop := e = .returned (.tuple #[.string res, .int .i64 code]) ∧ Ref B w' r st' ∧ Below B w w' ∧ Off refTs w w'
theorem left_gone {st : St} (hg : Good st) : leftI st = 0 ↔ goneB st = true := by
  unfold leftI goneB
  cases hl : st.lim
  · simp
  · simp
theorem left_ge {st : St} (hg : Good st) : -1 ≤ leftI st ∧ leftI st ≤ 9223372036854775807 := by
  unfold leftI
  have := hg.leftI
  split
  · rename_i h; have := hg.left0 h; omega
  · omega
theorem ask_in {st : St} {k : Nat} (hn : goneB st = false) (hk : k < st.now.length) : askI st.now.length st.lim st.left k = 0 := by
  unfold askI
  unfold goneB at hn
  rw [hn, if_neg (by decide), if_neg (by omega)]
theorem Below.drewM {B : Nat} {a w : World} (h : Below B a w) (q : Nat) : Below B a (w.drewN q) := by
  induction q with
  | zero => exact h
  | succ q ih => exact ih.drew
set_option maxHeartbeats 8000000 in
set_option maxRecDepth 100000 in
theorem do_lost0 (B r : Nat) (st : St) (X I N : Int) (s : ByteArray) (kv : Value) (w : World) (h : Ref B w r st) (hg : Good st) (hB : B ≤ w.heap.size) (hX0 : 0 ≤ X) (hX : X % 5 = 0) (hgo : goneB st = true) :
    Calls Try.prog 15 #[.pointer (some ⟨r, 0, none⟩), .agg #[.int .u8 X, .int .i64 I, .int .i64 N, .string s, kv]] w (DoPost B r st ⟨#[]⟩ 13 w) := by
  unfold DoPost
  obtain ⟨vs, ve, va, vd, h⟩ := h
  have hXT : X.tmod 5 = 0 := by rw [Int.tmod_eq_emod_of_nonneg hX0]; exact hX
  have HR0 : Hid (RefL B (w.alloc (.cells #[.int .u8 X, .int .i64 I, .int .i64 N, .string s, kv] 32)) r vs ve va vd st.safe st.now (ats st.pend) (dats st.pend) (leftI st)) := Lib.hid (h.alloc _)
  have HB0 : Hid (Below B w (w.alloc (.cells #[.int .u8 X, .int .i64 I, .int .i64 N, .string s, kv] 32))) := Lib.hid ((Below.refl _ w).alloc hB _)
  have HO0 : Hid (Off refTs w (w.alloc (.cells #[.int .u8 X, .int .i64 I, .int .i64 N, .string s, kv] 32))) := Lib.hid ((Off.refl _ w).alloc _)
  have HT0 : Hid ((w.alloc (.cells #[.int .u8 X, .int .i64 I, .int .i64 N, .string s, kv] 32)).heap[w.heap.size]? = some (.cells #[.int .u8 X, .int .i64 I, .int .i64 N, .string s, kv] 32 (0, 0))) := Lib.hid (heap_alloc_new _ _)
  have HG := Lib.hid hg
  have HNW : Hid (w.heap.size = w.heap.size) := Lib.hid rfl
  have hl0 : leftI st = 0 := (left_gone HG.out).2 hgo
  rw [hl0] at HR0
  clear h hg
  go_enter Try.func15, Try.ntmps15
  go_upto_region 1 with fail
  generalize hob : w.heap.size = ob at *
  have HOB := Lib.hid hob
  clear hob HNW
  generalize w.alloc (.cells #[.int .u8 X, .int .i64 I, .int .i64 N, .string s, kv] 32) = W0 at *
  have o0 : W0.cell? ⟨ob, 0, none⟩ = some (.int .u8 X) := by rw [cell_of_row W0 ob _ _ _ _ HT0.out]; rfl
  have o1 : W0.cell? ⟨ob, 1, none⟩ = some (.int .i64 I) := by rw [cell_of_row W0 ob _ _ _ _ HT0.out]; rfl
  have o2 : W0.cell? ⟨ob, 2, none⟩ = some (.int .i64 N) := by rw [cell_of_row W0 ob _ _ _ _ HT0.out]; rfl
  have o3 : W0.cell? ⟨ob, 3, none⟩ = some (.string s) := by rw [cell_of_row W0 ob _ _ _ _ HT0.out]; rfl
  have o4 : W0.cell? ⟨ob, 4, none⟩ = some kv := by rw [cell_of_row W0 ob _ _ _ _ HT0.out]; rfl
  obtain ⟨c0, c1, c2, c3, c4⟩ := HR0.out.cells
  go_wp2
  go_ret2
  exact ⟨rfl, ⟨vs, ve, va, vd, by rw [hl0]; exact HR0.out⟩, HB0.out, HO0.out⟩
set_option maxHeartbeats 8000000 in
set_option maxRecDepth 100000 in
theorem do_lost1 (B r : Nat) (st : St) (X I N : Int) (s : ByteArray) (kv : Value) (w : World) (h : Ref B w r st) (hg : Good st) (hB : B ≤ w.heap.size) (hX0 : 0 ≤ X) (hX : X % 5 = 1) (hgo : goneB st = true) :
    Calls Try.prog 15 #[.pointer (some ⟨r, 0, none⟩), .agg #[.int .u8 X, .int .i64 I, .int .i64 N, .string s, kv]] w (DoPost B r st ⟨#[]⟩ 13 w) := by
  unfold DoPost
  obtain ⟨vs, ve, va, vd, h⟩ := h
  have hXT : X.tmod 5 = 1 := by rw [Int.tmod_eq_emod_of_nonneg hX0]; exact hX
  have HR0 : Hid (RefL B (w.alloc (.cells #[.int .u8 X, .int .i64 I, .int .i64 N, .string s, kv] 32)) r vs ve va vd st.safe st.now (ats st.pend) (dats st.pend) (leftI st)) := Lib.hid (h.alloc _)
  have HB0 : Hid (Below B w (w.alloc (.cells #[.int .u8 X, .int .i64 I, .int .i64 N, .string s, kv] 32))) := Lib.hid ((Below.refl _ w).alloc hB _)
  have HO0 : Hid (Off refTs w (w.alloc (.cells #[.int .u8 X, .int .i64 I, .int .i64 N, .string s, kv] 32))) := Lib.hid ((Off.refl _ w).alloc _)
  have HT0 : Hid ((w.alloc (.cells #[.int .u8 X, .int .i64 I, .int .i64 N, .string s, kv] 32)).heap[w.heap.size]? = some (.cells #[.int .u8 X, .int .i64 I, .int .i64 N, .string s, kv] 32 (0, 0))) := Lib.hid (heap_alloc_new _ _)
  have HG := Lib.hid hg
  have HNW : Hid (w.heap.size = w.heap.size) := Lib.hid rfl
  have hl0 : leftI st = 0 := (left_gone HG.out).2 hgo
  rw [hl0] at HR0
  clear h hg
  go_enter Try.func15, Try.ntmps15
  go_upto_region 1 with fail
  generalize hob : w.heap.size = ob at *
  have HOB := Lib.hid hob
  clear hob HNW
  generalize w.alloc (.cells #[.int .u8 X, .int .i64 I, .int .i64 N, .string s, kv] 32) = W0 at *
  have o0 : W0.cell? ⟨ob, 0, none⟩ = some (.int .u8 X) := by rw [cell_of_row W0 ob _ _ _ _ HT0.out]; rfl
  have o1 : W0.cell? ⟨ob, 1, none⟩ = some (.int .i64 I) := by rw [cell_of_row W0 ob _ _ _ _ HT0.out]; rfl
  have o2 : W0.cell? ⟨ob, 2, none⟩ = some (.int .i64 N) := by rw [cell_of_row W0 ob _ _ _ _ HT0.out]; rfl
  have o3 : W0.cell? ⟨ob, 3, none⟩ = some (.string s) := by rw [cell_of_row W0 ob _ _ _ _ HT0.out]; rfl
  have o4 : W0.cell? ⟨ob, 4, none⟩ = some kv := by rw [cell_of_row W0 ob _ _ _ _ HT0.out]; rfl
  obtain ⟨c0, c1, c2, c3, c4⟩ := HR0.out.cells
  go_wp2
  go_ret2
  exact ⟨rfl, ⟨vs, ve, va, vd, by rw [hl0]; exact HR0.out⟩, HB0.out, HO0.out⟩
set_option maxHeartbeats 8000000 in
set_option maxRecDepth 100000 in
theorem do_lost2 (B r : Nat) (st : St) (X I N : Int) (s : ByteArray) (kv : Value) (w : World) (h : Ref B w r st) (hg : Good st) (hB : B ≤ w.heap.size) (hX0 : 0 ≤ X) (hX : X % 5 = 2) (hgo : goneB st = true) :
    Calls Try.prog 15 #[.pointer (some ⟨r, 0, none⟩), .agg #[.int .u8 X, .int .i64 I, .int .i64 N, .string s, kv]] w (DoPost B r st ⟨#[]⟩ 13 w) := by
  unfold DoPost
  obtain ⟨vs, ve, va, vd, h⟩ := h
  have hXT : X.tmod 5 = 2 := by rw [Int.tmod_eq_emod_of_nonneg hX0]; exact hX
  have HR0 : Hid (RefL B (w.alloc (.cells #[.int .u8 X, .int .i64 I, .int .i64 N, .string s, kv] 32)) r vs ve va vd st.safe st.now (ats st.pend) (dats st.pend) (leftI st)) := Lib.hid (h.alloc _)
  have HB0 : Hid (Below B w (w.alloc (.cells #[.int .u8 X, .int .i64 I, .int .i64 N, .string s, kv] 32))) := Lib.hid ((Below.refl _ w).alloc hB _)
  have HO0 : Hid (Off refTs w (w.alloc (.cells #[.int .u8 X, .int .i64 I, .int .i64 N, .string s, kv] 32))) := Lib.hid ((Off.refl _ w).alloc _)
  have HT0 : Hid ((w.alloc (.cells #[.int .u8 X, .int .i64 I, .int .i64 N, .string s, kv] 32)).heap[w.heap.size]? = some (.cells #[.int .u8 X, .int .i64 I, .int .i64 N, .string s, kv] 32 (0, 0))) := Lib.hid (heap_alloc_new _ _)
  have HG := Lib.hid hg
  have HNW : Hid (w.heap.size = w.heap.size) := Lib.hid rfl
  have hl0 : leftI st = 0 := (left_gone HG.out).2 hgo
  rw [hl0] at HR0
  clear h hg
  go_enter Try.func15, Try.ntmps15
  go_upto_region 1 with fail
  generalize hob : w.heap.size = ob at *
  have HOB := Lib.hid hob
  clear hob HNW
  generalize w.alloc (.cells #[.int .u8 X, .int .i64 I, .int .i64 N, .string s, kv] 32) = W0 at *
  have o0 : W0.cell? ⟨ob, 0, none⟩ = some (.int .u8 X) := by rw [cell_of_row W0 ob _ _ _ _ HT0.out]; rfl
  have o1 : W0.cell? ⟨ob, 1, none⟩ = some (.int .i64 I) := by rw [cell_of_row W0 ob _ _ _ _ HT0.out]; rfl
  have o2 : W0.cell? ⟨ob, 2, none⟩ = some (.int .i64 N) := by rw [cell_of_row W0 ob _ _ _ _ HT0.out]; rfl
  have o3 : W0.cell? ⟨ob, 3, none⟩ = some (.string s) := by rw [cell_of_row W0 ob _ _ _ _ HT0.out]; rfl
  have o4 : W0.cell? ⟨ob, 4, none⟩ = some kv := by rw [cell_of_row W0 ob _ _ _ _ HT0.out]; rfl
  obtain ⟨c0, c1, c2, c3, c4⟩ := HR0.out.cells
  go_wp2
  go_ret2
  exact ⟨rfl, ⟨vs, ve, va, vd, by rw [hl0]; exact HR0.out⟩, HB0.out, HO0.out⟩
set_option maxHeartbeats 8000000 in
set_option maxRecDepth 100000 in
theorem do_get (B r : Nat) (st : St) (X N : Int) (k : Nat) (s : ByteArray) (kv : Value) (w : World) (h : Ref B w r st) (hg : Good st) (hB : B ≤ w.heap.size) (hX0 : 0 ≤ X) (hX : X % 5 = 1) (hk : k < st.now.length) (hgo : goneB st = false) :
    Calls Try.prog 15 #[.pointer (some ⟨r, 0, none⟩), .agg #[.int .u8 X, .int .i64 (k : Int), .int .i64 N, .string s, kv]] w (DoPost B r st (st.now.getD k ⟨#[]⟩) 0 w) := by
  unfold DoPost
  obtain ⟨vs, ve, va, vd, h⟩ := h
  have hXT : X.tmod 5 = 1 := by rw [Int.tmod_eq_emod_of_nonneg hX0]; exact hX
  have HR0 : Hid (RefL B (w.alloc (.cells #[.int .u8 X, .int .i64 (k : Int), .int .i64 N, .string s, kv] 32)) r vs ve va vd st.safe st.now (ats st.pend) (dats st.pend) (leftI st)) := Lib.hid (h.alloc _)
  have HB0 : Hid (Below B w (w.alloc (.cells #[.int .u8 X, .int .i64 (k : Int), .int .i64 N, .string s, kv] 32))) := Lib.hid ((Below.refl _ w).alloc hB _)
  have HO0 : Hid (Off refTs w (w.alloc (.cells #[.int .u8 X, .int .i64 (k : Int), .int .i64 N, .string s, kv] 32))) := Lib.hid ((Off.refl _ w).alloc _)
  have HT0 : Hid ((w.alloc (.cells #[.int .u8 X, .int .i64 (k : Int), .int .i64 N, .string s, kv] 32)).heap[w.heap.size]? = some (.cells #[.int .u8 X, .int .i64 (k : Int), .int .i64 N, .string s, kv] 32 (0, 0))) := Lib.hid (heap_alloc_new _ _)
  have HG := Lib.hid hg
  have HNW : Hid (w.heap.size = w.heap.size) := Lib.hid rfl
  have hln : (leftI st == 0) = false := by
    rw [beq_eq_false_iff_ne]
    intro e
    have := (left_gone HG.out).1 e
    rw [hgo] at this
    cases this
  obtain ⟨n, hn⟩ : ∃ n, st.now.length = n := ⟨_, rfl⟩
  have HN := Lib.hid hn
  obtain ⟨ge, cape, hve⟩ := h.nnil
  rw [hn] at hve
  subst hve
  have hx : st.now[k]? = some (st.now.getD k ⟨#[]⟩) := by rw [List.getD_eq_getElem?_getD, List.getElem?_eq_getElem hk]; rfl
  have hsc : ∀ W : World, W.ownsRow B 9 1 (.slice (some ⟨ge, 0, none⟩) n cape) n (strs st.now) → W.cell? ⟨ge, k, none⟩ = some (.string (st.now.getD k ⟨#[]⟩)) := fun W hW => by
    rw [(own_cell hW (by omega)).1]
    unfold strs
    rw [List.getElem?_map, hx]
    rfl
  have HSC := Lib.hid hsc
  have hkz : (k : Int) < (n : Int) := by omega
  clear hx hsc hk hn
  clear h hg
  go_enter Try.func15, Try.ntmps15
  go_upto_region 1 with fail
  generalize hob : w.heap.size = ob at *
  have HOB := Lib.hid hob
  clear hob HNW
  generalize w.alloc (.cells #[.int .u8 X, .int .i64 (k : Int), .int .i64 N, .string s, kv] 32) = W0 at *
  have o0 : W0.cell? ⟨ob, 0, none⟩ = some (.int .u8 X) := by rw [cell_of_row W0 ob _ _ _ _ HT0.out]; rfl
  have o1 : W0.cell? ⟨ob, 1, none⟩ = some (.int .i64 (k : Int)) := by rw [cell_of_row W0 ob _ _ _ _ HT0.out]; rfl
  have o2 : W0.cell? ⟨ob, 2, none⟩ = some (.int .i64 N) := by rw [cell_of_row W0 ob _ _ _ _ HT0.out]; rfl
  have o3 : W0.cell? ⟨ob, 3, none⟩ = some (.string s) := by rw [cell_of_row W0 ob _ _ _ _ HT0.out]; rfl
  have o4 : W0.cell? ⟨ob, 4, none⟩ = some kv := by rw [cell_of_row W0 ob _ _ _ _ HT0.out]; rfl
  obtain ⟨c0, c1, c2, c3, c4⟩ := HR0.out.cells
  have HQR : Hid (∀ q, RefL B (W0.drewN q) r vs (.slice (some ⟨ge, 0, none⟩) n cape) va vd st.safe st.now (ats st.pend) (dats st.pend) (leftI st)) := Lib.hid (fun q => HR0.out.drewN q)
  have HQO : Hid (∀ q, (W0.drewN q).heap[ob]? = some (.cells #[.int .u8 X, .int .i64 (k : Int), .int .i64 N, .string s, kv] 32 (0, 0))) := Lib.hid (fun q => ((Off.refl [] W0).drewN q) _ (by simp) _ _ _ HT0.out)
  have e1 : W0.drew.cell? ⟨ob, 1, none⟩ = some (.int .i64 (k : Int)) := o1
  have e2 : W0.drew.cell? ⟨r, 1, none⟩ = some (.slice (some ⟨ge, 0, none⟩) n cape) := c1
  go_wp2
  go_quiet (fail)
  have HR1 := Lib.hid (HQR.out nq)
  have HT1 := Lib.hid (HQO.out nq)
  have HB1 : Hid (Below B w (W0.drewN nq)) := Lib.hid (Below.drewM HB0.out nq)
  have HO1 : Hid (Off refTs w (W0.drewN nq)) := Lib.hid (HO0.out.drewN nq)
  clear e1 e2 o0 o1 o2 o3 o4 c0 c1 c2 c3 c4 HQR HQO
  go_upto_region 16 with fail
  generalize W0.drewN nq = W1 at *
  have e1 : W1.drew.cell? ⟨ob, 1, none⟩ = some (.int .i64 (k : Int)) := by show W1.cell? _ = _; rw [cell_of_row W1 ob _ _ _ _ HT1.out]; rfl
  have e2 : W1.drew.cell? ⟨r, 1, none⟩ = some (.slice (some ⟨ge, 0, none⟩) n cape) := HR1.out.cells.2.1
  have e3 : W1.drew.cell? ⟨ge, k, none⟩ = some (.string (st.now.getD k ⟨#[]⟩)) := HSC.out W1 (by have := HR1.out.sn; rwa [HN.out] at this)
  generalize hxx : st.now.getD k ⟨#[]⟩ = x at *
  have f1 : W1.cell? ⟨ob, 1, none⟩ = some (.int .i64 (k : Int)) := e1
  have f2 : W1.cell? ⟨r, 1, none⟩ = some (.slice (some ⟨ge, 0, none⟩) n cape) := e2
  have f3 : W1.cell? ⟨ge, k, none⟩ = some (.string x) := e3
  have HXX := Lib.hid hxx
  clear hxx
  go_quiet (fail)
  go_wp2
  go_ret2
  exact ⟨by rw [HXX.out]; rfl, ⟨vs, _, va, vd, HR1.out.drewN _⟩, Below.drewM HB1.out _, HO1.out.drewN _⟩
set_option maxHeartbeats 8000000 in
set_option maxRecDepth 100000 in
theorem do_arg0neg (B r : Nat) (st : St) (X I N : Int) (s : ByteArray) (kv : Value) (w : World) (h : Ref B w r st) (hg : Good st) (hB : B ≤ w.heap.size) (hX0 : 0 ≤ X) (hX : X % 5 = 0) (hI : I < 0) (hgo : goneB st = false) :
    Calls Try.prog 15 #[.pointer (some ⟨r, 0, none⟩), .agg #[.int .u8 X, .int .i64 I, .int .i64 N, .string s, kv]] w (DoPost B r st ⟨#[]⟩ 1 w) := by
  unfold DoPost
  obtain ⟨vs, ve, va, vd, h⟩ := h
  have hXT : X.tmod 5 = 0 := by rw [Int.tmod_eq_emod_of_nonneg hX0]; exact hX
  have HR0 : Hid (RefL B (w.alloc (.cells #[.int .u8 X, .int .i64 I, .int .i64 N, .string s, kv] 32)) r vs ve va vd st.safe st.now (ats st.pend) (dats st.pend) (leftI st)) := Lib.hid (h.alloc _)
  have HB0 : Hid (Below B w (w.alloc (.cells #[.int .u8 X, .int .i64 I, .int .i64 N, .string s, kv] 32))) := Lib.hid ((Below.refl _ w).alloc hB _)
  have HO0 : Hid (Off refTs w (w.alloc (.cells #[.int .u8 X, .int .i64 I, .int .i64 N, .string s, kv] 32))) := Lib.hid ((Off.refl _ w).alloc _)
  have HT0 : Hid ((w.alloc (.cells #[.int .u8 X, .int .i64 I, .int .i64 N, .string s, kv] 32)).heap[w.heap.size]? = some (.cells #[.int .u8 X, .int .i64 I, .int .i64 N, .string s, kv] 32 (0, 0))) := Lib.hid (heap_alloc_new _ _)
  have HG := Lib.hid hg
  have HNW : Hid (w.heap.size = w.heap.size) := Lib.hid rfl
  have hln : (leftI st == 0) = false := by
    rw [beq_eq_false_iff_ne]
    intro e
    have := (left_gone HG.out).1 e
    rw [hgo] at this
    cases this
  obtain ⟨n, hn⟩ : ∃ n, st.now.length = n := ⟨_, rfl⟩
  have HN := Lib.hid hn
  obtain ⟨ge, cape, hve⟩ := h.nnil
  rw [hn] at hve
  subst hve
  clear hn
  clear h hg
  go_enter Try.func15, Try.ntmps15
  go_upto_region 1 with fail
  generalize hob : w.heap.size = ob at *
  have HOB := Lib.hid hob
  clear hob HNW
  generalize w.alloc (.cells #[.int .u8 X, .int .i64 I, .int .i64 N, .string s, kv] 32) = W0 at *
  have o0 : W0.cell? ⟨ob, 0, none⟩ = some (.int .u8 X) := by rw [cell_of_row W0 ob _ _ _ _ HT0.out]; rfl
  have o1 : W0.cell? ⟨ob, 1, none⟩ = some (.int .i64 I) := by rw [cell_of_row W0 ob _ _ _ _ HT0.out]; rfl
  have o2 : W0.cell? ⟨ob, 2, none⟩ = some (.int .i64 N) := by rw [cell_of_row W0 ob _ _ _ _ HT0.out]; rfl
  have o3 : W0.cell? ⟨ob, 3, none⟩ = some (.string s) := by rw [cell_of_row W0 ob _ _ _ _ HT0.out]; rfl
  have o4 : W0.cell? ⟨ob, 4, none⟩ = some kv := by rw [cell_of_row W0 ob _ _ _ _ HT0.out]; rfl
  obtain ⟨c0, c1, c2, c3, c4⟩ := HR0.out.cells
  have HQR : Hid (∀ q, RefL B (W0.drewN q) r vs (.slice (some ⟨ge, 0, none⟩) n cape) va vd st.safe st.now (ats st.pend) (dats st.pend) (leftI st)) := Lib.hid (fun q => HR0.out.drewN q)
  have HQO : Hid (∀ q, (W0.drewN q).heap[ob]? = some (.cells #[.int .u8 X, .int .i64 I, .int .i64 N, .string s, kv] 32 (0, 0))) := Lib.hid (fun q => ((Off.refl [] W0).drewN q) _ (by simp) _ _ _ HT0.out)
  have e1 : W0.drew.cell? ⟨ob, 1, none⟩ = some (.int .i64 I) := o1
  have e2 : W0.drew.cell? ⟨r, 1, none⟩ = some (.slice (some ⟨ge, 0, none⟩) n cape) := c1
  go_wp2
  go_quiet (fail)
  have HR1 := Lib.hid (HQR.out nq)
  have HB1 : Hid (Below B w (W0.drewN nq)) := Lib.hid (Below.drewM HB0.out nq)
  have HO1 : Hid (Off refTs w (W0.drewN nq)) := Lib.hid (HO0.out.drewN nq)
  go_wp2
  go_ret2
  exact ⟨rfl, ⟨vs, _, va, vd, HR1.out⟩, HB1.out, HO1.out⟩
set_option maxHeartbeats 8000000 in
set_option maxRecDepth 100000 in
theorem do_arg0big (B r : Nat) (st : St) (X I N : Int) (s : ByteArray) (kv : Value) (w : World) (h : Ref B w r st) (hg : Good st) (hB : B ≤ w.heap.size) (hX0 : 0 ≤ X) (hX : X % 5 = 0) (hI0 : 0 ≤ I) (hI : (st.now.length : Int) ≤ I) (hgo : goneB st = false) :
    Calls Try.prog 15 #[.pointer (some ⟨r, 0, none⟩), .agg #[.int .u8 X, .int .i64 I, .int .i64 N, .string s, kv]] w (DoPost B r st ⟨#[]⟩ 1 w) := by
  unfold DoPost
  obtain ⟨vs, ve, va, vd, h⟩ := h
  have hXT : X.tmod 5 = 0 := by rw [Int.tmod_eq_emod_of_nonneg hX0]; exact hX
  have HR0 : Hid (RefL B (w.alloc (.cells #[.int .u8 X, .int .i64 I, .int .i64 N, .string s, kv] 32)) r vs ve va vd st.safe st.now (ats st.pend) (dats st.pend) (leftI st)) := Lib.hid (h.alloc _)
  have HB0 : Hid (Below B w (w.alloc (.cells #[.int .u8 X, .int .i64 I, .int .i64 N, .string s, kv] 32))) := Lib.hid ((Below.refl _ w).alloc hB _)
  have HO0 : Hid (Off refTs w (w.alloc (.cells #[.int .u8 X, .int .i64 I, .int .i64 N, .string s, kv] 32))) := Lib.hid ((Off.refl _ w).alloc _)
  have HT0 : Hid ((w.alloc (.cells #[.int .u8 X, .int .i64 I, .int .i64 N, .string s, kv] 32)).heap[w.heap.size]? = some (.cells #[.int .u8 X, .int .i64 I, .int .i64 N, .string s, kv] 32 (0, 0))) := Lib.hid (heap_alloc_new _ _)
  have HG := Lib.hid hg
  have HNW : Hid (w.heap.size = w.heap.size) := Lib.hid rfl
  have hln : (leftI st == 0) = false := by
    rw [beq_eq_false_iff_ne]
    intro e
    have := (left_gone HG.out).1 e
    rw [hgo] at this
    cases this
  obtain ⟨n, hn⟩ : ∃ n, st.now.length = n := ⟨_, rfl⟩
  have HN := Lib.hid hn
  obtain ⟨ge, cape, hve⟩ := h.nnil
  rw [hn] at hve
  subst hve
  have hni : ¬ (I < 0) := by omega
  rw [hn] at hI
  clear hn
  clear h hg
  go_enter Try.func15, Try.ntmps15
  go_upto_region 1 with fail
  generalize hob : w.heap.size = ob at *
  have HOB := Lib.hid hob
  clear hob HNW
  generalize w.alloc (.cells #[.int .u8 X, .int .i64 I, .int .i64 N, .string s, kv] 32) = W0 at *
  have o0 : W0.cell? ⟨ob, 0, none⟩ = some (.int .u8 X) := by rw [cell_of_row W0 ob _ _ _ _ HT0.out]; rfl
  have o1 : W0.cell? ⟨ob, 1, none⟩ = some (.int .i64 I) := by rw [cell_of_row W0 ob _ _ _ _ HT0.out]; rfl
  have o2 : W0.cell? ⟨ob, 2, none⟩ = some (.int .i64 N) := by rw [cell_of_row W0 ob _ _ _ _ HT0.out]; rfl
  have o3 : W0.cell? ⟨ob, 3, none⟩ = some (.string s) := by rw [cell_of_row W0 ob _ _ _ _ HT0.out]; rfl
  have o4 : W0.cell? ⟨ob, 4, none⟩ = some kv := by rw [cell_of_row W0 ob _ _ _ _ HT0.out]; rfl
  obtain ⟨c0, c1, c2, c3, c4⟩ := HR0.out.cells
  have HQR : Hid (∀ q, RefL B (W0.drewN q) r vs (.slice (some ⟨ge, 0, none⟩) n cape) va vd st.safe st.now (ats st.pend) (dats st.pend) (leftI st)) := Lib.hid (fun q => HR0.out.drewN q)
  have HQO : Hid (∀ q, (W0.drewN q).heap[ob]? = some (.cells #[.int .u8 X, .int .i64 I, .int .i64 N, .string s, kv] 32 (0, 0))) := Lib.hid (fun q => ((Off.refl [] W0).drewN q) _ (by simp) _ _ _ HT0.out)
  have e1 : W0.drew.cell? ⟨ob, 1, none⟩ = some (.int .i64 I) := o1
  have e2 : W0.drew.cell? ⟨r, 1, none⟩ = some (.slice (some ⟨ge, 0, none⟩) n cape) := c1
  go_wp2
  go_quiet (fail)
  have HR1 := Lib.hid (HQR.out nq)
  have HB1 : Hid (Below B w (W0.drewN nq)) := Lib.hid (Below.drewM HB0.out nq)
  have HO1 : Hid (Off refTs w (W0.drewN nq)) := Lib.hid (HO0.out.drewN nq)
  go_wp2
  go_ret2
  exact ⟨rfl, ⟨vs, _, va, vd, HR1.out⟩, HB1.out, HO1.out⟩
set_option maxHeartbeats 8000000 in
set_option maxRecDepth 100000 in
theorem do_arg1neg (B r : Nat) (st : St) (X I N : Int) (s : ByteArray) (kv : Value) (w : World) (h : Ref B w r st) (hg : Good st) (hB : B ≤ w.heap.size) (hX0 : 0 ≤ X) (hX : X % 5 = 1) (hI : I < 0) (hgo : goneB st = false) :
    Calls Try.prog 15 #[.pointer (some ⟨r, 0, none⟩), .agg #[.int .u8 X, .int .i64 I, .int .i64 N, .string s, kv]] w (DoPost B r st ⟨#[]⟩ 1 w) := by
  unfold DoPost
  obtain ⟨vs, ve, va, vd, h⟩ := h
  have hXT : X.tmod 5 = 1 := by rw [Int.tmod_eq_emod_of_nonneg hX0]; exact hX
  have HR0 : Hid (RefL B (w.alloc (.cells #[.int .u8 X, .int .i64 I, .int .i64 N, .string s, kv] 32)) r vs ve va vd st.safe st.now (ats st.pend) (dats st.pend) (leftI st)) := Lib.hid (h.alloc _)
  have HB0 : Hid (Below B w (w.alloc (.cells #[.int .u8 X, .int .i64 I, .int .i64 N, .string s, kv] 32))) := Lib.hid ((Below.refl _ w).alloc hB _)
  have HO0 : Hid (Off refTs w (w.alloc (.cells #[.int .u8 X, .int .i64 I, .int .i64 N, .string s, kv] 32))) := Lib.hid ((Off.refl _ w).alloc _)
  have HT0 : Hid ((w.alloc (.cells #[.int .u8 X, .int .i64 I, .int .i64 N, .string s, kv] 32)).heap[w.heap.size]? = some (.cells #[.int .u8 X, .int .i64 I, .int .i64 N, .string s, kv] 32 (0, 0))) := Lib.hid (heap_alloc_new _ _)
  have HG := Lib.hid hg
  have HNW : Hid (w.heap.size = w.heap.size) := Lib.hid rfl
  have hln : (leftI st == 0) = false := by
    rw [beq_eq_false_iff_ne]
    intro e
    have := (left_gone HG.out).1 e
    rw [hgo] at this
    cases this
  obtain ⟨n, hn⟩ : ∃ n, st.now.length = n := ⟨_, rfl⟩
  have HN := Lib.hid hn
  obtain ⟨ge, cape, hve⟩ := h.nnil
  rw [hn] at hve
  subst hve
  clear hn
  clear h hg
  go_enter Try.func15, Try.ntmps15
  go_upto_region 1 with fail
  generalize hob : w.heap.size = ob at *
  have HOB := Lib.hid hob
  clear hob HNW
  generalize w.alloc (.cells #[.int .u8 X, .int .i64 I, .int .i64 N, .string s, kv] 32) = W0 at *
  have o0 : W0.cell? ⟨ob, 0, none⟩ = some (.int .u8 X) := by rw [cell_of_row W0 ob _ _ _ _ HT0.out]; rfl
  have o1 : W0.cell? ⟨ob, 1, none⟩ = some (.int .i64 I) := by rw [cell_of_row W0 ob _ _ _ _ HT0.out]; rfl
  have o2 : W0.cell? ⟨ob, 2, none⟩ = some (.int .i64 N) := by rw [cell_of_row W0 ob _ _ _ _ HT0.out]; rfl
  have o3 : W0.cell? ⟨ob, 3, none⟩ = some (.string s) := by rw [cell_of_row W0 ob _ _ _ _ HT0.out]; rfl
  have o4 : W0.cell? ⟨ob, 4, none⟩ = some kv := by rw [cell_of_row W0 ob _ _ _ _ HT0.out]; rfl
  obtain ⟨c0, c1, c2, c3, c4⟩ := HR0.out.cells
  have HQR : Hid (∀ q, RefL B (W0.drewN q) r vs (.slice (some ⟨ge, 0, none⟩) n cape) va vd st.safe st.now (ats st.pend) (dats st.pend) (leftI st)) := Lib.hid (fun q => HR0.out.drewN q)
  have HQO : Hid (∀ q, (W0.drewN q).heap[ob]? = some (.cells #[.int .u8 X, .int .i64 I, .int .i64 N, .string s, kv] 32 (0, 0))) := Lib.hid (fun q => ((Off.refl [] W0).drewN q) _ (by simp) _ _ _ HT0.out)
  have e1 : W0.drew.cell? ⟨ob, 1, none⟩ = some (.int .i64 I) := o1
  have e2 : W0.drew.cell? ⟨r, 1, none⟩ = some (.slice (some ⟨ge, 0, none⟩) n cape) := c1
  go_wp2
  go_quiet (fail)
  have HR1 := Lib.hid (HQR.out nq)
  have HB1 : Hid (Below B w (W0.drewN nq)) := Lib.hid (Below.drewM HB0.out nq)
  have HO1 : Hid (Off refTs w (W0.drewN nq)) := Lib.hid (HO0.out.drewN nq)
  go_wp2
  go_ret2
  exact ⟨rfl, ⟨vs, _, va, vd, HR1.out⟩, HB1.out, HO1.out⟩
set_option maxHeartbeats 8000000 in
set_option maxRecDepth 100000 in
theorem do_arg1big (B r : Nat) (st : St) (X I N : Int) (s : ByteArray) (kv : Value) (w : World) (h : Ref B w r st) (hg : Good st) (hB : B ≤ w.heap.size) (hX0 : 0 ≤ X) (hX : X % 5 = 1) (hI0 : 0 ≤ I) (hI : (st.now.length : Int) ≤ I) (hgo : goneB st = false) :
    Calls Try.prog 15 #[.pointer (some ⟨r, 0, none⟩), .agg #[.int .u8 X, .int .i64 I, .int .i64 N, .string s, kv]] w (DoPost B r st ⟨#[]⟩ 1 w) := by
  unfold DoPost
  obtain ⟨vs, ve, va, vd, h⟩ := h
  have hXT : X.tmod 5 = 1 := by rw [Int.tmod_eq_emod_of_nonneg hX0]; exact hX
  have HR0 : Hid (RefL B (w.alloc (.cells #[.int .u8 X, .int .i64 I, .int .i64 N, .string s, kv] 32)) r vs ve va vd st.safe st.now (ats st.pend) (dats st.pend) (leftI st)) := Lib.hid (h.alloc _)
  have HB0 : Hid (Below B w (w.alloc (.cells #[.int .u8 X, .int .i64 I, .int .i64 N, .string s, kv] 32))) := Lib.hid ((Below.refl _ w).alloc hB _)
  have HO0 : Hid (Off refTs w (w.alloc (.cells #[.int .u8 X, .int .i64 I, .int .i64 N, .string s, kv] 32))) := Lib.hid ((Off.refl _ w).alloc _)
  have HT0 : Hid ((w.alloc (.cells #[.int .u8 X, .int .i64 I, .int .i64 N, .string s, kv] 32)).heap[w.heap.size]? = some (.cells #[.int .u8 X, .int .i64 I, .int .i64 N, .string s, kv] 32 (0, 0))) := Lib.hid (heap_alloc_new _ _)
  have HG := Lib.hid hg
  have HNW : Hid (w.heap.size = w.heap.size) := Lib.hid rfl
  have hln : (leftI st == 0) = false := by
    rw [beq_eq_false_iff_ne]
    intro e
    have := (left_gone HG.out).1 e
    rw [hgo] at this
    cases this
  obtain ⟨n, hn⟩ : ∃ n, st.now.length = n := ⟨_, rfl⟩
  have HN := Lib.hid hn
  obtain ⟨ge, cape, hve⟩ := h.nnil
  rw [hn] at hve
  subst hve
  have hni : ¬ (I < 0) := by omega
  rw [hn] at hI
  clear hn
  clear h hg
  go_enter Try.func15, Try.ntmps15
  go_upto_region 1 with fail
  generalize hob : w.heap.size = ob at *
  have HOB := Lib.hid hob
  clear hob HNW
  generalize w.alloc (.cells #[.int .u8 X, .int .i64 I, .int .i64 N, .string s, kv] 32) = W0 at *
  have o0 : W0.cell? ⟨ob, 0, none⟩ = some (.int .u8 X) := by rw [cell_of_row W0 ob _ _ _ _ HT0.out]; rfl
  have o1 : W0.cell? ⟨ob, 1, none⟩ = some (.int .i64 I) := by rw [cell_of_row W0 ob _ _ _ _ HT0.out]; rfl
  have o2 : W0.cell? ⟨ob, 2, none⟩ = some (.int .i64 N) := by rw [cell_of_row W0 ob _ _ _ _ HT0.out]; rfl
  have o3 : W0.cell? ⟨ob, 3, none⟩ = some (.string s) := by rw [cell_of_row W0 ob _ _ _ _ HT0.out]; rfl
  have o4 : W0.cell? ⟨ob, 4, none⟩ = some kv := by rw [cell_of_row W0 ob _ _ _ _ HT0.out]; rfl
  obtain ⟨c0, c1, c2, c3, c4⟩ := HR0.out.cells
  have HQR : Hid (∀ q, RefL B (W0.drewN q) r vs (.slice (some ⟨ge, 0, none⟩) n cape) va vd st.safe st.now (ats st.pend) (dats st.pend) (leftI st)) := Lib.hid (fun q => HR0.out.drewN q)
  have HQO : Hid (∀ q, (W0.drewN q).heap[ob]? = some (.cells #[.int .u8 X, .int .i64 I, .int .i64 N, .string s, kv] 32 (0, 0))) := Lib.hid (fun q => ((Off.refl [] W0).drewN q) _ (by simp) _ _ _ HT0.out)
  have e1 : W0.drew.cell? ⟨ob, 1, none⟩ = some (.int .i64 I) := o1
  have e2 : W0.drew.cell? ⟨r, 1, none⟩ = some (.slice (some ⟨ge, 0, none⟩) n cape) := c1
  go_wp2
  go_quiet (fail)
  have HR1 := Lib.hid (HQR.out nq)
  have HB1 : Hid (Below B w (W0.drewN nq)) := Lib.hid (Below.drewM HB0.out nq)
  have HO1 : Hid (Off refTs w (W0.drewN nq)) := Lib.hid (HO0.out.drewN nq)
  go_wp2
  go_ret2
  exact ⟨rfl, ⟨vs, _, va, vd, HR1.out⟩, HB1.out, HO1.out⟩
set_option maxHeartbeats 8000000 in
set_option maxRecDepth 100000 in
theorem do_len (B r : Nat) (st : St) (X N : Int) (k : Nat) (s : ByteArray) (kv : Value) (w : World) (h : Ref B w r st) (hg : Good st) (hB : B ≤ w.heap.size) (hX0 : 0 ≤ X) (hX : X % 5 = 0) (hk : k < st.now.length) (hs : s.size ≠ 64) (hgo : goneB st = false) :
    Calls Try.prog 15 #[.pointer (some ⟨r, 0, none⟩), .agg #[.int .u8 X, .int .i64 (k : Int), .int .i64 N, .string s, kv]] w (DoPost B r st ⟨#[]⟩ 1 w) := by
  unfold DoPost
  obtain ⟨vs, ve, va, vd, h⟩ := h
  have hXT : X.tmod 5 = 0 := by rw [Int.tmod_eq_emod_of_nonneg hX0]; exact hX
  have HR0 : Hid (RefL B (w.alloc (.cells #[.int .u8 X, .int .i64 (k : Int), .int .i64 N, .string s, kv] 32)) r vs ve va vd st.safe st.now (ats st.pend) (dats st.pend) (leftI st)) := Lib.hid (h.alloc _)
  have HB0 : Hid (Below B w (w.alloc (.cells #[.int .u8 X, .int .i64 (k : Int), .int .i64 N, .string s, kv] 32))) := Lib.hid ((Below.refl _ w).alloc hB _)
  have HO0 : Hid (Off refTs w (w.alloc (.cells #[.int .u8 X, .int .i64 (k : Int), .int .i64 N, .string s, kv] 32))) := Lib.hid ((Off.refl _ w).alloc _)
  have HT0 : Hid ((w.alloc (.cells #[.int .u8 X, .int .i64 (k : Int), .int .i64 N, .string s, kv] 32)).heap[w.heap.size]? = some (.cells #[.int .u8 X, .int .i64 (k : Int), .int .i64 N, .string s, kv] 32 (0, 0))) := Lib.hid (heap_alloc_new _ _)
  have HG := Lib.hid hg
  have HNW : Hid (w.heap.size = w.heap.size) := Lib.hid rfl
  have hln : (leftI st == 0) = false := by
    rw [beq_eq_false_iff_ne]
    intro e
    have := (left_gone HG.out).1 e
    rw [hgo] at this
    cases this
  obtain ⟨n, hn⟩ : ∃ n, st.now.length = n := ⟨_, rfl⟩
  have HN := Lib.hid hn
  obtain ⟨ge, cape, hve⟩ := h.nnil
  rw [hn] at hve
  subst hve
  have hkz : (k : Int) < (n : Int) := by omega
  have hnez : ((s.size : Int) == 64) = false := by rw [beq_eq_false_iff_ne]; omega
  have hnez2 : ((s.size : Int) != 64) = true := by rw [bne, hnez]; rfl
  clear hk hn
  clear h hg
  go_enter Try.func15, Try.ntmps15
  go_upto_region 1 with fail
  generalize hob : w.heap.size = ob at *
  have HOB := Lib.hid hob
  clear hob HNW
  generalize w.alloc (.cells #[.int .u8 X, .int .i64 (k : Int), .int .i64 N, .string s, kv] 32) = W0 at *
  have o0 : W0.cell? ⟨ob, 0, none⟩ = some (.int .u8 X) := by rw [cell_of_row W0 ob _ _ _ _ HT0.out]; rfl
  have o1 : W0.cell? ⟨ob, 1, none⟩ = some (.int .i64 (k : Int)) := by rw [cell_of_row W0 ob _ _ _ _ HT0.out]; rfl
  have o2 : W0.cell? ⟨ob, 2, none⟩ = some (.int .i64 N) := by rw [cell_of_row W0 ob _ _ _ _ HT0.out]; rfl
  have o3 : W0.cell? ⟨ob, 3, none⟩ = some (.string s) := by rw [cell_of_row W0 ob _ _ _ _ HT0.out]; rfl
  have o4 : W0.cell? ⟨ob, 4, none⟩ = some kv := by rw [cell_of_row W0 ob _ _ _ _ HT0.out]; rfl
  obtain ⟨c0, c1, c2, c3, c4⟩ := HR0.out.cells
  have HQR : Hid (∀ q, RefL B (W0.drewN q) r vs (.slice (some ⟨ge, 0, none⟩) n cape) va vd st.safe st.now (ats st.pend) (dats st.pend) (leftI st)) := Lib.hid (fun q => HR0.out.drewN q)
  have HQO : Hid (∀ q, (W0.drewN q).heap[ob]? = some (.cells #[.int .u8 X, .int .i64 (k : Int), .int .i64 N, .string s, kv] 32 (0, 0))) := Lib.hid (fun q => ((Off.refl [] W0).drewN q) _ (by simp) _ _ _ HT0.out)
  have e1 : W0.drew.cell? ⟨ob, 1, none⟩ = some (.int .i64 (k : Int)) := o1
  have e2 : W0.drew.cell? ⟨r, 1, none⟩ = some (.slice (some ⟨ge, 0, none⟩) n cape) := c1
  go_wp2
  go_quiet (fail)
  have HR1 := Lib.hid (HQR.out nq)
  have HB1 : Hid (Below B w (W0.drewN nq)) := Lib.hid (Below.drewM HB0.out nq)
  have HO1 : Hid (Off refTs w (W0.drewN nq)) := Lib.hid (HO0.out.drewN nq)
  have f3 : (W0.drewN nq).cell? ⟨ob, 3, none⟩ = some (.string s) := by rw [cell_of_row _ ob _ _ _ _ (HQO.out nq)]; rfl
  go_wp2
  go_ret2
  exact ⟨rfl, ⟨vs, _, va, vd, HR1.out⟩, HB1.out, HO1.out⟩
set_option maxHeartbeats 8000000 in
set_option maxRecDepth 100000 in
theorem do_cutgone (B r : Nat) (st : St) (X I N : Int) (s : ByteArray) (kv : Value) (w : World) (h : Ref B w r st) (hg : Good st) (hB : B ≤ w.heap.size) (hX0 : 0 ≤ X) (hX : X % 5 = 3) (hgo : goneB st = true) :
    Calls Try.prog 15 #[.pointer (some ⟨r, 0, none⟩), .agg #[.int .u8 X, .int .i64 I, .int .i64 N, .string s, kv]] w (DoPost B r st ⟨#[]⟩ 0 w) := by
  unfold DoPost
  obtain ⟨vs, ve, va, vd, h⟩ := h
  have hXT : X.tmod 5 = 3 := by rw [Int.tmod_eq_emod_of_nonneg hX0]; exact hX
  have HR0 : Hid (RefL B (w.alloc (.cells #[.int .u8 X, .int .i64 I, .int .i64 N, .string s, kv] 32)) r vs ve va vd st.safe st.now (ats st.pend) (dats st.pend) (leftI st)) := Lib.hid (h.alloc _)
  have HB0 : Hid (Below B w (w.alloc (.cells #[.int .u8 X, .int .i64 I, .int .i64 N, .string s, kv] 32))) := Lib.hid ((Below.refl _ w).alloc hB _)
  have HO0 : Hid (Off refTs w (w.alloc (.cells #[.int .u8 X, .int .i64 I, .int .i64 N, .string s, kv] 32))) := Lib.hid ((Off.refl _ w).alloc _)
  have HT0 : Hid ((w.alloc (.cells #[.int .u8 X, .int .i64 I, .int .i64 N, .string s, kv] 32)).heap[w.heap.size]? = some (.cells #[.int .u8 X, .int .i64 I, .int .i64 N, .string s, kv] 32 (0, 0))) := Lib.hid (heap_alloc_new _ _)
  have HG := Lib.hid hg
  have HNW : Hid (w.heap.size = w.heap.size) := Lib.hid rfl
  have hl0 : leftI st = 0 := (left_gone HG.out).2 hgo
  rw [hl0] at HR0
  clear h hg
  go_enter Try.func15, Try.ntmps15
  go_upto_region 1 with fail
  generalize hob : w.heap.size = ob at *
  have HOB := Lib.hid hob
  clear hob HNW
  generalize w.alloc (.cells #[.int .u8 X, .int .i64 I, .int .i64 N, .string s, kv] 32) = W0 at *
  have o0 : W0.cell? ⟨ob, 0, none⟩ = some (.int .u8 X) := by rw [cell_of_row W0 ob _ _ _ _ HT0.out]; rfl
  have o1 : W0.cell? ⟨ob, 1, none⟩ = some (.int .i64 I) := by rw [cell_of_row W0 ob _ _ _ _ HT0.out]; rfl
  have o2 : W0.cell? ⟨ob, 2, none⟩ = some (.int .i64 N) := by rw [cell_of_row W0 ob _ _ _ _ HT0.out]; rfl
  have o3 : W0.cell? ⟨ob, 3, none⟩ = some (.string s) := by rw [cell_of_row W0 ob _ _ _ _ HT0.out]; rfl
  have o4 : W0.cell? ⟨ob, 4, none⟩ = some kv := by rw [cell_of_row W0 ob _ _ _ _ HT0.out]; rfl
  obtain ⟨c0, c1, c2, c3, c4⟩ := HR0.out.cells
  go_wp2
  go_quiet (fail)
  have HR1 := Lib.hid (HR0.out.drewN nq)
  have HT1 : Hid ((W0.drewN nq).heap[ob]? = some (.cells #[.int .u8 X, .int .i64 I, .int .i64 N, .string s, kv] 32 (0, 0))) := Lib.hid (((Off.refl [] W0).drewN nq) _ (by simp) _ _ _ HT0.out)
  have HB1 : Hid (Below B w (W0.drewN nq)) := Lib.hid (Below.drewM HB0.out nq)
  have HO1 : Hid (Off refTs w (W0.drewN nq)) := Lib.hid (HO0.out.drewN nq)
  clear o0 o1 o2 o3 o4 c0 c1 c2 c3 c4 HR0 HB0 HO0 HT0
  generalize W0.drewN nq = W1 at *
  have o1 : W1.cell? ⟨ob, 1, none⟩ = some (.int .i64 I) := by rw [cell_of_row W1 ob _ _ _ _ HT1.out]; rfl
  have o2 : W1.cell? ⟨ob, 2, none⟩ = some (.int .i64 N) := by rw [cell_of_row W1 ob _ _ _ _ HT1.out]; rfl
  have o3 : W1.cell? ⟨ob, 3, none⟩ = some (.string s) := by rw [cell_of_row W1 ob _ _ _ _ HT1.out]; rfl
  have o4 : W1.cell? ⟨ob, 4, none⟩ = some kv := by rw [cell_of_row W1 ob _ _ _ _ HT1.out]; rfl
  obtain ⟨c0, c1, c2, c3, c4⟩ := HR1.out.cells
  go_wp2
  go_ret2
  exact ⟨rfl, ⟨vs, ve, va, vd, by rw [hl0]; exact HR1.out⟩, HB1.out, HO1.out⟩
set_option maxHeartbeats 8000000 in
set_option maxRecDepth 100000 in
theorem do_cutpos (B r : Nat) (st : St) (X I N : Int) (s : ByteArray) (kv : Value) (w : World) (h : Ref B w r st) (hg : Good st) (hB : B ≤ w.heap.size) (hX0 : 0 ≤ X) (hX : X % 5 = 3) (hgo : goneB st = false) (hN : 0 ≤ N) :
    Calls Try.prog 15 #[.pointer (some ⟨r, 0, none⟩), .agg #[.int .u8 X, .int .i64 I, .int .i64 N, .string s, kv]] w (DoPost B r (cutSt st N) ⟨#[]⟩ 0 w) := by
  unfold DoPost
  obtain ⟨vs, ve, va, vd, h⟩ := h
  have hXT : X.tmod 5 = 3 := by rw [Int.tmod_eq_emod_of_nonneg hX0]; exact hX
  have HR0 : Hid (RefL B (w.alloc (.cells #[.int .u8 X, .int .i64 I, .int .i64 N, .string s, kv] 32)) r vs ve va vd st.safe st.now (ats st.pend) (dats st.pend) (leftI st)) := Lib.hid (h.alloc _)
  have HB0 : Hid (Below B w (w.alloc (.cells #[.int .u8 X, .int .i64 I, .int .i64 N, .string s, kv] 32))) := Lib.hid ((Below.refl _ w).alloc hB _)
  have HO0 : Hid (Off refTs w (w.alloc (.cells #[.int .u8 X, .int .i64 I, .int .i64 N, .string s, kv] 32))) := Lib.hid ((Off.refl _ w).alloc _)
  have HT0 : Hid ((w.alloc (.cells #[.int .u8 X, .int .i64 I, .int .i64 N, .string s, kv] 32)).heap[w.heap.size]? = some (.cells #[.int .u8 X, .int .i64 I, .int .i64 N, .string s, kv] 32 (0, 0))) := Lib.hid (heap_alloc_new _ _)
  have HG := Lib.hid hg
  have HNW : Hid (w.heap.size = w.heap.size) := Lib.hid rfl
  have hln : (leftI st == 0) = false := by
    rw [beq_eq_false_iff_ne]
    intro e
    have := (left_gone HG.out).1 e
    rw [hgo] at this
    cases this
  have hnn : ¬ (N < 0) := by omega
  clear h hg
  go_enter Try.func15, Try.ntmps15
  go_upto_region 1 with fail
  generalize hob : w.heap.size = ob at *
  have HOB := Lib.hid hob
  clear hob HNW
  generalize w.alloc (.cells #[.int .u8 X, .int .i64 I, .int .i64 N, .string s, kv] 32) = W0 at *
  have o0 : W0.cell? ⟨ob, 0, none⟩ = some (.int .u8 X) := by rw [cell_of_row W0 ob _ _ _ _ HT0.out]; rfl
  have o1 : W0.cell? ⟨ob, 1, none⟩ = some (.int .i64 I) := by rw [cell_of_row W0 ob _ _ _ _ HT0.out]; rfl
  have o2 : W0.cell? ⟨ob, 2, none⟩ = some (.int .i64 N) := by rw [cell_of_row W0 ob _ _ _ _ HT0.out]; rfl
  have o3 : W0.cell? ⟨ob, 3, none⟩ = some (.string s) := by rw [cell_of_row W0 ob _ _ _ _ HT0.out]; rfl
  have o4 : W0.cell? ⟨ob, 4, none⟩ = some kv := by rw [cell_of_row W0 ob _ _ _ _ HT0.out]; rfl
  obtain ⟨c0, c1, c2, c3, c4⟩ := HR0.out.cells
  go_wp2
  go_quiet (fail)
  have HR1 := Lib.hid (HR0.out.drewN nq)
  have HT1 : Hid ((W0.drewN nq).heap[ob]? = some (.cells #[.int .u8 X, .int .i64 I, .int .i64 N, .string s, kv] 32 (0, 0))) := Lib.hid (((Off.refl [] W0).drewN nq) _ (by simp) _ _ _ HT0.out)
  have HB1 : Hid (Below B w (W0.drewN nq)) := Lib.hid (Below.drewM HB0.out nq)
  have HO1 : Hid (Off refTs w (W0.drewN nq)) := Lib.hid (HO0.out.drewN nq)
  clear o0 o1 o2 o3 o4 c0 c1 c2 c3 c4 HR0 HB0 HO0 HT0
  generalize W0.drewN nq = W1 at *
  have o1 : W1.cell? ⟨ob, 1, none⟩ = some (.int .i64 I) := by rw [cell_of_row W1 ob _ _ _ _ HT1.out]; rfl
  have o2 : W1.cell? ⟨ob, 2, none⟩ = some (.int .i64 N) := by rw [cell_of_row W1 ob _ _ _ _ HT1.out]; rfl
  have o3 : W1.cell? ⟨ob, 3, none⟩ = some (.string s) := by rw [cell_of_row W1 ob _ _ _ _ HT1.out]; rfl
  have o4 : W1.cell? ⟨ob, 4, none⟩ = some kv := by rw [cell_of_row W1 ob _ _ _ _ HT1.out]; rfl
  obtain ⟨c0, c1, c2, c3, c4⟩ := HR1.out.cells
  have g4 := HR1.out.frozen 4
  have hcs : leftI (cutSt st N) = N := by
    unfold leftI cutSt
    rw [hgo]
    simp [hN]
  have HRE : Hid (RefL B (W1.setCell ⟨r, 4, none⟩ (.int .i64 N)) r vs ve va vd st.safe st.now (ats st.pend) (dats st.pend) (N)) := Lib.hid (HR1.out.left N)
  have HBE : Hid (Below B w (W1.setCell ⟨r, 4, none⟩ (.int .i64 N))) := Lib.hid (HB1.out.setCell (p := ⟨r, 4, none⟩) HR1.out.hB _)
  have HOE : Hid (Off refTs w (W1.setCell ⟨r, 4, none⟩ (.int .i64 N))) := Lib.hid (HO1.out.setCell HR1.out.hd (by simp) _)
  go_wp2
  go_ret2
  refine ⟨rfl, ⟨vs, ve, va, vd, ?_⟩, HBE.out, HOE.out⟩
  rw [hcs, show (cutSt st N).safe = st.safe by unfold cutSt; rw [hgo]; rfl, show (cutSt st N).now = st.now by unfold cutSt; rw [hgo]; rfl, show (cutSt st N).pend = st.pend by unfold cutSt; rw [hgo]; rfl]
  exact HRE.out
set_option maxHeartbeats 8000000 in
set_option maxRecDepth 100000 in
theorem do_cutneg (B r : Nat) (st : St) (X I N : Int) (s : ByteArray) (kv : Value) (w : World) (h : Ref B w r st) (hg : Good st) (hB : B ≤ w.heap.size) (hX0 : 0 ≤ X) (hX : X % 5 = 3) (hgo : goneB st = false) (hN : N < 0) :
    Calls Try.prog 15 #[.pointer (some ⟨r, 0, none⟩), .agg #[.int .u8 X, .int .i64 I, .int .i64 N, .string s, kv]] w (DoPost B r (cutSt st N) ⟨#[]⟩ 0 w) := by
  unfold DoPost
  obtain ⟨vs, ve, va, vd, h⟩ := h
  have hXT : X.tmod 5 = 3 := by rw [Int.tmod_eq_emod_of_nonneg hX0]; exact hX
  have HR0 : Hid (RefL B (w.alloc (.cells #[.int .u8 X, .int .i64 I, .int .i64 N, .string s, kv] 32)) r vs ve va vd st.safe st.now (ats st.pend) (dats st.pend) (leftI st)) := Lib.hid (h.alloc _)
  have HB0 : Hid (Below B w (w.alloc (.cells #[.int .u8 X, .int .i64 I, .int .i64 N, .string s, kv] 32))) := Lib.hid ((Below.refl _ w).alloc hB _)
  have HO0 : Hid (Off refTs w (w.alloc (.cells #[.int .u8 X, .int .i64 I, .int .i64 N, .string s, kv] 32))) := Lib.hid ((Off.refl _ w).alloc _)
  have HT0 : Hid ((w.alloc (.cells #[.int .u8 X, .int .i64 I, .int .i64 N, .string s, kv] 32)).heap[w.heap.size]? = some (.cells #[.int .u8 X, .int .i64 I, .int .i64 N, .string s, kv] 32 (0, 0))) := Lib.hid (heap_alloc_new _ _)
  have HG := Lib.hid hg
  have HNW : Hid (w.heap.size = w.heap.size) := Lib.hid rfl
  have hln : (leftI st == 0) = false := by
    rw [beq_eq_false_iff_ne]
    intro e
    have := (left_gone HG.out).1 e
    rw [hgo] at this
    cases this
  clear h hg
  go_enter Try.func15, Try.ntmps15
  go_upto_region 1 with fail
  generalize hob : w.heap.size = ob at *
  have HOB := Lib.hid hob
  clear hob HNW
  generalize w.alloc (.cells #[.int .u8 X, .int .i64 I, .int .i64 N, .string s, kv] 32) = W0 at *
  have o0 : W0.cell? ⟨ob, 0, none⟩ = some (.int .u8 X) := by rw [cell_of_row W0 ob _ _ _ _ HT0.out]; rfl
  have o1 : W0.cell? ⟨ob, 1, none⟩ = some (.int .i64 I) := by rw [cell_of_row W0 ob _ _ _ _ HT0.out]; rfl
  have o2 : W0.cell? ⟨ob, 2, none⟩ = some (.int .i64 N) := by rw [cell_of_row W0 ob _ _ _ _ HT0.out]; rfl
  have o3 : W0.cell? ⟨ob, 3, none⟩ = some (.string s) := by rw [cell_of_row W0 ob _ _ _ _ HT0.out]; rfl
  have o4 : W0.cell? ⟨ob, 4, none⟩ = some kv := by rw [cell_of_row W0 ob _ _ _ _ HT0.out]; rfl
  obtain ⟨c0, c1, c2, c3, c4⟩ := HR0.out.cells
  go_wp2
  go_quiet (fail)
  have HR1 := Lib.hid (HR0.out.drewN nq)
  have HT1 : Hid ((W0.drewN nq).heap[ob]? = some (.cells #[.int .u8 X, .int .i64 I, .int .i64 N, .string s, kv] 32 (0, 0))) := Lib.hid (((Off.refl [] W0).drewN nq) _ (by simp) _ _ _ HT0.out)
  have HB1 : Hid (Below B w (W0.drewN nq)) := Lib.hid (Below.drewM HB0.out nq)
  have HO1 : Hid (Off refTs w (W0.drewN nq)) := Lib.hid (HO0.out.drewN nq)
  clear o0 o1 o2 o3 o4 c0 c1 c2 c3 c4 HR0 HB0 HO0 HT0
  generalize W0.drewN nq = W1 at *
  have o1 : W1.cell? ⟨ob, 1, none⟩ = some (.int .i64 I) := by rw [cell_of_row W1 ob _ _ _ _ HT1.out]; rfl
  have o2 : W1.cell? ⟨ob, 2, none⟩ = some (.int .i64 N) := by rw [cell_of_row W1 ob _ _ _ _ HT1.out]; rfl
  have o3 : W1.cell? ⟨ob, 3, none⟩ = some (.string s) := by rw [cell_of_row W1 ob _ _ _ _ HT1.out]; rfl
  have o4 : W1.cell? ⟨ob, 4, none⟩ = some kv := by rw [cell_of_row W1 ob _ _ _ _ HT1.out]; rfl
  obtain ⟨c0, c1, c2, c3, c4⟩ := HR1.out.cells
  have g4 := HR1.out.frozen 4
  have hcs : leftI (cutSt st N) = -1 := by
    unfold leftI cutSt
    rw [hgo]
    simp; omega
  have HRE : Hid (RefL B ((W1.setCell ⟨r, 4, none⟩ (.int .i64 N)).setCell ⟨r, 4, none⟩ (.int .i64 (-1))) r vs ve va vd st.safe st.now (ats st.pend) (dats st.pend) (-1)) := Lib.hid ((HR1.out.left N).left (-1))
  have HBE : Hid (Below B w ((W1.setCell ⟨r, 4, none⟩ (.int .i64 N)).setCell ⟨r, 4, none⟩ (.int .i64 (-1)))) := Lib.hid ((HB1.out.setCell (p := ⟨r, 4, none⟩) HR1.out.hB _).setCell (p := ⟨r, 4, none⟩) HR1.out.hB _)
  have HOE : Hid (Off refTs w ((W1.setCell ⟨r, 4, none⟩ (.int .i64 N)).setCell ⟨r, 4, none⟩ (.int .i64 (-1)))) := Lib.hid (Off.setCell (HO1.out.setCell HR1.out.hd (by simp) _) (HR1.out.left N).hd (by simp) _)
  go_wp2
  go_ret2
  refine ⟨rfl, ⟨vs, ve, va, vd, ?_⟩, HBE.out, HOE.out⟩
  rw [hcs, show (cutSt st N).safe = st.safe by unfold cutSt; rw [hgo]; rfl, show (cutSt st N).now = st.now by unfold cutSt; rw [hgo]; rfl, show (cutSt st N).pend = st.pend by unfold cutSt; rw [hgo]; rfl]
  exact HRE.out
end Go.Proofs.Ytdjfojpfnfhaiaa
