/-
  The reference's Do (stage 6): Flush, Restart.
-/
import Derived.Test.YtdjfojpfnfhaiaaSeDo
namespace Go.Proofs.Ytdjfojpfnfhaiaa
open Go.RowKit Go.Sort
set_option linter.unusedVariables false

theorem left_flush (st : St) : leftI (flushSt st) = leftI st := rfl
set_option maxHeartbeats 8000000 in
set_option maxRecDepth 100000 in
theorem do_flush (B r : Nat) (st : St) (X I N : Int) (s : ByteArray) (kv : Value) (w : World) (h : Ref B w r st) (hg : Good st) (hB : B ≤ w.heap.size) (hX0 : 0 ≤ X) (hX : X % 5 = 2) (hgo : goneB st = false) :
    Calls Try.prog 15 #[.pointer (some ⟨r, 0, none⟩), .agg #[.int .u8 X, .int .i64 I, .int .i64 N, .string s, kv]] w (DoPost B r (flushSt st) ⟨#[]⟩ 0 w) := by
  unfold DoPost
  obtain ⟨vs, ve, va, vd, h⟩ := h
  have hXT : X.tmod 5 = 2 := by rw [Int.tmod_eq_emod_of_nonneg hX0]; exact hX
  have HR0 : Hid (RefL B (w.alloc (.cells #[.int .u8 X, .int .i64 I, .int .i64 N, .string s, kv] 32)) r vs ve va vd st.safe st.now (ats st.pend) (dats st.pend) (leftI st)) := Lib.hid (h.alloc _)
  have HB0 : Hid (Below B w (w.alloc (.cells #[.int .u8 X, .int .i64 I, .int .i64 N, .string s, kv] 32))) := Lib.hid ((Below.refl _ w).alloc hB _)
  have HO0 : Hid (Off refTs w (w.alloc (.cells #[.int .u8 X, .int .i64 I, .int .i64 N, .string s, kv] 32))) := Lib.hid ((Off.refl _ w).alloc _)
  have HT0 : Hid ((w.alloc (.cells #[.int .u8 X, .int .i64 I, .int .i64 N, .string s, kv] 32)).heap[w.heap.size]? = some (.cells #[.int .u8 X, .int .i64 I, .int .i64 N, .string s, kv] 32 (0, 0))) := Lib.hid (heap_alloc_new _ _)
  have HG := Lib.hid hg
  have hB0 := Lib.hid hB
  have HNW : Hid (w.heap.size = w.heap.size) := Lib.hid rfl
  have hln : (leftI st == 0) = false := by
    rw [beq_eq_false_iff_ne]
    intro e
    have := (left_gone HG.out).1 e
    rw [hgo] at this
    cases this
  clear h hg
  go_enter Try.func15, Try.ntmps15
  go_upto_region 1 with fail
  generalize hob : w.heap.size = ob at *
  have HOB := Lib.hid hob
  clear hob HNW
  generalize w.alloc (.cells #[.int .u8 X, .int .i64 I, .int .i64 N, .string s, kv] 32) = W0 at *
  have o0 : W0.cell? ⟨ob, 0, none⟩ = some (.int .u8 X) := by rw [cell_of_row W0 ob _ _ _ _ HT0.out]; rfl
  have o1 : W0.cell? ⟨ob, 1, none⟩ = some (.int .i64 I) := by rw [cell_of_row W0 ob _ _ _ _ HT0.out]; rfl
  have o2 : W0.cell? ⟨ob, 2, none⟩ = some (.int .i64 N) := by rw [cell_of_row W0 ob _ _ _ _ HT0.out]; rfl
  have o3 : W0.cell? ⟨ob, 3, none⟩ = some (.string s) := by rw [cell_of_row W0 ob _ _ _ _ HT0.out]; rfl
  have o4 : W0.cell? ⟨ob, 4, none⟩ = some kv := by rw [cell_of_row W0 ob _ _ _ _ HT0.out]; rfl
  obtain ⟨c0, c1, c2, c3, c4⟩ := HR0.out.cells
  go_wp2
  go_quiet (fail)
  have HR1 := Lib.hid (HR0.out.drewN nq)
  have HT1 : Hid ((W0.drewN nq).heap[ob]? = some (.cells #[.int .u8 X, .int .i64 I, .int .i64 N, .string s, kv] 32 (0, 0))) := Lib.hid (((Off.refl [] W0).drewN nq) _ (by simp) _ _ _ HT0.out)
  have HB1 : Hid (Below B w (W0.drewN nq)) := Lib.hid (Below.drewM HB0.out nq)
  have HO1 : Hid (Off refTs w (W0.drewN nq)) := Lib.hid (HO0.out.drewN nq)
  clear o0 o1 o2 o3 o4 c0 c1 c2 c3 c4 HR0 HB0 HO0 HT0
  generalize W0.drewN nq = W1 at *
  have o1 : W1.cell? ⟨ob, 1, none⟩ = some (.int .i64 I) := by rw [cell_of_row W1 ob _ _ _ _ HT1.out]; rfl
  have o2 : W1.cell? ⟨ob, 2, none⟩ = some (.int .i64 N) := by rw [cell_of_row W1 ob _ _ _ _ HT1.out]; rfl
  have o3 : W1.cell? ⟨ob, 3, none⟩ = some (.string s) := by rw [cell_of_row W1 ob _ _ _ _ HT1.out]; rfl
  have o4 : W1.cell? ⟨ob, 4, none⟩ = some kv := by rw [cell_of_row W1 ob _ _ _ _ HT1.out]; rfl
  obtain ⟨c0, c1, c2, c3, c4⟩ := HR1.out.cells
  have HLB : Hid (st.now.length ≤ 100000) := Lib.hid (by have := HG.out.few; omega)
  have HR2 := Lib.hid (HR1.out.alloc (.cells #[] 9))
  have HE2 : Hid ((W1.alloc (.cells #[] 9)).heap[W1.heap.size]? = some (.cells #[] 9 (0, 0))) := Lib.hid (heap_alloc_new _ _)
  have HB2 : Hid (Below B w (W1.alloc (.cells #[] 9))) := Lib.hid (HB1.out.alloc (Nat.le_trans (by rw [HOB.out]; exact hB0.out) HB1.out.size) _)
  have HO2 : Hid (Off refTs w (W1.alloc (.cells #[] 9))) := Lib.hid (HO1.out.alloc _)
  have HBW : Hid (B ≤ W1.heap.size) := Lib.hid (Nat.le_trans (by rw [HOB.out]; exact hB0.out) HB1.out.size)
  have hsz2 : (W1.alloc (.cells #[] 9)).heap.size = W1.heap.size + 1 := by simp
  have HSZ2 := Lib.hid hsz2
  clear hsz2
  have q0 := HR2.out.cells.1
  have q1 := HR2.out.cells.2.1
  go_wp2_with (
    at_builtin
    refine appendCopy rfl _ _ rfl W1.heap.size rfl HE2.out B B _ st.now.length (strs st.now) rfl HR2.out.sn (strs_one _) HLB.out HBW.out ?_
    intro g9 cap9 w9 hown9 hgrow9 hat9
    have hge9 : W1.heap.size ≤ g9 := by
      rcases hat9 with rfl | rfl
      · exact Nat.le_refl _
      · rw [HSZ2.out]; omega
    have hrr : w9.heap[r]? = (W1.alloc (.cells #[] 9)).heap[r]? := hgrow9.block r (lt_of_get HR2.out.hd) (fun e => by injection e with e; have := lt_of_get HR1.out.hd; omega)
    have hh9 := hrr.trans HR2.out.hd
    have HB9 : Hid (Below B w w9) := Lib.hid (HB2.out.grown hgrow9 (by rw [HSZ2.out]; have := HBW.out; omega) (fun k hk => by injection hk with hk; have := HBW.out; omega))
    have HO9 : Hid (Off refTs w w9) := Lib.hid (HO2.out.grown hgrow9 (fun k hk => by injection hk with hk; subst hk; exact ⟨_, _, _, HE2.out, by simp⟩))
    have k0 : w9.cell? ⟨r, 0, none⟩ = some vs := by rw [cell_of_row w9 r _ _ _ _ hh9]; rfl
    have k1 : w9.cell? ⟨r, 1, none⟩ = some ve := by rw [cell_of_row w9 r _ _ _ _ hh9]; rfl
    have k2 : w9.cell? ⟨r, 2, none⟩ = some va := by rw [cell_of_row w9 r _ _ _ _ hh9]; rfl
    have k3 : w9.cell? ⟨r, 3, none⟩ = some vd := by rw [cell_of_row w9 r _ _ _ _ hh9]; rfl
    have k4 : w9.cell? ⟨r, 4, none⟩ = some (.int .i64 (leftI st)) := by rw [cell_of_row w9 r _ _ _ _ hh9]; rfl
    have hfz : ∀ j, w9.frozen? ⟨r, j, none⟩ = false := fun j => frozen_of_row w9 r j _ _ hh9
    have HF : Hid (RefL B (w9.setCell ⟨r, 0, none⟩ (.slice (some ⟨g9, 0, none⟩) st.now.length cap9)) r (.slice (some ⟨g9, 0, none⟩) st.now.length cap9) ve va vd st.now st.now (ats st.pend) (dats st.pend) (leftI st)) := Lib.hid (RefL.copySafe HR1.out HR2.out (Nat.le_refl _) hgrow9 hge9 hown9)
    have HFE : Hid (RefL B (((w9.setCell ⟨r, 0, none⟩ (.slice (some ⟨g9, 0, none⟩) st.now.length cap9)).setCell ⟨r, 2, none⟩ (.slice none 0 0)).setCell ⟨r, 3, none⟩ (.slice none 0 0)) r (.slice (some ⟨g9, 0, none⟩) st.now.length cap9) ve (.slice none 0 0) (.slice none 0 0) st.now st.now [] [] (leftI st)) := Lib.hid HF.out.noAt.noData
    have HBE : Hid (Below B w (((w9.setCell ⟨r, 0, none⟩ (.slice (some ⟨g9, 0, none⟩) st.now.length cap9)).setCell ⟨r, 2, none⟩ (.slice none 0 0)).setCell ⟨r, 3, none⟩ (.slice none 0 0))) := Lib.hid (((HB9.out.setCell (p := ⟨r, 0, none⟩) HF.out.hB _).setCell (p := ⟨r, 2, none⟩) HF.out.hB _).setCell (p := ⟨r, 3, none⟩) HF.out.hB _)
    have HOE : Hid (Off refTs w (((w9.setCell ⟨r, 0, none⟩ (.slice (some ⟨g9, 0, none⟩) st.now.length cap9)).setCell ⟨r, 2, none⟩ (.slice none 0 0)).setCell ⟨r, 3, none⟩ (.slice none 0 0))) := Lib.hid (Off.setCell (Off.setCell (HO9.out.setCell hh9 (by simp) _) HF.out.hd (by simp) _) HF.out.noAt.hd (by simp) _)
    clear hown9 hgrow9 hat9 hge9 hrr hh9 q0 q1 c0 c1 c2 c3 c4 o1 o2 o3 o4)
  go_ret2
  exact ⟨rfl, ⟨_, _, _, _, HFE.out⟩, HBE.out, HOE.out⟩
end Go.Proofs.Ytdjfojpfnfhaiaa
