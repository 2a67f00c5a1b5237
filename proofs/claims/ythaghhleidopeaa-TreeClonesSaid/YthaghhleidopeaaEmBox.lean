/-
  A pool inside a tree's block: its memory, and what a method of its heap is found at.
  The library's heap: what goes up (a pool inside a tree).
-/
import Derived.Test.YthaghhleidopeaaIdBox
namespace Go.Proofs.Ythaghhleidopeaa
namespace Emb
open Go.RowKit Go.Sort
set_option linter.unusedVariables false

/-- A tree's cells with a pool's three. -/
def patchO (cs : Array Value) (m u : Nat) (v : Value) : Array Value := ((cs.setIfInBounds 402 (.int .i64 (m : Int))).setIfInBounds 403 (.int .i64 (u : Int))).setIfInBounds 404 v
theorem patchO_size (cs : Array Value) (m u : Nat) (v : Value) : (patchO cs m u v).size = cs.size := by simp [patchO]
theorem patchO_get (cs : Array Value) (m u : Nat) (v : Value) (h : cs.size = 406) (k : Nat) : (patchO cs m u v)[k]? = if k = 404 then some v else if k = 403 then some (.int .i64 (u : Int)) else if k = 402 then some (.int .i64 (m : Int)) else cs[k]? := by
  unfold patchO
  simp only [Array.getElem?_setIfInBounds, Array.size_setIfInBounds, h]
  repeat' split
  all_goals first | rfl | omega
theorem patchO_ext {cs ds : Array Value} (h : cs.size = ds.size) (hk : ∀ k, k < cs.size → cs[k]? = ds[k]?) : cs = ds := by
  apply Array.ext h
  intro i h1 h2
  have := hk i h1
  rw [Array.getElem?_eq_getElem h1, Array.getElem?_eq_getElem h2] at this
  exact Option.some.inj this
theorem patchO_again (cs : Array Value) (m u : Nat) (v : Value) (h : cs.size = 406) (m' u' : Nat) (v' : Value) : patchO (patchO cs m u v) m' u' v' = patchO cs m' u' v' := by
  apply patchO_ext (by simp [patchO])
  intro k _
  rw [patchO_get _ _ _ _ (by rw [patchO_size, h]), patchO_get _ _ _ _ h, patchO_get _ _ _ _ h]
  repeat' split
  all_goals rfl
theorem patchO_v (cs : Array Value) (m u : Nat) (v : Value) (h : cs.size = 406) (v' : Value) : (patchO cs m u v).setIfInBounds 404 v' = patchO cs m u v' := by
  apply patchO_ext (by simp [patchO])
  intro k _
  rw [Array.getElem?_setIfInBounds, patchO_get _ _ _ _ h, patchO_get _ _ _ _ h, patchO_size, h]
  repeat' split
  all_goals first | rfl | omega
theorem patchO_u (cs : Array Value) (m u : Nat) (v : Value) (h : cs.size = 406) (u' : Nat) : (patchO cs m u v).setIfInBounds 403 (.int .i64 (u' : Int)) = patchO cs m u' v := by
  apply patchO_ext (by simp [patchO])
  intro k _
  rw [Array.getElem?_setIfInBounds, patchO_get _ _ _ _ h, patchO_get _ _ _ _ h, patchO_size, h]
  repeat' split
  all_goals first | rfl | omega
/-- The pool at b: the greatest number, how far numbers are used, and those that wait, whose cells are its own; since w0 nothing but the pool, and the row that it had then, is otherwise. -/
structure Box (w0 : World) (r : Option Nat) (m u b : Nat) (w : World) (v : Value) (xs : List Int) : Prop where
  at' : ∃ cs, w0.heap[b]? = some (.cells cs 84 (0, 0)) ∧ cs.size = 406 ∧ w.heap[b]? = some (.cells (patchO cs m u v) 84 (0, 0))
  own : OwnN (b + 1) w v xs
  row : ∀ k, v.ownBlock = some k → some k = r ∨ w0.heap.size ≤ k
  keep : Keeps b r w0 w
section
variable {w0 w w' : World} {r : Option Nat} {m u b : Nat} {v v' : Value} {xs ys : List Int}
theorem Box.cell (h : Box w0 r m u b w v xs) : w.cell? ⟨b, 404, none⟩ = some v ∧ w.frozen? ⟨b, 404, none⟩ = false := by
  obtain ⟨cs, _, h2, h3⟩ := h.at'
  exact ⟨by rw [Lib.cell_of_heap h3, patchO_get _ _ _ _ h2]; rfl, Lib.frozen_of_heap h3 _⟩
theorem Box.cell0 (h : Box w0 r m u b w v xs) : w.cell? ⟨b, 402, none⟩ = some (.int .i64 (m : Int)) ∧ w.frozen? ⟨b, 402, none⟩ = false := by
  obtain ⟨cs, _, h2, h3⟩ := h.at'
  exact ⟨by rw [Lib.cell_of_heap h3, patchO_get _ _ _ _ h2]; rfl, Lib.frozen_of_heap h3 _⟩
theorem Box.cell1 (h : Box w0 r m u b w v xs) : w.cell? ⟨b, 403, none⟩ = some (.int .i64 (u : Int)) ∧ w.frozen? ⟨b, 403, none⟩ = false := by
  obtain ⟨cs, _, h2, h3⟩ := h.at'
  exact ⟨by rw [Lib.cell_of_heap h3, patchO_get _ _ _ _ h2]; rfl, Lib.frozen_of_heap h3 _⟩
theorem Box.lt (h : Box w0 r m u b w v xs) : b < w.heap.size := by
  obtain ⟨cs, _, _, h3⟩ := h.at'
  exact lt_getH h3
theorem Box.away (h : Box w0 r m u b w v xs) : v.ownBlock ≠ some b := fun e => by have := (h.own.lt b e).1; omega
theorem Box.drew (h : Box w0 r m u b w v xs) : Box w0 r m u b w.drew v xs := ⟨h.at', h.own.below (Below.refl _ _).drew, h.row, ⟨h.keep.os, h.keep.tape, h.keep.output, h.keep.size, h.keep.block⟩⟩
theorem Box.drewN (h : Box w0 r m u b w v xs) (q : Nat) : Box w0 r m u b (w.drewN q) v xs := by
  induction q with
  | zero => exact h
  | succ q ih => exact ih.drew
/-- The row's own cells change. -/
theorem Box.kept {g n cap : Nat} (h : Box w0 r m u b w (.slice (some ⟨g, 0, none⟩) n cap) xs) (hg : w.grownBy w' (some g)) (ho : OwnN (b + 1) w' (.slice (some ⟨g, 0, none⟩) n cap) ys) : Box w0 r m u b w' (.slice (some ⟨g, 0, none⟩) n cap) ys :=
  ⟨by rw [hg.block b h.lt (fun e => h.away e.symm)]; exact h.at', ho, h.row, h.keep.grown h.row hg⟩
/-- All blocks that were there stay. -/
theorem Box.below (h : Box w0 r m u b w v xs) (hb : Below w.heap.size w w') : Box w0 r m u b w' v xs :=
  ⟨by rw [hb.block b h.lt]; exact h.at', h.own.below hb, h.row, h.keep.ofBelow hb⟩
/-- Seen from now. -/
theorem Box.now (h : Box w0 r m u b w v xs) : Box w v.ownBlock m u b w v xs := by
  obtain ⟨cs, _, h2, h3⟩ := h.at'
  exact ⟨⟨_, h3, by rw [patchO_size]; exact h2, by rw [patchO_again _ _ _ _ h2]; exact h3⟩, h.own, fun k hk => Or.inl hk.symm, Keeps.refl _ _ _⟩
/-- The slice is stored anew. -/
theorem Box.put (h : Box w0 r m u b w v xs) (hg : w.grownBy w' v.ownBlock) (ho : OwnN (b + 1) w' v' ys) (hr : ∀ k, v'.ownBlock = some k → some k = v.ownBlock ∨ w.heap.size ≤ k) : Box w0 r m u b (w'.setCell ⟨b, 404, none⟩ v') v' ys := by
  obtain ⟨cs, h1, h2, h3⟩ := h.at'
  have hat : w'.heap[b]? = some (.cells (patchO cs m u v) 84 (0, 0)) := by rw [hg.block b h.lt (fun e => h.away e.symm)]; exact h3
  refine ⟨⟨cs, h1, h2, ?_⟩, ho.far (fun e => by have := (ho.lt b e).1; omega), fun k hk => ?_, (h.keep.grown h.row hg).set 404 v'⟩
  · rw [heap_setCell_same _ b 404 _ _ _ hat, patchO_v _ _ _ _ h2]
  · rcases hr k hk with h1 | h1
    · exact h.row k h1.symm
    · right
      have := h.keep.size
      omega
/-- How far numbers are used is stored anew. -/
theorem Box.use (h : Box w0 r m u b w v xs) (u' : Nat) : Box w0 r m u' b (w.setCell ⟨b, 403, none⟩ (.int .i64 (u' : Int))) v xs := by
  obtain ⟨cs, h1, h2, h3⟩ := h.at'
  refine ⟨⟨cs, h1, h2, ?_⟩, h.own.far h.away, h.row, h.keep.set 403 _⟩
  rw [heap_setCell_same _ b 403 _ _ _ h3, patchO_u _ _ _ _ h2]
end

theorem run_far (w : World) (b : Nat) : (follow [⟨74, 0, true⟩] 119 (.val (.pointer (some ⟨b, 404, none⟩)))).run Try.prog w = .ok (72, .var ⟨b, 404, none⟩) w := by
  kernel_rfl
theorem meth_val (name : String) (K : Nat) (hi : (Try.prog.info? 119).bind (fun i => (i.methods.find? (·.name == name)).map fun m => (m.path.toList, m.func)) = some ([⟨74, 0, true⟩], some (K, false))) (b : Nat) (v : Value) (w : World) (h : w.cell? ⟨b, 404, none⟩ = some v) :
    (method 263 119 (.pointer (some ⟨b, 404, none⟩)) name).run Try.prog w = .ok (K, v) w := by
  obtain ⟨i, hi1, hi2⟩ := Option.bind_eq_some_iff.1 hi
  obtain ⟨m, hm1, hm2⟩ := Option.map_eq_some_iff.1 hi2
  simp only [Prod.mk.injEq] at hm2
  obtain ⟨hp, hf⟩ := hm2
  have hr := fun o => run_receiver w ⟨b, 404, none⟩ v h o
  have hfar := run_far w b
  rw [method.eq_2]
  simp only [Sem.run_bind, typeInfo, run_program, Result.andThen_ok, hi1, Sem.run_pure, hm1, hp, hfar, hf, hr]
theorem meth_less (b : Nat) (v : Value) (w : World) (h : w.cell? ⟨b, 404, none⟩ = some v) : (method 263 119 (.pointer (some ⟨b, 404, none⟩)) "Less").run Try.prog w = .ok (113, v) w := meth_val "Less" _ (by kernel_rfl) b v w h
theorem meth_swap (b : Nat) (v : Value) (w : World) (h : w.cell? ⟨b, 404, none⟩ = some v) : (method 263 119 (.pointer (some ⟨b, 404, none⟩)) "Swap").run Try.prog w = .ok (115, v) w := meth_val "Swap" _ (by kernel_rfl) b v w h
theorem meth_len (b : Nat) (v : Value) (w : World) (h : w.cell? ⟨b, 404, none⟩ = some v) : (method 263 119 (.pointer (some ⟨b, 404, none⟩)) "Len").run Try.prog w = .ok (60, v) w := meth_val "Len" _ (by kernel_rfl) b v w h
theorem meth_push (b : Nat) (w : World) : (method 263 119 (.pointer (some ⟨b, 404, none⟩)) "Push").run Try.prog w = .ok (117, .pointer (some ⟨b, 404, none⟩)) w := by kernel_rfl
theorem meth_pop (b : Nat) (w : World) : (method 263 119 (.pointer (some ⟨b, 404, none⟩)) "Pop").run Try.prog w = .ok (116, .pointer (some ⟨b, 404, none⟩)) w := by kernel_rfl
theorem ahead_less (b : Nat) (w : World) : (nilAhead 263 119 (.pointer (some ⟨b, 404, none⟩)) "Less").run Try.prog w = .ok (some false) w := by kernel_rfl
theorem ahead_swap (b : Nat) (w : World) : (nilAhead 263 119 (.pointer (some ⟨b, 404, none⟩)) "Swap").run Try.prog w = .ok (some false) w := by kernel_rfl
theorem ahead_len (b : Nat) (w : World) : (nilAhead 263 119 (.pointer (some ⟨b, 404, none⟩)) "Len").run Try.prog w = .ok (some false) w := by kernel_rfl
end Emb
end Go.Proofs.Ythaghhleidopeaa

namespace Go.Proofs.Ythaghhleidopeaa
namespace Emb
open Go.RowKit Go.Sort
set_option linter.unusedVariables false

def UpPost (wB : World) (rB : Option Nat) (mB uB b : Nat) (v : Value) (xs : List Int) (w : World) (e : Ending) (w' : World) : Prop := e = .returned (.tuple #[]) ∧ ∃ ys, ys.Perm xs ∧ HeapN ys.length ys ∧ Box wB rB mB uB b w' v ys

set_option maxHeartbeats 2000000 in
set_option maxRecDepth 100000 in
theorem up_c (wB : World) (rB : Option Nat) (mB uB b : Nat) (v : Value) (xs : List Int) (j : Nat) (w : World) (h : Box wB rB mB uB b w v xs) (hj : j < xs.length) (hu : UpI xs j) (hl : xs.length ≤ 1000) :
    Calls Try.prog 82 #[.iface 119 (.pointer (some ⟨b, 404, none⟩)), .int .i64 j] w (UpPost wB rB mB uB b v xs w) := by
  unfold UpPost
  obtain ⟨n, hn⟩ : ∃ n, xs.length = n := ⟨_, rfl⟩
  have HN := Lib.hid hn
  rw [hn] at hj hl
  have HU := Lib.hid hu
  have HBX := Lib.hid h
  clear hn hu h
  go_enter Try.func82, Try.ntmps82
  go_wp2
  go_loopg [1] j (fun gk jv wr => ∃ (k : Nat) (ys : List Int), k = gk ∧ k < n ∧ jv = .int .i64 k ∧ ys.Perm xs ∧ UpI ys k ∧ Box wB rB mB uB b wr v ys)
  case atStart => exact ⟨j, xs, rfl, hj, rfl, List.Perm.refl _, HU.out, HBX.out⟩
  case round =>
    obtain ⟨k, ys, rfl, hk, rfl, hp, hui, hbx⟩ := hrel
    have HP := Lib.hid hp
    have HI := Lib.hid hui
    have HB := Lib.hid hbx
    have hyl : Hid (ys.length = n) := Lib.hid (hp.length_eq.trans HN.out)
    clear hp hui hbx
    by_cases hk0 : k = 0
    · subst hk0
      go_wp2
      go_end0
      exact ⟨rfl, ys, HP.out, upI_done HI.out (Or.inl rfl), HB.out⟩
    · have hk1 : 1 ≤ k := by omega
      have hkz : (((k : Int) - 1) / 2 == (k : Int)) = false := by rw [beq_eq_false_iff_ne]; omega
      obtain ⟨c0, f0⟩ := HB.out.cell
      have hne : ys ≠ [] := by
        intro e
        have := hyl.out
        rw [e] at this
        simp at this
        omega
      obtain ⟨g, cap, hv, hg, hgl, hcap⟩ := HB.out.2.head hne
      rw [hyl.out] at hv hcap
      subst hv
      obtain ⟨i, hi⟩ : ∃ i, (k - 1) / 2 = i := ⟨_, rfl⟩
      have hiz : ((k : Int) - 1) / 2 = (i : Int) := by omega
      have hin : i < n := by omega
      have hik : i ≠ k := by omega
      have m1 := meth_less b _ wr c0
      rw [hiz] at hkz
      have HIK := Lib.hid hi
      clear hne hi
      cases hb : decide (ys.getD k 0 < ys.getD i 0) with
      | false =>
        have cl := less_c (b + 1) g n cap k i ys wr HB.out.2 hyl.out hk hin false hb
        have HD : Hid (ys.getD i 0 ≤ ys.getD k 0) := Lib.hid (by have := of_decide_eq_false hb; omega)
        clear hb
        go_wp2_with (go_at_call 113; refine cl.mono ?_; rintro e w' ⟨rfl, q, rfl⟩)
        go_end0
        exact ⟨rfl, ys, HP.out, upI_done HI.out (Or.inr (by rw [HIK.out]; exact HD.out)), HB.out.drewN q⟩
      | true =>
        have cl := less_c (b + 1) g n cap k i ys wr HB.out.2 hyl.out hk hin true hb
        have HD : Hid (ys.getD k 0 < ys.getD i 0) := Lib.hid (of_decide_eq_true hb)
        clear hb
        go_wp2_with (go_at_call 113; refine cl.mono ?_; rintro e w' ⟨rfl, q, rfl⟩)
        have HM : Hid (∀ q, (method 263 119 (.pointer (some ⟨b, 404, none⟩)) "Swap").run Try.prog (wr.drewN q) = .ok (115, .slice (some ⟨g, 0, none⟩) n cap) (wr.drewN q)) := Lib.hid (fun q => meth_swap b _ (wr.drewN q) (HB.out.drewN q).cell.1)
        have HS : Hid (∀ q, Calls Try.prog 115 #[.slice (some ⟨g, 0, none⟩) n cap, .int .i64 i, .int .i64 k] (wr.drewN q) fun e w' => e = .returned (.tuple #[]) ∧ OwnN (b + 1) w' (.slice (some ⟨g, 0, none⟩) n cap) (swI ys i k) ∧ wr.grownBy w' (some g)) := Lib.hid (fun q => (swap_c (b + 1) g n cap i k ys (wr.drewN q) (HB.out.drewN q).2 hg hyl.out hin hk).mono fun e w' ⟨h1, h2, h3⟩ => ⟨h1, h2, grown_drewN h3⟩)
        go_wp2_with (go_at_call 113; refine cl.mono ?_; rintro e w' ⟨rfl, q, rfl⟩)
        rw [HM.out q]
        have cs := HS.out q
        go_wp2_with (go_at_call 115; refine cs.mono ?_; rintro e w2 ⟨rfl, ho2, hb2⟩)
        have HB2 := Lib.hid hb2
        have HO2 := Lib.hid ho2
        clear hb2 ho2 cs
        go_roundg i
        case measure => omega
        case rel => exact ⟨i, swI ys i k, rfl, hin, by first | rfl | rw [hiz], (swI_perm (by rw [hyl.out]; exact hin) (by rw [hyl.out]; exact hk)).trans HP.out, by have := upI_step HI.out hk1 (by rw [hyl.out]; exact hk) (by rw [HIK.out]; exact HD.out); rw [HIK.out] at this; exact this, HB.out.kept HB2.out HO2.out⟩
end Emb
end Go.Proofs.Ythaghhleidopeaa
