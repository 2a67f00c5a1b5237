/-
  A pool inside a tree's block: its memory, and what a method of its heap is found at.   The library's heap: what goes up (a pool inside a tree).
  The library's heap: what goes down (a pool inside a tree).   The heap's Push and Pop, the library's, and those of the project's own (a pool inside a tree).
  The contracts of a pool's calls: Take, Give, Out, Clone (a pool inside a tree).
-/
import Derived.Test.YtmplekjiciedgaaQ7
import Derived.Test.YtmplekjiciedgaaQ8
namespace Go.Proofs.Ytmplekjiciedgaa
namespace Emb
open Go.RowKit Go.Sort
set_option linter.unusedVariables false

/-- A tree's cells with a pool's three. -/
def patchO (cs : Array Value) (m u : Nat) (v : Value) : Array Value := ((cs.setIfInBounds 402 (.int .i64 (m : Int))).setIfInBounds 403 (.int .i64 (u : Int))).setIfInBounds 404 v
theorem patchO_size (cs : Array Value) (m u : Nat) (v : Value) : (patchO cs m u v).size = cs.size := by simp [patchO]
theorem patchO_get (cs : Array Value) (m u : Nat) (v : Value) (h : cs.size = 406) (k : Nat) : (patchO cs m u v)[k]? = if k = 404 then some v else if k = 403 then some (.int .i64 (u : Int)) else if k = 402 then some (.int .i64 (m : Int)) else cs[k]? := by
  unfold patchO
  simp only [Array.getElem?_setIfInBounds, Array.size_setIfInBounds, h]
  repeat' split
  all_goals first | rfl | omega
theorem patchO_ext {cs ds : Array Value} (h : cs.size = ds.size) (hk : ∀ k, k < cs.size → cs[k]? = ds[k]?) : cs = ds := by
  apply Array.ext h
  intro i h1 h2
  have := hk i h1
  rw [Array.getElem?_eq_getElem h1, Array.getElem?_eq_getElem h2] at this
  exact Option.some.inj this
theorem patchO_again (cs : Array Value) (m u : Nat) (v : Value) (h : cs.size = 406) (m' u' : Nat) (v' : Value) : patchO (patchO cs m u v) m' u' v' = patchO cs m' u' v' := by
  apply patchO_ext (by simp [patchO])
  intro k _
  rw [patchO_get _ _ _ _ (by rw [patchO_size, h]), patchO_get _ _ _ _ h, patchO_get _ _ _ _ h]
  repeat' split
  all_goals rfl
theorem patchO_v (cs : Array Value) (m u : Nat) (v : Value) (h : cs.size = 406) (v' : Value) : (patchO cs m u v).setIfInBounds 404 v' = patchO cs m u v' := by
  apply patchO_ext (by simp [patchO])
  intro k _
  rw [Array.getElem?_setIfInBounds, patchO_get _ _ _ _ h, patchO_get _ _ _ _ h, patchO_size, h]
  repeat' split
  all_goals first | rfl | omega
theorem patchO_u (cs : Array Value) (m u : Nat) (v : Value) (h : cs.size = 406) (u' : Nat) : (patchO cs m u v).setIfInBounds 403 (.int .i64 (u' : Int)) = patchO cs m u' v := by
  apply patchO_ext (by simp [patchO])
  intro k _
  rw [Array.getElem?_setIfInBounds, patchO_get _ _ _ _ h, patchO_get _ _ _ _ h, patchO_size, h]
  repeat' split
  all_goals first | rfl | omega
/-- The pool at b: the greatest number, how far numbers are used, and those that wait, whose cells are its own; since w0 nothing but the pool, and the row that it had then, is otherwise. -/
structure Box (w0 : World) (r : Option Nat) (m u b : Nat) (w : World) (v : Value) (xs : List Int) : Prop where
  at' : ∃ cs, w0.heap[b]? = some (.cells cs 61 (0, 0)) ∧ cs.size = 406 ∧ w.heap[b]? = some (.cells (patchO cs m u v) 61 (0, 0))
  own : OwnN (b + 1) w v xs
  row : ∀ k, v.ownBlock = some k → some k = r ∨ w0.heap.size ≤ k
  keep : Keeps b r w0 w
section
variable {w0 w w' : World} {r : Option Nat} {m u b : Nat} {v v' : Value} {xs ys : List Int}
theorem Box.cell (h : Box w0 r m u b w v xs) : w.cell? ⟨b, 404, none⟩ = some v ∧ w.frozen? ⟨b, 404, none⟩ = false := by
  obtain ⟨cs, _, h2, h3⟩ := h.at'
  exact ⟨by rw [Lib.cell_of_heap h3, patchO_get _ _ _ _ h2]; rfl, Lib.frozen_of_heap h3 _⟩
theorem Box.cell0 (h : Box w0 r m u b w v xs) : w.cell? ⟨b, 402, none⟩ = some (.int .i64 (m : Int)) ∧ w.frozen? ⟨b, 402, none⟩ = false := by
  obtain ⟨cs, _, h2, h3⟩ := h.at'
  exact ⟨by rw [Lib.cell_of_heap h3, patchO_get _ _ _ _ h2]; rfl, Lib.frozen_of_heap h3 _⟩
theorem Box.cell1 (h : Box w0 r m u b w v xs) : w.cell? ⟨b, 403, none⟩ = some (.int .i64 (u : Int)) ∧ w.frozen? ⟨b, 403, none⟩ = false := by
  obtain ⟨cs, _, h2, h3⟩ := h.at'
  exact ⟨by rw [Lib.cell_of_heap h3, patchO_get _ _ _ _ h2]; rfl, Lib.frozen_of_heap h3 _⟩
theorem Box.lt (h : Box w0 r m u b w v xs) : b < w.heap.size := by
  obtain ⟨cs, _, _, h3⟩ := h.at'
  exact lt_getH h3
theorem Box.away (h : Box w0 r m u b w v xs) : v.ownBlock ≠ some b := fun e => by have := (h.own.lt b e).1; omega
theorem Box.drew (h : Box w0 r m u b w v xs) : Box w0 r m u b w.drew v xs := ⟨h.at', h.own.below (Below.refl _ _).drew, h.row, ⟨h.keep.os, h.keep.tape, h.keep.output, h.keep.size, h.keep.block⟩⟩
theorem Box.drewN (h : Box w0 r m u b w v xs) (q : Nat) : Box w0 r m u b (w.drewN q) v xs := by
  induction q with
  | zero => exact h
  | succ q ih => exact ih.drew
/-- The row's own cells change. -/
theorem Box.kept {g n cap : Nat} (h : Box w0 r m u b w (.slice (some ⟨g, 0, none⟩) n cap) xs) (hg : w.grownBy w' (some g)) (ho : OwnN (b + 1) w' (.slice (some ⟨g, 0, none⟩) n cap) ys) : Box w0 r m u b w' (.slice (some ⟨g, 0, none⟩) n cap) ys :=
  ⟨by rw [hg.block b h.lt (fun e => h.away e.symm)]; exact h.at', ho, h.row, h.keep.grown h.row hg⟩
/-- All blocks that were there stay. -/
theorem Box.below (h : Box w0 r m u b w v xs) (hb : Below w.heap.size w w') : Box w0 r m u b w' v xs :=
  ⟨by rw [hb.block b h.lt]; exact h.at', h.own.below hb, h.row, h.keep.ofBelow hb⟩
/-- Seen from now. -/
theorem Box.now (h : Box w0 r m u b w v xs) : Box w v.ownBlock m u b w v xs := by
  obtain ⟨cs, _, h2, h3⟩ := h.at'
  exact ⟨⟨_, h3, by rw [patchO_size]; exact h2, by rw [patchO_again _ _ _ _ h2]; exact h3⟩, h.own, fun k hk => Or.inl hk.symm, Keeps.refl _ _ _⟩
/-- The slice is stored anew. -/
theorem Box.put (h : Box w0 r m u b w v xs) (hg : w.grownBy w' v.ownBlock) (ho : OwnN (b + 1) w' v' ys) (hr : ∀ k, v'.ownBlock = some k → some k = v.ownBlock ∨ w.heap.size ≤ k) : Box w0 r m u b (w'.setCell ⟨b, 404, none⟩ v') v' ys := by
  obtain ⟨cs, h1, h2, h3⟩ := h.at'
  have hat : w'.heap[b]? = some (.cells (patchO cs m u v) 61 (0, 0)) := by rw [hg.block b h.lt (fun e => h.away e.symm)]; exact h3
  refine ⟨⟨cs, h1, h2, ?_⟩, ho.far (fun e => by have := (ho.lt b e).1; omega), fun k hk => ?_, (h.keep.grown h.row hg).set 404 v'⟩
  · rw [heap_setCell_same _ b 404 _ _ _ hat, patchO_v _ _ _ _ h2]
  · rcases hr k hk with h1 | h1
    · exact h.row k h1.symm
    · right
      have := h.keep.size
      omega
/-- How far numbers are used is stored anew. -/
theorem Box.use (h : Box w0 r m u b w v xs) (u' : Nat) : Box w0 r m u' b (w.setCell ⟨b, 403, none⟩ (.int .i64 (u' : Int))) v xs := by
  obtain ⟨cs, h1, h2, h3⟩ := h.at'
  refine ⟨⟨cs, h1, h2, ?_⟩, h.own.far h.away, h.row, h.keep.set 403 _⟩
  rw [heap_setCell_same _ b 403 _ _ _ h3, patchO_u _ _ _ _ h2]
end

theorem run_far (w : World) (b : Nat) : (follow [⟨51, 0, true⟩] 82 (.val (.pointer (some ⟨b, 404, none⟩)))).run Try.prog w = .ok (49, .var ⟨b, 404, none⟩) w := by
  kernel_rfl
theorem meth_val (name : String) (K : Nat) (hi : (Try.prog.info? 82).bind (fun i => (i.methods.find? (·.name == name)).map fun m => (m.path.toList, m.func)) = some ([⟨51, 0, true⟩], some (K, false))) (b : Nat) (v : Value) (w : World) (h : w.cell? ⟨b, 404, none⟩ = some v) :
    (method 231 82 (.pointer (some ⟨b, 404, none⟩)) name).run Try.prog w = .ok (K, v) w := by
  obtain ⟨i, hi1, hi2⟩ := Option.bind_eq_some_iff.1 hi
  obtain ⟨m, hm1, hm2⟩ := Option.map_eq_some_iff.1 hi2
  simp only [Prod.mk.injEq] at hm2
  obtain ⟨hp, hf⟩ := hm2
  have hr := fun o => run_receiver w ⟨b, 404, none⟩ v h o
  have hfar := run_far w b
  rw [method.eq_2]
  simp only [Sem.run_bind, typeInfo, run_program, Result.andThen_ok, hi1, Sem.run_pure, hm1, hp, hfar, hf, hr]
theorem meth_less (b : Nat) (v : Value) (w : World) (h : w.cell? ⟨b, 404, none⟩ = some v) : (method 231 82 (.pointer (some ⟨b, 404, none⟩)) "Less").run Try.prog w = .ok (84, v) w := meth_val "Less" _ (by kernel_rfl) b v w h
theorem meth_swap (b : Nat) (v : Value) (w : World) (h : w.cell? ⟨b, 404, none⟩ = some v) : (method 231 82 (.pointer (some ⟨b, 404, none⟩)) "Swap").run Try.prog w = .ok (86, v) w := meth_val "Swap" _ (by kernel_rfl) b v w h
theorem meth_len (b : Nat) (v : Value) (w : World) (h : w.cell? ⟨b, 404, none⟩ = some v) : (method 231 82 (.pointer (some ⟨b, 404, none⟩)) "Len").run Try.prog w = .ok (41, v) w := meth_val "Len" _ (by kernel_rfl) b v w h
theorem meth_push (b : Nat) (w : World) : (method 231 82 (.pointer (some ⟨b, 404, none⟩)) "Push").run Try.prog w = .ok (89, .pointer (some ⟨b, 404, none⟩)) w := by kernel_rfl
theorem meth_pop (b : Nat) (w : World) : (method 231 82 (.pointer (some ⟨b, 404, none⟩)) "Pop").run Try.prog w = .ok (88, .pointer (some ⟨b, 404, none⟩)) w := by kernel_rfl
theorem ahead_less (b : Nat) (w : World) : (nilAhead 231 82 (.pointer (some ⟨b, 404, none⟩)) "Less").run Try.prog w = .ok (some false) w := by kernel_rfl
theorem ahead_swap (b : Nat) (w : World) : (nilAhead 231 82 (.pointer (some ⟨b, 404, none⟩)) "Swap").run Try.prog w = .ok (some false) w := by kernel_rfl
theorem ahead_len (b : Nat) (w : World) : (nilAhead 231 82 (.pointer (some ⟨b, 404, none⟩)) "Len").run Try.prog w = .ok (some false) w := by kernel_rfl
end Emb
end Go.Proofs.Ytmplekjiciedgaa

namespace Go.Proofs.Ytmplekjiciedgaa
namespace Emb
open Go.RowKit Go.Sort
set_option linter.unusedVariables false

def UpPost (wB : World) (rB : Option Nat) (mB uB b : Nat) (v : Value) (xs : List Int) (w : World) (e : Ending) (w' : World) : Prop := e = .returned (.tuple #[]) ∧ ∃ ys, ys.Perm xs ∧ HeapN ys.length ys ∧ Box wB rB mB uB b w' v ys

set_option maxHeartbeats 2000000 in
set_option maxRecDepth 100000 in
theorem up_c (wB : World) (rB : Option Nat) (mB uB b : Nat) (v : Value) (xs : List Int) (j : Nat) (w : World) (h : Box wB rB mB uB b w v xs) (hj : j < xs.length) (hu : UpI xs j) (hl : xs.length ≤ 1000) :
    Calls Try.prog 48 #[.iface 82 (.pointer (some ⟨b, 404, none⟩)), .int .i64 j] w (UpPost wB rB mB uB b v xs w) := by
  unfold UpPost
  obtain ⟨n, hn⟩ : ∃ n, xs.length = n := ⟨_, rfl⟩
  have HN := Lib.hid hn
  rw [hn] at hj hl
  have HU := Lib.hid hu
  have HBX := Lib.hid h
  clear hn hu h
  go_enter Try.func48, Try.ntmps48
  go_wp2
  go_loopg [1] j (fun gk jv wr => ∃ (k : Nat) (ys : List Int), k = gk ∧ k < n ∧ jv = .int .i64 k ∧ ys.Perm xs ∧ UpI ys k ∧ Box wB rB mB uB b wr v ys)
  case atStart => exact ⟨j, xs, rfl, hj, rfl, List.Perm.refl _, HU.out, HBX.out⟩
  case round =>
    obtain ⟨k, ys, rfl, hk, rfl, hp, hui, hbx⟩ := hrel
    have HP := Lib.hid hp
    have HI := Lib.hid hui
    have HB := Lib.hid hbx
    have hyl : Hid (ys.length = n) := Lib.hid (hp.length_eq.trans HN.out)
    clear hp hui hbx
    by_cases hk0 : k = 0
    · subst hk0
      go_wp2
      go_end0
      exact ⟨rfl, ys, HP.out, upI_done HI.out (Or.inl rfl), HB.out⟩
    · have hk1 : 1 ≤ k := by omega
      have hkz : (((k : Int) - 1) / 2 == (k : Int)) = false := by rw [beq_eq_false_iff_ne]; omega
      obtain ⟨c0, f0⟩ := HB.out.cell
      have hne : ys ≠ [] := by
        intro e
        have := hyl.out
        rw [e] at this
        simp at this
        omega
      obtain ⟨g, cap, hv, hg, hgl, hcap⟩ := HB.out.2.head hne
      rw [hyl.out] at hv hcap
      subst hv
      obtain ⟨i, hi⟩ : ∃ i, (k - 1) / 2 = i := ⟨_, rfl⟩
      have hiz : ((k : Int) - 1) / 2 = (i : Int) := by omega
      have hin : i < n := by omega
      have hik : i ≠ k := by omega
      have m1 := meth_less b _ wr c0
      rw [hiz] at hkz
      have HIK := Lib.hid hi
      clear hne hi
      cases hb : decide (ys.getD k 0 < ys.getD i 0) with
      | false =>
        have cl := less_c (b + 1) g n cap k i ys wr HB.out.2 hyl.out hk hin false hb
        have HD : Hid (ys.getD i 0 ≤ ys.getD k 0) := Lib.hid (by have := of_decide_eq_false hb; omega)
        clear hb
        go_wp2_with (go_at_call 84; refine cl.mono ?_; rintro e w' ⟨rfl, q, rfl⟩)
        go_end0
        exact ⟨rfl, ys, HP.out, upI_done HI.out (Or.inr (by rw [HIK.out]; exact HD.out)), HB.out.drewN q⟩
      | true =>
        have cl := less_c (b + 1) g n cap k i ys wr HB.out.2 hyl.out hk hin true hb
        have HD : Hid (ys.getD k 0 < ys.getD i 0) := Lib.hid (of_decide_eq_true hb)
        clear hb
        go_wp2_with (go_at_call 84; refine cl.mono ?_; rintro e w' ⟨rfl, q, rfl⟩)
        have HM : Hid (∀ q, (method 231 82 (.pointer (some ⟨b, 404, none⟩)) "Swap").run Try.prog (wr.drewN q) = .ok (86, .slice (some ⟨g, 0, none⟩) n cap) (wr.drewN q)) := Lib.hid (fun q => meth_swap b _ (wr.drewN q) (HB.out.drewN q).cell.1)
        have HS : Hid (∀ q, Calls Try.prog 86 #[.slice (some ⟨g, 0, none⟩) n cap, .int .i64 i, .int .i64 k] (wr.drewN q) fun e w' => e = .returned (.tuple #[]) ∧ OwnN (b + 1) w' (.slice (some ⟨g, 0, none⟩) n cap) (swI ys i k) ∧ wr.grownBy w' (some g)) := Lib.hid (fun q => (swap_c (b + 1) g n cap i k ys (wr.drewN q) (HB.out.drewN q).2 hg hyl.out hin hk).mono fun e w' ⟨h1, h2, h3⟩ => ⟨h1, h2, grown_drewN h3⟩)
        go_wp2_with (go_at_call 84; refine cl.mono ?_; rintro e w' ⟨rfl, q, rfl⟩)
        rw [HM.out q]
        have cs := HS.out q
        go_wp2_with (go_at_call 86; refine cs.mono ?_; rintro e w2 ⟨rfl, ho2, hb2⟩)
        have HB2 := Lib.hid hb2
        have HO2 := Lib.hid ho2
        clear hb2 ho2 cs
        go_roundg i
        case measure => omega
        case rel => exact ⟨i, swI ys i k, rfl, hin, by first | rfl | rw [hiz], (swI_perm (by rw [hyl.out]; exact hin) (by rw [hyl.out]; exact hk)).trans HP.out, by have := upI_step HI.out hk1 (by rw [hyl.out]; exact hk) (by rw [HIK.out]; exact HD.out); rw [HIK.out] at this; exact this, HB.out.kept HB2.out HO2.out⟩
end Emb
end Go.Proofs.Ytmplekjiciedgaa

namespace Go.Proofs.Ytmplekjiciedgaa
namespace Emb
open Go.RowKit Go.Sort
set_option linter.unusedVariables false

def DownPost (wB : World) (rB : Option Nat) (mB uB b n : Nat) (v : Value) (xs : List Int) (w : World) (e : Ending) (w' : World) : Prop := (∃ t : Bool, e = .returned (.bool t)) ∧ ∃ ys, DownRel n xs ys ∧ HeapN n ys ∧ Box wB rB mB uB b w' v ys

set_option maxHeartbeats 4000000 in
set_option maxRecDepth 100000 in
theorem down_c (wB : World) (rB : Option Nat) (mB uB b : Nat) (v : Value) (xs : List Int) (n : Nat) (w : World) (h : Box wB rB mB uB b w v xs) (hn : n < xs.length) (hd : DownI n xs 0) (hl : xs.length ≤ 1000) :
    Calls Try.prog 55 #[.iface 82 (.pointer (some ⟨b, 404, none⟩)), .int .i64 0, .int .i64 n] w (DownPost wB rB mB uB b n v xs w) := by
  unfold DownPost
  obtain ⟨N, hN⟩ : ∃ N, xs.length = N := ⟨_, rfl⟩
  have HN := Lib.hid hN
  rw [hN] at hn hl
  have HU := Lib.hid hd
  have HBX := Lib.hid h
  clear hN hd h
  go_enter Try.func55, Try.ntmps55
  go_wp2
  go_loopg [7] (n + 1) (fun gk iv wr => ∃ (i : Nat) (ys : List Int), (i ≤ n ∧ i + gk = n + 1) ∧ iv = .int .i64 i ∧ DownRel n xs ys ∧ DownI n ys i ∧ Box wB rB mB uB b wr v ys)
  case atStart => exact ⟨0, xs, by omega, rfl, ⟨List.Perm.refl _, fun k hk => rfl⟩, HU.out, HBX.out⟩
  case round =>
    obtain ⟨i, ys, ⟨hin, hig⟩, rfl, hp, hdi, hbx⟩ := hrel
    have HP := Lib.hid hp
    have HI := Lib.hid hdi
    have HB := Lib.hid hbx
    have hyl : Hid (ys.length = N) := Lib.hid (hp.1.length_eq.trans HN.out)
    clear hp hdi hbx
    by_cases h1 : 2 * i + 1 < n
    · have h1z : ¬ ((n : Int) ≤ 2 * (i : Int) + 1) := by omega
      obtain ⟨c0, f0⟩ := HB.out.cell
      have hne : ys ≠ [] := by
        intro e
        have := hyl.out
        rw [e] at this
        simp at this
        omega
      obtain ⟨g, cap, hv, hg, hgl, hcap⟩ := HB.out.2.head hne
      rw [hyl.out] at hv hcap
      subst hv
      clear hne
      -- the second part, whichever child it is
      have c2 : (2 * i + 1 < N ∧ i < N) := by omega
      have HLS : Hid (∀ (q x y : Nat) (t : Bool), x < N → y < N → decide (ys.getD x 0 < ys.getD y 0) = t → Calls Try.prog 84 #[(.slice (some ⟨g, 0, none⟩) N cap), .int .i64 x, .int .i64 y] (wr.drewN q) fun e w' => e = .returned (.bool t) ∧ ∃ q', w' = wr.drewN q') := Lib.hid (fun q x y t hx hy ht => (less_c (b + 1) g N cap x y ys (wr.drewN q) (HB.out.drewN q).2 hyl.out hx hy t ht).mono fun e w' ⟨h1, q2, h2⟩ => ⟨h1, q + q2, by rw [h2, World.drewN_drewN]⟩)
      have HSW : Hid (∀ (q x y : Nat), x < N → y < N → Calls Try.prog 86 #[(.slice (some ⟨g, 0, none⟩) N cap), .int .i64 x, .int .i64 y] (wr.drewN q) fun e w' => e = .returned (.tuple #[]) ∧ OwnN (b + 1) w' (.slice (some ⟨g, 0, none⟩) N cap) (swI ys x y) ∧ wr.grownBy w' (some g)) := Lib.hid (fun q x y hx hy => (swap_c (b + 1) g N cap x y ys (wr.drewN q) (HB.out.drewN q).2 hg hyl.out hx hy).mono fun e w' ⟨h1, h2, h3⟩ => ⟨h1, h2, grown_drewN h3⟩)
      have HML : Hid (∀ q, (method 231 82 (.pointer (some ⟨b, 404, none⟩)) "Less").run Try.prog (wr.drewN q) = .ok (84, (.slice (some ⟨g, 0, none⟩) N cap)) (wr.drewN q)) := Lib.hid (fun q => meth_less b _ (wr.drewN q) (HB.out.drewN q).cell.1)
      have HMS : Hid (∀ q, (method 231 82 (.pointer (some ⟨b, 404, none⟩)) "Swap").run Try.prog (wr.drewN q) = .ok (86, (.slice (some ⟨g, 0, none⟩) N cap)) (wr.drewN q)) := Lib.hid (fun q => meth_swap b _ (wr.drewN q) (HB.out.drewN q).cell.1)
      have m0 := meth_less b _ wr c0
      have c1z : (2 * (i : Int) + 1 < (n : Int)) := by omega
      obtain ⟨c2, c3⟩ := c2
      by_cases h2 : 2 * i + 2 < n
      · have h2z : (2 * (i : Int) + 2 < (n : Int)) := by omega
        have c4 : 2 * i + 2 < N := by omega
        cases hb1 : decide (ys.getD (2 * i + 2) 0 < ys.getD (2 * i + 1) 0) with
        | false =>
          have cl1 := HLS.out 0 (2 * i + 2) (2 * i + 1) false c4 c2 hb1
          have HLE : Hid (Lesser n ys i (2 * i + 1)) := Lib.hid (lesser_one h1 (Or.inr (of_decide_eq_false hb1)))
          clear hb1
          cases hb2 : decide (ys.getD (2 * i + 1) 0 < ys.getD i 0) with
          | false =>
            have cl2 := fun q => HLS.out q (2 * i + 1) i false (by omega) c3 hb2
            have HD : Hid (¬ ys.getD (2 * i + 1) 0 < ys.getD i 0) := Lib.hid (of_decide_eq_false hb2)
            have HE : Hid ((2 * (i : Int) + 1) = ((2 * i + 1 : Nat) : Int)) := Lib.hid (by omega)
            clear hb2
            go_wp2_with (go_at_call 84; refine cl1.mono ?_; rintro e w' ⟨rfl, q, rfl⟩)
            rw [HML.out q]
            have cl3 := cl2 q
            clear cl2
            go_wp2_with (go_at_call 84; refine cl3.mono ?_; rintro e w' ⟨rfl, q2, rfl⟩)
            go_ret
            exact ⟨⟨_, rfl⟩, ys, HP.out, downI_done HI.out HLE.out (by have := HD.out; omega), HB.out.drewN q2⟩
          | true =>
            have cl2 := fun q => HLS.out q (2 * i + 1) i true (by omega) c3 hb2
            have HD : Hid (ys.getD (2 * i + 1) 0 < ys.getD i 0) := Lib.hid (of_decide_eq_true hb2)
            have HE : Hid ((2 * (i : Int) + 1) = ((2 * i + 1 : Nat) : Int)) := Lib.hid (by omega)
            clear hb2
            go_wp2_with (go_at_call 84; refine cl1.mono ?_; rintro e w' ⟨rfl, q, rfl⟩)
            rw [HML.out q]
            have cl3 := cl2 q
            clear cl2
            go_wp2_with (go_at_call 84; refine cl3.mono ?_; rintro e w' ⟨rfl, q2, rfl⟩)
            rw [HMS.out q2]
            have cs := HSW.out q2 i (2 * i + 1) c3 (by omega)
            go_wp2_with (go_at_call 86; refine cs.mono ?_; rintro e w2 ⟨rfl, ho2, hbl2⟩)
            have HB2 := Lib.hid hbl2
            have HO2 := Lib.hid ho2
            clear hbl2 ho2 cs
            go_roundg (n + 1 - (2 * i + 1))
            case measure => omega
            case rel => exact ⟨(2 * i + 1), swI ys i (2 * i + 1), by omega, by first | rfl | rw [HE.out] | go_num, HP.out.swap (by omega) (by omega) (by rw [hyl.out]; omega), downI_step HI.out (by rw [hyl.out]; omega) HLE.out HD.out, HB.out.kept HB2.out HO2.out⟩
        | true =>
          have cl1 := HLS.out 0 (2 * i + 2) (2 * i + 1) true c4 c2 hb1
          have HLE : Hid (Lesser n ys i (2 * i + 2)) := Lib.hid (lesser_two h2 (of_decide_eq_true hb1))
          clear hb1
          cases hb2 : decide (ys.getD (2 * i + 2) 0 < ys.getD i 0) with
          | false =>
            have cl2 := fun q => HLS.out q (2 * i + 2) i false (by omega) c3 hb2
            have HD : Hid (¬ ys.getD (2 * i + 2) 0 < ys.getD i 0) := Lib.hid (of_decide_eq_false hb2)
            have HE : Hid ((2 * (i : Int) + 2) = ((2 * i + 2 : Nat) : Int)) := Lib.hid (by omega)
            clear hb2
            go_wp2_with (go_at_call 84; refine cl1.mono ?_; rintro e w' ⟨rfl, q, rfl⟩)
            rw [HML.out q]
            have cl3 := cl2 q
            clear cl2
            go_wp2_with (go_at_call 84; refine cl3.mono ?_; rintro e w' ⟨rfl, q2, rfl⟩)
            go_ret
            exact ⟨⟨_, rfl⟩, ys, HP.out, downI_done HI.out HLE.out (by have := HD.out; omega), HB.out.drewN q2⟩
          | true =>
            have cl2 := fun q => HLS.out q (2 * i + 2) i true (by omega) c3 hb2
            have HD : Hid (ys.getD (2 * i + 2) 0 < ys.getD i 0) := Lib.hid (of_decide_eq_true hb2)
            have HE : Hid ((2 * (i : Int) + 2) = ((2 * i + 2 : Nat) : Int)) := Lib.hid (by omega)
            clear hb2
            go_wp2_with (go_at_call 84; refine cl1.mono ?_; rintro e w' ⟨rfl, q, rfl⟩)
            rw [HML.out q]
            have cl3 := cl2 q
            clear cl2
            go_wp2_with (go_at_call 84; refine cl3.mono ?_; rintro e w' ⟨rfl, q2, rfl⟩)
            rw [HMS.out q2]
            have cs := HSW.out q2 i (2 * i + 2) c3 (by omega)
            go_wp2_with (go_at_call 86; refine cs.mono ?_; rintro e w2 ⟨rfl, ho2, hbl2⟩)
            have HB2 := Lib.hid hbl2
            have HO2 := Lib.hid ho2
            clear hbl2 ho2 cs
            go_roundg (n + 1 - (2 * i + 2))
            case measure => omega
            case rel => exact ⟨(2 * i + 2), swI ys i (2 * i + 2), by omega, by first | rfl | rw [HE.out] | go_num, HP.out.swap (by omega) (by omega) (by rw [hyl.out]; omega), downI_step HI.out (by rw [hyl.out]; omega) HLE.out HD.out, HB.out.kept HB2.out HO2.out⟩
      · have h2z : ¬ (2 * (i : Int) + 2 < (n : Int)) := by omega
        have HLE : Hid (Lesser n ys i (2 * i + 1)) := Lib.hid (lesser_one h1 (Or.inl h2))
        cases hb2 : decide (ys.getD (2 * i + 1) 0 < ys.getD i 0) with
        | false =>
          have cl2 := fun q => HLS.out q (2 * i + 1) i false (by omega) c3 hb2
          have HD : Hid (¬ ys.getD (2 * i + 1) 0 < ys.getD i 0) := Lib.hid (of_decide_eq_false hb2)
          have HE : Hid ((2 * (i : Int) + 1) = ((2 * i + 1 : Nat) : Int)) := Lib.hid (by omega)
          clear hb2
          have cl3 := cl2 0
          clear cl2
          go_wp2_with (go_at_call 84; refine cl3.mono ?_; rintro e w' ⟨rfl, q2, rfl⟩)
          go_ret
          exact ⟨⟨_, rfl⟩, ys, HP.out, downI_done HI.out HLE.out (by have := HD.out; omega), HB.out.drewN q2⟩
        | true =>
          have cl2 := fun q => HLS.out q (2 * i + 1) i true (by omega) c3 hb2
          have HD : Hid (ys.getD (2 * i + 1) 0 < ys.getD i 0) := Lib.hid (of_decide_eq_true hb2)
          have HE : Hid ((2 * (i : Int) + 1) = ((2 * i + 1 : Nat) : Int)) := Lib.hid (by omega)
          clear hb2
          have cl3 := cl2 0
          clear cl2
          go_wp2_with (go_at_call 84; refine cl3.mono ?_; rintro e w' ⟨rfl, q2, rfl⟩)
          rw [HMS.out q2]
          have cs := HSW.out q2 i (2 * i + 1) c3 (by omega)
          go_wp2_with (go_at_call 86; refine cs.mono ?_; rintro e w2 ⟨rfl, ho2, hbl2⟩)
          have HB2 := Lib.hid hbl2
          have HO2 := Lib.hid ho2
          clear hbl2 ho2 cs
          go_roundg (n + 1 - (2 * i + 1))
          case measure => omega
          case rel => exact ⟨(2 * i + 1), swI ys i (2 * i + 1), by omega, by first | rfl | rw [HE.out] | go_num, HP.out.swap (by omega) (by omega) (by rw [hyl.out]; omega), downI_step HI.out (by rw [hyl.out]; omega) HLE.out HD.out, HB.out.kept HB2.out HO2.out⟩
    · have h1z : ((n : Int) ≤ 2 * (i : Int) + 1) := by omega
      go_wp2
      go_ret
      exact ⟨⟨_, rfl⟩, ys, HP.out, downI_leaf HI.out (by omega), HB.out⟩
end Emb
end Go.Proofs.Ytmplekjiciedgaa

namespace Go.Proofs.Ytmplekjiciedgaa
namespace Emb
open Go.RowKit Go.Sort
set_option linter.unusedVariables false

def PushPost (wB : World) (rB : Option Nat) (mB uB b : Nat) (xs : List Int) (x : Int) (w : World) (e : Ending) (w' : World) : Prop := e = .returned (.tuple #[]) ∧ ∃ v', Box wB rB mB uB b w' v' (xs ++ [x])
set_option maxHeartbeats 2000000 in
set_option maxRecDepth 100000 in
theorem push_c (wB : World) (rB : Option Nat) (mB uB b : Nat) (v : Value) (xs : List Int) (x : Int) (w : World) (h : Box wB rB mB uB b w v xs) (hl : xs.length ≤ 1000) :
    Calls Try.prog 89 #[.pointer (some ⟨b, 404, none⟩), .iface 3 (.int .i64 x)] w (PushPost wB rB mB uB b xs x w) := by
  unfold PushPost
  obtain ⟨i0, hi, hz0, hz1, hz2⟩ := info_parts Try.infoInt
  have hbl : b < w.heap.size := h.lt
  have HB := Lib.hid h
  obtain ⟨c0, f0⟩ := h.cell
  have d0 : w.drew.cell? ⟨b, 404, none⟩ = some v := c0
  have HOA : Hid (OwnN (b + 1) (w.alloc (.cells #[.int .i64 x] 3)).drew v xs) := Lib.hid (h.own.below (((Below.refl _ _).alloc (Nat.le_refl _) _).drew))
  have HOB : Hid (OwnN (b + 1) (w.drew.alloc (.cells #[.int .i64 x] 3)) v xs) := Lib.hid (h.own.below (((Below.refl _ _).drew.alloc (Nat.le_refl _) _)))
  have j3 : (w.alloc (.cells #[.int .i64 x] 3)).cell? ⟨b, 404, none⟩ = some v := by rw [World.cell?_of_block (w := w) (Below.heap_alloc w _ b hbl)]; exact c0
  have j4 : (w.alloc (.cells #[.int .i64 x] 3)).drew.cell? ⟨b, 404, none⟩ = some v := j3
  have hBE : b + 1 ≤ (w.alloc (.cells #[.int .i64 x] 3)).drew.heap.size := by show b + 1 ≤ (w.heap.push _).size; simp; omega
  have HSZ : Hid (w.heap.size ≤ (w.alloc (.cells #[.int .i64 x] 3)).drew.heap.size) := Lib.hid (by show _ ≤ (w.heap.push _).size; simp)
  obtain ⟨cs, _, hcs2, hcs3⟩ := h.at'
  have HQ : Hid ((patchO cs mB uB v)[404]? = some v) := Lib.hid (by rw [patchO_get _ _ _ _ hcs2]; rfl)
  have HHE : Hid ((w.alloc (.cells #[.int .i64 x] 3)).drew.heap[b]? = some (.cells (patchO cs mB uB v) 61 (0, 0))) := Lib.hid (by
    show (w.alloc _).heap[b]? = _
    rw [Below.heap_alloc w _ b hbl]; exact hcs3)
  clear hcs2 hcs3
  obtain ⟨a2, cap2, hv2⟩ := h.own.len
  obtain ⟨n, hn⟩ : ∃ n, xs.length = n := ⟨_, rfl⟩
  have HN := Lib.hid hn
  have jc : (w.alloc (.cells #[.int .i64 x] 3)).drew.cell? ⟨w.heap.size, 0, none⟩ = some (.int .i64 x) := World.cell?_alloc_at _ _ _ _ rfl
  have HBE1 := Lib.hid hBE
  rw [hn] at hv2 hl
  subst hv2
  have ta := ta_int x w.drew
  clear h hn
  go_enter Try.func89, Try.ntmps89
  go_wp2
  go_region_law (first | (refine step_append_lies _ rfl _ _ 49 rfl (b + 1) 3 i0 (.int .i64 0) 1 8 Try.underlying49 hi hz0 hz1 hz2 rfl (by decide) _ _ _ rfl (by have := HOA.out; unfold OwnN at this; rw [HN.out] at this; exact this) ⟨w.heap.size, 0, none⟩ 1 1 [.int .i64 x] rfl rfl (by intro j u hj; rcases j with _ | j; (simp at hj; subst hj; exact jc); (simp at hj)) (by intro u hu; simp at hu; subst hu; rfl) (by decide) (by unfold maxLen; omega) (by omega) HBE1.out _ rfl ?_; intro g9 cap9 w9 hown9 hgrow9 hat9 hlt9; have hh9 := (hgrow9.block b (lt_getH HHE.out) (fun e => by have := (HOA.out.lt b e.symm).1; omega)).trans HHE.out; have q9 : w9.cell? ⟨b, 404, none⟩ = some (.slice a2 n cap2) := (Lib.cell_of_heap hh9 404).trans HQ.out; have f9 : w9.frozen? ⟨b, 404, none⟩ = false := Lib.frozen_of_heap hh9 404))
  all_goals go_end0
  all_goals
    have hon : OwnN (b + 1) w9 (.slice (some ⟨g9, 0, none⟩) (n + 1) cap9) (xs ++ [x]) := OwnN.more (by rw [HN.out]; exact hown9)
    have hg9 : w.grownBy w9 (Value.slice a2 n cap2).ownBlock := grown_trans (grown_drew (w.grownBy_alloc _ _)) hgrow9
    exact ⟨rfl, _, Box.put HB.out hg9 hon (fun k hk => by
      simp only [Value.ownBlock, Option.some.injEq] at hk
      subst hk
      rcases hat9 with h1 | h1
      · exact Or.inl h1.symm
      · right; rw [h1]; exact HSZ.out)⟩

def PopPost (wB : World) (rB : Option Nat) (mB uB b : Nat) (xs : List Int) (n : Nat) (w : World) (e : Ending) (w' : World) : Prop := e = .returned (.iface 3 (.int .i64 (xs.getD n 0))) ∧ ∃ v', Box wB rB mB uB b w' v' (xs.take n)
theorem pop_c (wB : World) (rB : Option Nat) (mB uB b : Nat) (v : Value) (xs : List Int) (n : Nat) (w : World) (h : Box wB rB mB uB b w v xs) (hn : xs.length = n + 1) (hl : n ≤ 1000) :
    Calls Try.prog 88 #[.pointer (some ⟨b, 404, none⟩)] w (PopPost wB rB mB uB b xs n w) := by
  unfold PopPost
  have hbl : b < w.heap.size := h.lt
  obtain ⟨c0, f0⟩ := h.cell
  obtain ⟨g, cap, hv, hg, hgl, hcap⟩ := h.own.head (by intro e; rw [e] at hn; simp at hn)
  rw [hn] at hv hcap
  subst hv
  have hcx := (h.own.cell (j := n) (by omega)).1
  have HB := Lib.hid h
  have HX : Hid (Box wB rB mB uB b (w.setCell ⟨b, 404, none⟩ (.slice (some ⟨g, 0, none⟩) n cap)) (.slice (some ⟨g, 0, none⟩) n cap) (xs.take n)) := Lib.hid (Box.put h (grown_refl _ _) (h.own.cut hn) (fun k hk => Or.inl hk.symm))
  have hnz : (n : Int) < ((n + 1 : Nat) : Int) := by omega
  have hnz2 : (n : Int) < (n : Int) + 1 := by omega
  generalize xs.getD n 0 = x at *
  clear h hn
  go_enter Try.func88, Try.ntmps88
  go_wp2
  go_ret
  exact ⟨rfl, _, HX.out⟩

def HPushPost (wB : World) (rB : Option Nat) (mB uB b : Nat) (xs : List Int) (x : Int) (w : World) (e : Ending) (w' : World) : Prop := e = .returned (.tuple #[]) ∧ ∃ v' ys, ys.Perm (x :: xs) ∧ HeapN ys.length ys ∧ Box wB rB mB uB b w' v' ys
set_option maxHeartbeats 2000000 in
set_option maxRecDepth 100000 in
theorem hpush_c (wB : World) (rB : Option Nat) (mB uB b : Nat) (v : Value) (xs : List Int) (x : Int) (w : World) (h : Box wB rB mB uB b w v xs) (hh : HeapN xs.length xs) (hl : xs.length ≤ 900) :
    Calls Try.prog 38 #[.iface 82 (.pointer (some ⟨b, 404, none⟩)), .iface 3 (.int .i64 x)] w (HPushPost wB rB mB uB b xs x w) := by
  unfold HPushPost
  have cP := push_c wB rB mB uB b v xs x w h (by omega)
  have HH := Lib.hid hh
  have m1 := meth_push b w
  unfold PushPost at cP
  obtain ⟨n, hn⟩ : ∃ n, xs.length = n := ⟨_, rfl⟩
  have hxl : (xs ++ [x]).length = n + 1 := by rw [List.length_append, List.length_singleton, hn]
  have HXL := Lib.hid hxl
  have hn9 : n ≤ 900 := by omega
  have HU : Hid (UpI (xs ++ [x]) n) := Lib.hid (by rw [← hn]; exact upI_start hh x)
  have HPX : Hid ((xs ++ [x]).Perm (x :: xs)) := Lib.hid (List.perm_append_comm)
  have hnz : (n : Int) + 1 - 1 = (n : Int) := by omega
  clear hh h hl hn hxl
  generalize xs ++ [x] = zs at *
  go_enter Try.func38, Try.ntmps38
  go_wp2_with (go_at_call 89; refine cP.mono ?_; rintro e w2 ⟨rfl, v2, hb2⟩; obtain ⟨a2, cap2, hv2⟩ := hb2.own.len; rw [HXL.out] at hv2; have HB2 := Lib.hid hb2; subst hv2; have m2 := meth_len b _ w2 hb2.cell.1; clear hb2)
  refine (len_c a2 (n + 1) cap2 w2).mono ?_
  rintro e w3 ⟨rfl, rfl⟩
  have cU := up_c wB rB mB uB b _ zs n w2 HB2.out (by rw [HXL.out]; omega) HU.out (by rw [HXL.out]; omega)
  unfold UpPost at cU
  clear cP m1
  go_wp2_with fail
  refine cU.mono ?_
  rintro e w4 ⟨rfl, ys, hp, hhp, hbx⟩
  have H1 := Lib.hid hp
  have H2 := Lib.hid hhp
  have H3 := Lib.hid hbx
  clear hp hhp hbx
  go_wp2
  go_end0
  exact ⟨rfl, _, ys, H1.out.trans HPX.out, H2.out, H3.out⟩

def HPopPost (wB : World) (rB : Option Nat) (mB uB b : Nat) (xs : List Int) (w : World) (e : Ending) (w' : World) : Prop := e = .returned (.iface 3 (.int .i64 (xs.getD 0 0))) ∧ ∃ v' ys, xs.Perm (xs.getD 0 0 :: ys) ∧ HeapN ys.length ys ∧ Box wB rB mB uB b w' v' ys
theorem hpop_c (wB : World) (rB : Option Nat) (mB uB b : Nat) (v : Value) (xs : List Int) (n : Nat) (w : World) (h : Box wB rB mB uB b w v xs) (hh : HeapN xs.length xs) (hn : xs.length = n + 1) (hl : n ≤ 900) :
    Calls Try.prog 52 #[.iface 82 (.pointer (some ⟨b, 404, none⟩))] w (HPopPost wB rB mB uB b xs w) := by
  unfold HPopPost
  obtain ⟨g, cap, hv, hg, hgl, hcap⟩ := h.own.head (by intro e; rw [e] at hn; simp at hn)
  rw [hn] at hv hcap
  subst hv
  have HB := Lib.hid h
  have HD : Hid (DownI n (swI xs 0 n) 0) := Lib.hid (downI_start hn hh)
  have m1 := meth_len b _ w h.cell.1
  have m2 := meth_swap b _ w h.cell.1
  have cS := swap_c (b + 1) g (n + 1) cap 0 n xs w h.2 hg hn (by omega) (by omega)
  have HN := Lib.hid hn
  have hnz : (n : Int) + 1 - 1 = (n : Int) := by omega
  have HPP : Hid (∀ zs, DownRel n (swI xs 0 n) zs → zs.getD n 0 = xs.getD 0 0 ∧ xs.Perm (xs.getD 0 0 :: zs.take n) ∧ zs.length = n + 1) := Lib.hid (fun zs hz => pop_perm hn hz)
  have HSL : Hid ((swI xs 0 n).length = n + 1) := Lib.hid (by rw [swI_length, hn])
  generalize xs.getD 0 0 = x at *
  generalize swI xs 0 n = ss at *
  clear h hh hn
  go_enter Try.func52, Try.ntmps52
  go_wp2_with fail
  refine (len_c _ (n + 1) cap w).mono ?_
  rintro e w1 ⟨rfl, rfl⟩
  go_wp2_with fail
  refine cS.mono ?_
  rintro e w2 ⟨rfl, ho2, hb2⟩
  have HB2 : Hid (Box wB rB mB uB b w2 (.slice (some ⟨g, 0, none⟩) (n + 1) cap) ss) := Lib.hid (HB.out.kept hb2 ho2)
  have cD := down_c wB rB mB uB b _ ss n w2 HB2.out (by rw [HSL.out]; omega) HD.out (by rw [HSL.out]; omega)
  unfold DownPost at cD
  clear cS m1 m2 ho2 hb2
  go_wp2_with fail
  refine cD.mono ?_
  rintro e w3 ⟨⟨t, rfl⟩, zs, hdr, hhp, hb3⟩
  obtain ⟨hz1, hz2, hz3⟩ := HPP.out zs hdr
  have cP := pop_c wB rB mB uB b _ zs n w3 hb3 hz3 (by omega)
  unfold PopPost at cP
  rw [hz1] at cP
  have HZ2 := Lib.hid hz2
  have HHP : Hid (HeapN (zs.take n).length (zs.take n)) := Lib.hid (by
    rw [show (zs.take n).length = n by rw [List.length_take]; omega]
    exact heap_take hhp)
  have m3 := meth_pop b w3
  clear cD hdr hhp hb3 hz1 hz2 hz3
  go_wp2_with fail
  refine cP.mono ?_
  rintro e w4 ⟨rfl, v4, hb4⟩
  have HB4 := Lib.hid hb4
  clear cP hb4
  go_wp2
  go_ret
  exact ⟨rfl, v4, _, HZ2.out, HHP.out, HB4.out⟩

def AddPost (wB : World) (rB : Option Nat) (mB uB b : Nat) (xs : List Int) (x : Int) (w : World) (e : Ending) (w' : World) : Prop := e = .returned (.tuple #[]) ∧ ∃ v' ys, ys.Perm (x :: xs) ∧ HeapN ys.length ys ∧ Box wB rB mB uB b w' v' ys
set_option maxRecDepth 100000 in
theorem add_c (wB : World) (rB : Option Nat) (mB uB b : Nat) (v : Value) (xs : List Int) (x : Int) (w : World) (h : Box wB rB mB uB b w v xs) (hh : HeapN xs.length xs) (hl : xs.length ≤ 900) :
    Calls Try.prog 26 #[.pointer (some ⟨b, 404, none⟩), .int .i64 x] w (AddPost wB rB mB uB b xs x w) := by
  have cH := hpush_c wB rB mB uB b v xs x w h hh hl
  clear h hh hl
  go_enter Try.func26, Try.ntmps26
  go_wp2_with fail
  refine cH.mono ?_
  rintro e w1 ⟨rfl, h1⟩
  have H1 := Lib.hid h1
  clear h1 cH
  go_wp2
  go_end0
  exact ⟨rfl, H1.out⟩
def LeastPost (wB : World) (rB : Option Nat) (mB uB b : Nat) (xs : List Int) (w : World) (e : Ending) (w' : World) : Prop := e = .returned (.int .i64 (xs.getD 0 0)) ∧ ∃ v' ys, xs.Perm (xs.getD 0 0 :: ys) ∧ HeapN ys.length ys ∧ Box wB rB mB uB b w' v' ys
set_option maxRecDepth 100000 in
theorem least_c (wB : World) (rB : Option Nat) (mB uB b : Nat) (v : Value) (xs : List Int) (n : Nat) (w : World) (h : Box wB rB mB uB b w v xs) (hh : HeapN xs.length xs) (hn : xs.length = n + 1) (hl : n ≤ 900) :
    Calls Try.prog 42 #[.pointer (some ⟨b, 404, none⟩)] w (LeastPost wB rB mB uB b xs w) := by
  have cH := hpop_c wB rB mB uB b v xs n w h hh hn hl
  unfold HPopPost at cH
  unfold LeastPost
  clear h hh hl hn
  generalize xs.getD 0 0 = x at *
  have ta := fun w => ta_int x w
  go_enter Try.func42, Try.ntmps42
  go_wp2_with fail
  refine cH.mono ?_
  rintro e w1 ⟨rfl, h1⟩
  have H1 := Lib.hid h1
  have ta := ta_int x w1
  clear h1 cH
  go_wp2
  go_ret
  exact ⟨rfl, H1.out⟩
end Emb
end Go.Proofs.Ytmplekjiciedgaa

namespace Go.Proofs.Ytmplekjiciedgaa
namespace Emb
open Go.RowKit Go.Sort
set_option linter.unusedVariables false

/-- A pool at b: which numbers are out. -/
def PoolIs (w0 : World) (r : Option Nat) (m b : Nat) (w : World) (v : Value) (l : List Bool) : Prop := ∃ u ys, Box w0 r m u b w v ys ∧ GoodP m u ys ∧ l = outRow u ys

theorem take_c (w0 : World) (r : Option Nat) (m b : Nat) (v : Value) (l : List Bool) (w : World) (h : PoolIs w0 r m b w v l) :
    Calls Try.prog 29 #[.pointer (some ⟨b, 402, none⟩)] w fun e w' =>
      (leastN m l = 0 ∧ e = .returned (.tuple #[.int .i64 0, .bool false]) ∧ PoolIs w0 r m b w' v l) ∨ (∃ (n : Nat) (v' : Value), 1 ≤ n ∧ n ≤ 200 ∧ leastN m l = n ∧ e = .returned (.tuple #[.int .i64 (n : Int), .bool true]) ∧ PoolIs w0 r m b w' v' (l.set n true)) := by
  obtain ⟨u, ys, hb, hg, rfl⟩ := h
  have HB := Lib.hid hb
  have HG := Lib.hid hg
  have hum := hg.um
  have hm2 := hg.m200
  have hyl := hg.len
  have hum2 : (u : Int) ≤ 200 := by omega
  have hmm2 : (m : Int) ≤ 200 := by omega
  obtain ⟨c0, f0⟩ := hb.cell0
  obtain ⟨c1, f1⟩ := hb.cell1
  obtain ⟨c2, f2⟩ := hb.cell
  obtain ⟨a, cap, hv⟩ := hb.own.len
  have cN := len_c a ys.length cap w
  rw [← hv] at cN
  have HV := Lib.hid hv
  cases hys : ys with
  | cons y zs =>
    have cL := least_c w0 r m u b v ys zs.length w hb hg.heap (by rw [hys]; rfl) (by rw [hys] at hyl; simp at hyl; omega)
    unfold LeastPost at cL
    have HT : Hid (∀ zs, ys.Perm (ys.getD 0 0 :: zs) → HeapN zs.length zs → ∃ n : Nat, ys.getD 0 0 = (n : Int) ∧ 1 ≤ n ∧ leastN m (outRow u ys) = n ∧ GoodP m u zs ∧ outRow u zs = (outRow u ys).set n true) := Lib.hid (fun zs hp hz => hg.take hp hz)
    obtain ⟨n, hn⟩ : ∃ n, ys.length = n := ⟨_, rfl⟩
    have hn0 : (0 : Int) < (n : Int) := by rw [← hn, hys]; simp
    rw [hn] at cN
    have HYS := Lib.hid hys
    generalize hxx : ys.getD 0 0 = x at *
    rw [← hys]
    clear hb hg hn hys hv hyl hxx
    go_enter Try.func29, Try.ntmps29
    go_wp2_with fail
    refine cN.mono ?_
    rintro e w1 ⟨rfl, rfl⟩
    go_wp2_with fail
    refine cL.mono ?_
    rintro e w2 ⟨rfl, v', zs', hp, hz, hb2⟩
    obtain ⟨k, hk1, hk2, hk3, hk4, hk5⟩ := HT.out zs' hp hz
    have hk200 : k ≤ 200 := by rw [← hk3]; exact Nat.le_trans (leastN_le _ _) hm2
    have H1 : Hid (PoolIs w0 r m b w2 v' ((outRow u ys).set k true)) := Lib.hid ⟨u, zs', hb2, hk4, hk5.symm⟩
    have H2 := Lib.hid hk3
    subst hk1
    clear cL cN hp hz hb2 hk3 hk4 hk5
    go_wp2
    go_ret2
    exact Or.inr ⟨k, v', hk2, hk200, H2.out, rfl, H1.out⟩
  | nil =>
    subst hys
    rw [List.length_nil] at cN
    clear hb hg hv hyl
    by_cases e : u = m
    · have HE : Hid (leastN m (outRow u []) = 0) := Lib.hid (HG.out.full e)
      subst e
      go_enter Try.func29, Try.ntmps29
      go_wp2_with fail
      refine cN.mono ?_
      rintro e w1 ⟨rfl, rfl⟩
      clear cN
      go_wp2
      go_quiet (fail)
      go_wp2
      go_ret2
      exact Or.inl ⟨HE.out, rfl, u, [], HB.out.drewN _, HG.out, rfl⟩
    · obtain ⟨h1, h2, h3⟩ := HG.out.next e
      have H1 := Lib.hid h1
      have H2 := Lib.hid h2
      have H3 := Lib.hid h3
      have hez : ((u : Int) == (m : Int)) = false := by rw [beq_eq_false_iff_ne]; omega
      have huz : ((u : Int) + 1) = ((u + 1 : Nat) : Int) := by omega
      have HZ := Lib.hid huz
      clear h1 h2 h3 huz
      go_enter Try.func29, Try.ntmps29
      go_wp2_with fail
      refine cN.mono ?_
      rintro e w1 ⟨rfl, rfl⟩
      clear cN
      go_wp2
      go_quiet (fail)
      go_wp2
      go_ret2
      refine Or.inr ⟨u + 1, v, by omega, by omega, H1.out, by first | rfl | simp, u + 1, [], ?_, H2.out, H3.out.symm⟩
      first | exact (HB.out.drewN _).use (u + 1) | exact HB.out.drew.use (u + 1)
set_option maxHeartbeats 2000000 in
theorem give_c (w0 : World) (r : Option Nat) (m b : Nat) (v : Value) (l : List Bool) (x : Int) (w : World) (h : PoolIs w0 r m b w v l) (t : Bool) (ht : isOut m l x = t) :
    Calls Try.prog 33 #[.pointer (some ⟨b, 402, none⟩), .int .i64 x] w fun e w' => e = .returned (.bool t) ∧ ∃ v', PoolIs w0 r m b w' v' (if t = true then l.set x.toNat false else l) := by
  obtain ⟨u, ys, hb, hg, rfl⟩ := h
  have HB := Lib.hid hb
  have HG := Lib.hid hg
  have hyl := hg.len
  have HSM : Hid (PoolIs w0 r m b w v (outRow u ys)) := Lib.hid ⟨u, ys, hb, hg, rfl⟩
  rw [hg.isOut x] at ht
  obtain ⟨c1, f1⟩ := hb.cell1
  obtain ⟨c2, f2⟩ := hb.cell
  have hnb : NumsIs w v ys := NumsIs.own hb.own
  by_cases h1 : x < 1
  · obtain rfl : t = false := by rw [← ht]; exact decide_eq_false (fun h => by omega)
    have h1z : decide (x < 1) = true := decide_eq_true h1
    clear hb hg hyl ht hnb
    go_enter Try.func33, Try.ntmps33
    go_wp2
    go_ret
    exact ⟨rfl, v, HSM.out⟩
  · by_cases h2 : (u : Int) < x
    · obtain rfl : t = false := by rw [← ht]; exact decide_eq_false (fun h => by omega)
      have h1z : decide (x < 1) = false := decide_eq_false h1
      have h2z : decide ((u : Int) < x) = true := decide_eq_true h2
      clear hb hg hyl ht hnb
      go_enter Try.func33, Try.ntmps33
      go_wp2
      go_ret
      exact ⟨rfl, v, HSM.out⟩
    · have h1z : decide (x < 1) = false := decide_eq_false h1
      have h2z : decide ((u : Int) < x) = false := decide_eq_false h2
      by_cases h3 : x ∈ ys
      · obtain rfl : t = false := by rw [← ht]; exact decide_eq_false (fun h => h.2.2 h3)
        have cC := contains_c v ys x w hnb (by omega) true (decide_eq_true h3)
        clear hb hg hyl ht hnb h3
        go_enter Try.func33, Try.ntmps33
        go_wp2_with (go_at_call 45; refine cC.mono ?_; rintro e w1 ⟨rfl, rfl⟩)
        go_ret
        exact ⟨rfl, v, HSM.out⟩
      · obtain rfl : t = true := by rw [← ht]; exact decide_eq_true ⟨by omega, by omega, h3⟩
        have cC := contains_c v ys x w hnb (by omega) false (decide_eq_false h3)
        have cA := add_c w0 r m u b v ys x w hb hg.heap (by omega)
        unfold AddPost at cA
        have HGV : Hid (∀ zs, zs.Perm (x :: ys) → HeapN zs.length zs → GoodP m u zs ∧ outRow u zs = (outRow u ys).set x.toNat false) := Lib.hid (fun zs hp hz => hg.give (by omega) (by omega) h3 hp hz)
        clear hb hg hyl ht hnb h3
        go_enter Try.func33, Try.ntmps33
        go_wp2_with (go_at_call 45; refine cC.mono ?_; rintro e w1 ⟨rfl, rfl⟩)
        refine cA.mono ?_
        rintro e w2 ⟨rfl, v', zs, hp, hz, hb2⟩
        have HX : Hid (PoolIs w0 r m b w2 v' ((outRow u ys).set x.toNat false)) := Lib.hid (by
          obtain ⟨g1, g2⟩ := HGV.out zs hp hz
          exact ⟨u, zs, hb2, g1, g2.symm⟩)
        clear cA cC hp hz hb2
        go_wp2
        go_ret
        exact ⟨rfl, v', HX.out⟩

theorem PoolIs.lt {w0 : World} {r : Option Nat} {m b : Nat} {w : World} {v : Value} {l : List Bool} (h : PoolIs w0 r m b w v l) : b < w.heap.size := by
  obtain ⟨u, ys, hb, _⟩ := h
  exact hb.lt
theorem PoolIs.below {w0 : World} {r : Option Nat} {m b : Nat} {w w' : World} {v : Value} {l : List Bool} (h : PoolIs w0 r m b w v l) (hb : Below w.heap.size w w') : PoolIs w0 r m b w' v l := by
  obtain ⟨u, ys, hx, hg, hl⟩ := h
  exact ⟨u, ys, hx.below hb, hg, hl⟩
theorem PoolIs.now {w0 : World} {r : Option Nat} {m b : Nat} {w : World} {v : Value} {l : List Bool} (h : PoolIs w0 r m b w v l) : PoolIs w v.ownBlock m b w v l := by
  obtain ⟨u, ys, hx, hg, hl⟩ := h
  exact ⟨u, ys, hx.now, hg, hl⟩
theorem PoolIs.keep {w0 : World} {r : Option Nat} {m b : Nat} {w : World} {v : Value} {l : List Bool} (h : PoolIs w0 r m b w v l) : Keeps b r w0 w := by
  obtain ⟨u, ys, hx, _⟩ := h
  exact hx.keep
theorem PoolIs.row {w0 : World} {r : Option Nat} {m b : Nat} {w : World} {v : Value} {l : List Bool} (h : PoolIs w0 r m b w v l) : ∀ k, v.ownBlock = some k → (some k = r ∨ w0.heap.size ≤ k) ∧ b < k ∧ k < w.heap.size := by
  obtain ⟨u, ys, hx, _⟩ := h
  intro k hk
  have := hx.own.lt k hk
  exact ⟨hx.row k hk, by omega, this.2⟩
end Emb
end Go.Proofs.Ytmplekjiciedgaa
