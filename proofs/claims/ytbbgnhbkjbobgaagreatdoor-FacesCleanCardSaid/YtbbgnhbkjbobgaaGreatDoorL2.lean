/-
  The heap's Push and Pop, the library's, and those of the project's own.
  The contract of Free: the least number that is not taken.
  The contract of Hash: FNV-1a with 32 bits.
  The fifth laws' awake answers true.
-/
import Derived.Test.YtbbgnhbkjbobgaaGreatDoorL1
import Derived.Deep.AppendLies
import Derived.Deep.RegionLaw
import Derived.PlainAid
import Derived.Test.YtbbgnhbkjbobgaaGreatDoorProg
import Derived.WalkKit
import Derived.WalkSpells
import Derived.IntWalk
import Derived.Lib.Hide
import Derived.Below
import Derived.LoopTactic
import Derived.Laws.Bits64
import Derived.Laws.BitsLemmas
namespace Go.Proofs.YtbbgnhbkjbobgaaGreatDoor
open Go.RowKit Go.Sort
set_option linter.unusedVariables false

theorem Tryz.infoInt : (Tryz.prog.info? 3).map (fun i => (i.zero, i.size, i.bytes)) = some (some (.int .i64 0), 1, 8) := by kernel_rfl
theorem OwnN.more {B : Nat} {w : World} {v : Value} {xs : List Int} {x : Int} (h : w.ownsRow B 3 1 v (xs.length + 1) (xs.map (Value.int .i64) ++ [.int .i64 x])) : OwnN B w v (xs ++ [x]) := by
  unfold OwnN
  rw [List.length_append, List.length_singleton, List.map_append]
  exact h
/-- The variable's own cell written anew. -/
theorem Box.put {b : Nat} {w : World} {v v' : Value} {xs : List Int} (h : w.heap[b]? = some (.cells #[v] 80 (0, 0))) (ho : OwnN (b + 1) w v' xs) : Box b (w.setCell ⟨b, 0, none⟩ v') v' xs := by
  refine ⟨?_, ?_⟩
  · rw [setCell_eq]
    simp [mapBlock, Array.getElem?_modify, h, onCells]
  · refine World.ownsRow.kept (row := some b) ho ⟨rfl, rfl, rfl, by rw [setCell_eq]; simp [mapBlock], fun k hk hne => ?_⟩ ?_
    · exact Below.heap_setCell w ⟨b, 0, none⟩ v' k (fun e => hne (by rw [e]))
    · rcases ho.2 with ⟨hv, _⟩ | ⟨g, cap, cur, hv, hg, _⟩
      · exact Or.inl (by rw [hv]; rfl)
      · right
        rw [hv]
        show some g ≠ some b
        intro e
        have := Option.some.inj e
        omega
theorem lt_getH {w : World} {b : Nat} {o : Obj} (h : w.heap[b]? = some o) : b < w.heap.size := (Array.getElem?_eq_some_iff.1 h).1
theorem ta_int (x : Int) (w : World) : (Instr.typeAssert (.iface 3 (.int .i64 x)) 20 3 false).run Tryz.prog w = .ok (.int .i64 x) w := by kernel_rfl
def PushPost (b : Nat) (xs : List Int) (x : Int) (w : World) (e : Ending) (w' : World) : Prop := e = .returned (.tuple #[]) ∧ ∃ v', Box b w' v' (xs ++ [x]) ∧ Below b w w'
set_option maxHeartbeats 2000000 in
set_option maxRecDepth 100000 in
theorem push_c (b : Nat) (v : Value) (xs : List Int) (x : Int) (w : World) (h : Box b w v xs) (hl : xs.length ≤ 1000) :
    Calls Tryz.prog 218 #[.pointer (some ⟨b, 0, none⟩), .iface 3 (.int .i64 x)] w (PushPost b xs x w) := by
  unfold PushPost
  obtain ⟨i0, hi, hz0, hz1, hz2⟩ := info_parts Tryz.infoInt
  have hbl : b < w.heap.size := lt_getH h.1
  have HB := Lib.hid h
  obtain ⟨c0, f0⟩ := h.cell
  have d0 : w.drew.cell? ⟨b, 0, none⟩ = some v := c0
  have HOA : Hid (OwnN (b + 1) (w.alloc (.cells #[.int .i64 x] 3)).drew v xs) := Lib.hid (h.2.below (((Below.refl _ _).alloc (Nat.le_refl _) _).drew))
  have HOB : Hid (OwnN (b + 1) (w.drew.alloc (.cells #[.int .i64 x] 3)) v xs) := Lib.hid (h.2.below (((Below.refl _ _).drew.alloc (Nat.le_refl _) _)))
  have j3 : (w.alloc (.cells #[.int .i64 x] 3)).cell? ⟨b, 0, none⟩ = some v := by rw [World.cell?_of_block (w := w) (Below.heap_alloc w _ b hbl)]; exact c0
  have j4 : (w.alloc (.cells #[.int .i64 x] 3)).drew.cell? ⟨b, 0, none⟩ = some v := j3
  have HBE : Hid (Below b w (w.alloc (.cells #[.int .i64 x] 3)).drew) := Lib.hid (((Below.refl b w).alloc (by omega) _).drew)
  have hBE : b + 1 ≤ (w.alloc (.cells #[.int .i64 x] 3)).drew.heap.size := by have := HBE.out.size; show b + 1 ≤ (w.heap.push _).size; simp; omega
  have HHE : Hid ((w.alloc (.cells #[.int .i64 x] 3)).drew.heap[b]? = some (.cells #[v] 80 (0, 0))) := Lib.hid (by
    show (w.alloc _).heap[b]? = _
    rw [Below.heap_alloc w _ b hbl]; exact h.1)
  obtain ⟨a2, cap2, hv2⟩ := h.2.len
  obtain ⟨n, hn⟩ : ∃ n, xs.length = n := ⟨_, rfl⟩
  have HN := Lib.hid hn
  have jc : (w.alloc (.cells #[.int .i64 x] 3)).drew.cell? ⟨w.heap.size, 0, none⟩ = some (.int .i64 x) := World.cell?_alloc_at _ _ _ _ rfl
  have HBE1 := Lib.hid hBE
  rw [hn] at hv2 hl
  subst hv2
  have ta := ta_int x w.drew
  clear h hn
  go_enter Tryz.func218, Tryz.ntmps218
  go_wp2
  go_region_law (first | (refine step_append_lies _ rfl _ _ 80 rfl (b + 1) 3 i0 (.int .i64 0) 1 8 Tryz.underlying80 hi hz0 hz1 hz2 rfl (by decide) _ _ _ rfl (by have := HOA.out; unfold OwnN at this; rw [HN.out] at this; exact this) ⟨w.heap.size, 0, none⟩ 1 1 [.int .i64 x] rfl rfl (by intro j u hj; rcases j with _ | j; (simp at hj; subst hj; exact jc); (simp at hj)) (by intro u hu; simp at hu; subst hu; rfl) (by decide) (by unfold maxLen; omega) (by omega) HBE1.out _ rfl ?_; intro g9 cap9 w9 hown9 hgrow9 hat9 hlt9; have hh9 := (hgrow9.block b (lt_getH HHE.out) (fun e => by have := (HOA.out.lt b e.symm).1; omega)).trans HHE.out; have q9 := Lib.cell_of_heap hh9 0; have f9 := Lib.frozen_of_heap hh9 0))
  all_goals go_end0
  all_goals
    have hon : OwnN (b + 1) w9 (.slice (some ⟨g9, 0, none⟩) (n + 1) cap9) (xs ++ [x]) := OwnN.more (by rw [HN.out]; exact hown9)
    have hbl9 : Below b w w9 := HBE.out.grown hgrow9 (by have := HBE1.out; omega) (fun k hk => by have := (HOA.out.lt k hk).1; omega)
    exact ⟨rfl, _, Box.put hh9 hon, hbl9.setCell (p := ⟨b, 0, none⟩) (Nat.le_refl _) _⟩

def PopPost (b : Nat) (xs : List Int) (n : Nat) (w : World) (e : Ending) (w' : World) : Prop := e = .returned (.iface 3 (.int .i64 (xs.getD n 0))) ∧ ∃ v', Box b w' v' (xs.take n) ∧ Below b w w'
theorem OwnN.cut {B g n cap : Nat} {w : World} {xs : List Int} (h : OwnN B w (.slice (some ⟨g, 0, none⟩) (n + 1) cap) xs) (hn : xs.length = n + 1) : OwnN B w (.slice (some ⟨g, 0, none⟩) n cap) (xs.take n) := by
  refine ⟨by simp, ?_⟩
  have hl : (xs.take n).length = n := by rw [List.length_take]; omega
  rcases h.2 with ⟨hv, _⟩ | ⟨g', cap', cur, hv, hg, hb, hn', hm, hs, ht⟩
  · exact absurd hv (by simp)
  · simp only [Value.slice.injEq, Option.some.injEq, Addr.mk.injEq] at hv
    obtain ⟨⟨rfl, _⟩, _, rfl⟩ := hv
    refine Or.inr ⟨g, cap, cur, by rw [hl], hg, hb, by omega, hm, hs, ?_⟩
    rw [hl, List.map_take, ← ht, List.take_take]
    congr 1
    omega
set_option maxHeartbeats 2000000 in
set_option maxRecDepth 100000 in
theorem pop_c (b : Nat) (v : Value) (xs : List Int) (n : Nat) (w : World) (h : Box b w v xs) (hn : xs.length = n + 1) (hl : n ≤ 1000) :
    Calls Tryz.prog 217 #[.pointer (some ⟨b, 0, none⟩)] w (PopPost b xs n w) := by
  unfold PopPost
  have hbl : b < w.heap.size := lt_getH h.1
  obtain ⟨c0, f0⟩ := h.cell
  obtain ⟨g, cap, hv, hg, hgl, hcap⟩ := h.2.head (by intro e; rw [e] at hn; simp at hn)
  rw [hn] at hv hcap
  subst hv
  have hcx := (h.2.cell (j := n) (by omega)).1
  have HB := Lib.hid h
  have HX : Hid (Box b (w.setCell ⟨b, 0, none⟩ (.slice (some ⟨g, 0, none⟩) n cap)) (.slice (some ⟨g, 0, none⟩) n cap) (xs.take n)) := Lib.hid (Box.put h.1 (h.2.cut hn))
  have HL : Hid (Below b w (w.setCell ⟨b, 0, none⟩ (.slice (some ⟨g, 0, none⟩) n cap))) := Lib.hid ((Below.refl b w).setCell (p := ⟨b, 0, none⟩) (Nat.le_refl _) _)
  have hnz : (n : Int) < ((n + 1 : Nat) : Int) := by omega
  have hnz2 : (n : Int) < (n : Int) + 1 := by omega
  generalize xs.getD n 0 = x at *
  clear h hn
  go_enter Tryz.func217, Tryz.ntmps217
  go_wp2
  go_ret
  exact ⟨rfl, _, HX.out, HL.out⟩

def HPushPost (b : Nat) (xs : List Int) (x : Int) (w : World) (e : Ending) (w' : World) : Prop := e = .returned (.tuple #[]) ∧ ∃ v' ys, ys.Perm (x :: xs) ∧ HeapN ys.length ys ∧ Box b w' v' ys ∧ Below b w w'
set_option maxHeartbeats 2000000 in
set_option maxRecDepth 100000 in
theorem hpush_c (b : Nat) (v : Value) (xs : List Int) (x : Int) (w : World) (h : Box b w v xs) (hh : HeapN xs.length xs) (hl : xs.length ≤ 900) :
    Calls Tryz.prog 102 #[.iface 124 (.pointer (some ⟨b, 0, none⟩)), .iface 3 (.int .i64 x)] w (HPushPost b xs x w) := by
  unfold HPushPost
  have cP := push_c b v xs x w h (by omega)
  have HH := Lib.hid hh
  have m1 := meth_push ⟨b, 0, none⟩ w
  unfold PushPost at cP
  obtain ⟨n, hn⟩ : ∃ n, xs.length = n := ⟨_, rfl⟩
  have hxl : (xs ++ [x]).length = n + 1 := by rw [List.length_append, List.length_singleton, hn]
  have HXL := Lib.hid hxl
  have hn9 : n ≤ 900 := by omega
  have HU : Hid (UpI (xs ++ [x]) n) := Lib.hid (by rw [← hn]; exact upI_start hh x)
  have HPX : Hid ((xs ++ [x]).Perm (x :: xs)) := Lib.hid (List.perm_append_comm)
  have hnz : (n : Int) + 1 - 1 = (n : Int) := by omega
  clear hh h hl hn hxl
  generalize xs ++ [x] = zs at *
  go_enter Tryz.func102, Tryz.ntmps102
  go_wp2_with (go_at_call 218; refine cP.mono ?_; rintro e w2 ⟨rfl, v2, hb2, hl2⟩; obtain ⟨a2, cap2, hv2⟩ := hb2.2.len; rw [HXL.out] at hv2; have HB2 := Lib.hid hb2; have HL2 := Lib.hid hl2; subst hv2; have m2 := meth_len ⟨b, 0, none⟩ _ w2 hb2.cell.1; clear hb2 hl2)
  refine (len_c a2 (n + 1) cap2 w2).mono ?_
  rintro e w3 ⟨rfl, rfl⟩
  have cU := up_c b _ zs n w2 HB2.out (by rw [HXL.out]; omega) HU.out (by rw [HXL.out]; omega)
  unfold UpPost at cU
  clear cP m1
  go_wp2_with fail
  refine cU.mono ?_
  rintro e w4 ⟨rfl, ys, hp, hhp, hbx, hbl⟩
  have H1 := Lib.hid hp
  have H2 := Lib.hid hhp
  have H3 := Lib.hid hbx
  have H4 := Lib.hid hbl
  clear hp hhp hbx hbl
  go_wp2
  go_end0
  exact ⟨rfl, _, ys, H1.out.trans HPX.out, H2.out, H3.out, HL2.out.trans (H4.out.mono (by omega))⟩

def HPopPost (b : Nat) (xs : List Int) (w : World) (e : Ending) (w' : World) : Prop := e = .returned (.iface 3 (.int .i64 (xs.getD 0 0))) ∧ ∃ v' ys, xs.Perm (xs.getD 0 0 :: ys) ∧ HeapN ys.length ys ∧ Box b w' v' ys ∧ Below b w w'
theorem pop_perm {xs zs : List Int} {n : Nat} (hn : xs.length = n + 1) (h : DownRel n (swI xs 0 n) zs) : zs.getD n 0 = xs.getD 0 0 ∧ xs.Perm (xs.getD 0 0 :: zs.take n) ∧ zs.length = n + 1 := by
  have hz : zs.length = n + 1 := by rw [h.1.length_eq, swI_length, hn]
  have h1 : zs.getD n 0 = xs.getD 0 0 := by
    rw [h.2 n (Nat.le_refl _), swI_getD (by omega) (by omega), if_pos rfl]
  refine ⟨h1, ?_, hz⟩
  have h2 : xs.Perm zs := (swI_perm (xs := xs) (i := 0) (j := n) (by omega) (by omega)).symm.trans h.1.symm
  rw [← h1]
  refine h2.trans ?_
  have h3 := take_last hz
  refine (List.Perm.of_eq h3).trans ?_
  exact List.perm_append_comm
set_option maxHeartbeats 4000000 in
set_option maxRecDepth 100000 in
theorem hpop_c (b : Nat) (v : Value) (xs : List Int) (n : Nat) (w : World) (h : Box b w v xs) (hh : HeapN xs.length xs) (hn : xs.length = n + 1) (hl : n ≤ 900) :
    Calls Tryz.prog 103 #[.iface 124 (.pointer (some ⟨b, 0, none⟩))] w (HPopPost b xs w) := by
  unfold HPopPost
  obtain ⟨g, cap, hv, hg, hgl, hcap⟩ := h.2.head (by intro e; rw [e] at hn; simp at hn)
  rw [hn] at hv hcap
  subst hv
  have HB := Lib.hid h
  have HD : Hid (DownI n (swI xs 0 n) 0) := Lib.hid (downI_start hn hh)
  have m1 := meth_len ⟨b, 0, none⟩ _ w h.cell.1
  have m2 := meth_swap ⟨b, 0, none⟩ _ w h.cell.1
  have cS := swap_c (b + 1) g (n + 1) cap 0 n xs w h.2 hg hn (by omega) (by omega)
  have HN := Lib.hid hn
  have hnz : (n : Int) + 1 - 1 = (n : Int) := by omega
  have HPP : Hid (∀ zs, DownRel n (swI xs 0 n) zs → zs.getD n 0 = xs.getD 0 0 ∧ xs.Perm (xs.getD 0 0 :: zs.take n) ∧ zs.length = n + 1) := Lib.hid (fun zs hz => pop_perm hn hz)
  have HSL : Hid ((swI xs 0 n).length = n + 1) := Lib.hid (by rw [swI_length, hn])
  generalize xs.getD 0 0 = x at *
  generalize swI xs 0 n = ss at *
  clear h hh hn
  go_enter Tryz.func103, Tryz.ntmps103
  go_wp2_with fail
  refine (len_c _ (n + 1) cap w).mono ?_
  rintro e w1 ⟨rfl, rfl⟩
  go_wp2_with fail
  refine cS.mono ?_
  rintro e w2 ⟨rfl, ho2, hb2⟩
  have HB2 : Hid (Box b w2 (.slice (some ⟨g, 0, none⟩) (n + 1) cap) ss) := Lib.hid (HB.out.kept hb2 ho2)
  have HL2 := Lib.hid hb2
  have cD := down_c b _ ss n w2 HB2.out (by rw [HSL.out]; omega) HD.out (by rw [HSL.out]; omega)
  unfold DownPost at cD
  clear cS m1 m2 ho2 hb2
  go_wp2_with fail
  refine cD.mono ?_
  rintro e w3 ⟨⟨t, rfl⟩, zs, hdr, hhp, hb3, hl3⟩
  obtain ⟨hz1, hz2, hz3⟩ := HPP.out zs hdr
  have cP := pop_c b _ zs n w3 hb3 hz3 (by omega)
  unfold PopPost at cP
  rw [hz1] at cP
  have HZ2 := Lib.hid hz2
  have HHP : Hid (HeapN (zs.take n).length (zs.take n)) := Lib.hid (by
    rw [show (zs.take n).length = n by rw [List.length_take]; omega]
    exact heap_take hhp)
  have HL3 := Lib.hid hl3
  have m3 := meth_pop ⟨b, 0, none⟩ w3
  clear cD hdr hhp hb3 hl3 hz1 hz2 hz3
  go_wp2_with fail
  refine cP.mono ?_
  rintro e w4 ⟨rfl, v4, hb4, hl4⟩
  have HB4 := Lib.hid hb4
  have HL4 := Lib.hid hl4
  clear cP hb4 hl4
  go_wp2
  go_ret
  exact ⟨rfl, v4, _, HZ2.out, HHP.out, HB4.out, ((HL2.out.trans HL3.out).mono (by omega)).trans HL4.out⟩

def AddPost (b : Nat) (xs : List Int) (x : Int) (w : World) (e : Ending) (w' : World) : Prop := e = .returned (.tuple #[]) ∧ ∃ v' ys, ys.Perm (x :: xs) ∧ HeapN ys.length ys ∧ Box b w' v' ys ∧ Below b w w'
set_option maxRecDepth 100000 in
theorem add_c (b : Nat) (v : Value) (xs : List Int) (x : Int) (w : World) (h : Box b w v xs) (hh : HeapN xs.length xs) (hl : xs.length ≤ 900) :
    Calls Tryz.prog 59 #[.pointer (some ⟨b, 0, none⟩), .int .i64 x] w (AddPost b xs x w) := by
  have cH := hpush_c b v xs x w h hh hl
  clear h hh hl
  go_enter Tryz.func59, Tryz.ntmps59
  go_wp2_with fail
  refine cH.mono ?_
  rintro e w1 ⟨rfl, h1⟩
  have H1 := Lib.hid h1
  clear h1 cH
  go_wp2
  go_end0
  exact ⟨rfl, H1.out⟩
def LeastPost (b : Nat) (xs : List Int) (w : World) (e : Ending) (w' : World) : Prop := e = .returned (.int .i64 (xs.getD 0 0)) ∧ ∃ v' ys, xs.Perm (xs.getD 0 0 :: ys) ∧ HeapN ys.length ys ∧ Box b w' v' ys ∧ Below b w w'
set_option maxRecDepth 100000 in
theorem least_c (b : Nat) (v : Value) (xs : List Int) (n : Nat) (w : World) (h : Box b w v xs) (hh : HeapN xs.length xs) (hn : xs.length = n + 1) (hl : n ≤ 900) :
    Calls Tryz.prog 60 #[.pointer (some ⟨b, 0, none⟩)] w (LeastPost b xs w) := by
  have cH := hpop_c b v xs n w h hh hn hl
  unfold HPopPost at cH
  unfold LeastPost
  clear h hh hl hn
  generalize xs.getD 0 0 = x at *
  have ta := fun w => ta_int x w
  go_enter Tryz.func60, Tryz.ntmps60
  go_wp2_with fail
  refine cH.mono ?_
  rintro e w1 ⟨rfl, h1⟩
  have H1 := Lib.hid h1
  have ta := ta_int x w1
  clear h1 cH
  go_wp2
  go_ret
  exact ⟨rfl, H1.out⟩
end Go.Proofs.YtbbgnhbkjbobgaaGreatDoor

namespace Go.Proofs.YtbbgnhbkjbobgaaGreatDoor
open Go.RowKit Go.Sort
set_option linter.unusedVariables false

/-- The slice v holds the numbers l. -/
def SliceN (w : World) (v : Value) (l : List Int) : Prop :=
  (l = [] ∧ ∃ a cap, v = .slice a 0 cap) ∨
  (∃ g off cap, g < w.heap.size ∧ v = .slice (some ⟨g, off, none⟩) l.length cap ∧ ∀ j, j < l.length → w.cell? ⟨g, off + j, none⟩ = some (.int .i64 (l.getD j 0)))
theorem SliceN.kept {w w' : World} {v : Value} {l : List Int} (h : SliceN w v l) (hb : Below w.heap.size w w') : SliceN w' v l := by
  rcases h with h | ⟨g, off, cap, hg, hv, hc⟩
  · exact Or.inl h
  · exact Or.inr ⟨g, off, cap, by have := hb.size; omega, hv, fun j hj => by rw [hb.cell (p := ⟨g, off + j, none⟩) hg]; exact hc j hj⟩
theorem SliceN.len {w : World} {v : Value} {l : List Int} (h : SliceN w v l) : ∃ a cap, v = .slice a l.length cap := by
  rcases h with ⟨rfl, a, cap, hv⟩ | ⟨g, off, cap, hg, hv, hc⟩
  · exact ⟨a, cap, hv⟩
  · exact ⟨_, cap, hv⟩
theorem SliceN.at {w : World} {a : Option Addr} {n cap : Nat} {l : List Int} (h : SliceN w (.slice a n cap) l) {j : Nat} (hj : j < l.length) : ∃ g off, a = some ⟨g, off, none⟩ ∧ g < w.heap.size ∧ w.cell? ⟨g, off + j, none⟩ = some (.int .i64 (l.getD j 0)) := by
  rcases h with ⟨rfl, _⟩ | ⟨g, off, cap', hg, hv, hc⟩
  · exact absurd hj (by simp)
  · injection hv with h1 h2 h3
    exact ⟨g, off, h1, hg, hc j hj⟩
theorem SliceN.own {B : Nat} {w : World} {v : Value} {l : List Int} (h : OwnN B w v l) : SliceN w v l := by
  by_cases e : l = []
  · subst e
    obtain ⟨a, cap, hv⟩ := h.len
    exact Or.inl ⟨rfl, a, cap, hv⟩
  · obtain ⟨g, cap, hv, _, hg, _⟩ := h.head e
    refine Or.inr ⟨g, 0, cap, hg, hv, fun j hj => ?_⟩
    rw [Nat.zero_add]
    subst hv
    exact (h.cell hj).1

theorem take_one {l : List Int} {k : Nat} (h : k < l.length) : l.take (k + 1) = l.take k ++ [l.getD k 0] := by
  rw [List.take_add_one]
  simp [List.getD_eq_getElem?_getD, List.getElem?_eq_getElem h]
theorem waits_le {ts xs : List Int} {f : Int} (h : Waits ts xs f) : f ≤ ts.length + 1 := by
  have h1 := h.1
  have := holds_many (f - 1).toNat ts (fun m h1 h2 => h.2.1 m h1 (by omega))
  omega
def FreePost (l : List Int) (w : World) (e : Ending) (w' : World) : Prop := ∃ f, FreeOf l f ∧ f ≤ 1000 ∧ e = .returned (.int .i64 f) ∧ Below w.heap.size w w'

set_option maxHeartbeats 4000000 in
set_option maxRecDepth 100000 in
theorem free_c (v : Value) (l : List Int) (w : World) (hv : SliceN w v l) (hl : l.length ≤ 300) :
    Calls Tryz.prog 35 #[v] w (FreePost l w) := by
  unfold FreePost
  obtain ⟨n, hn⟩ : ∃ n, l.length = n := ⟨_, rfl⟩
  obtain ⟨a, cap, rfl⟩ := hv.len
  have HV := Lib.hid hv
  have HN := Lib.hid hn
  rw [hn] at hl ⊢
  clear hv hn
  obtain ⟨b, hb⟩ : ∃ b, w.heap.size = b := ⟨_, rfl⟩
  have HSB := Lib.hid hb
  have H0 : Hid (Box b (w.alloc (.cells #[.slice none 0 0] 80)) (.slice none 0 0) []) := Lib.hid ⟨by rw [← hb]; exact heap_alloc_new _ _, ⟨rfl, Or.inl ⟨rfl, rfl⟩⟩⟩
  have HB0 : Hid (Below b w (w.alloc (.cells #[.slice none 0 0] 80))) := Lib.hid ((Below.refl b w).alloc (by omega) _)
  go_enter Tryz.func35, Tryz.ntmps35
  go_wp2
  clear hb
  go_loopg [9] n (fun gk iv wr => ∃ (k : Nat) (u : Value) (ys : List Int), k + gk = n ∧ iv = .int .i64 k ∧ ys.Perm (l.take k) ∧ HeapN ys.length ys ∧ Box b wr u ys ∧ Below b w wr)
  case atStart => exact ⟨0, _, [], by omega, rfl, List.Perm.refl _, heap_nil, H0.out, HB0.out⟩
  case round =>
    obtain ⟨k, u, ys, hkg, rfl, hp, hh, hbx, hbl⟩ := hrel
    have HP := Lib.hid hp
    have HH := Lib.hid hh
    have HBX := Lib.hid hbx
    have HBL := Lib.hid hbl
    have hyl : Hid (ys.length = k) := Lib.hid (by rw [hp.length_eq, List.length_take, HN.out]; omega)
    by_cases hk : k < n
    · have hkz : (k : Int) < (n : Int) := by omega
      obtain ⟨g, off, rfl, hg, hc⟩ := HV.out.at (j := k) (by rw [HN.out]; exact hk)
      have c1 : wr.cell? ⟨g, off + k, none⟩ = some (.int .i64 (l.getD k 0)) := by rw [hbl.cell (p := ⟨g, off + k, none⟩) (by have := HSB.out; show g < b; omega)]; exact hc
      have cA := add_c b u ys (l.getD k 0) wr hbx hh (by rw [hyl.out]; omega)
      unfold AddPost at cA
      have HT : Hid (l.take (k + 1) = l.take k ++ [l.getD k 0]) := Lib.hid (take_one (by rw [HN.out]; exact hk))
      clear hp hh hbx hbl hc
      generalize l.getD k 0 = x at *
      go_wp2_with fail
      refine cA.mono ?_
      rintro e w2 ⟨rfl, u2, ys2, hp2, hh2, hb2, hl2⟩
      have HP2 : Hid (ys2.Perm (l.take (k + 1))) := Lib.hid (by
        rw [HT.out]
        exact hp2.trans ((List.Perm.cons x HP.out).trans (List.perm_append_singleton x (l.take k)).symm))
      have HH2 := Lib.hid hh2
      have HB2 := Lib.hid hb2
      have HL2 := Lib.hid (HBL.out.trans hl2)
      clear cA hp2 hh2 hb2 hl2
      go_wp2
      go_roundg (n - (k + 1))
      case measure => omega
      case rel => exact ⟨k + 1, u2, ys2, by omega, by first | rfl | go_num, HP2.out, HH2.out, HB2.out, HL2.out⟩
    · have hge : ¬ ((k : Int) < (n : Int)) := by omega
      have HPL : Hid (ys.Perm l) := Lib.hid (by
        have := HP.out
        rw [List.take_of_length_le (by rw [HN.out]; omega)] at this
        exact this)
      clear hp hh hbx hbl
      go_wp2
      obtain ⟨w0, hw0⟩ : ∃ w0 : World, w0 = wr := ⟨_, rfl⟩
      go_loopg [6] ys.length (fun gk fv wr => ∃ (f : Int) (u : Value) (zs : List Int), zs.length = gk ∧ gk ≤ 300 ∧ fv = .int .i64 f ∧ Waits l zs f ∧ HeapN zs.length zs ∧ Box b wr u zs ∧ Below b w wr)
      case atStart => exact ⟨1, u, ys, rfl, by rw [hyl.out]; omega, rfl, waits_start HPL.out, HH.out, HBX.out, HBL.out⟩
      case round =>
        obtain ⟨f, u, zs, hzl, hgk, rfl, hw, hh, hbx, hbl⟩ := hrel
        have hf1 := hw.1
        have hf2 := waits_le hw
        rw [HN.out] at hf2
        have hf3 : f ≤ 301 := by omega
        have HW := Lib.hid hw
        have HZL := Lib.hid hzl
        have HBL2 := Lib.hid hbl
        have HH2 := Lib.hid hh
        obtain ⟨c0, f0⟩ := hbx.cell
        clear hw0 HBX HBL HPL HP hyl HH hf2
        cases hze : zs with
        | nil =>
          subst hze
          obtain ⟨a3, cap3, hu⟩ := hbx.2.len
          rw [List.length_nil] at hu
          subst hu
          clear hw hh hbx hbl hzl
          go_wp2
          go_ret
          exact ⟨f, waits_done HW.out HH2.out (Or.inl rfl), by omega, rfl, by rw [HSB.out]; exact HBL2.out⟩
        | cons z0 zt =>
          obtain ⟨m, hm⟩ : ∃ m, zs.length = m + 1 := ⟨zt.length, by rw [hze]; rfl⟩
          obtain ⟨g2, cap2, hu, hg2, hg2l, hcap2⟩ := hbx.2.head (by rw [hze]; simp)
          rw [hm] at hu hcap2
          subst hu
          have c2 := (hbx.2.cell (j := 0) (by omega)).1
          have hm0 : (0 : Int) < ((m + 1 : Nat) : Int) := by omega
          have hm1 : (0 : Int) < (m : Int) + 1 := by omega
          have cL := least_c b _ zs m wr hbx hh hm (by omega)
          unfold LeastPost at cL
          have HDN : Hid (f < zs.getD 0 0 → FreeOf l f) := Lib.hid (fun hd => waits_done HW.out HH2.out (Or.inr hd))
          have HST : Hid (∀ ys, zs.Perm (zs.getD 0 0 :: ys) → zs.getD 0 0 ≤ f → Waits l ys (if zs.getD 0 0 = f then f + 1 else f) ∧ ys.length = m) := Lib.hid (fun ys hp hx => ⟨waits_step HW.out hp hx, by have := hp.length_eq; rw [hm] at this; simp at this; omega⟩)
          have hgk2 : gk = m + 1 := by omega
          clear hw hh hbx hbl hzl hze hm
          generalize zs.getD 0 0 = x at *
          by_cases hx : x ≤ f
          · have HX := Lib.hid hx
            have hxb : decide (x ≤ f) = true := decide_eq_true hx
            cases he : (x == f) with
            | true =>
              have HE : Hid ((if x = f then f + 1 else f) = f + 1) := Lib.hid (if_pos (by simpa using he))
              have hE2 : x = f := by simpa using he
              go_wp2_with fail
              refine cL.mono ?_
              rintro e w2 ⟨rfl, u2, ys2, hp2, hh2, hb2, hl2⟩
              obtain ⟨hs1, hs2⟩ := HST.out ys2 hp2 HX.out
              rw [HE.out] at hs1
              have HS1 := Lib.hid hs1
              have HS2 := Lib.hid hs2
              have HH3 := Lib.hid hh2
              have HB3 := Lib.hid hb2
              have HL3 := Lib.hid (HBL2.out.trans hl2)
              clear cL hp2 hh2 hb2 hl2 hs1 hs2
              go_wp2
              go_roundg m
              case measure => omega
              case rel => exact ⟨f + 1, u2, ys2, HS2.out, by omega, by first | rfl | go_num, HS1.out, HH3.out, HB3.out, HL3.out⟩
            | false =>
              have HE : Hid ((if x = f then f + 1 else f) = f) := Lib.hid (if_neg (by simpa using he))
              go_wp2_with fail
              refine cL.mono ?_
              rintro e w2 ⟨rfl, u2, ys2, hp2, hh2, hb2, hl2⟩
              obtain ⟨hs1, hs2⟩ := HST.out ys2 hp2 HX.out
              rw [HE.out] at hs1
              have HS1 := Lib.hid hs1
              have HS2 := Lib.hid hs2
              have HH3 := Lib.hid hh2
              have HB3 := Lib.hid hb2
              have HL3 := Lib.hid (HBL2.out.trans hl2)
              clear cL hp2 hh2 hb2 hl2 hs1 hs2
              go_wp2
              go_roundg m
              case measure => omega
              case rel => exact ⟨f, u2, ys2, HS2.out, by omega, rfl, HS1.out, HH3.out, HB3.out, HL3.out⟩
          · have HX : Hid (f < x) := Lib.hid (by omega)
            have hxb : decide (x ≤ f) = false := decide_eq_false hx
            clear cL
            go_wp2
            go_ret
            exact ⟨f, HDN.out HX.out, by omega, rfl, by rw [HSB.out]; exact HBL2.out⟩
end Go.Proofs.YtbbgnhbkjbobgaaGreatDoor

namespace Go.Proofs.YtbbgnhbkjbobgaaGreatDoor
open Go.RowKit
set_option linter.unusedVariables false

def fnvS (h : Nat) (c : UInt8) : Nat := (h ^^^ c.toNat) * 16777619 % 4294967296
def fnvL (l : List UInt8) : Nat := l.foldl fnvS 2166136261
theorem fnvS_lt (h : Nat) (c : UInt8) : fnvS h c < 4294967296 := Nat.mod_lt _ (by decide)
theorem fnvL_lt (l : List UInt8) : fnvL l < 4294967296 := by
  unfold fnvL
  have key : ∀ (l : List UInt8) (h : Nat), h < 4294967296 → l.foldl fnvS h < 4294967296 := by
    intro l
    induction l with
    | nil => intro h hh; exact hh
    | cons c l ih => intro h _; exact ih _ (fnvS_lt h c)
  exact key l _ (by decide)
theorem fnvL_snoc (l : List UInt8) (c : UInt8) : fnvL (l ++ [c]) = fnvS (fnvL l) c := by unfold fnvL; rw [List.foldl_append, List.foldl_cons, List.foldl_nil]
theorem xor_u32 (a b : Nat) (ha : a < 4294967296) (hb : b < 4294967296) : bits .xor .u32 (a : Int) (b : Int) = ((a ^^^ b : Nat) : Int) := by
  have hx : a ^^^ b < 2 ^ 32 := Nat.xor_lt_two_pow (by omega) (by omega)
  have h1 : (BitVec.ofInt 32 (a : Int)).toNat = a := by
    rw [BitVec.ofInt_natCast, BitVec.toNat_ofNat]; exact Nat.mod_eq_of_lt (by omega)
  have h2 : (BitVec.ofInt 32 (b : Int)).toNat = b := by
    rw [BitVec.ofInt_natCast, BitVec.toNat_ofNat]; exact Nat.mod_eq_of_lt (by omega)
  show IntKind.u32.wrap ((BitVec.ofInt 32 (a : Int) ^^^ BitVec.ofInt 32 (b : Int)).toNat : Int) = _
  rw [BitVec.toNat_xor, h1, h2, IntKind.wrap_u32]
  omega
theorem byte_snoc (s : ByteArray) (k : Nat) (h : k < s.size) : s.data.toList.take (k + 1) = s.data.toList.take k ++ [s[k]] := by
  rw [List.take_succ_eq_append_getElem (by simpa using h)]; rfl

set_option maxHeartbeats 1000000 in
theorem hash_c (s : ByteArray) (hs : s.size ≤ 9223372036854775807) (w : World) :
    Calls Tryz.prog 28 #[.string s] w fun e w' => e = .returned (.int .u32 (fnvL s.data.toList)) ∧ w = w' := by
  go_enter Tryz.func28, Tryz.ntmps28
  go_wp2
  go_loop [3, 7] (fun hv kv => ∃ k : Nat, k ≤ s.size ∧ kv = .int .i64 k ∧ hv = .int .u32 (fnvL (s.data.toList.take k))) (fun _ kv => s.size - (intOf kv).toNat)
  case atStart => exact ⟨0, Nat.zero_le _, rfl, rfl⟩
  case round =>
    obtain ⟨k, hk, rfl, rfl⟩ := hrel
    by_cases hlt : k < s.size
    · have hkz : (k : Int) < (s.size : Int) := by omega
      have HS : Hid (fnvL (s.data.toList.take (k + 1)) = fnvS (fnvL (s.data.toList.take k)) s[k]) := Lib.hid (by rw [byte_snoc s k hlt, fnvL_snoc])
      have hl := fnvL_lt (s.data.toList.take k)
      obtain ⟨h, hh⟩ : ∃ h, fnvL (s.data.toList.take k) = h := ⟨_, rfl⟩
      obtain ⟨c, hc⟩ : ∃ c, s[k] = c := ⟨_, rfl⟩
      rw [hh] at hl HS
      rw [hc] at HS
      rw [hh]
      have HC := Lib.hid hc
      clear hh hc
      have cle : c.toNat < 256 := c.toNat_lt
      have hx := xor_u32 h c.toNat hl (by omega)
      have hxl : h ^^^ c.toNat < 2 ^ 32 := Nat.xor_lt_two_pow (by omega) (by omega)
      unfold fnvS at HS
      generalize h ^^^ c.toNat = x at *
      have HM : Hid (IntKind.u32.wrap ((x : Int) * 16777619) = ((x * 16777619 % 4294967296 : Nat) : Int)) := Lib.hid (by rw [IntKind.wrap_u32]; omega)
      go_wp2
      rw [HC.out]
      go_round
      case rel => exact ⟨k + 1, by omega, by go_num, by rw [show (c.toNat : Int) % 4294967296 = (c.toNat : Int) by omega, hx, HS.out]; congr 1⟩
      case measure => simp [intOf]; omega
    · have hkz : ¬ ((k : Int) < (s.size : Int)) := by omega
      have ht : s.data.toList.take k = s.data.toList := List.take_of_length_le (by simp; omega)
      rw [ht]
      clear ht
      go_wp2
      go_ret
      exact ⟨by rfl, rfl⟩
end Go.Proofs.YtbbgnhbkjbobgaaGreatDoor

namespace Go.Proofs.YtbbgnhbkjbobgaaGreatDoor
open Go.RowKit Go.Sort
set_option linter.unusedVariables false

theorem fnv_a : fnvL [97] = 3826002220 := by decide +kernel
theorem free_13 : FreeOf [1, 3] 2 := ⟨by decide, by decide, fun m h1 h2 => by have : m = 1 := by omega
                                                                              subst this; decide⟩
end Go.Proofs.YtbbgnhbkjbobgaaGreatDoor
