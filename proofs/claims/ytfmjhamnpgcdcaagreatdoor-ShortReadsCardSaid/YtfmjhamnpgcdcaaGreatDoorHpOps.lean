/-
  The heap's Push and Pop, the library's, and those of the project's own.
-/
import Derived.Test.YtfmjhamnpgcdcaaGreatDoorHpDown
import Derived.Deep.AppendLies
import Derived.Deep.RegionLaw
import Derived.PlainAid
namespace Go.Proofs.YtfmjhamnpgcdcaaGreatDoor
open Go.RowKit Go.Sort
set_option linter.unusedVariables false

theorem Tryz.infoInt : (Tryz.prog.info? 3).map (fun i => (i.zero, i.size, i.bytes)) = some (some (.int .i64 0), 1, 8) := by kernel_rfl
theorem OwnN.more {B : Nat} {w : World} {v : Value} {xs : List Int} {x : Int} (h : w.ownsRow B 3 1 v (xs.length + 1) (xs.map (Value.int .i64) ++ [.int .i64 x])) : OwnN B w v (xs ++ [x]) := by
  unfold OwnN
  rw [List.length_append, List.length_singleton, List.map_append]
  exact h
/-- The variable's own cell written anew. -/
theorem Box.put {b : Nat} {w : World} {v v' : Value} {xs : List Int} (h : w.heap[b]? = some (.cells #[v] 47 (0, 0))) (ho : OwnN (b + 1) w v' xs) : Box b (w.setCell ⟨b, 0, none⟩ v') v' xs := by
  refine ⟨?_, ?_⟩
  · rw [setCell_eq]
    simp [mapBlock, Array.getElem?_modify, h, onCells]
  · refine World.ownsRow.kept (row := some b) ho ⟨rfl, rfl, rfl, by rw [setCell_eq]; simp [mapBlock], fun k hk hne => ?_⟩ ?_
    · exact Below.heap_setCell w ⟨b, 0, none⟩ v' k (fun e => hne (by rw [e]))
    · rcases ho.2 with ⟨hv, _⟩ | ⟨g, cap, cur, hv, hg, _⟩
      · exact Or.inl (by rw [hv]; rfl)
      · right
        rw [hv]
        show some g ≠ some b
        intro e
        have := Option.some.inj e
        omega
theorem lt_getH {w : World} {b : Nat} {o : Obj} (h : w.heap[b]? = some o) : b < w.heap.size := (Array.getElem?_eq_some_iff.1 h).1
theorem ta_int (x : Int) (w : World) : (Instr.typeAssert (.iface 3 (.int .i64 x)) 20 3 false).run Tryz.prog w = .ok (.int .i64 x) w := by kernel_rfl
def PushPost (b : Nat) (xs : List Int) (x : Int) (w : World) (e : Ending) (w' : World) : Prop := e = .returned (.tuple #[]) ∧ ∃ v', Box b w' v' (xs ++ [x]) ∧ Below b w w'
set_option maxHeartbeats 2000000 in
set_option maxRecDepth 100000 in
theorem push_c (b : Nat) (v : Value) (xs : List Int) (x : Int) (w : World) (h : Box b w v xs) (hl : xs.length ≤ 1000) :
    Calls Tryz.prog 188 #[.pointer (some ⟨b, 0, none⟩), .iface 3 (.int .i64 x)] w (PushPost b xs x w) := by
  unfold PushPost
  obtain ⟨i0, hi, hz0, hz1, hz2⟩ := info_parts Tryz.infoInt
  have hbl : b < w.heap.size := lt_getH h.1
  have HB := Lib.hid h
  obtain ⟨c0, f0⟩ := h.cell
  have d0 : w.drew.cell? ⟨b, 0, none⟩ = some v := c0
  have HOA : Hid (OwnN (b + 1) (w.alloc (.cells #[.int .i64 x] 3)).drew v xs) := Lib.hid (h.2.below (((Below.refl _ _).alloc (Nat.le_refl _) _).drew))
  have HOB : Hid (OwnN (b + 1) (w.drew.alloc (.cells #[.int .i64 x] 3)) v xs) := Lib.hid (h.2.below (((Below.refl _ _).drew.alloc (Nat.le_refl _) _)))
  have j3 : (w.alloc (.cells #[.int .i64 x] 3)).cell? ⟨b, 0, none⟩ = some v := by rw [World.cell?_of_block (w := w) (Below.heap_alloc w _ b hbl)]; exact c0
  have j4 : (w.alloc (.cells #[.int .i64 x] 3)).drew.cell? ⟨b, 0, none⟩ = some v := j3
  have HBE : Hid (Below b w (w.alloc (.cells #[.int .i64 x] 3)).drew) := Lib.hid (((Below.refl b w).alloc (by omega) _).drew)
  have hBE : b + 1 ≤ (w.alloc (.cells #[.int .i64 x] 3)).drew.heap.size := by have := HBE.out.size; show b + 1 ≤ (w.heap.push _).size; simp; omega
  have HHE : Hid ((w.alloc (.cells #[.int .i64 x] 3)).drew.heap[b]? = some (.cells #[v] 47 (0, 0))) := Lib.hid (by
    show (w.alloc _).heap[b]? = _
    rw [Below.heap_alloc w _ b hbl]; exact h.1)
  obtain ⟨a2, cap2, hv2⟩ := h.2.len
  obtain ⟨n, hn⟩ : ∃ n, xs.length = n := ⟨_, rfl⟩
  have HN := Lib.hid hn
  have jc : (w.alloc (.cells #[.int .i64 x] 3)).drew.cell? ⟨w.heap.size, 0, none⟩ = some (.int .i64 x) := World.cell?_alloc_at _ _ _ _ rfl
  have HBE1 := Lib.hid hBE
  rw [hn] at hv2 hl
  subst hv2
  have ta := ta_int x w.drew
  clear h hn
  go_enter Tryz.func188, Tryz.ntmps188
  go_wp2
  go_region_law (first | (refine step_append_lies _ rfl _ _ 47 rfl (b + 1) 3 i0 (.int .i64 0) 1 8 Tryz.underlying47 hi hz0 hz1 hz2 rfl (by decide) _ _ _ rfl (by have := HOA.out; unfold OwnN at this; rw [HN.out] at this; exact this) ⟨w.heap.size, 0, none⟩ 1 1 [.int .i64 x] rfl rfl (by intro j u hj; rcases j with _ | j; (simp at hj; subst hj; exact jc); (simp at hj)) (by intro u hu; simp at hu; subst hu; rfl) (by decide) (by unfold maxLen; omega) (by omega) HBE1.out _ rfl ?_; intro g9 cap9 w9 hown9 hgrow9 hat9 hlt9; have hh9 := (hgrow9.block b (lt_getH HHE.out) (fun e => by have := (HOA.out.lt b e.symm).1; omega)).trans HHE.out; have q9 := Lib.cell_of_heap hh9 0; have f9 := Lib.frozen_of_heap hh9 0))
  all_goals go_end0
  all_goals
    have hon : OwnN (b + 1) w9 (.slice (some ⟨g9, 0, none⟩) (n + 1) cap9) (xs ++ [x]) := OwnN.more (by rw [HN.out]; exact hown9)
    have hbl9 : Below b w w9 := HBE.out.grown hgrow9 (by have := HBE1.out; omega) (fun k hk => by have := (HOA.out.lt k hk).1; omega)
    exact ⟨rfl, _, Box.put hh9 hon, hbl9.setCell (p := ⟨b, 0, none⟩) (Nat.le_refl _) _⟩

def PopPost (b : Nat) (xs : List Int) (n : Nat) (w : World) (e : Ending) (w' : World) : Prop := e = .returned (.iface 3 (.int .i64 (xs.getD n 0))) ∧ ∃ v', Box b w' v' (xs.take n) ∧ Below b w w'
theorem OwnN.cut {B g n cap : Nat} {w : World} {xs : List Int} (h : OwnN B w (.slice (some ⟨g, 0, none⟩) (n + 1) cap) xs) (hn : xs.length = n + 1) : OwnN B w (.slice (some ⟨g, 0, none⟩) n cap) (xs.take n) := by
  refine ⟨by simp, ?_⟩
  have hl : (xs.take n).length = n := by rw [List.length_take]; omega
  rcases h.2 with ⟨hv, _⟩ | ⟨g', cap', cur, hv, hg, hb, hn', hm, hs, ht⟩
  · exact absurd hv (by simp)
  · simp only [Value.slice.injEq, Option.some.injEq, Addr.mk.injEq] at hv
    obtain ⟨⟨rfl, _⟩, _, rfl⟩ := hv
    refine Or.inr ⟨g, cap, cur, by rw [hl], hg, hb, by omega, hm, hs, ?_⟩
    rw [hl, List.map_take, ← ht, List.take_take]
    congr 1
    omega
set_option maxHeartbeats 2000000 in
set_option maxRecDepth 100000 in
theorem pop_c (b : Nat) (v : Value) (xs : List Int) (n : Nat) (w : World) (h : Box b w v xs) (hn : xs.length = n + 1) (hl : n ≤ 1000) :
    Calls Tryz.prog 187 #[.pointer (some ⟨b, 0, none⟩)] w (PopPost b xs n w) := by
  unfold PopPost
  have hbl : b < w.heap.size := lt_getH h.1
  obtain ⟨c0, f0⟩ := h.cell
  obtain ⟨g, cap, hv, hg, hgl, hcap⟩ := h.2.head (by intro e; rw [e] at hn; simp at hn)
  rw [hn] at hv hcap
  subst hv
  have hcx := (h.2.cell (j := n) (by omega)).1
  have HB := Lib.hid h
  have HX : Hid (Box b (w.setCell ⟨b, 0, none⟩ (.slice (some ⟨g, 0, none⟩) n cap)) (.slice (some ⟨g, 0, none⟩) n cap) (xs.take n)) := Lib.hid (Box.put h.1 (h.2.cut hn))
  have HL : Hid (Below b w (w.setCell ⟨b, 0, none⟩ (.slice (some ⟨g, 0, none⟩) n cap))) := Lib.hid ((Below.refl b w).setCell (p := ⟨b, 0, none⟩) (Nat.le_refl _) _)
  have hnz : (n : Int) < ((n + 1 : Nat) : Int) := by omega
  have hnz2 : (n : Int) < (n : Int) + 1 := by omega
  generalize xs.getD n 0 = x at *
  clear h hn
  go_enter Tryz.func187, Tryz.ntmps187
  go_wp2
  go_ret
  exact ⟨rfl, _, HX.out, HL.out⟩

def HPushPost (b : Nat) (xs : List Int) (x : Int) (w : World) (e : Ending) (w' : World) : Prop := e = .returned (.tuple #[]) ∧ ∃ v' ys, ys.Perm (x :: xs) ∧ HeapN ys.length ys ∧ Box b w' v' ys ∧ Below b w w'
set_option maxHeartbeats 2000000 in
set_option maxRecDepth 100000 in
theorem hpush_c (b : Nat) (v : Value) (xs : List Int) (x : Int) (w : World) (h : Box b w v xs) (hh : HeapN xs.length xs) (hl : xs.length ≤ 900) :
    Calls Tryz.prog 51 #[.iface 82 (.pointer (some ⟨b, 0, none⟩)), .iface 3 (.int .i64 x)] w (HPushPost b xs x w) := by
  unfold HPushPost
  have cP := push_c b v xs x w h (by omega)
  have HH := Lib.hid hh
  have m1 := meth_push ⟨b, 0, none⟩ w
  unfold PushPost at cP
  obtain ⟨n, hn⟩ : ∃ n, xs.length = n := ⟨_, rfl⟩
  have hxl : (xs ++ [x]).length = n + 1 := by rw [List.length_append, List.length_singleton, hn]
  have HXL := Lib.hid hxl
  have hn9 : n ≤ 900 := by omega
  have HU : Hid (UpI (xs ++ [x]) n) := Lib.hid (by rw [← hn]; exact upI_start hh x)
  have HPX : Hid ((xs ++ [x]).Perm (x :: xs)) := Lib.hid (List.perm_append_comm)
  have hnz : (n : Int) + 1 - 1 = (n : Int) := by omega
  clear hh h hl hn hxl
  generalize xs ++ [x] = zs at *
  go_enter Tryz.func51, Tryz.ntmps51
  go_wp2_with (go_at_call 188; refine cP.mono ?_; rintro e w2 ⟨rfl, v2, hb2, hl2⟩; obtain ⟨a2, cap2, hv2⟩ := hb2.2.len; rw [HXL.out] at hv2; have HB2 := Lib.hid hb2; have HL2 := Lib.hid hl2; subst hv2; have m2 := meth_len ⟨b, 0, none⟩ _ w2 hb2.cell.1; clear hb2 hl2)
  refine (len_c a2 (n + 1) cap2 w2).mono ?_
  rintro e w3 ⟨rfl, rfl⟩
  have cU := up_c b _ zs n w2 HB2.out (by rw [HXL.out]; omega) HU.out (by rw [HXL.out]; omega)
  unfold UpPost at cU
  clear cP m1
  go_wp2_with fail
  refine cU.mono ?_
  rintro e w4 ⟨rfl, ys, hp, hhp, hbx, hbl⟩
  have H1 := Lib.hid hp
  have H2 := Lib.hid hhp
  have H3 := Lib.hid hbx
  have H4 := Lib.hid hbl
  clear hp hhp hbx hbl
  go_wp2
  go_end0
  exact ⟨rfl, _, ys, H1.out.trans HPX.out, H2.out, H3.out, HL2.out.trans (H4.out.mono (by omega))⟩

def HPopPost (b : Nat) (xs : List Int) (w : World) (e : Ending) (w' : World) : Prop := e = .returned (.iface 3 (.int .i64 (xs.getD 0 0))) ∧ ∃ v' ys, xs.Perm (xs.getD 0 0 :: ys) ∧ HeapN ys.length ys ∧ Box b w' v' ys ∧ Below b w w'
theorem pop_perm {xs zs : List Int} {n : Nat} (hn : xs.length = n + 1) (h : DownRel n (swI xs 0 n) zs) : zs.getD n 0 = xs.getD 0 0 ∧ xs.Perm (xs.getD 0 0 :: zs.take n) ∧ zs.length = n + 1 := by
  have hz : zs.length = n + 1 := by rw [h.1.length_eq, swI_length, hn]
  have h1 : zs.getD n 0 = xs.getD 0 0 := by
    rw [h.2 n (Nat.le_refl _), swI_getD (by omega) (by omega), if_pos rfl]
  refine ⟨h1, ?_, hz⟩
  have h2 : xs.Perm zs := (swI_perm (xs := xs) (i := 0) (j := n) (by omega) (by omega)).symm.trans h.1.symm
  rw [← h1]
  refine h2.trans ?_
  have h3 := take_last hz
  refine (List.Perm.of_eq h3).trans ?_
  exact List.perm_append_comm
set_option maxHeartbeats 4000000 in
set_option maxRecDepth 100000 in
theorem hpop_c (b : Nat) (v : Value) (xs : List Int) (n : Nat) (w : World) (h : Box b w v xs) (hh : HeapN xs.length xs) (hn : xs.length = n + 1) (hl : n ≤ 900) :
    Calls Tryz.prog 52 #[.iface 82 (.pointer (some ⟨b, 0, none⟩))] w (HPopPost b xs w) := by
  unfold HPopPost
  obtain ⟨g, cap, hv, hg, hgl, hcap⟩ := h.2.head (by intro e; rw [e] at hn; simp at hn)
  rw [hn] at hv hcap
  subst hv
  have HB := Lib.hid h
  have HD : Hid (DownI n (swI xs 0 n) 0) := Lib.hid (downI_start hn hh)
  have m1 := meth_len ⟨b, 0, none⟩ _ w h.cell.1
  have m2 := meth_swap ⟨b, 0, none⟩ _ w h.cell.1
  have cS := swap_c (b + 1) g (n + 1) cap 0 n xs w h.2 hg hn (by omega) (by omega)
  have HN := Lib.hid hn
  have hnz : (n : Int) + 1 - 1 = (n : Int) := by omega
  have HPP : Hid (∀ zs, DownRel n (swI xs 0 n) zs → zs.getD n 0 = xs.getD 0 0 ∧ xs.Perm (xs.getD 0 0 :: zs.take n) ∧ zs.length = n + 1) := Lib.hid (fun zs hz => pop_perm hn hz)
  have HSL : Hid ((swI xs 0 n).length = n + 1) := Lib.hid (by rw [swI_length, hn])
  generalize xs.getD 0 0 = x at *
  generalize swI xs 0 n = ss at *
  clear h hh hn
  go_enter Tryz.func52, Tryz.ntmps52
  go_wp2_with fail
  refine (len_c _ (n + 1) cap w).mono ?_
  rintro e w1 ⟨rfl, rfl⟩
  go_wp2_with fail
  refine cS.mono ?_
  rintro e w2 ⟨rfl, ho2, hb2⟩
  have HB2 : Hid (Box b w2 (.slice (some ⟨g, 0, none⟩) (n + 1) cap) ss) := Lib.hid (HB.out.kept hb2 ho2)
  have HL2 := Lib.hid hb2
  have cD := down_c b _ ss n w2 HB2.out (by rw [HSL.out]; omega) HD.out (by rw [HSL.out]; omega)
  unfold DownPost at cD
  clear cS m1 m2 ho2 hb2
  go_wp2_with fail
  refine cD.mono ?_
  rintro e w3 ⟨⟨t, rfl⟩, zs, hdr, hhp, hb3, hl3⟩
  obtain ⟨hz1, hz2, hz3⟩ := HPP.out zs hdr
  have cP := pop_c b _ zs n w3 hb3 hz3 (by omega)
  unfold PopPost at cP
  rw [hz1] at cP
  have HZ2 := Lib.hid hz2
  have HHP : Hid (HeapN (zs.take n).length (zs.take n)) := Lib.hid (by
    rw [show (zs.take n).length = n by rw [List.length_take]; omega]
    exact heap_take hhp)
  have HL3 := Lib.hid hl3
  have m3 := meth_pop ⟨b, 0, none⟩ w3
  clear cD hdr hhp hb3 hl3 hz1 hz2 hz3
  go_wp2_with fail
  refine cP.mono ?_
  rintro e w4 ⟨rfl, v4, hb4, hl4⟩
  have HB4 := Lib.hid hb4
  have HL4 := Lib.hid hl4
  clear cP hb4 hl4
  go_wp2
  go_ret
  exact ⟨rfl, v4, _, HZ2.out, HHP.out, HB4.out, ((HL2.out.trans HL3.out).mono (by omega)).trans HL4.out⟩

def AddPost (b : Nat) (xs : List Int) (x : Int) (w : World) (e : Ending) (w' : World) : Prop := e = .returned (.tuple #[]) ∧ ∃ v' ys, ys.Perm (x :: xs) ∧ HeapN ys.length ys ∧ Box b w' v' ys ∧ Below b w w'
set_option maxRecDepth 100000 in
theorem add_c (b : Nat) (v : Value) (xs : List Int) (x : Int) (w : World) (h : Box b w v xs) (hh : HeapN xs.length xs) (hl : xs.length ≤ 900) :
    Calls Tryz.prog 21 #[.pointer (some ⟨b, 0, none⟩), .int .i64 x] w (AddPost b xs x w) := by
  have cH := hpush_c b v xs x w h hh hl
  clear h hh hl
  go_enter Tryz.func21, Tryz.ntmps21
  go_wp2_with fail
  refine cH.mono ?_
  rintro e w1 ⟨rfl, h1⟩
  have H1 := Lib.hid h1
  clear h1 cH
  go_wp2
  go_end0
  exact ⟨rfl, H1.out⟩
def LeastPost (b : Nat) (xs : List Int) (w : World) (e : Ending) (w' : World) : Prop := e = .returned (.int .i64 (xs.getD 0 0)) ∧ ∃ v' ys, xs.Perm (xs.getD 0 0 :: ys) ∧ HeapN ys.length ys ∧ Box b w' v' ys ∧ Below b w w'
set_option maxRecDepth 100000 in
theorem least_c (b : Nat) (v : Value) (xs : List Int) (n : Nat) (w : World) (h : Box b w v xs) (hh : HeapN xs.length xs) (hn : xs.length = n + 1) (hl : n ≤ 900) :
    Calls Tryz.prog 22 #[.pointer (some ⟨b, 0, none⟩)] w (LeastPost b xs w) := by
  have cH := hpop_c b v xs n w h hh hn hl
  unfold HPopPost at cH
  unfold LeastPost
  clear h hh hl hn
  generalize xs.getD 0 0 = x at *
  have ta := fun w => ta_int x w
  go_enter Tryz.func22, Tryz.ntmps22
  go_wp2_with fail
  refine cH.mono ?_
  rintro e w1 ⟨rfl, h1⟩
  have H1 := Lib.hid h1
  have ta := ta_int x w1
  clear h1 cH
  go_wp2
  go_ret
  exact ⟨rfl, H1.out⟩
end Go.Proofs.YtfmjhamnpgcdcaaGreatDoor
