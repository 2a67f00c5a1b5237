/-
  The library's heap: what goes down (a pool inside a tree).
  The heap's Push and Pop, the library's, and those of the project's own (a pool inside a tree).
-/
import Derived.Test.YthaghhleidopeaaEmBox
import Derived.Test.YthaghhleidopeaaIdDown
import Derived.Test.YthaghhleidopeaaIdOps
namespace Go.Proofs.Ythaghhleidopeaa
namespace Emb
open Go.RowKit Go.Sort
set_option linter.unusedVariables false

def DownPost (wB : World) (rB : Option Nat) (mB uB b n : Nat) (v : Value) (xs : List Int) (w : World) (e : Ending) (w' : World) : Prop := (∃ t : Bool, e = .returned (.bool t)) ∧ ∃ ys, DownRel n xs ys ∧ HeapN n ys ∧ Box wB rB mB uB b w' v ys

set_option maxHeartbeats 4000000 in
set_option maxRecDepth 100000 in
theorem down_c (wB : World) (rB : Option Nat) (mB uB b : Nat) (v : Value) (xs : List Int) (n : Nat) (w : World) (h : Box wB rB mB uB b w v xs) (hn : n < xs.length) (hd : DownI n xs 0) (hl : xs.length ≤ 1000) :
    Calls Try.prog 84 #[.iface 119 (.pointer (some ⟨b, 404, none⟩)), .int .i64 0, .int .i64 n] w (DownPost wB rB mB uB b n v xs w) := by
  unfold DownPost
  obtain ⟨N, hN⟩ : ∃ N, xs.length = N := ⟨_, rfl⟩
  have HN := Lib.hid hN
  rw [hN] at hn hl
  have HU := Lib.hid hd
  have HBX := Lib.hid h
  clear hN hd h
  go_enter Try.func84, Try.ntmps84
  go_wp2
  go_loopg [7] (n + 1) (fun gk iv wr => ∃ (i : Nat) (ys : List Int), (i ≤ n ∧ i + gk = n + 1) ∧ iv = .int .i64 i ∧ DownRel n xs ys ∧ DownI n ys i ∧ Box wB rB mB uB b wr v ys)
  case atStart => exact ⟨0, xs, by omega, rfl, ⟨List.Perm.refl _, fun k hk => rfl⟩, HU.out, HBX.out⟩
  case round =>
    obtain ⟨i, ys, ⟨hin, hig⟩, rfl, hp, hdi, hbx⟩ := hrel
    have HP := Lib.hid hp
    have HI := Lib.hid hdi
    have HB := Lib.hid hbx
    have hyl : Hid (ys.length = N) := Lib.hid (hp.1.length_eq.trans HN.out)
    clear hp hdi hbx
    by_cases h1 : 2 * i + 1 < n
    · have h1z : ¬ ((n : Int) ≤ 2 * (i : Int) + 1) := by omega
      obtain ⟨c0, f0⟩ := HB.out.cell
      have hne : ys ≠ [] := by
        intro e
        have := hyl.out
        rw [e] at this
        simp at this
        omega
      obtain ⟨g, cap, hv, hg, hgl, hcap⟩ := HB.out.2.head hne
      rw [hyl.out] at hv hcap
      subst hv
      clear hne
      -- the second part, whichever child it is
      have c2 : (2 * i + 1 < N ∧ i < N) := by omega
      have HLS : Hid (∀ (q x y : Nat) (t : Bool), x < N → y < N → decide (ys.getD x 0 < ys.getD y 0) = t → Calls Try.prog 113 #[(.slice (some ⟨g, 0, none⟩) N cap), .int .i64 x, .int .i64 y] (wr.drewN q) fun e w' => e = .returned (.bool t) ∧ ∃ q', w' = wr.drewN q') := Lib.hid (fun q x y t hx hy ht => (less_c (b + 1) g N cap x y ys (wr.drewN q) (HB.out.drewN q).2 hyl.out hx hy t ht).mono fun e w' ⟨h1, q2, h2⟩ => ⟨h1, q + q2, by rw [h2, World.drewN_drewN]⟩)
      have HSW : Hid (∀ (q x y : Nat), x < N → y < N → Calls Try.prog 115 #[(.slice (some ⟨g, 0, none⟩) N cap), .int .i64 x, .int .i64 y] (wr.drewN q) fun e w' => e = .returned (.tuple #[]) ∧ OwnN (b + 1) w' (.slice (some ⟨g, 0, none⟩) N cap) (swI ys x y) ∧ wr.grownBy w' (some g)) := Lib.hid (fun q x y hx hy => (swap_c (b + 1) g N cap x y ys (wr.drewN q) (HB.out.drewN q).2 hg hyl.out hx hy).mono fun e w' ⟨h1, h2, h3⟩ => ⟨h1, h2, grown_drewN h3⟩)
      have HML : Hid (∀ q, (method 263 119 (.pointer (some ⟨b, 404, none⟩)) "Less").run Try.prog (wr.drewN q) = .ok (113, (.slice (some ⟨g, 0, none⟩) N cap)) (wr.drewN q)) := Lib.hid (fun q => meth_less b _ (wr.drewN q) (HB.out.drewN q).cell.1)
      have HMS : Hid (∀ q, (method 263 119 (.pointer (some ⟨b, 404, none⟩)) "Swap").run Try.prog (wr.drewN q) = .ok (115, (.slice (some ⟨g, 0, none⟩) N cap)) (wr.drewN q)) := Lib.hid (fun q => meth_swap b _ (wr.drewN q) (HB.out.drewN q).cell.1)
      have m0 := meth_less b _ wr c0
      have c1z : (2 * (i : Int) + 1 < (n : Int)) := by omega
      obtain ⟨c2, c3⟩ := c2
      by_cases h2 : 2 * i + 2 < n
      · have h2z : (2 * (i : Int) + 2 < (n : Int)) := by omega
        have c4 : 2 * i + 2 < N := by omega
        cases hb1 : decide (ys.getD (2 * i + 2) 0 < ys.getD (2 * i + 1) 0) with
        | false =>
          have cl1 := HLS.out 0 (2 * i + 2) (2 * i + 1) false c4 c2 hb1
          have HLE : Hid (Lesser n ys i (2 * i + 1)) := Lib.hid (lesser_one h1 (Or.inr (of_decide_eq_false hb1)))
          clear hb1
          cases hb2 : decide (ys.getD (2 * i + 1) 0 < ys.getD i 0) with
          | false =>
            have cl2 := fun q => HLS.out q (2 * i + 1) i false (by omega) c3 hb2
            have HD : Hid (¬ ys.getD (2 * i + 1) 0 < ys.getD i 0) := Lib.hid (of_decide_eq_false hb2)
            have HE : Hid ((2 * (i : Int) + 1) = ((2 * i + 1 : Nat) : Int)) := Lib.hid (by omega)
            clear hb2
            go_wp2_with (go_at_call 113; refine cl1.mono ?_; rintro e w' ⟨rfl, q, rfl⟩)
            rw [HML.out q]
            have cl3 := cl2 q
            clear cl2
            go_wp2_with (go_at_call 113; refine cl3.mono ?_; rintro e w' ⟨rfl, q2, rfl⟩)
            go_ret
            exact ⟨⟨_, rfl⟩, ys, HP.out, downI_done HI.out HLE.out (by have := HD.out; omega), HB.out.drewN q2⟩
          | true =>
            have cl2 := fun q => HLS.out q (2 * i + 1) i true (by omega) c3 hb2
            have HD : Hid (ys.getD (2 * i + 1) 0 < ys.getD i 0) := Lib.hid (of_decide_eq_true hb2)
            have HE : Hid ((2 * (i : Int) + 1) = ((2 * i + 1 : Nat) : Int)) := Lib.hid (by omega)
            clear hb2
            go_wp2_with (go_at_call 113; refine cl1.mono ?_; rintro e w' ⟨rfl, q, rfl⟩)
            rw [HML.out q]
            have cl3 := cl2 q
            clear cl2
            go_wp2_with (go_at_call 113; refine cl3.mono ?_; rintro e w' ⟨rfl, q2, rfl⟩)
            rw [HMS.out q2]
            have cs := HSW.out q2 i (2 * i + 1) c3 (by omega)
            go_wp2_with (go_at_call 115; refine cs.mono ?_; rintro e w2 ⟨rfl, ho2, hbl2⟩)
            have HB2 := Lib.hid hbl2
            have HO2 := Lib.hid ho2
            clear hbl2 ho2 cs
            go_roundg (n + 1 - (2 * i + 1))
            case measure => omega
            case rel => exact ⟨(2 * i + 1), swI ys i (2 * i + 1), by omega, by first | rfl | rw [HE.out] | go_num, HP.out.swap (by omega) (by omega) (by rw [hyl.out]; omega), downI_step HI.out (by rw [hyl.out]; omega) HLE.out HD.out, HB.out.kept HB2.out HO2.out⟩
        | true =>
          have cl1 := HLS.out 0 (2 * i + 2) (2 * i + 1) true c4 c2 hb1
          have HLE : Hid (Lesser n ys i (2 * i + 2)) := Lib.hid (lesser_two h2 (of_decide_eq_true hb1))
          clear hb1
          cases hb2 : decide (ys.getD (2 * i + 2) 0 < ys.getD i 0) with
          | false =>
            have cl2 := fun q => HLS.out q (2 * i + 2) i false (by omega) c3 hb2
            have HD : Hid (¬ ys.getD (2 * i + 2) 0 < ys.getD i 0) := Lib.hid (of_decide_eq_false hb2)
            have HE : Hid ((2 * (i : Int) + 2) = ((2 * i + 2 : Nat) : Int)) := Lib.hid (by omega)
            clear hb2
            go_wp2_with (go_at_call 113; refine cl1.mono ?_; rintro e w' ⟨rfl, q, rfl⟩)
            rw [HML.out q]
            have cl3 := cl2 q
            clear cl2
            go_wp2_with (go_at_call 113; refine cl3.mono ?_; rintro e w' ⟨rfl, q2, rfl⟩)
            go_ret
            exact ⟨⟨_, rfl⟩, ys, HP.out, downI_done HI.out HLE.out (by have := HD.out; omega), HB.out.drewN q2⟩
          | true =>
            have cl2 := fun q => HLS.out q (2 * i + 2) i true (by omega) c3 hb2
            have HD : Hid (ys.getD (2 * i + 2) 0 < ys.getD i 0) := Lib.hid (of_decide_eq_true hb2)
            have HE : Hid ((2 * (i : Int) + 2) = ((2 * i + 2 : Nat) : Int)) := Lib.hid (by omega)
            clear hb2
            go_wp2_with (go_at_call 113; refine cl1.mono ?_; rintro e w' ⟨rfl, q, rfl⟩)
            rw [HML.out q]
            have cl3 := cl2 q
            clear cl2
            go_wp2_with (go_at_call 113; refine cl3.mono ?_; rintro e w' ⟨rfl, q2, rfl⟩)
            rw [HMS.out q2]
            have cs := HSW.out q2 i (2 * i + 2) c3 (by omega)
            go_wp2_with (go_at_call 115; refine cs.mono ?_; rintro e w2 ⟨rfl, ho2, hbl2⟩)
            have HB2 := Lib.hid hbl2
            have HO2 := Lib.hid ho2
            clear hbl2 ho2 cs
            go_roundg (n + 1 - (2 * i + 2))
            case measure => omega
            case rel => exact ⟨(2 * i + 2), swI ys i (2 * i + 2), by omega, by first | rfl | rw [HE.out] | go_num, HP.out.swap (by omega) (by omega) (by rw [hyl.out]; omega), downI_step HI.out (by rw [hyl.out]; omega) HLE.out HD.out, HB.out.kept HB2.out HO2.out⟩
      · have h2z : ¬ (2 * (i : Int) + 2 < (n : Int)) := by omega
        have HLE : Hid (Lesser n ys i (2 * i + 1)) := Lib.hid (lesser_one h1 (Or.inl h2))
        cases hb2 : decide (ys.getD (2 * i + 1) 0 < ys.getD i 0) with
        | false =>
          have cl2 := fun q => HLS.out q (2 * i + 1) i false (by omega) c3 hb2
          have HD : Hid (¬ ys.getD (2 * i + 1) 0 < ys.getD i 0) := Lib.hid (of_decide_eq_false hb2)
          have HE : Hid ((2 * (i : Int) + 1) = ((2 * i + 1 : Nat) : Int)) := Lib.hid (by omega)
          clear hb2
          have cl3 := cl2 0
          clear cl2
          go_wp2_with (go_at_call 113; refine cl3.mono ?_; rintro e w' ⟨rfl, q2, rfl⟩)
          go_ret
          exact ⟨⟨_, rfl⟩, ys, HP.out, downI_done HI.out HLE.out (by have := HD.out; omega), HB.out.drewN q2⟩
        | true =>
          have cl2 := fun q => HLS.out q (2 * i + 1) i true (by omega) c3 hb2
          have HD : Hid (ys.getD (2 * i + 1) 0 < ys.getD i 0) := Lib.hid (of_decide_eq_true hb2)
          have HE : Hid ((2 * (i : Int) + 1) = ((2 * i + 1 : Nat) : Int)) := Lib.hid (by omega)
          clear hb2
          have cl3 := cl2 0
          clear cl2
          go_wp2_with (go_at_call 113; refine cl3.mono ?_; rintro e w' ⟨rfl, q2, rfl⟩)
          rw [HMS.out q2]
          have cs := HSW.out q2 i (2 * i + 1) c3 (by omega)
          go_wp2_with (go_at_call 115; refine cs.mono ?_; rintro e w2 ⟨rfl, ho2, hbl2⟩)
          have HB2 := Lib.hid hbl2
          have HO2 := Lib.hid ho2
          clear hbl2 ho2 cs
          go_roundg (n + 1 - (2 * i + 1))
          case measure => omega
          case rel => exact ⟨(2 * i + 1), swI ys i (2 * i + 1), by omega, by first | rfl | rw [HE.out] | go_num, HP.out.swap (by omega) (by omega) (by rw [hyl.out]; omega), downI_step HI.out (by rw [hyl.out]; omega) HLE.out HD.out, HB.out.kept HB2.out HO2.out⟩
    · have h1z : ((n : Int) ≤ 2 * (i : Int) + 1) := by omega
      go_wp2
      go_ret
      exact ⟨⟨_, rfl⟩, ys, HP.out, downI_leaf HI.out (by omega), HB.out⟩
end Emb
end Go.Proofs.Ythaghhleidopeaa

namespace Go.Proofs.Ythaghhleidopeaa
namespace Emb
open Go.RowKit Go.Sort
set_option linter.unusedVariables false

def PushPost (wB : World) (rB : Option Nat) (mB uB b : Nat) (xs : List Int) (x : Int) (w : World) (e : Ending) (w' : World) : Prop := e = .returned (.tuple #[]) ∧ ∃ v', Box wB rB mB uB b w' v' (xs ++ [x])
set_option maxHeartbeats 2000000 in
set_option maxRecDepth 100000 in
theorem push_c (wB : World) (rB : Option Nat) (mB uB b : Nat) (v : Value) (xs : List Int) (x : Int) (w : World) (h : Box wB rB mB uB b w v xs) (hl : xs.length ≤ 1000) :
    Calls Try.prog 117 #[.pointer (some ⟨b, 404, none⟩), .iface 3 (.int .i64 x)] w (PushPost wB rB mB uB b xs x w) := by
  unfold PushPost
  obtain ⟨i0, hi, hz0, hz1, hz2⟩ := info_parts Try.infoInt
  have hbl : b < w.heap.size := h.lt
  have HB := Lib.hid h
  obtain ⟨c0, f0⟩ := h.cell
  have d0 : w.drew.cell? ⟨b, 404, none⟩ = some v := c0
  have HOA : Hid (OwnN (b + 1) (w.alloc (.cells #[.int .i64 x] 3)).drew v xs) := Lib.hid (h.own.below (((Below.refl _ _).alloc (Nat.le_refl _) _).drew))
  have HOB : Hid (OwnN (b + 1) (w.drew.alloc (.cells #[.int .i64 x] 3)) v xs) := Lib.hid (h.own.below (((Below.refl _ _).drew.alloc (Nat.le_refl _) _)))
  have j3 : (w.alloc (.cells #[.int .i64 x] 3)).cell? ⟨b, 404, none⟩ = some v := by rw [World.cell?_of_block (w := w) (Below.heap_alloc w _ b hbl)]; exact c0
  have j4 : (w.alloc (.cells #[.int .i64 x] 3)).drew.cell? ⟨b, 404, none⟩ = some v := j3
  have hBE : b + 1 ≤ (w.alloc (.cells #[.int .i64 x] 3)).drew.heap.size := by show b + 1 ≤ (w.heap.push _).size; simp; omega
  have HSZ : Hid (w.heap.size ≤ (w.alloc (.cells #[.int .i64 x] 3)).drew.heap.size) := Lib.hid (by show _ ≤ (w.heap.push _).size; simp)
  obtain ⟨cs, _, hcs2, hcs3⟩ := h.at'
  have HQ : Hid ((patchO cs mB uB v)[404]? = some v) := Lib.hid (by rw [patchO_get _ _ _ _ hcs2]; rfl)
  have HHE : Hid ((w.alloc (.cells #[.int .i64 x] 3)).drew.heap[b]? = some (.cells (patchO cs mB uB v) 84 (0, 0))) := Lib.hid (by
    show (w.alloc _).heap[b]? = _
    rw [Below.heap_alloc w _ b hbl]; exact hcs3)
  clear hcs2 hcs3
  obtain ⟨a2, cap2, hv2⟩ := h.own.len
  obtain ⟨n, hn⟩ : ∃ n, xs.length = n := ⟨_, rfl⟩
  have HN := Lib.hid hn
  have jc : (w.alloc (.cells #[.int .i64 x] 3)).drew.cell? ⟨w.heap.size, 0, none⟩ = some (.int .i64 x) := World.cell?_alloc_at _ _ _ _ rfl
  have HBE1 := Lib.hid hBE
  rw [hn] at hv2 hl
  subst hv2
  have ta := ta_int x w.drew
  clear h hn
  go_enter Try.func117, Try.ntmps117
  go_wp2
  go_region_law (first | (refine step_append_lies _ rfl _ _ 72 rfl (b + 1) 3 i0 (.int .i64 0) 1 8 Try.underlying72 hi hz0 hz1 hz2 rfl (by decide) _ _ _ rfl (by have := HOA.out; unfold OwnN at this; rw [HN.out] at this; exact this) ⟨w.heap.size, 0, none⟩ 1 1 [.int .i64 x] rfl rfl (by intro j u hj; rcases j with _ | j; (simp at hj; subst hj; exact jc); (simp at hj)) (by intro u hu; simp at hu; subst hu; rfl) (by decide) (by unfold maxLen; omega) (by omega) HBE1.out _ rfl ?_; intro g9 cap9 w9 hown9 hgrow9 hat9 hlt9; have hh9 := (hgrow9.block b (lt_getH HHE.out) (fun e => by have := (HOA.out.lt b e.symm).1; omega)).trans HHE.out; have q9 : w9.cell? ⟨b, 404, none⟩ = some (.slice a2 n cap2) := (Lib.cell_of_heap hh9 404).trans HQ.out; have f9 : w9.frozen? ⟨b, 404, none⟩ = false := Lib.frozen_of_heap hh9 404))
  all_goals go_end0
  all_goals
    have hon : OwnN (b + 1) w9 (.slice (some ⟨g9, 0, none⟩) (n + 1) cap9) (xs ++ [x]) := OwnN.more (by rw [HN.out]; exact hown9)
    have hg9 : w.grownBy w9 (Value.slice a2 n cap2).ownBlock := grown_trans (grown_drew (w.grownBy_alloc _ _)) hgrow9
    exact ⟨rfl, _, Box.put HB.out hg9 hon (fun k hk => by
      simp only [Value.ownBlock, Option.some.injEq] at hk
      subst hk
      rcases hat9 with h1 | h1
      · exact Or.inl h1.symm
      · right; rw [h1]; exact HSZ.out)⟩

def PopPost (wB : World) (rB : Option Nat) (mB uB b : Nat) (xs : List Int) (n : Nat) (w : World) (e : Ending) (w' : World) : Prop := e = .returned (.iface 3 (.int .i64 (xs.getD n 0))) ∧ ∃ v', Box wB rB mB uB b w' v' (xs.take n)
theorem pop_c (wB : World) (rB : Option Nat) (mB uB b : Nat) (v : Value) (xs : List Int) (n : Nat) (w : World) (h : Box wB rB mB uB b w v xs) (hn : xs.length = n + 1) (hl : n ≤ 1000) :
    Calls Try.prog 116 #[.pointer (some ⟨b, 404, none⟩)] w (PopPost wB rB mB uB b xs n w) := by
  unfold PopPost
  have hbl : b < w.heap.size := h.lt
  obtain ⟨c0, f0⟩ := h.cell
  obtain ⟨g, cap, hv, hg, hgl, hcap⟩ := h.own.head (by intro e; rw [e] at hn; simp at hn)
  rw [hn] at hv hcap
  subst hv
  have hcx := (h.own.cell (j := n) (by omega)).1
  have HB := Lib.hid h
  have HX : Hid (Box wB rB mB uB b (w.setCell ⟨b, 404, none⟩ (.slice (some ⟨g, 0, none⟩) n cap)) (.slice (some ⟨g, 0, none⟩) n cap) (xs.take n)) := Lib.hid (Box.put h (grown_refl _ _) (h.own.cut hn) (fun k hk => Or.inl hk.symm))
  have hnz : (n : Int) < ((n + 1 : Nat) : Int) := by omega
  have hnz2 : (n : Int) < (n : Int) + 1 := by omega
  generalize xs.getD n 0 = x at *
  clear h hn
  go_enter Try.func116, Try.ntmps116
  go_wp2
  go_ret
  exact ⟨rfl, _, HX.out⟩

def HPushPost (wB : World) (rB : Option Nat) (mB uB b : Nat) (xs : List Int) (x : Int) (w : World) (e : Ending) (w' : World) : Prop := e = .returned (.tuple #[]) ∧ ∃ v' ys, ys.Perm (x :: xs) ∧ HeapN ys.length ys ∧ Box wB rB mB uB b w' v' ys
set_option maxHeartbeats 2000000 in
set_option maxRecDepth 100000 in
theorem hpush_c (wB : World) (rB : Option Nat) (mB uB b : Nat) (v : Value) (xs : List Int) (x : Int) (w : World) (h : Box wB rB mB uB b w v xs) (hh : HeapN xs.length xs) (hl : xs.length ≤ 900) :
    Calls Try.prog 73 #[.iface 119 (.pointer (some ⟨b, 404, none⟩)), .iface 3 (.int .i64 x)] w (HPushPost wB rB mB uB b xs x w) := by
  unfold HPushPost
  have cP := push_c wB rB mB uB b v xs x w h (by omega)
  have HH := Lib.hid hh
  have m1 := meth_push b w
  unfold PushPost at cP
  obtain ⟨n, hn⟩ : ∃ n, xs.length = n := ⟨_, rfl⟩
  have hxl : (xs ++ [x]).length = n + 1 := by rw [List.length_append, List.length_singleton, hn]
  have HXL := Lib.hid hxl
  have hn9 : n ≤ 900 := by omega
  have HU : Hid (UpI (xs ++ [x]) n) := Lib.hid (by rw [← hn]; exact upI_start hh x)
  have HPX : Hid ((xs ++ [x]).Perm (x :: xs)) := Lib.hid (List.perm_append_comm)
  have hnz : (n : Int) + 1 - 1 = (n : Int) := by omega
  clear hh h hl hn hxl
  generalize xs ++ [x] = zs at *
  go_enter Try.func73, Try.ntmps73
  go_wp2_with (go_at_call 117; refine cP.mono ?_; rintro e w2 ⟨rfl, v2, hb2⟩; obtain ⟨a2, cap2, hv2⟩ := hb2.own.len; rw [HXL.out] at hv2; have HB2 := Lib.hid hb2; subst hv2; have m2 := meth_len b _ w2 hb2.cell.1; clear hb2)
  refine (len_c a2 (n + 1) cap2 w2).mono ?_
  rintro e w3 ⟨rfl, rfl⟩
  have cU := up_c wB rB mB uB b _ zs n w2 HB2.out (by rw [HXL.out]; omega) HU.out (by rw [HXL.out]; omega)
  unfold UpPost at cU
  clear cP m1
  go_wp2_with fail
  refine cU.mono ?_
  rintro e w4 ⟨rfl, ys, hp, hhp, hbx⟩
  have H1 := Lib.hid hp
  have H2 := Lib.hid hhp
  have H3 := Lib.hid hbx
  clear hp hhp hbx
  go_wp2
  go_end0
  exact ⟨rfl, _, ys, H1.out.trans HPX.out, H2.out, H3.out⟩

def HPopPost (wB : World) (rB : Option Nat) (mB uB b : Nat) (xs : List Int) (w : World) (e : Ending) (w' : World) : Prop := e = .returned (.iface 3 (.int .i64 (xs.getD 0 0))) ∧ ∃ v' ys, xs.Perm (xs.getD 0 0 :: ys) ∧ HeapN ys.length ys ∧ Box wB rB mB uB b w' v' ys
theorem hpop_c (wB : World) (rB : Option Nat) (mB uB b : Nat) (v : Value) (xs : List Int) (n : Nat) (w : World) (h : Box wB rB mB uB b w v xs) (hh : HeapN xs.length xs) (hn : xs.length = n + 1) (hl : n ≤ 900) :
    Calls Try.prog 75 #[.iface 119 (.pointer (some ⟨b, 404, none⟩))] w (HPopPost wB rB mB uB b xs w) := by
  unfold HPopPost
  obtain ⟨g, cap, hv, hg, hgl, hcap⟩ := h.own.head (by intro e; rw [e] at hn; simp at hn)
  rw [hn] at hv hcap
  subst hv
  have HB := Lib.hid h
  have HD : Hid (DownI n (swI xs 0 n) 0) := Lib.hid (downI_start hn hh)
  have m1 := meth_len b _ w h.cell.1
  have m2 := meth_swap b _ w h.cell.1
  have cS := swap_c (b + 1) g (n + 1) cap 0 n xs w h.2 hg hn (by omega) (by omega)
  have HN := Lib.hid hn
  have hnz : (n : Int) + 1 - 1 = (n : Int) := by omega
  have HPP : Hid (∀ zs, DownRel n (swI xs 0 n) zs → zs.getD n 0 = xs.getD 0 0 ∧ xs.Perm (xs.getD 0 0 :: zs.take n) ∧ zs.length = n + 1) := Lib.hid (fun zs hz => pop_perm hn hz)
  have HSL : Hid ((swI xs 0 n).length = n + 1) := Lib.hid (by rw [swI_length, hn])
  generalize xs.getD 0 0 = x at *
  generalize swI xs 0 n = ss at *
  clear h hh hn
  go_enter Try.func75, Try.ntmps75
  go_wp2_with fail
  refine (len_c _ (n + 1) cap w).mono ?_
  rintro e w1 ⟨rfl, rfl⟩
  go_wp2_with fail
  refine cS.mono ?_
  rintro e w2 ⟨rfl, ho2, hb2⟩
  have HB2 : Hid (Box wB rB mB uB b w2 (.slice (some ⟨g, 0, none⟩) (n + 1) cap) ss) := Lib.hid (HB.out.kept hb2 ho2)
  have cD := down_c wB rB mB uB b _ ss n w2 HB2.out (by rw [HSL.out]; omega) HD.out (by rw [HSL.out]; omega)
  unfold DownPost at cD
  clear cS m1 m2 ho2 hb2
  go_wp2_with fail
  refine cD.mono ?_
  rintro e w3 ⟨⟨t, rfl⟩, zs, hdr, hhp, hb3⟩
  obtain ⟨hz1, hz2, hz3⟩ := HPP.out zs hdr
  have cP := pop_c wB rB mB uB b _ zs n w3 hb3 hz3 (by omega)
  unfold PopPost at cP
  rw [hz1] at cP
  have HZ2 := Lib.hid hz2
  have HHP : Hid (HeapN (zs.take n).length (zs.take n)) := Lib.hid (by
    rw [show (zs.take n).length = n by rw [List.length_take]; omega]
    exact heap_take hhp)
  have m3 := meth_pop b w3
  clear cD hdr hhp hb3 hz1 hz2 hz3
  go_wp2_with fail
  refine cP.mono ?_
  rintro e w4 ⟨rfl, v4, hb4⟩
  have HB4 := Lib.hid hb4
  clear cP hb4
  go_wp2
  go_ret
  exact ⟨rfl, v4, _, HZ2.out, HHP.out, HB4.out⟩

def AddPost (wB : World) (rB : Option Nat) (mB uB b : Nat) (xs : List Int) (x : Int) (w : World) (e : Ending) (w' : World) : Prop := e = .returned (.tuple #[]) ∧ ∃ v' ys, ys.Perm (x :: xs) ∧ HeapN ys.length ys ∧ Box wB rB mB uB b w' v' ys
set_option maxRecDepth 100000 in
theorem add_c (wB : World) (rB : Option Nat) (mB uB b : Nat) (v : Value) (xs : List Int) (x : Int) (w : World) (h : Box wB rB mB uB b w v xs) (hh : HeapN xs.length xs) (hl : xs.length ≤ 900) :
    Calls Try.prog 58 #[.pointer (some ⟨b, 404, none⟩), .int .i64 x] w (AddPost wB rB mB uB b xs x w) := by
  have cH := hpush_c wB rB mB uB b v xs x w h hh hl
  clear h hh hl
  go_enter Try.func58, Try.ntmps58
  go_wp2_with fail
  refine cH.mono ?_
  rintro e w1 ⟨rfl, h1⟩
  have H1 := Lib.hid h1
  clear h1 cH
  go_wp2
  go_end0
  exact ⟨rfl, H1.out⟩
def LeastPost (wB : World) (rB : Option Nat) (mB uB b : Nat) (xs : List Int) (w : World) (e : Ending) (w' : World) : Prop := e = .returned (.int .i64 (xs.getD 0 0)) ∧ ∃ v' ys, xs.Perm (xs.getD 0 0 :: ys) ∧ HeapN ys.length ys ∧ Box wB rB mB uB b w' v' ys
set_option maxRecDepth 100000 in
theorem least_c (wB : World) (rB : Option Nat) (mB uB b : Nat) (v : Value) (xs : List Int) (n : Nat) (w : World) (h : Box wB rB mB uB b w v xs) (hh : HeapN xs.length xs) (hn : xs.length = n + 1) (hl : n ≤ 900) :
    Calls Try.prog 61 #[.pointer (some ⟨b, 404, none⟩)] w (LeastPost wB rB mB uB b xs w) := by
  have cH := hpop_c wB rB mB uB b v xs n w h hh hn hl
  unfold HPopPost at cH
  unfold LeastPost
  clear h hh hl hn
  generalize xs.getD 0 0 = x at *
  have ta := fun w => ta_int x w
  go_enter Try.func61, Try.ntmps61
  go_wp2_with fail
  refine cH.mono ?_
  rintro e w1 ⟨rfl, h1⟩
  have H1 := Lib.hid h1
  have ta := ta_int x w1
  clear h1 cH
  go_wp2
  go_ret
  exact ⟨rfl, H1.out⟩
end Emb
end Go.Proofs.Ythaghhleidopeaa
