/-
  The ninth laws' awake answers true; the frame of a pool's calls beside the reference's pool.
-/
import Derived.Test.YtfpnecbhpcnadaaIdNew
namespace Go.Proofs.Ytfpnecbhpcnadaa
open Go.RowKit Go.Sort
set_option linter.unusedVariables false

theorem NumsIs.one (w : World) (x : Int) : NumsIs (w.alloc (.cells #[.int .i64 x] 3)) (.slice (some ⟨w.heap.size, 0, none⟩) 1 1) [x] := by
  refine Or.inr ⟨w.heap.size, 0, 1, by show _ < (w.heap.push _).size; simp, rfl, fun j hj => ?_⟩
  have hh : (w.alloc (.cells #[.int .i64 x] 3)).heap[w.heap.size]? = some (.cells #[.int .i64 x] 3 (0, 0)) := heap_alloc_new _ _
  have : j = 0 := by simp at hj; omega
  subst this
  rw [Nat.zero_add, Lib.cell_of_heap hh]
  rfl
theorem least_31 : leastN 3 (mkRow 3 [1]) = 2 := by decide +kernel
theorem count_31 : countN 3 ((mkRow 3 [1]).set 2 true) = 2 := by decide +kernel
theorem most_3 : mostN 3 = 3 := by decide
/-- A pool's call leaves what lies below its block. -/
theorem PoolIs.under {w0 : World} {r : Option Nat} {m b : Nat} {w w' wa : World} {v v' : Value} {l l' : List Bool} (h0 : PoolIs w0 r m b w v l) (h : PoolIs w v.ownBlock m b w' v' l') {B : Nat} (hB : B ≤ b) (hb : Below B wa w) : Below B wa w' :=
  hb.trans (h.keep.below hB (by have := h0.lt; omega) (fun k hk => by have := (h0.row k hk).2.1; omega))
theorem awake9_c (w : World) : Calls Try.prog 5 #[] w fun e w' => e = .returned (.bool true) ∧ Below w.heap.size w w' := by
  have cN := new_c 3 _ [1] _ (NumsIs.one w 1) (by decide)
  rw [most_3] at cN
  unfold NewPost at cN
  have HB0 : Hid (Below w.heap.size w (w.alloc (.cells #[.int .i64 1] 3))) := Lib.hid ((Below.refl _ w).alloc (Nat.le_refl _) _)
  go_enter Try.func5, Try.ntmps5
  go_wp2_with fail
  refine cN.mono ?_
  rintro e w2 ⟨b, v, rfl, hb, hP⟩
  have hwb : w.heap.size ≤ b := Nat.le_trans HB0.out.size hb
  have HB2 : Hid (Below w.heap.size w w2) := Lib.hid (HB0.out.trans (hP.keep.below (by omega) HB0.out.size (fun k hk => by cases hk)))
  have HP := Lib.hid hP
  have cT := take_c w2 v.ownBlock 3 b v _ w2 hP.now
  rw [least_31] at cT
  clear cN hP
  go_wp2_with fail
  refine cT.mono ?_
  rintro e w3 (⟨h, _⟩ | ⟨n, v3, hn1, hn2, hn3, rfl, hP3⟩)
  · cases h
  · obtain rfl : n = 2 := hn3.symm
    have HB3 : Hid (Below w.heap.size w w3) := Lib.hid (HP.out.under hP3 hwb HB2.out)
    have cO := out_c w3 v3.ownBlock 3 b v3 _ w3 hP3.now
    rw [count_31] at cO
    clear cT hP3
    go_wp2_with (go_at_call 12; refine cO.mono ?_; rintro e w4 ⟨rfl, q, rfl⟩)
    go_ret
    exact ⟨rfl, below_drewN2 HB3.out q⟩
end Go.Proofs.Ytfpnecbhpcnadaa
