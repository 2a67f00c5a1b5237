/-
  The library's heap: what goes down.
-/
import Derived.Test.YthaghhleidopeaaIdUp
namespace Go.Proofs.Ythaghhleidopeaa
open Go.RowKit Go.Sort
set_option linter.unusedVariables false

def DownRel (n : Nat) (xs ys : List Int) : Prop := ys.Perm xs ∧ ∀ k, n ≤ k → ys.getD k 0 = xs.getD k 0
theorem DownRel.swap {n : Nat} {xs ys : List Int} (h : DownRel n xs ys) {i j : Nat} (hi : i < n) (hj : j < n) (hn : n ≤ ys.length) : DownRel n xs (swI ys i j) :=
  ⟨(swI_perm (by omega) (by omega)).trans h.1, fun k hk => by rw [swI_getD (by omega) (by omega), if_neg (by omega), if_neg (by omega)]; exact h.2 k hk⟩
def DownPost (wB : World) (rB : Option Nat) (mB uB b n : Nat) (v : Value) (xs : List Int) (w : World) (e : Ending) (w' : World) : Prop := (∃ t : Bool, e = .returned (.bool t)) ∧ ∃ ys, DownRel n xs ys ∧ HeapN n ys ∧ Box wB rB mB uB b w' v ys

set_option maxHeartbeats 4000000 in
set_option maxRecDepth 100000 in
theorem down_c (wB : World) (rB : Option Nat) (mB uB b : Nat) (v : Value) (xs : List Int) (n : Nat) (w : World) (h : Box wB rB mB uB b w v xs) (hn : n < xs.length) (hd : DownI n xs 0) (hl : xs.length ≤ 1000) :
    Calls Try.prog 84 #[.iface 119 (.pointer (some ⟨b, 2, none⟩)), .int .i64 0, .int .i64 n] w (DownPost wB rB mB uB b n v xs w) := by
  unfold DownPost
  obtain ⟨N, hN⟩ : ∃ N, xs.length = N := ⟨_, rfl⟩
  have HN := Lib.hid hN
  rw [hN] at hn hl
  have HU := Lib.hid hd
  have HBX := Lib.hid h
  clear hN hd h
  go_enter Try.func84, Try.ntmps84
  go_wp2
  go_loopg [7] (n + 1) (fun gk iv wr => ∃ (i : Nat) (ys : List Int), (i ≤ n ∧ i + gk = n + 1) ∧ iv = .int .i64 i ∧ DownRel n xs ys ∧ DownI n ys i ∧ Box wB rB mB uB b wr v ys)
  case atStart => exact ⟨0, xs, by omega, rfl, ⟨List.Perm.refl _, fun k hk => rfl⟩, HU.out, HBX.out⟩
  case round =>
    obtain ⟨i, ys, ⟨hin, hig⟩, rfl, hp, hdi, hbx⟩ := hrel
    have HP := Lib.hid hp
    have HI := Lib.hid hdi
    have HB := Lib.hid hbx
    have hyl : Hid (ys.length = N) := Lib.hid (hp.1.length_eq.trans HN.out)
    clear hp hdi hbx
    by_cases h1 : 2 * i + 1 < n
    · have h1z : ¬ ((n : Int) ≤ 2 * (i : Int) + 1) := by omega
      obtain ⟨c0, f0⟩ := HB.out.cell
      have hne : ys ≠ [] := by
        intro e
        have := hyl.out
        rw [e] at this
        simp at this
        omega
      obtain ⟨g, cap, hv, hg, hgl, hcap⟩ := HB.out.2.head hne
      rw [hyl.out] at hv hcap
      subst hv
      clear hne
      -- the second part, whichever child it is
      have c2 : (2 * i + 1 < N ∧ i < N) := by omega
      have HLS : Hid (∀ (q x y : Nat) (t : Bool), x < N → y < N → decide (ys.getD x 0 < ys.getD y 0) = t → Calls Try.prog 113 #[(.slice (some ⟨g, 0, none⟩) N cap), .int .i64 x, .int .i64 y] (wr.drewN q) fun e w' => e = .returned (.bool t) ∧ ∃ q', w' = wr.drewN q') := Lib.hid (fun q x y t hx hy ht => (less_c (b + 1) g N cap x y ys (wr.drewN q) (HB.out.drewN q).2 hyl.out hx hy t ht).mono fun e w' ⟨h1, q2, h2⟩ => ⟨h1, q + q2, by rw [h2, World.drewN_drewN]⟩)
      have HSW : Hid (∀ (q x y : Nat), x < N → y < N → Calls Try.prog 115 #[(.slice (some ⟨g, 0, none⟩) N cap), .int .i64 x, .int .i64 y] (wr.drewN q) fun e w' => e = .returned (.tuple #[]) ∧ OwnN (b + 1) w' (.slice (some ⟨g, 0, none⟩) N cap) (swI ys x y) ∧ wr.grownBy w' (some g)) := Lib.hid (fun q x y hx hy => (swap_c (b + 1) g N cap x y ys (wr.drewN q) (HB.out.drewN q).2 hg hyl.out hx hy).mono fun e w' ⟨h1, h2, h3⟩ => ⟨h1, h2, grown_drewN h3⟩)
      have HML : Hid (∀ q, (method 263 119 (.pointer (some ⟨b, 2, none⟩)) "Less").run Try.prog (wr.drewN q) = .ok (113, (.slice (some ⟨g, 0, none⟩) N cap)) (wr.drewN q)) := Lib.hid (fun q => meth_less b _ (wr.drewN q) (HB.out.drewN q).cell.1)
      have HMS : Hid (∀ q, (method 263 119 (.pointer (some ⟨b, 2, none⟩)) "Swap").run Try.prog (wr.drewN q) = .ok (115, (.slice (some ⟨g, 0, none⟩) N cap)) (wr.drewN q)) := Lib.hid (fun q => meth_swap b _ (wr.drewN q) (HB.out.drewN q).cell.1)
      have m0 := meth_less b _ wr c0
      have c1z : (2 * (i : Int) + 1 < (n : Int)) := by omega
      obtain ⟨c2, c3⟩ := c2
      by_cases h2 : 2 * i + 2 < n
      · have h2z : (2 * (i : Int) + 2 < (n : Int)) := by omega
        have c4 : 2 * i + 2 < N := by omega
        cases hb1 : decide (ys.getD (2 * i + 2) 0 < ys.getD (2 * i + 1) 0) with
        | false =>
          have cl1 := HLS.out 0 (2 * i + 2) (2 * i + 1) false c4 c2 hb1
          have HLE : Hid (Lesser n ys i (2 * i + 1)) := Lib.hid (lesser_one h1 (Or.inr (of_decide_eq_false hb1)))
          clear hb1
          cases hb2 : decide (ys.getD (2 * i + 1) 0 < ys.getD i 0) with
          | false =>
            have cl2 := fun q => HLS.out q (2 * i + 1) i false (by omega) c3 hb2
            have HD : Hid (¬ ys.getD (2 * i + 1) 0 < ys.getD i 0) := Lib.hid (of_decide_eq_false hb2)
            have HE : Hid ((2 * (i : Int) + 1) = ((2 * i + 1 : Nat) : Int)) := Lib.hid (by omega)
            clear hb2
            go_wp2_with (go_at_call 113; refine cl1.mono ?_; rintro e w' ⟨rfl, q, rfl⟩)
            rw [HML.out q]
            have cl3 := cl2 q
            clear cl2
            go_wp2_with (go_at_call 113; refine cl3.mono ?_; rintro e w' ⟨rfl, q2, rfl⟩)
            go_ret
            exact ⟨⟨_, rfl⟩, ys, HP.out, downI_done HI.out HLE.out (by have := HD.out; omega), HB.out.drewN q2⟩
          | true =>
            have cl2 := fun q => HLS.out q (2 * i + 1) i true (by omega) c3 hb2
            have HD : Hid (ys.getD (2 * i + 1) 0 < ys.getD i 0) := Lib.hid (of_decide_eq_true hb2)
            have HE : Hid ((2 * (i : Int) + 1) = ((2 * i + 1 : Nat) : Int)) := Lib.hid (by omega)
            clear hb2
            go_wp2_with (go_at_call 113; refine cl1.mono ?_; rintro e w' ⟨rfl, q, rfl⟩)
            rw [HML.out q]
            have cl3 := cl2 q
            clear cl2
            go_wp2_with (go_at_call 113; refine cl3.mono ?_; rintro e w' ⟨rfl, q2, rfl⟩)
            rw [HMS.out q2]
            have cs := HSW.out q2 i (2 * i + 1) c3 (by omega)
            go_wp2_with (go_at_call 115; refine cs.mono ?_; rintro e w2 ⟨rfl, ho2, hbl2⟩)
            have HB2 := Lib.hid hbl2
            have HO2 := Lib.hid ho2
            clear hbl2 ho2 cs
            go_roundg (n + 1 - (2 * i + 1))
            case measure => omega
            case rel => exact ⟨(2 * i + 1), swI ys i (2 * i + 1), by omega, by first | rfl | rw [HE.out] | go_num, HP.out.swap (by omega) (by omega) (by rw [hyl.out]; omega), downI_step HI.out (by rw [hyl.out]; omega) HLE.out HD.out, HB.out.kept HB2.out HO2.out⟩
        | true =>
          have cl1 := HLS.out 0 (2 * i + 2) (2 * i + 1) true c4 c2 hb1
          have HLE : Hid (Lesser n ys i (2 * i + 2)) := Lib.hid (lesser_two h2 (of_decide_eq_true hb1))
          clear hb1
          cases hb2 : decide (ys.getD (2 * i + 2) 0 < ys.getD i 0) with
          | false =>
            have cl2 := fun q => HLS.out q (2 * i + 2) i false (by omega) c3 hb2
            have HD : Hid (¬ ys.getD (2 * i + 2) 0 < ys.getD i 0) := Lib.hid (of_decide_eq_false hb2)
            have HE : Hid ((2 * (i : Int) + 2) = ((2 * i + 2 : Nat) : Int)) := Lib.hid (by omega)
            clear hb2
            go_wp2_with (go_at_call 113; refine cl1.mono ?_; rintro e w' ⟨rfl, q, rfl⟩)
            rw [HML.out q]
            have cl3 := cl2 q
            clear cl2
            go_wp2_with (go_at_call 113; refine cl3.mono ?_; rintro e w' ⟨rfl, q2, rfl⟩)
            go_ret
            exact ⟨⟨_, rfl⟩, ys, HP.out, downI_done HI.out HLE.out (by have := HD.out; omega), HB.out.drewN q2⟩
          | true =>
            have cl2 := fun q => HLS.out q (2 * i + 2) i true (by omega) c3 hb2
            have HD : Hid (ys.getD (2 * i + 2) 0 < ys.getD i 0) := Lib.hid (of_decide_eq_true hb2)
            have HE : Hid ((2 * (i : Int) + 2) = ((2 * i + 2 : Nat) : Int)) := Lib.hid (by omega)
            clear hb2
            go_wp2_with (go_at_call 113; refine cl1.mono ?_; rintro e w' ⟨rfl, q, rfl⟩)
            rw [HML.out q]
            have cl3 := cl2 q
            clear cl2
            go_wp2_with (go_at_call 113; refine cl3.mono ?_; rintro e w' ⟨rfl, q2, rfl⟩)
            rw [HMS.out q2]
            have cs := HSW.out q2 i (2 * i + 2) c3 (by omega)
            go_wp2_with (go_at_call 115; refine cs.mono ?_; rintro e w2 ⟨rfl, ho2, hbl2⟩)
            have HB2 := Lib.hid hbl2
            have HO2 := Lib.hid ho2
            clear hbl2 ho2 cs
            go_roundg (n + 1 - (2 * i + 2))
            case measure => omega
            case rel => exact ⟨(2 * i + 2), swI ys i (2 * i + 2), by omega, by first | rfl | rw [HE.out] | go_num, HP.out.swap (by omega) (by omega) (by rw [hyl.out]; omega), downI_step HI.out (by rw [hyl.out]; omega) HLE.out HD.out, HB.out.kept HB2.out HO2.out⟩
      · have h2z : ¬ (2 * (i : Int) + 2 < (n : Int)) := by omega
        have HLE : Hid (Lesser n ys i (2 * i + 1)) := Lib.hid (lesser_one h1 (Or.inl h2))
        cases hb2 : decide (ys.getD (2 * i + 1) 0 < ys.getD i 0) with
        | false =>
          have cl2 := fun q => HLS.out q (2 * i + 1) i false (by omega) c3 hb2
          have HD : Hid (¬ ys.getD (2 * i + 1) 0 < ys.getD i 0) := Lib.hid (of_decide_eq_false hb2)
          have HE : Hid ((2 * (i : Int) + 1) = ((2 * i + 1 : Nat) : Int)) := Lib.hid (by omega)
          clear hb2
          have cl3 := cl2 0
          clear cl2
          go_wp2_with (go_at_call 113; refine cl3.mono ?_; rintro e w' ⟨rfl, q2, rfl⟩)
          go_ret
          exact ⟨⟨_, rfl⟩, ys, HP.out, downI_done HI.out HLE.out (by have := HD.out; omega), HB.out.drewN q2⟩
        | true =>
          have cl2 := fun q => HLS.out q (2 * i + 1) i true (by omega) c3 hb2
          have HD : Hid (ys.getD (2 * i + 1) 0 < ys.getD i 0) := Lib.hid (of_decide_eq_true hb2)
          have HE : Hid ((2 * (i : Int) + 1) = ((2 * i + 1 : Nat) : Int)) := Lib.hid (by omega)
          clear hb2
          have cl3 := cl2 0
          clear cl2
          go_wp2_with (go_at_call 113; refine cl3.mono ?_; rintro e w' ⟨rfl, q2, rfl⟩)
          rw [HMS.out q2]
          have cs := HSW.out q2 i (2 * i + 1) c3 (by omega)
          go_wp2_with (go_at_call 115; refine cs.mono ?_; rintro e w2 ⟨rfl, ho2, hbl2⟩)
          have HB2 := Lib.hid hbl2
          have HO2 := Lib.hid ho2
          clear hbl2 ho2 cs
          go_roundg (n + 1 - (2 * i + 1))
          case measure => omega
          case rel => exact ⟨(2 * i + 1), swI ys i (2 * i + 1), by omega, by first | rfl | rw [HE.out] | go_num, HP.out.swap (by omega) (by omega) (by rw [hyl.out]; omega), downI_step HI.out (by rw [hyl.out]; omega) HLE.out HD.out, HB.out.kept HB2.out HO2.out⟩
    · have h1z : ((n : Int) ≤ 2 * (i : Int) + 1) := by omega
      go_wp2
      go_ret
      exact ⟨⟨_, rfl⟩, ys, HP.out, downI_leaf HI.out (by omega), HB.out⟩
end Go.Proofs.Ythaghhleidopeaa
