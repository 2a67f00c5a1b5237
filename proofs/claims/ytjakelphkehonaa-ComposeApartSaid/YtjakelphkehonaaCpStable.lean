/-
  The contracts of the library's Equal at characters and of compose's Stable; what lay in memory stays.
-/
import Derived.Test.YtjakelphkehonaaCpApart
import Derived.Test.YtjakelphkehonaaR1Same
namespace Go.Proofs.Ytjakelphkehonaa
open Go.RowKit
set_option linter.unusedVariables false

set_option maxHeartbeats 1000000 in
theorem eq_len (a b : Option Addr) (n m c d : Nat) (hnm : n ≠ m) (w : World) :
    Calls Try.prog 26 #[.slice a n c, .slice b m d] w fun e w' => e = .returned (.bool false) ∧ Below w.heap.size w w' := by
  have h1 : ((n : Int) == (m : Int)) = false := by rw [beq_eq_false_iff_ne]; omega
  have h2 : ¬ ((n : Int) = (m : Int)) := by omega
  clear hnm
  go_enter Try.func26, Try.ntmps26
  go_wp2
  go_ret
  exact ⟨rfl, Below.refl _ _⟩

set_option maxHeartbeats 1000000 in
theorem eq_nil (a b : Option Addr) (c d : Nat) (w : World) :
    Calls Try.prog 26 #[.slice a 0 c, .slice b 0 d] w fun e w' => e = .returned (.bool true) ∧ Below w.heap.size w w' := by
  go_enter Try.func26, Try.ntmps26
  go_wp2
  refine wp_loop_rounds 1 ?_
  rw [rounds_succ]
  go_wp2
  go_ret
  exact ⟨rfl, Below.refl _ _⟩

set_option maxHeartbeats 1000000 in
theorem eq_in (la lb : List Int) (hl : la.length = lb.length) (hs : la.length ≤ 1000) (g off cap g' off' cap' : Nat) (w : World) (hg : g < w.heap.size) (hg' : g' < w.heap.size)
    (hc : ∀ j, j < la.length → w.cell? ⟨g, off + j, none⟩ = some (.int .i32 (la.getD j 0))) (hc' : ∀ j, j < la.length → w.cell? ⟨g', off' + j, none⟩ = some (.int .i32 (lb.getD j 0))) :
    Calls Try.prog 26 #[.slice (some ⟨g, off, none⟩) la.length cap, .slice (some ⟨g', off', none⟩) la.length cap'] w fun e w' => e = .returned (.bool (decide (la = lb))) ∧ Below w.heap.size w w' := by
  obtain ⟨n, hn⟩ : ∃ n, la.length = n := ⟨_, rfl⟩
  have HL := Lib.hid hl
  have HC := Lib.hid hc
  have HC' := Lib.hid hc'
  clear hl hc hc'
  obtain ⟨R, hR⟩ : ∃ R, decide (la = lb) = R := ⟨_, rfl⟩
  rw [hR, hn]
  rw [hn] at hs
  have HN := Lib.hid hn
  have HR := Lib.hid hR
  clear hn hR
  go_enter Try.func26, Try.ntmps26
  go_wp2
  go_loopw [13] (fun iv wr => RelS la lb w iv wr) (fun iv _ => n - (intOf iv).toNat)
  case atStart => exact ⟨0, by omega, rfl, fun j hj => by omega, Below.refl _ _⟩
  case round =>
    obtain ⟨i, hi, rfl, heq, hbel⟩ := hrel
    rw [HN.out] at hi
    have HE := Lib.hid heq
    clear heq
    by_cases hlt : i < n
    · obtain ⟨x, hx⟩ : ∃ x, la.getD i 0 = x := ⟨_, rfl⟩
      obtain ⟨y, hy⟩ : ∃ y, lb.getD i 0 = y := ⟨_, rfl⟩
      have c1 : wr.cell? ⟨g, off + i, none⟩ = some (.int .i32 x) := by rw [hbel.cell (p := ⟨g, off + i, none⟩) hg, HC.out i (by rw [HN.out]; exact hlt), hx]
      have c2 : wr.cell? ⟨g', off' + i, none⟩ = some (.int .i32 y) := by rw [hbel.cell (p := ⟨g', off' + i, none⟩) hg', HC'.out i (by rw [HN.out]; exact hlt), hy]
      have hltz : (i : Int) < (n : Int) := by omega
      by_cases hxy : x = y
      · have HS := Lib.hid (same_step HE.out (hx.trans (hxy.trans hy.symm)))
        subst hxy
        clear hx hy
        go_wp2
        go_quiet (fail)
        go_wp2
        go_roundw
        case rel => exact ⟨i + 1, by rw [HN.out]; omega, by go_num, HS.out, below_drewN' hbel _⟩
        case measure => simp [intOf]; omega
      · have hne : (x == y) = false := by rw [beq_eq_false_iff_ne]; exact hxy
        have HF : Hid (R = false) := by
          rw [← HR.out]
          refine decide_eq_false fun h => hxy ?_
          rw [← hx, ← hy, h]
        clear hx hy hxy
        go_wp2
        go_quiet (fail)
        go_wp2
        go_ret
        exact ⟨by rw [HF.out]; rfl, below_drewN' hbel _⟩
    · have hin : i = n := by omega
      have HT : Hid (R = true) := by
        rw [← HR.out]
        exact decide_eq_true (same_all HL.out (fun j hj => HE.out j (by rw [HN.out] at hj; omega)))
      have hge : ¬ ((i : Int) < (n : Int)) := by omega
      clear hin
      go_wp2
      go_ret
      exact ⟨by rw [HT.out]; rfl, hbel⟩

theorem eq_c {va vb : Value} {la lb : List Int} {w : World} (ha : SliceIs w va la) (hb : SliceIs w vb lb) (hs : la.length ≤ 1000) :
    Calls Try.prog 26 #[va, vb] w fun e w' => e = .returned (.bool (decide (la = lb))) ∧ Below w.heap.size w w' := by
  by_cases hl : la.length = lb.length
  · rcases ha with ⟨rfl, a, cap, rfl⟩ | ⟨g, off, cap, hg, rfl, hc⟩
    · have : lb = [] := List.eq_nil_of_length_eq_zero (by rw [← hl]; rfl)
      subst this
      obtain ⟨b, d, rfl⟩ := hb.len
      exact eq_nil a b cap d w
    · rcases hb with ⟨rfl, b, cap', rfl⟩ | ⟨g', off', cap', hg', rfl, hc'⟩
      · have : la = [] := List.eq_nil_of_length_eq_zero (by rw [hl]; rfl)
        subst this
        exact eq_nil _ b cap cap' w
      · rw [← hl]
        exact eq_in la lb hl hs g off cap g' off' cap' w hg hg' hc (fun j hj => hc' j (by omega))
  · obtain ⟨a, c, rfl⟩ := ha.len
    obtain ⟨b, d, rfl⟩ := hb.len
    have : decide (la = lb) = false := decide_eq_false fun h => hl (by rw [h])
    rw [this]
    exact eq_len a b _ _ c d hl w

def StablePost (l : List Int) (w : World) (e : Ending) (w' : World) : Prop := e = .returned (.bool (decide (l = apartI l))) ∧ Below w.heap.size w w'
set_option maxHeartbeats 1000000 in
theorem stablecp_c (l : List Int) (v : Value) (w : World) (hv : SliceIs w v l) (hs : l.length ≤ 1000) (hm : marksN (fullL l) ≤ 40) : Calls Try.prog 14 #[v] w (StablePost l w) := by
  have cA := apart_c l v w hv hs hm
  have HV := Lib.hid hv
  clear hv hm
  go_enter Try.func14, Try.ntmps14
  go_wp2_with fail
  refine cA.mono ?_
  rintro e w1 ⟨v', rfl, h1, _, hb⟩
  have cE := eq_c (HV.out.kept hb) h1 hs
  have HB := Lib.hid hb
  clear h1 hb cA
  go_wp2_with fail
  refine cE.mono ?_
  rintro e w2 ⟨rfl, hb2⟩
  have HB2 := Lib.hid (below_step HB.out hb2)
  clear hb2 cE
  go_wp2
  go_ret
  exact ⟨rfl, HB2.out⟩
end Go.Proofs.Ytjakelphkehonaa
