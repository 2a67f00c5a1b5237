/-
  The contract of the first reference's Same: whether two slices hold the same.
-/
import Derived.Test.YtjakelphkehonaaProg
import Derived.Test.YtjakelphkehonaaSliceIs
import Derived.WalkKit
import Derived.WalkSpells
import Derived.IntWalk
import Derived.Handy
import Derived.Deep.QuietTactic
import Derived.BigQuiet
import Derived.LoopTactic
namespace Go.Proofs.Ytjakelphkehonaa
open Go.RowKit
set_option linter.unusedVariables false

set_option maxHeartbeats 1000000 in
theorem same_len (a b : Option Addr) (n m c d : Nat) (hnm : n ≠ m) (w : World) :
    Calls Try.prog 12 #[.slice a n c, .slice b m d] w fun e w' => e = .returned (.bool false) ∧ Below w.heap.size w w' := by
  have h1 : ((n : Int) == (m : Int)) = false := by rw [beq_eq_false_iff_ne]; omega
  have h2 : ¬ ((n : Int) = (m : Int)) := by omega
  clear hnm
  go_enter Try.func12, Try.ntmps12
  go_wp2
  go_ret
  exact ⟨rfl, Below.refl _ _⟩

set_option maxHeartbeats 1000000 in
theorem same_nil (a b : Option Addr) (c d : Nat) (w : World) :
    Calls Try.prog 12 #[.slice a 0 c, .slice b 0 d] w fun e w' => e = .returned (.bool true) ∧ Below w.heap.size w w' := by
  go_enter Try.func12, Try.ntmps12
  go_wp2
  go_rounds 1
  go_ret
  exact ⟨rfl, Below.refl _ _⟩

def RelS (la lb : List Int) (w0 : World) (iv : Value) (wr : World) : Prop :=
  ∃ i : Nat, i ≤ la.length ∧ iv = .int .i64 i ∧ (∀ j, j < i → la.getD j 0 = lb.getD j 0) ∧ Below w0.heap.size w0 wr

set_option maxHeartbeats 1000000 in
theorem same_in (la lb : List Int) (hl : la.length = lb.length) (hs : la.length ≤ 1000) (g off cap g' off' cap' : Nat) (w : World) (hg : g < w.heap.size) (hg' : g' < w.heap.size)
    (hc : ∀ j, j < la.length → w.cell? ⟨g, off + j, none⟩ = some (.int .i32 (la.getD j 0))) (hc' : ∀ j, j < la.length → w.cell? ⟨g', off' + j, none⟩ = some (.int .i32 (lb.getD j 0))) :
    Calls Try.prog 12 #[.slice (some ⟨g, off, none⟩) la.length cap, .slice (some ⟨g', off', none⟩) la.length cap'] w fun e w' => e = .returned (.bool (decide (la = lb))) ∧ Below w.heap.size w w' := by
  obtain ⟨n, hn⟩ : ∃ n, la.length = n := ⟨_, rfl⟩
  have HL := Lib.hid hl
  have HC := Lib.hid hc
  have HC' := Lib.hid hc'
  clear hl hc hc'
  obtain ⟨R, hR⟩ : ∃ R, decide (la = lb) = R := ⟨_, rfl⟩
  rw [hR, hn]
  rw [hn] at hs
  have HN := Lib.hid hn
  have HR := Lib.hid hR
  clear hn hR
  go_enter Try.func12, Try.ntmps12
  go_wp2
  go_loopw [5] (fun iv wr => RelS la lb w iv wr) (fun iv _ => n - (intOf iv).toNat)
  case atStart => exact ⟨0, by omega, rfl, fun j hj => by omega, Below.refl _ _⟩
  case round =>
    obtain ⟨i, hi, rfl, heq, hbel⟩ := hrel
    rw [HN.out] at hi
    have HE := Lib.hid heq
    clear heq
    by_cases hlt : i < n
    · obtain ⟨x, hx⟩ : ∃ x, la.getD i 0 = x := ⟨_, rfl⟩
      obtain ⟨y, hy⟩ : ∃ y, lb.getD i 0 = y := ⟨_, rfl⟩
      have c1 : wr.cell? ⟨g, off + i, none⟩ = some (.int .i32 x) := by rw [hbel.cell (p := ⟨g, off + i, none⟩) hg, HC.out i (by rw [HN.out]; exact hlt), hx]
      have c2 : wr.cell? ⟨g', off' + i, none⟩ = some (.int .i32 y) := by rw [hbel.cell (p := ⟨g', off' + i, none⟩) hg', HC'.out i (by rw [HN.out]; exact hlt), hy]
      have hltz : (i : Int) < (n : Int) := by omega
      by_cases hxy : x = y
      · have HS := Lib.hid (same_step HE.out (hx.trans (hxy.trans hy.symm)))
        subst hxy
        clear hx hy
        go_wp2
        go_quiet (fail)
        go_wp2
        go_roundw
        case rel => exact ⟨i + 1, by rw [HN.out]; omega, by go_num, HS.out, below_drewN' hbel _⟩
        case measure => simp [intOf]; omega
      · have hne : (x == y) = false := by rw [beq_eq_false_iff_ne]; exact hxy
        have HF : Hid (R = false) := by
          rw [← HR.out]
          refine decide_eq_false fun h => hxy ?_
          rw [← hx, ← hy, h]
        clear hx hy hxy
        go_wp2
        go_quiet (fail)
        go_wp2
        go_ret
        exact ⟨by rw [HF.out]; rfl, below_drewN' hbel _⟩
    · have hin : i = n := by omega
      have HT : Hid (R = true) := by
        rw [← HR.out]
        exact decide_eq_true (same_all HL.out (fun j hj => HE.out j (by rw [HN.out] at hj; omega)))
      have hge : ¬ ((i : Int) < (n : Int)) := by omega
      clear hin
      go_wp2
      go_ret
      exact ⟨by rw [HT.out]; rfl, hbel⟩

theorem same_c {va vb : Value} {la lb : List Int} {w : World} (ha : SliceIs w va la) (hb : SliceIs w vb lb) (hs : la.length ≤ 1000) :
    Calls Try.prog 12 #[va, vb] w fun e w' => e = .returned (.bool (decide (la = lb))) ∧ Below w.heap.size w w' := by
  by_cases hl : la.length = lb.length
  · rcases ha with ⟨rfl, a, cap, rfl⟩ | ⟨g, off, cap, hg, rfl, hc⟩
    · have : lb = [] := List.eq_nil_of_length_eq_zero (by rw [← hl]; rfl)
      subst this
      obtain ⟨b, d, rfl⟩ := hb.len
      exact same_nil a b cap d w
    · rcases hb with ⟨rfl, b, cap', rfl⟩ | ⟨g', off', cap', hg', rfl, hc'⟩
      · have : la = [] := List.eq_nil_of_length_eq_zero (by rw [hl]; rfl)
        subst this
        exact same_nil _ b cap cap' w
      · rw [← hl]
        exact same_in la lb hl hs g off cap g' off' cap' w hg hg' hc (fun j hj => hc' j (by omega))
  · obtain ⟨a, c, rfl⟩ := ha.len
    obtain ⟨b, d, rfl⟩ := hb.len
    have : decide (la = lb) = false := decide_eq_false fun h => hl (by rw [h])
    rw [this]
    exact same_len a b _ _ c d hl w
end Go.Proofs.Ytjakelphkehonaa
