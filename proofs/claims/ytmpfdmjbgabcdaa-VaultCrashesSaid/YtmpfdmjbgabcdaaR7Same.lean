/-
  The seventh reference's Same: whether two lists of texts are the same.
-/
import Derived.Test.YtmpfdmjbgabcdaaProg
import Derived.WalkKit
import Derived.WalkSpells
import Derived.IntWalk
import Derived.ProofKit
import Derived.Lib.Hide
import Derived.Below
import Derived.Sort.WalkC
import Derived.LoopTactic
import Derived.Deep.LoopGhost
import Derived.Deep.QuietTactic
import Derived.BigQuiet
import Derived.PlainAid
namespace Go.Proofs.Ytmpfdmjbgabcdaa
open Go.RowKit Go.Sort
set_option linter.unusedVariables false

/-- The slice v holds the texts l. -/
def StrsIs (w : World) (v : Value) (l : List ByteArray) : Prop :=
  (l = [] ∧ ∃ a cap, v = .slice a 0 cap) ∨
  (∃ g off cap, g < w.heap.size ∧ v = .slice (some ⟨g, off, none⟩) l.length cap ∧ ∀ j s, l[j]? = some s → w.cell? ⟨g, off + j, none⟩ = some (.string s))
theorem StrsIs.kept {w w' : World} {v : Value} {l : List ByteArray} (h : StrsIs w v l) (hb : Below w.heap.size w w') : StrsIs w' v l := by
  rcases h with h | ⟨g, off, cap, hg, hv, hc⟩
  · exact Or.inl h
  · exact Or.inr ⟨g, off, cap, by have := hb.size; omega, hv, fun j s hj => by rw [hb.cell (p := ⟨g, off + j, none⟩) hg]; exact hc j s hj⟩
theorem StrsIs.len {w : World} {v : Value} {l : List ByteArray} (h : StrsIs w v l) : ∃ a cap, v = .slice a l.length cap := by
  rcases h with ⟨rfl, a, cap, hv⟩ | ⟨g, off, cap, hg, hv, hc⟩
  · exact ⟨a, cap, hv⟩
  · exact ⟨_, cap, hv⟩
theorem StrsIs.at {w : World} {a : Option Addr} {n cap : Nat} {l : List ByteArray} (h : StrsIs w (.slice a n cap) l) {j : Nat} {s : ByteArray} (hj : l[j]? = some s) : ∃ g off, a = some ⟨g, off, none⟩ ∧ g < w.heap.size ∧ w.cell? ⟨g, off + j, none⟩ = some (.string s) := by
  rcases h with ⟨rfl, _⟩ | ⟨g, off, cap', hg, hv, hc⟩
  · cases hj
  · injection hv with h1 h2 h3
    exact ⟨g, off, h1, hg, hc j s hj⟩
theorem toList_ne {x y : ByteArray} (h : x ≠ y) : (x.toList == y.toList) = false := by
  rw [beq_eq_false_iff_ne]
  intro e
  apply h
  rw [ByteArray.toList_eq, ByteArray.toList_eq] at e
  cases x; cases y
  congr 1
  exact Array.ext' e
theorem Below.drewS {B : Nat} {a w : World} (h : Below B a w) (q : Nat) : Below B a (w.drewN q) := by
  induction q with
  | zero => exact h
  | succ q ih => exact ih.drew
set_option maxHeartbeats 4000000 in
set_option maxRecDepth 100000 in
theorem same_c (u v : Value) (la lb : List ByteArray) (w : World) (hu : StrsIs w u la) (hv : StrsIs w v lb) (hla : la.length ≤ 9223372036854775807) (hlb : lb.length ≤ 9223372036854775807) (b : Bool) (hb : b = true ↔ la = lb) :
    Calls Try.prog 21 #[u, v] w fun e w' => e = .returned (.bool b) ∧ Below w.heap.size w w' := by
  have HBF := Lib.hid hb
  obtain ⟨a1, c1, rfl⟩ := hu.len
  obtain ⟨a2, c2, rfl⟩ := hv.len
  obtain ⟨n, hn⟩ : ∃ n, la.length = n := ⟨_, rfl⟩
  obtain ⟨m, hm⟩ : ∃ m, lb.length = m := ⟨_, rfl⟩
  have HU := Lib.hid hu
  have HV := Lib.hid hv
  have HN := Lib.hid hn
  have HM := Lib.hid hm
  rw [hn] at hla ⊢
  rw [hm] at hlb ⊢
  clear hb hu hv hn hm
  by_cases hnm : n = m
  · subst hnm
    go_enter Try.func21, Try.ntmps21
    go_wp2
    go_loopw [5] (fun iv wr => ∃ i : Nat, i ≤ n ∧ iv = .int .i64 i ∧ la.take i = lb.take i ∧ Below w.heap.size w wr) (fun iv _ => n - (intOf iv).toNat)
    case atStart => exact ⟨0, by omega, rfl, rfl, Below.refl _ _⟩
    case round =>
      obtain ⟨i, hi, rfl, ht, hbw⟩ := hrel
      have HT := Lib.hid ht
      have HBW := Lib.hid hbw
      by_cases hin : i < n
      · have hiz : (i : Int) < (n : Int) := by omega
        obtain ⟨x, hx⟩ : ∃ x, la[i]? = some x := ⟨_, List.getElem?_eq_getElem (by rw [HN.out]; exact hin)⟩
        obtain ⟨y, hy⟩ : ∃ y, lb[i]? = some y := ⟨_, List.getElem?_eq_getElem (by rw [HM.out]; exact hin)⟩
        have hu9 := HU.out.kept hbw
        rw [HN.out] at hu9
        have hv9 := HV.out.kept hbw
        rw [HM.out] at hv9
        obtain ⟨g1, o1, rfl, _, k1⟩ := hu9.at hx
        obtain ⟨g2, o2, rfl, _, k2⟩ := hv9.at hy
        have d1 : wr.drew.cell? ⟨g1, o1 + i, none⟩ = some (.string x) := k1
        have d2 : wr.drew.cell? ⟨g2, o2 + i, none⟩ = some (.string y) := k2
        have HXL := Lib.hid hx
        have HYL := Lib.hid hy
        clear hu9 hv9 ht hbw hx hy
        by_cases hxy : x = y
        · subst hxy
          have HTN : Hid (la.take (i + 1) = lb.take (i + 1)) := Lib.hid (by rw [List.take_add_one, List.take_add_one, HXL.out, HYL.out, HT.out])
          go_wp2
          go_quiet (fail)
          go_wp2
          go_roundw
          case rel => exact ⟨i + 1, by omega, by first | rfl | go_num, HTN.out, by first | exact HBW.out | exact HBW.out.drew | exact Below.drewS HBW.out _⟩
          case measure => simp [intOf]; omega
        · have hne := toList_ne hxy
          have hbf : b = false := by
            cases b
            · rfl
            · have he := HBF.out.1 rfl
              have h1 := HXL.out
              rw [he, HYL.out] at h1
              exact absurd (Option.some.inj h1).symm hxy
          subst hbf
          clear hxy
          go_wp2
          go_quiet (fail)
          go_wp2
          go_ret
          exact ⟨rfl, by first | exact HBW.out | exact HBW.out.drew | exact Below.drewS HBW.out _⟩
      · have hge : ¬ ((i : Int) < (n : Int)) := by omega
        have hbt : b = true := HBF.out.2 (by
          have h1 := HT.out
          rwa [List.take_of_length_le (by rw [HN.out]; omega), List.take_of_length_le (by rw [HM.out]; omega)] at h1)
        subst hbt
        clear ht hbw
        go_wp2
        go_ret
        exact ⟨rfl, HBW.out⟩
  · have hbf : b = false := by
      cases b
      · rfl
      · have he := HBF.out.1 rfl
        exact absurd (by rw [← HN.out, ← HM.out, he]) hnm
    subst hbf
    have hnz : ((n : Int) == (m : Int)) = false := by rw [beq_eq_false_iff_ne]; omega
    have hnz2 : (n == m) = false := by rw [beq_eq_false_iff_ne]; exact hnm
    go_enter Try.func21, Try.ntmps21
    go_wp2
    go_ret
    exact ⟨rfl, Below.refl _ _⟩
end Go.Proofs.Ytmpfdmjbgabcdaa
