/-
  The walk of the law 'UtfAll': of all bytes up to 300 the characters are told, if they are such, and joined they are the same bytes.
-/
import Derived.Test.YtjcnnbakadbccaaDoorAll
import Derived.Test.YtjcnnbakadbccaaDoorJoin
namespace Go.Proofs.YtjcnnbakadbccaaDoor
open Go.RowKit
set_option linter.unusedVariables false

theorem tuple_le {w w1 w2 : World} (h1 : Below w.heap.size w w1) (h2 : Below w1.heap.size w1 w2) : Below w.heap.size w w2 := h1.trans (h2.mono h1.size)

set_option maxHeartbeats 1000000 in
theorem all_walk (b : ByteArray) (hs : b.size ≤ 9223372036854775807) (w : World) (hT : Tabs w) :
    Calls Tryd.prog 5 #[.string b] w fun e w' => e = .returned (.bool true) ∧ Below w.heap.size w w' := by
  by_cases h : b.size ≤ 300
  · have hz : (b.size : Int) ≤ 300 := by omega
    have cA := all_c b (by omega) w hT
    have cR := refAll_c b h
    cases ho : runesL b.data.toList with
    | none =>
      rw [ho] at cA
      simp only [ho] at cR
      clear hs h hT ho
      go_enter Tryd.func5, Tryd.ntmps5
      go_wp2_with fail
      refine (awake_c _).mono ?_
      rintro e w' ⟨rfl, rfl⟩
      go_wp2_with fail
      refine cA.mono ?_
      rintro e w1 ⟨v1, he, hs1, hb1⟩
      have he' : e = .returned (.tuple #[v1, .bool false]) := he
      subst he'
      clear he cA
      go_wp2_with fail
      refine (cR _).mono ?_
      rintro e w2 ⟨v2, he, hs2, hb2⟩
      have he' : e = .returned (.tuple #[v2, .bool false]) := he
      subst he'
      have HS1 := Lib.hid (hs1.kept hb2)
      have HS2 := Lib.hid hs2
      clear he cR hs1 hs2
      go_wp2_with fail
      refine (same_c HS1.out HS2.out (by simp)).mono ?_
      rintro e w3 ⟨he, hb3⟩
      have he' : e = .returned (.bool true) := by rw [he]; rfl
      subst he'
      clear he
      go_wp2
      go_ret
      exact ⟨rfl, tuple_le (tuple_le hb1 hb2) hb3⟩
    | some rs =>
      rw [ho] at cA
      simp only [ho] at cR
      have hj := join_runes _ _ rs (Nat.le_refl _) ho
      have hlen := runesL_len _ _ rs (Nat.le_refl _) ho
      have hlz : b.data.toList.length = b.size := by simp
      have hl1 : rs.length ≤ 1000 := by omega
      have hq : (joinL rs == b.toList) = true := by
        rw [Lib.toList_data, hj]
        exact beq_self_eq_true _
      clear hs h hT ho hj hlen hlz
      go_enter Tryd.func5, Tryd.ntmps5
      go_wp2_with fail
      refine (awake_c _).mono ?_
      rintro e w' ⟨rfl, rfl⟩
      go_wp2_with fail
      refine cA.mono ?_
      rintro e w1 ⟨v1, he, hs1, hb1⟩
      have he' : e = .returned (.tuple #[v1, .bool true]) := he
      subst he'
      clear he cA
      go_wp2_with fail
      refine (cR _).mono ?_
      rintro e w2 ⟨v2, he, hs2, hb2⟩
      have he' : e = .returned (.tuple #[v2, .bool true]) := he
      subst he'
      have HS1 := Lib.hid (hs1.kept hb2)
      have HS2 := Lib.hid hs2
      clear he cR hs1 hs2
      go_wp2_with fail
      refine (same_c HS1.out HS2.out hl1).mono ?_
      rintro e w3 ⟨he, hb3⟩
      have he' : e = .returned (.bool true) := by rw [he, Option.getD_some, decide_eq_true rfl]
      subst he'
      clear he
      go_wp2_with fail
      refine (join_c (HS1.out.kept hb3) hl1).mono ?_
      rintro e w4 ⟨rfl, hb4⟩
      go_wp2
      go_ret
      exact ⟨rfl, tuple_le (tuple_le (tuple_le hb1 hb2) hb3) hb4⟩
  · have hz : (300 : Int) < (b.size : Int) := by omega
    clear hT h
    go_enter Tryd.func5, Tryd.ntmps5
    go_wp2_with (go_at_call 8; refine (awake_c _).mono ?_; rintro e w' ⟨rfl, rfl⟩)
    go_ret
    exact ⟨rfl, Below.refl _ _⟩
end Go.Proofs.YtjcnnbakadbccaaDoor
