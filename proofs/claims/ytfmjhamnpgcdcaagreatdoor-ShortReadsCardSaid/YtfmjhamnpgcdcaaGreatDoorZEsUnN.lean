/-
  The contract of escape's unescape, where no escape stands.
-/
import Derived.Test.YtfmjhamnpgcdcaaGreatDoorKC
namespace Go.Proofs.YtfmjhamnpgcdcaaGreatDoor
open Go.RowKit Go.Sort
set_option linter.unusedVariables false

theorem dig_no {c : Int} (h : hexC c = false) : idxR digS c = -1 := by
  unfold idxR
  by_cases h1 : 0 ≤ c ∧ c < 128
  · rw [if_pos h1]
    obtain ⟨n, rfl⟩ : ∃ n : Nat, c = (n : Int) := ⟨c.toNat, by omega⟩
    unfold hexC at h
    rw [decide_eq_true h1, Bool.true_and] at h
    have key : ∀ m : Nat, m < 128 → hexL.contains (UInt8.ofNat m) = false → Lib.indexByte digS.data.toList m.toUInt8 = -1 := by decide +kernel
    have := key n (by omega) (by simpa using h)
    rw [show ((n : Int)).toNat = n by omega]
    exact this
  · rw [if_neg h1]
set_option maxHeartbeats 2000000 in
set_option maxRecDepth 100000 in
theorem unesc_no (l : List Int) (h : l.length < 3 ∨ hexC (l.getD 1 0) = false ∨ hexC (l.getD 2 0) = false) (v : Value) (w : World) (hv : SliceC w v l) (hs : l.length ≤ 4000) :
    Calls Tryz.prog 34 #[v] w fun e w' => e = .returned (.tuple #[.int .u8 0, .bool false]) ∧ Below w.heap.size w w' := by
  obtain ⟨g, off, cap, rfl, hcap, hg, hc⟩ := hv
  by_cases h3 : l.length < 3
  · have hz : ((l.length : Int) < 3) := by omega
    generalize l.length = n at *
    clear hc h h3
    go_enter Tryz.func34, Tryz.ntmps34
    go_wp2
    go_ret2
    exact ⟨rfl, Below.refl _ _⟩
  · have c1 := hc 1 (by omega)
    have c2 := hc 2 (by omega)
    obtain ⟨a, ha⟩ : ∃ a, l.getD 1 0 = a := ⟨_, rfl⟩
    obtain ⟨b, hb⟩ : ∃ b, l.getD 2 0 = b := ⟨_, rfl⟩
    rw [ha] at c1 h
    rw [hb] at c2 h
    have cA := fun w => idxRune_c digS digS_ascii (by decide) a w
    have cB := fun w => idxRune_c digS digS_ascii (by decide) b w
    have hz : ¬ ((l.length : Int) < 3) := by omega
    have z1 : (1 : Int) < (l.length : Int) := by omega
    have z2 : (2 : Int) < (l.length : Int) := by omega
    have hab : idxR digS a = -1 ∨ (∃ x : Nat, idxR digS a = (x : Int)) ∧ idxR digS b = -1 := by
      cases hha : hexC a with
      | false => exact Or.inl (dig_no hha)
      | true =>
        right
        refine ⟨⟨_, (dig_idx hha).1⟩, dig_no ?_⟩
        rcases h with h | h | h
        · omega
        · rw [hha] at h; cases h
        · exact h
    unfold digS at cA cB hab
    clear h ha hb hc h3
    generalize l.length = n at *
    rcases hab with e1 | ⟨⟨x, e1⟩, e2⟩
    · rw [e1] at cA
      clear e1
      obtain ⟨z, hzz⟩ : ∃ z, idxR ⟨#[48, 49, 50, 51, 52, 53, 54, 55, 56, 57, 97, 98, 99, 100, 101, 102]⟩ b = z := ⟨_, rfl⟩
      rw [hzz] at cB
      clear hzz
      go_enter Tryz.func34, Tryz.ntmps34
      go_wp2_with fail
      refine (cA _).mono ?_
      rintro e w1 ⟨rfl, hb1⟩
      have c2' : w1.cell? ⟨g, off + 2, none⟩ = some (.int .i32 b) := by rw [hb1.cell (p := ⟨g, off + 2, none⟩) hg]; exact c2
      go_wp2_with fail
      refine (cB _).mono ?_
      rintro e w2 ⟨rfl, hb2⟩
      have HB := Lib.hid (below_step hb1 hb2)
      clear hb1 hb2
      go_wp2
      go_ret2
      exact ⟨rfl, HB.out⟩
    · rw [e1] at cA
      rw [e2] at cB
      have x0 : ¬ ((x : Int) < 0) := by omega
      clear e1 e2
      go_enter Tryz.func34, Tryz.ntmps34
      go_wp2_with fail
      refine (cA _).mono ?_
      rintro e w1 ⟨rfl, hb1⟩
      have c2' : w1.cell? ⟨g, off + 2, none⟩ = some (.int .i32 b) := by rw [hb1.cell (p := ⟨g, off + 2, none⟩) hg]; exact c2
      go_wp2_with fail
      refine (cB _).mono ?_
      rintro e w2 ⟨rfl, hb2⟩
      have HB := Lib.hid (below_step hb1 hb2)
      clear hb1 hb2
      go_wp2
      go_ret2
      exact ⟨rfl, HB.out⟩
end Go.Proofs.YtfmjhamnpgcdcaaGreatDoor
