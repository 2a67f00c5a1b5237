/-
  The law EscapeBack of stage 4, walked: it answers true; what lay in memory stays.
-/
import Derived.Test.YthfnnpjkponcjaaDoorKC
import Derived.Test.YthfnnpjkponcjaaDoorZEsLawA
namespace Go.Proofs.YthfnnpjkponcjaaDoor
open Go.RowKit Go.Sort
set_option linter.unusedVariables false

theorem good_size {b : ByteArray} (h : goodB b = true) : b.size ≤ 255 := by
  rw [good_says] at h
  simp only [Bool.and_eq_true, decide_eq_true_iff] at h
  exact h.2.2
set_option maxHeartbeats 2000000 in
set_option maxRecDepth 100000 in
theorem back4_walk (x : Int) (hx0 : 0 ≤ x) (hx1 : x ≤ 255) (b : ByteArray) (hs : b.size ≤ 9223372036854775807) (w : World) (hT : Tabs w) :
    Calls Tryd.prog 6 #[.int .u8 x, .string b] w fun e w' => e = .returned (.bool true) ∧ Below w.heap.size w w' := by
  have cA := awake4_c w hT
  have HA : Hid (∀ w1, Below w.heap.size w w1 → Calls Tryd.prog 9 #[] w1 fun e w' => e = .returned (.bool true) ∧ Below w1.heap.size w1 w') := Lib.hid (fun w1 h1 => awake4_c w1 (hT.step h1))
  have HG : Hid (∀ w1, Calls Tryd.prog 10 #[.string b] w1 fun e w' => e = .returned (.bool (goodB b)) ∧ Below w1.heap.size w1 w') := Lib.hid (fun w1 => esGood_c b hs w1)
  obtain ⟨E, hE⟩ : ∃ E, x % 9 = E := ⟨_, rfl⟩
  have hE0 : 0 ≤ E := by omega
  have hE8 : E ≤ 8 := by omega
  cases hg : goodB b with
  | false =>
    rw [hg] at HG
    clear hg hT
    go_enter Tryd.func6, Tryd.ntmps6
    go_wp2_with fail
    refine cA.mono ?_
    rintro e w1 ⟨rfl, hb1⟩
    have cG := HG.out w1
    go_wp2_with fail
    refine cG.mono ?_
    rintro e w2 ⟨rfl, hb2⟩
    have hb12 := below_step hb1 hb2
    have cA2 := HA.out w2 hb12
    go_wp2_with fail
    refine cA2.mono ?_
    rintro e w3 ⟨rfl, hb3⟩
    have HB := Lib.hid (below_step hb12 hb3)
    clear hb1 hb2 hb12 hb3 cA cG cA2
    go_wp2
    go_ret
    exact ⟨rfl, HB.out⟩
  | true =>
    have hsz := good_size hg
    have hlen := len_list b
    have HP : Hid (∀ w1, Below w.heap.size w w1 → Calls Tryd.prog 11 #[.int .i64 E, .string b] w1 fun e w' => e = .returned (.string ⟨(presL E b.data.toList).toArray⟩) ∧ Below w1.heap.size w1 w') := Lib.hid (fun w1 h1 => present_c E hE0 hE8 b (by omega) w1 (hT.step h1))
    have HR : Hid (∀ w1, Below w.heap.size w w1 → Calls Tryd.prog 12 #[.int .i64 E, .string ⟨(presL E b.data.toList).toArray⟩] w1 fun e w' => e = .returned (.tuple #[.string b, .int .i64 0]) ∧ Below w1.heap.size w1 w') := Lib.hid (fun w1 h1 => by
      have e9 : (⟨b.data.toList.toArray⟩ : ByteArray) = b := by
        apply ByteArray.ext
        simp
      have := restore_yes E hE0 hE8 ⟨(presL E b.data.toList).toArray⟩ b.data.toList (reads_pres hE0 _ (by omega)) (by rw [e9]; exact hg) (by omega) rfl w1 (hT.step h1)
      rw [e9] at this
      exact this)
    rw [hg] at HG
    generalize (⟨(presL E b.data.toList).toArray⟩ : ByteArray) = P at *
    clear hg hT hsz hlen
    go_enter Tryd.func6, Tryd.ntmps6
    go_wp2_with fail
    refine cA.mono ?_
    rintro e w1 ⟨rfl, hb1⟩
    have cG := HG.out w1
    go_wp2_with fail
    refine cG.mono ?_
    rintro e w2 ⟨rfl, hb2⟩
    have hb12 := below_step hb1 hb2
    have cP := HP.out w2 hb12
    go_wp2_with fail
    refine cP.mono ?_
    rintro e w3 ⟨rfl, hb3⟩
    have hb13 := below_step hb12 hb3
    have cR := HR.out w3 hb13
    go_wp2_with fail
    refine cR.mono ?_
    rintro e w4 ⟨rfl, hb4⟩
    have HB := Lib.hid (below_step hb13 hb4)
    clear hb1 hb2 hb12 hb3 hb13 hb4 cA cG cP cR
    go_wp2
    go_ret
    exact ⟨rfl, HB.out⟩
end Go.Proofs.YthfnnpjkponcjaaDoor
