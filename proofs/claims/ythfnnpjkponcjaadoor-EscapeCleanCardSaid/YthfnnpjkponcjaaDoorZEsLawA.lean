/-
  The laws awake and EscapePresents of stage 4, walked: each answers true; what lay in memory stays.
-/
import Derived.Test.YthfnnpjkponcjaaDoorKA
import Derived.Test.YthfnnpjkponcjaaDoorKB
namespace Go.Proofs.YthfnnpjkponcjaaDoor
open Go.RowKit Go.Sort
set_option linter.unusedVariables false

theorem pres_cafe : presL 1 [99, 97, 102, 233, 46] = [99, 97, 102, 195, 169, 37, 50, 101] := by decide +kernel
set_option maxRecDepth 100000 in
theorem awake4_c (w : World) (hT : Tabs w) : Calls Tryd.prog 9 #[] w fun e w' => e = .returned (.bool true) ∧ Below w.heap.size w w' := by
  have c := present_c 1 (by decide) (by decide) ⟨#[99, 97, 102, 233, 46]⟩ (by decide) w hT
  rw [show (⟨(presL 1 (⟨#[99, 97, 102, 233, 46]⟩ : ByteArray).data.toList).toArray⟩ : ByteArray) = ⟨#[99, 97, 102, 195, 169, 37, 50, 101]⟩ from congrArg (fun l => (⟨List.toArray l⟩ : ByteArray)) pres_cafe] at c
  clear hT
  go_enter Tryd.func9, Tryd.ntmps9
  go_wp2_with fail
  refine c.mono ?_
  rintro e w' ⟨rfl, hb⟩
  go_wp2
  go_ret
  exact ⟨rfl, hb⟩

set_option maxHeartbeats 2000000 in
set_option maxRecDepth 100000 in
theorem presents_walk (enc : Int) (b : ByteArray) (hs : b.size ≤ 9223372036854775807) (w : World) (hT : Tabs w) :
    Calls Tryd.prog 5 #[.int .i64 enc, .string b] w fun e w' => e = .returned (.bool true) ∧ Below w.heap.size w w' := by
  have cA := awake4_c w hT
  have HA : Hid (∀ w1, Below w.heap.size w w1 → Calls Tryd.prog 9 #[] w1 fun e w' => e = .returned (.bool true) ∧ Below w1.heap.size w1 w') := Lib.hid (fun w1 h1 => awake4_c w1 (hT.step h1))
  by_cases h300 : b.size ≤ 300
  · have hz : ¬ ((300 : Int) < (b.size : Int)) := by omega
    have HG : Hid (∀ w1, Calls Tryd.prog 10 #[.string b] w1 fun e w' => e = .returned (.bool (goodB b)) ∧ Below w1.heap.size w1 w') := Lib.hid (fun w1 => esGood_c b hs w1)
    have HGr : Hid (∀ w1, Calls Tryd.prog 13 #[.string b] w1 fun e w' => e = .returned (.bool (goodB b)) ∧ w' = w1) := Lib.hid (fun w1 => refGood_c b hs w1)
    generalize goodB b = G at *
    by_cases he : 0 ≤ enc ∧ enc ≤ 8
    · have HP : Hid (∀ w1, Below w.heap.size w w1 → Calls Tryd.prog 11 #[.int .i64 enc, .string b] w1 fun e w' => e = .returned (.string ⟨(presL enc b.data.toList).toArray⟩) ∧ Below w1.heap.size w1 w') := Lib.hid (fun w1 h1 => present_c enc he.1 he.2 b h300 w1 (hT.step h1))
      have HPr : Hid (∀ w1, Calls Tryd.prog 14 #[.int .i64 enc, .string b] w1 fun e w' => e = .returned (.string ⟨(presL enc b.data.toList).toArray⟩) ∧ Below w1.heap.size w1 w') := Lib.hid (fun w1 => refPres_c enc he.1 he.2 b h300 w1)
      generalize (⟨(presL enc b.data.toList).toArray⟩ : ByteArray) = P at *
      have e0 : ¬ (enc < 0) := by omega
      have e8 : ¬ (8 < enc) := by omega
      clear he h300 hT
      go_enter Tryd.func5, Tryd.ntmps5
      go_wp2_with fail
      refine cA.mono ?_
      rintro e w1 ⟨rfl, hb1⟩
      have cP := HP.out w1 hb1
      go_wp2_with fail
      refine cP.mono ?_
      rintro e w2 ⟨rfl, hb2⟩
      have cG := HG.out w2
      have hb12 := below_step hb1 hb2
      go_wp2_with fail
      refine cG.mono ?_
      rintro e w3 ⟨rfl, hb3⟩
      have cGr := HGr.out w3
      have hb13 := below_step hb12 hb3
      go_wp2_with fail
      refine cGr.mono ?_
      rintro e w4 ⟨rfl, hw4⟩
      rw [hw4]
      have cPr := HPr.out w3
      clear cA cP cG cGr hb1 hb2 hb3 hb12
      go_wp2_with fail
      refine cPr.mono ?_
      rintro e w5 ⟨rfl, hb5⟩
      have HB := Lib.hid (below_step hb13 hb5)
      clear hb13 hb5 cPr
      go_wp2
      go_ret
      exact ⟨rfl, HB.out⟩
    · have HP : Hid (∀ w1, Calls Tryd.prog 11 #[.int .i64 enc, .string b] w1 fun e w' => e = .returned (.string ⟨#[]⟩) ∧ Below w1.heap.size w1 w') := Lib.hid (fun w1 => present_out enc he b w1)
      clear h300 hT
      by_cases e0 : enc < 0
      · clear he
        go_enter Tryd.func5, Tryd.ntmps5
        go_wp2_with fail
        refine cA.mono ?_
        rintro e w1 ⟨rfl, hb1⟩
        have cP := HP.out w1
        go_wp2_with fail
        refine cP.mono ?_
        rintro e w2 ⟨rfl, hb2⟩
        have cG := HG.out w2
        have hb12 := below_step hb1 hb2
        go_wp2_with fail
        refine cG.mono ?_
        rintro e w3 ⟨rfl, hb3⟩
        have cGr := HGr.out w3
        have HB := Lib.hid (below_step hb12 hb3)
        go_wp2_with fail
        refine cGr.mono ?_
        rintro e w4 ⟨rfl, hw4⟩
        rw [hw4]
        clear cA cP cG cGr hb1 hb2 hb3 hb12
        go_wp2
        go_ret
        exact ⟨rfl, HB.out⟩
      · have e8 : 8 < enc := by omega
        clear he
        go_enter Tryd.func5, Tryd.ntmps5
        go_wp2_with fail
        refine cA.mono ?_
        rintro e w1 ⟨rfl, hb1⟩
        have cP := HP.out w1
        go_wp2_with fail
        refine cP.mono ?_
        rintro e w2 ⟨rfl, hb2⟩
        have cG := HG.out w2
        have hb12 := below_step hb1 hb2
        go_wp2_with fail
        refine cG.mono ?_
        rintro e w3 ⟨rfl, hb3⟩
        have cGr := HGr.out w3
        have HB := Lib.hid (below_step hb12 hb3)
        go_wp2_with fail
        refine cGr.mono ?_
        rintro e w4 ⟨rfl, hw4⟩
        rw [hw4]
        clear cA cP cG cGr hb1 hb2 hb3 hb12
        go_wp2
        go_ret
        exact ⟨rfl, HB.out⟩
  · have hz : (300 : Int) < (b.size : Int) := by omega
    clear h300 hT
    go_enter Tryd.func5, Tryd.ntmps5
    go_wp2_with fail
    refine cA.mono ?_
    rintro e w1 ⟨rfl, hb1⟩
    have cA2 := HA.out w1 hb1
    go_wp2_with fail
    refine cA2.mono ?_
    rintro e w2 ⟨rfl, hb2⟩
    have HB := Lib.hid (below_step hb1 hb2)
    clear hb1 hb2 cA cA2
    go_wp2
    go_ret
    exact ⟨rfl, HB.out⟩
end Go.Proofs.YthfnnpjkponcjaaDoor
