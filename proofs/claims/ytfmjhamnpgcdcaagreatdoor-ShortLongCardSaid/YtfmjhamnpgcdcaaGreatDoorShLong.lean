/-
  The contracts of Long, both; the law ShortLong of stage 5, walked: it answers true; what lay in memory stays.
-/
import Derived.Test.YtfmjhamnpgcdcaaGreatDoorKA
import Derived.Test.YtfmjhamnpgcdcaaGreatDoorKB
import Derived.Test.YtfmjhamnpgcdcaaGreatDoorShAwake
namespace Go.Proofs.YtfmjhamnpgcdcaaGreatDoor
open Go.RowKit Go.Sort
set_option linter.unusedVariables false

def longB (enc : Int) (l : List UInt8) : Bool := decide ((255 : Int) < ((⟨(presL enc l).toArray⟩ : ByteArray).size : Int))
set_option maxHeartbeats 1000000 in
theorem long_c (enc : Int) (h0 : 0 ≤ enc) (h8 : enc ≤ 8) (b : ByteArray) (hs : b.size ≤ 300) (w : World) (hT : Tabs w) :
    Calls Tryz.prog 9 #[.int .i64 enc, .string b] w fun e w' => e = .returned (.bool (longB enc b.data.toList)) ∧ Below w.heap.size w w' := by
  have c := present_c enc h0 h8 b hs w hT
  unfold longB
  generalize (⟨(presL enc b.data.toList).toArray⟩ : ByteArray) = P at *
  clear hT h0 h8 hs
  go_enter Tryz.func9, Tryz.ntmps9
  go_wp2_with fail
  refine c.mono ?_
  rintro e w1 ⟨rfl, hb⟩
  have HB := Lib.hid hb
  clear c hb
  go_wp2
  go_ret
  exact ⟨rfl, HB.out⟩
set_option maxHeartbeats 1000000 in
theorem rlong_c (enc : Int) (h0 : 0 ≤ enc) (h8 : enc ≤ 8) (b : ByteArray) (hs : b.size ≤ 300) (w : World) :
    Calls Tryz.prog 10 #[.int .i64 enc, .string b] w fun e w' => e = .returned (.bool (longB enc b.data.toList)) ∧ Below w.heap.size w w' := by
  have c := refPres_c enc h0 h8 b hs w
  unfold longB
  generalize (⟨(presL enc b.data.toList).toArray⟩ : ByteArray) = P at *
  clear h0 h8 hs
  go_enter Tryz.func10, Tryz.ntmps10
  go_wp2_with fail
  refine c.mono ?_
  rintro e w1 ⟨rfl, hb⟩
  have HB := Lib.hid hb
  clear c hb
  go_wp2
  go_ret
  exact ⟨rfl, HB.out⟩

set_option maxHeartbeats 2000000 in
set_option maxRecDepth 100000 in
theorem long5_walk (x : Int) (hx0 : 0 ≤ x) (hx1 : x ≤ 255) (b : ByteArray) (hs : b.size ≤ 9223372036854775807) (w : World) (hT : Tabs w) :
    Calls Tryz.prog 4 #[.int .u8 x, .string b] w fun e w' => e = .returned (.bool true) ∧ Below w.heap.size w w' := by
  have cA := awake5_c w
  by_cases h300 : b.size ≤ 300
  · have hz : ¬ ((300 : Int) < (b.size : Int)) := by omega
    obtain ⟨E, hE⟩ : ∃ E, x % 9 = E := ⟨_, rfl⟩
    have hE0 : 0 ≤ E := by omega
    have hE8 : E ≤ 8 := by omega
    have hwE : IntKind.i64.wrap E = E := by rw [IntKind.wrap_i64]; omega
    have HL : Hid (∀ w1, Below w.heap.size w w1 → Calls Tryz.prog 9 #[.int .i64 E, .string b] w1 fun e w' => e = .returned (.bool (longB E b.data.toList)) ∧ Below w1.heap.size w1 w') := Lib.hid (fun w1 h1 => long_c E hE0 hE8 b h300 w1 (hT.step h1))
    have HR : Hid (∀ w1, Calls Tryz.prog 10 #[.int .i64 E, .string b] w1 fun e w' => e = .returned (.bool (longB E b.data.toList)) ∧ Below w1.heap.size w1 w') := Lib.hid (fun w1 => rlong_c E hE0 hE8 b h300 w1)
    generalize longB E b.data.toList = t at *
    clear h300 hT
    go_enter Tryz.func4, Tryz.ntmps4
    go_wp2_with fail
    refine cA.mono ?_
    rintro e w1 ⟨rfl, hb1⟩
    have cL := HL.out w1 hb1
    have HB1 := Lib.hid hb1
    clear hb1 cA
    go_wp2_with fail
    refine cL.mono ?_
    rintro e w2 ⟨rfl, hb2⟩
    have cR := HR.out w2
    have HB2 : Hid (Below w.heap.size w w2) := Lib.hid (HB1.out.trans (hb2.mono HB1.out.size))
    clear cL hb2
    go_wp2_with fail
    refine cR.mono ?_
    rintro e w3 ⟨rfl, hb3⟩
    have HB3 : Hid (Below w.heap.size w w3) := Lib.hid (HB2.out.trans (hb3.mono HB2.out.size))
    clear cR hb3
    go_wp2
    go_ret
    exact ⟨by simp, HB3.out⟩
  · have hz : ((300 : Int) < (b.size : Int)) := by omega
    clear h300 hT
    go_enter Tryz.func4, Tryz.ntmps4
    go_wp2_with fail
    refine cA.mono ?_
    rintro e w1 ⟨rfl, hb1⟩
    have cA2 := awake5_c w1
    go_wp2_with fail
    refine cA2.mono ?_
    rintro e w2 ⟨rfl, hb2⟩
    have HB : Hid (Below w.heap.size w w2) := Lib.hid (hb1.trans (hb2.mono hb1.size))
    clear hb1 hb2 cA cA2
    go_wp2
    go_ret
    exact ⟨rfl, HB.out⟩
end Go.Proofs.YtfmjhamnpgcdcaaGreatDoor
