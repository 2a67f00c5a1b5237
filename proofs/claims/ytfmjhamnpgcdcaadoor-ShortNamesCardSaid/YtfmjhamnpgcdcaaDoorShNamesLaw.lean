/-
  The law ShortNames of stage 5, walked: it answers true; what lay in memory stays.
-/
import Derived.Test.YtfmjhamnpgcdcaaDoorShRead
import Derived.Test.YtfmjhamnpgcdcaaDoorShRef
import Derived.Test.YtfmjhamnpgcdcaaDoorShAwake
namespace Go.Proofs.YtfmjhamnpgcdcaaDoor
open Go.RowKit Go.Sort
set_option linter.unusedVariables false

theorem names_none (v : Nat) (n : Int) : ¬ IsName [] v n := fun h => by have := h.len; simp at this
set_option maxHeartbeats 4000000 in
set_option maxRecDepth 100000 in
theorem names5_walk (raw : ByteArray) (hraw : raw.size ≤ 9223372036854775807) (h : Nat) (hh : h < 4294967296) (n : Int) (hn0 : -9223372036854775808 ≤ n) (hn1 : n ≤ 9223372036854775807) (w : World) (hB : Base w) (hE : Errs w) :
    Calls Tryd.prog 6 #[.string raw, .int .u32 h, .int .i64 n] w fun e w' => e = .returned (.bool true) ∧ Below w.heap.size w w' := by
  have cA := awake5_c w
  by_cases h300 : raw.size ≤ 300
  · have hz : ¬ ((300 : Int) < (raw.size : Int)) := by omega
    have HBB := Lib.hid hB
    have HEE := Lib.hid hE
    have HN : Hid (∀ w1, Base w1 → Calls Tryd.prog 17 #[.int .u32 h, .int .i64 n] w1 fun e w' => e = .returned (.string ⟨(nameL h n).toArray⟩) ∧ Below w1.heap.size w1 w') := Lib.hid (fun w1 hb => name_c h hh n hn0 hn1 w1 hb)
    have HR : Hid (∀ w1, Calls Tryd.prog 21 #[.int .u32 h, .int .i64 n] w1 fun e w' => e = .returned (.string ⟨(nameL h n).toArray⟩) ∧ Below w1.heap.size w1 w') := Lib.hid (fun w1 => rname_c h hh n w1)
    have cH := fun w => hash_c raw hraw w
    have cRH := fun w => rhash_c raw hraw w
    have HD : Hid (∀ w1, Base w1 → Errs w1 → Calls Tryd.prog 22 #[.string ⟨(nameL h n).toArray⟩] w1 (ReadPost (nameL h n) w1)) := Lib.hid (fun w1 hb he => read_c ⟨(nameL h n).toArray⟩ (by show (nameL h n).toArray.size ≤ _; have := nameL_le h n; simp; omega) w1 hb he)
    by_cases hok : 1 ≤ n ∧ n ≤ 1000000
    · have HO : Hid (IsName (nameL h n) h n) := Lib.hid ⟨hh, hok.1, hok.2, rfl⟩
      have hne : (⟨(nameL h n).toArray⟩ : ByteArray).toList.isEmpty = false := by
        rw [ByteArray.toList_eq]
        have := (nameL_size (h := h) hok.1 hok.2).1
        cases hl : nameL h n with
        | nil => rw [hl] at this; simp at this
        | cons a b => rfl
      generalize nameL h n = L at *
      generalize (⟨L.toArray⟩ : ByteArray) = R at *
      generalize fnvL raw.data.toList = F at *
      clear h300 hB hE hok hn0 hn1 hh
      go_enter Tryd.func6, Tryd.ntmps6
      go_wp2_with fail
      refine cA.mono ?_
      rintro e w1 ⟨rfl, hb1⟩
      have HB1 := Lib.hid hb1
      have HW1 := Lib.hid (HBB.out.step hb1)
      have HE1 := Lib.hid (HEE.out.step hb1)
      have cN := HN.out w1 HW1.out
      clear hb1 cA
      go_wp2_with fail
      refine cN.mono ?_
      rintro e w2 ⟨rfl, hb2⟩
      have HB2 : Hid (Below w.heap.size w w2) := Lib.hid (HB1.out.trans (hb2.mono HB1.out.size))
      have HW2 := Lib.hid (HW1.out.step hb2)
      have HE2 := Lib.hid (HE1.out.step hb2)
      clear hb2 cN
      go_wp2_with fail
      refine (cH _).mono ?_
      rintro e w3 ⟨rfl, rfl⟩
      go_wp2_with fail
      refine (cRH _).mono ?_
      rintro e w3 ⟨rfl, rfl⟩
      have cR := HR.out w2
      clear cH cRH
      go_wp2_with fail
      refine cR.mono ?_
      rintro e w3 ⟨rfl, hb3⟩
      have HB3 : Hid (Below w.heap.size w w3) := Lib.hid (HB2.out.trans (hb3.mono HB2.out.size))
      have cD := HD.out w3 (HW2.out.step hb3) (HE2.out.step hb3)
      unfold ReadPost at cD
      clear cR hb3
      go_wp2_with fail
      refine cD.mono ?_
      rintro e w4 ⟨hcs, hb4⟩
      have HB4 : Hid (Below w.heap.size w w4) := Lib.hid (HB3.out.trans (hb4.mono HB3.out.size))
      have he : e = .returned (.tuple #[.int .u32 (h : Int), .int .i64 n, .bool true]) := by
        rcases hcs with ⟨v, k, hv, he⟩ | ⟨hno, _⟩
        · obtain ⟨rfl, rfl⟩ := hv.one HO.out
          exact he
        · exact absurd HO.out (hno h n)
      subst he
      clear hcs hb4 cD
      go_wp2
      go_ret
      exact ⟨by simp, HB4.out⟩
    · have hL : nameL h n = [] := nameL_no (by omega)
      rw [hL] at HN HR HD
      generalize fnvL raw.data.toList = F at *
      clear h300 hB hE hok hn0 hn1 hh hL
      go_enter Tryd.func6, Tryd.ntmps6
      go_wp2_with fail
      refine cA.mono ?_
      rintro e w1 ⟨rfl, hb1⟩
      have HB1 := Lib.hid hb1
      have HW1 := Lib.hid (HBB.out.step hb1)
      have HE1 := Lib.hid (HEE.out.step hb1)
      have cN := HN.out w1 HW1.out
      clear hb1 cA
      go_wp2_with fail
      refine cN.mono ?_
      rintro e w2 ⟨rfl, hb2⟩
      have HB2 : Hid (Below w.heap.size w w2) := Lib.hid (HB1.out.trans (hb2.mono HB1.out.size))
      have HW2 := Lib.hid (HW1.out.step hb2)
      have HE2 := Lib.hid (HE1.out.step hb2)
      clear hb2 cN
      go_wp2_with fail
      refine (cH _).mono ?_
      rintro e w3 ⟨rfl, rfl⟩
      go_wp2_with fail
      refine (cRH _).mono ?_
      rintro e w3 ⟨rfl, rfl⟩
      have cR := HR.out w2
      clear cH cRH
      go_wp2_with fail
      refine cR.mono ?_
      rintro e w3 ⟨rfl, hb3⟩
      have HB3 : Hid (Below w.heap.size w w3) := Lib.hid (HB2.out.trans (hb3.mono HB2.out.size))
      have cD := HD.out w3 (HW2.out.step hb3) (HE2.out.step hb3)
      unfold ReadPost at cD
      clear cR hb3
      go_wp2_with fail
      refine cD.mono ?_
      rintro e w4 ⟨hcs, hb4⟩
      have HB4 : Hid (Below w.heap.size w w4) := Lib.hid (HB3.out.trans (hb4.mono HB3.out.size))
      have he : e = .returned (.tuple #[.int .u32 0, .int .i64 0, .bool false]) := by
        rcases hcs with ⟨v, k, hv, he⟩ | ⟨_, he⟩
        · exact absurd hv (names_none v k)
        · exact he
      subst he
      clear hcs hb4 cD
      go_wp2
      go_ret
      exact ⟨by first | rfl | simp, HB4.out⟩
  · have hz : ((300 : Int) < (raw.size : Int)) := by omega
    clear h300 hB hE
    go_enter Tryd.func6, Tryd.ntmps6
    go_wp2_with fail
    refine cA.mono ?_
    rintro e w1 ⟨rfl, hb1⟩
    have cA2 := awake5_c w1
    go_wp2_with fail
    refine cA2.mono ?_
    rintro e w2 ⟨rfl, hb2⟩
    have HB : Hid (Below w.heap.size w w2) := Lib.hid (hb1.trans (hb2.mono hb1.size))
    clear hb1 hb2 cA cA2
    go_wp2
    go_ret
    exact ⟨rfl, HB.out⟩
end Go.Proofs.YtfmjhamnpgcdcaaDoor
