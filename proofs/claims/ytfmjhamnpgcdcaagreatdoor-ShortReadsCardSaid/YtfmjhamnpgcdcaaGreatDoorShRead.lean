/-
  The contract of Read: the hash and the number of a short name.
-/
import Derived.Test.YtfmjhamnpgcdcaaGreatDoorShName
import Derived.Test.YtfmjhamnpgcdcaaGreatDoorShParse2
import Derived.Test.YtfmjhamnpgcdcaaGreatDoorShMath2
namespace Go.Proofs.YtfmjhamnpgcdcaaGreatDoor
open Go.RowKit Go.Sort
set_option linter.unusedVariables false

/-- The library's error variable holds an error. -/
def Errs (w : World) : Prop := ∃ te pe, w.cell? ⟨0, 0, none⟩ = some (.iface te pe)
theorem Errs.step {w w' : World} (h : Errs w) (hb : Below w.heap.size w w') : Errs w' := by
  obtain ⟨te, pe, h⟩ := h
  exact ⟨te, pe, by rw [hb.cell (p := ⟨_, 0, none⟩) (lt_cell h)]; exact h⟩
set_option maxHeartbeats 1000000 in
theorem parse_yes (s : ByteArray) (hs : s.size = 8) (v : Nat) (h : hexTo 0 s.data.toList = some v) (w : World) :
    Calls Tryz.prog 13 #[.string s, .int .i64 16, .int .i64 32] w fun e w' => e = .returned (.tuple #[.int .u64 (v : Int), .nilIface]) ∧ Below w.heap.size w w' := by
  have c := iparse_c s hs w
  rw [h, parseV_some] at c
  clear h
  go_enter Tryz.func13, Tryz.ntmps13
  go_wp2_with fail
  refine c.mono ?_
  rintro e w1 ⟨rfl, hb⟩
  have HB := Lib.hid hb
  clear c hb
  go_wp2
  go_ret2
  exact ⟨rfl, HB.out⟩
set_option maxHeartbeats 1000000 in
theorem parse_no (s : ByteArray) (hs : s.size = 8) (h : hexTo 0 s.data.toList = none) (w : World) (hE : Errs w) :
    Calls Tryz.prog 13 #[.string s, .int .i64 16, .int .i64 32] w fun e w' => (∃ N, e = .returned (.tuple #[.int .u64 0, .iface 88 (.pointer (some ⟨N, 0, none⟩))])) ∧ Below w.heap.size w w' := by
  have c := iparse_c s hs w
  rw [h, parseV_none] at c
  have HE := Lib.hid hE
  clear h hE
  go_enter Tryz.func13, Tryz.ntmps13
  go_wp2_with fail
  refine c.mono ?_
  rintro e w1 ⟨rfl, hb⟩
  have HB := Lib.hid hb
  obtain ⟨te, pe, hv⟩ := HE.out.step hb
  have cT := Tryz.strconv_toError_syntax ⟨#[80, 97, 114, 115, 101, 85, 105, 110, 116]⟩ s 16 32 _ w1 (by omega) hv (Or.inr ⟨te, pe, rfl⟩)
  clear c hb hv
  go_wp2_with fail
  refine cT.mono ?_
  rintro e w2 ⟨N, rfl, _, _, hb2⟩
  have HB2 : Hid (Below w.heap.size w w2) := Lib.hid (HB.out.trans (hb2.mono HB.out.size))
  clear cT hb2
  go_wp2
  go_ret2
  exact ⟨⟨N, rfl⟩, HB2.out⟩

set_option maxHeartbeats 4000000 in
set_option maxRecDepth 100000 in
theorem sread_c (s : ByteArray) (hs : s.size ≤ 9223372036854775807) (w : World) (hB : Base w) (hE : Errs w) :
    Calls Tryz.prog 6 #[.string s] w (ReadPost s.data.toList w) := by
  have hsl : s.data.toList.length = s.size := rfl
  by_cases hlen : s.size ≤ 11 ∨ 18 < s.size
  · have HN : Hid (∀ v n, ¬ IsName s.data.toList v n) := Lib.hid (fun v n h => by have := h.len; omega)
    unfold ReadPost
    have hcase : ((s.size : Int) ≤ 11) ∨ (¬ ((s.size : Int) ≤ 11) ∧ (18 : Int) < (s.size : Int)) := by omega
    clear hlen hB hE hsl
    rcases hcase with h1 | ⟨h1, h2⟩
    all_goals
      go_enter Tryz.func6, Tryz.ntmps6
      go_wp2
      go_ret3
      exact ⟨Or.inr ⟨HN.out, rfl⟩, Below.refl _ _⟩
  · have h1 : ¬ ((s.size : Int) ≤ 11) := by omega
    have h2 : ¬ ((18 : Int) < (s.size : Int)) := by omega
    have h10 : (10 : Int) ≤ (s.size : Int) := by omega
    have h11 : (11 : Int) ≤ (s.size : Int) := by omega
    have hA8 : (s.extract 2 10).size = 8 := by rw [ByteArray.size_extract]; omega
    have hAl : (s.extract 2 10).data.toList = (s.data.toList.drop 2).take 8 := by
      rw [ByteArray.data_extract, Array.toList_extract, List.extract_eq_take_drop]
    have hCs : (s.extract 11 s.size).size ≤ 7 := by rw [ByteArray.size_extract]; omega
    have hCl : (s.extract 11 s.size).data.toList = s.data.toList.drop 11 := by
      rw [ByteArray.data_extract, Array.toList_extract, List.extract_eq_take_drop, List.take_of_length_le (by rw [List.length_drop, hsl]; omega)]
    have HBB := Lib.hid hB
    have HEE := Lib.hid hE
    have hne : s.data.toList ≠ [] := fun e => by rw [e] at hsl; simp at hsl; omega
    unfold ReadPost
    cases hx : hexTo 0 ((s.data.toList.drop 2).take 8) with
    | none =>
      have HN : Hid (∀ v n, ¬ IsName s.data.toList v n) := Lib.hid (fun v n h => by rw [h.hex] at hx; cases hx)
      have cP := parse_no (s.extract 2 10) hA8 (by rw [hAl]; exact hx) w hE
      clear hlen hB hE hsl hx hAl hCl hne hA8
      go_enter Tryz.func6, Tryz.ntmps6
      go_wp2_with fail
      refine cP.mono ?_
      rintro e w1 ⟨⟨N, rfl⟩, hb⟩
      have HB := Lib.hid hb
      clear cP hb
      go_wp2
      go_ret3
      exact ⟨Or.inr ⟨HN.out, rfl⟩, HB.out⟩
    | some v =>
      have cP := parse_yes (s.extract 2 10) hA8 v (by rw [hAl]; exact hx) w
      have hv : v < 4294967296 := by
        have := hexTo_lt _ _ _ hx
        rw [← hAl] at this
        have h8 : (s.extract 2 10).data.toList.length = 8 := hA8
        rw [h8] at this; omega
      cases hat : Lib.atoi (s.data.toList.drop 11) with
      | none =>
        have HN : Hid (∀ v n, ¬ IsName s.data.toList v n) := Lib.hid (fun v n h => by rw [h.num] at hat; cases hat)
        have HA : Hid (∀ w1, Errs w1 → Calls Tryz.prog 14 #[.string (s.extract 11 s.size)] w1 fun e w' => (∃ N, e = .returned (.tuple #[.int .i64 0, .iface 88 (.pointer (some ⟨N, 0, none⟩))])) ∧ Below w1.heap.size w1 w') := Lib.hid (fun w1 ⟨te, pe, hv1⟩ =>
          (Tryz.strconv_Atoi_err (s.extract 11 s.size) (by omega) (by rw [hCl]; exact hat) _ w1 hv1 (Or.inr ⟨te, pe, rfl⟩)).mono fun e w' ⟨N, h1, _, _, h4⟩ => ⟨⟨N, h1⟩, h4⟩)
        clear hlen hB hE hsl hx hAl hCl hne hA8 hat
        go_enter Tryz.func6, Tryz.ntmps6
        go_wp2_with fail
        refine cP.mono ?_
        rintro e w1 ⟨rfl, hb⟩
        have HB := Lib.hid hb
        have cA := HA.out w1 (HEE.out.step hb)
        clear cP hb
        go_wp2_with fail
        refine cA.mono ?_
        rintro e w2 ⟨⟨N, rfl⟩, hb2⟩
        have HB2 : Hid (Below w.heap.size w w2) := Lib.hid (HB.out.trans (hb2.mono HB.out.size))
        clear cA hb2
        go_wp2
        go_ret3
        exact ⟨Or.inr ⟨HN.out, rfl⟩, HB2.out⟩
      | some n =>
        have hnb := Lib.atoi_bound hat (by rw [← hCl]; have h7 : (s.extract 11 s.size).data.toList.length = (s.extract 11 s.size).size := rfl; omega)
        have HA : Hid (∀ w1, Calls Tryz.prog 14 #[.string (s.extract 11 s.size)] w1 fun e w' => e = .returned (.tuple #[.int .i64 n, .nilIface]) ∧ Below w1.heap.size w1 w') := Lib.hid (fun w1 =>
          (Tryz.strconv_Atoi (s.extract 11 s.size) n (by omega) (by rw [hCl]; exact hat) w1).mono fun e w' ⟨h1, t, h2⟩ => ⟨h1, by rw [h2]; exact Lib.bytesWorld_below w1 5 t⟩)
        have HM : Hid (∀ w1, Base w1 → Calls Tryz.prog 15 #[.int .u32 (v : Int), .int .i64 n] w1 fun e w' => e = .returned (.string ⟨(nameL v n).toArray⟩) ∧ Below w1.heap.size w1 w') := Lib.hid (fun w1 h => name_c v hv n (by omega) (by omega) w1 h)
        have hv0 : (v : Int) < 4294967296 := by omega
        have HV : Hid ((⟨(nameL v n).toArray⟩ : ByteArray) = s → IsName s.data.toList v n) := Lib.hid (fun e => name_is hv hne (by rw [← e]))
        have HN : Hid ((⟨(nameL v n).toArray⟩ : ByteArray) ≠ s → ∀ k m, ¬ IsName s.data.toList k m) := Lib.hid (fun e k m h => by
          have h3 := h.hex
          rw [hx] at h3
          have h4 := h.num
          rw [hat] at h4
          obtain rfl := Option.some.inj h3
          obtain rfl := Option.some.inj h4
          exact e (by
            apply ByteArray.ext
            apply Array.toList_inj.1
            rw [h.2.2.2]))
        generalize (⟨(nameL v n).toArray⟩ : ByteArray) = R at *
        clear hlen hB hE hsl hx hAl hCl hne hA8 hat hnb
        by_cases hR : R = s
        · subst hR
          have HV2 := Lib.hid (HV.out rfl)
          clear HV HN
          go_enter Tryz.func6, Tryz.ntmps6
          go_wp2_with fail
          refine cP.mono ?_
          rintro e w1 ⟨rfl, hb⟩
          have HB := Lib.hid hb
          have HB1 := Lib.hid (HBB.out.step hb)
          have cA := HA.out w1
          clear cP hb
          go_wp2_with fail
          refine cA.mono ?_
          rintro e w2 ⟨rfl, hb2⟩
          have HB2 : Hid (Below w.heap.size w w2) := Lib.hid (HB.out.trans (hb2.mono HB.out.size))
          have cM := HM.out w2 (HB1.out.step hb2)
          clear cA hb2
          go_wp2_with fail
          refine cM.mono ?_
          rintro e w3 ⟨rfl, hb3⟩
          have HB3 : Hid (Below w.heap.size w w3) := Lib.hid (HB2.out.trans (hb3.mono HB2.out.size))
          clear cM hb3
          go_wp2
          go_ret3
          exact ⟨Or.inl ⟨v, n, HV2.out, rfl⟩, HB3.out⟩
        · have HN2 := Lib.hid (HN.out hR)
          have hRb : (R.toList == s.toList) = false := by
            rw [beq_eq_false_iff_ne, ByteArray.toList_eq, ByteArray.toList_eq]
            intro e
            exact hR (ByteArray.ext (Array.toList_inj.1 e))
          clear hR
          clear HV HN
          go_enter Tryz.func6, Tryz.ntmps6
          go_wp2_with fail
          refine cP.mono ?_
          rintro e w1 ⟨rfl, hb⟩
          have HB := Lib.hid hb
          have HB1 := Lib.hid (HBB.out.step hb)
          have cA := HA.out w1
          clear cP hb
          go_wp2_with fail
          refine cA.mono ?_
          rintro e w2 ⟨rfl, hb2⟩
          have HB2 : Hid (Below w.heap.size w w2) := Lib.hid (HB.out.trans (hb2.mono HB.out.size))
          have cM := HM.out w2 (HB1.out.step hb2)
          clear cA hb2
          go_wp2_with fail
          refine cM.mono ?_
          rintro e w3 ⟨rfl, hb3⟩
          have HB3 : Hid (Below w.heap.size w w3) := Lib.hid (HB2.out.trans (hb3.mono HB2.out.size))
          clear cM hb3
          go_wp2
          go_ret3
          exact ⟨Or.inr ⟨HN2.out, rfl⟩, HB3.out⟩
end Go.Proofs.YtfmjhamnpgcdcaaGreatDoor
