/-
  The law ShortReads of stage 5, walked: it answers true; what lay in memory stays.
-/
import Derived.Test.YtfmjhamnpgcdcaaGreatDoorZEsRestAny
import Derived.Test.YtfmjhamnpgcdcaaGreatDoorShRead
import Derived.Test.YtfmjhamnpgcdcaaGreatDoorShReadR
import Derived.Test.YtfmjhamnpgcdcaaGreatDoorShAwake
namespace Go.Proofs.YtfmjhamnpgcdcaaGreatDoor
open Go.RowKit Go.Sort
set_option linter.unusedVariables false

theorem dgB_low : ∀ u : Nat, u < 16 → (dgB u).toNat < 128 := by decide +kernel
theorem padN_low : ∀ (n u : Nat), ∀ c ∈ padN n u, c.toNat < 128 := by
  intro n
  induction n with
  | zero => intro u c hc; cases hc
  | succ n ih =>
    intro u c hc
    rw [padN, List.mem_append] at hc
    rcases hc with hc | hc
    · exact ih _ c hc
    · rw [List.mem_singleton] at hc; subst hc; exact dgB_low _ (Nat.mod_lt _ (by decide))
theorem dec_low : ∀ (n u : Nat), u < n → ∀ c ∈ Lib.decDigits u, c.toNat < 128 := by
  intro n
  have hk : ∀ m : Nat, m < 10 → (UInt8.ofNat (48 + m)).toNat < 128 := by decide +kernel
  induction n with
  | zero => intro u h; omega
  | succ n ih =>
    intro u hu c hc
    by_cases hs : u < 10
    · rw [dec_small hs, List.mem_singleton] at hc; subst hc; exact hk u hs
    · rw [dec_big hs, List.mem_append] at hc
      rcases hc with hc | hc
      · exact ih (u / 10) (by omega) c hc
      · rw [List.mem_singleton] at hc; subst hc; exact hk _ (Nat.mod_lt _ (by decide))
theorem name_low {l : List UInt8} {v : Nat} {n : Int} (h : IsName l v n) : ∀ c ∈ l, c.toNat < 128 := by
  intro c hc
  rw [h.2.2.2, nameL_ok h.2.1 h.2.2.1] at hc
  simp only [List.mem_append, List.mem_cons, List.not_mem_nil, or_false] at hc
  rcases hc with (((rfl | rfl) | hc) | rfl) | hc
  · decide
  · decide
  · exact padN_low 8 v c hc
  · decide
  · exact dec_low (n.toNat + 1) n.toNat (by omega) c hc
theorem name_head {l : List UInt8} {v : Nat} {n : Int} (h : IsName l v n) : ∃ r, l = 37 :: 126 :: r := by
  rw [h.2.2.2, nameL_ok h.2.1 h.2.2.1]
  exact ⟨_, by simp only [List.append_assoc, List.cons_append, List.nil_append]; rfl⟩
theorem okD_tilde (r : List Int) : okD (37 :: 126 :: r) = false := by
  cases r with
  | nil => rw [okD.eq_3]; simp
  | cons b t =>
    have h : hexC 126 = false := by decide +kernel
    rw [okD.eq_4, if_pos rfl, h]
    simp
theorem name_bad {l : List UInt8} {v : Nat} {n : Int} (h : IsName l v n) (enc : Int) (rs : List Int) (hr : runesL l = some rs) : Bad enc rs := by
  left
  have h1 := runes_join (chars l)
  have hj : joinL (chars l) = l := join_bytes l (fun x hx => name_low h x hx)
  rw [hj, hr] at h1
  obtain ⟨r, hl⟩ := name_head h
  have h2 := Option.some.inj h1
  rw [hl] at h2
  have h3 : chars (37 :: 126 :: r) = 37 :: 126 :: chars r := rfl
  have i1 : isR 37 = true := by decide
  have i2 : isR 126 = true := by decide
  rw [h3, List.filter_cons, if_pos i1, List.filter_cons, if_pos i2] at h2
  rw [h2]
  exact okD_tilde _

set_option maxHeartbeats 4000000 in
set_option maxRecDepth 100000 in
theorem reads5_walk (name : ByteArray) (hname : name.size ≤ 9223372036854775807) (x : Int) (hx0 : 0 ≤ x) (hx1 : x ≤ 255) (w : World) (hT : Tabs w) (hB : Base w) (hE : Errs w) :
    Calls Tryz.prog 3 #[.string name, .int .u8 x] w fun e w' => e = .returned (.bool true) ∧ Below w.heap.size w w' := by
  have cA := awake5_c w
  by_cases h60 : name.size ≤ 60
  · have hz : ¬ ((60 : Int) < (name.size : Int)) := by omega
    obtain ⟨E, hEE⟩ : ∃ E, x % 9 = E := ⟨_, rfl⟩
    have hE0 : 0 ≤ E := by omega
    have hE8 : E ≤ 8 := by omega
    have hwE : IntKind.i64.wrap E = E := by rw [IntKind.wrap_i64]; omega
    have HTT := Lib.hid hT
    have HBB := Lib.hid hB
    have HERR := Lib.hid hE
    have HD : Hid (∀ w1, Base w1 → Errs w1 → Calls Tryz.prog 6 #[.string name] w1 (ReadPost name.data.toList w1)) := Lib.hid (fun w1 hb he => sread_c name hname w1 hb he)
    have HR : Hid (∀ w1, Calls Tryz.prog 7 #[.string name] w1 (ReadPost name.data.toList w1)) := Lib.hid (fun w1 => rread_c name hname w1)
    have HS : Hid (∀ w1, Tabs w1 → Calls Tryz.prog 8 #[.int .i64 E, .string name] w1 (RestPost (∃ v n, IsName name.data.toList v n) w1)) := Lib.hid (fun w1 ht => restore_any E hE0 hE8 name (by omega) _ (fun ⟨v, n, h⟩ rs hr => name_bad h E rs hr) w1 ht)
    generalize name.data.toList = l at *
    clear h60 hT hB hE
    go_enter Tryz.func3, Tryz.ntmps3
    go_wp2_with fail
    refine cA.mono ?_
    rintro e w1 ⟨rfl, hb1⟩
    have HB1 := Lib.hid hb1
    have cD := HD.out w1 (HBB.out.step hb1) (HERR.out.step hb1)
    unfold ReadPost at cD
    clear hb1 cA
    go_wp2_with fail
    refine cD.mono ?_
    rintro e w2 ⟨hc2, hb2⟩
    have HB2 : Hid (Below w.heap.size w w2) := Lib.hid (HB1.out.trans (hb2.mono HB1.out.size))
    have cR := HR.out w2
    unfold ReadPost at cR
    clear hb2 cD
    rcases hc2 with ⟨v, n, hv, rfl⟩ | ⟨hno, rfl⟩
    · have HV := Lib.hid hv
      clear hv
      go_wp2_with fail
      refine cR.mono ?_
      rintro e w3 ⟨hc3, hb3⟩
      have HB3 : Hid (Below w.heap.size w w3) := Lib.hid (HB2.out.trans (hb3.mono HB2.out.size))
      have he : e = .returned (.tuple #[.int .u32 (v : Int), .int .i64 n, .bool true]) := by
        rcases hc3 with ⟨u, k, hu, he⟩ | ⟨hno, _⟩
        · obtain ⟨rfl, rfl⟩ := hu.one HV.out
          exact he
        · exact absurd HV.out (hno v n)
      subst he
      have cS := HS.out w3 (HTT.out.step HB3.out)
      unfold RestPost at cS
      clear hc3 hb3 cR
      go_wp2_with fail
      refine cS.mono ?_
      rintro e w4 ⟨s, r, rfl, hr3, hb4⟩
      have HB4 : Hid (Below w.heap.size w w4) := Lib.hid (HB3.out.trans (hb4.mono HB3.out.size))
      obtain rfl := hr3 ⟨v, n, HV.out⟩
      clear hr3 hb4 cS
      go_wp2
      go_ret
      exact ⟨by first | rfl | simp, HB4.out⟩
    · have HV := Lib.hid hno
      clear hno
      go_wp2_with fail
      refine cR.mono ?_
      rintro e w3 ⟨hc3, hb3⟩
      have HB3 : Hid (Below w.heap.size w w3) := Lib.hid (HB2.out.trans (hb3.mono HB2.out.size))
      have he : e = .returned (.tuple #[.int .u32 0, .int .i64 0, .bool false]) := by
        rcases hc3 with ⟨u, k, hu, he⟩ | ⟨_, he⟩
        · exact absurd hu (HV.out u k)
        · exact he
      subst he
      have cS := HS.out w3 (HTT.out.step HB3.out)
      unfold RestPost at cS
      clear hc3 hb3 cR
      go_wp2_with fail
      refine cS.mono ?_
      rintro e w4 ⟨s, r, rfl, _, hb4⟩
      have HB4 : Hid (Below w.heap.size w w4) := Lib.hid (HB3.out.trans (hb4.mono HB3.out.size))
      clear hb4 cS
      go_wp2
      go_ret
      exact ⟨by first | rfl | simp, HB4.out⟩
  · have hz : ((60 : Int) < (name.size : Int)) := by omega
    clear h60 hT hB hE
    go_enter Tryz.func3, Tryz.ntmps3
    go_wp2_with fail
    refine cA.mono ?_
    rintro e w1 ⟨rfl, hb1⟩
    have cA2 := awake5_c w1
    go_wp2_with fail
    refine cA2.mono ?_
    rintro e w2 ⟨rfl, hb2⟩
    have HB : Hid (Below w.heap.size w w2) := Lib.hid (hb1.trans (hb2.mono hb1.size))
    clear hb1 hb2 cA cA2
    go_wp2
    go_ret
    exact ⟨rfl, HB.out⟩
end Go.Proofs.YtfmjhamnpgcdcaaGreatDoor
