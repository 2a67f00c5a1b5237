/-
  The library's ParseUint at base 16 and 32 bits, of eight bytes: the walk.
-/
import Derived.Test.YtfmjhamnpgcdcaaGreatDoorShParse
namespace Go.Proofs.YtfmjhamnpgcdcaaGreatDoor
open Go.RowKit Go.Sort
set_option linter.unusedVariables false

set_option maxHeartbeats 4000000 in
set_option maxRecDepth 100000 in
theorem iparse_c (s : ByteArray) (hs : s.size = 8) (w : World) :
    Calls Tryz.prog 23 #[.string s, .int .i64 16, .int .i64 32] w fun e w' => e = parseV (hexTo 0 s.data.toList) ∧ Below w.heap.size w w' := by
  obtain ⟨o, ho⟩ : ∃ o, hexTo 0 s.data.toList = o := ⟨_, rfl⟩
  have HO : Hid (hexTo 0 (s.data.toList.drop 0) = o) := Lib.hid ho
  rw [ho]
  clear ho
  have kc := Lib.run_convert_string_bytes (P := Tryz.prog) w 9 58 5 s Tryz.underlying9 Tryz.underlying58 Tryz.underlying5
  have HC : Hid (∀ j, j < 8 → (Lib.bytesWorld w 5 s).cell? ⟨w.heap.size, j, none⟩ = some (.int .u8 ((s.data.toList.getD j 0).toNat : Int))) := Lib.hid (fun j hj => Lib.bytesWorld_cell w 5 s j (by omega))
  have HB : Hid (Below w.heap.size w (Lib.bytesWorld w 5 s)) := Lib.hid (Lib.bytesWorld_below w 5 s)
  rw [hs] at kc
  have hne : s.toList.isEmpty = false := by
    rw [ByteArray.toList_eq]
    cases h : s.data.toList with
    | nil =>
      have : s.data.toList.length = 8 := hs
      rw [h] at this; simp at this
    | cons a b => rfl
  have hle : s.data.toList.length = 8 := hs
  have HL := Lib.hid hle
  generalize grownCap w 8 0 5 = cap at *
  generalize Lib.bytesWorld w 5 s = w1 at *
  generalize s.data.toList = l at *
  have HLow : Hid (∀ c : Nat, c < 256 → Calls Tryz.prog 53 #[.int .u8 (c : Int)] w1 fun e w' => e = .returned (.int .u8 ((c ||| 32 : Nat) : Int)) ∧ w1 = w') := Lib.hid (fun c hc => (Tryz.internal_strconv_lower (c : Int) w1).mono fun e w' ⟨h1, h2⟩ => ⟨by rw [h1, low_c c hc], h2.symm⟩)
  clear hle
  go_enter Tryz.func23, Tryz.ntmps23
  go_wp2
  go_loop [12, 13, 101] (fun uv nv kv => ∃ (k : Nat) (A : Int), (k ≤ 8 ∧ 0 ≤ A ∧ A < pw k) ∧ uv = .bool false ∧ nv = .int .u64 A ∧ kv = .int .i64 k ∧ hexTo A.toNat (l.drop k) = o) (fun _ _ kv => 8 - (intOf kv).toNat)
  case atStart => exact ⟨0, 0, ⟨by omega, by omega, by decide⟩, rfl, rfl, rfl, HO.out⟩
  case round =>
    obtain ⟨k, A, ⟨hk8, hA0, hA1⟩, rfl, rfl, rfl, hx⟩ := hrel
    have HX := Lib.hid hx
    have HA1 := Lib.hid hA1
    clear hx hA1
    by_cases hk : k < 8
    · have hkz : (k : Int) < 8 := by omega
      have hA28 : A < 268435456 := by have := HA1.out; have := pw_le7 (show k ≤ 7 by omega); omega
      have c1 := HC.out k hk
      obtain ⟨c, hc⟩ : ∃ c, l.getD k 0 = c := ⟨_, rfl⟩
      rw [hc] at c1
      have HCC := Lib.hid hc
      have hkl : Hid (k < l.length) := Lib.hid (by rw [HL.out]; exact hk)
      obtain ⟨x, hx⟩ : ∃ x, c.toNat = x := ⟨_, rfl⟩
      have hx8 : x < 256 := by rw [← hx]; exact c.toNat_lt
      have HXC := Lib.hid hx
      rw [hx] at c1
      have cl := HLow.out x hx8
      clear hc hx
      by_cases hA : 48 ≤ x ∧ x ≤ 57
      · obtain ⟨a1, a2⟩ := hA
        have b1 : (48 : Int) ≤ (x : Int) := by omega
        have b2 : (x : Int) ≤ 57 := by omega
        have HDV : Hid (dgV c = x - 48) := Lib.hid (by unfold dgV; rw [HXC.out, if_pos ⟨a1, a2⟩])
        have HPW : Hid (A * 16 + ((x : Int) - 48) < pw (k + 1)) := Lib.hid (by rw [pw_succ]; have := HA1.out; omega)
        have HNX : Hid (hexTo (A * 16 + ((x : Int) - 48)).toNat (l.drop (k + 1)) = o) := Lib.hid (by
          have h1 := hexTo_step (acc := A.toNat) hkl.out HCC.out (by rw [HDV.out]; omega)
          rw [HX.out, HDV.out] at h1
          rw [h1]
          congr 1
          omega)
        clear a1 a2 cl
        go_wp2
        go_round
        case rel => exact ⟨k + 1, A * 16 + ((x : Int) - 48), ⟨by omega, by omega, HPW.out⟩, rfl, by first | rfl | go_num, by first | rfl | go_num, HNX.out⟩
        case measure => simp [intOf]; omega
      · have hA2 : ((48 : Int) ≤ (x : Int) ∧ ¬ ((x : Int) ≤ 57)) ∨ ¬ ((48 : Int) ≤ (x : Int)) := by omega
        by_cases h95 : x = 95
        · subst h95
          have HN : Hid (o = none) := Lib.hid (by
            have hdv : dgV c = 99 := by unfold dgV; rw [HXC.out]; decide
            rw [← HX.out]
            exact hexTo_bad hkl.out HCC.out (by rw [hdv]; decide))
          have cl9 : Calls Tryz.prog 53 #[.int .u8 95] w1 fun e w' => e = .returned (.int .u8 127) ∧ w1 = w' := cl
          have c9 : w1.cell? ⟨w.heap.size, k, none⟩ = some (.int .u8 95) := c1
          clear cl c1 hA hA2 HXC hx8
          go_wp2_with (go_at_call 53; refine cl9.mono ?_; rintro e w' ⟨rfl, rfl⟩)
          go_ret2
          exact ⟨by rw [HN.out]; rfl, HB.out⟩
        · have n95 : ((x : Int) == 95) = false := by rw [beq_eq_false_iff_ne]; omega
          clear h95
          obtain ⟨y, hy⟩ : ∃ y, x ||| 32 = y := ⟨_, rfl⟩
          rw [hy] at cl
          have hy8 : y < 256 := by rw [← hy]; exact Nat.or_lt_two_pow (n := 8) hx8 (by decide)
          have HDV : Hid (dgV c = if 97 ≤ y ∧ y ≤ 122 then y - 87 else 99) := Lib.hid (by unfold dgV; rw [HXC.out, if_neg hA, hy])
          clear hA hy
          by_cases hB : 97 ≤ y ∧ y ≤ 122
          · obtain ⟨a1, a2⟩ := hB
            have b1 : (97 : Int) ≤ (y : Int) := by omega
            have b2 : (y : Int) ≤ 122 := by omega
            by_cases h16 : y < 103
            · have b3 : ¬ ((16 : Int) ≤ (y : Int) - 97 + 10) := by omega
              have HPW : Hid (A * 16 + ((y : Int) - 97 + 10) < pw (k + 1)) := Lib.hid (by rw [pw_succ]; have := HA1.out; omega)
              have HNX : Hid (hexTo (A * 16 + ((y : Int) - 97 + 10)).toNat (l.drop (k + 1)) = o) := Lib.hid (by
                have hdv := HDV.out
                rw [if_pos ⟨a1, a2⟩] at hdv
                have h1 := hexTo_step (acc := A.toNat) hkl.out HCC.out (by rw [hdv]; omega)
                rw [HX.out, hdv] at h1
                rw [h1]
                congr 1
                omega)
              have b4 : (y : Int) < 103 := by omega
              clear a1 a2 h16
              rcases hA2 with ⟨e1, e2⟩ | e1
              all_goals
                go_wp2_with (go_at_call 53; refine cl.mono ?_; rintro e w' ⟨rfl, rfl⟩)
                go_round
                case rel => exact ⟨k + 1, A * 16 + ((y : Int) - 97 + 10), ⟨by omega, by omega, HPW.out⟩, rfl, by first | rfl | go_num, by first | rfl | go_num, HNX.out⟩
                case measure => simp [intOf]; omega
            · have b3 : (16 : Int) ≤ (y : Int) - 97 + 10 := by omega
              have HN : Hid (o = none) := Lib.hid (by
                have hdv := HDV.out
                rw [if_pos ⟨a1, a2⟩] at hdv
                rw [← HX.out]
                exact hexTo_bad hkl.out HCC.out (by rw [hdv]; omega))
              clear a1 a2 h16
              rcases hA2 with ⟨e1, e2⟩ | e1
              all_goals
                go_wp2_with (go_at_call 53; refine cl.mono ?_; rintro e w' ⟨rfl, rfl⟩)
                go_ret2
                exact ⟨by rw [HN.out]; rfl, HB.out⟩
          · have hB2 : ((97 : Int) ≤ (y : Int) ∧ ¬ ((y : Int) ≤ 122)) ∨ ¬ ((97 : Int) ≤ (y : Int)) := by omega
            have HN : Hid (o = none) := Lib.hid (by
              have hdv := HDV.out
              rw [if_neg hB] at hdv
              rw [← HX.out]
              exact hexTo_bad hkl.out HCC.out (by rw [hdv]; omega))
            clear hB
            rcases hA2 with ⟨e1, e2⟩ | e1
            all_goals
              rcases hB2 with ⟨e3, e4⟩ | e3
              all_goals
                go_wp2_with (go_at_call 53; refine cl.mono ?_; rintro e w' ⟨rfl, rfl⟩)
                go_ret2
                exact ⟨by rw [HN.out]; rfl, HB.out⟩
    · have hkz : ¬ ((k : Int) < 8) := by omega
      have HN : Hid (o = some A.toNat) := Lib.hid (by
        rw [← HX.out, List.drop_of_length_le (by rw [HL.out]; omega)]; rfl)
      have HAA : Hid (((A.toNat : Nat) : Int) = A) := Lib.hid (by omega)
      go_wp2
      go_ret2
      exact ⟨by rw [HN.out, parseV_some, HAA.out]; rfl, HB.out⟩
end Go.Proofs.YtfmjhamnpgcdcaaGreatDoor
