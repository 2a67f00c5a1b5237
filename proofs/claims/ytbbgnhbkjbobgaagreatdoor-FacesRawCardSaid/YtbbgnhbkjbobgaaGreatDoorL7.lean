/-
  The contract of the second reference's Encode in Kana; and in all encodings.
-/
import Derived.Test.YtbbgnhbkjbobgaaGreatDoorK5
namespace Go.Proofs.YtbbgnhbkjbobgaaGreatDoor
open Go.RowKit
set_option linter.unusedVariables false

theorem none_more {r : Int} {a : Nat} (h : ∀ c : Nat, 130 ≤ c → c < a → twoAt c r = none) (h' : twoAt a r = none) : ∀ c : Nat, 130 ≤ c → c < a + 1 → twoAt c r = none := by
  intro c h1 h2
  by_cases e : c = a
  · subst e; exact h'
  · exact h c h1 (by omega)

set_option maxHeartbeats 4000000 in
theorem enc_kana (r : Int) (hr : isR r = true) (w : World) :
    Calls Tryz.prog 109 #[.int .i64 6, .int .i64 r] w (EncPost (encI 6 r) w) := by
  have hi := isR_is hr
  have hlo : -2147483648 ≤ r := by omega
  have hhi : r ≤ 2147483647 := by omega
  have hw1 : wrap32 r = r := by unfold wrap32; omega
  have hI := refIs_c r
  have HX := Lib.hid (show encI 6 r = match oneAt 6 r with | some b => some [(b : Int)] | none => twosAt r by
    unfold encI
    rw [if_neg (by rw [hr]; decide), if_neg (by omega), if_pos rfl]
    cases oneAt 6 r <;> rfl)
  rw [hr] at hI
  clear hr hi
  have kc := conv1
  have kd := conv2
  go_enter Tryz.func109, Tryz.ntmps109
  go_wp2_with fail
  refine (hI _).mono ?_
  rintro e w' ⟨rfl, rfl⟩
  go_wp2
  go_loopw [6] (fun bv wr => RelB 6 r w bv wr) (fun bv _ => 256 - (intOf bv).toNat)
  case atStart => exact ⟨0, by omega, rfl, fun j hj => by omega, Below.refl _ _⟩
  case round =>
    obtain ⟨b, hb, rfl, hno, hbel⟩ := hrel
    have HNO := Lib.hid hno
    clear hno
    by_cases hlt : b < 256
    · have hbz : (b : Int) < 256 := by omega
      have cO := one_c 6 b (by omega) (by omega) (by omega)
      by_cases he : oneI 6 b = r
      · have HS := Lib.hid (show encI 6 r = some [(b : Int)] by rw [HX.out, oneAt_some hlt he HNO.out])
        rw [he] at cO
        clear he
        go_wp2_with fail
        refine (cO _).mono ?_
        rintro e w1 ⟨rfl, hb1⟩
        go_wp2
        go_ret2
        exact ⟨by rw [HS.out]; rfl, (below_step hbel hb1).alloc (by have h1 := hbel.size; have h2 := hb1.size; omega) _⟩
      · have HM := Lib.hid (ne_more (f := fun j : Nat => oneI 6 j) HNO.out he)
        obtain ⟨x, hx⟩ : ∃ x, oneI 6 b = x := ⟨_, rfl⟩
        rw [hx] at cO he
        have he' : (x == r) = false := by rw [beq_eq_false_iff_ne]; exact he
        clear he hx
        go_wp2_with fail
        refine (cO _).mono ?_
        rintro e w1 ⟨rfl, hb1⟩
        go_wp2
        go_roundw
        case rel => exact ⟨b + 1, by omega, by go_num, HM.out, below_step hbel hb1⟩
        case measure => simp [intOf]; omega
    · have hbe : b = 256 := by omega
      subst hbe
      have HS := Lib.hid (show encI 6 r = twosAt r by rw [HX.out, oneAt_none HNO.out])
      obtain ⟨wo, hwo⟩ : ∃ wo : World, wo = wr := ⟨_, rfl⟩
      subst hwo
      go_wp2
      go_loopw [7] (fun av wr => RelU r w av wr) (fun av _ => 133 - (intOf av).toNat)
      case atStart => exact ⟨130, by omega, by omega, rfl, fun c h1 h2 => by omega, hbel⟩
      case round =>
        obtain ⟨a, ha, ha', rfl, hna, hbea⟩ := hrel
        have HNA := Lib.hid hna
        clear hna
        by_cases hal : a ≤ 132
        · have haz : (a : Int) ≤ 132 := by omega
          have haz0 : (130 : Int) ≤ (a : Int) := by omega
          obtain ⟨wq, hwq⟩ : ∃ wq : World, wq = wr := ⟨_, rfl⟩
          subst hwq
          go_wp2
          go_loopw [8] (fun bv wr => RelT a r w bv wr) (fun bv _ => 256 - (intOf bv).toNat)
          case atStart => exact ⟨0, by omega, rfl, fun j hj => by omega, hbea⟩
          case round =>
            obtain ⟨d, hd, rfl, hnd, hbed⟩ := hrel
            have HND := Lib.hid hnd
            clear hnd
            by_cases hdl : d < 256
            · have hdz : (d : Int) < 256 := by omega
              have cT := two_c (a : Int) (d : Int) (by omega) (by omega)
              by_cases he : twoI a d = r
              · have HT := Lib.hid (show encI 6 r = some [(a : Int), (d : Int)] by rw [HS.out, twosAt_some ha hal (twoAt_some hdl he HND.out) HNA.out])
                rw [he] at cT
                clear he
                go_wp2_with fail
                refine (cT _).mono ?_
                rintro e w1 ⟨rfl, rfl⟩
                go_wp2
                go_ret2
                exact ⟨by rw [HT.out]; rfl, hbed.alloc hbed.size _⟩
              · have HM := Lib.hid (ne_more (f := fun j : Nat => twoI a j) HND.out he)
                obtain ⟨x, hx⟩ : ∃ x, twoI a d = x := ⟨_, rfl⟩
                rw [hx] at cT he
                have he' : (x == r) = false := by rw [beq_eq_false_iff_ne]; exact he
                clear he hx
                go_wp2_with fail
                refine (cT _).mono ?_
                rintro e w1 ⟨rfl, rfl⟩
                go_wp2
                go_roundw
                case rel =>
                  first
                    | exact ⟨d + 1, by omega, by go_num, HM.out, hbed⟩
                    | ((repeat apply Exists.intro); exact ⟨⟨d + 1, by omega, by go_num, HM.out, hbed⟩, rfl⟩)
                case measure => simp [intOf]; omega
            · have hde : d = 256 := by omega
              subst hde
              have HM := Lib.hid (none_more HNA.out (twoAt_none HND.out))
              go_wp2
              go_roundw
              case rel => exact ⟨a + 1, by omega, by omega, by go_num, HM.out, hbed⟩
              case measure => simp [intOf]; omega
        · have hae : a = 133 := by omega
          subst hae
          have HT := Lib.hid (show encI 6 r = none by rw [HS.out, twosAt_none HNA.out])
          go_wp2
          go_ret2
          exact ⟨by rw [HT.out]; rfl, hbea⟩

theorem enc_c (enc r : Int) (h0 : 0 ≤ enc) (hlo : -2147483648 ≤ r) (hhi : r ≤ 2147483647) (w : World) :
    Calls Tryz.prog 109 #[.int .i64 enc, .int .i64 r] w (EncPost (encI enc r) w) := by
  by_cases hr : isR r = true
  · by_cases h7 : 7 ≤ enc
    · exact enc_utf enc r h7 hr w
    · by_cases h6 : enc = 6
      · subst h6; exact enc_kana r hr w
      · exact enc_one enc r h0 (by omega) hr w
  · exact enc_no enc r hlo hhi (by simpa using hr) w
end Go.Proofs.YtbbgnhbkjbobgaaGreatDoor
