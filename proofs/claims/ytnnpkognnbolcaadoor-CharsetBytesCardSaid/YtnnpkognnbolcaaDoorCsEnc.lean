/-
  The contract of Encode: a character's bytes in an encoding, if it has any.
-/
import Derived.Test.YtnnpkognnbolcaaDoorCsNext
import Derived.Test.YtnnpkognnbolcaaDoorR2Enc
namespace Go.Proofs.YtnnpkognnbolcaaDoor
open Go.RowKit
set_option linter.unusedVariables false

/-- The bytes of a character in whatever encoding; none where there is no such encoding. -/
def encZ (enc r : Int) : Option (List Int) := if 0 ≤ enc ∧ enc ≤ 8 then encI enc r else none

theorem encode_bsZ (r : Int) (hr : isR r = true) : Utf8.encode r = bsZ (Lib.encodeRuneZ r) := by
  apply ByteArray.ext
  apply Array.ext'
  rw [encode_toList r hr]
  simp [bsZ, Lib.encodeRune]

set_option maxHeartbeats 1000000 in
theorem encode_utf (enc r : Int) (h7 : 7 ≤ enc) (h8 : enc ≤ 8) (w : World) :
    Calls Tryd.prog 8 #[.int .i64 enc, .int .i32 r] w (EncPost (encI enc r) w) := by
  have cR := right_c enc
  rw [decide_eq_true (show 0 ≤ enc ∧ enc ≤ 8 by omega)] at cR
  have cU := isUTF_c enc
  rw [decide_eq_true (show enc = 7 ∨ enc = 8 by omega)] at cU
  have cB := bytes_c r
  by_cases hr : isR r = true
  · have hx : encI enc r = some (Lib.encodeRuneZ r) := by unfold encI; rw [if_neg (by rw [hr]; decide), if_pos h7]
    have hb : bsOf r = bsZ (Lib.encodeRuneZ r) := by unfold bsOf; rw [if_pos hr, encode_bsZ r hr]
    have hne : ((bsOf r).toList == []) = false := by
      rw [beq_eq_false_iff_ne, Go.Lib.toList_data, bsOf_toList hr]
      intro h
      have := (encodeRune_le r).1
      rw [h] at this
      simp at this
    rw [hx]
    have HB := Lib.hid hb
    generalize bsOf r = bs at *
    clear hx hr h7 h8 hb
    go_enter Tryd.func8, Tryd.ntmps8
    go_wp2_with (first | (go_at_call 12; refine (cR _).mono ?_; rintro e w' ⟨rfl, rfl⟩) | (go_at_call 15; refine (cU _).mono ?_; rintro e w' ⟨rfl, rfl⟩) | (go_at_call 16; refine (cB _).mono ?_; rintro e w' ⟨rfl, rfl⟩))
    go_ret2
    exact ⟨by show _ = _; rw [← HB.out]; rfl, Below.refl _ _⟩
  · have hr' : isR r = false := by simpa using hr
    have hx : encI enc r = none := by unfold encI; rw [if_pos hr']
    rw [hx]
    rw [bsOf_none hr'] at cB
    clear hx hr hr' h7 h8
    go_enter Tryd.func8, Tryd.ntmps8
    go_wp2_with (first | (go_at_call 12; refine (cR _).mono ?_; rintro e w' ⟨rfl, rfl⟩) | (go_at_call 15; refine (cU _).mono ?_; rintro e w' ⟨rfl, rfl⟩) | (go_at_call 16; refine (cB _).mono ?_; rintro e w' ⟨rfl, rfl⟩))
    go_ret2
    exact ⟨rfl, Below.refl _ _⟩

set_option maxHeartbeats 1000000 in
theorem encode_none (enc r : Int) (h : ¬ (0 ≤ enc ∧ enc ≤ 8)) (w : World) :
    Calls Tryd.prog 8 #[.int .i64 enc, .int .i32 r] w (EncPost none w) := by
  have cR := right_c enc
  rw [decide_eq_false h] at cR
  clear h
  go_enter Tryd.func8, Tryd.ntmps8
  go_wp2_with (go_at_call 12; refine (cR _).mono ?_; rintro e w' ⟨rfl, rfl⟩)
  go_ret2
  exact ⟨rfl, Below.refl _ _⟩

def RelE (enc r : Int) (w0 : World) (lv : Value) (wr : World) : Prop :=
  ∃ a : Int, 130 ≤ a ∧ a ≤ 133 ∧ lv = .int .i64 a ∧ (∀ c, 130 ≤ c → c < a → write2P enc c r = none) ∧ Below w0.heap.size w0 wr

theorem rel_next {enc r a : Int} (h : ∀ c, 130 ≤ c → c < a → write2P enc c r = none) (h' : write2P enc a r = none) : ∀ c, 130 ≤ c → c < a + 1 → write2P enc c r = none := by
  intro c h1 h2
  by_cases e : c = a
  · subst e; exact h'
  · exact h c h1 (by omega)
theorem encP_two {enc r a b : Int} (hw : writeP enc r = none) (h0 : 130 ≤ a) (h1 : a ≤ 132) (h : ∀ c, 130 ≤ c → c < a → write2P enc c r = none) (h' : write2P enc a r = some b) : encP enc r = some [a, b] := by
  unfold encP
  rw [hw]
  obtain rfl | rfl | rfl : a = 130 ∨ a = 131 ∨ a = 132 := by omega
  · simp only [h']
  · simp only [h', h 130 (by omega) (by omega)]
  · simp only [h', h 130 (by omega) (by omega), h 131 (by omega) (by omega)]
theorem encP_none {enc r : Int} (hw : writeP enc r = none) (h : ∀ c, 130 ≤ c → c < 133 → write2P enc c r = none) : encP enc r = none := by
  unfold encP
  rw [hw]
  simp only [h 130 (by omega) (by omega), h 131 (by omega) (by omega), h 132 (by omega) (by omega)]

set_option maxHeartbeats 2000000 in
theorem encode_rows (enc r : Int) (h0 : 0 ≤ enc) (h6 : enc ≤ 6) (hlo : -2147483648 ≤ r) (hhi : r ≤ 2147483647) (w : World) :
    Calls Tryd.prog 8 #[.int .i64 enc, .int .i32 r] w (EncPost (encI enc r) w) := by
  rw [← encP_eq h0 h6]
  have cR := right_c enc
  rw [decide_eq_true (show 0 ≤ enc ∧ enc ≤ 8 by omega)] at cR
  have cU := isUTF_c enc
  rw [decide_eq_false (show ¬ (enc = 7 ∨ enc = 8) by omega)] at cU
  have cW := fun w => writeOne_c enc r h0 h6 hlo hhi w
  have cD := fun x w => doubleV_c enc x w
  have cF := fun x w => findRow_c (rowV_is (doubleF enc x) (doubleL enc x)) (doubleL_ok enc x).1 (doubleL_ok enc x).2 (double_fit enc x).1 (double_fit enc x).2 r w
  have hwr := fun b (h : writeP enc r = some b) => writeP_range h
  clear h0 h6
  cases hP : writeP enc r with
  | some b =>
    have HX := Lib.hid (show encP enc r = some [b] by unfold encP; rw [hP])
    have hb := hwr b hP
    rw [hP, Option.getD_some, Option.isSome_some] at cW
    have hb0 := hb.1
    have hb1' := hb.2
    clear cD cF hwr hP hb
    have kc := conv1
    go_enter Tryd.func8, Tryd.ntmps8
    go_wp2_with (first | (go_at_call 12; refine (cR _).mono ?_; rintro e w' ⟨rfl, rfl⟩) | (go_at_call 15; refine (cU _).mono ?_; rintro e w' ⟨rfl, rfl⟩) | (go_at_call 17; refine (cW _).mono ?_; rintro e w1 ⟨rfl, hb1⟩))
    go_ret2
    exact ⟨by rw [HX.out]; rfl, hb1.alloc hb1.size _⟩
  | none =>
    rw [hP, Option.getD_none, Option.isSome_none] at cW
    have HP := Lib.hid hP
    clear hP hwr
    go_enter Tryd.func8, Tryd.ntmps8
    go_wp2_with (first | (go_at_call 12; refine (cR _).mono ?_; rintro e w' ⟨rfl, rfl⟩) | (go_at_call 15; refine (cU _).mono ?_; rintro e w' ⟨rfl, rfl⟩) | (go_at_call 17; refine (cW _).mono ?_; rintro e w1 ⟨rfl, hb1⟩))
    go_loopw [9] (fun lv wr => RelE enc r w lv wr) (fun lv _ => 133 - (intOf lv).toNat)
    case atStart => exact ⟨130, by omega, by omega, rfl, fun c h1 h2 => by omega, by assumption⟩
    case round =>
      obtain ⟨a, ha, ha', rfl, hno, hbel⟩ := hrel
      have HNO := Lib.hid hno
      clear hno
      by_cases hal : a ≤ 132
      · have cDa := fun w => cD a w
        have cFa := fun w => cF a w
        generalize rowV (doubleF enc a) (doubleL enc a) = R at *
        have hu8 : IntKind.u8.wrap a = a := by rw [IntKind.wrap_u8]; omega
        have hrange := fun b (h : write2P enc a r = some b) => write2P_range h
        change ∀ w, Calls Tryd.prog 19 #[R, .int .i32 r] w fun e w' => e = .returned (.tuple #[.int .u8 ((write2P enc a r).getD 0), .bool (write2P enc a r).isSome]) ∧ Below w.heap.size w w' at cFa
        cases hQ : write2P enc a r with
        | some b =>
          have HX := Lib.hid (encP_two HP.out ha hal HNO.out hQ)
          have hb := hrange b hQ
          rw [hQ, Option.getD_some, Option.isSome_some] at cFa
          have hb0 := hb.1
          have hb9 := hb.2
          clear hQ hb hrange cD cF cW cR cU
          have kc := conv2
          go_wp2_with (first | (go_at_call 18; refine (cDa _).mono ?_; rintro e w2 ⟨rfl, hb2⟩) | (go_at_call 19; refine (cFa _).mono ?_; rintro e w3 ⟨rfl, hb3⟩))
          go_ret2
          exact ⟨by rw [HX.out]; rfl, (below_step hbel (below_step hb2 hb3)).alloc (by have h1 := hbel.size; have h2 := hb2.size; have h3 := hb3.size; omega) _⟩
        | none =>
          have HM := Lib.hid (rel_next HNO.out hQ)
          rw [hQ, Option.getD_none, Option.isSome_none] at cFa
          clear hQ hrange cD cF cW cR cU
          go_wp2_with (first | (go_at_call 18; refine (cDa _).mono ?_; rintro e w2 ⟨rfl, hb2⟩) | (go_at_call 19; refine (cFa _).mono ?_; rintro e w3 ⟨rfl, hb3⟩))
          go_roundw
          case rel => exact ⟨a + 1, by omega, by omega, by go_num, HM.out, below_step hbel (below_step hb2 hb3)⟩
          case measure => simp [intOf]; omega
      · have hae : a = 133 := by omega
        subst hae
        have HS := Lib.hid (encP_none HP.out HNO.out)
        clear cD cF cW cR cU
        go_wp2
        go_ret2
        exact ⟨by rw [HS.out]; rfl, hbel⟩

theorem encode_c (enc r : Int) (hlo : -2147483648 ≤ r) (hhi : r ≤ 2147483647) (w : World) :
    Calls Tryd.prog 8 #[.int .i64 enc, .int .i32 r] w (EncPost (encZ enc r) w) := by
  unfold encZ
  by_cases h : 0 ≤ enc ∧ enc ≤ 8
  · rw [if_pos h]
    by_cases h7 : 7 ≤ enc
    · exact encode_utf enc r h7 h.2 w
    · exact encode_rows enc r h.1 (by omega) hlo hhi w
  · rw [if_neg h]
    exact encode_none enc r h w
end Go.Proofs.YtnnpkognnbolcaaDoor
