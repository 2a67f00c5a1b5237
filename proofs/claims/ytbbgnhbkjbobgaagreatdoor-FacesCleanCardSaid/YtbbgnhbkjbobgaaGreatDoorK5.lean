/-
  The contract of the second reference's Next: the piece at a place that there is.
  The contract of the second reference's Encode: the first bytes that have the character; none, if it has none.
-/
import Derived.Test.YtbbgnhbkjbobgaaGreatDoorK4
import Derived.Test.YtbbgnhbkjbobgaaGreatDoorK3
import Derived.Test.YtbbgnhbkjbobgaaGreatDoorK2
import Derived.Deep.QuietTactic
import Derived.BigQuiet
import Derived.Test.YtbbgnhbkjbobgaaGreatDoorK1
import Derived.Handy
import Derived.LoopTactic
namespace Go.Proofs.YtbbgnhbkjbobgaaGreatDoor
open Go.RowKit
set_option linter.unusedVariables false

/-- The piece at a place: its character (-1: bad), and how many bytes it has. -/
def pieceI (enc : Int) (b : ByteArray) (k : Nat) : Int × Int :=
  if 7 ≤ enc then (if (nextG b k).2 = 0 then (-1, 1) else (((nextG b k).1 : Int), ((nextG b k).2 : Int)))
  else if enc = 6 ∧ k + 1 < b.size ∧ 0 ≤ twoI (Go.PlainAid.bt b k) (Go.PlainAid.bt b (k + 1)) then (twoI (Go.PlainAid.bt b k) (Go.PlainAid.bt b (k + 1)), 2)
  else (oneI enc (Go.PlainAid.bt b k), 1)

theorem nextG_small (b : ByteArray) (a : Int) : ((nextG b a).1 : Int) ≤ 1114111 := by
  by_cases h : a < 0 ∨ (b.size : Int) ≤ a
  · rw [nextG_out h]; decide
  · obtain ⟨k, rfl⟩ : ∃ k : Nat, a = (k : Int) := ⟨a.toNat, by omega⟩
    rw [nextG_L (by omega)]
    rcases nextL_facts (b.data.toList.drop k) with hz | ⟨_, _, hr, _⟩
    · rw [hz]; decide
    · have := isR_is hr; omega

set_option maxHeartbeats 1000000 in
theorem r2next_utf (enc : Int) (h : 7 ≤ enc) (b : ByteArray) (k : Nat) (hk : k < b.size) (hs : b.size ≤ 4000) (w : World) :
    Calls Tryz.prog 47 #[.int .i64 enc, .string b, .int .i64 k] w fun e w' => e = .returned (.tuple #[.int .i64 (pieceI enc b k).1, .int .i64 (pieceI enc b k).2]) ∧ Below w.heap.size w w' := by
  have cN := refNext_c b k hs w
  have hR := nextG_small b k
  obtain ⟨R, hRR⟩ : ∃ R, (nextG b k).1 = R := ⟨_, rfl⟩
  obtain ⟨K, hKK⟩ : ∃ K, (nextG b k).2 = K := ⟨_, rfl⟩
  have HX := Lib.hid (show pieceI enc b k = if K = 0 then (-1, 1) else ((R : Int), (K : Int)) by unfold pieceI; rw [if_pos h, hRR, hKK])
  rw [hRR] at hR
  rw [hRR, hKK] at cN
  clear hRR hKK
  by_cases h0 : K = 0
  · subst h0
    rw [if_pos rfl] at HX
    go_enter Tryz.func47, Tryz.ntmps47
    go_wp2_with fail
    refine cN.mono ?_
    rintro e w1 ⟨rfl, hb⟩
    go_wp2
    go_ret2
    exact ⟨by rw [HX.out]; rfl, hb⟩
  · rw [if_neg h0] at HX
    have h0z : ((K : Int) == 0) = false := by rw [beq_eq_false_iff_ne]; omega
    have hw1 : wrap64 (R : Int) = (R : Int) := by unfold wrap64; omega
    clear h0
    go_enter Tryz.func47, Tryz.ntmps47
    go_wp2_with fail
    refine cN.mono ?_
    rintro e w1 ⟨rfl, hb⟩
    go_wp2
    go_ret2
    exact ⟨by rw [HX.out]; rfl, hb⟩

set_option maxHeartbeats 1000000 in
theorem r2next_one (enc : Int) (h0 : 0 ≤ enc) (h6 : enc ≤ 6) (b : ByteArray) (k : Nat) (hk : k < b.size) (hs : b.size ≤ 4000) (hno : enc ≠ 6 ∨ b.size ≤ k + 1) (w : World) :
    Calls Tryz.prog 47 #[.int .i64 enc, .string b, .int .i64 k] w fun e w' => e = .returned (.tuple #[.int .i64 (pieceI enc b k).1, .int .i64 (pieceI enc b k).2]) ∧ Below w.heap.size w w' := by
  have HX := Lib.hid (show pieceI enc b k = (oneI enc (Go.PlainAid.bt b k), 1) by unfold pieceI; rw [if_neg (by omega), if_neg (by rintro ⟨a1, a2, _⟩; omega)])
  have cO := fun w => one_c enc (Go.PlainAid.bt b k) h0 h6 (Go.PlainAid.bt_le b k) w
  have hB := Go.PlainAid.get_bt b
  have hkz : (k : Int) < (b.size : Int) := by omega
  have g0 := Go.PlainAid.bt_nonneg b k
  have g1 := Go.PlainAid.bt_le b k
  obtain ⟨x, hx⟩ : ∃ x : Int, Go.PlainAid.bt b k = x := ⟨_, rfl⟩
  rw [hx] at g0 g1
  simp only [hx] at cO
  rw [hx] at HX
  have h7 : ¬ (7 ≤ enc) := by omega
  by_cases h : enc = 6
  · subst h
    have hlast : ¬ ((k : Int) < (b.size : Int) - 1) := by omega
    clear hno
    go_enter Tryz.func47, Tryz.ntmps47
    go_wp2_with fail
    refine (cO _).mono ?_
    rintro e w1 ⟨rfl, hb⟩
    go_wp2
    go_ret2
    exact ⟨by rw [HX.out]; rfl, hb⟩
  · have h' : (enc == (6 : Int)) = false := by rw [beq_eq_false_iff_ne]; exact h
    clear h hno
    go_enter Tryz.func47, Tryz.ntmps47
    go_wp2_with fail
    refine (cO _).mono ?_
    rintro e w1 ⟨rfl, hb⟩
    go_wp2
    go_ret2
    exact ⟨by rw [HX.out]; rfl, hb⟩

set_option maxHeartbeats 1000000 in
theorem r2next_two (b : ByteArray) (k : Nat) (hk : k + 1 < b.size) (hs : b.size ≤ 4000) (w : World) :
    Calls Tryz.prog 47 #[.int .i64 6, .string b, .int .i64 k] w fun e w' => e = .returned (.tuple #[.int .i64 (pieceI 6 b k).1, .int .i64 (pieceI 6 b k).2]) ∧ Below w.heap.size w w' := by
  have cO := fun w => one_c 6 (Go.PlainAid.bt b k) (by omega) (by omega) (Go.PlainAid.bt_le b k) w
  have cT := fun w => two_c (Go.PlainAid.bt b k) (Go.PlainAid.bt b (k + 1)) (Go.PlainAid.bt_nonneg b (k + 1)) (Go.PlainAid.bt_le b (k + 1)) w
  have hB := Go.PlainAid.get_bt b
  have hkz : (k : Int) < (b.size : Int) := by omega
  have hkz1 : (k : Int) < (b.size : Int) - 1 := by omega
  have hkz2 : (k : Int) + 1 < (b.size : Int) := by omega
  have g0 := Go.PlainAid.bt_nonneg b k
  have g1 := Go.PlainAid.bt_le b k
  have g2 := Go.PlainAid.bt_nonneg b (k + 1)
  have g3 := Go.PlainAid.bt_le b (k + 1)
  have hp : pieceI 6 b k = if 0 ≤ twoI (Go.PlainAid.bt b k) (Go.PlainAid.bt b (k + 1)) then (twoI (Go.PlainAid.bt b k) (Go.PlainAid.bt b (k + 1)), 2) else (oneI 6 (Go.PlainAid.bt b k), 1) := by
    unfold pieceI
    rw [if_neg (by omega)]
    by_cases h : 0 ≤ twoI (Go.PlainAid.bt b k) (Go.PlainAid.bt b (k + 1))
    · rw [if_pos ⟨rfl, hk, h⟩, if_pos h]
    · rw [if_neg (by rintro ⟨_, _, h'⟩; exact h h'), if_neg h]
  obtain ⟨x, hx⟩ : ∃ x : Int, Go.PlainAid.bt b k = x := ⟨_, rfl⟩
  obtain ⟨y, hy⟩ : ∃ y : Int, Go.PlainAid.bt b (k + 1) = y := ⟨_, rfl⟩
  rw [hx] at g0 g1
  rw [hy] at g2 g3
  simp only [hx, hy] at cO cT
  rw [hx, hy] at hp
  generalize twoI x y = t at *
  have s0 : IntKind.i64.wrap ((k : Int) + 1) = (k : Int) + 1 := IntWalk.i64_in _ (by omega)
  have s1 : (0 : Int) ≤ (k : Int) + 1 := by omega
  have s2 : (0 : Int) ≤ (k : Int) := by omega
  have s5 : ((k : Int) + 1).toNat = k + 1 := by omega
  by_cases ht : 0 ≤ t
  · have HX := Lib.hid (show pieceI 6 b k = (t, 2) by rw [hp, if_pos ht])
    clear hp
    go_enter Tryz.func47, Tryz.ntmps47
    go_wp2_with fail
    go_quiet ((go_at_call 80; exact Calls.quiet_of_same ((cT _).mono fun _ _ h => ⟨h.1, h.2.symm⟩)))
    go_wp2
    go_ret2
    exact ⟨by rw [HX.out]; rfl, below_drewN (Below.refl _ _) _⟩
  · have HX := Lib.hid (show pieceI 6 b k = (oneI 6 x, 1) by rw [hp, if_neg ht])
    clear hp
    go_enter Tryz.func47, Tryz.ntmps47
    go_wp2_with fail
    go_quiet ((go_at_call 80; exact Calls.quiet_of_same ((cT _).mono fun _ _ h => ⟨h.1, h.2.symm⟩)))
    go_wp2_with fail
    refine (cO _).mono ?_
    rintro e w1 ⟨rfl, hb⟩
    go_wp2
    go_ret2
    exact ⟨by rw [HX.out]; rfl, below_step (below_drewN (Below.refl _ _) _) hb⟩

theorem r2next_c (enc : Int) (h0 : 0 ≤ enc) (h8 : enc ≤ 8) (b : ByteArray) (k : Nat) (hk : k < b.size) (hs : b.size ≤ 4000) (w : World) :
    Calls Tryz.prog 47 #[.int .i64 enc, .string b, .int .i64 k] w fun e w' => e = .returned (.tuple #[.int .i64 (pieceI enc b k).1, .int .i64 (pieceI enc b k).2]) ∧ Below w.heap.size w w' := by
  by_cases h7 : 7 ≤ enc
  · exact r2next_utf enc h7 b k hk hs w
  · by_cases h : enc = 6 ∧ k + 1 < b.size
    · obtain ⟨rfl, hk1⟩ := h
      exact r2next_two b k hk1 hs w
    · exact r2next_one enc h0 (by omega) b k hk hs (by omega) w
end Go.Proofs.YtbbgnhbkjbobgaaGreatDoor

namespace Go.Proofs.YtbbgnhbkjbobgaaGreatDoor
open Go.RowKit
set_option linter.unusedVariables false

def EncPost (o : Option (List Int)) (w0 : World) (e : Ending) (w' : World) : Prop :=
  (match o with
    | some zs => e = .returned (.tuple #[.string (bsZ zs), .bool true])
    | none => e = .returned (.tuple #[.string ⟨#[]⟩, .bool false])) ∧ Below w0.heap.size w0 w'

theorem ne_more {f : Nat → Int} {r : Int} {b : Nat} (h : ∀ j : Nat, j < b → f j ≠ r) (h' : f b ≠ r) : ∀ j : Nat, j < b + 1 → f j ≠ r := by
  intro j hj
  by_cases e : j = b
  · subst e; exact h'
  · exact h j (by omega)

theorem conv1 (z : Int) (w : World) : (convert 57 9 (.slice (some ⟨w.heap.size, 0, none⟩) 1 1)).run Tryz.prog (w.alloc (.cells #[.int .u8 z] 5)) = .ok (.string (bsZ [z])) (w.alloc (.cells #[.int .u8 z] 5)) := conv_back [z] w
theorem conv2 (y z : Int) (w : World) : (convert 57 9 (.slice (some ⟨w.heap.size, 0, none⟩) 2 2)).run Tryz.prog (w.alloc (.cells #[.int .u8 y, .int .u8 z] 5)) = .ok (.string (bsZ [y, z])) (w.alloc (.cells #[.int .u8 y, .int .u8 z] 5)) := conv_back [y, z] w

def RelB (enc r : Int) (w0 : World) (bv : Value) (wr : World) : Prop :=
  ∃ b : Nat, b ≤ 256 ∧ bv = .int .i64 b ∧ (∀ j : Nat, j < b → oneI enc j ≠ r) ∧ Below w0.heap.size w0 wr
def RelT (a r : Int) (w0 : World) (bv : Value) (wr : World) : Prop :=
  ∃ b : Nat, b ≤ 256 ∧ bv = .int .i64 b ∧ (∀ j : Nat, j < b → twoI a j ≠ r) ∧ Below w0.heap.size w0 wr
def RelU (r : Int) (w0 : World) (av : Value) (wr : World) : Prop :=
  ∃ a : Nat, 130 ≤ a ∧ a ≤ 133 ∧ av = .int .i64 a ∧ (∀ c : Nat, 130 ≤ c → c < a → twoAt c r = none) ∧ Below w0.heap.size w0 wr

set_option maxHeartbeats 1000000 in
theorem enc_no (enc r : Int) (hlo : -2147483648 ≤ r) (hhi : r ≤ 2147483647) (hr : isR r = false) (w : World) :
    Calls Tryz.prog 109 #[.int .i64 enc, .int .i64 r] w (EncPost (encI enc r) w) := by
  have hw1 : wrap32 r = r := by unfold wrap32; omega
  have hI := refIs_c r
  have hx : encI enc r = none := by unfold encI; rw [if_pos hr]
  rw [hx]
  rw [hr] at hI
  clear hr hx
  go_enter Tryz.func109, Tryz.ntmps109
  go_wp2_with fail
  refine (hI _).mono ?_
  rintro e w' ⟨rfl, rfl⟩
  go_wp2
  go_ret2
  exact ⟨rfl, Below.refl _ _⟩

set_option maxHeartbeats 1000000 in
theorem enc_utf (enc r : Int) (h7 : 7 ≤ enc) (hr : isR r = true) (w : World) :
    Calls Tryz.prog 109 #[.int .i64 enc, .int .i64 r] w (EncPost (encI enc r) w) := by
  have hi := isR_is hr
  have hlo : -2147483648 ≤ r := by omega
  have hhi : r ≤ 2147483647 := by omega
  have hw1 : wrap32 r = r := by unfold wrap32; omega
  have hI := refIs_c r
  have hB := refBytes_c r hr
  have hx : encI enc r = some (Lib.encodeRuneZ r) := by unfold encI; rw [if_neg (by rw [hr]; decide), if_pos h7]
  have HE := Lib.hid (show Utf8.encode r = bsZ (Lib.encodeRuneZ r) by
    apply ByteArray.ext
    apply Array.ext'
    rw [encode_toList r hr]
    rfl)
  rw [hx]
  rw [hr] at hI
  clear hr hx hi
  generalize Utf8.encode r = en at *
  go_enter Tryz.func109, Tryz.ntmps109
  go_wp2_with fail
  refine (hI _).mono ?_
  rintro e w' ⟨rfl, rfl⟩
  go_wp2_with fail
  refine (hB _).mono ?_
  rintro e w' ⟨rfl, hb⟩
  go_wp2
  go_ret2
  exact ⟨by show _ = _; rw [← HE.out]; rfl, hb⟩

set_option maxHeartbeats 2000000 in
theorem enc_one (enc r : Int) (h0 : 0 ≤ enc) (h6 : enc ≤ 5) (hr : isR r = true) (w : World) :
    Calls Tryz.prog 109 #[.int .i64 enc, .int .i64 r] w (EncPost (encI enc r) w) := by
  have hi := isR_is hr
  have hlo : -2147483648 ≤ r := by omega
  have hhi : r ≤ 2147483647 := by omega
  have hw1 : wrap32 r = r := by unfold wrap32; omega
  have hI := refIs_c r
  have HX := Lib.hid (show encI enc r = match oneAt enc r with | some b => some [(b : Int)] | none => none by
    unfold encI
    rw [if_neg (by rw [hr]; decide), if_neg (by omega), if_neg (by omega)]
    cases oneAt enc r <;> rfl)
  have h7 : ¬ (7 ≤ enc) := by omega
  have hne6 : (enc == (6 : Int)) = false := by rw [beq_eq_false_iff_ne]; omega
  rw [hr] at hI
  clear hr hi
  have kc := conv1
  go_enter Tryz.func109, Tryz.ntmps109
  go_wp2_with fail
  refine (hI _).mono ?_
  rintro e w' ⟨rfl, rfl⟩
  go_wp2
  go_loopw [6] (fun bv wr => RelB enc r w bv wr) (fun bv _ => 256 - (intOf bv).toNat)
  case atStart => exact ⟨0, by omega, rfl, fun j hj => by omega, Below.refl _ _⟩
  case round =>
    obtain ⟨b, hb, rfl, hno, hbel⟩ := hrel
    have HNO := Lib.hid hno
    clear hno
    by_cases hlt : b < 256
    · have hbz : (b : Int) < 256 := by omega
      have cO := one_c enc b h0 (by omega) (by omega)
      by_cases he : oneI enc b = r
      · have HS := Lib.hid (show encI enc r = some [(b : Int)] by rw [HX.out, oneAt_some hlt he HNO.out])
        rw [he] at cO
        clear he
        go_wp2_with fail
        refine (cO _).mono ?_
        rintro e w1 ⟨rfl, hb1⟩
        go_wp2
        go_ret2
        exact ⟨by rw [HS.out]; rfl, (below_step hbel hb1).alloc (by have h1 := hbel.size; have h2 := hb1.size; omega) _⟩
      · have HM := Lib.hid (ne_more (f := fun j : Nat => oneI enc j) HNO.out he)
        obtain ⟨x, hx⟩ : ∃ x, oneI enc b = x := ⟨_, rfl⟩
        rw [hx] at cO he
        have he' : (x == r) = false := by rw [beq_eq_false_iff_ne]; exact he
        clear he hx
        go_wp2_with fail
        refine (cO _).mono ?_
        rintro e w1 ⟨rfl, hb1⟩
        go_wp2
        go_roundw
        case rel => exact ⟨b + 1, by omega, by go_num, HM.out, below_step hbel hb1⟩
        case measure => simp [intOf]; omega
    · have hbe : b = 256 := by omega
      subst hbe
      have HS := Lib.hid (show encI enc r = none by rw [HX.out, oneAt_none HNO.out])
      go_wp2
      refine wp_loop_rounds 1 ?_
      rw [rounds_succ]
      go_wp2
      go_ret2
      exact ⟨by rw [HS.out]; rfl, hbel⟩
end Go.Proofs.YtbbgnhbkjbobgaaGreatDoor
