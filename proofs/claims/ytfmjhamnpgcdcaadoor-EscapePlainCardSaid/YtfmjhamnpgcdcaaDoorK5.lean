/-
  The contract of the second reference's Next: the piece at a place that there is.
  The contract of the second reference's Encode: the first bytes that have the character; none, if it has none.
-/
import Derived.Test.YtfmjhamnpgcdcaaDoorK4
import Derived.Test.YtfmjhamnpgcdcaaDoorK3
import Derived.Test.YtfmjhamnpgcdcaaDoorK2
import Derived.Deep.QuietTactic
import Derived.BigQuiet
import Derived.Test.YtfmjhamnpgcdcaaDoorK1
import Derived.Handy
import Derived.LoopTactic
namespace Go.Proofs.YtfmjhamnpgcdcaaDoor
open Go.RowKit
set_option linter.unusedVariables false

/-- The piece at a place: its character (-1: bad), and how many bytes it has. -/
def pieceI (enc : Int) (b : ByteArray) (k : Nat) : Int × Int :=
  if 7 ≤ enc then (if (nextG b k).2 = 0 then (-1, 1) else (((nextG b k).1 : Int), ((nextG b k).2 : Int)))
  else if enc = 6 ∧ k + 1 < b.size ∧ 0 ≤ twoI (Go.PlainAid.bt b k) (Go.PlainAid.bt b (k + 1)) then (twoI (Go.PlainAid.bt b k) (Go.PlainAid.bt b (k + 1)), 2)
  else (oneI enc (Go.PlainAid.bt b k), 1)

theorem nextG_small (b : ByteArray) (a : Int) : ((nextG b a).1 : Int) ≤ 1114111 := by
  by_cases h : a < 0 ∨ (b.size : Int) ≤ a
  · rw [nextG_out h]; decide
  · obtain ⟨k, rfl⟩ : ∃ k : Nat, a = (k : Int) := ⟨a.toNat, by omega⟩
    rw [nextG_L (by omega)]
    rcases nextL_facts (b.data.toList.drop k) with hz | ⟨_, _, hr, _⟩
    · rw [hz]; decide
    · have := isR_is hr; omega

end Go.Proofs.YtfmjhamnpgcdcaaDoor

namespace Go.Proofs.YtfmjhamnpgcdcaaDoor
open Go.RowKit
set_option linter.unusedVariables false

def EncPost (o : Option (List Int)) (w0 : World) (e : Ending) (w' : World) : Prop :=
  (match o with
    | some zs => e = .returned (.tuple #[.string (bsZ zs), .bool true])
    | none => e = .returned (.tuple #[.string ⟨#[]⟩, .bool false])) ∧ Below w0.heap.size w0 w'

theorem ne_more {f : Nat → Int} {r : Int} {b : Nat} (h : ∀ j : Nat, j < b → f j ≠ r) (h' : f b ≠ r) : ∀ j : Nat, j < b + 1 → f j ≠ r := by
  intro j hj
  by_cases e : j = b
  · subst e; exact h'
  · exact h j (by omega)

theorem conv1 (z : Int) (w : World) : (convert 22 9 (.slice (some ⟨w.heap.size, 0, none⟩) 1 1)).run Tryd.prog (w.alloc (.cells #[.int .u8 z] 5)) = .ok (.string (bsZ [z])) (w.alloc (.cells #[.int .u8 z] 5)) := conv_back [z] w
theorem conv2 (y z : Int) (w : World) : (convert 22 9 (.slice (some ⟨w.heap.size, 0, none⟩) 2 2)).run Tryd.prog (w.alloc (.cells #[.int .u8 y, .int .u8 z] 5)) = .ok (.string (bsZ [y, z])) (w.alloc (.cells #[.int .u8 y, .int .u8 z] 5)) := conv_back [y, z] w

def RelB (enc r : Int) (w0 : World) (bv : Value) (wr : World) : Prop :=
  ∃ b : Nat, b ≤ 256 ∧ bv = .int .i64 b ∧ (∀ j : Nat, j < b → oneI enc j ≠ r) ∧ Below w0.heap.size w0 wr
def RelT (a r : Int) (w0 : World) (bv : Value) (wr : World) : Prop :=
  ∃ b : Nat, b ≤ 256 ∧ bv = .int .i64 b ∧ (∀ j : Nat, j < b → twoI a j ≠ r) ∧ Below w0.heap.size w0 wr
def RelU (r : Int) (w0 : World) (av : Value) (wr : World) : Prop :=
  ∃ a : Nat, 130 ≤ a ∧ a ≤ 133 ∧ av = .int .i64 a ∧ (∀ c : Nat, 130 ≤ c → c < a → twoAt c r = none) ∧ Below w0.heap.size w0 wr

set_option maxHeartbeats 1000000 in
theorem enc_no (enc r : Int) (hlo : -2147483648 ≤ r) (hhi : r ≤ 2147483647) (hr : isR r = false) (w : World) :
    Calls Tryd.prog 10 #[.int .i64 enc, .int .i64 r] w (EncPost (encI enc r) w) := by
  have hw1 : wrap32 r = r := by unfold wrap32; omega
  have hI := refIs_c r
  have hx : encI enc r = none := by unfold encI; rw [if_pos hr]
  rw [hx]
  rw [hr] at hI
  clear hr hx
  go_enter Tryd.func10, Tryd.ntmps10
  go_wp2_with fail
  refine (hI _).mono ?_
  rintro e w' ⟨rfl, rfl⟩
  go_wp2
  go_ret2
  exact ⟨rfl, Below.refl _ _⟩

set_option maxHeartbeats 1000000 in
theorem enc_utf (enc r : Int) (h7 : 7 ≤ enc) (hr : isR r = true) (w : World) :
    Calls Tryd.prog 10 #[.int .i64 enc, .int .i64 r] w (EncPost (encI enc r) w) := by
  have hi := isR_is hr
  have hlo : -2147483648 ≤ r := by omega
  have hhi : r ≤ 2147483647 := by omega
  have hw1 : wrap32 r = r := by unfold wrap32; omega
  have hI := refIs_c r
  have hB := refBytes_c r hr
  have hx : encI enc r = some (Lib.encodeRuneZ r) := by unfold encI; rw [if_neg (by rw [hr]; decide), if_pos h7]
  have HE := Lib.hid (show Utf8.encode r = bsZ (Lib.encodeRuneZ r) by
    apply ByteArray.ext
    apply Array.ext'
    rw [encode_toList r hr]
    rfl)
  rw [hx]
  rw [hr] at hI
  clear hr hx hi
  generalize Utf8.encode r = en at *
  go_enter Tryd.func10, Tryd.ntmps10
  go_wp2_with fail
  refine (hI _).mono ?_
  rintro e w' ⟨rfl, rfl⟩
  go_wp2_with fail
  refine (hB _).mono ?_
  rintro e w' ⟨rfl, hb⟩
  go_wp2
  go_ret2
  exact ⟨by show _ = _; rw [← HE.out]; rfl, hb⟩

set_option maxHeartbeats 2000000 in
theorem enc_one (enc r : Int) (h0 : 0 ≤ enc) (h6 : enc ≤ 5) (hr : isR r = true) (w : World) :
    Calls Tryd.prog 10 #[.int .i64 enc, .int .i64 r] w (EncPost (encI enc r) w) := by
  have hi := isR_is hr
  have hlo : -2147483648 ≤ r := by omega
  have hhi : r ≤ 2147483647 := by omega
  have hw1 : wrap32 r = r := by unfold wrap32; omega
  have hI := refIs_c r
  have HX := Lib.hid (show encI enc r = match oneAt enc r with | some b => some [(b : Int)] | none => none by
    unfold encI
    rw [if_neg (by rw [hr]; decide), if_neg (by omega), if_neg (by omega)]
    cases oneAt enc r <;> rfl)
  have h7 : ¬ (7 ≤ enc) := by omega
  have hne6 : (enc == (6 : Int)) = false := by rw [beq_eq_false_iff_ne]; omega
  rw [hr] at hI
  clear hr hi
  have kc := conv1
  go_enter Tryd.func10, Tryd.ntmps10
  go_wp2_with fail
  refine (hI _).mono ?_
  rintro e w' ⟨rfl, rfl⟩
  go_wp2
  go_loopw [6] (fun bv wr => RelB enc r w bv wr) (fun bv _ => 256 - (intOf bv).toNat)
  case atStart => exact ⟨0, by omega, rfl, fun j hj => by omega, Below.refl _ _⟩
  case round =>
    obtain ⟨b, hb, rfl, hno, hbel⟩ := hrel
    have HNO := Lib.hid hno
    clear hno
    by_cases hlt : b < 256
    · have hbz : (b : Int) < 256 := by omega
      have cO := one_c enc b h0 (by omega) (by omega)
      by_cases he : oneI enc b = r
      · have HS := Lib.hid (show encI enc r = some [(b : Int)] by rw [HX.out, oneAt_some hlt he HNO.out])
        rw [he] at cO
        clear he
        go_wp2_with fail
        refine (cO _).mono ?_
        rintro e w1 ⟨rfl, hb1⟩
        go_wp2
        go_ret2
        exact ⟨by rw [HS.out]; rfl, (below_step hbel hb1).alloc (by have h1 := hbel.size; have h2 := hb1.size; omega) _⟩
      · have HM := Lib.hid (ne_more (f := fun j : Nat => oneI enc j) HNO.out he)
        obtain ⟨x, hx⟩ : ∃ x, oneI enc b = x := ⟨_, rfl⟩
        rw [hx] at cO he
        have he' : (x == r) = false := by rw [beq_eq_false_iff_ne]; exact he
        clear he hx
        go_wp2_with fail
        refine (cO _).mono ?_
        rintro e w1 ⟨rfl, hb1⟩
        go_wp2
        go_roundw
        case rel => exact ⟨b + 1, by omega, by go_num, HM.out, below_step hbel hb1⟩
        case measure => simp [intOf]; omega
    · have hbe : b = 256 := by omega
      subst hbe
      have HS := Lib.hid (show encI enc r = none by rw [HX.out, oneAt_none HNO.out])
      go_wp2
      refine wp_loop_rounds 1 ?_
      rw [rounds_succ]
      go_wp2
      go_ret2
      exact ⟨by rw [HS.out]; rfl, hbel⟩
end Go.Proofs.YtfmjhamnpgcdcaaDoor
