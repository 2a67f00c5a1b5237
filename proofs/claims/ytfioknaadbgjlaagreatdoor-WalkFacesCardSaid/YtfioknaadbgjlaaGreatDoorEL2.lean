/- Kit. -/
import Derived.Test.YtfioknaadbgjlaaGreatDoorEL1
import Derived.Deep.AppendLies
import Derived.Deep.RegionLaw
import Derived.PlainAid
import Derived.Test.YtfioknaadbgjlaaGreatDoorProg
import Derived.WalkKit
import Derived.WalkSpells
import Derived.IntWalk
import Derived.Lib.Hide
import Derived.Below
import Derived.LoopTactic
import Derived.Laws.Bits64
import Derived.Laws.BitsLemmas
set_option maxRecDepth 100000
set_option linter.unusedVariables false
set_option linter.unusedSimpArgs false
namespace Go.Proofs.YtfioknaadbgjlaaGreatDoor.F
open Go.RowKit Go.Sort
end Go.Proofs.YtfioknaadbgjlaaGreatDoor.F
namespace Go.Proofs.YtfioknaadbgjlaaGreatDoor.F
open Go.RowKit Go.Sort
end Go.Proofs.YtfioknaadbgjlaaGreatDoor.F
namespace Go.Proofs.YtfioknaadbgjlaaGreatDoor.F
open Go.RowKit
def fnvS (h : Nat) (c : UInt8) : Nat := (h ^^^ c.toNat) * 16777619 % 4294967296
def fnvL (l : List UInt8) : Nat := l.foldl fnvS 2166136261
theorem fnvS_lt (h : Nat) (c : UInt8) : fnvS h c < 4294967296 := Nat.mod_lt _ (by decide)
theorem fnvL_lt (l : List UInt8) : fnvL l < 4294967296 := by
  unfold fnvL
  have key : ∀ (l : List UInt8) (h : Nat), h < 4294967296 → l.foldl fnvS h < 4294967296 := by
    intro l
    induction l with
    | nil => intro h hh; exact hh
    | cons c l ih => intro h _; exact ih _ (fnvS_lt h c)
  exact key l _ (by decide)
theorem fnvL_snoc (l : List UInt8) (c : UInt8) : fnvL (l ++ [c]) = fnvS (fnvL l) c := by unfold fnvL; rw [List.foldl_append, List.foldl_cons, List.foldl_nil]
theorem xor_u32 (a b : Nat) (ha : a < 4294967296) (hb : b < 4294967296) : bits .xor .u32 (a : Int) (b : Int) = ((a ^^^ b : Nat) : Int) := by
  have hx : a ^^^ b < 2 ^ 32 := Nat.xor_lt_two_pow (by omega) (by omega)
  have h1 : (BitVec.ofInt 32 (a : Int)).toNat = a := by
    rw [BitVec.ofInt_natCast, BitVec.toNat_ofNat]; exact Nat.mod_eq_of_lt (by omega)
  have h2 : (BitVec.ofInt 32 (b : Int)).toNat = b := by
    rw [BitVec.ofInt_natCast, BitVec.toNat_ofNat]; exact Nat.mod_eq_of_lt (by omega)
  show IntKind.u32.wrap ((BitVec.ofInt 32 (a : Int) ^^^ BitVec.ofInt 32 (b : Int)).toNat : Int) = _
  rw [BitVec.toNat_xor, h1, h2, IntKind.wrap_u32]
  omega
theorem byte_snoc (s : ByteArray) (k : Nat) (h : k < s.size) : s.data.toList.take (k + 1) = s.data.toList.take k ++ [s[k]] := by
  rw [List.take_succ_eq_append_getElem (by simpa using h)]; rfl
set_option maxHeartbeats 1000000 in
theorem hash_c (s : ByteArray) (hs : s.size ≤ 9223372036854775807) (w : World) :
    Calls Tryz.prog 32 #[.string s] w fun e w' => e = .returned (.int .u32 (fnvL s.data.toList)) ∧ w = w' := by
  go_enter Tryz.func32, Tryz.ntmps32
  go_wp2
  go_loop [3, 7] (fun hv kv => ∃ k : Nat, k ≤ s.size ∧ kv = .int .i64 k ∧ hv = .int .u32 (fnvL (s.data.toList.take k))) (fun _ kv => s.size - (intOf kv).toNat)
  case atStart => exact ⟨0, Nat.zero_le _, rfl, rfl⟩
  case round =>
    obtain ⟨k, hk, rfl, rfl⟩ := hrel
    by_cases hlt : k < s.size
    · have hkz : (k : Int) < (s.size : Int) := by omega
      have HS : Hid (fnvL (s.data.toList.take (k + 1)) = fnvS (fnvL (s.data.toList.take k)) s[k]) := Lib.hid (by rw [byte_snoc s k hlt, fnvL_snoc])
      have hl := fnvL_lt (s.data.toList.take k)
      obtain ⟨h, hh⟩ : ∃ h, fnvL (s.data.toList.take k) = h := ⟨_, rfl⟩
      obtain ⟨c, hc⟩ : ∃ c, s[k] = c := ⟨_, rfl⟩
      rw [hh] at hl HS
      rw [hc] at HS
      rw [hh]
      have HC := Lib.hid hc
      clear hh hc
      have cle : c.toNat < 256 := c.toNat_lt
      have hx := xor_u32 h c.toNat hl (by omega)
      have hxl : h ^^^ c.toNat < 2 ^ 32 := Nat.xor_lt_two_pow (by omega) (by omega)
      unfold fnvS at HS
      generalize h ^^^ c.toNat = x at *
      have HM : Hid (IntKind.u32.wrap ((x : Int) * 16777619) = ((x * 16777619 % 4294967296 : Nat) : Int)) := Lib.hid (by rw [IntKind.wrap_u32]; omega)
      go_wp2
      rw [HC.out]
      go_round
      case rel => exact ⟨k + 1, by omega, by go_num, by rw [show (c.toNat : Int) % 4294967296 = (c.toNat : Int) by omega, hx, HS.out]; congr 1⟩
      case measure => simp [intOf]; omega
    · have hkz : ¬ ((k : Int) < (s.size : Int)) := by omega
      have ht : s.data.toList.take k = s.data.toList := List.take_of_length_le (by simp; omega)
      rw [ht]
      clear ht
      go_wp2
      go_ret
      exact ⟨by rfl, rfl⟩
end Go.Proofs.YtfioknaadbgjlaaGreatDoor.F
namespace Go.Proofs.YtfioknaadbgjlaaGreatDoor.F
open Go.RowKit Go.Sort
end Go.Proofs.YtfioknaadbgjlaaGreatDoor.F
