/-
  The library's ParseUint at base 16 and 32 bits, of eight bytes.
-/
import Derived.Test.YtfmjhamnpgcdcaaGreatDoorProg
import Derived.Test.YtfmjhamnpgcdcaaGreatDoorShelf
import Derived.Test.YtfmjhamnpgcdcaaGreatDoorShMath
import Derived.Test.YtfmjhamnpgcdcaaGreatDoorShFmt
import Derived.Lib.ConvBytes
import Derived.Lib.AtoiErrMem
namespace Go.Proofs.YtfmjhamnpgcdcaaGreatDoor
open Go.RowKit Go.Sort
set_option linter.unusedVariables false

def dgV (c : UInt8) : Nat := if 48 ≤ c.toNat ∧ c.toNat ≤ 57 then c.toNat - 48 else if 97 ≤ (c.toNat ||| 32) ∧ (c.toNat ||| 32) ≤ 122 then (c.toNat ||| 32) - 87 else 99
def hexTo : Nat → List UInt8 → Option Nat
  | acc, [] => some acc
  | acc, c :: l => if dgV c < 16 then hexTo (acc * 16 + dgV c) l else none
def pw (k : Nat) : Int := 16 ^ k
theorem pw_succ (k : Nat) : pw (k + 1) = 16 * pw k := by unfold pw; rw [Int.pow_succ]; omega
theorem pw_le7 {k : Nat} (h : k ≤ 7) : pw k ≤ 268435456 := by
  have : ∀ k : Nat, k < 8 → pw k ≤ 268435456 := by decide +kernel
  exact this k (by omega)
theorem hexTo_step {l : List UInt8} {k acc : Nat} {c : UInt8} (hk : k < l.length) (hc : l.getD k 0 = c) (hd : dgV c < 16) : hexTo acc (l.drop k) = hexTo (acc * 16 + dgV c) (l.drop (k + 1)) := by
  rw [List.drop_eq_getElem_cons hk]
  have : l[k] = c := by rw [← hc]; simp [List.getD_eq_getElem?_getD, List.getElem?_eq_getElem hk]
  rw [this, hexTo, if_pos hd]
theorem hexTo_bad {l : List UInt8} {k acc : Nat} {c : UInt8} (hk : k < l.length) (hc : l.getD k 0 = c) (hd : ¬ dgV c < 16) : hexTo acc (l.drop k) = none := by
  rw [List.drop_eq_getElem_cons hk]
  have : l[k] = c := by rw [← hc]; simp [List.getD_eq_getElem?_getD, List.getElem?_eq_getElem hk]
  rw [this, hexTo, if_neg hd]
def parseV (o : Option Nat) : Ending := match o with
  | some v => .returned (.tuple #[.int .u64 (v : Int), .nilIface])
  | none => .returned (.tuple #[.int .u64 0, .iface 85 (.int .i64 2)])
theorem parseV_some (v : Nat) : parseV (some v) = .returned (.tuple #[.int .u64 (v : Int), .nilIface]) := rfl
theorem parseV_none : parseV none = .returned (.tuple #[.int .u64 0, .iface 85 (.int .i64 2)]) := rfl
theorem low_c (c : Nat) (hc : c < 256) : bits .or .u8 (c : Int) 32 = ((c ||| 32 : Nat) : Int) :=
  (bits_nat .u8 8 (by decide) (fun n h0 h1 => by rw [IntKind.wrap_u8]; omega) c 32 hc (by decide)).2
end Go.Proofs.YtfmjhamnpgcdcaaGreatDoor
