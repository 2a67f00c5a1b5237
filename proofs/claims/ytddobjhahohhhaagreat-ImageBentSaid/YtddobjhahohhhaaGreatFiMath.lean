/-
  Numbers of up to eight bytes, as they are read: plainly.
-/
import Derived.Test.YtddobjhahohhhaaGreatQ1
import Derived.Test.YtddobjhahohhhaaGreatDeMath
import Derived.IntWalk
import Derived.Laws.Bits64
namespace Go.Proofs.YtddobjhahohhhaaGreat
open Go.RowKit Go.Sort
set_option linter.unusedVariables false

def foldB (n : Nat) (l : List UInt8) : Nat := l.foldl (fun n b => n * 256 + b.toNat) n
theorem foldB_lt (l : List UInt8) : ∀ n m, n < 256 ^ m → foldB n l < 256 ^ (m + l.length) := by
  unfold foldB
  induction l with
  | nil => intro n m h; exact h
  | cons x r ih =>
    intro n m h
    rw [List.foldl_cons, List.length_cons, show m + (r.length + 1) = (m + 1) + r.length by omega]
    apply ih
    have := UInt8.toNat_lt x
    rw [Nat.pow_succ]
    omega
theorem rdN_lt (k : Nat) (l : List UInt8) : rdN k l < 256 ^ k := by
  have h1 : rdN k l < 256 ^ (0 + (l.take k).length) := foldB_lt (l.take k) 0 0 (by decide)
  have h2 : (l.take k).length ≤ k := by rw [List.length_take]; omega
  exact Nat.lt_of_lt_of_le h1 (Nat.pow_le_pow_right (by decide) (by omega))
theorem or_byte (a c : Nat) (hc : c < 256) : a * 256 ||| c = a * 256 + c := by
  have := Nat.two_pow_add_eq_or_of_lt (i := 8) (b := c) (by omega) a
  rw [Nat.mul_comm a 256]
  exact this.symm
/-- Numbers of 64 bits, put together: also where the topmost bit comes up. -/
theorem bits_or_byte (a c : Nat) (ha : a < 72057594037927936) (hc : c < 256) : bits .or .i64 (wrap64 ((a : Int) * 256)) (c : Int) = wrap64 ((a * 256 + c : Nat) : Int) := by
  have hw : ∀ z : Int, BitVec.ofInt 64 (wrap64 z) = BitVec.ofInt 64 z := fun z => by
    apply BitVec.eq_of_toInt_eq
    rw [BitVec.toInt_ofInt, BitVec.toInt_ofInt]
    unfold wrap64
    simp only [Int.bmod_def]
    omega
  have h1 : (BitVec.ofInt 64 (wrap64 ((a : Int) * 256))).toNat = a * 256 := by
    rw [hw, show ((a : Int) * 256) = ((a * 256 : Nat) : Int) by omega, BitVec.ofInt_natCast, BitVec.toNat_ofNat]
    exact Nat.mod_eq_of_lt (by omega)
  have h2 : (BitVec.ofInt 64 (c : Int)).toNat = c := by
    rw [BitVec.ofInt_natCast, BitVec.toNat_ofNat]
    exact Nat.mod_eq_of_lt (by omega)
  show IntKind.i64.wrap ((BitVec.ofInt 64 (wrap64 ((a : Int) * 256)) ||| BitVec.ofInt 64 (c : Int)).toNat : Int) = _
  rw [BitVec.toNat_or, h1, h2, or_byte a c hc, IntWalk.i64_left]
/-- What Number tells of so many bytes. -/
def valI (k : Nat) (l : List UInt8) : Int := wrap64 (rdN k l : Int)
theorem valI_small (k : Nat) (l : List UInt8) (hk : k ≤ 7) : valI k l = (rdN k l : Int) := by
  have h1 := rdN_lt k l
  have h2 : 256 ^ k ≤ 256 ^ 7 := Nat.pow_le_pow_right (by decide) hk
  exact IntWalk.wrap64_in _ (by omega)
/-- Was more asked for, when a name is read? -/
def nmP (l : List UInt8) : Bool := decide (l.length < 1) || decide ((l.drop 1).length < rdN 1 l)
end Go.Proofs.YtddobjhahohhhaaGreat
