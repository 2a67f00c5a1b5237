/-
  Plain: the bytes of a character in an encoding, by going through them.
-/
import Derived.Test.YtnnpkognnbolcaaDoorCharsetMath
namespace Go.Proofs.YtnnpkognnbolcaaDoor
open Go.Lib
set_option linter.unusedVariables false

def oneAt (enc r : Int) : Option Nat := (List.range 256).find? fun b => decide (oneI enc b = r)
def twoAt (a r : Int) : Option Nat := (List.range 256).find? fun b => decide (twoI a b = r)
def twosAt (r : Int) : Option (List Int) :=
  match twoAt 130 r with
  | some b => some [130, (b : Int)]
  | none => match twoAt 131 r with
    | some b => some [131, (b : Int)]
    | none => match twoAt 132 r with
      | some b => some [132, (b : Int)]
      | none => none
def encI (enc r : Int) : Option (List Int) :=
  if isR r = false then none
  else if 7 ≤ enc then some (encodeRuneZ r)
  else match oneAt enc r with
    | some b => some [(b : Int)]
    | none => if enc = 6 then twosAt r else none
def bsZ (zs : List Int) : ByteArray := ⟨(zs.map fun z => UInt8.ofNat z.toNat).toArray⟩
theorem oneAt_some {enc r : Int} {b : Nat} (hb : b < 256) (h : oneI enc b = r) (hno : ∀ j : Nat, j < b → oneI enc j ≠ r) : oneAt enc r = some b := by
  unfold oneAt
  rw [List.find?_range_eq_some]
  exact ⟨by simpa using h, by simpa using hb, fun j hj => by simpa using hno j hj⟩
theorem oneAt_none {enc r : Int} (hno : ∀ j : Nat, j < 256 → oneI enc j ≠ r) : oneAt enc r = none := by
  unfold oneAt
  rw [List.find?_range_eq_none]
  exact fun j hj => by simpa using hno j hj
theorem twoAt_some {a r : Int} {b : Nat} (hb : b < 256) (h : twoI a b = r) (hno : ∀ j : Nat, j < b → twoI a j ≠ r) : twoAt a r = some b := by
  unfold twoAt
  rw [List.find?_range_eq_some]
  exact ⟨by simpa using h, by simpa using hb, fun j hj => by simpa using hno j hj⟩
theorem twoAt_none {a r : Int} (hno : ∀ j : Nat, j < 256 → twoI a j ≠ r) : twoAt a r = none := by
  unfold twoAt
  rw [List.find?_range_eq_none]
  exact fun j hj => by simpa using hno j hj
theorem twosAt_some {a : Nat} {r : Int} {b : Nat} (ha : 130 ≤ a) (ha' : a ≤ 132) (h : twoAt a r = some b) (hno : ∀ c : Nat, 130 ≤ c → c < a → twoAt c r = none) : twosAt r = some [(a : Int), (b : Int)] := by
  unfold twosAt
  obtain rfl | rfl | rfl : a = 130 ∨ a = 131 ∨ a = 132 := by omega
  · rw [show twoAt 130 r = some b from h]; rfl
  · rw [show twoAt 130 r = none from hno 130 (by omega) (by omega), show twoAt 131 r = some b from h]; rfl
  · rw [show twoAt 130 r = none from hno 130 (by omega) (by omega), show twoAt 131 r = none from hno 131 (by omega) (by omega), show twoAt 132 r = some b from h]; rfl
theorem twosAt_none {r : Int} (hno : ∀ c : Nat, 130 ≤ c → c < 133 → twoAt c r = none) : twosAt r = none := by
  unfold twosAt
  rw [show twoAt 130 r = none from hno 130 (by omega) (by omega), show twoAt 131 r = none from hno 131 (by omega) (by omega), show twoAt 132 r = none from hno 132 (by omega) (by omega)]

end Go.Proofs.YtnnpkognnbolcaaDoor
