/-
  Plain facts: what stands at a place of a text ('nextG'), against what stands at the head of a list ('nextL').
-/
import Derived.Test.YtjakelphkehonaaHit
import Derived.Shelf.Unicode.DecodeSlow
import Derived.Lib.Hide
import Derived.Below
import Derived.PlainAid
namespace Go.Proofs.Ytjakelphkehonaa
open Go.RowKit
set_option linter.unusedVariables false

/-- The character at a place, and how many bytes it has. -/
def nextG (b : ByteArray) (at' : Int) : Nat × Nat :=
  if at' < 0 ∨ (b.size : Int) ≤ at' then (0, 0) else if (Utf8.decode b at'.toNat).1 = 65533 ∧ (Utf8.decode b at'.toNat).2 = 1 then (0, 0) else Utf8.decode b at'.toNat

theorem nextG_out {b : ByteArray} {at' : Int} (h : at' < 0 ∨ (b.size : Int) ≤ at') : nextG b at' = (0, 0) := by unfold nextG; rw [if_pos h]
theorem nextG_bad {b : ByteArray} {at' : Int} (h : ¬ (at' < 0 ∨ (b.size : Int) ≤ at')) (h' : (Utf8.decode b at'.toNat).1 = 65533 ∧ (Utf8.decode b at'.toNat).2 = 1) : nextG b at' = (0, 0) := by unfold nextG; rw [if_neg h, if_pos h']
theorem nextG_good {b : ByteArray} {at' : Int} (h : ¬ (at' < 0 ∨ (b.size : Int) ≤ at')) (h' : ¬ ((Utf8.decode b at'.toNat).1 = 65533 ∧ (Utf8.decode b at'.toNat).2 = 1)) : nextG b at' = Utf8.decode b at'.toNat := by unfold nextG; rw [if_neg h, if_neg h']

theorem decodeGo_ext (s : ByteArray) (pos : Nat) (h : pos < s.size) : Lib.decodeGo (s.extract pos s.size) = Utf8.decode s pos := by
  unfold Lib.decodeGo
  have hz : (s.extract pos s.size).size ≠ 0 := by rw [ByteArray.size_extract]; omega
  rw [if_neg hz, ← Lib.decodeL_drop s pos]
  unfold Lib.decodeL
  congr 1
  apply ByteArray.ext
  rw [ByteArray.data_extract]
  apply Array.ext'
  rw [Array.toList_extract]
  simp only [List.extract_eq_take_drop]
  rw [List.take_of_length_le (by simp)]

theorem nextG_L {b : ByteArray} {k : Nat} (hk : k < b.size) : nextG b (k : Int) = nextL (b.data.toList.drop k) := by
  have hd := Lib.decodeL_drop b k
  have hne : b.data.toList.drop k ≠ [] := by
    intro h
    have := congrArg List.length h
    have hz : b.data.toList.length = b.size := by simp
    simp only [List.length_drop, List.length_nil] at this
    omega
  unfold nextG nextL
  rw [if_neg (by omega), if_neg hne, hd]
  have hn : ((k : Int)).toNat = k := by omega
  rw [hn]

theorem below_drewN {B : Nat} {a w : World} (h : Below B a w) : ∀ q, Below B a (w.drewN q)
  | 0 => h
  | q + 1 => (below_drewN h q).drew
theorem below_step {w wx w' : World} (h1 : Below w.heap.size w wx) (h2 : Below wx.heap.size wx w') : Below w.heap.size w w' := h1.trans (h2.mono h1.size)

theorem gB_bt (b : ByteArray) (k i : Nat) : (gB (b.data.toList.drop k) i : Int) = Go.PlainAid.bt b (k + i) := by
  unfold gB
  rw [List.getD_eq_getElem?_getD, List.getElem?_drop]
  by_cases h : k + i < b.size
  · have h' : k + i < b.data.toList.length := by simpa using h
    rw [List.getElem?_eq_getElem h', Option.getD_some, ← Go.PlainAid.get_bt b (k + i) h]
    rfl
  · have h' : b.data.toList.length ≤ k + i := by simpa using h
    rw [List.getElem?_eq_none h', Option.getD_none, Go.PlainAid.bt_end b (by omega)]
    rfl

theorem take_ext (b : ByteArray) (k s : Nat) : (b.extract k (k + s)).toList = (b.data.toList.drop k).take s := by
  rw [Go.Lib.toList_data, ByteArray.data_extract, Array.toList_extract]
  simp only [List.extract_eq_take_drop]
  congr 1
  omega

theorem hit_yes {b : ByteArray} {k s : Nat} {N : Int} (hfit : k + s ≤ b.size) (hN : (numL s (b.data.toList.drop k) : Int) = N) (hr : isR N = true) (hq : ((Utf8.encode N).toList == (b.extract k (k + s)).toList) = true) : Hit s (b.data.toList.drop k) := by
  have hq' := eq_of_beq hq
  rw [take_ext, Go.Lib.toList_data, encode_toList N hr] at hq'
  refine ⟨?_, by rw [hN]; exact hr, by rw [hN]; exact hq'⟩
  rw [List.length_drop]
  have hz : b.data.toList.length = b.size := by simp
  omega
theorem hit_no {b : ByteArray} {k s : Nat} {N : Int} (hN : (numL s (b.data.toList.drop k) : Int) = N) (hr : isR N = true) (hq : ((Utf8.encode N).toList == (b.extract k (k + s)).toList) = false) : ¬ Hit s (b.data.toList.drop k) := by
  rintro ⟨h1, h2, h3⟩
  rw [hN] at h3
  have : ((Utf8.encode N).toList == (b.extract k (k + s)).toList) = true := by
    rw [take_ext, Go.Lib.toList_data, encode_toList N hr, h3]
    exact beq_self_eq_true _
  rw [this] at hq
  cases hq
theorem hit_not {b : ByteArray} {k s : Nat} {N : Int} (hN : (numL s (b.data.toList.drop k) : Int) = N) (hr : isR N = false) : ¬ Hit s (b.data.toList.drop k) := by
  rintro ⟨h1, h2, h3⟩
  rw [hN, hr] at h2
  cases h2
theorem hit_long {b : ByteArray} {k s : Nat} (h : b.size < k + s) (hk : k < b.size) : ¬ Hit s (b.data.toList.drop k) := by
  rintro ⟨h1, h2, h3⟩
  rw [List.length_drop] at h1
  have hz : b.data.toList.length = b.size := by simp
  omega

end Go.Proofs.Ytjakelphkehonaa
