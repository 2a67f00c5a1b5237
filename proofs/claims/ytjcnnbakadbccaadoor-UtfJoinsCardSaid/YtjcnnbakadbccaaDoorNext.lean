/-
  The contracts of Next, and of the reference's Is and Bytes: what each returns, said by 'isR', 'Utf8.encode' and 'nextG'; what lay in memory stays.
-/
import Derived.Test.YtjcnnbakadbccaaDoorRows
import Derived.Test.YtjcnnbakadbccaaDoorBase
import Derived.Test.YtjcnnbakadbccaaDoorShelf
import Derived.WalkKit
import Derived.WalkSpells
import Derived.IntWalk
import Derived.Lib.Hide
namespace Go.Proofs.YtjcnnbakadbccaaDoor
open Go.RowKit
set_option linter.unusedVariables false

def Tabs (w : World) : Prop := Lib.Utf8Tabs 0 1 w
theorem Tabs.below {B : Nat} {w w' : World} (h : Tabs w) (hB : 1 < B) (hb : Below B w w') : Tabs w' :=
  ⟨fun c hc => by rw [hb.cell (p := ⟨_, c, none⟩) (by show 0 < B; omega)]; exact h.1 c hc,
   fun i hi => ⟨by rw [hb.cell (p := ⟨_, 2 * i, none⟩) (by show 1 < B; omega)]; exact (h.2 i hi).1, by rw [hb.cell (p := ⟨_, 2 * i + 1, none⟩) (by show 1 < B; omega)]; exact (h.2 i hi).2⟩⟩
theorem Tabs.lt {w : World} (h : Tabs w) : 1 < w.heap.size := by
  have := (h.2 0 (by omega)).1
  apply Decidable.byContradiction
  intro hn
  unfold World.cell? at this
  rw [Array.getElem?_eq_none (by show w.heap.size ≤ 1; omega)] at this
  simp at this
theorem Tabs.step {w w' : World} (h : Tabs w) (hb : Below w.heap.size w w') : Tabs w' := h.below h.lt hb

/-- The character at a place, and how many bytes it has. -/
def nextG (b : ByteArray) (at' : Int) : Nat × Nat :=
  if at' < 0 ∨ (b.size : Int) ≤ at' then (0, 0) else if (Utf8.decode b at'.toNat).1 = 65533 ∧ (Utf8.decode b at'.toNat).2 = 1 then (0, 0) else Utf8.decode b at'.toNat

theorem nextG_out {b : ByteArray} {at' : Int} (h : at' < 0 ∨ (b.size : Int) ≤ at') : nextG b at' = (0, 0) := by unfold nextG; rw [if_pos h]
theorem nextG_bad {b : ByteArray} {at' : Int} (h : ¬ (at' < 0 ∨ (b.size : Int) ≤ at')) (h' : (Utf8.decode b at'.toNat).1 = 65533 ∧ (Utf8.decode b at'.toNat).2 = 1) : nextG b at' = (0, 0) := by unfold nextG; rw [if_neg h, if_pos h']
theorem nextG_good {b : ByteArray} {at' : Int} (h : ¬ (at' < 0 ∨ (b.size : Int) ≤ at')) (h' : ¬ ((Utf8.decode b at'.toNat).1 = 65533 ∧ (Utf8.decode b at'.toNat).2 = 1)) : nextG b at' = Utf8.decode b at'.toNat := by unfold nextG; rw [if_neg h, if_neg h']

theorem decodeGo_ext (s : ByteArray) (pos : Nat) (h : pos < s.size) : Lib.decodeGo (s.extract pos s.size) = Utf8.decode s pos := by
  unfold Lib.decodeGo
  have hz : (s.extract pos s.size).size ≠ 0 := by rw [ByteArray.size_extract]; omega
  rw [if_neg hz, ← Lib.decodeL_drop s pos]
  unfold Lib.decodeL
  congr 1
  apply ByteArray.ext
  rw [ByteArray.data_extract]
  apply Array.ext'
  rw [Array.toList_extract]
  simp only [List.extract_eq_take_drop]
  rw [List.take_of_length_le (by simp)]

set_option maxHeartbeats 1000000 in
theorem next_c (b : ByteArray) (at' : Int) (hlo : -9223372036854775808 ≤ at') (hhi : at' ≤ 9223372036854775807) (hs : b.size ≤ 9223372036854775807) (w : World) (hT : Tabs w) :
    Calls Tryd.prog 11 #[.string b, .int .i64 at'] w fun e w' => e = .returned (.tuple #[.int .i32 (nextG b at').1, .int .i64 (nextG b at').2]) ∧ Below w.heap.size w w' := by
  by_cases h0 : at' < 0
  · rw [nextG_out (Or.inl h0)]
    clear hT
    go_enter Tryd.func11, Tryd.ntmps11
    go_wp2
    go_ret2
    exact ⟨rfl, Below.refl _ _⟩
  · by_cases h1 : (b.size : Int) ≤ at'
    · rw [nextG_out (Or.inr h1)]
      clear hT
      go_enter Tryd.func11, Tryd.ntmps11
      go_wp2
      go_ret2
      exact ⟨rfl, Below.refl _ _⟩
    · have hin : ¬ (at' < 0 ∨ (b.size : Int) ≤ at') := by omega
      obtain ⟨k, rfl⟩ : ∃ k : Nat, at' = (k : Int) := ⟨at'.toNat, by omega⟩
      have hk : k < b.size := by omega
      have hn : ((k : Int)).toNat = k := by omega
      have cD := Tryd.utf8_DecodeRuneInString (b.extract k b.size) w hT
      rw [decodeGo_ext b k hk] at cD
      by_cases hbad : (Utf8.decode b k).1 = 65533 ∧ (Utf8.decode b k).2 = 1
      · rw [nextG_bad hin (by rw [hn]; exact hbad)]
        rw [hbad.1, hbad.2] at cD
        clear hbad hin hn hT
        go_enter Tryd.func11, Tryd.ntmps11
        go_wp2_with (go_at_call 20; refine cD.mono ?_; rintro e w' ⟨rfl, hb⟩)
        go_ret2
        exact ⟨rfl, hb⟩
      · rw [nextG_good hin (by rw [hn]; exact hbad), hn]
        clear hin hn hT
        generalize (Utf8.decode b k).1 = R at *
        generalize (Utf8.decode b k).2 = K at *
        by_cases hR : R = 65533
        · subst hR
          have hK : ((K : Int) == 1) = false := by
            rw [beq_eq_false_iff_ne]; intro h; exact hbad ⟨rfl, by omega⟩
          clear hbad
          go_enter Tryd.func11, Tryd.ntmps11
          go_wp2_with (go_at_call 20; refine cD.mono ?_; rintro e w' ⟨rfl, hb⟩)
          go_ret2
          exact ⟨rfl, hb⟩
        · have hR' : ((R : Int) == 65533) = false := by
            rw [beq_eq_false_iff_ne]; intro h; exact hR (by omega)
          clear hbad hR
          go_enter Tryd.func11, Tryd.ntmps11
          go_wp2_with (go_at_call 20; refine cD.mono ?_; rintro e w' ⟨rfl, hb⟩)
          go_ret2
          exact ⟨rfl, hb⟩

set_option maxHeartbeats 400000 in
theorem refIs_c (r : Int) (w : World) :
    Calls Tryd.prog 10 #[.int .i32 r] w fun e w' => e = .returned (.bool (isR r)) ∧ w = w' := by
  by_cases h1 : 0 ≤ r
  · by_cases h2 : r < 55296
    · rw [isR_of (by omega)]
      go_enter Tryd.func10, Tryd.ntmps10
      go_wp2
      go_ret
      exact ⟨rfl, rfl⟩
    · by_cases h3 : 57343 < r
      · by_cases h4 : r ≤ 1114111
        · rw [isR_of (by omega)]
          go_enter Tryd.func10, Tryd.ntmps10
          go_wp2
          go_ret
          exact ⟨rfl, rfl⟩
        · rw [isR_not (by omega)]
          go_enter Tryd.func10, Tryd.ntmps10
          go_wp2
          go_ret
          exact ⟨rfl, rfl⟩
      · rw [isR_not (by omega)]
        go_enter Tryd.func10, Tryd.ntmps10
        go_wp2
        go_ret
        exact ⟨rfl, rfl⟩
  · have h3 : ¬ 57343 < r := by omega
    rw [isR_not (by omega)]
    go_enter Tryd.func10, Tryd.ntmps10
    go_wp2
    go_ret
    exact ⟨rfl, rfl⟩

end Go.Proofs.YtjcnnbakadbccaaDoor
