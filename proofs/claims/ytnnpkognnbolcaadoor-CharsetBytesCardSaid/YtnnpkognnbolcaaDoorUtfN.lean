/-
  The contract of utf.Next, where the two tables of unicode/utf8 lie as they are laid: it returns what 'nextG' says; what lay in memory stays.
-/
import Derived.Test.YtnnpkognnbolcaaDoorUtfB
import Derived.Test.YtnnpkognnbolcaaDoorNextG
import Derived.Test.YtnnpkognnbolcaaDoorShelf
import Derived.WalkKit
import Derived.WalkSpells
import Derived.IntWalk
import Derived.Lib.Hide
namespace Go.Proofs.YtnnpkognnbolcaaDoor
open Go.RowKit
set_option linter.unusedVariables false

def Tabs (w : World) : Prop := Lib.Utf8Tabs 0 1 w
theorem Tabs.below {B : Nat} {w w' : World} (h : Tabs w) (hB : 1 < B) (hb : Below B w w') : Tabs w' :=
  ⟨fun c hc => by rw [hb.cell (p := ⟨_, c, none⟩) (by show 0 < B; omega)]; exact h.1 c hc,
   fun i hi => ⟨by rw [hb.cell (p := ⟨_, 2 * i, none⟩) (by show 1 < B; omega)]; exact (h.2 i hi).1, by rw [hb.cell (p := ⟨_, 2 * i + 1, none⟩) (by show 1 < B; omega)]; exact (h.2 i hi).2⟩⟩
theorem Tabs.lt {w : World} (h : Tabs w) : 1 < w.heap.size := by
  have := (h.2 0 (by omega)).1
  apply Decidable.byContradiction
  intro hn
  unfold World.cell? at this
  rw [Array.getElem?_eq_none (by show w.heap.size ≤ 1; omega)] at this
  simp at this
theorem Tabs.step {w w' : World} (h : Tabs w) (hb : Below w.heap.size w w') : Tabs w' := h.below h.lt hb

set_option maxHeartbeats 1000000 in
theorem next_c (b : ByteArray) (at' : Int) (hlo : -9223372036854775808 ≤ at') (hhi : at' ≤ 9223372036854775807) (hs : b.size ≤ 9223372036854775807) (w : World) (hT : Tabs w) :
    Calls Tryd.prog 28 #[.string b, .int .i64 at'] w fun e w' => e = .returned (.tuple #[.int .i32 (nextG b at').1, .int .i64 (nextG b at').2]) ∧ Below w.heap.size w w' := by
  by_cases h0 : at' < 0
  · rw [nextG_out (Or.inl h0)]
    clear hT
    go_enter Tryd.func28, Tryd.ntmps28
    go_wp2
    go_ret2
    exact ⟨rfl, Below.refl _ _⟩
  · by_cases h1 : (b.size : Int) ≤ at'
    · rw [nextG_out (Or.inr h1)]
      clear hT
      go_enter Tryd.func28, Tryd.ntmps28
      go_wp2
      go_ret2
      exact ⟨rfl, Below.refl _ _⟩
    · have hin : ¬ (at' < 0 ∨ (b.size : Int) ≤ at') := by omega
      obtain ⟨k, rfl⟩ : ∃ k : Nat, at' = (k : Int) := ⟨at'.toNat, by omega⟩
      have hk : k < b.size := by omega
      have hn : ((k : Int)).toNat = k := by omega
      have cD := Tryd.utf8_DecodeRuneInString (b.extract k b.size) w hT
      rw [decodeGo_ext b k hk] at cD
      by_cases hbad : (Utf8.decode b k).1 = 65533 ∧ (Utf8.decode b k).2 = 1
      · rw [nextG_bad hin (by rw [hn]; exact hbad)]
        rw [hbad.1, hbad.2] at cD
        clear hbad hin hn hT
        go_enter Tryd.func28, Tryd.ntmps28
        go_wp2_with (go_at_call 35; refine cD.mono ?_; rintro e w' ⟨rfl, hb⟩)
        go_ret2
        exact ⟨rfl, hb⟩
      · rw [nextG_good hin (by rw [hn]; exact hbad), hn]
        clear hin hn hT
        generalize (Utf8.decode b k).1 = R at *
        generalize (Utf8.decode b k).2 = K at *
        by_cases hR : R = 65533
        · subst hR
          have hK : ((K : Int) == 1) = false := by
            rw [beq_eq_false_iff_ne]; intro h; exact hbad ⟨rfl, by omega⟩
          clear hbad
          go_enter Tryd.func28, Tryd.ntmps28
          go_wp2_with (go_at_call 35; refine cD.mono ?_; rintro e w' ⟨rfl, hb⟩)
          go_ret2
          exact ⟨rfl, hb⟩
        · have hR' : ((R : Int) == 65533) = false := by
            rw [beq_eq_false_iff_ne]; intro h; exact hR (by omega)
          clear hbad hR
          go_enter Tryd.func28, Tryd.ntmps28
          go_wp2_with (go_at_call 35; refine cD.mono ?_; rintro e w' ⟨rfl, hb⟩)
          go_ret2
          exact ⟨rfl, hb⟩

end Go.Proofs.YtnnpkognnbolcaaDoor
