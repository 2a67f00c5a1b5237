/-
  What is proved: for each number the law 'UtfCharacters' answers true: it is told whether it is a character, its bytes are the document's, and it is read from them again. Condition: the two tables of package unicode/utf8 read as their text lays them (the card ties them).
-/
import Derived.Test.YtjcnnbakadbccaaDoorRows
import Derived.Test.YtjcnnbakadbccaaDoorRef
import Derived.WalkKit
namespace Go.Proofs.YtjcnnbakadbccaaDoor
open Go.RowKit
set_option linter.unusedVariables false

theorem bsOf_yes {r : Int} (h : isR r = true) : bsOf r = Utf8.encode r := by unfold bsOf; rw [if_pos h]
theorem encode_size (r : Int) (h : isR r = true) : (Utf8.encode r).size = (Lib.encodeRune r).length := by
  show (Utf8.encode r).data.size = _
  rw [← Array.length_toList, encode_toList r h]
theorem decodeL_bytes (s : ByteArray) : Lib.decodeL s.data.toList = Utf8.decode s 0 := by
  have := Lib.decodeL_drop s 0
  rwa [List.drop_zero] at this
theorem nextG_enc (r : Int) (h : isR r = true) : nextG (Utf8.encode r) 0 = (r.toNat, (Utf8.encode r).size) := by
  have hd := dec_enc r h []
  rw [List.append_nil, ← encode_toList r h, decodeL_bytes] at hd
  rw [encode_toList r h, ← encode_size r h] at hd
  have hl := (Lib.encodeRuneZ_length r).1
  have hs : (Utf8.encode r).size = (Lib.encodeRuneZ r).length := by rw [encode_size r h]; simp [Lib.encodeRune]
  have hr := isR_is h
  by_cases hb : r = 65533
  · subst hb
    decide +kernel
  · unfold nextG
    rw [if_neg (by omega)]
    have h0 : (0 : Int).toNat = 0 := rfl
    rw [h0, hd]
    rw [if_neg (by simp only; omega)]

set_option maxHeartbeats 1000000 in
theorem chars_walk (r : Int) (w : World) (hT : Tabs w) :
    Calls Tryd.prog 3 #[.int .i32 r] w fun e w' => e = .returned (.bool true) ∧ Below w.heap.size w w' := by
  have cB := bytes_c r w
  have cA := awake_c w
  have cI := is_c r w
  have cJ := refIs_c r w
  by_cases h : isR r = true
  · have cR := refBytes_c r h
    have cN := next_c (Utf8.encode r) 0 (by omega) (by omega) (by rw [encode_size r h]; have := (Lib.encodeRuneZ_length r).2; simp [Lib.encodeRune]; omega) w hT
    rw [nextG_enc r h] at cN
    have hr := isR_is h
    have hn : ((r.toNat : Nat) : Int) = r := by omega
    simp only [hn] at cN
    rw [bsOf_yes h] at cB
    rw [h] at cI cJ
    clear hn hr h hT
    generalize Utf8.encode r = s at *
    go_enter Tryd.func3, Tryd.ntmps3
    go_wp2_with (first | (go_at_call 7; refine cB.mono ?_; rintro e w' ⟨rfl, rfl⟩) | (go_at_call 8; refine cA.mono ?_; rintro e w' ⟨rfl, rfl⟩) | (go_at_call 9; refine cI.mono ?_; rintro e w' ⟨rfl, rfl⟩) | (go_at_call 10; refine cJ.mono ?_; rintro e w' ⟨rfl, rfl⟩) | (go_at_call 11; refine cN.mono ?_; rintro e w1 ⟨rfl, hb1⟩) | (go_at_call 12; refine (cR _).mono ?_; rintro e w2 ⟨rfl, hb2⟩))
    go_ret
    exact ⟨rfl, hb1.trans (hb2.mono (by have := hb1.size; omega))⟩
  · have h' : isR r = false := by simpa using h
    rw [bsOf_none h'] at cB
    rw [h'] at cI cJ
    clear h h' hT
    go_enter Tryd.func3, Tryd.ntmps3
    go_wp2_with (first | (go_at_call 7; refine cB.mono ?_; rintro e w' ⟨rfl, rfl⟩) | (go_at_call 8; refine cA.mono ?_; rintro e w' ⟨rfl, rfl⟩) | (go_at_call 9; refine cI.mono ?_; rintro e w' ⟨rfl, rfl⟩) | (go_at_call 10; refine cJ.mono ?_; rintro e w' ⟨rfl, rfl⟩))
    go_ret
    exact ⟨rfl, Below.refl _ _⟩
end Go.Proofs.YtjcnnbakadbccaaDoor
