/-
  The walk of the law 'CharsetEncode': of all encodings, and numbers, the bytes are the reference's; the character is read from them again.
-/
import Derived.Test.YtnnpkognnbolcaaDoorCsNextLaw
import Derived.Test.YtnnpkognnbolcaaDoorR2Kana
namespace Go.Proofs.YtnnpkognnbolcaaDoor
open Go.RowKit
set_option linter.unusedVariables false

theorem encZ_list2 (enc r : Int) (zs : List Int) (h : encI enc r = some zs) : encB enc r = some (bsZ zs).data.toList := by
  unfold encB
  rw [h]
  simp [bsZ]
theorem bsZ_pos {enc r : Int} {zs : List Int} (h0 : 0 ≤ enc) (h : encI enc r = some zs) : 0 < (bsZ zs).size := by
  have h1 := (enc_piece h0 (encZ_list2 enc r zs h) []).1
  have hz : (bsZ zs).data.toList.length = (bsZ zs).size := by simp
  rw [← hz]
  exact List.length_pos_iff.2 h1
theorem enc_read {enc r : Int} {zs : List Int} (h0 : 0 ≤ enc) (h8 : enc ≤ 8) (h : encI enc r = some zs) : pieceZ enc (bsZ zs) 0 = (r, ((bsZ zs).size : Int)) := by
  have hp := bsZ_pos h0 h
  have h1 := (enc_piece h0 (encZ_list2 enc r zs h) []).2
  have hz : (bsZ zs).data.toList.length = (bsZ zs).size := by simp
  rw [List.append_nil, hz] at h1
  have h2 := pieceZ_in (enc := enc) (b := bsZ zs) (k := 0) h0 h8 hp
  rw [List.drop_zero, h1] at h2
  exact h2
theorem bsZ_small {enc r : Int} {zs : List Int} (h : encI enc r = some zs) (h0 : 0 ≤ enc) : (bsZ zs).size ≤ 9223372036854775807 := by
  have hz : (bsZ zs).size = zs.length := by
    have h1 : (bsZ zs).data.toList.length = (bsZ zs).size := by simp
    rw [← h1]
    simp [bsZ]
  have h4 := Lib.encodeRuneZ_length r
  have : zs.length ≤ 4 := by
    unfold encI at h
    by_cases hr : isR r = false
    · rw [if_pos hr] at h; cases h
    · rw [if_neg hr] at h
      by_cases h7 : 7 ≤ enc
      · rw [if_pos h7] at h; cases h; omega
      · rw [if_neg h7] at h
        cases ho : oneAt enc r with
        | some b => rw [ho] at h; cases h; simp
        | none =>
          rw [ho] at h
          by_cases h6 : enc = 6
          · simp only [h6, if_true] at h
            obtain ⟨a, b, ha, hb, rfl, hab⟩ := twosAt_spec h
            simp
          · simp only [if_neg h6] at h
            cases h
  omega
theorem encI_isR {enc r : Int} {zs : List Int} (h : encI enc r = some zs) : isR r = true := by
  apply Decidable.byContradiction
  intro hn
  unfold encI at h
  rw [if_pos (by simpa using hn)] at h
  cases h

set_option maxHeartbeats 2000000 in
theorem csenc_walk (enc r : Int) (hlo : -2147483648 ≤ r) (hhi : r ≤ 2147483647) (w : World) (hT : Tabs w) :
    Calls Tryd.prog 5 #[.int .i64 enc, .int .i32 r] w fun e w' => e = .returned (.bool true) ∧ Below w.heap.size w w' := by
  have cA := fun w => awake2_c w
  have cE := fun w => encode_c enc r hlo hhi w
  by_cases hin : 0 ≤ enc ∧ enc ≤ 8
  · obtain ⟨h0, h8⟩ := hin
    have cR := fun w => enc_c enc r h0 hlo hhi w
    have hz : encZ enc r = encI enc r := by unfold encZ; rw [if_pos ⟨h0, h8⟩]
    rw [hz] at cE
    have hw1 : wrap64 r = r := by unfold wrap64; omega
    cases hI : encI enc r with
    | none =>
      rw [hI] at cE cR
      have cE' : ∀ w, Calls Tryd.prog 8 #[.int .i64 enc, .int .i32 r] w fun e w' => e = .returned (.tuple #[.string ⟨#[]⟩, .bool false]) ∧ Below w.heap.size w w' := cE
      have cR' : ∀ w, Calls Tryd.prog 14 #[.int .i64 enc, .int .i64 r] w fun e w' => e = .returned (.tuple #[.string ⟨#[]⟩, .bool false]) ∧ Below w.heap.size w w' := cR
      clear cE cR hI hz hT
      go_enter Tryd.func5, Tryd.ntmps5
      go_wp2_with fail
      refine (cA _).mono ?_
      rintro e w1 ⟨rfl, hb1⟩
      go_wp2_with fail
      refine (cE' _).mono ?_
      rintro e w2 ⟨rfl, hb2⟩
      go_wp2_with fail
      refine (cR' _).mono ?_
      rintro e w3 ⟨rfl, hb3⟩
      go_wp2
      go_ret
      exact ⟨rfl, below_step hb1 (below_step hb2 hb3)⟩
    | some zs =>
      have hsm := bsZ_small hI h0
      have cN := fun w (hT : Tabs w) => next2_c enc (bsZ zs) 0 (by omega) (by omega) hsm w hT
      simp only [enc_read h0 h8 hI] at cN
      rw [hI] at cE cR
      have cE' : ∀ w, Calls Tryd.prog 8 #[.int .i64 enc, .int .i32 r] w fun e w' => e = .returned (.tuple #[.string (bsZ zs), .bool true]) ∧ Below w.heap.size w w' := cE
      have cR' : ∀ w, Calls Tryd.prog 14 #[.int .i64 enc, .int .i64 r] w fun e w' => e = .returned (.tuple #[.string (bsZ zs), .bool true]) ∧ Below w.heap.size w w' := cR
      have cN' : ∀ w, Tabs w → Calls Tryd.prog 11 #[.int .i64 enc, .string (bsZ zs), .int .i64 0] w fun e w' => e = .returned (.agg #[.int .i32 r, .int .i64 (bsZ zs).size]) ∧ Below w.heap.size w w' := cN
      generalize bsZ zs = bs at *
      clear cE cR cN hI hz
      go_enter Tryd.func5, Tryd.ntmps5
      go_wp2_with fail
      refine (cA _).mono ?_
      rintro e w1 ⟨rfl, hb1⟩
      go_wp2_with fail
      refine (cE' _).mono ?_
      rintro e w2 ⟨rfl, hb2⟩
      go_wp2_with fail
      refine (cR' _).mono ?_
      rintro e w3 ⟨rfl, hb3⟩
      go_wp2_with fail
      refine (cN' _ (hT.step (below_step hb1 (below_step hb2 hb3)))).mono ?_
      rintro e w4 ⟨rfl, hb4⟩
      go_wp2
      go_ret
      exact ⟨rfl, below_step hb1 (below_step hb2 (below_step hb3 hb4))⟩
  · have hz : encZ enc r = none := by unfold encZ; rw [if_neg hin]
    rw [hz] at cE
    have cE' : ∀ w, Calls Tryd.prog 8 #[.int .i64 enc, .int .i32 r] w fun e w' => e = .returned (.tuple #[.string ⟨#[]⟩, .bool false]) ∧ Below w.heap.size w w' := cE
    clear cE hz hT
    by_cases h0 : enc < 0
    · clear hin
      go_enter Tryd.func5, Tryd.ntmps5
      go_wp2_with fail
      refine (cA _).mono ?_
      rintro e w1 ⟨rfl, hb1⟩
      go_wp2_with fail
      refine (cE' _).mono ?_
      rintro e w2 ⟨rfl, hb2⟩
      go_wp2
      go_ret
      exact ⟨rfl, below_step hb1 hb2⟩
    · have h8 : 8 < enc := by omega
      clear hin
      go_enter Tryd.func5, Tryd.ntmps5
      go_wp2_with fail
      refine (cA _).mono ?_
      rintro e w1 ⟨rfl, hb1⟩
      go_wp2_with fail
      refine (cE' _).mono ?_
      rintro e w2 ⟨rfl, hb2⟩
      go_wp2
      go_ret
      exact ⟨rfl, below_step hb1 hb2⟩
end Go.Proofs.YtnnpkognnbolcaaDoor
