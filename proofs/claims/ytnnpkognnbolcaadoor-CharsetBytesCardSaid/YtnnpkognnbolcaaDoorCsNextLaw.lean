/-
  The walk of the law 'CharsetNext': at each place of all bytes up to 100, of all encodings, the piece is the reference's.
-/
import Derived.Test.YtnnpkognnbolcaaDoorCsAwake
import Derived.Test.YtnnpkognnbolcaaDoorR2Next
namespace Go.Proofs.YtnnpkognnbolcaaDoor
open Go.RowKit
set_option linter.unusedVariables false

theorem pieceI_L {enc : Int} {b : ByteArray} {k : Nat} (hk : k < b.size) : pieceI enc b k = ((pieceL enc (b.data.toList.drop k)).1, ((pieceL enc (b.data.toList.drop k)).2 : Int)) := by
  have hz : b.data.toList.length = b.size := by simp
  have g0 := gB_bt b k 0
  have g1 := gB_bt b k 1
  rw [Nat.add_zero] at g0
  unfold pieceI pieceL
  rw [← g0, ← g1, nextG_L hk, List.length_drop, hz]
  by_cases h7 : 7 ≤ enc
  · rw [if_pos h7, if_pos h7]
    by_cases h0 : (nextL (b.data.toList.drop k)).2 = 0
    · rw [if_pos h0, if_pos h0]; rfl
    · rw [if_neg h0, if_neg h0]
  · rw [if_neg h7, if_neg h7]
    generalize twoI (gB (b.data.toList.drop k) 0) (gB (b.data.toList.drop k) 1) = t
    generalize oneI enc (gB (b.data.toList.drop k) 0) = u
    by_cases h : enc = 6 ∧ k + 1 < b.size ∧ 0 ≤ t
    · rw [if_pos h, if_pos ⟨h.1, by omega, h.2.2⟩]; rfl
    · rw [if_neg h, if_neg (fun g => h ⟨g.1, by omega, g.2.2⟩)]; rfl

theorem pieceL_range {enc : Int} {l : List UInt8} (h0 : 0 ≤ enc) (hne : l ≠ []) : -1 ≤ (pieceL enc l).1 ∧ (pieceL enc l).1 ≤ 1114111 ∧ 1 ≤ (pieceL enc l).2 ∧ (pieceL enc l).2 ≤ l.length := by
  have hlp : 0 < l.length := List.length_pos_iff.2 hne
  rcases piece_enc h0 hne with ⟨h1, h2⟩ | ⟨h1, h2, h3, h4⟩
  · omega
  · have hr : isR (pieceL enc l).1 = true := by
      apply Decidable.byContradiction
      intro hn
      unfold encB encI at h4
      rw [if_pos (by simpa using hn)] at h4
      cases h4
    have := isR_is hr
    omega

set_option maxHeartbeats 2000000 in
theorem csnext_walk (enc : Int) (b : ByteArray) (k : Int) (hlo : -9223372036854775808 ≤ k) (hhi : k ≤ 9223372036854775807) (hs : b.size ≤ 9223372036854775807) (w : World) (hT : Tabs w) :
    Calls Tryd.prog 4 #[.int .i64 enc, .string b, .int .i64 k] w fun e w' => e = .returned (.bool true) ∧ Below w.heap.size w w' := by
  by_cases h100 : b.size ≤ 100
  · have hz : (b.size : Int) ≤ 100 := by omega
    have cA := fun w => awake2_c w
    have cN := fun w (hT : Tabs w) => next2_c enc b k hlo hhi hs w hT
    have cR := right_c enc
    by_cases hin : 0 ≤ enc ∧ enc ≤ 8 ∧ 0 ≤ k ∧ k < b.size
    · obtain ⟨h0, h8, hk0, hk1⟩ := hin
      obtain ⟨n, rfl⟩ : ∃ n : Nat, k = (n : Int) := ⟨k.toNat, by omega⟩
      have hn : n < b.size := by omega
      have cF := fun w => r2next_c enc h0 h8 b n hn (by omega) w
      have hne : b.data.toList.drop n ≠ [] := by
        intro h
        have := congrArg List.length h
        have hz : b.data.toList.length = b.size := by simp
        rw [List.length_drop, List.length_nil] at this
        omega
      have hrg := pieceL_range (enc := enc) h0 hne
      rw [pieceI_L hn] at cF
      simp only [pieceZ_in h0 h8 hn] at cN
      rw [decide_eq_true ⟨h0, h8⟩] at cR
      generalize (pieceL enc (b.data.toList.drop n)).1 = P at *
      generalize (pieceL enc (b.data.toList.drop n)).2 = K at *
      have cN' : ∀ w, Tabs w → Calls Tryd.prog 11 #[.int .i64 enc, .string b, .int .i64 n] w fun e w' => e = .returned (.agg #[.int .i32 P, .int .i64 K]) ∧ Below w.heap.size w w' := cN
      have hw1 : wrap64 P = P := by unfold wrap64; omega
      clear cN
      clear hrg hne hlo hhi hs h100 hn
      go_enter Tryd.func4, Tryd.ntmps4
      go_wp2_with fail
      refine (cA _).mono ?_
      rintro e w1 ⟨rfl, hb1⟩
      go_wp2_with fail
      refine (cN' _ (hT.step hb1)).mono ?_
      rintro e w2 ⟨rfl, hb2⟩
      go_wp2_with (go_at_call 12; refine (cR _).mono ?_; rintro e w' ⟨rfl, rfl⟩)
      refine (cF _).mono ?_
      rintro e w3 ⟨rfl, hb3⟩
      have hlt : w2.heap.size < w3.heap.size := by have := hb3.size; simp at this; omega
      have q0 : w3.cell? ⟨w2.heap.size, 0, none⟩ = some (.int .i32 P) := (hb3.cell (p := ⟨w2.heap.size, 0, none⟩) (by simp)).trans (by simp)
      have q1 : w3.cell? ⟨w2.heap.size, 1, none⟩ = some (.int .i64 K) := (hb3.cell (p := ⟨w2.heap.size, 1, none⟩) (by simp)).trans (by simp)
      have hB : Below w.heap.size w w3 := (below_step hb1 hb2).trans ((((Below.refl w2.heap.size w2).alloc (Nat.le_refl _) _).trans (hb3.mono (by simp))).mono (by have h1 := hb1.size; have h2 := hb2.size; omega))
      clear hb1 hb2 hb3
      go_wp2
      go_ret
      exact ⟨rfl, hB⟩
    · have HX := Lib.hid (show pieceZ enc b k = (0, 0) from pieceZ_out hin)
      have cN' : ∀ w, Tabs w → Calls Tryd.prog 11 #[.int .i64 enc, .string b, .int .i64 k] w fun e w' => e = .returned (.agg #[.int .i32 0, .int .i64 0]) ∧ Below w.heap.size w w' := by
        simp only [HX.out] at cN
        exact cN
      clear cN HX
      have hE : ∀ w1 w2 : World, Below w.heap.size w w1 → Below w1.heap.size w1 w2 → ∀ o, Below w.heap.size w (w2.alloc o) := fun w1 w2 h1 h2 o => (below_step h1 h2).alloc (below_step h1 h2).size _
      by_cases h0 : enc < 0
      · rw [decide_eq_false (by omega)] at cR
        clear hin hlo hhi hs h100
        go_enter Tryd.func4, Tryd.ntmps4
        go_wp2_with fail
        refine (cA _).mono ?_
        rintro e w1 ⟨rfl, hb1⟩
        go_wp2_with fail
        refine (cN' _ (hT.step hb1)).mono ?_
        rintro e w2 ⟨rfl, hb2⟩
        go_wp2_with (go_at_call 12; refine (cR _).mono ?_; rintro e w' ⟨rfl, rfl⟩)
        go_ret
        exact ⟨rfl, hE _ _ hb1 hb2 _⟩
      · by_cases h8 : 8 < enc
        · rw [decide_eq_false (by omega)] at cR
          clear hin hlo hhi hs h100
          go_enter Tryd.func4, Tryd.ntmps4
          go_wp2_with fail
          refine (cA _).mono ?_
          rintro e w1 ⟨rfl, hb1⟩
          go_wp2_with fail
          refine (cN' _ (hT.step hb1)).mono ?_
          rintro e w2 ⟨rfl, hb2⟩
          go_wp2_with (go_at_call 12; refine (cR _).mono ?_; rintro e w' ⟨rfl, rfl⟩)
          go_ret
          exact ⟨rfl, hE _ _ hb1 hb2 _⟩
        · rw [decide_eq_true (by omega)] at cR
          by_cases hk : k < 0
          · clear hin hlo hhi hs h100
            go_enter Tryd.func4, Tryd.ntmps4
            go_wp2_with fail
            refine (cA _).mono ?_
            rintro e w1 ⟨rfl, hb1⟩
            go_wp2_with fail
            refine (cN' _ (hT.step hb1)).mono ?_
            rintro e w2 ⟨rfl, hb2⟩
            go_wp2_with (go_at_call 12; refine (cR _).mono ?_; rintro e w' ⟨rfl, rfl⟩)
            go_ret
            exact ⟨rfl, hE _ _ hb1 hb2 _⟩
          · have hk1 : (b.size : Int) ≤ k := by omega
            clear hin hlo hhi hs h100
            go_enter Tryd.func4, Tryd.ntmps4
            go_wp2_with fail
            refine (cA _).mono ?_
            rintro e w1 ⟨rfl, hb1⟩
            go_wp2_with fail
            refine (cN' _ (hT.step hb1)).mono ?_
            rintro e w2 ⟨rfl, hb2⟩
            go_wp2_with (go_at_call 12; refine (cR _).mono ?_; rintro e w' ⟨rfl, rfl⟩)
            go_ret
            exact ⟨rfl, hE _ _ hb1 hb2 _⟩
  · have hz : (100 : Int) < (b.size : Int) := by omega
    clear hlo hhi h100 hT
    go_enter Tryd.func4, Tryd.ntmps4
    go_wp2_with fail
    refine (awake2_c _).mono ?_
    rintro e w1 ⟨rfl, hb1⟩
    go_wp2_with fail
    refine (awake2_c _).mono ?_
    rintro e w2 ⟨rfl, hb2⟩
    go_wp2
    go_ret
    exact ⟨rfl, below_step hb1 hb2⟩
end Go.Proofs.YtnnpkognnbolcaaDoor
