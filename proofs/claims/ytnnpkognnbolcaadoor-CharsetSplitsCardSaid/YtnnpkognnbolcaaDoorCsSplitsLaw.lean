/-
  The walk of the law 'CharsetSplits': two characters' bytes, one behind the other, are their two pieces.
-/
import Derived.Test.YtnnpkognnbolcaaDoorCsPiecesLaw
namespace Go.Proofs.YtnnpkognnbolcaaDoor
open Go.RowKit
set_option linter.unusedVariables false

theorem split_two {enc r s : Int} {x y : ByteArray} (h0 : 0 ≤ enc) (hx : encB enc r = some x.data.toList) (hy : encB enc s = some y.data.toList) :
    piecesL enc (x ++ y).data.toList = [(r, x.size), (s, y.size)] := by
  have e : (x ++ y).data.toList = x.data.toList ++ y.data.toList := by simp
  have hxl : x.data.toList.length = x.size := by simp
  have hyl : y.data.toList.length = y.size := by simp
  obtain ⟨n1, p1⟩ := enc_piece h0 hx y.data.toList
  obtain ⟨n2, p2⟩ := enc_piece h0 hy []
  rw [List.append_nil, hyl] at p2
  rw [hxl] at p1
  have hne : x.data.toList ++ y.data.toList ≠ [] := by
    intro h
    exact n1 (List.append_eq_nil_iff.1 h).1
  rw [e, piecesL_step h0 hne, p1]
  simp only
  rw [← hxl, List.drop_left, piecesL_step h0 n2, p2]
  simp only
  rw [← hyl, List.drop_length, piecesL_nil]

theorem bsZ_short {enc r : Int} {zs : List Int} (h : encI enc r = some zs) (h0 : 0 ≤ enc) : (bsZ zs).size ≤ 4 := by
  have hz : (bsZ zs).size = zs.length := by
    have h1 : (bsZ zs).data.toList.length = (bsZ zs).size := by simp
    rw [← h1]
    simp [bsZ]
  have h4 := Lib.encodeRuneZ_length r
  have : zs.length ≤ 4 := by
    unfold encI at h
    by_cases hr : isR r = false
    · rw [if_pos hr] at h; cases h
    · rw [if_neg hr] at h
      by_cases h7 : 7 ≤ enc
      · rw [if_pos h7] at h; cases h; omega
      · rw [if_neg h7] at h
        cases ho : oneAt enc r with
        | some b => rw [ho] at h; cases h; simp
        | none =>
          rw [ho] at h
          by_cases h6 : enc = 6
          · simp only [h6, if_true] at h
            obtain ⟨a, b, ha, hb, rfl, hab⟩ := twosAt_spec h
            simp
          · simp only [if_neg h6] at h
            cases h
  omega

set_option maxHeartbeats 2000000 in
theorem splits_walk (en r s : Int) (he : 0 ≤ en) (he' : en ≤ 255) (hr : -2147483648 ≤ r) (hr' : r ≤ 2147483647) (hs : -2147483648 ≤ s) (hs' : s ≤ 2147483647) (w : World) (hT : Tabs w) :
    Calls Tryd.prog 3 #[.int .u8 en, .int .i32 r, .int .i32 s] w fun e w' => e = .returned (.bool true) ∧ Below w.heap.size w w' := by
  obtain ⟨c, hc⟩ : ∃ c, en % 9 = c := ⟨_, rfl⟩
  have h0 : 0 ≤ c := by omega
  have h8 : c ≤ 8 := by omega
  have cE := fun w => encode_c c r hr hr' w
  have cF := fun w => encode_c c s hs hs' w
  have z1 : encZ c r = encI c r := by unfold encZ; rw [if_pos ⟨h0, h8⟩]
  have z2 : encZ c s = encI c s := by unfold encZ; rw [if_pos ⟨h0, h8⟩]
  rw [z1] at cE
  rw [z2] at cF
  have cA := fun w => awake2_c w
  clear z1 z2
  have hE : ∀ {w1 w2 w3 w4 : World}, Below w.heap.size w w1 → Below w1.heap.size w1 w2 → Below w2.heap.size w2 w3 → Below w3.heap.size w3 w4 → Below w.heap.size w w4 := fun h1 h2 h3 h4 => below_step h1 (below_step h2 (below_step h3 h4))
  cases hx : encI c r with
  | none =>
    rw [hx] at cE
    have cE' : ∀ w, Calls Tryd.prog 8 #[.int .i64 c, .int .i32 r] w fun e w' => e = .returned (.tuple #[.string ⟨#[]⟩, .bool false]) ∧ Below w.heap.size w w' := cE
    cases hy : encI c s with
    | none =>
      rw [hy] at cF
      have cF' : ∀ w, Calls Tryd.prog 8 #[.int .i64 c, .int .i32 s] w fun e w' => e = .returned (.tuple #[.string ⟨#[]⟩, .bool false]) ∧ Below w.heap.size w w' := cF
      clear cE cF hx hy hT
      go_enter Tryd.func3, Tryd.ntmps3
      go_wp2_with fail
      refine (cE' _).mono ?_
      rintro e w1 ⟨rfl, hb1⟩
      go_wp2_with fail
      refine (cF' _).mono ?_
      rintro e w2 ⟨rfl, hb2⟩
      go_wp2_with fail
      refine (cA _).mono ?_
      rintro e w3 ⟨rfl, hb3⟩
      go_wp2_with fail
      refine (cA _).mono ?_
      rintro e w4 ⟨rfl, hb4⟩
      go_wp2
      go_ret
      exact ⟨rfl, hE hb1 hb2 hb3 hb4⟩
    | some zs =>
      rw [hy] at cF
      have cF' : ∀ w, Calls Tryd.prog 8 #[.int .i64 c, .int .i32 s] w fun e w' => e = .returned (.tuple #[.string (bsZ zs), .bool true]) ∧ Below w.heap.size w w' := cF
      generalize bsZ zs = bs at *
      clear cE cF hx hy hT
      go_enter Tryd.func3, Tryd.ntmps3
      go_wp2_with fail
      refine (cE' _).mono ?_
      rintro e w1 ⟨rfl, hb1⟩
      go_wp2_with fail
      refine (cF' _).mono ?_
      rintro e w2 ⟨rfl, hb2⟩
      go_wp2_with fail
      refine (cA _).mono ?_
      rintro e w3 ⟨rfl, hb3⟩
      go_wp2_with fail
      refine (cA _).mono ?_
      rintro e w4 ⟨rfl, hb4⟩
      go_wp2
      go_ret
      exact ⟨rfl, hE hb1 hb2 hb3 hb4⟩
  | some zr =>
    rw [hx] at cE
    have cE' : ∀ w, Calls Tryd.prog 8 #[.int .i64 c, .int .i32 r] w fun e w' => e = .returned (.tuple #[.string (bsZ zr), .bool true]) ∧ Below w.heap.size w w' := cE
    cases hy : encI c s with
    | none =>
      rw [hy] at cF
      have cF' : ∀ w, Calls Tryd.prog 8 #[.int .i64 c, .int .i32 s] w fun e w' => e = .returned (.tuple #[.string ⟨#[]⟩, .bool false]) ∧ Below w.heap.size w w' := cF
      generalize bsZ zr = bs at *
      clear cE cF hx hy hT
      go_enter Tryd.func3, Tryd.ntmps3
      go_wp2_with fail
      refine (cE' _).mono ?_
      rintro e w1 ⟨rfl, hb1⟩
      go_wp2_with fail
      refine (cF' _).mono ?_
      rintro e w2 ⟨rfl, hb2⟩
      go_wp2_with fail
      refine (cA _).mono ?_
      rintro e w3 ⟨rfl, hb3⟩
      go_wp2_with fail
      refine (cA _).mono ?_
      rintro e w4 ⟨rfl, hb4⟩
      go_wp2
      go_ret
      exact ⟨rfl, hE hb1 hb2 hb3 hb4⟩
    | some zs =>
      rw [hy] at cF
      have cF' : ∀ w, Calls Tryd.prog 8 #[.int .i64 c, .int .i32 s] w fun e w' => e = .returned (.tuple #[.string (bsZ zs), .bool true]) ∧ Below w.heap.size w w' := cF
      have hxl := bsZ_short hx h0
      have hyl := bsZ_short hy h0
      have hsp := split_two h0 (encZ_list2 c r zr hx) (encZ_list2 c s zs hy)
      generalize bsZ zr = bx at *
      generalize bsZ zs = by' at *
      have hxy : (bx ++ by').size = bx.size + by'.size := by simp
      have cP := fun w hT => pieces_in c h0 h8 (bx ++ by') (by omega) w hT
      rw [hsp] at cP
      have hlen : ¬ (9223372036854775807 < bx.size + by'.size) := by omega
      clear cE cF hx hy hsp
      go_enter Tryd.func3, Tryd.ntmps3
      go_wp2_with fail
      refine (cE' _).mono ?_
      rintro e w1 ⟨rfl, hb1⟩
      go_wp2_with fail
      refine (cF' _).mono ?_
      rintro e w2 ⟨rfl, hb2⟩
      go_wp2_with fail
      refine (cA _).mono ?_
      rintro e w3 ⟨rfl, hb3⟩
      go_wp2_with fail
      refine (cP _ (hT.step (below_step hb1 (below_step hb2 hb3)))).mono ?_
      rintro e w4 ⟨v, rfl, hv, hb4⟩
      rcases hv with ⟨hnil, _⟩ | ⟨g, cap, hg, rfl, hc⟩
      · cases hnil
      · have d0 := hc 0 (by simp)
        have d1 := hc 1 (by simp)
        have q0 : w4.cell? ⟨g, 0, none⟩ = some (.int .i32 r) := d0.1
        have q1 : w4.cell? ⟨g, 1, none⟩ = some (.int .i64 bx.size) := d0.2
        have q2 : w4.cell? ⟨g, 2, none⟩ = some (.int .i32 s) := d1.1
        have q3 : w4.cell? ⟨g, 3, none⟩ = some (.int .i64 by'.size) := d1.2
        have hE4 := hE hb1 hb2 hb3 hb4
        clear hc d0 d1
        have e2 : [(r, bx.size), (s, by'.size)].length = 2 := rfl
        rw [e2]
        clear e2
        go_wp2
        go_ret
        exact ⟨rfl, hE4⟩
end Go.Proofs.YtnnpkognnbolcaaDoor
