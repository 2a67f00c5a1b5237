/-
  The walk of the law 'CharsetPieces': of all bytes up to 100 the pieces are the reference's, one behind the other; those that are not bad are encoded as they were.
-/
import Derived.Test.YtnnpkognnbolcaaDoorCsPieces
import Derived.Test.YtnnpkognnbolcaaDoorCsEncLaw
namespace Go.Proofs.YtnnpkognnbolcaaDoor
open Go.RowKit
set_option linter.unusedVariables false

theorem enc_ext {enc P : Int} {b : ByteArray} {k K : Nat} (h : encB enc P = some ((b.data.toList.drop k).take K)) : ∃ zs, encI enc P = some zs ∧ bsZ zs = b.extract k (k + K) := by
  unfold encB at h
  obtain ⟨zs, hz, he⟩ := Option.map_eq_some_iff.1 h
  refine ⟨zs, hz, ?_⟩
  apply ByteArray.ext
  apply Array.ext'
  have h1 := take_ext b k K
  rw [Go.Lib.toList_data] at h1
  rw [h1, ← he]
  simp [bsZ]

/-- What holds at the head of a round of the law's loop: ahead of place k stand the first i pieces. -/
def RelW (enc : Int) (l : List UInt8) (w0 : World) (kv iv : Value) (wr : World) : Prop :=
  ∃ k i : Nat, k ≤ l.length ∧ kv = .int .i64 k ∧ i ≤ (piecesL enc l).length ∧ iv = .int .i64 i ∧ piecesL enc (l.drop k) = (piecesL enc l).drop i ∧ Below w0.heap.size w0 wr

theorem rel_in {enc : Int} (h0 : 0 ≤ enc) {l : List UInt8} {k i : Nat} (hi : i < (piecesL enc l).length) (h : piecesL enc (l.drop k) = (piecesL enc l).drop i) :
    l.drop k ≠ [] ∧ (piecesL enc l)[i] = pieceL enc (l.drop k) ∧ piecesL enc (l.drop (k + (pieceL enc (l.drop k)).2)) = (piecesL enc l).drop (i + 1) := by
  have hd := List.drop_eq_getElem_cons hi
  have hne : l.drop k ≠ [] := by
    intro hx
    rw [hx, piecesL_nil, hd] at h
    cases h
  rw [piecesL_step h0 hne, hd] at h
  injection h with h1 h2
  exact ⟨hne, h1.symm, by rw [← h2, List.drop_drop]⟩
theorem rel_end {enc : Int} (h0 : 0 ≤ enc) {l : List UInt8} {k i : Nat} (hi : (piecesL enc l).length ≤ i) (h : piecesL enc (l.drop k) = (piecesL enc l).drop i) : l.drop k = [] := by
  rw [List.drop_eq_nil_of_le hi] at h
  apply Decidable.byContradiction
  intro hne
  rw [piecesL_step h0 hne] at h
  cases h
theorem piecesL_len {enc : Int} (h0 : 0 ≤ enc) : ∀ (n : Nat) (l : List UInt8), l.length ≤ n → (piecesL enc l).length ≤ l.length
  | 0, l, h => by
    have : l = [] := List.eq_nil_of_length_eq_zero (by omega)
    subst this
    simp [piecesL_nil]
  | n + 1, l, h => by
    by_cases hne : l = []
    · subst hne; simp [piecesL_nil]
    · have h1 := (pieceL_range h0 hne).2.2.1
      have h2 : 0 < l.length := List.length_pos_iff.2 hne
      have h3 := piecesL_len h0 n (l.drop (pieceL enc l).2) (by rw [List.length_drop]; omega)
      rw [List.length_drop] at h3
      rw [piecesL_step h0 hne, List.length_cons]
      omega

set_option maxHeartbeats 3000000 in
set_option maxRecDepth 100000 in
theorem cspieces_in (enc : Int) (h0 : 0 ≤ enc) (h8 : enc ≤ 8) (b : ByteArray) (h100 : b.size ≤ 100) (w : World) (hT : Tabs w) :
    Calls Tryd.prog 6 #[.int .i64 enc, .string b] w fun e w' => e = .returned (.bool true) ∧ Below w.heap.size w w' := by
  have hsz : b.data.toList.length = b.size := by simp
  have hlen := piecesL_len h0 _ b.data.toList (Nat.le_refl _)
  have cA := fun w => awake2_c w
  have cP := fun w hT => pieces_in enc h0 h8 b (by omega) w hT
  have hz : (b.size : Int) ≤ 100 := by omega
  rw [hsz] at hlen
  obtain ⟨ps, hps⟩ : ∃ ps, piecesL enc b.data.toList = ps := ⟨_, rfl⟩
  rw [hps] at hlen
  simp only [hps] at cP
  have HZ := Lib.hid hsz
  have HPS := Lib.hid hps
  clear hsz hps
  go_enter Tryd.func6, Tryd.ntmps6
  go_wp2_with fail
  refine (cA _).mono ?_
  rintro e w1 ⟨rfl, hb1⟩
  go_wp2_with fail
  refine (cP _ (hT.step hb1)).mono ?_
  rintro e w2 ⟨v, rfl, hv, hb2⟩
  rcases hv with ⟨hnil, a, cap, rfl⟩ | ⟨g, cap, hg, rfl, hc⟩
  · have hb0 : b.size = 0 := by
      have h := rel_end h0 (l := b.data.toList) (k := 0) (i := 0) (by rw [HPS.out, hnil]; exact Nat.le_refl _) (by rw [List.drop_zero, List.drop_zero])
      rw [List.drop_zero] at h
      rw [← HZ.out, h]
      rfl
    have hbz : (b.size : Int) = 0 := by omega
    have hB := below_step hb1 hb2
    clear hlen hnil cA cP hb0
    go_wp2
    refine wp_loop_rounds 1 ?_
    rw [rounds_succ]
    go_wp2
    go_ret
    exact ⟨rfl, hB⟩
  · have HC := Lib.hid hc
    clear hc
    obtain ⟨n, hn⟩ : ∃ n, ps.length = n := ⟨_, rfl⟩
    rw [hn]
    rw [hn] at hlen
    have HN := Lib.hid hn
    clear hn
    go_wp2
    go_loopw [6, 7] (fun kv iv wr => RelW enc b.data.toList w2 kv iv wr) (fun _ iv _ => n - (intOf iv).toNat)
    case atStart => exact ⟨0, 0, by omega, rfl, by omega, rfl, by rw [List.drop_zero, List.drop_zero], Below.refl _ _⟩
    case round =>
      obtain ⟨k, i, hk, rfl, hi, rfl, hru, hbel⟩ := hrel
      rw [HPS.out, HN.out] at hi
      rw [HZ.out] at hk
      have HR := Lib.hid hru
      clear hru
      by_cases hlt : i < n
      · have hin : i < (piecesL enc b.data.toList).length := by rw [HPS.out, HN.out]; exact hlt
        obtain ⟨hne, hx, hnx⟩ := rel_in h0 hin HR.out
        have hrg := pieceL_range h0 hne
        rw [List.length_drop, HZ.out] at hrg
        have hkb : k < b.size := by
          apply Decidable.byContradiction
          intro hh
          exact hne (List.drop_eq_nil_of_le (by rw [HZ.out]; omega))
        have hpe := piece_enc h0 hne
        have hcell := HC.out i (by rw [HN.out]; exact hlt)
        have hpsi : ps[i]'(by rw [HN.out]; exact hlt) = pieceL enc (b.data.toList.drop k) := by rw [← hx]; simp only [HPS.out]
        rw [hpsi] at hcell
        have cF := fun w => r2next_c enc h0 h8 b k hkb (by omega) w
        rw [pieceI_L hkb] at cF
        obtain ⟨p, hp⟩ : ∃ p, pieceL enc (b.data.toList.drop k) = p := ⟨_, rfl⟩
        rw [hp] at hcell hrg hpe hnx
        simp only [hp] at cF
        obtain ⟨P, K⟩ := p
        obtain ⟨g1, g2, g3, g4⟩ : -1 ≤ P ∧ P ≤ 1114111 ∧ 1 ≤ K ∧ K ≤ b.size - k := hrg
        have cF' : ∀ w, Calls Tryd.prog 13 #[.int .i64 enc, .string b, .int .i64 k] w fun e w' => e = .returned (.tuple #[.int .i64 P, .int .i64 K]) ∧ Below w.heap.size w w' := cF
        have HNX := Lib.hid (show piecesL enc (b.data.toList.drop (k + K)) = (piecesL enc b.data.toList).drop (i + 1) from hnx)
        have q0 : wr.cell? ⟨g, i * 2, none⟩ = some (.int .i32 P) := by rw [hbel.cell (p := ⟨g, i * 2, none⟩) hg]; exact hcell.1
        have q1 : wr.cell? ⟨g, i * 2 + 1, none⟩ = some (.int .i64 K) := by rw [hbel.cell (p := ⟨g, i * 2 + 1, none⟩) hg]; exact hcell.2
        have hgr : g < wr.heap.size := by have := hbel.size; omega
        have hltz : (i : Int) < (n : Int) := by omega
        have hkz : (k : Int) < (b.size : Int) := by omega
        have cE := fun w => encode_c enc P (by omega) (by omega) w
        have hez : encZ enc P = encI enc P := by unfold encZ; rw [if_pos ⟨h0, h8⟩]
        rw [hez] at cE
        have hw1 : wrap64 P = P := by unfold wrap64; omega
        clear hcell hpsi hx hnx hne hp cF hin hez cA cP
        rcases hpe with ⟨e1, e2⟩ | ⟨e1, e2, e3, e4⟩
        · have e1' : P = -1 := e1
          have e2' : K = 1 := e2
          subst e1'
          subst e2'
          have hn : encI enc (-1) = none := by unfold encI; rw [if_pos (by decide)]
          rw [hn] at cE
          have cE' : ∀ w, Calls Tryd.prog 8 #[.int .i64 enc, .int .i32 (-1)] w fun e w' => e = .returned (.tuple #[.string ⟨#[]⟩, .bool false]) ∧ Below w.heap.size w w' := cE
          clear cE hn e1 e2
          go_wp2_with fail
          refine (cF' _).mono ?_
          rintro e w3 ⟨rfl, hb3⟩
          have q0' : w3.cell? ⟨g, i * 2, none⟩ = some (.int .i32 (-1)) := by rw [hb3.cell (p := ⟨g, i * 2, none⟩) hgr]; exact q0
          have q1' : w3.cell? ⟨g, i * 2 + 1, none⟩ = some (.int .i64 1) := by rw [hb3.cell (p := ⟨g, i * 2 + 1, none⟩) hgr]; exact q1
          go_wp2_with fail
          refine (cE' _).mono ?_
          rintro e w4 ⟨rfl, hb4⟩
          have hB4 := below_step hbel (below_step hb3 hb4)
          clear q0 q1 q0' q1' hb3 hb4 cE' cF'
          go_wp2
          go_roundw
          case rel => exact ⟨k + 1, i + 1, by rw [HZ.out]; omega, by go_num, by rw [HPS.out, HN.out]; omega, by go_num, HNX.out, hB4⟩
          case measure => simp [intOf]; omega
        · have e1' : 0 ≤ P := e1
          have e4' : encB enc P = some ((b.data.toList.drop k).take K) := e4
          obtain ⟨zs, hzs, hbs⟩ := enc_ext e4'
          rw [hzs] at cE
          have cE' : ∀ w, Calls Tryd.prog 8 #[.int .i64 enc, .int .i32 P] w fun e w' => e = .returned (.tuple #[.string (b.extract k (k + K)), .bool true]) ∧ Below w.heap.size w w' := by
            rw [← hbs]
            exact cE
          have hw0 : IntKind.i64.wrap ((k : Int) + (K : Int)) = (k : Int) + (K : Int) := IntWalk.i64_in _ (by omega)
          have hw2 : (0 : Int) ≤ (k : Int) + (K : Int) := by omega
          have hw3 : (k : Int) + (K : Int) ≤ (b.size : Int) := by omega
          have hw4 : (k : Int) ≤ (k : Int) + (K : Int) := by omega
          have hw5 : ((k : Int) + (K : Int)).toNat = k + K := by omega
          clear cE hzs hbs e1 e2 e3 e4 e4'
          go_wp2_with fail
          refine (cF' _).mono ?_
          rintro e w3 ⟨rfl, hb3⟩
          have q0' : w3.cell? ⟨g, i * 2, none⟩ = some (.int .i32 P) := by rw [hb3.cell (p := ⟨g, i * 2, none⟩) hgr]; exact q0
          have q1' : w3.cell? ⟨g, i * 2 + 1, none⟩ = some (.int .i64 K) := by rw [hb3.cell (p := ⟨g, i * 2 + 1, none⟩) hgr]; exact q1
          go_wp2_with fail
          refine (cE' _).mono ?_
          rintro e w4 ⟨rfl, hb4⟩
          have hB4 := below_step hbel (below_step hb3 hb4)
          clear q0 q1 q0' q1' hb3 hb4 cE' cF'
          go_wp2
          go_roundw
          case rel => exact ⟨k + K, i + 1, by rw [HZ.out]; omega, by go_num, by rw [HPS.out, HN.out]; omega, by go_num, HNX.out, hB4⟩
          case measure => simp [intOf]; omega
      · have hin : i = n := by omega
        have hkb : k = b.size := by
          have h := rel_end h0 (by rw [HPS.out, HN.out]; omega) HR.out
          have := congrArg List.length h
          rw [List.length_drop, HZ.out, List.length_nil] at this
          omega
        have hge : ¬ ((i : Int) < (n : Int)) := by omega
        have hkz : (k : Int) = (b.size : Int) := by omega
        have hB := below_step hb1 (below_step hb2 hbel)
        clear hin hkb cA cP
        go_wp2
        go_ret
        exact ⟨rfl, hB⟩
end Go.Proofs.YtnnpkognnbolcaaDoor
