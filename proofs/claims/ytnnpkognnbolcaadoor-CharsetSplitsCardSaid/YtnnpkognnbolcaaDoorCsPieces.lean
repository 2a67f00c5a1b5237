/-
  The contract of Pieces: all pieces of bytes, one behind the other, in a list of its own.
-/
import Derived.Test.YtnnpkognnbolcaaDoorCsNextLaw
import Derived.Deep.LoopGhost
namespace Go.Proofs.YtnnpkognnbolcaaDoor
open Go.RowKit
set_option linter.unusedVariables false

def piecesGo (enc : Int) : Nat → List UInt8 → List (Int × Nat)
  | 0, _ => []
  | n + 1, l => if l = [] then [] else pieceL enc l :: piecesGo enc n (l.drop (pieceL enc l).2)
def piecesL (enc : Int) (l : List UInt8) : List (Int × Nat) := piecesGo enc l.length l

theorem piecesGo_more {enc : Int} (h0 : 0 ≤ enc) : ∀ (n m : Nat) (l : List UInt8), l.length ≤ n → n ≤ m → piecesGo enc m l = piecesGo enc n l
  | 0, 0, l, h, _ => rfl
  | 0, m + 1, l, h, _ => by
    have : l = [] := List.eq_nil_of_length_eq_zero (by omega)
    subst this
    rfl
  | n + 1, 0, l, h, h' => by omega
  | n + 1, m + 1, l, h, h' => by
    simp only [piecesGo]
    by_cases hne : l = []
    · rw [if_pos hne, if_pos hne]
    · rw [if_neg hne, if_neg hne]
      have h1 := (pieceL_range h0 hne).2.2.1
      have h2 : 0 < l.length := List.length_pos_iff.2 hne
      rw [piecesGo_more h0 n m _ (by rw [List.length_drop]; omega) (by omega)]
theorem piecesL_nil (enc : Int) : piecesL enc [] = [] := rfl
theorem piecesL_step {enc : Int} (h0 : 0 ≤ enc) {l : List UInt8} (hne : l ≠ []) : piecesL enc l = pieceL enc l :: piecesL enc (l.drop (pieceL enc l).2) := by
  have hl : 0 < l.length := List.length_pos_iff.2 hne
  have h1 := (pieceL_range h0 hne).2.2.1
  obtain ⟨n, hn⟩ : ∃ n, l.length = n + 1 := ⟨l.length - 1, by omega⟩
  unfold piecesL
  rw [hn]
  simp only [piecesGo]
  rw [if_neg hne, piecesGo_more h0 (l.drop (pieceL enc l).2).length n _ (Nat.le_refl _) (by rw [List.length_drop]; omega)]

def cellsP (ps : List (Int × Nat)) : List Value := ps.flatMap fun p => [.int .i32 p.1, .int .i64 p.2]
theorem cellsP_length : ∀ ps : List (Int × Nat), (cellsP ps).length = ps.length * 2
  | [] => rfl
  | p :: ps => by
    have := cellsP_length ps
    simp only [cellsP, List.flatMap_cons, List.length_append, List.length_cons, List.length_nil] at this ⊢
    omega
theorem cellsP_snoc (ps : List (Int × Nat)) (p : Int × Nat) : cellsP (ps ++ [p]) = cellsP ps ++ [.int .i32 p.1, .int .i64 p.2] := by
  simp [cellsP]
theorem cellsP_at : ∀ (ps : List (Int × Nat)) (j : Nat) (hj : j < ps.length), (cellsP ps)[j * 2]? = some (.int .i32 ps[j].1) ∧ (cellsP ps)[j * 2 + 1]? = some (.int .i64 ps[j].2)
  | [], j, hj => by simp at hj
  | p :: ps, 0, _ => by simp [cellsP]
  | p :: ps, j + 1, hj => by
    have h := cellsP_at ps j (by simpa using hj)
    have e : cellsP (p :: ps) = .int .i32 p.1 :: .int .i64 p.2 :: cellsP ps := rfl
    rw [e, show (j + 1) * 2 = j * 2 + 1 + 1 by omega]
    simpa using h

/-- The slice v holds the pieces ps. -/
def PiecesIs (w : World) (v : Value) (ps : List (Int × Nat)) : Prop :=
  (ps = [] ∧ ∃ a cap, v = .slice a 0 cap) ∨
  (∃ g cap, g < w.heap.size ∧ v = .slice (some ⟨g, 0, none⟩) ps.length cap ∧ ∀ j (hj : j < ps.length), w.cell? ⟨g, j * 2, none⟩ = some (.int .i32 ps[j].1) ∧ w.cell? ⟨g, j * 2 + 1, none⟩ = some (.int .i64 ps[j].2))
theorem PiecesIs.kept {w w' : World} {v : Value} {l : List (Int × Nat)} (h : PiecesIs w v l) (hb : Below w.heap.size w w') : PiecesIs w' v l := by
  rcases h with h | ⟨g, cap, hg, hv, hc⟩
  · exact Or.inl h
  · exact Or.inr ⟨g, cap, by have := hb.size; omega, hv, fun j hj => ⟨by rw [hb.cell (p := ⟨g, j * 2, none⟩) hg]; exact (hc j hj).1, by rw [hb.cell (p := ⟨g, j * 2 + 1, none⟩) hg]; exact (hc j hj).2⟩⟩
theorem PiecesIs.len {w : World} {v : Value} {l : List (Int × Nat)} (h : PiecesIs w v l) : ∃ a cap, v = .slice a l.length cap := by
  rcases h with ⟨rfl, a, cap, hv⟩ | ⟨g, cap, hg, hv, hc⟩
  · exact ⟨a, cap, hv⟩
  · exact ⟨_, cap, hv⟩
theorem PiecesIs.own {w : World} {base e : Nat} {v : Value} {l : List (Int × Nat)} (h : w.ownsRow base e 2 v l.length (cellsP l)) : PiecesIs w v l := by
  rcases h.2 with ⟨hv, h0⟩ | ⟨g, cap, cur, hv, hg, hb, hn, hm, hs, ht⟩
  · exact Or.inl ⟨List.eq_nil_of_length_eq_zero h0, none, 0, by rw [hv]⟩
  · refine Or.inr ⟨g, cap, ?_, hv, fun j hj => ?_⟩
    · exact (h.lt g (by rw [hv]; rfl)).2
    · have hcell : ∀ i, i < l.length * 2 → w.cell? ⟨g, i, none⟩ = (cellsP l)[i]? := by
        intro i hi
        have h1 : w.cell? ⟨g, i, none⟩ = cur[i]? := by simp [World.cell?, hb]
        rw [h1, ← Array.getElem?_toList, ← ht, List.getElem?_take, if_pos hi]
      obtain ⟨h1, h2⟩ := cellsP_at l j hj
      exact ⟨by rw [hcell _ (by omega)]; exact h1, by rw [hcell _ (by omega)]; exact h2⟩

theorem infoPiece : (Tryd.prog.info? 28).map (fun i => (i.zero, i.size, i.bytes)) = some (some (.agg #[.int .i32 0, .int .i64 0]), 2, 16) := by kernel_rfl

def PiecesPost (ps : List (Int × Nat)) (w0 : World) (e : Ending) (w' : World) : Prop :=
  ∃ v, e = .returned v ∧ PiecesIs w' v ps ∧ Below w0.heap.size w0 w'
/-- What holds at the head of a round: 'done' are the pieces ahead of place k. -/
def RelP (enc : Int) (l : List UInt8) (w0 : World) (ov av : Value) (wr : World) : Prop :=
  ∃ (k : Nat) (done : List (Int × Nat)), k ≤ l.length ∧ av = .int .i64 k ∧ done.length ≤ k ∧ piecesL enc l = done ++ piecesL enc (l.drop k) ∧
    wr.ownsRow w0.heap.size 28 2 ov done.length (cellsP done) ∧ Below w0.heap.size w0 wr

set_option maxHeartbeats 2000000 in
theorem pieces_in (enc : Int) (h0 : 0 ≤ enc) (h8 : enc ≤ 8) (b : ByteArray) (hs : b.size ≤ 4000) (w : World) (hT : Tabs w) :
    Calls Tryd.prog 10 #[.int .i64 enc, .string b] w (PiecesPost (piecesL enc b.data.toList) w) := by
  obtain ⟨i0, hi, hz0, hz1, hz2⟩ := info_parts infoPiece
  have hsz : b.data.toList.length = b.size := by simp
  have HZ := Lib.hid hsz
  clear hsz
  have cR := right_c enc
  rw [decide_eq_true (show 0 ≤ enc ∧ enc ≤ 8 by omega)] at cR
  go_enter Tryd.func10, Tryd.ntmps10
  go_wp2_with (go_at_call 12; refine (cR _).mono ?_; rintro e w' ⟨rfl, rfl⟩)
  go_loopw [5, 6] (fun ov av wr => RelP enc b.data.toList w ov av wr) (fun _ av _ => b.size - (intOf av).toNat)
  case atStart => exact ⟨0, [], by omega, rfl, by simp, by simp, World.ownsRow_nil _ _ _ _, Below.refl _ _⟩
  case round =>
    obtain ⟨k, done, hk, rfl, hdk, hru, hown, hbel⟩ := hrel
    rw [HZ.out] at hk
    have HR := Lib.hid hru
    have HO := Lib.hid hown
    clear hru hown
    by_cases hlt : k < b.size
    · have hne : b.data.toList.drop k ≠ [] := by
        intro h
        have := congrArg List.length h
        rw [List.length_drop, HZ.out, List.length_nil] at this
        omega
      have hst := piecesL_step h0 hne
      have hrg := pieceL_range h0 hne
      have cN := fun w hT => next2_c enc b (k : Int) (by omega) (by omega) (by omega) w hT
      simp only [pieceZ_in h0 h8 hlt] at cN
      rw [List.length_drop, HZ.out] at hrg
      obtain ⟨p, hp⟩ : ∃ p, pieceL enc (b.data.toList.drop k) = p := ⟨_, rfl⟩
      rw [hp, List.drop_drop] at hst
      rw [hp] at hrg
      simp only [hp] at cN
      obtain ⟨P, K⟩ := p
      have cN' : ∀ w, Tabs w → Calls Tryd.prog 11 #[.int .i64 enc, .string b, .int .i64 k] w fun e w' => e = .returned (.agg #[.int .i32 P, .int .i64 K]) ∧ Below w.heap.size w w' := cN
      obtain ⟨g1, g2, g3, g4⟩ : -1 ≤ P ∧ P ≤ 1114111 ∧ 1 ≤ K ∧ K ≤ b.size - k := hrg
      have HN : Hid (piecesL enc b.data.toList = (done ++ [(P, K)]) ++ piecesL enc (b.data.toList.drop (k + K))) := by
        rw [HR.out, hst, List.append_assoc]
        rfl
      have hltz : (k : Int) < (b.size : Int) := by omega
      have hw0 : (0 : Int) ≤ (k : Int) + (K : Int) := by omega
      have hw1 : (k : Int) + (K : Int) ≤ 4000 := by omega
      have hTr := hT.step hbel
      clear hst cN hp hne
      go_wp2_with fail
      refine (cN' _ hTr).mono ?_
      rintro e w1 ⟨rfl, hb1⟩
      have hown1 := HO.out.kept (grown_of_below hb1 none) (by cases h : u5.ownBlock with | none => exact Or.inl rfl | some x => exact Or.inr (by simp))
      go_wp2_with (at_builtin; refine wpList_append_own _ rfl _ _ 25 rfl w.heap.size 28 i0 (.agg #[.int .i32 0, .int .i64 0]) 2 16 Tryd.underlying25 hi hz0 hz1 hz2 rfl (by decide) _ _ _ rfl ((hown1.alloc _).alloc _) ⟨w1.heap.size + 1, 0, none⟩ 1 1 [.int .i32 P, .int .i64 K] rfl rfl ?c1 ?c2 ?c3 ?c4 ?c5 ?_)
      case c1 =>
        intro j u hj
        match j, hj with
        | 0, hj => simp at hj; subst hj; simp [Addr.add]
        | 1, hj => simp at hj; subst hj; simp [Addr.add]
      case c2 => intro u hu; simp at hu; rcases hu with rfl | rfl <;> rfl
      case c3 => unfold maxLen; omega
      case c4 => omega
      case c5 => have h1 := hb1.size; have h2 := hbel.size; simp; omega
      intro v' w2 hown' hgrow _
      have hz1' : w.heap.size ≤ w1.heap.size := by have h1 := hb1.size; have h2 := hbel.size; omega
      have hnb : u5.ownBlock ≠ some w1.heap.size := by
        intro h
        have h1 := (HO.out.lt _ h).2
        have h2 := hb1.size
        omega
      have c9 : w2.cell? ⟨w1.heap.size, 1, none⟩ = some (.int .i64 K) := by
        have h := hgrow.block w1.heap.size (by simp; omega) hnb.symm
        rw [World.cell?_of_block (a := ⟨w1.heap.size, 1, none⟩) h]
        simp
      have hB2 := ((((below_step hbel hb1).alloc hz1' (.cells #[.int .i32 P, .int .i64 K] 28)).alloc (by simp; omega) (.cells #[.int .i32 P, .int .i64 K] 28))).grown hgrow (by simp; omega) (fun j hj => (HO.out.lt j hj).1)
      have HO2 := Lib.hid hown'
      have HB2 := Lib.hid hB2
      clear hown' hgrow hown1 hnb hB2
      go_wp2
      go_roundw
      case rel =>
        exact ⟨k + K, done ++ [(P, K)], by rw [HZ.out]; omega, by go_num, by simp; omega, HN.out, by rw [cellsP_snoc]; simpa using HO2.out, HB2.out⟩
      case measure => simp [intOf]; omega
    · have hkn : k = b.size := by omega
      have HN := Lib.hid (show piecesL enc b.data.toList = done by
        rw [HR.out, List.drop_eq_nil_of_le (by rw [HZ.out]; omega), piecesL_nil, List.append_nil])
      have hge : ¬ ((k : Int) < (b.size : Int)) := by omega
      clear hkn
      go_wp2
      go_ret
      exact ⟨_, rfl, by rw [HN.out]; exact PiecesIs.own HO.out, hbel⟩

set_option maxHeartbeats 1000000 in
theorem pieces_out (enc : Int) (h : ¬ (0 ≤ enc ∧ enc ≤ 8)) (b : ByteArray) (w : World) :
    Calls Tryd.prog 10 #[.int .i64 enc, .string b] w fun e w' => e = .returned (.slice none 0 0) ∧ w = w' := by
  have cR := right_c enc
  rw [decide_eq_false h] at cR
  clear h
  go_enter Tryd.func10, Tryd.ntmps10
  go_wp2_with (go_at_call 12; refine (cR _).mono ?_; rintro e w' ⟨rfl, rfl⟩)
  go_ret
  exact ⟨rfl, rfl⟩
end Go.Proofs.YtnnpkognnbolcaaDoor
