/-
  The contract of Join: the bytes of all numbers that are characters, one behind the other.
-/
import Derived.Test.YtjcnnbakadbccaaDoorBuild
namespace Go.Proofs.YtjcnnbakadbccaaDoor
open Go.RowKit
set_option linter.unusedVariables false

theorem bsOf_list (r : Int) : (bsOf r).data.toList = if isR r = true then Lib.encodeRune r else [] := by
  by_cases h : isR r = true
  · rw [if_pos h, bsOf_toList h]
  · rw [if_neg h, bsOf_none (by simpa using h)]
theorem strCells_eq (s : ByteArray) : Lib.strCells s = Lib.byteCells s.data.toList := by
  unfold Lib.strCells Lib.byteCells
  simp
theorem byteCells_app (a b : List UInt8) : Lib.byteCells (a ++ b) = Lib.byteCells a ++ Lib.byteCells b := by
  unfold Lib.byteCells
  simp
theorem byteCells_len (a : List UInt8) : (Lib.byteCells a).length = a.length := by
  unfold Lib.byteCells
  simp
theorem join_more {l : List Int} {i : Nat} {x : Int} (hi : i < l.length) (hx : l.getD i 0 = x) : Lib.byteCells (joinL (l.take i)) ++ Lib.strCells (bsOf x) = Lib.byteCells (joinL (l.take (i + 1))) := by
  have ht : l.take (i + 1) = l.take i ++ [x] := by
    rw [List.take_add_one, List.getElem?_eq_getElem hi]
    have : l[i] = x := by rw [← hx]; simp [List.getD_eq_getElem?_getD, List.getElem?_eq_getElem hi]
    rw [this]; rfl
  rw [ht, joinL_snoc, byteCells_app, strCells_eq, bsOf_list]

def RelJ (l : List Int) (w0 : World) (iv : Value) (wr : World) : Prop :=
  ∃ i : Nat, i ≤ l.length ∧ iv = .int .i64 i ∧ Lib.IsBuilder 41 5 w0.heap.size w0.heap.size (Lib.byteCells (joinL (l.take i))) wr ∧ Below w0.heap.size w0 wr

set_option maxHeartbeats 1000000 in
theorem join_in (l : List Int) (hs : l.length ≤ 1000) (g off cap : Nat) (w : World) (hg : g < w.heap.size)
    (hc : ∀ j, j < l.length → w.cell? ⟨g, off + j, none⟩ = some (.int .i32 (l.getD j 0))) :
    Calls Tryd.prog 17 #[.slice (some ⟨g, off, none⟩) l.length cap] w fun e w' => e = .returned (.string ⟨(joinL l).toArray⟩) ∧ Below w.heap.size w w' := by
  obtain ⟨n, hn⟩ : ∃ n, l.length = n := ⟨_, rfl⟩
  have HC := Lib.hid hc
  clear hc
  rw [hn]
  rw [hn] at hs
  have HN := Lib.hid hn
  clear hn
  go_enter Tryd.func17, Tryd.ntmps17
  go_wp2
  go_loopw [8] (fun iv wr => RelJ l w iv wr) (fun iv _ => n - (intOf iv).toNat)
  case atStart => exact ⟨0, by omega, rfl, Lib.fresh_isBuilder _ _ w, (Below.refl _ _).alloc (Nat.le_refl _) _⟩
  case round =>
    obtain ⟨i, hi, rfl, hbu, hbel⟩ := hrel
    rw [HN.out] at hi
    have HB := Lib.hid hbu
    clear hbu
    by_cases hlt : i < n
    · obtain ⟨x, hx⟩ : ∃ x, l.getD i 0 = x := ⟨_, rfl⟩
      have c1 : wr.cell? ⟨g, off + i, none⟩ = some (.int .i32 x) := by rw [hbel.cell (p := ⟨g, off + i, none⟩) hg, HC.out i (by rw [HN.out]; exact hlt), hx]
      have hltz : (i : Int) < (n : Int) := by omega
      have hlen : (Lib.byteCells (joinL (l.take i))).length ≤ 4000 := by
        have := joinL_length (l.take i)
        rw [byteCells_len]
        have h2 : (l.take i).length ≤ i := List.length_take_le _ _
        omega
      have hb4 := bsOf_size x
      have HM := Lib.hid (join_more (by rw [HN.out]; exact hlt) hx)
      clear hx
      go_wp2_with fail
      refine (bytes_c _ _).mono ?_
      rintro e w' ⟨rfl, rfl⟩
      go_wp2_with fail
      refine (writeString_c w.heap.size w.heap.size _ _ _ HB.out (by omega) hbel.size).mono ?_
      rintro e w2 ⟨rfl, hb2, hbel2⟩
      rw [HM.out] at hb2
      have HB2 := Lib.hid hb2
      clear hb2
      go_wp2
      go_roundw
      case rel => exact ⟨i + 1, by rw [HN.out]; omega, by go_num, Or.inr HB2.out, hbel.trans hbel2⟩
      case measure => simp [intOf]; omega
    · have hin : i = n := by omega
      have HT : Hid (l.take i = l) := List.take_of_length_le (by rw [HN.out]; omega)
      have hge : ¬ ((i : Int) < (n : Int)) := by omega
      clear hin
      go_wp2_with fail
      refine (Tryd.Builder_String_any w.heap.size w.heap.size (joinL (l.take i)) _ HB.out hbel.size).mono ?_
      rintro e w2 ⟨rfl, hbel2⟩
      go_wp2
      go_ret
      exact ⟨by rw [HT.out]; rfl, hbel.trans hbel2⟩

set_option maxHeartbeats 1000000 in
theorem join_nil (a : Option Addr) (cap : Nat) (w : World) :
    Calls Tryd.prog 17 #[.slice a 0 cap] w fun e w' => e = .returned (.string ⟨#[]⟩) ∧ Below w.heap.size w w' := by
  have cS := Tryd.Builder_String_any w.heap.size w.heap.size [] _ (Lib.fresh_isBuilder 41 5 w) (by show w.heap.size ≤ (w.heap.push _).size; simp)
  go_enter Tryd.func17, Tryd.ntmps17
  go_wp2
  refine wp_loop_rounds 1 ?_
  rw [rounds_succ]
  go_wp2_with fail
  refine cS.mono ?_
  rintro e w2 ⟨rfl, hbel2⟩
  go_wp2
  go_ret
  exact ⟨rfl, ((Below.refl _ _).alloc (Nat.le_refl _) _).trans hbel2⟩

theorem join_c {v : Value} {l : List Int} {w : World} (h : SliceIs w v l) (hs : l.length ≤ 1000) :
    Calls Tryd.prog 17 #[v] w fun e w' => e = .returned (.string ⟨(joinL l).toArray⟩) ∧ Below w.heap.size w w' := by
  rcases h with ⟨rfl, a, cap, rfl⟩ | ⟨g, off, cap, hg, rfl, hc⟩
  · exact join_nil a cap w
  · exact join_in l hs g off cap w hg hc
end Go.Proofs.YtjcnnbakadbccaaDoor
