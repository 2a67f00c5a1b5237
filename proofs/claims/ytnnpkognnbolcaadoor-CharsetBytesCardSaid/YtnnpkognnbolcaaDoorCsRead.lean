/-
  The contract of read: the character at the head of bytes, and how many it has; what lay in memory stays.
-/
import Derived.Test.YtnnpkognnbolcaaDoorCsOne
import Derived.Test.YtnnpkognnbolcaaDoorUtfN
import Derived.Deep.QuietTactic
import Derived.BigQuiet
import Derived.Deep.RegionHeld3
namespace Go.Proofs.YtnnpkognnbolcaaDoor
open Go.RowKit
set_option linter.unusedVariables false

def readL (enc : Int) (l : List UInt8) : Int × Int :=
  if 7 ≤ enc then (((nextL l).1 : Int), ((nextL l).2 : Int))
  else if enc = 6 ∧ 2 ≤ l.length ∧ 0 ≤ twoI (gB l 0) (gB l 1) then (twoI (gB l 0) (gB l 1), 2)
  else if 0 ≤ oneI enc (gB l 0) then (oneI enc (gB l 0), 1) else (0, 0)

/-- The piece at the head, said by what is read. -/
theorem piece_read {enc : Int} {l : List UInt8} (h0 : 0 ≤ enc) (hne : l ≠ []) : (((readL enc l).2 = 0 ∧ ((pieceL enc l).1, ((pieceL enc l).2 : Int)) = (-1, 1)) ∨ ((readL enc l).2 ≠ 0 ∧ ((pieceL enc l).1, ((pieceL enc l).2 : Int)) = readL enc l)) := by
  unfold readL pieceL
  by_cases h7 : 7 ≤ enc
  · simp only [if_pos h7]
    by_cases hz : (nextL l).2 = 0
    · left; rw [hz, if_pos rfl]; exact ⟨rfl, rfl⟩
    · right; rw [if_neg hz]; exact ⟨by omega, rfl⟩
  · simp only [if_neg h7]
    by_cases h2 : enc = 6 ∧ 2 ≤ l.length ∧ 0 ≤ twoI (gB l 0) (gB l 1)
    · right; rw [if_pos h2, if_pos h2]; exact ⟨by show (2 : Int) ≠ 0; decide, Prod.ext rfl rfl⟩
    · rw [if_neg h2, if_neg h2]
      have hb := gB_lt l 0
      have hO := oneI_ok (enc := enc) (b := gB l 0) h0 (by omega) (by omega) (by omega)
      generalize oneI enc (gB l 0) = t at *
      by_cases hp : 0 ≤ t
      · right; rw [if_pos hp]; exact ⟨by show (1 : Int) ≠ 0; decide, Prod.ext rfl rfl⟩
      · left; rw [if_neg hp]; exact ⟨rfl, Prod.ext (by show t = -1; omega) rfl⟩

theorem isUTF_c (enc : Int) (w : World) : Calls Tryd.prog 15 #[.int .i64 enc] w fun e w' => e = .returned (.bool (decide (enc = 7 ∨ enc = 8))) ∧ w = w' := by
  by_cases h7 : enc = 7
  · subst h7
    go_enter Tryd.func15, Tryd.ntmps15
    go_wp2
    go_ret
    exact ⟨rfl, rfl⟩
  · have e7 : (enc == 7) = false := by rw [beq_eq_false_iff_ne]; exact h7
    by_cases h8 : enc = 8
    · subst h8
      go_enter Tryd.func15, Tryd.ntmps15
      go_wp2
      go_ret
      exact ⟨rfl, rfl⟩
    · have e8 : (enc == 8) = false := by rw [beq_eq_false_iff_ne]; exact h8
      have HX := Lib.hid (show decide (enc = 7 ∨ enc = 8) = false from decide_eq_false (by omega))
      clear h7 h8
      go_enter Tryd.func15, Tryd.ntmps15
      go_wp2
      go_ret
      exact ⟨by rw [HX.out]; rfl, rfl⟩

set_option maxHeartbeats 1000000 in
theorem read_utf (enc : Int) (h7 : 7 ≤ enc) (h8 : enc ≤ 8) (s : ByteArray) (hs : 0 < s.size) (hs' : s.size ≤ 9223372036854775807) (w : World) (hT : Tabs w) :
    Calls Tryd.prog 20 #[.int .i64 enc, .string s] w fun e w' => e = .returned (.tuple #[.int .i32 (readL enc s.data.toList).1, .int .i64 (readL enc s.data.toList).2]) ∧ Below w.heap.size w w' := by
  have cU := isUTF_c enc
  rw [decide_eq_true (show enc = 7 ∨ enc = 8 by omega)] at cU
  have cN := next_c s 0 (by omega) (by omega) hs' w hT
  have hg := nextG_L (b := s) (k := 0) hs
  rw [List.drop_zero] at hg
  rw [show (0 : Int) = ((0 : Nat) : Int) from rfl, hg] at cN
  have HX := Lib.hid (show readL enc s.data.toList = (((nextL s.data.toList).1 : Int), ((nextL s.data.toList).2 : Int)) by unfold readL; rw [if_pos h7])
  generalize nextL s.data.toList = d at *
  obtain ⟨d1, d2⟩ := d
  clear hg hT hs hs' h7 h8
  go_enter Tryd.func20, Tryd.ntmps20
  go_wp2_with (first | (go_at_call 15; refine (cU _).mono ?_; rintro e w' ⟨rfl, rfl⟩) | (go_at_call 28; refine cN.mono ?_; rintro e w1 ⟨rfl, hb1⟩))
  go_ret2
  exact ⟨by rw [HX.out]; rfl, hb1⟩

set_option maxHeartbeats 1000000 in
theorem read_one (enc : Int) (h0 : 0 ≤ enc) (h6 : enc ≤ 6) (s : ByteArray) (hs : s.size = 1) (w : World) :
    Calls Tryd.prog 20 #[.int .i64 enc, .string s] w fun e w' => e = .returned (.tuple #[.int .i32 (readL enc s.data.toList).1, .int .i64 (readL enc s.data.toList).2]) ∧ Below w.heap.size w w' := by
  have cU := isUTF_c enc
  rw [decide_eq_false (show ¬ (enc = 7 ∨ enc = 8) by omega)] at cU
  have hB := Go.PlainAid.get_bt s
  have hg0 : (gB s.data.toList 0 : Int) = Go.PlainAid.bt s 0 := by have := gB_bt s 0 0; rwa [List.drop_zero] at this
  have g0 := Go.PlainAid.bt_nonneg s 0
  have g1 := Go.PlainAid.bt_le s 0
  have hl : s.data.toList.length = s.size := by simp
  obtain ⟨x, hx⟩ : ∃ x : Int, Go.PlainAid.bt s 0 = x := ⟨_, rfl⟩
  rw [hx] at g0 g1 hg0
  have cO := fun w => readOne_c enc x h0 h6 g0 g1 w
  have HX := Lib.hid (show readL enc s.data.toList = if 0 ≤ oneI enc x then (oneI enc x, 1) else (0, 0) by
    unfold readL
    rw [if_neg (by omega), if_neg (by rintro ⟨_, h, _⟩; omega), hg0])
  have hsz : (s.size : Int) = 1 := by omega
  generalize oneI enc x = t at *
  have hlt : 0 < s.size := by omega
  clear hg0 hl h0 h6
  by_cases ht : 0 ≤ t
  · rw [if_pos ht] at HX
    have eR : readR t = t := by unfold readR; rw [if_pos ht]
    have eB : readB t = true := decide_eq_true ht
    rw [eR, eB] at cO
    clear eR eB
    go_enter Tryd.func20, Tryd.ntmps20
    go_wp2_with (first | (go_at_call 15; refine (cU _).mono ?_; rintro e w' ⟨rfl, rfl⟩) | (go_at_call 30; refine (cO _).mono ?_; rintro e w1 ⟨rfl, hb1⟩))
    go_ret2
    exact ⟨by rw [HX.out]; rfl, hb1⟩
  · rw [if_neg ht] at HX
    have eB : readB t = false := decide_eq_false ht
    rw [eB] at cO
    clear eB
    go_enter Tryd.func20, Tryd.ntmps20
    go_wp2_with (first | (go_at_call 15; refine (cU _).mono ?_; rintro e w' ⟨rfl, rfl⟩) | (go_at_call 30; refine (cO _).mono ?_; rintro e w1 ⟨rfl, hb1⟩))
    go_ret2
    exact ⟨by rw [HX.out]; rfl, hb1⟩

set_option maxHeartbeats 2000000 in
theorem read_two (enc : Int) (h0 : 0 ≤ enc) (h6 : enc ≤ 6) (s : ByteArray) (hs : 1 < s.size) (hs' : s.size ≤ 9223372036854775807) (w : World) :
    Calls Tryd.prog 20 #[.int .i64 enc, .string s] w fun e w' => e = .returned (.tuple #[.int .i32 (readL enc s.data.toList).1, .int .i64 (readL enc s.data.toList).2]) ∧ Below w.heap.size w w' := by
  have cU := isUTF_c enc
  rw [decide_eq_false (show ¬ (enc = 7 ∨ enc = 8) by omega)] at cU
  have hB := Go.PlainAid.get_bt s
  have hg0 : (gB s.data.toList 0 : Int) = Go.PlainAid.bt s 0 := by have := gB_bt s 0 0; rwa [List.drop_zero] at this
  have hg1 : (gB s.data.toList 1 : Int) = Go.PlainAid.bt s 1 := by have := gB_bt s 0 1; rwa [List.drop_zero] at this
  have g0 := Go.PlainAid.bt_nonneg s 0
  have g1 := Go.PlainAid.bt_le s 0
  have g2 := Go.PlainAid.bt_nonneg s 1
  have g3 := Go.PlainAid.bt_le s 1
  have hl : s.data.toList.length = s.size := by simp
  obtain ⟨x, hx⟩ : ∃ x : Int, Go.PlainAid.bt s 0 = x := ⟨_, rfl⟩
  obtain ⟨y, hy⟩ : ∃ y : Int, Go.PlainAid.bt s 1 = y := ⟨_, rfl⟩
  rw [hx] at g0 g1 hg0
  rw [hy] at g2 g3 hg1
  have cD := fun w => doubleV_c enc x w
  have hdf := double_fit enc x
  have hdl := doubleL_ok enc x
  have cA := fun w => atRow_c (rowV_is (doubleF enc x) (doubleL enc x)) hdl.1 hdl.2 hdf.1 (by omega) y g2 g3 w
  have hT : (atL (doubleL enc x) (y - doubleF enc x)).getD (-1) = if enc = 6 then twoI x y else -1 := by
    by_cases he : enc = 6
    · subst he; rw [if_pos rfl, ← twoP_eq g2 g3]; rfl
    · rw [if_neg he]; unfold doubleL; rw [if_neg he]; rfl
  have cO := fun w => readOne_c enc x h0 h6 g0 g1 w
  have HX := Lib.hid (show readL enc s.data.toList = if 0 ≤ (if enc = 6 then twoI x y else -1) then ((if enc = 6 then twoI x y else -1), 2) else if 0 ≤ oneI enc x then (oneI enc x, 1) else (0, 0) by
    unfold readL
    rw [if_neg (by omega), hg0, hg1, hl]
    by_cases he : enc = 6
    · simp only [he, true_and, if_true]
      by_cases ht : 0 ≤ twoI x y
      · rw [if_pos ⟨hs, ht⟩, if_pos ht]
      · rw [if_neg (fun h => ht h.2), if_neg ht]
    · rw [if_neg (fun h => he h.1), if_neg he, if_neg (show ¬ (0 : Int) ≤ -1 by decide)])
  rw [hT] at cA
  generalize (if enc = 6 then twoI x y else -1) = u at *
  generalize oneI enc x = t at *
  generalize rowV (doubleF enc x) (doubleL enc x) = R at *
  clear hT hg0 hg1 hl h0 h6 hdf hdl
  have hlt0 : 0 < s.size := by omega
  have hsz : (1 : Int) < (s.size : Int) := by omega
  have hsz' : (s.size : Int) ≤ 9223372036854775807 := by omega
  by_cases hu : 0 ≤ u
  · rw [if_pos hu] at HX
    have eR : readR u = u := by unfold readR; rw [if_pos hu]
    have eB : readB u = true := decide_eq_true hu
    rw [eR, eB] at cA
    clear eR eB cO hu
    go_enter Tryd.func20, Tryd.ntmps20
    go_wp2_with (go_at_call 15; refine (cU _).mono ?_; rintro e w' ⟨rfl, rfl⟩)
    go_region_held3 (fun w' => Below w.heap.size w w') (first | assumption | exact (Below.refl _ _).drew | exact Below.drew ‹_› | exact below_step ‹_› ‹_›) (first | (go_at_call 18; refine (cD _).mono ?_; rintro e w' ⟨rfl, hb⟩) | (go_at_call 29; refine (cA _).mono ?_; rintro e w' ⟨rfl, hb⟩))
    all_goals
      go_wp2
      go_ret2
      exact ⟨by rw [HX.out]; rfl, by assumption⟩
  · rw [if_neg hu] at HX
    have eB : readB u = false := decide_eq_false hu
    rw [eB] at cA
    generalize readR u = ru at *
    clear eB hu
    by_cases ht : 0 ≤ t
    · rw [if_pos ht] at HX
      have eR : readR t = t := by unfold readR; rw [if_pos ht]
      have eB : readB t = true := decide_eq_true ht
      rw [eR, eB] at cO
      clear eR eB ht
      go_enter Tryd.func20, Tryd.ntmps20
      go_wp2_with (go_at_call 15; refine (cU _).mono ?_; rintro e w' ⟨rfl, rfl⟩)
      go_region_held3 (fun w' => Below w.heap.size w w') (first | assumption | exact (Below.refl _ _).drew | exact Below.drew ‹_› | exact below_step ‹_› ‹_›) (first | (go_at_call 18; refine (cD _).mono ?_; rintro e w' ⟨rfl, hb⟩) | (go_at_call 29; refine (cA _).mono ?_; rintro e w' ⟨rfl, hb⟩))
      all_goals
        go_wp2_with (go_at_call 30; refine (cO _).mono ?_; rintro e w1 ⟨rfl, hb1⟩)
        go_ret2
        exact ⟨by rw [HX.out]; rfl, below_step ‹_› hb1⟩
    · rw [if_neg ht] at HX
      have eB : readB t = false := decide_eq_false ht
      rw [eB] at cO
      generalize readR t = rt at *
      clear eB ht
      go_enter Tryd.func20, Tryd.ntmps20
      go_wp2_with (go_at_call 15; refine (cU _).mono ?_; rintro e w' ⟨rfl, rfl⟩)
      go_region_held3 (fun w' => Below w.heap.size w w') (first | assumption | exact (Below.refl _ _).drew | exact Below.drew ‹_› | exact below_step ‹_› ‹_›) (first | (go_at_call 18; refine (cD _).mono ?_; rintro e w' ⟨rfl, hb⟩) | (go_at_call 29; refine (cA _).mono ?_; rintro e w' ⟨rfl, hb⟩))
      all_goals
        go_wp2_with (go_at_call 30; refine (cO _).mono ?_; rintro e w1 ⟨rfl, hb1⟩)
        go_ret2
        exact ⟨by rw [HX.out]; rfl, below_step ‹_› hb1⟩

theorem read_c (enc : Int) (h0 : 0 ≤ enc) (h8 : enc ≤ 8) (s : ByteArray) (hs : 0 < s.size) (hs' : s.size ≤ 9223372036854775807) (w : World) (hT : Tabs w) :
    Calls Tryd.prog 20 #[.int .i64 enc, .string s] w fun e w' => e = .returned (.tuple #[.int .i32 (readL enc s.data.toList).1, .int .i64 (readL enc s.data.toList).2]) ∧ Below w.heap.size w w' := by
  by_cases h7 : 7 ≤ enc
  · exact read_utf enc h7 h8 s hs hs' w hT
  · by_cases h1 : s.size = 1
    · exact read_one enc h0 (by omega) s h1 w
    · exact read_two enc h0 (by omega) s (by omega) hs' w
end Go.Proofs.YtnnpkognnbolcaaDoor
