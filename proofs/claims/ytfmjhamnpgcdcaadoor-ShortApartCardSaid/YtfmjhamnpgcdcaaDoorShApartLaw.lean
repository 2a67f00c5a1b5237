/-
  The law ShortApart of stage 5, walked: it answers true; what lay in memory stays.
-/
import Derived.Test.YtfmjhamnpgcdcaaDoorShName
import Derived.Test.YtfmjhamnpgcdcaaDoorShAwake
import Derived.Deep.RegionHeld3
namespace Go.Proofs.YtfmjhamnpgcdcaaDoor
open Go.RowKit Go.Sort
set_option linter.unusedVariables false

/-- What holds in each world behind the box. -/
theorem apart_keep {w w1 W : World} {n0 n1 : Int} (h0 : w1.cell? ⟨w.heap.size, 0, none⟩ = some (.int .i64 n0)) (h1 : w1.cell? ⟨w.heap.size, 1, none⟩ = some (.int .i64 n1)) (hs : w.heap.size < w1.heap.size) (hb : Below w1.heap.size w1 W) :
    Below w1.heap.size w1 W ∧ W.cell? ⟨w.heap.size, 0, none⟩ = some (.int .i64 n0) ∧ W.cell? ⟨w.heap.size, 1, none⟩ = some (.int .i64 n1) :=
  ⟨hb, by rw [hb.cell (p := ⟨w.heap.size, 0, none⟩) hs]; exact h0, by rw [hb.cell (p := ⟨w.heap.size, 1, none⟩) hs]; exact h1⟩
theorem name_ne {a b : Nat} {n m : Int} (ha : a < 4294967296) (hb : b < 4294967296) (h1 : 1 ≤ n) (h2 : n ≤ 1000000) (h : ¬ (a = b ∧ n = m)) : ((⟨(nameL a n).toArray⟩ : ByteArray).toList == (⟨(nameL b m).toArray⟩ : ByteArray).toList) = false := by
  rw [beq_eq_false_iff_ne, ByteArray.toList_eq, ByteArray.toList_eq]
  intro e
  exact h (nameL_inj ha hb h1 h2 (by simpa using e))

set_option maxHeartbeats 4000000 in
set_option maxRecDepth 100000 in
theorem apart5_walk (a b : Nat) (ha : a < 4294967296) (hb : b < 4294967296) (n0 n1 : Int) (l0 : -9223372036854775808 ≤ n0) (u0 : n0 ≤ 9223372036854775807) (l1 : -9223372036854775808 ≤ n1) (u1 : n1 ≤ 9223372036854775807) (w : World) (hB : Base w) :
    Calls Tryd.prog 5 #[.int .u32 a, .int .u32 b, .agg #[.int .i64 n0, .int .i64 n1]] w fun e w' => e = .returned (.bool true) ∧ Below w.heap.size w w' := by
  obtain ⟨w1, hw1⟩ : ∃ w1, w.alloc (.cells #[.int .i64 n0, .int .i64 n1] 40) = w1 := ⟨_, rfl⟩
  have hh : w1.heap[w.heap.size]? = some (.cells #[.int .i64 n0, .int .i64 n1] 40 (0, 0)) := by rw [← hw1]; exact heap_alloc_new _ _
  have c0 : w1.cell? ⟨w.heap.size, 0, none⟩ = some (.int .i64 n0) := by rw [Lib.cell_of_heap hh]; rfl
  have c1 : w1.cell? ⟨w.heap.size, 1, none⟩ = some (.int .i64 n1) := by rw [Lib.cell_of_heap hh]; rfl
  have HW := Lib.hid hw1
  have HB1 : Hid (Below w.heap.size w w1) := Lib.hid (by rw [← hw1]; exact (Below.refl _ _).alloc (Nat.le_refl _) _)
  have HSZ : Hid (w.heap.size < w1.heap.size) := Lib.hid (Array.getElem?_eq_some_iff.1 hh).1
  have HBB : Hid (Base w1) := Lib.hid (hB.step HB1.out)
  have HK : Hid (∀ W, Below w1.heap.size w1 W → Below w1.heap.size w1 W ∧ W.cell? ⟨w.heap.size, 0, none⟩ = some (.int .i64 n0) ∧ W.cell? ⟨w.heap.size, 1, none⟩ = some (.int .i64 n1)) := Lib.hid (fun W h => apart_keep c0 c1 HSZ.out h)
  have HNA : Hid (∀ W, Below w1.heap.size w1 W → Calls Tryd.prog 17 #[.int .u32 a, .int .i64 n0] W fun e w' => e = .returned (.string ⟨(nameL a n0).toArray⟩) ∧ Below w1.heap.size w1 w') := Lib.hid (fun W h => (name_c a ha n0 l0 u0 W (HBB.out.step h)).mono fun e w' ⟨h1, h2⟩ => ⟨h1, h.trans (h2.mono h.size)⟩)
  have HNB : Hid (∀ W, Below w1.heap.size w1 W → Calls Tryd.prog 17 #[.int .u32 b, .int .i64 n1] W fun e w' => e = .returned (.string ⟨(nameL b n1).toArray⟩) ∧ Below w1.heap.size w1 w') := Lib.hid (fun W h => (name_c b hb n1 l1 u1 W (HBB.out.step h)).mono fun e w' ⟨h1, h2⟩ => ⟨h1, h.trans (h2.mono h.size)⟩)
  have HAW : Hid (∀ W, Below w1.heap.size w1 W → Calls Tryd.prog 18 #[] W fun e w' => e = .returned (.bool true) ∧ Below w1.heap.size w1 w') := Lib.hid (fun W h => (awake5_c W).mono fun e w' ⟨h1, h2⟩ => ⟨h1, h.trans (h2.mono h.size)⟩)
  have hsz : (⟨(nameL a n0).toArray⟩ : ByteArray).size ≤ 18 := by show (nameL a n0).toArray.size ≤ 18; have := nameL_le a n0; simp; omega
  have hs18 : ((⟨(nameL a n0).toArray⟩ : ByteArray).size : Int) ≤ 18 := by omega
  clear c0 c1 hh hB hsz
  by_cases hok : 1 ≤ n0 ∧ n0 ≤ 1000000
  · have hne : (⟨(nameL a n0).toArray⟩ : ByteArray).toList.isEmpty = false := by
      rw [ByteArray.toList_eq]
      have := (nameL_size (h := a) hok.1 hok.2).1
      cases hl : nameL a n0 with
      | nil => rw [hl] at this; simp at this
      | cons x y => rfl
    by_cases hab : a = b
    · subst hab
      by_cases hnn : n0 = n1
      · subst hnn
        generalize (⟨(nameL a n0).toArray⟩ : ByteArray) = X at *
        clear hok hw1 ha hb l0 u0 l1 u1
        go_enter Tryd.func5, Tryd.ntmps5
        go_wp2_with fail
        rw [HW.out]
        go_region_held3 (fun W => Below w1.heap.size w1 W ∧ W.cell? ⟨w.heap.size, 0, none⟩ = some (.int .i64 n0) ∧ W.cell? ⟨w.heap.size, 1, none⟩ = some (.int .i64 n0)) ((refine HK.out _ ?_; first | assumption | exact (Below.refl _ _).drew | exact Below.refl _ _ | exact Below.drew ‹_›)) (first | (go_at_call 17; (with_reducible refine (HNA.out _ ?_).mono ?_); (first | assumption | exact (Below.refl _ _).drew | exact Below.refl _ _ | exact Below.drew ‹_›); rintro e w6 ⟨rfl, hb6⟩))
        all_goals
          have cA := HAW.out w6 hb6
          clear hb6
          go_wp2_with fail
          refine cA.mono ?_
          rintro e w7 ⟨rfl, hb7⟩
          obtain ⟨_, d0, d1⟩ := HK.out w7 hb7
          have HB7 : Hid (Below w.heap.size w w7) := Lib.hid (HB1.out.trans (hb7.mono HB1.out.size))
          clear hb7 cA
          go_wp2
          go_ret
          exact ⟨by first | rfl | simp, HB7.out⟩
      · have hxy := name_ne ha hb hok.1 hok.2 (fun h => hnn h.2 : ¬ (a = a ∧ n0 = n1))
        have hnb : (n0 == n1) = false := by rw [beq_eq_false_iff_ne]; exact hnn
        generalize (⟨(nameL a n0).toArray⟩ : ByteArray) = X at *
        generalize (⟨(nameL a n1).toArray⟩ : ByteArray) = Y at *
        clear hok hw1 ha hb l0 u0 l1 u1 hnn
        go_enter Tryd.func5, Tryd.ntmps5
        go_wp2_with fail
        rw [HW.out]
        go_region_held3 (fun W => Below w1.heap.size w1 W ∧ W.cell? ⟨w.heap.size, 0, none⟩ = some (.int .i64 n0) ∧ W.cell? ⟨w.heap.size, 1, none⟩ = some (.int .i64 n1)) ((refine HK.out _ ?_; first | assumption | exact (Below.refl _ _).drew | exact Below.refl _ _ | exact Below.drew ‹_›)) (first | (go_at_call 17; (with_reducible refine (HNA.out _ ?_).mono ?_); (first | assumption | exact (Below.refl _ _).drew | exact Below.refl _ _ | exact Below.drew ‹_›); rintro e w6 ⟨rfl, hb6⟩) | (go_at_call 17; (with_reducible refine (HNB.out _ ?_).mono ?_); (first | assumption | exact (Below.refl _ _).drew | exact Below.refl _ _ | exact Below.drew ‹_›); rintro e w6 ⟨rfl, hb6⟩))
        all_goals
          have cA := HAW.out w6 hb6
          clear hb6
          go_wp2_with fail
          refine cA.mono ?_
          rintro e w7 ⟨rfl, hb7⟩
          obtain ⟨_, d0, d1⟩ := HK.out w7 hb7
          have HB7 : Hid (Below w.heap.size w w7) := Lib.hid (HB1.out.trans (hb7.mono HB1.out.size))
          clear hb7 cA
          go_wp2
          go_ret
          exact ⟨by first | rfl | simp, HB7.out⟩
    · have hxy := name_ne ha hb hok.1 hok.2 (fun h => hab h.1 : ¬ (a = b ∧ n0 = n1))
      have habz : ((a : Int) == (b : Int)) = false := by rw [beq_eq_false_iff_ne]; omega
      generalize (⟨(nameL a n0).toArray⟩ : ByteArray) = X at *
      generalize (⟨(nameL b n1).toArray⟩ : ByteArray) = Y at *
      clear hok hw1 ha hb l0 u0 l1 u1 hab
      go_enter Tryd.func5, Tryd.ntmps5
      go_wp2_with fail
      rw [HW.out]
      go_region_held3 (fun W => Below w1.heap.size w1 W ∧ W.cell? ⟨w.heap.size, 0, none⟩ = some (.int .i64 n0) ∧ W.cell? ⟨w.heap.size, 1, none⟩ = some (.int .i64 n1)) ((refine HK.out _ ?_; first | assumption | exact (Below.refl _ _).drew | exact Below.refl _ _ | exact Below.drew ‹_›)) (first | (go_at_call 17; (with_reducible refine (HNA.out _ ?_).mono ?_); (first | assumption | exact (Below.refl _ _).drew | exact Below.refl _ _ | exact Below.drew ‹_›); rintro e w6 ⟨rfl, hb6⟩) | (go_at_call 17; (with_reducible refine (HNB.out _ ?_).mono ?_); (first | assumption | exact (Below.refl _ _).drew | exact Below.refl _ _ | exact Below.drew ‹_›); rintro e w6 ⟨rfl, hb6⟩))
      all_goals
        have cA := HAW.out w6 hb6
        clear hb6
        go_wp2_with fail
        refine cA.mono ?_
        rintro e w7 ⟨rfl, hb7⟩
        obtain ⟨_, d0, d1⟩ := HK.out w7 hb7
        have HB7 : Hid (Below w.heap.size w w7) := Lib.hid (HB1.out.trans (hb7.mono HB1.out.size))
        clear hb7 cA
        go_wp2
        go_ret
        exact ⟨by first | rfl | simp, HB7.out⟩
  · have hL : nameL a n0 = [] := nameL_no (by omega)
    rw [hL] at HNA
    generalize (⟨(nameL b n1).toArray⟩ : ByteArray) = Y at *
    clear hok hw1 ha hb l0 u0 l1 u1 hL hs18
    go_enter Tryd.func5, Tryd.ntmps5
    go_wp2_with fail
    rw [HW.out]
    go_region_held3 (fun W => Below w1.heap.size w1 W ∧ W.cell? ⟨w.heap.size, 0, none⟩ = some (.int .i64 n0) ∧ W.cell? ⟨w.heap.size, 1, none⟩ = some (.int .i64 n1)) ((refine HK.out _ ?_; first | assumption | exact (Below.refl _ _).drew | exact Below.refl _ _ | exact Below.drew ‹_›)) (first | (go_at_call 17; (with_reducible refine (HNA.out _ ?_).mono ?_); (first | assumption | exact (Below.refl _ _).drew | exact Below.refl _ _ | exact Below.drew ‹_›); rintro e w6 ⟨rfl, hb6⟩) | (go_at_call 17; (with_reducible refine (HNB.out _ ?_).mono ?_); (first | assumption | exact (Below.refl _ _).drew | exact Below.refl _ _ | exact Below.drew ‹_›); rintro e w6 ⟨rfl, hb6⟩))
    all_goals
      have cA := HAW.out w6 hb6
      clear hb6
      go_wp2_with fail
      refine cA.mono ?_
      rintro e w7 ⟨rfl, hb7⟩
      obtain ⟨_, d0, d1⟩ := HK.out w7 hb7
      have HB7 : Hid (Below w.heap.size w w7) := Lib.hid (HB1.out.trans (hb7.mono HB1.out.size))
      clear hb7 cA
      go_wp2
      go_ret
      exact ⟨by first | rfl | simp, HB7.out⟩
end Go.Proofs.YtfmjhamnpgcdcaaDoor
