/-
  The walk of the law 'UtfJoins': of all numbers, up to 100, the bytes of the characters among them are joined, and read again.
-/
import Derived.Test.YtjcnnbakadbccaaDoorAll
import Derived.Test.YtjcnnbakadbccaaDoorRefJoin
namespace Go.Proofs.YtjcnnbakadbccaaDoor
open Go.RowKit
set_option linter.unusedVariables false

theorem le2 {w w1 w2 : World} (h1 : Below w.heap.size w w1) (h2 : Below w1.heap.size w1 w2) : Below w.heap.size w w2 := h1.trans (h2.mono h1.size)

theorem filter_take {l : List Int} {i : Nat} {x : Int} (hi : i < l.length) (hx : l.getD i 0 = x) : (l.take (i + 1)).filter isR = (l.take i).filter isR ++ (if isR x = true then [x] else []) := by
  have ht : l.take (i + 1) = l.take i ++ [x] := by
    rw [List.take_add_one, List.getElem?_eq_getElem hi]
    have : l[i] = x := by rw [← hx]; simp [List.getD_eq_getElem?_getD, List.getElem?_eq_getElem hi]
    rw [this]; rfl
  rw [ht, List.filter_append]
  congr 1
  by_cases h : isR x = true
  · simp [h]
  · simp [h]

/-- What holds at the head of a round of the law's own loop: the characters among the first i numbers are collected. -/
def RelL (l : List Int) (B : Nat) (w0 : World) (ov iv : Value) (wr : World) : Prop :=
  ∃ i : Nat, i ≤ l.length ∧ iv = .int .i64 i ∧ wr.ownsRow B 21 1 ov ((l.take i).filter isR).length (((l.take i).filter isR).map (Value.int .i32)) ∧ Below w0.heap.size w0 wr

set_option maxHeartbeats 2000000 in
theorem joins_in (l : List Int) (hs : l.length ≤ 100) (g off cap : Nat) (w : World) (hT : Tabs w) (hg : g < w.heap.size)
    (hc : ∀ j, j < l.length → w.cell? ⟨g, off + j, none⟩ = some (.int .i32 (l.getD j 0))) :
    Calls Tryd.prog 6 #[.slice (some ⟨g, off, none⟩) l.length cap] w fun e w' => e = .returned (.bool true) ∧ Below w.heap.size w w' := by
  obtain ⟨i0, hi0, hz0, hz1, hz2⟩ := info_parts infoInt32
  have HS0 := Lib.hid (show SliceIs w (.slice (some ⟨g, off, none⟩) l.length cap) l from Or.inr ⟨g, off, cap, hg, rfl, hc⟩)
  obtain ⟨n, hn⟩ : ∃ n, l.length = n := ⟨_, rfl⟩
  have HC := Lib.hid hc
  have hjl := joinL_length l
  have cJ := join_c HS0.out (by omega)
  rw [hn] at cJ
  have cA := fun (w1 : World) (hb : Below w.heap.size w w1) => all_c ⟨(joinL l).toArray⟩ (by show (joinL l).toArray.size ≤ 1000; simp; omega) w1 (hT.step hb)
  have cA' := fun (w1 : World) (hb : Below w.heap.size w w1) => (cA w1 hb)
  simp only [runes_join l] at cA'
  have CA := Lib.hid cA'
  clear cA cA' hc hjl
  rw [hn] at HS0
  rw [hn]
  have hsz : (n : Int) ≤ 100 := by omega
  have HN := Lib.hid hn
  clear hn hs
  go_enter Tryd.func6, Tryd.ntmps6
  go_wp2_with fail
  refine (awake_c _).mono ?_
  rintro e w' ⟨rfl, rfl⟩
  go_wp2_with fail
  refine cJ.mono ?_
  rintro e w1 ⟨rfl, hb1⟩
  go_wp2_with fail
  refine (CA.out _ hb1).mono ?_
  rintro e w2 ⟨v2, he, hs2, hb2⟩
  have he' : e = .returned (.tuple #[v2, .bool true]) := he
  subst he'
  have HS2 := Lib.hid hs2
  clear he hs2 cJ
  have hb12 := le2 hb1 hb2
  have hg2 : g < w2.heap.size := by have := hb12.size; omega
  have HC2 := Lib.hid (show ∀ j, j < l.length → w2.cell? ⟨g, off + j, none⟩ = some (.int .i32 (l.getD j 0)) from fun j hj => by rw [hb12.cell (p := ⟨g, off + j, none⟩) hg]; exact HC.out j hj)
  have HS0' := Lib.hid (HS0.out.kept hb12)
  have HB12 := Lib.hid hb12
  clear hb1 hb2 hb12 hT
  go_wp2
  go_loopw [6, 7] (fun ov iv wr => RelL l w2.heap.size w2 ov iv wr) (fun _ iv _ => n - (intOf iv).toNat)
  case atStart => exact ⟨0, by omega, rfl, World.ownsRow_nil _ _ _ _, Below.refl _ _⟩
  case round =>
    obtain ⟨i, hi, rfl, hown, hbel⟩ := hrel
    rw [HN.out] at hi
    have HO := Lib.hid hown
    clear hown
    by_cases hlt : i < n
    · obtain ⟨x, hx⟩ : ∃ x, l.getD i 0 = x := ⟨_, rfl⟩
      have c1 : wr.cell? ⟨g, off + i, none⟩ = some (.int .i32 x) := by rw [hbel.cell (p := ⟨g, off + i, none⟩) hg2, HC2.out i (by rw [HN.out]; exact hlt), hx]
      have hltz : (i : Int) < (n : Int) := by omega
      have hI := refIs_c x
      have hft := filter_take (by rw [HN.out]; exact hlt) hx
      have hfl : ((l.take i).filter isR).length ≤ 100 := by
        have h1 := List.length_filter_le isR (l.take i)
        have h2 : (l.take i).length ≤ i := List.length_take_le _ _
        omega
      clear hx
      by_cases hr : isR x = true
      · have HF := Lib.hid (show (l.take (i + 1)).filter isR = (l.take i).filter isR ++ [x] by rw [hft, if_pos hr])
        rw [hr] at hI
        clear hft hr
        go_wp2_with fail
        refine (hI _).mono ?_
        rintro e w' ⟨rfl, rfl⟩
        go_wp2_with (at_builtin; refine wpList_append_own _ rfl _ _ 28 rfl w2.heap.size 21 i0 (.int .i32 0) 1 4 Tryd.underlying28 hi0 hz0 hz1 hz2 rfl (by decide) _ _ _ rfl (HO.out.alloc _) ⟨wr.heap.size, 0, none⟩ 1 1 [.int .i32 x] rfl rfl ?c1 ?c2 ?c3 ?c4 ?c5 ?_)
        case c1 =>
          intro j u hj
          match j, hj with
          | 0, hj => simp at hj; subst hj; simp [Addr.add]
        case c2 => intro u hu; simp at hu; subst hu; rfl
        case c3 => unfold maxLen; omega
        case c4 => omega
        case c5 => have h2 := hbel.size; simp; omega
        intro v' w4 hown' hgrow _
        have HO2 := Lib.hid hown'
        have HG := Lib.hid hgrow
        clear hown' hgrow
        go_wp2
        go_roundw
        case rel =>
          refine ⟨i + 1, by rw [HN.out]; omega, by go_num, by rw [HF.out]; simpa using HO2.out, ?_⟩
          exact (hbel.alloc hbel.size _).grown HG.out (by simp; have := hbel.size; omega) (fun j hj => (HO.out.lt j hj).1)
        case measure => simp [intOf]; omega
      · have HF := Lib.hid (show (l.take (i + 1)).filter isR = (l.take i).filter isR by rw [hft, if_neg hr, List.append_nil])
        have hr' : isR x = false := by simpa using hr
        rw [hr'] at hI
        clear hft hr hr'
        go_wp2_with fail
        refine (hI _).mono ?_
        rintro e w' ⟨rfl, rfl⟩
        go_wp2
        go_roundw
        case rel => exact ⟨i + 1, by rw [HN.out]; omega, by go_num, by rw [HF.out]; exact HO.out, hbel⟩
        case measure => simp [intOf]; omega
    · have hin : i = n := by omega
      have HOE := Lib.hid (show SliceIs wr u6 (l.filter isR) by
        have h1 := SliceIs.own HO.out
        rwa [List.take_of_length_le (by rw [HN.out]; omega)] at h1)
      have hge : ¬ ((i : Int) < (n : Int)) := by omega
      have HSR := Lib.hid (HS0'.out.kept hbel)
      have HS2R := Lib.hid (HS2.out.kept hbel)
      have cK := refJoin_c HSR.out (by rw [HN.out]; omega)
      clear hin
      go_wp2_with fail
      refine cK.mono ?_
      rintro e w5 ⟨rfl, hb5⟩
      go_wp2_with fail
      refine (same_c (HS2R.out.kept hb5) (HOE.out.kept hb5) (by
        have h1 := List.length_filter_le isR l
        show (l.filter isR).length ≤ 1000
        rw [HN.out] at h1
        omega)).mono ?_
      rintro e w6 ⟨he, hb6⟩
      have he' : e = .returned (.bool true) := by rw [he, Option.getD_some, decide_eq_true rfl]
      subst he'
      clear he
      go_wp2
      go_ret
      exact ⟨rfl, le2 (le2 HB12.out hbel) (le2 hb5 hb6)⟩
end Go.Proofs.YtjcnnbakadbccaaDoor
