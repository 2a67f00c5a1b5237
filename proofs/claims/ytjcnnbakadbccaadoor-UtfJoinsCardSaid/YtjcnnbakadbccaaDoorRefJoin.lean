/-
  The contract of the reference's Join.
-/
import Derived.Test.YtjcnnbakadbccaaDoorRef
import Derived.Test.YtjcnnbakadbccaaDoorJoin
import Derived.Laws.NewBlocks
namespace Go.Proofs.YtjcnnbakadbccaaDoor
open Go.RowKit
set_option linter.unusedVariables false

theorem joinL_take {l : List Int} {i : Nat} {x : Int} (hi : i < l.length) (hx : l.getD i 0 = x) : joinL (l.take (i + 1)) = joinL (l.take i) ++ (if isR x = true then Lib.encodeRune x else []) := by
  have ht : l.take (i + 1) = l.take i ++ [x] := by
    rw [List.take_add_one, List.getElem?_eq_getElem hi]
    have : l[i] = x := by rw [← hx]; simp [List.getD_eq_getElem?_getD, List.getElem?_eq_getElem hi]
    rw [this]; rfl
  rw [ht, joinL_snoc]

def RelK (l : List Int) (w0 : World) (sv iv : Value) (wr : World) : Prop :=
  ∃ (i : Nat) (s : ByteArray), i ≤ l.length ∧ iv = .int .i64 i ∧ sv = .string s ∧ s.data.toList = joinL (l.take i) ∧ Below w0.heap.size w0 wr

theorem str_end {s : ByteArray} {l : List UInt8} (h : s.data.toList = l) : s = ⟨l.toArray⟩ := by
  apply ByteArray.ext
  apply Array.ext'
  rw [h]

set_option maxHeartbeats 1000000 in
theorem refJoin_in (l : List Int) (hs : l.length ≤ 1000) (g off cap : Nat) (w : World) (hg : g < w.heap.size)
    (hc : ∀ j, j < l.length → w.cell? ⟨g, off + j, none⟩ = some (.int .i32 (l.getD j 0))) :
    Calls Tryd.prog 18 #[.slice (some ⟨g, off, none⟩) l.length cap] w fun e w' => e = .returned (.string ⟨(joinL l).toArray⟩) ∧ Below w.heap.size w w' := by
  obtain ⟨n, hn⟩ : ∃ n, l.length = n := ⟨_, rfl⟩
  have HC := Lib.hid hc
  clear hc
  rw [hn]
  rw [hn] at hs
  have HN := Lib.hid hn
  clear hn
  go_enter Tryd.func18, Tryd.ntmps18
  go_wp2
  go_loopw [3, 4] (fun sv iv wr => RelK l w sv iv wr) (fun _ iv _ => n - (intOf iv).toNat)
  case atStart => exact ⟨0, ⟨#[]⟩, by omega, rfl, rfl, rfl, Below.refl _ _⟩
  case round =>
    obtain ⟨i, s, hi, rfl, rfl, hsl, hbel⟩ := hrel
    rw [HN.out] at hi
    have HS := Lib.hid hsl
    clear hsl
    by_cases hlt : i < n
    · obtain ⟨x, hx⟩ : ∃ x, l.getD i 0 = x := ⟨_, rfl⟩
      have c1 : wr.cell? ⟨g, off + i, none⟩ = some (.int .i32 x) := by rw [hbel.cell (p := ⟨g, off + i, none⟩) hg, HC.out i (by rw [HN.out]; exact hlt), hx]
      have hltz : (i : Int) < (n : Int) := by omega
      have HT := Lib.hid (joinL_take (by rw [HN.out]; exact hlt) hx)
      have hI := refIs_c x
      clear hx
      by_cases hr : isR x = true
      · have hB := refBytes_c x hr
        have HX := Lib.hid (show joinL (l.take (i + 1)) = (s ++ Utf8.encode x).data.toList by
          rw [HT.out, if_pos hr, ByteArray.data_append, Array.toList_append, encode_toList x hr, HS.out])
        have hsz : s.size ≤ 4000 := by
          have h1 := congrArg List.length HS.out
          have h2 := joinL_length (l.take i)
          have h3 : (l.take i).length ≤ i := List.length_take_le _ _
          have h4 : s.data.toList.length = s.size := by simp
          omega
        have hen : (Utf8.encode x).size ≤ 4 := by
          have h1 := bsOf_size x
          unfold bsOf at h1
          rwa [if_pos hr] at h1
        rw [hr] at hI
        clear hr
        generalize Utf8.encode x = en at *
        have hsum : ¬ (9223372036854775807 < s.size + en.size) := by omega
        go_wp2_with fail
        refine (hI _).mono ?_
        rintro e w' ⟨rfl, rfl⟩
        go_wp2_with fail
        refine (hB _).mono ?_
        rintro e w2 ⟨rfl, hb2⟩
        go_wp2
        go_roundw
        case rel => exact ⟨i + 1, _, by rw [HN.out]; omega, by go_num, rfl, HX.out.symm, hbel.trans (hb2.mono hbel.size)⟩
        case measure => simp [intOf]; omega
      · have hr' : isR x = false := by simpa using hr
        have HX := Lib.hid (show s.data.toList = joinL (l.take (i + 1)) by rw [HT.out, if_neg hr, List.append_nil, HS.out])
        rw [hr'] at hI
        clear hr hr'
        go_wp2_with fail
        refine (hI _).mono ?_
        rintro e w' ⟨rfl, rfl⟩
        go_wp2
        go_roundw
        case rel => exact ⟨i + 1, s, by rw [HN.out]; omega, by go_num, rfl, HX.out, hbel⟩
        case measure => simp [intOf]; omega
    · have hin : i = n := by omega
      have HT : Hid (s = ⟨(joinL l).toArray⟩) := str_end (by rw [HS.out, List.take_of_length_le (by rw [HN.out]; omega)])
      have hge : ¬ ((i : Int) < (n : Int)) := by omega
      clear hin
      go_wp2
      go_ret
      exact ⟨by rw [← HT.out]; rfl, hbel⟩

set_option maxHeartbeats 1000000 in
theorem refJoin_nil (a : Option Addr) (cap : Nat) (w : World) :
    Calls Tryd.prog 18 #[.slice a 0 cap] w fun e w' => e = .returned (.string ⟨#[]⟩) ∧ Below w.heap.size w w' := by
  go_enter Tryd.func18, Tryd.ntmps18
  go_wp2
  go_rounds 1
  go_ret
  exact ⟨rfl, Below.refl _ _⟩

theorem refJoin_c {v : Value} {l : List Int} {w : World} (h : SliceIs w v l) (hs : l.length ≤ 1000) :
    Calls Tryd.prog 18 #[v] w fun e w' => e = .returned (.string ⟨(joinL l).toArray⟩) ∧ Below w.heap.size w w' := by
  rcases h with ⟨rfl, a, cap, rfl⟩ | ⟨g, off, cap, hg, rfl, hc⟩
  · exact refJoin_nil a cap w
  · exact refJoin_in l hs g off cap w hg hc
end Go.Proofs.YtjcnnbakadbccaaDoor
