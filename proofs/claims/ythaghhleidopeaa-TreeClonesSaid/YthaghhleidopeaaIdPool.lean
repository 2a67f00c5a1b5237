/-
  The contracts of a pool's calls: Take, Give, Out.
-/
import Derived.Test.YthaghhleidopeaaIdOps
import Derived.Test.YthaghhleidopeaaIdMath
namespace Go.Proofs.Ythaghhleidopeaa
open Go.RowKit Go.Sort
set_option linter.unusedVariables false

theorem NumsIs.own {B : Nat} {w : World} {v : Value} {l : List Int} (h : OwnN B w v l) : NumsIs w v l := by
  by_cases e : l = []
  · subst e
    obtain ⟨a, cap, hv⟩ := h.len
    exact Or.inl ⟨rfl, a, cap, hv⟩
  · obtain ⟨g, cap, hv, _, hg, _⟩ := h.head e
    refine Or.inr ⟨g, 0, cap, hg, hv, fun j hj => ?_⟩
    rw [Nat.zero_add]
    subst hv
    exact (h.cell hj).1
/-- A pool at b: which numbers are out. -/
def PoolIs (w0 : World) (r : Option Nat) (m b : Nat) (w : World) (v : Value) (l : List Bool) : Prop := ∃ u ys, Box w0 r m u b w v ys ∧ GoodP m u ys ∧ l = outRow u ys

/-- Is x in the list, from k on? -/
theorem index_c (v : Value) (l : List Int) (x : Int) (w : World) (hv : NumsIs w v l) (hl : l.length ≤ 100000) :
    Calls Try.prog 76 #[v, .int .i64 x] w fun e w' => ∃ i : Int, e = .returned (.int .i64 i) ∧ -1 ≤ i ∧ i ≤ 100000 ∧ (0 ≤ i ↔ x ∈ l) ∧ w' = w := by
  obtain ⟨n, hn⟩ : ∃ n, l.length = n := ⟨_, rfl⟩
  obtain ⟨a, cap, rfl⟩ := hv.len
  have HV := Lib.hid hv
  have HN := Lib.hid hn
  rw [hn] at hl ⊢
  clear hv hn
  go_enter Try.func76, Try.ntmps76
  go_wp2
  go_loop [8] (fun iv => ∃ k : Nat, k ≤ n ∧ iv = .int .i64 k ∧ x ∉ l.take k) (fun iv => n - (intOf iv).toNat)
  case atStart => exact ⟨0, by omega, rfl, by simp⟩
  case round =>
    obtain ⟨k, hk, rfl, hno⟩ := hrel
    have HNO := Lib.hid hno
    clear hno
    by_cases hkn : k < n
    · have hkz : (k : Int) < (n : Int) := by omega
      obtain ⟨g, off, rfl, hg, c1⟩ := HV.out.at (j := k) (by rw [HN.out]; exact hkn)
      have HT : Hid (x ∈ l.take (k + 1) ↔ (x ∈ l.take k ∨ x = l.getD k 0)) := Lib.hid (by
        have hk' : k < l.length := by rw [HN.out]; exact hkn
        rw [List.take_add_one, List.mem_append, List.getD_eq_getElem?_getD, List.getElem?_eq_getElem hk']
        simp)
      have HIN : Hid (l.getD k 0 ∈ l) := Lib.hid (by
        have hk' : k < l.length := by rw [HN.out]; exact hkn
        simp [List.getD_eq_getElem?_getD, List.getElem?_eq_getElem hk'])
      generalize l.getD k 0 = y at *
      cases hx : (x == y) with
      | true =>
        have HE : Hid (x = y) := Lib.hid (by simpa using hx)
        go_wp2
        go_ret
        exact ⟨k, rfl, by omega, by omega, ⟨fun _ => by rw [HE.out]; exact HIN.out, fun _ => by omega⟩, rfl⟩
      | false =>
        have HE : Hid (x ≠ y) := Lib.hid (by simpa using hx)
        go_wp2
        go_round
        case rel => exact ⟨k + 1, by omega, by first | rfl | go_num, fun hm => by
          rcases HT.out.1 hm with h | h
          · exact HNO.out h
          · exact HE.out h⟩
        case measure => simp [intOf]; omega
    · have hge : ¬ ((k : Int) < (n : Int)) := by omega
      have HL : Hid (x ∉ l) := Lib.hid (by
        have := HNO.out
        rw [List.take_of_length_le (by rw [HN.out]; omega)] at this
        exact this)
      go_wp2
      go_ret
      exact ⟨-1, rfl, by omega, by omega, ⟨fun h => by omega, fun h => absurd h HL.out⟩, rfl⟩
theorem contains_c (v : Value) (l : List Int) (x : Int) (w : World) (hv : NumsIs w v l) (hl : l.length ≤ 100000) (t : Bool) (ht : decide (x ∈ l) = t) :
    Calls Try.prog 63 #[v, .int .i64 x] w fun e w' => e = .returned (.bool t) ∧ w' = w := by
  have cI := index_c v l x w hv hl
  clear hv hl
  go_enter Try.func63, Try.ntmps63
  go_wp2_with fail
  refine cI.mono ?_
  rintro e w1 ⟨i, rfl, hi1, hi2, hi3, rfl⟩
  have HT : Hid (decide (0 ≤ i) = t) := Lib.hid (by
    rw [← ht]
    congr 1
    exact propext hi3)
  clear cI hi3 ht
  go_wp2
  go_ret
  exact ⟨by rw [← HT.out]; rfl, rfl⟩

set_option maxHeartbeats 2000000 in
theorem take_c (w0 : World) (r : Option Nat) (m b : Nat) (v : Value) (l : List Bool) (w : World) (h : PoolIs w0 r m b w v l) :
    Calls Try.prog 37 #[.pointer (some ⟨b, 0, none⟩)] w fun e w' =>
      (leastN m l = 0 ∧ e = .returned (.tuple #[.int .i64 0, .bool false]) ∧ PoolIs w0 r m b w' v l) ∨ (∃ (n : Nat) (v' : Value), 1 ≤ n ∧ n ≤ 200 ∧ leastN m l = n ∧ e = .returned (.tuple #[.int .i64 (n : Int), .bool true]) ∧ PoolIs w0 r m b w' v' (l.set n true)) := by
  obtain ⟨u, ys, hb, hg, rfl⟩ := h
  have HB := Lib.hid hb
  have HG := Lib.hid hg
  have hum := hg.um
  have hm2 := hg.m200
  have hyl := hg.len
  have hum2 : (u : Int) ≤ 200 := by omega
  have hmm2 : (m : Int) ≤ 200 := by omega
  obtain ⟨c0, f0⟩ := hb.cell0
  obtain ⟨c1, f1⟩ := hb.cell1
  obtain ⟨c2, f2⟩ := hb.cell
  obtain ⟨a, cap, hv⟩ := hb.own.len
  have cN := len_c a ys.length cap w
  rw [← hv] at cN
  have HV := Lib.hid hv
  cases hys : ys with
  | cons y zs =>
    have cL := least_c w0 r m u b v ys zs.length w hb hg.heap (by rw [hys]; rfl) (by rw [hys] at hyl; simp at hyl; omega)
    unfold LeastPost at cL
    have HT : Hid (∀ zs, ys.Perm (ys.getD 0 0 :: zs) → HeapN zs.length zs → ∃ n : Nat, ys.getD 0 0 = (n : Int) ∧ 1 ≤ n ∧ leastN m (outRow u ys) = n ∧ GoodP m u zs ∧ outRow u zs = (outRow u ys).set n true) := Lib.hid (fun zs hp hz => hg.take hp hz)
    obtain ⟨n, hn⟩ : ∃ n, ys.length = n := ⟨_, rfl⟩
    have hn0 : (0 : Int) < (n : Int) := by rw [← hn, hys]; simp
    rw [hn] at cN
    have HYS := Lib.hid hys
    generalize hxx : ys.getD 0 0 = x at *
    rw [← hys]
    clear hb hg hn hys hv hyl hxx
    go_enter Try.func37, Try.ntmps37
    go_wp2_with fail
    refine cN.mono ?_
    rintro e w1 ⟨rfl, rfl⟩
    go_wp2_with fail
    refine cL.mono ?_
    rintro e w2 ⟨rfl, v', zs', hp, hz, hb2⟩
    obtain ⟨k, hk1, hk2, hk3, hk4, hk5⟩ := HT.out zs' hp hz
    have hk200 : k ≤ 200 := by rw [← hk3]; exact Nat.le_trans (leastN_le _ _) hm2
    have H1 : Hid (PoolIs w0 r m b w2 v' ((outRow u ys).set k true)) := Lib.hid ⟨u, zs', hb2, hk4, hk5.symm⟩
    have H2 := Lib.hid hk3
    subst hk1
    clear cL cN hp hz hb2 hk3 hk4 hk5
    go_wp2
    go_ret2
    exact Or.inr ⟨k, v', hk2, hk200, H2.out, rfl, H1.out⟩
  | nil =>
    subst hys
    rw [List.length_nil] at cN
    clear hb hg hv hyl
    by_cases e : u = m
    · have HE : Hid (leastN m (outRow u []) = 0) := Lib.hid (HG.out.full e)
      subst e
      go_enter Try.func37, Try.ntmps37
      go_wp2_with fail
      refine cN.mono ?_
      rintro e w1 ⟨rfl, rfl⟩
      clear cN
      go_wp2
      go_quiet (fail)
      go_wp2
      go_ret2
      exact Or.inl ⟨HE.out, rfl, u, [], HB.out.drewN _, HG.out, rfl⟩
    · obtain ⟨h1, h2, h3⟩ := HG.out.next e
      have H1 := Lib.hid h1
      have H2 := Lib.hid h2
      have H3 := Lib.hid h3
      have hez : ((u : Int) == (m : Int)) = false := by rw [beq_eq_false_iff_ne]; omega
      have huz : ((u : Int) + 1) = ((u + 1 : Nat) : Int) := by omega
      have HZ := Lib.hid huz
      clear h1 h2 h3 huz
      go_enter Try.func37, Try.ntmps37
      go_wp2_with fail
      refine cN.mono ?_
      rintro e w1 ⟨rfl, rfl⟩
      clear cN
      go_wp2
      go_quiet (fail)
      go_wp2
      go_ret2
      refine Or.inr ⟨u + 1, v, by omega, by omega, H1.out, by first | rfl | simp, u + 1, [], ?_, H2.out, H3.out.symm⟩
      first | exact (HB.out.drewN _).use (u + 1) | exact HB.out.drew.use (u + 1)
end Go.Proofs.Ythaghhleidopeaa
