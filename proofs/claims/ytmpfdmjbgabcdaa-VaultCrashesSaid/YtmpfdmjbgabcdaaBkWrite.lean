/-
  A bank (stage 7): a record is written.
-/
import Derived.Test.YtmpfdmjbgabcdaaBkPuts
namespace Go.Proofs.Ytmpfdmjbgabcdaa
open Go.RowKit Go.Sort
set_option linter.unusedVariables false

set_option maxHeartbeats 2000000 in
theorem write_no (B b : Nat) (st : St) (fr sz at_ q : Int) (s : ByteArray) (w : World) (h : Dev B w b st) (hg : Good st) (ho : openI st fr sz = q) (hne : q ≠ 0) :
    Calls Try.prog 54 #[.pointer (some ⟨b, 0, none⟩), .int .i64 fr, .int .i64 sz, .int .i64 at_, .string s] w fun e w' => e = .returned (.tuple #[.int .i64 0, .int .i64 q]) ∧ Below w.heap.size w w' := by
  have cO := open_no B b st fr sz q w h hg ho hne
  have hne2 : (q == 0) = false := by simpa using hne
  clear h hg ho hne
  go_enter Try.func54, Try.ntmps54
  go_wp2_with fail
  refine cO.mono ?_
  rintro e w1 ⟨rfl, hb1⟩
  have HB1 : Hid (Below w.heap.size w (w1.alloc (.cells #[.pointer none, .int .i64 0, .int .i64 0] 105))) := Lib.hid (hb1.alloc hb1.size _)
  clear hb1 cO
  go_wp2
  go_ret2
  exact ⟨rfl, HB1.out⟩
/-- What Write answers of a bank that is there. -/
def writeI (S : Nat) (at_ : Int) (n : Nat) : Int := if at_ < 1 then 1 else if n < 1 ∨ 60000 < n then 4 else if (S : Int) - at_ < ((n + 61) / 62 : Nat) then 11 else 0
set_option maxHeartbeats 4000000 in
set_option maxRecDepth 100000 in
theorem write_bad (B b : Nat) (st : St) (F S : Nat) (at_ q : Int) (s : ByteArray) (w : World) (h : Dev B w b st) (hg : Good st) (ho : openI st F S = 0) (hS : F + S ≤ st.now.length) (hat : -9223372036854775808 ≤ at_ ∧ at_ ≤ 9223372036854775807) (hs : s.size ≤ 9223372036854775807) (hq : writeI S at_ s.size = q) (hne : q ≠ 0) :
    Calls Try.prog 54 #[.pointer (some ⟨b, 0, none⟩), .int .i64 F, .int .i64 S, .int .i64 at_, .string s] w fun e w' => e = .returned (.tuple #[.int .i64 0, .int .i64 q]) ∧ Below w.heap.size w w' := by
  have cO := open_ok B b st F S w h hg ho
  have hf := hg.few
  have hS4 : S ≤ 4096 := by omega
  obtain ⟨n, hn⟩ : ∃ n, s.size = n := ⟨_, rfl⟩
  rw [hn] at hs hq
  have HN := Lib.hid hn
  unfold writeI at hq
  clear h hg ho hS hf
  have HB1 : Hid (∀ w1, Below w.heap.size w w1 → Below w.heap.size w (w1.alloc (.cells #[.pointer (some ⟨b, 0, none⟩), .int .i64 F, .int .i64 S] 105))) := Lib.hid (fun w1 hb1 => hb1.alloc hb1.size _)
  by_cases h1 : at_ < 1
  · rw [if_pos h1] at hq
    subst hq
    go_enter Try.func54, Try.ntmps54
    go_wp2_with fail
    refine cO.mono ?_
    rintro e w1 ⟨rfl, hb1⟩
    have HB2 := Lib.hid (HB1.out w1 hb1)
    clear hb1 cO
    go_wp2
    go_ret2
    exact ⟨rfl, HB2.out⟩
  · rw [if_neg h1] at hq
    by_cases h2 : n < 1
    · rw [if_pos (Or.inl h2)] at hq
      subst hq
      have h2z : (n : Int) < 1 := by omega
      have h0 : n = 0 := by omega
      subst h0
      go_enter Try.func54, Try.ntmps54
      go_wp2_with fail
      refine cO.mono ?_
      rintro e w1 ⟨rfl, hb1⟩
      have HB2 := Lib.hid (HB1.out w1 hb1)
      clear hb1 cO
      go_wp2
      go_ret2
      exact ⟨rfl, HB2.out⟩
    · have h2z : ¬ ((n : Int) < 1) := by omega
      have hd2 : decide ((n : Int) < 1) = false := decide_eq_false h2z
      by_cases h3 : 60000 < n
      · rw [if_pos (Or.inr h3)] at hq
        subst hq
        have h3z : (60000 : Int) < (n : Int) := by omega
        go_enter Try.func54, Try.ntmps54
        go_wp2_with fail
        refine cO.mono ?_
        rintro e w1 ⟨rfl, hb1⟩
        have HB2 := Lib.hid (HB1.out w1 hb1)
        clear hb1 cO
        go_wp2
        go_ret2
        exact ⟨rfl, HB2.out⟩
      · rw [if_neg (by omega)] at hq
        have h3z : ¬ ((60000 : Int) < (n : Int)) := by omega
        have hd3 : decide ((60000 : Int) < (n : Int)) = false := decide_eq_false h3z
        split at hq
        case isFalse => exact absurd hq.symm hne
        rename_i h4
        subst hq
        have cF := fun W => frames_n (n : Int) W (by omega)
        rw [framesI_nat] at cF
        generalize (n + 61) / 62 = k at *
        have cH := fun W => has_c (some ⟨b, 0, none⟩) F S at_ k W (by omega)
        rw [decide_eq_false (by omega)] at cH
        go_enter Try.func54, Try.ntmps54
        go_wp2_with fail
        refine cO.mono ?_
        rintro e w1 ⟨rfl, hb1⟩
        have HB2 := Lib.hid (HB1.out w1 hb1)
        clear hb1 cO
        go_upto_region 8 with fail
        obtain ⟨W0, hW0⟩ : ∃ W0, w1.alloc (.cells #[.pointer (some ⟨b, 0, none⟩), .int .i64 F, .int .i64 S] 105) = W0 := ⟨_, rfl⟩
        have hC0 : W0.heap[w1.heap.size]? = some (.cells #[.pointer (some ⟨b, 0, none⟩), .int .i64 F, .int .i64 S] 105 (0, 0)) := by rw [← hW0]; exact heap_alloc_new _ _
        have hgS : w1.heap.size < W0.heap.size := lt_of_get hC0
        have hS0 : Below W0.heap.size W0 W0 ∧ W0.cell? ⟨w1.heap.size, 0, none⟩ = some (.pointer (some ⟨b, 0, none⟩)) ∧ W0.cell? ⟨w1.heap.size, 1, none⟩ = some (.int .i64 F) ∧ W0.cell? ⟨w1.heap.size, 2, none⟩ = some (.int .i64 S) := ⟨Below.refl _ _, by rw [cell_of_row _ _ _ _ _ _ hC0]; rfl, by rw [cell_of_row _ _ _ _ _ _ hC0]; rfl, by rw [cell_of_row _ _ _ _ _ _ hC0]; rfl⟩
        have j0 := hS0.2.1
        have j1 := hS0.2.2.1
        have j2 := hS0.2.2.2
        rw [hW0] at HB2
        rw [hW0]
        clear hC0 hW0
        generalize w1.heap.size = g at *
        go_region_held3 (fun W => Below W0.heap.size W0 W ∧ W.cell? ⟨g, 0, none⟩ = some (.pointer (some ⟨b, 0, none⟩)) ∧ W.cell? ⟨g, 1, none⟩ = some (.int .i64 F) ∧ W.cell? ⟨g, 2, none⟩ = some (.int .i64 S)) (first | assumption | exact box_drew ‹_› | exact box_step hgS ‹_› ‹_›) (first | (go_at_call 56; refine (cF _).mono ?_; rintro e w' ⟨rfl, rfl⟩) | (go_at_call 64; refine (cH _).mono ?_; rintro e w' ⟨rfl, hb⟩))
        rename_i hHeld
        have HB9 : Hid (Below w.heap.size w _) := Lib.hid (HB2.out.trans (hHeld.1.mono HB2.out.size))
        clear hS0 j0 j1 j2 hb hHeld
        go_wp2
        go_ret2
        exact ⟨rfl, HB9.out⟩
end Go.Proofs.Ytmpfdmjbgabcdaa
