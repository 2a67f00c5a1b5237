/-
  ComposeStable answers true.
-/
import Derived.Test.YtjakelphkehonaaCpKit
namespace Go.Proofs.Ytjakelphkehonaa
open Go.RowKit Go.Sort
set_option linter.unusedVariables false

def LawPost (w : World) (e : Ending) (w' : World) : Prop := e = .returned (.bool true) ∧ Below w.heap.size w w'
theorem togI_length3 (l : List Int) : (togI (apartI l)).length ≤ 3 * l.length := by
  have := togI_length (apartI l); have := apart_length l; omega

set_option maxHeartbeats 2000000 in
theorem stable_long (v : Option Addr) (n cap : Nat) (h : 40 < n) (w : World) : Calls Try.prog 8 #[.slice v n cap] w (LawPost w) := by
  have c5 := fun w => awake3_c w
  have hz : (40 : Int) < (n : Int) := by omega
  unfold LawPost
  go_enter Try.func8, Try.ntmps8
  go_wp2_with fail
  refine (c5 _).mono ?_
  rintro e w1 ⟨rfl, hb1⟩
  go_wp2_with fail
  refine (c5 _).mono ?_
  rintro e w2 ⟨rfl, hb2⟩
  have HB := Lib.hid (below_step hb1 hb2)
  clear hb1 hb2
  go_wp2
  go_ret
  exact ⟨rfl, HB.out⟩

set_option maxHeartbeats 2000000 in
theorem stable_law (v : Value) (l : List Int) (w : World) (hv : SliceIs w v l) : Calls Try.prog 8 #[v] w (LawPost w) := by
  obtain ⟨a, cap, hva⟩ := hv.len
  by_cases hl : 40 < l.length
  · subst hva; exact stable_long a l.length cap hl w
  · have hl40 : l.length ≤ 40 := by omega
    have c5 := fun w => awake3_c w
    have H1 : Hid (∀ w1, Below w.heap.size w w1 → Calls Try.prog 13 #[v] w1 (ApartPost l w1)) := Lib.hid fun w1 hb => apart_c l v w1 (hv.kept hb) (by omega) (by have := marks_full l; omega)
    have H2 : Hid (∀ w1 va, SliceIs w1 va (apartI l) → Calls Try.prog 10 #[va] w1 (TogPost (apartI l) w1)) := Lib.hid fun w1 va h => together_c _ va w1 h (by have := apart_length l; omega)
    have H3 : Hid (∀ w1 va, SliceIs w1 va (apartI l) → Calls Try.prog 14 #[va] w1 (LawPost w1)) := Lib.hid fun w1 va h => by
      have := stablecp_c (apartI l) va w1 h (by have := apart_length l; omega) (by have := marks_apart_full l; omega)
      unfold StablePost at this
      rw [decide_eq_true (apart_stable l).symm] at this
      exact this
    have H4 : Hid (∀ w1 va, SliceIs w1 va (togI (apartI l)) → Calls Try.prog 13 #[va] w1 (ApartPost (togI (apartI l)) w1)) := Lib.hid fun w1 va h => apart_c _ va w1 h (by have := togI_length3 l; omega) (by have := marks_tog_full l; omega)
    have H5 : Hid (∀ w1 va vb, SliceIs w1 va (apartI (togI (apartI l))) → SliceIs w1 vb (apartI l) → Calls Try.prog 12 #[va, vb] w1 (LawPost w1)) := Lib.hid fun w1 va vb h h' => by
      rw [apart_tog_apart l] at h
      have := same_c h h' (by have := apart_length l; omega)
      rw [decide_eq_true rfl] at this
      exact this
    have H6 : Hid (∀ w1 va, SliceIs w1 va (togI (apartI l)) → Calls Try.prog 10 #[va] w1 (TogPost (togI (apartI l)) w1)) := Lib.hid fun w1 va h => together_c _ va w1 h (by have := togI_length3 l; omega)
    have H7 : Hid (∀ w1 va vb, SliceIs w1 va (togI (togI (apartI l))) → SliceIs w1 vb (togI (apartI l)) → Calls Try.prog 12 #[va, vb] w1 (LawPost w1)) := Lib.hid fun w1 va vb h h' => by
      rw [tog_twice (apartI l)] at h
      have := same_c h h' (by have := togI_length3 l; omega)
      rw [decide_eq_true rfl] at this
      exact this
    obtain ⟨n, hn⟩ : ∃ n, l.length = n := ⟨_, rfl⟩
    subst hva
    rw [hn] at H1 ⊢
    have hz : ¬ ((40 : Int) < (n : Int)) := by omega
    clear hv hn hl hl40
    unfold LawPost at *
    go_enter Try.func8, Try.ntmps8
    go_wp2_with fail
    refine (c5 _).mono ?_
    rintro e w1 ⟨rfl, hb1⟩
    have c1 := H1.out w1 hb1
    go_wp2_with fail
    refine c1.mono ?_
    rintro e w2 ⟨va, rfl, s2, _, hb2⟩
    have c2 := H2.out w2 va s2
    have hb12 := below_step hb1 hb2
    clear c1 hb1 hb2 c5 H1 H2
    go_wp2_with fail
    refine c2.mono ?_
    rintro e w3 ⟨vt, rfl, s3, hb3⟩
    have s2' := s2.kept hb3
    have c3 := H3.out w3 va s2'
    have hb13 := below_step hb12 hb3
    clear c2 hb12 hb3 s2 H3
    go_wp2_with fail
    refine c3.mono ?_
    rintro e w4 ⟨rfl, hb4⟩
    have s24 := s2'.kept hb4
    have s34 := s3.kept hb4
    have c4 := H4.out w4 vt s34
    have hb14 := below_step hb13 hb4
    clear c3 hb13 hb4 s2' s3 H4
    go_wp2_with fail
    refine c4.mono ?_
    rintro e w5 ⟨vx, rfl, s5, _, hb5⟩
    have c6 := H5.out w5 vx va s5 (s24.kept hb5)
    have s35 := s34.kept hb5
    have hb15 := below_step hb14 hb5
    clear c4 hb14 hb5 s24 s34 s5 H5
    go_wp2_with fail
    refine c6.mono ?_
    rintro e w6 ⟨rfl, hb6⟩
    have s36 := s35.kept hb6
    have c7 := H6.out w6 vt s36
    have hb16 := below_step hb15 hb6
    clear c6 hb15 hb6 s35 H6
    go_wp2_with fail
    refine c7.mono ?_
    rintro e w7 ⟨vy, rfl, s7, hb7⟩
    have c8 := H7.out w7 vy vt s7 (s36.kept hb7)
    have hb17 := below_step hb16 hb7
    clear c7 hb16 hb7 s36 s7 H7
    go_wp2_with fail
    refine c8.mono ?_
    rintro e w8 ⟨rfl, hb8⟩
    have HB := Lib.hid (below_step hb17 hb8)
    clear c8 hb17 hb8
    go_wp2
    go_ret
    exact ⟨rfl, HB.out⟩
end Go.Proofs.Ytjakelphkehonaa
