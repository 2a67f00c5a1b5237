/-
  The contracts of the library's stableCmpFunc and SortStableFunc at up to 40 marks, and of compose's orderRun: marks in order, those of one class as they stood.
-/
import Derived.Test.YtjakelphkehonaaSoSym
namespace Go.Proofs.Ytjakelphkehonaa
open Go.RowKit Go.Sort
set_option linter.unusedVariables false

theorem sym_c (w : World) (g off cap N : Nat) (L0 : List Int) (hH : Holds encI w g off L0.toArray) (hN : L0.length = N) (hsz : N < 1000000) :
    ∀ (n : Nat) (P A B T : List Int), A.length + B.length ≤ n → SymSays w g off cap N P A B T := by
  intro n
  induction n with
  | zero => intro P A B T h hA; omega
  | succ n ih =>
    intro P A B T h hA hB hpA hpB hsA hsB hL a M b m ha hM hb
    by_cases h1 : A.length = 1
    · obtain ⟨x, rfl⟩ := List.length_eq_one_iff.1 h1
      have := sym_left w g off cap N L0 hH hN hsz P B T x hpB hsB hL a M b ha (by simpa using hM) hb m
      exact this
    · by_cases h2 : B.length = 1
      · obtain ⟨x, rfl⟩ := List.length_eq_one_iff.1 h2
        have := sym_right w g off cap N L0 hH hN hsz P A T x (by omega) (hpB x (by simp)) hsA hL a M b ha hM (by simpa using hb) m
        exact this
      · exact sym_gen w g off cap N L0 hH hN hsz P A B T (fun P' A' B' T' h' => ih P' A' B' T' (by omega)) (by omega) (by omega) hpA hpB hsA hsB hL a M b m ha hM hb

def RunPost (w : World) (g off : Nat) (A : List Int) (w' : World) : Prop := ∃ M m', SwapsM classI A M ∧ SortedM M ∧ w' = RW w g off M m'
theorem run_of {w : World} {g off : Nat} {A : List Int} {w' : World} (h : SortPost w g off [] A [] w') : RunPost w g off A w' := by
  obtain ⟨M, m', h1, h2, rfl⟩ := h
  exact ⟨M, m', h1, h2, by simp⟩
theorem pos_swaps {A M : List Int} (h : SwapsM classI A M) (hp : PosM A) : PosM M := fun x hx => hp x (h.perm.mem_iff.2 hx)

set_option maxHeartbeats 2000000 in
theorem stable_none (v : Value) (w : World) : Calls Try.prog 44 #[v, .int .i64 0, cmpV] w fun e w' => e = .returned (.tuple #[]) ∧ w' = w := by
  have c := ins_none w v 0 cmpV (by decide)
  go_enter Try.func44, Try.ntmps44
  go_wp2
  refine wp_loop_rounds 1 ?_
  rw [rounds_succ]
  go_wp2_with fail
  refine c.mono ?_
  rintro e w' ⟨rfl, rfl⟩
  go_wp2
  refine wp_loop_rounds 1 ?_
  rw [rounds_succ]
  go_wp2
  go_end0
  exact ⟨rfl, rfl⟩

set_option maxHeartbeats 2000000 in
theorem stable_few (w : World) (g off cap N : Nat) (A : List Int) (hH : Holds encI w g off A.toArray) (hN : A.length = N) (h1 : 1 ≤ N) (h2 : N < 20) (hp : PosM A) :
    Calls Try.prog 44 #[.slice (some ⟨g, off, none⟩) N cap, .int .i64 N, cmpV] w fun e w' => e = .returned (.tuple #[]) ∧ RunPost w g off A w' := by
  have c := ins_some w g off cap N A hH hN (by omega) [] A [] (by omega) hp (by simpa using hN) 0 N rfl (by omega) 0
  rw [show ([] : List Int) ++ (A ++ []) = A by simp, RW_start hH] at c
  have hlt : ¬ ((20 : Int) ≤ (N : Int)) := by omega
  have hlt2 : ¬ ((20 : Int) < (N : Int)) := by omega
  clear hH hN hp
  go_enter Try.func44, Try.ntmps44
  go_wp2
  refine wp_loop_rounds 1 ?_
  rw [rounds_succ]
  go_wp2_with fail
  refine c.mono ?_
  rintro e w' ⟨rfl, hs⟩
  have HR := Lib.hid (run_of hs)
  clear hs c
  go_wp2
  refine wp_loop_rounds 1 ?_
  rw [rounds_succ]
  go_wp2
  go_end0
  exact ⟨rfl, HR.out⟩

set_option maxHeartbeats 2000000 in
theorem stable_20 (w : World) (g off cap : Nat) (A : List Int) (hH : Holds encI w g off A.toArray) (hN : A.length = 20) (hp : PosM A) :
    Calls Try.prog 44 #[.slice (some ⟨g, off, none⟩) 20 cap, .int .i64 20, cmpV] w fun e w' => e = .returned (.tuple #[]) ∧ RunPost w g off A w' := by
  have c := ins_some w g off cap 20 A hH hN (by omega) [] A [] (by omega) hp (by simpa using hN) 0 20 rfl (by omega) 0
  rw [show ([] : List Int) ++ (A ++ []) = A by simp, RW_start hH] at c
  have c2 := fun w => ins_none w (.slice (some ⟨g, off, none⟩) 20 cap) 20 cmpV (by decide)
  clear hH hN hp
  go_enter Try.func44, Try.ntmps44
  go_wp2
  refine wp_loop_rounds 2 ?_
  rw [rounds_succ]
  go_wp2_with fail
  refine c.mono ?_
  rintro e w' ⟨rfl, hs⟩
  have HR := Lib.hid (run_of hs)
  clear hs c
  go_wp2
  rw [rounds_succ]
  go_wp2_with fail
  refine (c2 _).mono ?_
  rintro e w2 ⟨rfl, rfl⟩
  go_wp2
  refine wp_loop_rounds 1 ?_
  rw [rounds_succ]
  go_wp2
  go_end0
  exact ⟨rfl, HR.out⟩

/-- Two parts, each put in order, then merged. -/
theorem two_parts {A A1 A2 M1 M2 : List Int} (h : A = A1 ++ A2) (s1 : SwapsM classI A1 M1) (s2 : SwapsM classI A2 M2) {M : List Int} (s : SwapsM classI (M1 ++ M2) M) : SwapsM classI A M := by
  have r1 := s1.within [] A2
  have r2 := s2.within M1 []
  simp only [List.nil_append, List.append_nil] at r1 r2
  rw [h]
  exact (r1.trans r2).trans s

set_option maxHeartbeats 4000000 in
theorem stable_more (w : World) (g off cap N : Nat) (A : List Int) (hH : Holds encI w g off A.toArray) (hN : A.length = N) (h1 : 20 < N) (h2 : N < 40) (hp : PosM A) :
    Calls Try.prog 44 #[.slice (some ⟨g, off, none⟩) N cap, .int .i64 N, cmpV] w fun e w' => e = .returned (.tuple #[]) ∧ RunPost w g off A w' := by
  obtain ⟨A1, hA1⟩ : ∃ A1, A.take 20 = A1 := ⟨_, rfl⟩
  obtain ⟨A2, hA2⟩ : ∃ A2, A.drop 20 = A2 := ⟨_, rfl⟩
  have hAA : A = A1 ++ A2 := by rw [← hA1, ← hA2, List.take_append_drop]
  have l1 : A1.length = 20 := by rw [← hA1, List.length_take]; omega
  have l2 : A2.length = N - 20 := by rw [← hA2, List.length_drop]; omega
  have p1 : PosM A1 := fun x hx => hp x (by rw [hAA]; simp [hx])
  have p2 : PosM A2 := fun x hx => hp x (by rw [hAA]; simp [hx])
  have c1 := ins_some w g off cap N A hH hN (by omega) [] A1 A2 (by omega) p1 (by rw [← hAA]; exact hN) 0 20 rfl (by omega) 0
  rw [← hAA, show ([] : List Int) ++ A = A from rfl, RW_start hH] at c1
  have C2 : Hid (∀ M1 m1, SwapsM classI A1 M1 → Calls Try.prog 45 #[.slice (some ⟨g, off, none⟩) N cap, .int .i64 20, .int .i64 N, cmpV] (RW w g off ([] ++ (M1 ++ A2)) m1)
      fun e w' => e = .returned (.tuple #[]) ∧ SortPost w g off M1 A2 [] w') := Lib.hid fun M1 m1 s1 => by
    have hl := s1.length
    have := ins_some w g off cap N A hH hN (by omega) M1 A2 [] (by omega) p2 (by simp; omega) 20 N (by omega) (by omega) m1
    rw [show M1 ++ (A2 ++ []) = [] ++ (M1 ++ A2) by simp] at this
    exact this
  have C3 : Hid (∀ M1 M2 m2, SwapsM classI A1 M1 → SortedM M1 → SwapsM classI A2 M2 → SortedM M2 → Calls Try.prog 46 #[.slice (some ⟨g, off, none⟩) N cap, .int .i64 0, .int .i64 20, .int .i64 N, cmpV] (RW w g off (M1 ++ (M2 ++ [])) m2)
      fun e w' => e = .returned (.tuple #[]) ∧ RunPost w g off A w') := Lib.hid fun M1 M2 m2 s1 o1 s2 o2 => by
    have hl := s1.length
    have hl2 := s2.length
    have := sym_c w g off cap N A hH hN (by omega) _ [] M1 M2 [] (Nat.le_refl _) (by omega) (by omega) (pos_swaps s1 p1) (pos_swaps s2 p2) o1 o2 (by simp [LL]; omega) 0 20 N m2 rfl (by omega) (by omega)
    refine this.mono ?_
    rintro e w' ⟨rfl, M, m', q1, q2, rfl⟩
    exact ⟨rfl, M, m', two_parts hAA s1 s2 q1, q2, by simp⟩
  have hlt : (20 : Int) ≤ (N : Int) := by omega
  have hlt2 : (20 : Int) < (N : Int) := by omega
  have hlt3 : ¬ ((40 : Int) ≤ (N : Int)) := by omega
  have hlt4 : ¬ ((40 : Int) < (N : Int)) := by omega
  clear hH hN hp hA1 hA2 hAA l1 l2 p1 p2
  go_enter Try.func44, Try.ntmps44
  go_wp2
  refine wp_loop_rounds 2 ?_
  rw [rounds_succ]
  go_wp2_with fail
  refine c1.mono ?_
  rintro e w1 ⟨rfl, M1, m1, s1, o1, rfl⟩
  have S1 := Lib.hid s1
  have O1 := Lib.hid o1
  clear s1 o1 c1
  have c2 := C2.out M1 m1 S1.out
  generalize RW w g off ([] ++ (M1 ++ A2)) m1 = W1 at c2 ⊢
  go_wp2
  rw [rounds_succ]
  go_wp2_with fail
  refine c2.mono ?_
  rintro e w2 ⟨rfl, M2, m2, s2, o2, rfl⟩
  have c3 := C3.out M1 M2 m2 S1.out O1.out s2 o2
  clear s2 o2 c2 S1 O1 C2 C3
  generalize RW w g off (M1 ++ (M2 ++ [])) m2 = W2 at c3 ⊢
  go_wp2
  refine wp_loop_rounds 2 ?_
  rw [rounds_succ]
  go_wp2
  refine wp_loop_rounds 1 ?_
  rw [rounds_succ]
  go_wp2_with fail
  refine c3.mono ?_
  rintro e w3 ⟨rfl, hr⟩
  have HR := Lib.hid hr
  clear hr c3
  go_wp2
  rw [rounds_succ]
  go_wp2
  go_end0
  exact ⟨rfl, HR.out⟩
set_option maxHeartbeats 4000000 in
theorem stable_40 (w : World) (g off cap : Nat) (A : List Int) (hH : Holds encI w g off A.toArray) (hN : A.length = 40) (hp : PosM A) :
    Calls Try.prog 44 #[.slice (some ⟨g, off, none⟩) 40 cap, .int .i64 40, cmpV] w fun e w' => e = .returned (.tuple #[]) ∧ RunPost w g off A w' := by
  obtain ⟨N, hN0⟩ : ∃ N, N = 40 := ⟨_, rfl⟩
  rw [← hN0] at hN
  obtain ⟨A1, hA1⟩ : ∃ A1, A.take 20 = A1 := ⟨_, rfl⟩
  obtain ⟨A2, hA2⟩ : ∃ A2, A.drop 20 = A2 := ⟨_, rfl⟩
  have hAA : A = A1 ++ A2 := by rw [← hA1, ← hA2, List.take_append_drop]
  have l1 : A1.length = 20 := by rw [← hA1, List.length_take]; omega
  have l2 : A2.length = N - 20 := by rw [← hA2, List.length_drop]; omega
  have p1 : PosM A1 := fun x hx => hp x (by rw [hAA]; simp [hx])
  have p2 : PosM A2 := fun x hx => hp x (by rw [hAA]; simp [hx])
  have c1 := ins_some w g off cap N A hH hN (by omega) [] A1 A2 (by omega) p1 (by rw [← hAA]; exact hN) 0 20 rfl (by omega) 0
  rw [← hAA, show ([] : List Int) ++ A = A from rfl, RW_start hH] at c1
  have C2 : Hid (∀ M1 m1, SwapsM classI A1 M1 → Calls Try.prog 45 #[.slice (some ⟨g, off, none⟩) N cap, .int .i64 20, .int .i64 N, cmpV] (RW w g off ([] ++ (M1 ++ A2)) m1)
      fun e w' => e = .returned (.tuple #[]) ∧ SortPost w g off M1 A2 [] w') := Lib.hid fun M1 m1 s1 => by
    have hl := s1.length
    have := ins_some w g off cap N A hH hN (by omega) M1 A2 [] (by omega) p2 (by simp; omega) 20 N (by omega) (by omega) m1
    rw [show M1 ++ (A2 ++ []) = [] ++ (M1 ++ A2) by simp] at this
    exact this
  have C3 : Hid (∀ M1 M2 m2, SwapsM classI A1 M1 → SortedM M1 → SwapsM classI A2 M2 → SortedM M2 → Calls Try.prog 46 #[.slice (some ⟨g, off, none⟩) N cap, .int .i64 0, .int .i64 20, .int .i64 N, cmpV] (RW w g off (M1 ++ (M2 ++ [])) m2)
      fun e w' => e = .returned (.tuple #[]) ∧ RunPost w g off A w') := Lib.hid fun M1 M2 m2 s1 o1 s2 o2 => by
    have hl := s1.length
    have hl2 := s2.length
    have := sym_c w g off cap N A hH hN (by omega) _ [] M1 M2 [] (Nat.le_refl _) (by omega) (by omega) (pos_swaps s1 p1) (pos_swaps s2 p2) o1 o2 (by simp [LL]; omega) 0 20 N m2 rfl (by omega) (by omega)
    refine this.mono ?_
    rintro e w' ⟨rfl, M, m', q1, q2, rfl⟩
    exact ⟨rfl, M, m', two_parts hAA s1 s2 q1, q2, by simp⟩
  subst hN0
  have c4 := fun w => ins_none w (.slice (some ⟨g, off, none⟩) 40 cap) 40 cmpV (by decide)
  clear hH hN hp hA1 hA2 hAA l1 l2 p1 p2
  go_enter Try.func44, Try.ntmps44
  go_wp2
  refine wp_loop_rounds 3 ?_
  rw [rounds_succ]
  go_wp2_with fail
  refine c1.mono ?_
  rintro e w1 ⟨rfl, M1, m1, s1, o1, rfl⟩
  have S1 := Lib.hid s1
  have O1 := Lib.hid o1
  clear s1 o1 c1
  have c2 := C2.out M1 m1 S1.out
  generalize RW w g off ([] ++ (M1 ++ A2)) m1 = W1 at c2 ⊢
  go_wp2
  rw [rounds_succ]
  go_wp2_with fail
  refine c2.mono ?_
  rintro e w2 ⟨rfl, M2, m2, s2, o2, rfl⟩
  have c3 := C3.out M1 M2 m2 S1.out O1.out s2 o2
  clear s2 o2 c2 S1 O1 C2 C3
  generalize RW w g off (M1 ++ (M2 ++ [])) m2 = W2 at c3 ⊢
  go_wp2
  rw [rounds_succ]
  go_wp2_with fail
  refine (c4 _).mono ?_
  rintro e w4 ⟨rfl, rfl⟩
  go_wp2
  refine wp_loop_rounds 2 ?_
  rw [rounds_succ]
  go_wp2
  refine wp_loop_rounds 2 ?_
  rw [rounds_succ]
  go_wp2_with fail
  refine c3.mono ?_
  rintro e w3 ⟨rfl, hr⟩
  have HR := Lib.hid hr
  clear hr c3
  go_wp2
  rw [rounds_succ]
  go_wp2
  rw [rounds_succ]
  go_wp2
  go_end0
  exact ⟨rfl, HR.out⟩

theorem stable_c (w : World) (g off cap N : Nat) (A : List Int) (hH : Holds encI w g off A.toArray) (hN : A.length = N) (h1 : 1 ≤ N) (h2 : N ≤ 40) (hp : PosM A) :
    Calls Try.prog 44 #[.slice (some ⟨g, off, none⟩) N cap, .int .i64 N, cmpV] w fun e w' => e = .returned (.tuple #[]) ∧ RunPost w g off A w' := by
  by_cases h3 : N < 20
  · exact stable_few w g off cap N A hH hN h1 h3 hp
  · by_cases h4 : N = 20
    · subst h4; exact stable_20 w g off cap A hH hN hp
    · by_cases h5 : N < 40
      · exact stable_more w g off cap N A hH hN (by omega) h5 hp
      · obtain rfl : N = 40 := by omega
        exact stable_40 w g off cap A hH hN hp

set_option maxHeartbeats 1000000 in
theorem sortStable_of (v : Option Addr) (N cap : Nat) (w : World) (Q : World → Prop) (c : Calls Try.prog 44 #[.slice v N cap, .int .i64 N, cmpV] w fun e w' => e = .returned (.tuple #[]) ∧ Q w') :
    Calls Try.prog 39 #[.slice v N cap, cmpV] w fun e w' => e = .returned (.tuple #[]) ∧ Q w' := by
  go_enter Try.func39, Try.ntmps39
  go_wp2_with fail
  refine c.mono ?_
  rintro e w' ⟨rfl, h⟩
  go_wp2
  go_end0
  exact ⟨rfl, h⟩
set_option maxHeartbeats 1000000 in
theorem orderRun_of (v : Option Addr) (N cap : Nat) (w : World) (Q : World → Prop) (c : Calls Try.prog 39 #[.slice v N cap, cmpV] w fun e w' => e = .returned (.tuple #[]) ∧ Q w') :
    Calls Try.prog 34 #[.slice v N cap] w fun e w' => e = .returned (.tuple #[]) ∧ Q w' := by
  go_enter Try.func34, Try.ntmps34
  go_wp2_with fail
  refine c.mono ?_
  rintro e w' ⟨rfl, h⟩
  go_wp2
  go_end0
  exact ⟨rfl, h⟩
theorem orderRun_none (v : Option Addr) (cap : Nat) (w : World) : Calls Try.prog 34 #[.slice v 0 cap] w fun e w' => e = .returned (.tuple #[]) ∧ w' = w :=
  orderRun_of v 0 cap w _ (sortStable_of v 0 cap w _ (stable_none _ w))
theorem orderRun_c (w : World) (g off cap N : Nat) (A : List Int) (hH : Holds encI w g off A.toArray) (hN : A.length = N) (h1 : 1 ≤ N) (h2 : N ≤ 40) (hp : PosM A) :
    Calls Try.prog 34 #[.slice (some ⟨g, off, none⟩) N cap] w fun e w' => e = .returned (.tuple #[]) ∧ RunPost w g off A w' :=
  orderRun_of _ N cap w _ (sortStable_of _ N cap w _ (stable_c w g off cap N A hH hN h1 h2 hp))
end Go.Proofs.Ytjakelphkehonaa
