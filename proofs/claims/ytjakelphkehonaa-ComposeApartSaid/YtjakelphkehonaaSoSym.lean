/-
  The contract of the library's symMergeCmpFunc at marks: two neighbouring parts, each in order, are put in order together, those of one class as they stood.
-/
import Derived.Test.YtjakelphkehonaaSoSym2
import Derived.Test.YtjakelphkehonaaSoRot
namespace Go.Proofs.Ytjakelphkehonaa
open Go.RowKit Go.Sort
set_option linter.unusedVariables false

theorem sym_final {A1 A2 B1 B2 M1 M2 : List Int} (hpos : PosM (A1 ++ A2)) (hposB : PosM (B1 ++ B2)) (hA : SortedM (A1 ++ A2)) (hB : SortedM (B1 ++ B2))
    (h12 : ∀ x ∈ A1, ∀ y ∈ B2, classI x ≤ classI y) (h21 : ∀ x ∈ A2, ∀ y ∈ B1, classI y < classI x)
    (s1 : SwapsM classI (A1 ++ B1) M1) (o1 : SortedM M1) (s2 : SwapsM classI (A2 ++ B2) M2) (o2 : SortedM M2) :
    SwapsM classI ((A1 ++ A2) ++ (B1 ++ B2)) (M1 ++ M2) ∧ SortedM (M1 ++ M2) := by
  refine ⟨?_, ?_⟩
  · have r := (SwapsM.rotate (c := classI) A2 B1 (fun x hx y hy => wrong_yes classI ⟨hposB y (by simp [hy]), h21 x hx y hy⟩)).within A1 B2
    have r1 := s1.within [] (A2 ++ B2)
    have r2 := s2.within M1 []
    have r' : SwapsM classI ((A1 ++ A2) ++ (B1 ++ B2)) ((A1 ++ B1) ++ (A2 ++ B2)) := by simpa using r
    have r1' : SwapsM classI ((A1 ++ B1) ++ (A2 ++ B2)) (M1 ++ (A2 ++ B2)) := by simpa using r1
    have r2' : SwapsM classI (M1 ++ (A2 ++ B2)) (M1 ++ M2) := by simpa using r2
    exact (r'.trans r1').trans r2'
  · unfold SortedM at *
    rw [List.pairwise_append] at hA hB ⊢
    refine ⟨o1, o2, fun x hx y hy => ?_⟩
    have hx' := s1.perm.mem_iff.2 hx
    have hy' := s2.perm.mem_iff.2 hy
    rcases List.mem_append.1 hx' with hx' | hx' <;> rcases List.mem_append.1 hy' with hy' | hy'
    · exact hA.2.2 x hx' y hy'
    · exact h12 x hx' y hy'
    · have := h21 y hy' x hx'; omega
    · exact hB.2.2 x hx' y hy'

def LL (P A B T : List Int) : List Int := P ++ (A ++ (B ++ T))
def SymRel (w : World) (g off : Nat) (L : List Int) (a M mid b : Nat) (sv rv : Value) (wr : World) : Prop :=
  ∃ s r k : Nat, sv = .int .i64 s ∧ rv = .int .i64 r ∧ a ≤ s ∧ s ≤ r ∧ r ≤ M ∧ r ≤ mid ∧ mid + M ≤ s + b ∧
    (s ≤ a ∨ s + b ≤ mid + M ∨ classI (L.getD (s - 1) 0) ≤ classI (L.getD (mid + M - s) 0)) ∧
    (M ≤ r ∨ mid ≤ r ∨ classI (L.getD (mid + M - 1 - r) 0) < classI (L.getD r 0)) ∧ wr = RW w g off L k

/-- What the search has found: the parts that stay, and those that are changed about. -/
theorem sym_split {P A B T : List Int} {a M mid b s : Nat} (ha : P.length = a) (hM : a + A.length = M) (hb : M + B.length = b) (h1 : a ≤ s) (h2 : s ≤ M) (h3 : s ≤ mid) (h4 : mid + M ≤ s + b)
    (hA : SortedM A) (hB : SortedM B)
    (i1 : s ≤ a ∨ s + b ≤ mid + M ∨ classI ((LL P A B T).getD (s - 1) 0) ≤ classI ((LL P A B T).getD (mid + M - s) 0))
    (i2 : M ≤ s ∨ mid ≤ s ∨ classI ((LL P A B T).getD (mid + M - 1 - s) 0) < classI ((LL P A B T).getD s 0)) :
    ∃ A1 A2 B1 B2, A = A1 ++ A2 ∧ B = B1 ++ B2 ∧ a + A1.length = s ∧ s + A2.length = M ∧ s + B1.length = mid ∧ mid + M - s + B2.length = b ∧
      (∀ x ∈ A1, ∀ y ∈ B2, classI x ≤ classI y) ∧ (∀ x ∈ A2, ∀ y ∈ B1, classI y < classI x) := by
  have gA : ∀ d, d < A.length → (LL P A B T).getD (a + d) 0 = A.getD d 0 := fun d hd => by rw [← ha]; exact row_at P A (B ++ T) d hd
  have gB : ∀ d, d < B.length → (LL P A B T).getD (M + d) 0 = B.getD d 0 := fun d hd => by
    have := row_at (P ++ A) B T d hd
    rw [List.length_append, ha, hM] at this
    rw [← this]
    simp [LL]
  refine ⟨A.take (s - a), A.drop (s - a), B.take (mid - s), B.drop (mid - s), by simp, by simp, by rw [List.length_take]; omega, by rw [List.length_drop]; omega, by rw [List.length_take]; omega, by rw [List.length_drop]; omega, ?_, ?_⟩
  · intro x hx y hy
    obtain ⟨t, t1, t2, rfl⟩ := mem_take_getD hx
    obtain ⟨u, u1, u2, rfl⟩ := mem_drop_getD hy
    rcases i1 with i1 | i1 | i1
    · omega
    · omega
    · have e1 := gA (s - 1 - a) (by omega)
      have e2 := gB (mid - s) (by omega)
      rw [show a + (s - 1 - a) = s - 1 by omega] at e1
      rw [show M + (mid - s) = mid + M - s by omega] at e2
      rw [e1, e2] at i1
      have o1 := sorted_at hA t (s - 1 - a) (by omega) (by omega)
      have o2 := sorted_at hB (mid - s) u (by omega) u2
      omega
  · intro x hx y hy
    obtain ⟨t, t1, t2, rfl⟩ := mem_drop_getD hx
    obtain ⟨u, u1, u2, rfl⟩ := mem_take_getD hy
    rcases i2 with i2 | i2 | i2
    · omega
    · omega
    · have e1 := gA (s - a) (by omega)
      have e2 := gB (mid - 1 - s) (by omega)
      rw [show a + (s - a) = s by omega] at e1
      rw [show M + (mid - 1 - s) = mid + M - 1 - s by omega] at e2
      rw [e1, e2] at i2
      have o1 := sorted_at hA (s - a) t (by omega) (by omega)
      have o2 := sorted_at hB u (mid - 1 - s) (by omega) (by omega)
      omega

def SymSays (w : World) (g off cap N : Nat) (P A B T : List Int) : Prop :=
  1 ≤ A.length → 1 ≤ B.length → PosM A → PosM B → SortedM A → SortedM B → (LL P A B T).length = N → ∀ a M b m : Nat, P.length = a → a + A.length = M → M + B.length = b →
    Calls Try.prog 46 #[.slice (some ⟨g, off, none⟩) N cap, .int .i64 a, .int .i64 M, .int .i64 b, cmpV] (RW w g off (LL P A B T) m)
      fun e w' => e = .returned (.tuple #[]) ∧ SortPost w g off P (A ++ B) T w'

def Mid1 (w : World) (g off : Nat) (P A1 B1 A2 B2 T : List Int) (wr : World) : Prop := ∃ k, wr = RW w g off (P ++ (A1 ++ (B1 ++ (A2 ++ (B2 ++ T))))) k
def Mid2 (w : World) (g off : Nat) (P A1 B1 A2 B2 T : List Int) (wr : World) : Prop := ∃ M1 k, SwapsM classI (A1 ++ B1) M1 ∧ SortedM M1 ∧ wr = RW w g off (P ++ (M1 ++ (A2 ++ (B2 ++ T)))) k

set_option maxHeartbeats 8000000 in
set_option maxRecDepth 100000 in
theorem sym_gen (w : World) (g off cap N : Nat) (L0 : List Int) (hH : Holds encI w g off L0.toArray) (hN : L0.length = N) (hsz : N < 1000000) (P A B T : List Int)
    (IH : ∀ P' A' B' T', A'.length + B'.length < A.length + B.length → SymSays w g off cap N P' A' B' T')
    (hA1 : 2 ≤ A.length) (hB1 : 2 ≤ B.length) (hpA : PosM A) (hpB : PosM B) (hA : SortedM A) (hB : SortedM B) (hL : (LL P A B T).length = N) (a M b m : Nat) (ha : P.length = a) (hM : a + A.length = M) (hb : M + B.length = b) :
    Calls Try.prog 46 #[.slice (some ⟨g, off, none⟩) N cap, .int .i64 a, .int .i64 M, .int .i64 b, cmpV] (RW w g off (LL P A B T) m)
      fun e w' => e = .returned (.tuple #[]) ∧ SortPost w g off P (A ++ B) T w' := by
  have hlen := hL
  simp only [LL, List.length_append] at hlen
  rw [ha] at hlen
  have hbN : b ≤ N := by omega
  obtain ⟨na, hna⟩ : ∃ n, A.length = n := ⟨_, rfl⟩
  obtain ⟨nb, hnb⟩ : ∃ n, B.length = n := ⟨_, rfl⟩
  have wm : IntKind.i64.wrap ((M : Int) - (a : Int)) = (na : Int) := by rw [IntKind.wrap_i64]; omega
  have wm1 : ((na : Int) == 1) = false := by rw [beq_eq_false_iff_ne]; omega
  have wb : IntKind.i64.wrap ((b : Int) - (M : Int)) = (nb : Int) := by rw [IntKind.wrap_i64]; omega
  have wb1 : ((nb : Int) == 1) = false := by rw [beq_eq_false_iff_ne]; omega
  obtain ⟨mid, hmid⟩ : ∃ mid, (a + b) / 2 = mid := ⟨_, rfl⟩
  have wab : IntKind.i64.wrap ((a : Int) + (b : Int)) = (a : Int) + (b : Int) := by rw [IntKind.wrap_i64]; omega
  have wmid : ((a : Int) + (b : Int)) / 2 = (mid : Int) := by omega
  obtain ⟨n, hn⟩ : ∃ n, mid + M = n := ⟨_, rfl⟩
  have wn : IntKind.i64.wrap ((mid : Int) + (M : Int)) = (n : Int) := by rw [IntKind.wrap_i64]; omega
  obtain ⟨p, hp⟩ : ∃ p, n - 1 = p := ⟨_, rfl⟩
  have wp : IntKind.i64.wrap ((n : Int) - 1) = (p : Int) := by rw [IntKind.wrap_i64]; omega
  have HH := Lib.hid hH
  have HN := Lib.hid hN
  have HL := Lib.hid hL
  have HLEN := Lib.hid hlen
  have HNA := Lib.hid hna
  have HNB := Lib.hid hnb
  have HPA := Lib.hid ha
  have HMA := Lib.hid hM
  have HMB := Lib.hid hb
  have HpA := Lib.hid hpA
  have HpB := Lib.hid hpB
  have HSA := Lib.hid hA
  have HSB := Lib.hid hB
  have HIH := Lib.hid IH
  have HNN := Lib.hid hn
  have HPP := Lib.hid hp
  have haM : a + 2 ≤ M := by omega
  have hMb : M + 2 ≤ b := by omega
  have hamid : a < mid := by omega
  have hmidb : mid < b := by omega
  have hm2 : 2 * mid ≤ a + b := by omega
  have hm3 : a + b ≤ 2 * mid + 1 := by omega
  obtain ⟨L, hLL⟩ : ∃ L, LL P A B T = L := ⟨_, rfl⟩
  rw [hLL] at HL ⊢
  obtain ⟨W0, hW0⟩ : ∃ W0, RW w g off L m = W0 := ⟨_, rfl⟩
  rw [hW0]
  have HLLE := Lib.hid hLL
  have HW0 := Lib.hid hW0
  clear hH hN hL hlen hna hnb ha hM hb hpA hpB hA hB IH hn hp hLL hW0 hmid
  by_cases hmm : mid < M
  obtain ⟨s0, hs0⟩ : ∃ s0, n - b = s0 := ⟨_, rfl⟩
  have hnn := HNN.out
  have ws : IntKind.i64.wrap ((n : Int) - (b : Int)) = (s0 : Int) := by rw [IntKind.wrap_i64]; omega
  have HSY : Hid (SymRel w g off L a M mid b (.int .i64 s0) (.int .i64 mid) W0) := Lib.hid ⟨s0, mid, m, rfl, rfl, by omega, by omega, by omega, by omega, by omega, Or.inr (Or.inl (by omega)), Or.inr (Or.inl (by omega)), HW0.out.symm⟩
  have hmmz : (mid : Int) < (M : Int) := by omega
  clear hs0 hnn
  go_enter Try.func46, Try.ntmps46
  rotate_left
  have hmM : M ≤ mid := by omega
  have HSY : Hid (SymRel w g off L a M mid b (.int .i64 a) (.int .i64 M) W0) := Lib.hid ⟨a, M, m, rfl, rfl, by omega, by omega, by omega, by omega, by omega, Or.inl (by omega), Or.inl (by omega), HW0.out.symm⟩
  have hmmz : ¬ ((mid : Int) < (M : Int)) := by omega
  go_enter Try.func46, Try.ntmps46
  all_goals go_wp2
  all_goals
    clear hmm hmmz
    go_loopw [20, 21] (fun sv rv wr => SymRel w g off L a M mid b sv rv wr) (fun sv rv _ => (intOf rv).toNat - (intOf sv).toNat)
    case atStart => exact HSY.out
    case round =>
      obtain ⟨s, r, k, rfl, rfl, has, hsr, hrM, hrm, hnb, hi1, hi2, rfl⟩ := hrel
      have HI1 := Lib.hid hi1
      have HI2 := Lib.hid hi2
      clear hi1 hi2
      by_cases hlt : s < r
      · obtain ⟨c, hc⟩ : ∃ c, (s + r) / 2 = c := ⟨_, rfl⟩
        have hsc : s ≤ c := by omega
        have hcr : c < r := by omega
        have wc : ((s : Int) + (r : Int)) / 2 = (c : Int) := by omega
        have hnn := HNN.out
        have hpp := HPP.out
        have hlen := HLEN.out
        obtain ⟨e, he⟩ : ∃ e, p - c = e := ⟨_, rfl⟩
        have wpc : IntKind.i64.wrap ((p : Int) - (c : Int)) = (e : Int) := by rw [IntKind.wrap_i64]; omega
        obtain ⟨x, hx⟩ : ∃ x, L.getD e 0 = x := ⟨_, rfl⟩
        obtain ⟨y, hy⟩ : ∃ y, L.getD c 0 = y := ⟨_, rfl⟩
        obtain ⟨wq, hwq⟩ : ∃ wq, RW w g off L k = wq := ⟨_, rfl⟩
        rw [hwq]
        have k1 := RW_cell (m := k) (i := e) HH.out (by rw [HL.out, HN.out]) (by rw [HL.out]; omega)
        have k2 := RW_cell (m := k) (i := c) HH.out (by rw [HL.out, HN.out]) (by rw [HL.out]; omega)
        rw [hx, hwq] at k1
        rw [hy, hwq] at k2
        obtain ⟨c1, f1⟩ := k1
        obtain ⟨c2, f2⟩ := k2
        have hC := fun w => cmp_c x y w
        obtain ⟨bx0, bx1⟩ := class_bounds x
        obtain ⟨by0, by1⟩ := class_bounds y
        have HQ : ∀ q, Hid (wq.drewN q = RW w g off L (k + q)) := fun q => Lib.hid (by rw [← hwq, RW_drew])
        have srz : (s : Int) < (r : Int) := by omega
        have p1 : (c : Int) < (N : Int) := by omega
        have p2 : (e : Int) < (N : Int) := by omega
        have wsr : IntKind.i64.wrap ((s : Int) + (r : Int)) = (s : Int) + (r : Int) := by rw [IntKind.wrap_i64]; omega
        have hpce : p - c = e := he
        by_cases hxy : classI x < classI y
        · have hlt0 : classI x - classI y < 0 := by omega
          have HR : ∀ q, Hid (SymRel w g off L a M mid b (.int .i64 s) (.int .i64 c) (RW w g off L q)) := fun q =>
            Lib.hid ⟨s, c, q, rfl, rfl, by omega, by omega, by omega, by omega, by omega, HI1.out, Or.inr (Or.inr (by
              rw [show mid + M - 1 - c = e by omega, hx, hy]; exact hxy)), rfl⟩
          clear hwq hx hy hc hnn hpp hlen he hpce
          generalize classI x = cx at *
          generalize classI y = cy at *
          go_wp2_with fail
          go_quiet ((go_at_call 40; exact Calls.quiet_of_same ((hC _).mono fun _ _ h => ⟨h.1, h.2⟩)))
          go_wp2
          go_roundw
          case rel =>
            rw [(HQ _).out]
            exact (HR _).out
          case measure => simp [intOf]; omega
        · have hge0 : ¬ (classI x - classI y < 0) := by omega
          have hge1 : (0 : Int) ≤ classI x - classI y := by omega
          have hge2 : classI y ≤ classI x := by omega
          have hge3 : decide (classI x - classI y < 0) = false := decide_eq_false hge0
          have HR : ∀ q, Hid (SymRel w g off L a M mid b (.int .i64 ((c + 1 : Nat) : Int)) (.int .i64 r) (RW w g off L q)) := fun q =>
            Lib.hid ⟨c + 1, r, q, rfl, rfl, by omega, by omega, by omega, by omega, by omega, Or.inr (Or.inr (by
              rw [show mid + M - (c + 1) = e by omega, Nat.add_sub_cancel, hx, hy]; exact hge2)), HI2.out, rfl⟩
          clear hwq hx hy hc hnn hpp hlen he hpce
          generalize classI x = cx at *
          generalize classI y = cy at *
          go_wp2_with fail
          go_quiet ((go_at_call 40; exact Calls.quiet_of_same ((hC _).mono fun _ _ h => ⟨h.1, h.2⟩)))
          go_wp2
          go_roundw
          case rel =>
            rw [(HQ _).out]
            exact (HR _).out
          case measure => simp [intOf]; omega
      · have hrs : r = s := by omega
        subst hrs
        have hnn := HNN.out
        obtain ⟨A1, A2, B1, B2, hAe, hBe, lA1, lA2, lB1, lB2, h12, h21⟩ := sym_split HPA.out HMA.out HMB.out has hrM hrm hnb HSA.out HSB.out (by rw [HLLE.out]; exact HI1.out) (by rw [HLLE.out]; exact HI2.out)
        obtain ⟨E, hE⟩ : ∃ E, mid + M - r = E := ⟨_, rfl⟩
        rw [hE] at lB2
        have wE : IntKind.i64.wrap ((n : Int) - (r : Int)) = (E : Int) := by rw [IntKind.wrap_i64]; omega
        obtain ⟨W1, hW1⟩ : ∃ W1, RW w g off L k = W1 := ⟨_, rfl⟩
        rw [hW1]
        have hLe : L = P ++ (A1 ++ (A2 ++ (B1 ++ (B2 ++ T)))) := by rw [← HLLE.out, LL, hAe, hBe]; simp
        have hlen := HL.out
        rw [hLe] at hlen
        simp only [List.length_append] at hlen
        rw [HPA.out] at hlen
        have HK1 : Hid (¬ (r < M) ∨ ¬ (M < E) → Mid1 w g off P A1 B1 A2 B2 T W1) := Lib.hid fun h => by
          refine ⟨k, ?_⟩
          rw [← hW1, hLe]
          rcases h with h | h
          · have : A2 = [] := List.eq_nil_of_length_eq_zero (by omega)
            subst this; simp
          · have : B1 = [] := List.eq_nil_of_length_eq_zero (by omega)
            subst this; simp
        have HC1 : Hid (r < M → M < E → Calls Try.prog 47 #[.slice (some ⟨g, off, none⟩) N cap, .int .i64 r, .int .i64 M, .int .i64 E, cmpV] W1 fun e w' => e = .returned (.tuple #[]) ∧ Mid1 w g off P A1 B1 A2 B2 T w') := Lib.hid fun h1 h2 => by
          have := rotate_c w g off cap N cmpV L0 HH.out HN.out hsz (P ++ A1) A2 B1 (B2 ++ T) (by omega) (by omega) (by simp only [List.length_append, HPA.out]; omega) r M E (by rw [List.length_append, HPA.out, lA1]) lA2 (by omega) k
          rw [show (P ++ A1) ++ (A2 ++ (B1 ++ (B2 ++ T))) = L by rw [hLe]; simp, hW1] at this
          refine this.mono ?_
          rintro e w' ⟨rfl, m', rfl⟩
          exact ⟨rfl, m', by simp⟩
        have pA : PosM (A1 ++ A2) := by rw [← hAe]; exact HpA.out
        have pB : PosM (B1 ++ B2) := by rw [← hBe]; exact HpB.out
        have sA : SortedM (A1 ++ A2) := by rw [← hAe]; exact HSA.out
        have sB : SortedM (B1 ++ B2) := by rw [← hBe]; exact HSB.out
        have sA1 : SortedM A1 := (List.pairwise_append.1 sA).1
        have sA2 : SortedM A2 := (List.pairwise_append.1 sA).2.1
        have sB1 : SortedM B1 := (List.pairwise_append.1 sB).1
        have sB2 : SortedM B2 := (List.pairwise_append.1 sB).2.1
        have lAA : A.length = A1.length + A2.length := by rw [hAe, List.length_append]
        have lBB : B.length = B1.length + B2.length := by rw [hBe, List.length_append]
        have HK2 : Hid (∀ W2, Mid1 w g off P A1 B1 A2 B2 T W2 → ¬ (a < r) ∨ ¬ (r < mid) → Mid2 w g off P A1 B1 A2 B2 T W2) := Lib.hid fun W2 hm h => by
          obtain ⟨k2, rfl⟩ := hm
          refine ⟨A1 ++ B1, k2, .same _, ?_, by simp⟩
          rcases h with h | h
          · have : A1 = [] := List.eq_nil_of_length_eq_zero (by omega)
            subst this; simpa using sB1
          · have : B1 = [] := List.eq_nil_of_length_eq_zero (by omega)
            subst this; simpa using sA1
        have HC2 : Hid (∀ W2, Mid1 w g off P A1 B1 A2 B2 T W2 → a < r → r < mid → Calls Try.prog 46 #[.slice (some ⟨g, off, none⟩) N cap, .int .i64 a, .int .i64 r, .int .i64 mid, cmpV] W2 fun e w' => e = .returned (.tuple #[]) ∧ Mid2 w g off P A1 B1 A2 B2 T w') := Lib.hid fun W2 hm h1 h2 => by
          obtain ⟨k2, rfl⟩ := hm
          have := HIH.out P A1 B1 (A2 ++ (B2 ++ T)) (by omega) (by omega) (by omega) (fun x hx => pA x (by simp [hx])) (fun x hx => pB x (by simp [hx])) sA1 sB1 (by simp only [LL, List.length_append, HPA.out]; omega) a r mid k2 HPA.out lA1 lB1
          refine this.mono ?_
          rintro e w' ⟨rfl, M1, m', q1, q2, rfl⟩
          exact ⟨rfl, M1, m', q1, q2, rfl⟩
        have hfin := fun M1 M2 => sym_final (M1 := M1) (M2 := M2) pA pB sA sB h12 h21
        have HK3 : Hid (∀ W3, Mid2 w g off P A1 B1 A2 B2 T W3 → ¬ (mid < E) ∨ ¬ (E < b) → SortPost w g off P (A ++ B) T W3) := Lib.hid fun W3 hm h => by
          obtain ⟨M1, k2, q1, q2, rfl⟩ := hm
          have s22 : SortedM (A2 ++ B2) := by
            rcases h with h | h
            · have : A2 = [] := List.eq_nil_of_length_eq_zero (by omega)
              rw [this]; simpa using sB2
            · have : B2 = [] := List.eq_nil_of_length_eq_zero (by omega)
              rw [this]; simpa using sA2
          have := hfin M1 (A2 ++ B2) q1 q2 (.same _) s22
          rw [← hAe, ← hBe] at this
          exact ⟨M1 ++ (A2 ++ B2), k2, this.1, this.2, by simp⟩
        have HC3 : Hid (∀ W3, Mid2 w g off P A1 B1 A2 B2 T W3 → mid < E → E < b → Calls Try.prog 46 #[.slice (some ⟨g, off, none⟩) N cap, .int .i64 mid, .int .i64 E, .int .i64 b, cmpV] W3 fun e w' => e = .returned (.tuple #[]) ∧ SortPost w g off P (A ++ B) T w') := Lib.hid fun W3 hm h1 h2 => by
          obtain ⟨M1, k2, q1, q2, rfl⟩ := hm
          have hl1 := q1.length
          rw [List.length_append] at hl1
          have := HIH.out (P ++ M1) A2 B2 T (by omega) (by omega) (by omega) (fun x hx => pA x (by simp [hx])) (fun x hx => pB x (by simp [hx])) sA2 sB2 (by simp only [LL, List.length_append, HPA.out]; omega) mid E b k2 (by rw [List.length_append, HPA.out]; omega) (by omega) (by omega)
          rw [show LL (P ++ M1) A2 B2 T = P ++ (M1 ++ (A2 ++ (B2 ++ T))) by simp [LL]] at this
          refine this.mono ?_
          rintro e w' ⟨rfl, M2, m', r1, r2, rfl⟩
          have hf := hfin M1 M2 q1 q2 r1 r2
          rw [← hAe, ← hBe] at hf
          exact ⟨rfl, M1 ++ M2, m', hf.1, hf.2, by simp⟩
        clear hW1 hLe hlen pA pB sA sB sA1 sA2 sB1 sB2 lAA lBB hfin hnn hAe hBe lA1 lA2 lB1 lB2 h12 h21 HIH HI1 HI2
        clear hE
        by_cases u1 : r < M
        · have u1z : (r : Int) < (M : Int) := by omega
          by_cases v1 : M < E
          · have v1z : (M : Int) < (E : Int) := by omega
            have cc := HC1.out u1 v1
            go_wp2_with fail
            refine cc.mono ?_
            rintro e W2 ⟨rfl, hm1⟩
            clear cc u1 v1 u1z v1z
            by_cases u2 : a < r
            · have u2z : (a : Int) < (r : Int) := by omega
              by_cases v2 : r < mid
              · have v2z : (r : Int) < (mid : Int) := by omega
                have cc := HC2.out W2 hm1 u2 v2
                go_wp2_with fail
                refine cc.mono ?_
                rintro e W3 ⟨rfl, hm2⟩
                clear cc u2 v2 u2z v2z
                by_cases u3 : mid < E
                · have u3z : (mid : Int) < (E : Int) := by omega
                  by_cases v3 : E < b
                  · have v3z : (E : Int) < (b : Int) := by omega
                    have cc := HC3.out W3 hm2 u3 v3
                    go_wp2_with fail
                    refine cc.mono ?_
                    rintro e W4 ⟨rfl, hm3⟩
                    clear cc u3 v3 u3z v3z
                    go_wp2
                    go_end0
                    exact ⟨rfl, hm3⟩
                  · have v3z : ¬ ((E : Int) < (b : Int)) := by omega
                    have hm3 := HK3.out W3 hm2 (Or.inr v3)
                    go_wp2
                    go_end0
                    exact ⟨rfl, hm3⟩
                · have u3z : ¬ ((mid : Int) < (E : Int)) := by omega
                  have hm3 := HK3.out W3 hm2 (Or.inl u3)
                  go_wp2
                  go_end0
                  exact ⟨rfl, hm3⟩
              · have v2z : ¬ ((r : Int) < (mid : Int)) := by omega
                have hm2 := HK2.out W2 hm1 (Or.inr v2)
                by_cases u3 : mid < E
                · have u3z : (mid : Int) < (E : Int) := by omega
                  by_cases v3 : E < b
                  · have v3z : (E : Int) < (b : Int) := by omega
                    have cc := HC3.out W2 hm2 u3 v3
                    go_wp2_with fail
                    refine cc.mono ?_
                    rintro e W4 ⟨rfl, hm3⟩
                    clear cc u3 v3 u3z v3z
                    go_wp2
                    go_end0
                    exact ⟨rfl, hm3⟩
                  · have v3z : ¬ ((E : Int) < (b : Int)) := by omega
                    have hm3 := HK3.out W2 hm2 (Or.inr v3)
                    go_wp2
                    go_end0
                    exact ⟨rfl, hm3⟩
                · have u3z : ¬ ((mid : Int) < (E : Int)) := by omega
                  have hm3 := HK3.out W2 hm2 (Or.inl u3)
                  go_wp2
                  go_end0
                  exact ⟨rfl, hm3⟩
            · have u2z : ¬ ((a : Int) < (r : Int)) := by omega
              have hm2 := HK2.out W2 hm1 (Or.inl u2)
              by_cases u3 : mid < E
              · have u3z : (mid : Int) < (E : Int) := by omega
                by_cases v3 : E < b
                · have v3z : (E : Int) < (b : Int) := by omega
                  have cc := HC3.out W2 hm2 u3 v3
                  go_wp2_with fail
                  refine cc.mono ?_
                  rintro e W4 ⟨rfl, hm3⟩
                  clear cc u3 v3 u3z v3z
                  go_wp2
                  go_end0
                  exact ⟨rfl, hm3⟩
                · have v3z : ¬ ((E : Int) < (b : Int)) := by omega
                  have hm3 := HK3.out W2 hm2 (Or.inr v3)
                  go_wp2
                  go_end0
                  exact ⟨rfl, hm3⟩
              · have u3z : ¬ ((mid : Int) < (E : Int)) := by omega
                have hm3 := HK3.out W2 hm2 (Or.inl u3)
                go_wp2
                go_end0
                exact ⟨rfl, hm3⟩
          · have v1z : ¬ ((M : Int) < (E : Int)) := by omega
            have hm1 := HK1.out (Or.inr v1)
            by_cases u2 : a < r
            · have u2z : (a : Int) < (r : Int) := by omega
              by_cases v2 : r < mid
              · have v2z : (r : Int) < (mid : Int) := by omega
                have cc := HC2.out W1 hm1 u2 v2
                go_wp2_with fail
                refine cc.mono ?_
                rintro e W3 ⟨rfl, hm2⟩
                clear cc u2 v2 u2z v2z
                by_cases u3 : mid < E
                · have u3z : (mid : Int) < (E : Int) := by omega
                  by_cases v3 : E < b
                  · have v3z : (E : Int) < (b : Int) := by omega
                    have cc := HC3.out W3 hm2 u3 v3
                    go_wp2_with fail
                    refine cc.mono ?_
                    rintro e W4 ⟨rfl, hm3⟩
                    clear cc u3 v3 u3z v3z
                    go_wp2
                    go_end0
                    exact ⟨rfl, hm3⟩
                  · have v3z : ¬ ((E : Int) < (b : Int)) := by omega
                    have hm3 := HK3.out W3 hm2 (Or.inr v3)
                    go_wp2
                    go_end0
                    exact ⟨rfl, hm3⟩
                · have u3z : ¬ ((mid : Int) < (E : Int)) := by omega
                  have hm3 := HK3.out W3 hm2 (Or.inl u3)
                  go_wp2
                  go_end0
                  exact ⟨rfl, hm3⟩
              · have v2z : ¬ ((r : Int) < (mid : Int)) := by omega
                have hm2 := HK2.out W1 hm1 (Or.inr v2)
                by_cases u3 : mid < E
                · have u3z : (mid : Int) < (E : Int) := by omega
                  by_cases v3 : E < b
                  · have v3z : (E : Int) < (b : Int) := by omega
                    have cc := HC3.out W1 hm2 u3 v3
                    go_wp2_with fail
                    refine cc.mono ?_
                    rintro e W4 ⟨rfl, hm3⟩
                    clear cc u3 v3 u3z v3z
                    go_wp2
                    go_end0
                    exact ⟨rfl, hm3⟩
                  · have v3z : ¬ ((E : Int) < (b : Int)) := by omega
                    have hm3 := HK3.out W1 hm2 (Or.inr v3)
                    go_wp2
                    go_end0
                    exact ⟨rfl, hm3⟩
                · have u3z : ¬ ((mid : Int) < (E : Int)) := by omega
                  have hm3 := HK3.out W1 hm2 (Or.inl u3)
                  go_wp2
                  go_end0
                  exact ⟨rfl, hm3⟩
            · have u2z : ¬ ((a : Int) < (r : Int)) := by omega
              have hm2 := HK2.out W1 hm1 (Or.inl u2)
              by_cases u3 : mid < E
              · have u3z : (mid : Int) < (E : Int) := by omega
                by_cases v3 : E < b
                · have v3z : (E : Int) < (b : Int) := by omega
                  have cc := HC3.out W1 hm2 u3 v3
                  go_wp2_with fail
                  refine cc.mono ?_
                  rintro e W4 ⟨rfl, hm3⟩
                  clear cc u3 v3 u3z v3z
                  go_wp2
                  go_end0
                  exact ⟨rfl, hm3⟩
                · have v3z : ¬ ((E : Int) < (b : Int)) := by omega
                  have hm3 := HK3.out W1 hm2 (Or.inr v3)
                  go_wp2
                  go_end0
                  exact ⟨rfl, hm3⟩
              · have u3z : ¬ ((mid : Int) < (E : Int)) := by omega
                have hm3 := HK3.out W1 hm2 (Or.inl u3)
                go_wp2
                go_end0
                exact ⟨rfl, hm3⟩
        · have u1z : ¬ ((r : Int) < (M : Int)) := by omega
          have hm1 := HK1.out (Or.inl u1)
          by_cases u2 : a < r
          · have u2z : (a : Int) < (r : Int) := by omega
            by_cases v2 : r < mid
            · have v2z : (r : Int) < (mid : Int) := by omega
              have cc := HC2.out W1 hm1 u2 v2
              go_wp2_with fail
              refine cc.mono ?_
              rintro e W3 ⟨rfl, hm2⟩
              clear cc u2 v2 u2z v2z
              by_cases u3 : mid < E
              · have u3z : (mid : Int) < (E : Int) := by omega
                by_cases v3 : E < b
                · have v3z : (E : Int) < (b : Int) := by omega
                  have cc := HC3.out W3 hm2 u3 v3
                  go_wp2_with fail
                  refine cc.mono ?_
                  rintro e W4 ⟨rfl, hm3⟩
                  clear cc u3 v3 u3z v3z
                  go_wp2
                  go_end0
                  exact ⟨rfl, hm3⟩
                · have v3z : ¬ ((E : Int) < (b : Int)) := by omega
                  have hm3 := HK3.out W3 hm2 (Or.inr v3)
                  go_wp2
                  go_end0
                  exact ⟨rfl, hm3⟩
              · have u3z : ¬ ((mid : Int) < (E : Int)) := by omega
                have hm3 := HK3.out W3 hm2 (Or.inl u3)
                go_wp2
                go_end0
                exact ⟨rfl, hm3⟩
            · have v2z : ¬ ((r : Int) < (mid : Int)) := by omega
              have hm2 := HK2.out W1 hm1 (Or.inr v2)
              by_cases u3 : mid < E
              · have u3z : (mid : Int) < (E : Int) := by omega
                by_cases v3 : E < b
                · have v3z : (E : Int) < (b : Int) := by omega
                  have cc := HC3.out W1 hm2 u3 v3
                  go_wp2_with fail
                  refine cc.mono ?_
                  rintro e W4 ⟨rfl, hm3⟩
                  clear cc u3 v3 u3z v3z
                  go_wp2
                  go_end0
                  exact ⟨rfl, hm3⟩
                · have v3z : ¬ ((E : Int) < (b : Int)) := by omega
                  have hm3 := HK3.out W1 hm2 (Or.inr v3)
                  go_wp2
                  go_end0
                  exact ⟨rfl, hm3⟩
              · have u3z : ¬ ((mid : Int) < (E : Int)) := by omega
                have hm3 := HK3.out W1 hm2 (Or.inl u3)
                go_wp2
                go_end0
                exact ⟨rfl, hm3⟩
          · have u2z : ¬ ((a : Int) < (r : Int)) := by omega
            have hm2 := HK2.out W1 hm1 (Or.inl u2)
            by_cases u3 : mid < E
            · have u3z : (mid : Int) < (E : Int) := by omega
              by_cases v3 : E < b
              · have v3z : (E : Int) < (b : Int) := by omega
                have cc := HC3.out W1 hm2 u3 v3
                go_wp2_with fail
                refine cc.mono ?_
                rintro e W4 ⟨rfl, hm3⟩
                clear cc u3 v3 u3z v3z
                go_wp2
                go_end0
                exact ⟨rfl, hm3⟩
              · have v3z : ¬ ((E : Int) < (b : Int)) := by omega
                have hm3 := HK3.out W1 hm2 (Or.inr v3)
                go_wp2
                go_end0
                exact ⟨rfl, hm3⟩
            · have u3z : ¬ ((mid : Int) < (E : Int)) := by omega
              have hm3 := HK3.out W1 hm2 (Or.inl u3)
              go_wp2
              go_end0
              exact ⟨rfl, hm3⟩
end Go.Proofs.Ytjakelphkehonaa
