/-
  The contract of the library's insertionSortCmpFunc at marks: the part of the row is put in order, those of one class as they stood.
-/
import Derived.Test.YtjakelphkehonaaSoSwap
import Derived.Handy
namespace Go.Proofs.Ytjakelphkehonaa
open Go.RowKit Go.Sort
set_option linter.unusedVariables false

def PosM (l : List Int) : Prop := ∀ x ∈ l, 0 < classI x
def SortedM (l : List Int) : Prop := l.Pairwise fun x y => classI x ≤ classI y
theorem class_bounds (x : Int) : 0 ≤ classI x ∧ classI x ≤ 230 := by rw [class_is]; unfold classB; split <;> (try split) <;> omega
abbrev cmpV : Value := .func (.func 40) #[] #[]

theorem sorted_put {S1 S2 : List Int} {x : Int} (h : SortedM (S1 ++ S2)) (h2 : ∀ y ∈ S2, classI x < classI y) (h1 : ∀ S0 y, S1 = S0 ++ [y] → classI y ≤ classI x) : SortedM (S1 ++ x :: S2) := by
  unfold SortedM at *
  rw [List.pairwise_append] at h ⊢
  refine ⟨h.1, ?_, ?_⟩
  · rw [List.pairwise_cons]
    exact ⟨fun y hy => by have := h2 y hy; omega, h.2.1⟩
  · intro a ha b hb
    rcases List.mem_cons.1 hb with rfl | hb
    · rcases List.eq_nil_or_concat S1 with h0 | ⟨S0, y, h0⟩
      · rw [h0] at ha; cases ha
      · rw [List.concat_eq_append] at h0
        have hy := h1 S0 y h0
        rw [h0, List.mem_append] at ha
        rcases ha with ha | ha
        · have hp := h.1
          rw [h0, List.pairwise_append] at hp
          have := hp.2.2 a ha y (by simp)
          omega
        · simp at ha; subst ha; exact hy
    · exact h.2.2 a ha b hb

def InsRel (w : World) (g off : Nat) (P A T : List Int) (iv : Value) (wr : World) : Prop :=
  ∃ (S R : List Int) (k : Nat), 1 ≤ S.length ∧ S.length + R.length = A.length ∧ iv = .int .i64 (P.length + S.length : Nat) ∧ SortedM S ∧ SwapsM classI A (S ++ R) ∧ wr = RW w g off (P ++ (S ++ (R ++ T))) k
def InsRel2 (w : World) (g off : Nat) (P A T : List Int) (x : Int) (n : Nat) (R : List Int) (jv : Value) (wr : World) : Prop :=
  ∃ (S1 S2 : List Int) (k : Nat), S1.length + S2.length = n ∧ jv = .int .i64 (P.length + S1.length : Nat) ∧ SortedM (S1 ++ S2) ∧ (∀ y ∈ S2, classI x < classI y) ∧ SwapsM classI A (S1 ++ x :: (S2 ++ R)) ∧ wr = RW w g off (P ++ (S1 ++ x :: (S2 ++ (R ++ T)))) k

set_option maxHeartbeats 1000000 in
theorem ins_none (w : World) (v : Value) (a : Nat) (F : Value) (ha : a < 1000000) :
    Calls Try.prog 45 #[v, .int .i64 a, .int .i64 a, F] w fun e w' => e = .returned (.tuple #[]) ∧ w' = w := by
  have w1 : IntKind.i64.wrap ((a : Int) + 1) = (a : Int) + 1 := by rw [IntKind.wrap_i64]; omega
  have h : ¬ ((a : Int) + 1 < (a : Int)) := by omega
  go_enter Try.func45, Try.ntmps45
  go_wp2
  go_rounds 1
  go_end0
  exact ⟨rfl, rfl⟩

/-- The part A of the row P A T is put in order. -/
def SortPost (w : World) (g off : Nat) (P A T : List Int) (w' : World) : Prop := ∃ M m', SwapsM classI A M ∧ SortedM M ∧ w' = RW w g off (P ++ (M ++ T)) m'

set_option maxHeartbeats 4000000 in
set_option maxRecDepth 100000 in
theorem ins_some (w : World) (g off cap N : Nat) (L0 : List Int) (hH : Holds encI w g off L0.toArray) (hN : L0.length = N) (hsz : N < 1000000) (P A T : List Int) (hA : 1 ≤ A.length) (hpos : PosM A) (hL : (P ++ (A ++ T)).length = N) (a b : Nat) (ha : P.length = a) (hb : a + A.length = b) (m : Nat) :
    Calls Try.prog 45 #[.slice (some ⟨g, off, none⟩) N cap, .int .i64 a, .int .i64 b, cmpV] (RW w g off (P ++ (A ++ T)) m)
      fun e w' => e = .returned (.tuple #[]) ∧ SortPost w g off P A T w' := by
  obtain ⟨W0, hW0⟩ : ∃ W0, RW w g off (P ++ (A ++ T)) m = W0 := ⟨_, rfl⟩
  rw [hW0]
  have HS : Hid (InsRel w g off P A T (.int .i64 ((a + 1 : Nat) : Int)) W0) := by
    cases A with
    | nil => simp at hA
    | cons x R => exact Lib.hid ⟨[x], R, m, by simp, by simp; omega, by rw [ha]; simp, by unfold SortedM; simp, .same _, by rw [← hW0]; simp⟩
  have hlen := hL
  rw [List.length_append, List.length_append, ha] at hlen
  have hb6 : b < 1000000 := by omega
  have hbN : b ≤ N := by omega
  have hab : a < b := by omega
  have HH := Lib.hid hH
  have HN := Lib.hid hN
  have HPOS := Lib.hid hpos
  have HA := Lib.hid ha
  have HB := Lib.hid hb
  have HLEN := Lib.hid hlen
  clear hH hN hL hA hW0 hlen hpos ha hb
  have w1 : IntKind.i64.wrap ((a : Int) + 1) = ((a + 1 : Nat) : Int) := by rw [IntKind.wrap_i64]; omega
  go_enter Try.func45, Try.ntmps45
  go_wp2
  clear w1
  go_loopw [8] (fun iv wr => InsRel w g off P A T iv wr) (fun iv _ => b - (intOf iv).toNat)
  case atStart => exact HS.out
  case round =>
    obtain ⟨S, R, k, hS, hSR, rfl, hsort, hsw, rfl⟩ := hrel
    obtain ⟨n, hn⟩ : ∃ n, S.length = n := ⟨_, rfl⟩
    rw [HA.out, hn]
    rw [hn] at hS hSR
    obtain ⟨i, hi⟩ : ∃ i, a + n = i := ⟨_, rfl⟩
    rw [hi]
    by_cases hlt : i < b
    · have hltz : (i : Int) < (b : Int) := by omega
      cases R with
      | nil => have := HB.out; simp at hSR; omega
      | cons x R =>
      obtain ⟨W1, hW1⟩ : ∃ W1, RW w g off (P ++ (S ++ (x :: R ++ T))) k = W1 := ⟨_, rfl⟩
      rw [hW1]
      have HS2 : Hid (InsRel2 w g off P A T x n R (.int .i64 i) W1) := Lib.hid ⟨S, [], k, by simp [hn], by rw [HA.out, hn, hi], by simpa using hsort, by simp, by simpa using hsw, by rw [← hW1]; simp⟩
      simp only [List.length_cons] at hSR
      have HSR := Lib.hid hSR
      have HI := Lib.hid hi
      clear hn hsort hsw hW1 hSR hi
      go_wp2
      go_loopw [9] (fun jv wr => InsRel2 w g off P A T x n R jv wr) (fun jv _ => (intOf jv).toNat)
      case atStart => exact HS2.out
      case round =>
        obtain ⟨S1, S2, k2, h12, rfl, hsort, hgt, hsw, rfl⟩ := hrel
        have OUT : (∀ S0 y, S1 = S0 ++ [y] → classI y ≤ classI x) → ∀ q, Hid (InsRel w g off P A T (.int .i64 ((i + 1 : Nat) : Int)) (RW w g off (P ++ (S1 ++ x :: (S2 ++ (R ++ T)))) q)) := fun hst q =>
          Lib.hid ⟨S1 ++ x :: S2, R, q, by simp; omega, by simp only [List.length_append, List.length_cons]; have := HSR.out; omega, by
            simp only [List.length_append, List.length_cons]; have := HI.out; rw [HA.out, show a + (S1.length + (S2.length + 1)) = i + 1 by omega], sorted_put hsort hgt hst, by simpa using hsw, by simp⟩
        rcases List.eq_nil_or_concat S1 with h0 | ⟨S0, y, h0⟩
        · subst h0
          have HO := OUT (fun S0 y h => by simp at h)
          rw [show P.length + ([] : List Int).length = a by rw [HA.out]; rfl]
          obtain ⟨wq, hwq⟩ : ∃ wq, RW w g off (P ++ ([] ++ x :: (S2 ++ (R ++ T)))) k2 = wq := ⟨_, rfl⟩
          rw [hwq]
          have HQ : ∀ q, Hid (wq.drewN q = RW w g off (P ++ ([] ++ x :: (S2 ++ (R ++ T)))) (k2 + q)) := fun q => Lib.hid (by rw [← hwq, RW_drew])
          have hi1 : i + 1 < 1000001 := by omega
          clear h12 hsort hgt hsw OUT hwq
          go_wp2
          go_quiet (fail)
          go_wp2
          go_roundw
          case rel =>
            rw [(HQ _).out]
            have e : IntKind.i64.wrap ((i : Int) + 1) = ((i + 1 : Nat) : Int) := by rw [IntKind.wrap_i64]; omega
            exact cast (by first | rfl | rw [e] | simp [e]) (HO _).out
          case measure => simp [intOf]; omega
        · rw [List.concat_eq_append] at h0
          subst h0
          simp only [List.length_append, List.length_singleton] at h12
          obtain ⟨s, hs⟩ : ∃ s, S0.length = s := ⟨_, rfl⟩
          obtain ⟨jp, hjp⟩ : ∃ jp, a + s = jp := ⟨_, rfl⟩
          have e1 : P ++ ((S0 ++ [y]) ++ x :: (S2 ++ (R ++ T))) = (P ++ S0) ++ y :: x :: (S2 ++ (R ++ T)) := by simp
          have l1 : (P ++ S0).length = jp := by rw [List.length_append, HA.out, hs, hjp]
          have ll : ((P ++ S0) ++ y :: x :: (S2 ++ (R ++ T))).length = L0.length := by
            rw [HN.out, List.length_append, l1]
            simp only [List.length_cons, List.length_append]
            have := HLEN.out; have := HSR.out; omega
          have hll := ll
          rw [HN.out, List.length_append, l1] at hll
          simp only [List.length_cons, List.length_append] at hll
          rw [show P.length + (S0 ++ [y]).length = jp + 1 by rw [HA.out, List.length_append, hs, List.length_singleton]; omega]
          obtain ⟨wq, hwq⟩ : ∃ wq, RW w g off (P ++ ((S0 ++ [y]) ++ x :: (S2 ++ (R ++ T)))) k2 = wq := ⟨_, rfl⟩
          rw [hwq]
          have HWQ : Hid (RW w g off ((P ++ S0) ++ y :: x :: (S2 ++ (R ++ T))) k2 = wq) := Lib.hid (by rw [← hwq, e1])
          have v1 : ((P ++ S0) ++ y :: x :: (S2 ++ (R ++ T))).getD jp 0 = y := by rw [← l1]; exact getD_mid _ _ y
          have v2 : ((P ++ S0) ++ y :: x :: (S2 ++ (R ++ T))).getD (jp + 1) 0 = x := by rw [← l1]; exact getD_two (P ++ S0) [] _ y x
          have k1 := RW_cell (m := k2) (i := jp) HH.out ll (by rw [ll, HN.out]; omega)
          have k3 := RW_cell (m := k2) (i := jp + 1) HH.out ll (by rw [ll, HN.out]; omega)
          rw [v1, HWQ.out] at k1
          rw [v2, HWQ.out] at k3
          have HSW : ∀ q, Hid ((((wq.drewN q).setCell ⟨g, off + (jp + 1), none⟩ (.int .i32 y)).setCell ⟨g, off + jp, none⟩ (.int .i32 x)).drew = RW w g off (P ++ (S0 ++ x :: (y :: S2 ++ (R ++ T)))) (k2 + q + 1)) := fun q => by
            refine Lib.hid ?_
            have h := RW_swap w g off ((P ++ S0) ++ y :: x :: (S2 ++ (R ++ T))) (k2 + q) (jp + 1) jp (by rw [ll, HN.out]; omega) (by rw [ll, HN.out]; omega)
            rw [v1, v2, swpL_comm _ (show jp + 1 ≠ jp by omega), ← l1, swpL_next, l1, ← RW_drew, HWQ.out] at h
            rw [h]
            congr 1
            simp
          obtain ⟨c1, f1⟩ := k1
          obtain ⟨c2, f2⟩ := k3
          have wj : IntKind.i64.wrap (((jp + 1 : Nat) : Int) - 1) = (jp : Int) := by rw [IntKind.wrap_i64]; omega
          have wj' : IntKind.i64.wrap ((jp : Int)) = (jp : Int) := by rw [IntKind.wrap_i64]; omega
          have ja : (a : Int) < ((jp + 1 : Nat) : Int) := by omega
          have ja' : (a : Int) < (jp : Int) + 1 := by omega
          have p1 : (jp : Int) < (N : Int) := by omega
          have p2 : (jp : Int) + 1 < (N : Int) := by omega
          have p0 : (0 : Int) ≤ (jp : Int) + 1 := by omega
          have e0 : ((jp : Int) + 1).toNat = jp + 1 := by omega
          have hC := fun w => cmp_c x y w
          obtain ⟨bx0, bx1⟩ := class_bounds x
          obtain ⟨by0, by1⟩ := class_bounds y
          have HL := Lib.hid h12
          have HSO := Lib.hid hsort
          have HGT := Lib.hid hgt
          have HSWP := Lib.hid hsw
          have HS0 := Lib.hid hs
          have HJP := Lib.hid hjp
          by_cases hxy : classI x < classI y
          · have HR : ∀ q, Hid (InsRel2 w g off P A T x n R (.int .i64 jp) (RW w g off (P ++ (S0 ++ x :: (y :: S2 ++ (R ++ T)))) q)) := fun q =>
              Lib.hid ⟨S0, y :: S2, q, by simp only [List.length_cons]; omega, by rw [HA.out, hs, hjp], by simpa using hsort, by
                intro z hz
                rcases List.mem_cons.1 hz with rfl | hz
                · exact hxy
                · exact hgt z hz, by
                refine hsw.trans ?_
                have hy := HPOS.out
                have hpx : 0 < classI x := hy x (hsw.perm.mem_iff.2 (by simp))
                have := SwapsM.step (c := classI) (l := S0 ++ x :: y :: (S2 ++ R)) S0 (S2 ++ R) y x (wrong_yes classI ⟨hpx, hxy⟩) (.same _)
                simpa using this, rfl⟩
            clear OUT hsw hsort hgt hwq e1 l1 ll hll v1 v2 h12 hs hjp
            generalize classI x = cx at *
            generalize classI y = cy at *
            go_wp2_with fail
            go_quiet ((go_at_call 40; exact Calls.quiet_of_same ((hC _).mono fun _ _ h => ⟨h.1, h.2⟩)))
            have hlt0 : cx - cy < 0 := by omega
            go_wp2_with fail
            have c1' : (wq.drewN nq).cell? ⟨g, off + jp, none⟩ = some (.int .i32 y) := c1
            have c2' : (wq.drewN nq).cell? ⟨g, off + (jp + 1), none⟩ = some (.int .i32 x) := c2
            have f1' : (wq.drewN nq).frozen? ⟨g, off + jp, none⟩ = false := f1
            have f2' : (wq.drewN nq).frozen? ⟨g, off + (jp + 1), none⟩ = false := f2
            have HSN := HSW nq
            clear c1 c2 f1 f2 hC HWQ HSW
            generalize wq.drewN nq = wq2 at *
            obtain ⟨j1, hj1⟩ : ∃ j1, j1 = jp + 1 := ⟨_, rfl⟩
            rw [← hj1] at c2' f2' e0 HSN
            clear hj1
            go_big_region
            all_goals go_wp2
            exact ⟨by rw [HSN.out]; exact (HR _).out, by simp [intOf]⟩
          · have HO := OUT (fun S0' y' h => by
              have := List.append_inj' h rfl
              have : y = y' := by simpa using this.2
              subst this; omega)
            have hge0 : ¬ (classI x - classI y < 0) := by omega
            have HQ : ∀ q, Hid (wq.drewN q = RW w g off (P ++ ((S0 ++ [y]) ++ x :: (S2 ++ (R ++ T)))) (k2 + q)) := fun q => Lib.hid (by rw [← hwq, RW_drew])
            have hi1 : i + 1 < 1000001 := by omega
            clear OUT hsw hsort hgt hwq e1 l1 ll hll v1 v2 h12 hs hjp HSW
            generalize classI x = cx at *
            generalize classI y = cy at *
            go_wp2_with fail
            go_quiet ((go_at_call 40; exact Calls.quiet_of_same ((hC _).mono fun _ _ h => ⟨h.1, h.2⟩)))
            go_wp2
            go_roundw
            case rel =>
              rw [(HQ _).out]
              have e : IntKind.i64.wrap ((i : Int) + 1) = ((i + 1 : Nat) : Int) := by rw [IntKind.wrap_i64]; omega
              exact cast (by first | rfl | rw [e] | simp [e]) (HO _).out
            case measure => simp [intOf]; omega
    · have hib : i = b := by have := HB.out; omega
      have hR0 : R = [] := by
        apply List.eq_nil_of_length_eq_zero
        have := HB.out; omega
      subst hR0
      rw [List.append_nil] at hsw
      have HX : Hid (SortPost w g off P A T (RW w g off (P ++ (S ++ ([] ++ T))) k)) := Lib.hid ⟨S, k, hsw, hsort, rfl⟩
      have hge : ¬ ((i : Int) < (b : Int)) := by omega
      clear hib hSR hi hsw hsort hn
      go_wp2
      go_end0
      exact ⟨rfl, HX.out⟩
end Go.Proofs.Ytjakelphkehonaa
