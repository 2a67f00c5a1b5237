/-
  The contract of compose's orderMarks: a row of characters is put in order.
-/
import Derived.Test.YtjakelphkehonaaSoStable
namespace Go.Proofs.Ytjakelphkehonaa
open Go.RowKit Go.Sort
set_option linter.unusedVariables false

theorem getD_three (D U R : List Int) (k : Nat) : (D ++ (U ++ R)).getD k 0 = if k < D.length then D.getD k 0 else if k < D.length + U.length then U.getD (k - D.length) 0 else R.getD (k - D.length - U.length) 0 := by
  simp only [List.getD_eq_getElem?_getD]
  by_cases h1 : k < D.length
  · rw [if_pos h1, List.getElem?_append_left h1]
  · rw [if_neg h1, List.getElem?_append_right (by omega)]
    by_cases h2 : k < D.length + U.length
    · rw [if_pos h2, List.getElem?_append_left (by omega)]
    · rw [if_neg h2, List.getElem?_append_right (by omega)]
theorem putCells_sub (off : Nat) (D U R M : List Int) (h : M.length = U.length) (c : Array Value) :
    putCells encI (off + D.length) M.toArray (putCells encI off (D ++ (U ++ R)).toArray c) = putCells encI off (D ++ (M ++ R)).toArray c := by
  unfold putCells
  apply Array.ext_getElem?
  intro k
  simp only [Array.getElem?_mapIdx, Option.map_map]
  cases c[k]? with
  | none => rfl
  | some x =>
    simp only [Option.map_some, Function.comp, toArray_at, List.size_toArray, List.length_append, getD_three, h]
    congr 1
    by_cases h1 : off ≤ k ∧ k < off + (D.length + (U.length + R.length))
    · rw [if_pos h1, if_pos h1]
      by_cases h2 : off + D.length ≤ k ∧ k < off + D.length + U.length
      · rw [if_pos h2, if_neg (by omega), if_pos (by omega), Nat.sub_sub]
      · rw [if_neg h2]
        congr 1
        by_cases h3 : k - off < D.length
        · rw [if_pos h3, if_pos h3]
        · rw [if_neg h3, if_neg h3, if_neg (by omega), if_neg (by omega)]
    · rw [if_neg h1, if_neg h1, if_neg (by omega)]
theorem RW_sub (w : World) (g off : Nat) (D U R M : List Int) (h : M.length = U.length) (k m : Nat) : RW (RW w g off (D ++ (U ++ R)) k) g (off + D.length) M m = RW w g off (D ++ (M ++ R)) (k + m) := by
  have h1 : putRow encI (putRow encI w g off (D ++ (U ++ R)).toArray) g (off + D.length) M.toArray = putRow encI w g off (D ++ (M ++ R)).toArray := by
    unfold putRow
    rw [mapBlock_mapBlock]
    congr 1
    funext c
    exact putCells_sub off D U R M h c
  unfold RW
  have h2 : putRow encI ((putRow encI w g off (D ++ (U ++ R)).toArray).drewN k) g (off + D.length) M.toArray = (putRow encI (putRow encI w g off (D ++ (U ++ R)).toArray) g (off + D.length) M.toArray).drewN k := by
    induction k with
    | zero => rfl
    | succ k ih =>
      show putRow encI ((putRow encI w g off (D ++ (U ++ R)).toArray).drewN k).drew g (off + D.length) M.toArray = _
      rw [← putRow_drew, ih]; rfl
  rw [h2, h1, World.drewN_drewN]

theorem ordered_append (c : Int → Int) : ∀ (A B : List Int), orderedM c A → orderedM c B → (∀ x y, A.getLast? = some x → B.head? = some y → wrongB c x y = false) → orderedM c (A ++ B)
  | [], B, _, hB, _ => hB
  | [x], [], hA, _, _ => hA
  | [x], y :: B, _, hB, h => ⟨h x y rfl rfl, hB⟩
  | x :: x' :: A, B, hA, hB, h => by
    have ih := ordered_append c (x' :: A) B hA.2 hB (fun p q hp hq => h p q (by rw [List.getLast?_cons_cons]; exact hp) hq)
    exact ⟨hA.1, ih⟩
theorem sorted_ordered : ∀ {U : List Int}, SortedM U → orderedM classI U
  | [], _ => trivial
  | [x], _ => trivial
  | x :: y :: U, h => by
    unfold SortedM at h
    rw [List.pairwise_cons] at h
    have := h.1 y (by simp)
    exact ⟨wrong_no classI (by omega), sorted_ordered h.2⟩

def Ends0 (D : List Int) : Prop := ∀ z, D.getLast? = some z → classI z = 0
theorem ordered_run {D U : List Int} (hD : orderedM classI D) (h0 : Ends0 D) (hU : SortedM U) : orderedM classI (D ++ U) :=
  ordered_append classI D U hD (sorted_ordered hU) fun x y hx _ => wrong_no classI (by have := h0 x hx; have := class_bounds y; omega)
theorem ordered_close {D : List Int} {x : Int} (hD : orderedM classI D) (hx : classI x = 0) : orderedM classI (D ++ [x]) :=
  ordered_append classI D [x] hD trivial fun p q _ hq => by simp at hq; subst hq; exact wrong_no classI (by omega)
theorem ends_close (D : List Int) {x : Int} (hx : classI x = 0) : Ends0 (D ++ [x]) := fun z hz => by simp at hz; subst hz; exact hx

def marksN (L : List Int) : Nat := L.countP fun x => decide (0 < classI x)
theorem marks_perm {L M : List Int} (h : L.Perm M) : marksN L = marksN M := h.countP_eq _
theorem marks_run {D U R : List Int} (hU : PosM U) : U.length ≤ marksN (D ++ (U ++ R)) := by
  unfold marksN
  rw [List.countP_append, List.countP_append]
  have : U.countP (fun x => decide (0 < classI x)) = U.length := by
    rw [List.countP_eq_length]
    exact fun x hx => decide_eq_true (hU x hx)
  omega

def OrdRel (w : World) (g off : Nat) (L : List Int) (bv tv : Value) (wr : World) : Prop :=
  ∃ (D U R : List Int) (k : Nat), bv = .int .i64 D.length ∧ tv = .int .i64 (D.length + U.length : Nat) ∧ SwapsM classI L (D ++ (U ++ R)) ∧ orderedM classI D ∧ Ends0 D ∧ PosM U ∧ wr = RW w g off (D ++ (U ++ R)) k

/-- The run is put in order, wherever it stands in the row. -/
theorem run_in (w : World) (g off N : Nat) (L : List Int) (hH : Holds encI w g off L.toArray) (D U R : List Int) (hs : SwapsM classI L (D ++ (U ++ R))) (hU : PosM U) (hm : marksN L ≤ 40) (n cap k : Nat) (hn : U.length = n) :
    Calls Try.prog 34 #[.slice (some ⟨g, off + D.length, none⟩) n cap] (RW w g off (D ++ (U ++ R)) k)
      fun e w' => e = .returned (.tuple #[]) ∧ ∃ M m, SwapsM classI L (D ++ (M ++ R)) ∧ SortedM M ∧ M.length = n ∧ w' = RW w g off (D ++ (M ++ R)) m := by
  subst hn
  by_cases h0 : U.length = 0
  · have : U = [] := List.eq_nil_of_length_eq_zero h0
    subst this
    refine (orderRun_none _ cap _).mono ?_
    rintro e w' ⟨rfl, rfl⟩
    exact ⟨rfl, [], k, hs, by unfold SortedM; simp, rfl, rfl⟩
  · have hl : U.length ≤ 40 := by
      have h1 := marks_run (D := D) (R := R) hU
      have h2 := marks_perm hs.perm
      omega
    have hHs : Holds encI (RW w g off (D ++ (U ++ R)) k) g (off + D.length) U.toArray := by
      intro j hj
      have hj' : j < U.length := by simpa using hj
      have := RW_cell (m := k) (i := D.length + j) hH hs.length.symm (by simp; omega)
      rw [getD_three, if_neg (by omega), if_pos (by omega), Nat.add_sub_cancel_left, ← Nat.add_assoc] at this
      rw [toArray_at]
      exact this
    refine (orderRun_c _ g (off + D.length) cap U.length U hHs rfl (by omega) hl hU).mono ?_
    rintro e w' ⟨rfl, M, m, h1, h2, rfl⟩
    refine ⟨rfl, M, k + m, ?_, h2, h1.length.symm, RW_sub w g off D U R M h1.length.symm k m⟩
    have := h1.within D R
    rw [List.append_assoc, List.append_assoc] at this
    exact hs.trans this

theorem order_none (cap : Nat) (v : Option Addr) (hv : v = none) (w : World) (hcap : cap = 0) : Calls Try.prog 25 #[.slice v 0 cap] w fun e w' => e = .returned (.tuple #[]) ∧ w' = w := by
  subst hv hcap
  have c := fun v cap => orderRun_none v cap w
  go_enter Try.func25, Try.ntmps25
  go_wp2
  refine wp_loop_rounds 1 ?_
  rw [rounds_succ]
  go_wp2_with fail
  refine (c _ _).mono ?_
  rintro e w' ⟨rfl, rfl⟩
  go_wp2
  go_end0
  exact ⟨rfl, rfl⟩

set_option maxHeartbeats 4000000 in
set_option maxRecDepth 100000 in
theorem order_c (w : World) (g off cap N : Nat) (L : List Int) (hH : Holds encI w g off L.toArray) (hN : L.length = N) (hsz : N < 1000000) (hcap : N ≤ cap) (hm : marksN L ≤ 40) :
    Calls Try.prog 25 #[.slice (some ⟨g, off, none⟩) N cap] w fun e w' => e = .returned (.tuple #[]) ∧ ∃ m, w' = RW w g off (sortM classI L) m := by
  have HS : Hid (OrdRel w g off L (.int .i64 0) (.int .i64 0) w) := Lib.hid ⟨[], [], L, 0, rfl, rfl, .same _, trivial, (fun z hz => nomatch hz), (fun x hx => nomatch hx), (RW_start hH).symm⟩
  have HH := Lib.hid hH
  have HN := Lib.hid hN
  have HM := Lib.hid hm
  clear hH hN hm
  go_enter Try.func25, Try.ntmps25
  go_wp2
  go_loopw [2, 7] (fun bv tv wr => OrdRel w g off L bv tv wr) (fun _ tv _ => N - (intOf tv).toNat)
  case atStart => exact HS.out
  case round =>
    obtain ⟨D, U, R, k, rfl, rfl, hs, hD, h0, hU, rfl⟩ := hrel
    obtain ⟨b, hb⟩ : ∃ b, D.length = b := ⟨_, rfl⟩
    obtain ⟨u, hu⟩ : ∃ u, U.length = u := ⟨_, rfl⟩
    obtain ⟨t, ht⟩ : ∃ t, b + u = t := ⟨_, rfl⟩
    have hl := hs.length
    rw [HN.out, List.length_append, List.length_append, hb, hu] at hl
    rw [hb, hu, ht]
    obtain ⟨wq, hwq⟩ : ∃ wq, RW w g off (D ++ (U ++ R)) k = wq := ⟨_, rfl⟩
    rw [hwq]
    have btz : (b : Int) ≤ (t : Int) := by omega
    have btn : b ≤ t := by omega
    have tbu : t - b = u := by omega
    have htc : t ≤ cap := by omega
    have hut : u ≤ t - b := by omega
    have CR : Hid (∀ (ad : Option Addr) (cp : Nat), u = 0 ∨ ad = some ⟨g, off + b, none⟩ → Calls Try.prog 34 #[.slice ad u cp] wq
        fun e w' => e = .returned (.tuple #[]) ∧ ∃ M m, SwapsM classI L (D ++ (M ++ R)) ∧ SortedM M ∧ M.length = u ∧ w' = RW w g off (D ++ (M ++ R)) m) := Lib.hid fun ad cp h => by
      rcases h with h | rfl
      · have hU0 : U = [] := List.eq_nil_of_length_eq_zero (by omega)
        have := orderRun_none ad cp wq
        rw [← h] at this
        refine this.mono ?_
        rintro e w' ⟨rfl, rfl⟩
        rw [hU0] at hs hwq
        exact ⟨rfl, [], k, hs, by unfold SortedM; simp, h.symm, hwq.symm⟩
      · have := run_in w g off N L HH.out D U R hs hU HM.out u cp k hu
        rw [hwq, hb] at this
        exact this
    cases R with
    | nil =>
      have htN : t = N := by simp at hl; omega
      have HF : Hid (∀ M m, SwapsM classI L (D ++ (M ++ [])) → SortedM M → RW w g off (D ++ (M ++ [])) m = RW w g off (sortM classI L) m) := Lib.hid fun M m h1 h2 => by
        rw [← h1.ordered classI (by rw [List.append_nil]; exact ordered_run hD h0 h2)]
      subst htN
      have hge : ¬ ((t : Int) < (t : Int)) := by omega
      have hbc : (b : Int) ≤ (cap : Int) := by omega
      clear hs hD h0 hU hb hu ht hl hwq
      go_wp2_with fail
      all_goals
        refine (CR.out _ _ (by first | exact Or.inr rfl | exact Or.inl (by omega))).mono ?_
        rintro e w' ⟨rfl, M, m, h1, h2, h3, rfl⟩
        rw [HF.out M m h1 h2]
        clear CR HF h1 h2 h3
        go_wp2
        go_end0
        exact ⟨rfl, m, rfl⟩
    | cons x R =>
      simp only [List.length_cons] at hl
      have htN : t < N := by omega
      have htz : (t : Int) < (N : Int) := by omega
      have hlen : (D ++ (U ++ x :: R)).length = L.length := hs.length.symm
      have k1 := RW_cell (m := k) (i := t) HH.out hlen (by rw [hlen, HN.out]; exact htN)
      have v1 : (D ++ (U ++ x :: R)).getD t 0 = x := by
        have := getD_mid (D ++ U) R x
        rw [List.length_append, hb, hu, ht, List.append_assoc] at this
        exact this
      rw [v1, hwq] at k1
      obtain ⟨c1, f1⟩ := k1
      have cC := fun w => cls_c x w
      have wt : IntKind.i64.wrap ((t : Int) + 1) = ((t + 1 : Nat) : Int) := by rw [IntKind.wrap_i64]; omega
      by_cases hx : classI x = 0
      · have HF : Hid (∀ M m, SwapsM classI L (D ++ (M ++ x :: R)) → SortedM M → M.length = u → OrdRel w g off L (.int .i64 ((t + 1 : Nat) : Int)) (.int .i64 ((t + 1 : Nat) : Int)) (RW w g off (D ++ (M ++ x :: R)) m)) := Lib.hid fun M m h1 h2 h3 =>
          ⟨(D ++ M) ++ [x], [], R, m, by simp only [List.length_append, List.length_singleton]; rw [hb, h3, ht], by simp only [List.length_append, List.length_singleton, List.length_nil]; rw [hb, h3, ht], by simpa using h1, ordered_close (ordered_run hD h0 h2) hx, ends_close _ hx, (fun z hz => nomatch hz), by simp⟩
        rw [hx] at cC
        have hbcap : b ≠ cap := by omega
        have hbc : (b : Int) ≤ (t : Int) := by omega
        have htcz : (t : Int) ≤ (cap : Int) := by omega
        clear hs hD h0 hU hb hu ht hl hwq v1 hlen hx
        go_wp2_with fail
        refine (cC _).mono ?_
        rintro e w' ⟨rfl, rfl⟩
        go_wp2_with fail
        all_goals
          refine (CR.out _ _ (by first | exact Or.inr rfl | exact Or.inl (by omega))).mono ?_
          rintro e w' ⟨rfl, M, m, h1, h2, h3, rfl⟩
          have HO := Lib.hid (HF.out M m h1 h2 h3)
          clear CR HF h1 h2 h3
          go_wp2
          go_roundw
          case rel => exact HO.out
          case measure => simp [intOf]; omega
      · have HF : Hid (OrdRel w g off L (.int .i64 b) (.int .i64 ((t + 1 : Nat) : Int)) wq) := Lib.hid
          ⟨D, U ++ [x], R, k, by rw [hb], by rw [List.length_append, hb, hu, List.length_singleton, ← Nat.add_assoc, ht], by simpa using hs, hD, h0, fun z hz => by
            rcases List.mem_append.1 hz with hz | hz
            · exact hU z hz
            · simp at hz; subst hz; have := class_bounds z; omega, by rw [← hwq]; simp⟩
        have hx' : (classI x == 0) = false := by rw [beq_eq_false_iff_ne]; exact hx
        generalize classI x = cx at *
        clear hs hD h0 hU hb hu ht hl hwq v1 hlen CR
        go_wp2_with fail
        refine (cC _).mono ?_
        rintro e w' ⟨rfl, rfl⟩
        go_wp2
        go_roundw
        case rel => exact HF.out
        case measure => simp [intOf]; omega
end Go.Proofs.Ytjakelphkehonaa
