/-
  A search that halves (sort.Search) over the closure that asks whether an entry's cookie is above a cursor: where the first such entry stands.
-/
import Derived.Test.YtmplekjiciedgaaCuLawA
import Derived.IntWalk
namespace Go.Proofs.Ytmplekjiciedgaa
open Go.RowKit Go.Sort
set_option linter.unusedVariables false

abbrev ptB (b : Nat) : Value := .pointer (some ⟨b, 0, none⟩)
/-- How many entries are not above the cursor: in a rising list they stand first. -/
def belowN (c : Int) (l : List Ent) : Nat := (l.filter fun e => decide (e.cookie ≤ c)).length
theorem below_le (c : Int) (l : List Ent) : belowN c l ≤ l.length := List.length_filter_le _ _
theorem below_split : ∀ {l : List Ent}, Rises l → ∀ (c : Int), (∀ (i : Nat) (e : Ent), l[i]? = some e → (c < e.cookie ↔ belowN c l ≤ i)) ∧ aboveC c l = l.drop (belowN c l)
  | [], _, c => ⟨(fun i e h => nomatch h), rfl⟩
  | x :: l, h, c => by
    obtain ⟨h1, h2⟩ := List.pairwise_cons.1 h
    obtain ⟨ih1, ih2⟩ := below_split (l := l) h2 c
    by_cases hx : x.cookie ≤ c
    · have hb : belowN c (x :: l) = belowN c l + 1 := by unfold belowN; rw [List.filter_cons_of_pos (by simpa using hx)]; rfl
      have ha : aboveC c (x :: l) = aboveC c l := by unfold aboveC; rw [List.filter_cons_of_neg (by simp; omega)]
      refine ⟨fun i e he => ?_, by rw [ha, hb, List.drop_succ_cons, ih2]⟩
      rw [hb]
      cases i with
      | zero =>
        have e1 : x = e := by simpa using he
        subst e1
        omega
      | succ i =>
        have := ih1 i e (by simpa using he)
        omega
    · have hall : ∀ e ∈ l, c < e.cookie := fun e he => by have := h1 e he; omega
      have hb : belowN c (x :: l) = 0 := by
        unfold belowN
        rw [List.length_eq_zero_iff, List.filter_eq_nil_iff]
        intro e he
        simp only [decide_eq_true_eq]
        rcases List.mem_cons.1 he with rfl | he
        · omega
        · have := hall e he; omega
      have ha : aboveC c (x :: l) = x :: l := by
        unfold aboveC
        rw [List.filter_eq_self]
        intro e he
        rw [decide_eq_true_iff]
        rcases List.mem_cons.1 he with rfl | he
        · omega
        · exact hall e he
      refine ⟨fun i e he => ?_, by rw [ha, hb]; rfl⟩
      rw [hb]
      have hm := List.mem_of_getElem? he
      rcases List.mem_cons.1 hm with rfl | hm
      · constructor <;> intro <;> omega
      · have := hall e hm
        constructor <;> intro <;> omega
set_option maxHeartbeats 1000000 in
/-- The first of n places that the closure says yes of: K, where it says yes from K on. -/
theorem srch_c (n K : Nat) (hK : K ≤ n) (hn : n ≤ 1000) (p q : Nat) (w : World)
    (hC : ∀ (h : Nat) (W : World), Below w.heap.size w W → h < n → Calls Try.prog 36 #[.int .i64 h, ptB p, ptB q] W fun e w' => e = .returned (.bool (decide (K ≤ h))) ∧ Below W.heap.size W w') :
    Calls Try.prog 35 #[.int .i64 n, .func (.func 36) #[] #[ptB p, ptB q]] w fun e w' => e = .returned (.int .i64 K) ∧ Below w.heap.size w w' := by
  have HC := Lib.hid hC
  clear hC
  go_enter Try.func35, Try.ntmps35
  go_wp2
  go_loopw [5, 6] (fun iv jv wr => ∃ (i j : Nat), iv = .int .i64 i ∧ jv = .int .i64 j ∧ i ≤ K ∧ K ≤ j ∧ j ≤ n ∧ Below w.heap.size w wr) (fun iv jv _ => (intOf jv).toNat - (intOf iv).toNat)
  case atStart => exact ⟨0, n, rfl, rfl, by omega, hK, Nat.le_refl _, Below.refl _ _⟩
  case round =>
    obtain ⟨i, j, rfl, rfl, hi, hj, hjn, hb⟩ := hrel
    have HB := Lib.hid hb
    by_cases hij : i < j
    · have hijz : (i : Int) < (j : Int) := by omega
      obtain ⟨h, hh⟩ : ∃ h, (i + j) / 2 = h := ⟨_, rfl⟩
      have hh1 : i ≤ h := by omega
      have hh2 : h < j := by omega
      have hw1 : IntKind.i64.wrap ((i : Int) + (j : Int)) = (i : Int) + (j : Int) := by rw [IntKind.wrap_i64]; omega
      have hw2 : IntKind.u64.wrap ((i : Int) + (j : Int)) = (i : Int) + (j : Int) := IntWalk.u64_in _ (by omega)
      have hdv : ((i : Int) + (j : Int)) / 2 = (h : Int) := by omega
      have hw3 : IntKind.u64.wrap (h : Int) = (h : Int) := IntWalk.u64_in _ (by omega)
      have hw4 : IntKind.i64.wrap (h : Int) = (h : Int) := by rw [IntKind.wrap_i64]; omega
      have cH := HC.out h wr hb (by omega)
      clear hb
      by_cases hkh : K ≤ h
      · rw [decide_eq_true hkh] at cH
        go_wp2_with (go_at_call 36; refine cH.mono ?_; rintro e w2 ⟨rfl, hb2⟩; have HB2 := Lib.hid (HB.out.trans (hb2.mono HB.out.size)); clear hb2)
        go_roundw
        case rel => exact ⟨i, h, rfl, rfl, hi, hkh, by omega, HB2.out⟩
        case measure => simp [intOf]; omega
      · rw [decide_eq_false hkh] at cH
        go_wp2_with (go_at_call 36; refine cH.mono ?_; rintro e w2 ⟨rfl, hb2⟩; have HB2 := Lib.hid (HB.out.trans (hb2.mono HB.out.size)); clear hb2)
        go_roundw
        case rel => exact ⟨h + 1, j, by first | rfl | go_num, rfl, by omega, hj, hjn, HB2.out⟩
        case measure => simp [intOf]; omega
    · have hijz : ¬ (i : Int) < (j : Int) := by omega
      obtain rfl : i = K := by omega
      clear hb
      go_wp2
      go_ret
      exact ⟨rfl, HB.out⟩
end Go.Proofs.Ytmplekjiciedgaa
