/-
  ComposeJoins answers true.
-/
import Derived.Test.YtjakelphkehonaaCpLawE
namespace Go.Proofs.Ytjakelphkehonaa
open Go.RowKit Go.Sort
set_option linter.unusedVariables false

set_option maxHeartbeats 2000000 in
theorem joins_out (a b : Option Addr) (na ca nb cb : Nat) (h : 20 < na ∨ (na ≤ 20 ∧ 20 < nb) ∨ (na ≤ 20 ∧ nb = 0)) (w : World) : Calls Try.prog 4 #[.slice a na ca, .slice b nb cb] w (LawPost w) := by
  have c5 := fun w => awake3_c w
  unfold LawPost
  rcases h with h | ⟨h1, h⟩ | ⟨h1, h⟩
  · have hz : (20 : Int) < (na : Int) := by omega
    go_enter Try.func4, Try.ntmps4
    go_wp2_with fail
    refine (c5 _).mono ?_
    rintro e w1 ⟨rfl, hb1⟩
    go_wp2_with fail
    refine (c5 _).mono ?_
    rintro e w2 ⟨rfl, hb2⟩
    have HB := Lib.hid (below_step hb1 hb2)
    clear hb1 hb2
    go_wp2
    go_ret
    exact ⟨rfl, HB.out⟩
  · have hz : ¬ ((20 : Int) < (na : Int)) := by omega
    have hz2 : (20 : Int) < (nb : Int) := by omega
    go_enter Try.func4, Try.ntmps4
    go_wp2_with fail
    refine (c5 _).mono ?_
    rintro e w1 ⟨rfl, hb1⟩
    go_wp2_with fail
    refine (c5 _).mono ?_
    rintro e w2 ⟨rfl, hb2⟩
    have HB := Lib.hid (below_step hb1 hb2)
    clear hb1 hb2
    go_wp2
    go_ret
    exact ⟨rfl, HB.out⟩
  · have hz : ¬ ((20 : Int) < (na : Int)) := by omega
    subst h
    go_enter Try.func4, Try.ntmps4
    go_wp2_with fail
    refine (c5 _).mono ?_
    rintro e w1 ⟨rfl, hb1⟩
    go_wp2_with fail
    refine (c5 _).mono ?_
    rintro e w2 ⟨rfl, hb2⟩
    have HB := Lib.hid (below_step hb1 hb2)
    clear hb1 hb2
    go_wp2
    go_ret
    exact ⟨rfl, HB.out⟩

set_option maxHeartbeats 3000000 in
theorem joins_law (va vb : Value) (A B : List Int) (w : World) (ha : SliceOk w va A) (hb : SliceOk w vb B) : Calls Try.prog 4 #[va, vb] w (LawPost w) := by
  obtain ⟨a0, ca, hva⟩ := ha.1.len
  obtain ⟨b0, cb0, hvb⟩ := hb.1.len
  by_cases hout : 20 < A.length ∨ (A.length ≤ 20 ∧ 20 < B.length) ∨ (A.length ≤ 20 ∧ B.length = 0)
  · subst hva hvb
    exact joins_out a0 b0 _ ca _ cb0 hout w
  obtain ⟨na, hna⟩ : ∃ n, A.length = n := ⟨_, rfl⟩
  obtain ⟨nb, hnb⟩ : ∃ n, B.length = n := ⟨_, rfl⟩
  rw [hna, hnb] at hout
  rw [hna] at hva
  have a20 : na ≤ 20 := by omega
  have b20 : nb ≤ 20 := by omega
  have b1 : 1 ≤ nb := by omega
  obtain ⟨g, off, cb, hg, hvb', hc0⟩ : ∃ g off cb, g < w.heap.size ∧ vb = .slice (some ⟨g, off, none⟩) nb cb ∧ w.cell? ⟨g, off + 0, none⟩ = some (.int .i32 (B.getD 0 0)) := by
    rcases hb.1 with ⟨h0, _⟩ | ⟨g, off, cb, hg, hv, hc⟩
    · rw [h0] at hnb; simp at hnb; omega
    · exact ⟨g, off, cb, hg, by rw [hv, hnb], hc 0 (by omega)⟩
  rw [Nat.add_zero] at hc0
  obtain ⟨x, hx⟩ : ∃ x, B.getD 0 0 = x := ⟨_, rfl⟩
  rw [hx] at hc0
  have c5 := fun w => awake3_c w
  have cC := fun w => cls_c x w
  have z1 : ¬ ((20 : Int) < (na : Int)) := by omega
  have z2 : ¬ ((20 : Int) < (nb : Int)) := by omega
  have z3 : ((nb : Int) == 0) = false := by rw [beq_eq_false_iff_ne]; omega
  have z3' : ¬ ((nb : Int) = 0) := by omega
  have z4 : (0 : Int) < (nb : Int) := by omega
  have HA := Lib.hid ha
  have HB0 := Lib.hid hb
  have HNA := Lib.hid hna
  have HNB := Lib.hid hnb
  subst hva hvb'
  by_cases hcl : 0 < classI x
  · clear ha hb hna hnb hx hvb
    generalize classI x = cx at *
    unfold LawPost
    go_enter Try.func4, Try.ntmps4
    go_wp2_with fail
    refine (c5 _).mono ?_
    rintro e w1 ⟨rfl, hb1⟩
    have c1 : w1.cell? ⟨g, off, none⟩ = some (.int .i32 x) := by rw [hb1.cell (p := ⟨g, off, none⟩) hg]; exact hc0
    clear hc0
    go_wp2_with fail
    refine (cC _).mono ?_
    rintro e w2 ⟨rfl, h2⟩
    rw [h2]
    clear h2 w2
    go_wp2_with fail
    refine (c5 _).mono ?_
    rintro e w3 ⟨rfl, hb2⟩
    have HB := Lib.hid (below_step hb1 hb2)
    clear hb1 hb2
    go_wp2
    go_ret
    exact ⟨rfl, HB.out⟩
  · have hx0 : classI x = 0 := by have := classI_nn x; omega
    have HJ : Hid (apartI (A ++ B) = apartI A ++ apartI B) := Lib.hid (by
      cases B with
      | nil => simp at hnb; omega
      | cons y t =>
        have : y = x := by rw [← hx]; rfl
        subst this
        exact apart_joins hx0)
    rw [hx0] at cC
    clear ha hb hna hnb hx hvb hcl hx0
    unfold LawPost
    go_enter Try.func4, Try.ntmps4
    go_wp2_with fail
    refine (c5 _).mono ?_
    rintro e w1 ⟨rfl, hb1⟩
    have c1 : w1.cell? ⟨g, off, none⟩ = some (.int .i32 x) := by rw [hb1.cell (p := ⟨g, off, none⟩) hg]; exact hc0
    clear hc0
    go_wp2_with fail
    refine (cC _).mono ?_
    rintro e w2 ⟨rfl, h2⟩
    rw [h2]
    clear h2 w2
    have hsz := hb1.size
    have own0 := own_empty w.heap.size w1 hsz
    have hb2 := hb1.alloc hsz (.cells #[] 21)
    have HS1 := Lib.hid (HA.out.kept hb2)
    have hl1 : ([] : List Int).length + A.length ≤ 100000 := by rw [HNA.out, List.length_nil]; omega
    have hs2 := hb2.size
    go_wp2_with (at_builtin; refine append_ok rfl _ _ rfl w.heap.size _ [] rfl own0 _ A rfl HS1.out hl1 hs2 ?_)
    intro v3 w3 own3 hb3
    try rw [List.nil_append] at own3
    have hb3' := hb2.trans hb3
    have HS2 := Lib.hid (HB0.out.kept hb3')
    have hl2 : A.length + B.length ≤ 100000 := by rw [HNA.out, HNB.out]; omega
    have hs3 := hb3'.size
    clear own0 hb2 HS1 hb3 hl1 hb1 c1 hs2 hsz
    go_wp2_with (at_builtin; refine append_ok rfl _ _ rfl w.heap.size _ A rfl own3 _ B rfl HS2.out hl2 hs3 ?_)
    intro v4 w4 own4 hb4
    have hb4' := hb3'.trans hb4
    have SALL := Lib.hid (SliceIs.own own4)
    have hs4 := hb4'.size
    have HB4 := Lib.hid hb4'
    have HO5 := Lib.hid (own_empty w4.heap.size w4 (Nat.le_refl _))
    have hx5 : Below w4.heap.size w4 (w4.alloc (.cells #[] 21)) := (Below.refl w4.heap.size w4).alloc (Nat.le_refl _) _
    have c6 := apart_c A _ _ (HA.out.1.kept (HB4.out.trans (hx5.mono hs4))) (by rw [HNA.out]; omega) (by have := marks_full A; rw [HNA.out] at this; omega)
    unfold ApartPost at c6
    clear own3 hb3' HS2 hl2 hs3 hb4 own4 hb4'
    go_wp2_with fail
    refine c6.mono ?_
    rintro e w6 ⟨v6, rfl, s6, f6, hb6⟩
    have OK6 := Lib.hid (show SliceOk w6 v6 (apartI A) from ⟨s6, f6⟩)
    have own6 : OwnI w4.heap.size w6 (.slice (some ⟨w4.heap.size, 0, none⟩) 0 0) [] := HO5.out.below hb6
    have hx6 := hx5.trans (hb6.mono hx5.size)
    have hs6 := hx6.size
    have hl6 : ([] : List Int).length + (apartI A).length ≤ 100000 := by have := apart_length A; rw [HNA.out] at this; rw [List.length_nil]; omega
    clear c6 hb6 HO5 s6 f6 hx5
    go_wp2_with (at_builtin; refine append_ok rfl _ _ rfl w4.heap.size _ [] rfl own6 _ (apartI A) rfl OK6.out hl6 hs6 ?_)
    intro v7 w7 own7 hb7
    try rw [List.nil_append] at own7
    have hx7 := hx6.trans hb7
    have c8 := apart_c B _ w7 (HB0.out.1.kept (HB4.out.trans (hx7.mono hs4))) (by rw [HNB.out]; omega) (by have := marks_full B; rw [HNB.out] at this; omega)
    unfold ApartPost at c8
    have HO7 := Lib.hid own7
    clear own7 own6 hx6 hs6 hl6 OK6 hb7
    go_wp2_with fail
    refine c8.mono ?_
    rintro e w8 ⟨v8, rfl, s8, f8, hb8⟩
    have OK8 := Lib.hid (show SliceOk w8 v8 (apartI B) from ⟨s8, f8⟩)
    have own8 := HO7.out.below hb8
    have hx8 := hx7.trans (hb8.mono hx7.size)
    have hs8 := hx8.size
    have hl8 : (apartI A).length + (apartI B).length ≤ 100000 := by have := apart_length A; have := apart_length B; rw [HNA.out] at *; rw [HNB.out] at *; omega
    clear c8 hb8 HO7 s8 f8 hx7
    go_wp2_with (at_builtin; refine append_ok rfl _ _ rfl w4.heap.size _ (apartI A) rfl own8 _ (apartI B) rfl OK8.out hl8 hs8 ?_)
    intro v9 w9 own9 hb9
    have hx9 := hx8.trans hb9
    have SW := Lib.hid (SliceIs.own own9)
    have hlen : (A ++ B).length ≤ 40 := by rw [List.length_append, HNA.out, HNB.out]; omega
    have c10 := apart_c (A ++ B) _ w9 (SALL.out.kept hx9) (by omega) (by have := marks_full (A ++ B); omega)
    unfold ApartPost at c10
    have HX9 := Lib.hid (HB4.out.trans (hx9.mono hs4))
    clear own9 own8 hb9 hx8 hx9 hs8 hl8 OK8 SALL
    go_wp2_with fail
    refine c10.mono ?_
    rintro e wa ⟨vc, rfl, sa, _, hba⟩
    have c11 := same_c sa (SW.out.kept hba) (by have := apart_length (A ++ B); omega)
    rw [decide_eq_true HJ.out] at c11
    have hbba := below_step HX9.out hba
    clear c10 hba SW sa HX9
    go_wp2_with fail
    refine c11.mono ?_
    rintro e wf ⟨rfl, hbf⟩
    have HB := Lib.hid (below_step hbba hbf)
    clear c11 hbf hbba
    go_wp2
    go_ret
    exact ⟨rfl, HB.out⟩
end Go.Proofs.Ytjakelphkehonaa
