/-
  ComposeSame answers true.
-/
import Derived.Test.YtjakelphkehonaaCpLawD
namespace Go.Proofs.Ytjakelphkehonaa
open Go.RowKit Go.Sort
set_option linter.unusedVariables false

theorem sameM {l : List Int} {k : Nat} {p : Int × Int} (hk : k < l.length) (hs : splitI (l.getD k 0) = some p) : apartI ((l.take k ++ [p.1, p.2]) ++ l.drop (k + 1)) = apartI l := by
  have e : (l.take k ++ [p.1, p.2]) ++ l.drop (k + 1) = l.take k ++ p.1 :: p.2 :: l.drop (k + 1) := by simp
  rw [e, apart_split hs]
  congr 1
  have := List.drop_eq_getElem_cons hk
  rw [show l.getD k 0 = l[k] by simp [List.getD_eq_getElem?_getD, List.getElem?_eq_getElem hk], ← this, List.take_append_drop]

set_option maxHeartbeats 2000000 in
theorem same_out (v : Option Addr) (n cap : Nat) (t : Int) (h : 20 < n ∨ n = 0) (w : World) : Calls Try.prog 9 #[.slice v n cap, .int .u8 t] w (LawPost w) := by
  have c5 := fun w => awake3_c w
  unfold LawPost
  rcases h with h | h
  · have hz : (20 : Int) < (n : Int) := by omega
    go_enter Try.func9, Try.ntmps9
    go_wp2_with fail
    refine (c5 _).mono ?_
    rintro e w1 ⟨rfl, hb1⟩
    go_wp2_with fail
    refine (c5 _).mono ?_
    rintro e w2 ⟨rfl, hb2⟩
    have HB := Lib.hid (below_step hb1 hb2)
    clear hb1 hb2
    go_wp2
    go_ret
    exact ⟨rfl, HB.out⟩
  · subst h
    go_enter Try.func9, Try.ntmps9
    go_wp2_with fail
    refine (c5 _).mono ?_
    rintro e w1 ⟨rfl, hb1⟩
    go_wp2_with fail
    refine (c5 _).mono ?_
    rintro e w2 ⟨rfl, hb2⟩
    have HB := Lib.hid (below_step hb1 hb2)
    clear hb1 hb2
    go_wp2
    go_ret
    exact ⟨rfl, HB.out⟩

set_option maxHeartbeats 2000000 in
theorem same_law (v : Value) (l : List Int) (t : Int) (ht : 0 ≤ t) (ht' : t ≤ 255) (w : World) (hv : SliceIs w v l) (hcap : ∀ ad m c, v = .slice ad m c → m ≤ c) : Calls Try.prog 9 #[v, .int .u8 t] w (LawPost w) := by
  by_cases hl : 20 < l.length ∨ l.length = 0
  · obtain ⟨a, cap, rfl⟩ := hv.len
    exact same_out a l.length cap t hl w
  obtain ⟨n, hn⟩ : ∃ n, l.length = n := ⟨_, rfl⟩
  rw [hn] at hl
  have n1 : 1 ≤ n := by omega
  have n20 : n ≤ 20 := by omega
  obtain ⟨g, off, cap, hg, hv', hc⟩ : ∃ g off cap, g < w.heap.size ∧ v = .slice (some ⟨g, off, none⟩) n cap ∧ ∀ j, j < n → w.cell? ⟨g, off + j, none⟩ = some (.int .i32 (l.getD j 0)) := by
    rcases hv with ⟨h0, _⟩ | ⟨g, off, cap, hg, hv, hc⟩
    · rw [h0] at hn; simp at hn; omega
    · exact ⟨g, off, cap, hg, by rw [hv, hn], fun j hj => hc j (by omega)⟩
  obtain ⟨k, hk⟩ : ∃ k : Nat, t % (n : Int) = k := ⟨(t % (n : Int)).toNat, by have := Int.emod_nonneg t (show (n : Int) ≠ 0 by omega); omega⟩
  have hkn : k < n := by have := Int.emod_lt_of_pos t (show (0 : Int) < n by omega); omega
  obtain ⟨r, hr⟩ : ∃ r, l.getD k 0 = r := ⟨_, rfl⟩
  have c5 := fun w => awake3_c w
  have cS := fun w => splitcp_c r w
  unfold SplitPost at cS
  have hck := hc k hkn
  rw [hr] at hck
  have hnz : ((n : Int) == 0) = false := by rw [beq_eq_false_iff_ne]; omega
  have hnz' : ¬ ((n : Int) = 0) := by omega
  have hz : ¬ ((20 : Int) < (n : Int)) := by omega
  have knz : (k : Int) < (n : Int) := by omega
  have hkt : t.tmod (n : Int) = (k : Int) := by rw [Int.tmod_eq_emod_of_nonneg ht]; exact hk
  have HV := Lib.hid hv
  have hnc : n ≤ cap := hcap _ _ _ hv'
  clear hcap
  have HC := Lib.hid hc
  have HN := Lib.hid hn
  have HR := Lib.hid hr
  subst hv'
  cases hs : splitI r with
  | none =>
    rw [splitR_of_none hs] at cS
    clear hv hc hn hr hl hs
    unfold LawPost
    go_enter Try.func9, Try.ntmps9
    go_wp2_with fail
    refine (c5 _).mono ?_
    rintro e w1 ⟨rfl, hb1⟩
    have c1 : w1.cell? ⟨g, off + k, none⟩ = some (.int .i32 r) := by rw [hb1.cell (p := ⟨g, off + k, none⟩) hg]; exact hck
    clear hck
    go_wp2_with fail
    refine (cS _).mono ?_
    rintro e w2 ⟨rfl, hb2⟩
    have HB := Lib.hid (below_step hb1 hb2)
    clear hb1 hb2
    go_wp2
    go_ret
    exact ⟨rfl, HB.out⟩
  | some pq =>
    rw [splitR_of_some hs] at cS
    obtain ⟨p, q⟩ := pq
    simp only at cS
    have hM := sameM (l := l) (k := k) (p := (p, q)) (by omega) (by rw [hr]; exact hs)
    simp only at hM
    obtain ⟨L1, hL1⟩ : ∃ L1, l.take k = L1 := ⟨_, rfl⟩
    obtain ⟨L3, hL3⟩ : ∃ L3, l.drop (k + 1) = L3 := ⟨_, rfl⟩
    rw [hL1, hL3] at hM
    have hl1 : L1.length = k := by rw [← hL1, List.length_take]; omega
    have hl3 : L3.length = n - (k + 1) := by rw [← hL3, List.length_drop]; omega
    have S1 : Hid (∀ w', Below w.heap.size w w' → SliceOk w' (.slice (some ⟨g, off, none⟩) k cap) L1) := Lib.hid fun w' hb => by
      refine ⟨Or.inr ⟨g, off, cap, by have := hb.size; omega, by rw [hl1], fun j hj => ?_⟩, Or.inr ⟨_, cap, by rw [hl1]⟩⟩
      rw [hb.cell (p := ⟨g, off + j, none⟩) hg, HC.out j (by omega), ← hL1, getD_take (by omega)]
    have S3 : Hid (∀ w', Below w.heap.size w w' → ∀ (ad : Addr) (cp : Nat), ad = ⟨g, off + (k + 1), none⟩ ∨ n - (k + 1) = 0 → SliceOk w' (.slice (some ad) (n - (k + 1)) cp) L3) := Lib.hid fun w' hb ad cp had => by
      refine ⟨?_, Or.inr ⟨ad, cp, by rw [hl3]⟩⟩
      rcases had with rfl | h0
      · refine Or.inr ⟨g, off + (k + 1), cp, by have := hb.size; omega, by rw [hl3], fun j hj => ?_⟩
        rw [Nat.add_assoc, hb.cell (p := ⟨g, off + (k + 1 + j), none⟩) hg, HC.out (k + 1 + j) (by omega), ← hL3, getD_drop]
      · exact Or.inl ⟨List.eq_nil_of_length_eq_zero (by omega), some ad, cp, by rw [h0]⟩
    have HM := Lib.hid hM
    have HML : Hid (((L1 ++ [p, q]) ++ L3).length ≤ 21) := Lib.hid (by simp only [List.length_append, List.length_cons, List.length_nil]; omega)
    have HL1 := Lib.hid hl1
    have HL3 := Lib.hid hl3
    clear hv hc hn hr hl hs hL1 hL3 hM hl1 hl3
    have kk : IntKind.i64.wrap ((k : Int) + 1) = ((k + 1 : Nat) : Int) := by rw [IntKind.wrap_i64]; omega
    have kk0 : (0 : Int) ≤ (k : Int) := by omega
    have kk1 : (k : Int) + 1 ≤ (n : Int) := by omega
    unfold LawPost
    go_enter Try.func9, Try.ntmps9
    go_wp2_with fail
    refine (c5 _).mono ?_
    rintro e w1 ⟨rfl, hb1⟩
    have c1 : w1.cell? ⟨g, off + k, none⟩ = some (.int .i32 r) := by rw [hb1.cell (p := ⟨g, off + k, none⟩) hg]; exact hck
    clear hck
    go_wp2_with fail
    refine (cS _).mono ?_
    rintro e w2 ⟨rfl, hb2⟩
    have hb := below_step hb1 hb2
    have hsz := hb.size
    have own0 := own_empty w.heap.size w2 hsz
    have hb0 := hb.alloc hsz (.cells #[] 21)
    have HS1 := Lib.hid (S1.out _ hb0)
    clear hb1 hb2 c1
    go_wp2_with (at_builtin; refine append_ok rfl _ _ rfl w.heap.size _ [] rfl own0 _ L1 rfl HS1.out ?c1 ?c2 ?_)
    case c1 => have := HL1.out; rw [List.length_nil]; omega
    case c2 => have := hb0.size; omega
    intro v3 w3 own3 hb3
    have hb3' := hb0.trans hb3
    try rw [List.nil_append] at own3
    have hs3 := hb3'.size
    have own3' : OwnI w.heap.size (w3.alloc (.cells #[.int .i32 p, .int .i32 q] 21)) v3 L1 := World.ownsRow.alloc own3 _
    have hb4 := hb3'.alloc hs3 (.cells #[.int .i32 p, .int .i32 q] 21)
    have HS2 : Hid (SliceOk (w3.alloc (.cells #[.int .i32 p, .int .i32 q] 21)) (.slice (some ⟨w3.heap.size, 0, none⟩) 2 2) [p, q]) := Lib.hid (by
      refine ⟨Or.inr ⟨w3.heap.size, 0, 2, by simp, rfl, fun j hj => ?_⟩, Or.inr ⟨_, 2, rfl⟩⟩
      match j, hj with
      | 0, _ => exact cell_new _ _ _ _
      | 1, _ => exact cell_new _ _ _ _)
    clear own0 hb0 HS1 hb3 own3 hb3'
    go_wp2_with (at_builtin; refine append_ok rfl _ _ rfl w.heap.size _ L1 rfl own3' _ [p, q] rfl HS2.out ?c1 ?c2 ?_)
    case c1 => have := HL1.out; simp; omega
    case c2 => have := hb4.size; omega
    intro v5 w5 own5 hb5
    have hb5' := hb4.trans hb5
    have HS3 := Lib.hid (S3.out _ hb5')
    have HL5 : Hid ((L1 ++ [p, q]).length = k + 2) := Lib.hid (by rw [List.length_append, HL1.out]; rfl)
    clear own3' hb4 HS2 hb5
    have hc1 : (L1 ++ [p, q]).length + L3.length ≤ 100000 := by rw [HL5.out, HL3.out]; omega
    have hc2 : w.heap.size ≤ w5.heap.size := hb5'.size
    have HB5 := Lib.hid hb5'
    rcases (show cap = k + 1 ∨ k + 1 < cap by omega) with hcq | hcq
    have hcq' : cap ≤ k + 1 := by omega
    rotate_left
    have hcq' : ¬ (cap ≤ k + 1) := by omega
    have hcq2 : ¬ (cap = k + 1) := by omega
    all_goals
      go_wp2_with (at_builtin; refine append_ok rfl _ _ rfl w.heap.size _ (L1 ++ [p, q]) rfl own5 _ L3 rfl (HS3.out _ _ (by first | exact Or.inl rfl | exact Or.inr (by omega))) hc1 hc2 ?_)
      try rw [hcq] at HV
      intro v6 w6 own6 hb6
      have own6' : OwnI w.heap.size w6 v6 ((L1 ++ [p, q]) ++ L3) := by simpa using own6
      have hbb6 := HB5.out.trans hb6
      have SM := Lib.hid (SliceIs.own own6')
      clear own6 own6' hb6 hc1 hc2 hcq' hb5' own5 HS3 HB5
      generalize (L1 ++ [p, q]) ++ L3 = M at SM HM HML
      have c11 := apart_c l _ w6 (HV.out.kept hbb6) (by rw [HN.out]; omega) (by have := marks_full l; rw [HN.out] at this; omega)
      unfold ApartPost at c11
      go_wp2_with fail
      refine c11.mono ?_
      rintro e w7 ⟨va, rfl, s7, _, hb7⟩
      have SM7 := SM.out.kept hb7
      have hmM : marksN (fullL M) ≤ 40 := by have := marks_full M; have := HML.out; omega
      have hlM : M.length ≤ 1000 := by have := HML.out; omega
      have c12 := apart_c M _ w7 SM7 hlM hmM
      unfold ApartPost at c12
      rw [HM.out] at c12
      have hbb7 := below_step hbb6 hb7
      clear c11 hb7 hbb6 SM
      go_wp2_with fail
      refine c12.mono ?_
      rintro e w8 ⟨vb, rfl, s8, _, hb8⟩
      have c13 := same_c (s7.kept hb8) s8 (by have := apart_length l; rw [HN.out] at this; omega)
      rw [decide_eq_true rfl] at c13
      have SM8 := SM7.kept hb8
      have hbb8 := below_step hbb7 hb8
      clear c12 hb8 hbb7 SM7 s7 s8
      go_wp2_with fail
      refine c13.mono ?_
      rintro e w9 ⟨rfl, hb9⟩
      have SM9 := SM8.kept hb9
      have hbb9 := below_step hbb8 hb9
      have c14 := apart_c l _ w9 (HV.out.kept hbb9) (by rw [HN.out]; omega) (by have := marks_full l; rw [HN.out] at this; omega)
      unfold ApartPost at c14
      clear c13 hb9 hbb8 SM8
      go_wp2_with fail
      refine c14.mono ?_
      rintro e wa ⟨va, rfl, sa, _, hba⟩
      have SMa := SM9.kept hba
      have hbba := below_step hbb9 hba
      have c15 := together_c _ _ wa sa (by have := apart_length l; rw [HN.out] at this; omega)
      unfold TogPost at c15
      clear c14 hba hbb9 SM9 sa
      go_wp2_with fail
      refine c15.mono ?_
      rintro e wb ⟨vt, rfl, sb, hbb⟩
      have SMb := SMa.kept hbb
      have hbbb := below_step hbba hbb
      have c16 := apart_c M _ wb SMb hlM hmM
      unfold ApartPost at c16
      rw [HM.out] at c16
      clear c15 hbb hbba SMa
      go_wp2_with fail
      refine c16.mono ?_
      rintro e wc ⟨vc, rfl, sc, _, hbc⟩
      have sb' := sb.kept hbc
      have hbbc := below_step hbbb hbc
      have c17 := together_c _ _ wc sc (by have := apart_length l; rw [HN.out] at this; omega)
      unfold TogPost at c17
      clear c16 hbc hbbb sc sb SMb
      go_wp2_with fail
      refine c17.mono ?_
      rintro e wd ⟨vd, rfl, sd, hbd⟩
      have c18 := same_c (sb'.kept hbd) sd (by have := togI_length3 l; rw [HN.out] at this; omega)
      rw [decide_eq_true rfl] at c18
      have hbbd := below_step hbbc hbd
      clear c17 hbd hbbc sb' sd
      go_wp2_with fail
      refine c18.mono ?_
      rintro e wf ⟨rfl, hbf⟩
      have HB := Lib.hid (below_step hbbd hbf)
      clear c18 hbf hbbd
      go_wp2
      go_ret
      exact ⟨rfl, HB.out⟩
end Go.Proofs.Ytjakelphkehonaa
