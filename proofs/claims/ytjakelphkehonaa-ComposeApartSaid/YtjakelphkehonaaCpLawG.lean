/-
  ComposeApart answers true.
-/
import Derived.Test.YtjakelphkehonaaR3Tog
import Derived.Test.YtjakelphkehonaaCpLawB
namespace Go.Proofs.Ytjakelphkehonaa
open Go.RowKit Go.Sort
set_option linter.unusedVariables false

set_option maxHeartbeats 2000000 in
theorem apart_long (v : Option Addr) (n cap : Nat) (h : 40 < n) (w : World) : Calls Try.prog 7 #[.slice v n cap] w (LawPost w) := by
  have c5 := fun w => awake3_c w
  have hz : (40 : Int) < (n : Int) := by omega
  unfold LawPost
  go_enter Try.func7, Try.ntmps7
  go_wp2_with fail
  refine (c5 _).mono ?_
  rintro e w1 ⟨rfl, hb1⟩
  go_wp2_with fail
  refine (c5 _).mono ?_
  rintro e w2 ⟨rfl, hb2⟩
  have HB := Lib.hid (below_step hb1 hb2)
  clear hb1 hb2
  go_wp2
  go_ret
  exact ⟨rfl, HB.out⟩

set_option maxHeartbeats 2000000 in
theorem apart_law (v : Value) (l : List Int) (w : World) (hv : SliceOk w v l) (hf : Fits l) : Calls Try.prog 7 #[v] w (LawPost w) := by
  obtain ⟨a, cap, hva⟩ := hv.1.len
  by_cases hl : 40 < l.length
  · subst hva; exact apart_long a l.length cap hl w
  have hl40 : l.length ≤ 40 := by omega
  have c5 := fun w => awake3_c w
  have HV := Lib.hid hv
  have HF := Lib.hid hf
  have HL := Lib.hid hl40
  have HM : Hid (marksN (fullL l) ≤ 40) := Lib.hid (by have := marks_full l; omega)
  have hA3 := apart_length l
  have HA3 : Hid ((apartI l).length ≤ 1000) := Lib.hid (by omega)
  have HT3 : Hid ((togI l).length ≤ 1000) := Lib.hid (by have := togI_length l; omega)
  obtain ⟨n, hn⟩ : ∃ n, l.length = n := ⟨_, rfl⟩
  subst hva
  rw [hn] at HV ⊢
  have hz : ¬ ((40 : Int) < (n : Int)) := by omega
  have HN := Lib.hid hn
  clear hv hf hn hl hl40 hA3
  unfold LawPost
  go_enter Try.func7, Try.ntmps7
  go_wp2_with fail
  refine (c5 _).mono ?_
  rintro e w1 ⟨rfl, hb1⟩
  have hsz := hb1.size
  have own0 := own_empty w1.heap.size w1 (Nat.le_refl _)
  have hbA : Below w1.heap.size w1 (w1.alloc (.cells #[] 21)) := (Below.refl _ _).alloc (Nat.le_refl _) _
  have HSX := Lib.hid ((HV.out.kept hb1).kept hbA)
  have hlA : ([] : List Int).length + l.length ≤ 100000 := by have := HL.out; rw [List.length_nil]; omega
  have hsA := hbA.size
  go_wp2_with (at_builtin; refine append_ok rfl _ _ rfl w1.heap.size _ [] rfl own0 _ l rfl HSX.out hlA hsA ?_)
  intro v2 w2 own2 hb2
  try rw [List.nil_append] at own2
  have SW := Lib.hid (SliceIs.own own2)
  have hx2 := hb1.trans ((hbA.trans hb2).mono hsz)
  have c3 := apart_c l _ w2 (HV.out.1.kept hx2) (by have := HL.out; omega) HM.out
  unfold ApartPost at c3
  clear own0 hbA HSX hlA hsA own2 hb2 hb1 hsz c5
  go_wp2_with fail
  refine c3.mono ?_
  rintro e w3 ⟨va, rfl, sa, _, hb3⟩
  have SW3 := SW.out.kept hb3
  have hx3 := below_step hx2 hb3
  have c4 := together_c l _ w3 (HV.out.1.kept hx3) (by have := HL.out; omega)
  unfold TogPost at c4
  clear c3 hb3 hx2 SW
  go_wp2_with fail
  refine c4.mono ?_
  rintro e w4 ⟨vb, rfl, sb, hb4⟩
  have SW4 := SW3.kept hb4
  have sa4 := sa.kept hb4
  have hx4 := below_step hx3 hb4
  have c6 := refApart_c l _ w4 (HV.out.kept hx4) (by have := HL.out; omega) HF.out
  unfold ApartPost at c6
  clear c4 hb4 hx3 SW3 sa
  go_wp2_with fail
  refine c6.mono ?_
  rintro e w6 ⟨vx, rfl, sx, _, hb6⟩
  have SW6 := SW4.kept hb6
  have sa6 := sa4.kept hb6
  have sb6 := sb.kept hb6
  have hx6 := below_step hx4 hb6
  have c7 := refTog_c l _ w6 (HV.out.1.kept hx6) (by have := HL.out; omega) HF.out
  unfold TogPost at c7
  clear c6 hb6 hx4 SW4 sa4 sb
  go_wp2_with fail
  refine c7.mono ?_
  rintro e w7 ⟨vy, rfl, sy, hb7⟩
  have hx7 := below_step hx6 hb7
  have c8 := same_c (HV.out.1.kept hx7) (SW6.kept hb7) (by have := HL.out; omega)
  rw [decide_eq_true rfl] at c8
  have sa7 := sa6.kept hb7
  have sb7 := sb6.kept hb7
  have sx7 := sx.kept hb7
  clear c7 hb7 hx6 SW6 sa6 sb6 sx
  go_wp2_with fail
  refine c8.mono ?_
  rintro e w8 ⟨rfl, hb8⟩
  have hx8 := below_step hx7 hb8
  have sx8 := sx7.kept hb8
  have c9 := same_c (sa7.kept hb8) sx8 HA3.out
  rw [decide_eq_true rfl] at c9
  have sb8 := sb7.kept hb8
  have sy8 := sy.kept hb8
  clear c8 hb8 hx7 sa7 sb7 sx7 sy
  go_wp2_with fail
  refine c9.mono ?_
  rintro e w9 ⟨rfl, hb9⟩
  have hx9 := below_step hx8 hb9
  have sx9 := sx8.kept hb9
  have c10 := same_c (sb8.kept hb9) (sy8.kept hb9) HT3.out
  rw [decide_eq_true rfl] at c10
  clear c9 hb9 hx8 sb8 sy8 sx8
  go_wp2_with fail
  refine c10.mono ?_
  rintro e wa ⟨rfl, hba⟩
  have hxa := below_step hx9 hba
  have sxa := sx9.kept hba
  have c11 := stablecp_c l _ wa (HV.out.1.kept hxa) (by have := HL.out; omega) HM.out
  unfold StablePost at c11
  clear c10 hba hx9 sx9
  go_wp2_with fail
  refine c11.mono ?_
  rintro e wb ⟨rfl, hbb⟩
  have hxb := below_step hxa hbb
  have c12 := same_c (sxa.kept hbb) (HV.out.1.kept hxb) HA3.out
  have hd : decide (apartI l = l) = decide (l = apartI l) := decide_eq_decide.2 ⟨Eq.symm, Eq.symm⟩
  rw [hd] at c12
  generalize decide (l = apartI l) = D at c12 ⊢
  clear c11 hbb hxa sxa hd
  go_wp2_with fail
  refine c12.mono ?_
  rintro e wc ⟨rfl, hbc⟩
  have HB := Lib.hid (below_step hxb hbc)
  clear c12 hbc hxb
  go_wp2
  go_ret
  exact ⟨by first | rfl | simp, HB.out⟩
end Go.Proofs.Ytjakelphkehonaa
