/-
  ComposeHangul answers true.
-/
import Derived.Test.YtjakelphkehonaaCpLawB
namespace Go.Proofs.Ytjakelphkehonaa
open Go.RowKit Go.Sort
set_option linter.unusedVariables false

theorem pairI_far {a b : Int} (h : 808 < b) : pairI a b = hangI a b := pairI_hang (pairT_far h)
theorem tog_one (r : Int) : togI [r] = [r] := rfl
theorem base_one {r : Int} (h : classI r = 0) : lastBase [r] = some ([], r, []) := lastBase_at [] h (fun x hx => by cases hx)
theorem hangul_tog {p q s : Int} (hp : 0 ≤ p ∧ p ≤ 18) (hq : 0 ≤ q ∧ q ≤ 20) (hs : 0 ≤ s ∧ s ≤ 26) :
    togI [4352 + p, 4449 + q, 4520 + s] = [44032 + p * 588 + q * 28 + s + 1] := by
  have e1 : pairI (4352 + p) (4449 + q) = 44032 + p * 588 + q * 28 := by rw [pairI_far (by omega), hangI_lv (by omega)]; omega
  have e2 : pairI (44032 + p * 588 + q * 28) (4520 + s) = 44032 + p * 588 + q * 28 + s + 1 := by rw [pairI_far (by omega), hangI_lvt (by omega)]; omega
  have c1 : classI (4352 + p) = 0 := classI_far (by omega)
  have c2 : classI (44032 + p * 588 + q * 28) = 0 := classI_far (by omega)
  have s1 : togStep [4352 + p] (4449 + q) = [44032 + p * 588 + q * 28] := by
    unfold togStep
    rw [base_one c1]
    simp only
    rw [if_pos ⟨rfl, by rw [e1]; omega⟩, e1]; rfl
  have s2 : togStep [44032 + p * 588 + q * 28] (4520 + s) = [44032 + p * 588 + q * 28 + s + 1] := by
    unfold togStep
    rw [base_one c2]
    simp only
    rw [if_pos ⟨rfl, by rw [e2]; omega⟩, e2]; rfl
  show togStep (togStep (togStep [] (4352 + p)) (4449 + q)) (4520 + s) = _
  rw [show togStep [] (4352 + p) = [4352 + p] from rfl, s1, s2]
theorem hangul_whole {p q s : Int} (hp : 0 ≤ p ∧ p ≤ 18) (hq : 0 ≤ q ∧ q ≤ 20) (hs : 0 ≤ s ∧ s ≤ 26) : apartI [4352 + p, 4449 + q, 4520 + s] = [4352 + p, 4449 + q, 4520 + s] := by
  unfold apartI
  rw [fullL_id (fun x hx => by
    apply splitI_none_of
    simp at hx
    omega)]
  apply sortM_ordered
  have c2 : classI (4449 + q) = 0 := classI_far (by omega)
  have c3 : classI (4520 + s) = 0 := classI_far (by omega)
  exact ⟨wrong_no classI (by omega), wrong_no classI (by omega), trivial⟩
theorem hangul_apart {p q s : Int} (hp : 0 ≤ p ∧ p ≤ 18) (hq : 0 ≤ q ∧ q ≤ 20) (hs : 0 ≤ s ∧ s ≤ 26) : apartI [44032 + p * 588 + q * 28 + s + 1] = [4352 + p, 4449 + q, 4520 + s] := by
  have h1 := apart_tog_apart [4352 + p, 4449 + q, 4520 + s]
  rw [hangul_whole hp hq hs, hangul_tog hp hq hs] at h1
  exact h1
end Go.Proofs.Ytjakelphkehonaa
