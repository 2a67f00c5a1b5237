/-
  The reference's Few, and Op.
-/
import Derived.Test.YtddobjhahohhhaaDeDo
namespace Go.Proofs.Ytddobjhahohhhaa
open Go.RowKit Go.Sort
set_option linter.unusedVariables false
set_option linter.unusedSimpArgs false

abbrev DeTs := @LstIs De deC 7
theorem de_at {w : World} {g p : Nat} {x : De} (h : w.rangeAt g p (deC x)) : w.cell? ⟨g, p, none⟩ = some (.int .i64 x.k) ∧ w.cell? ⟨g, p + 1, none⟩ = some (.int .i64 x.d) ∧ w.cell? ⟨g, p + 2, none⟩ = some (.int .i64 x.dt) ∧ w.cell? ⟨g, p + 3, none⟩ = some (.string x.s) ∧ w.cell? ⟨g, p + 4, none⟩ = some (.string x.ns) ∧ w.cell? ⟨g, p + 5, none⟩ = some (.bool x.isD) ∧ w.cell? ⟨g, p + 6, none⟩ = some (.int .i64 x.sh) :=
  ⟨h 0 _ rfl, h 1 _ rfl, h 2 _ rfl, h 3 _ rfl, h 4 _ rfl, h 5 _ rfl, h 6 _ rfl⟩
def shortDe (x : De) : Bool := decide (x.s.size ≤ 300) && decide (x.ns.size ≤ 300)
def fewDI (l : List De) (n : Nat) : Bool := (l.take 500).all shortDe && decide (l.length ≤ n)
theorem fewDI_spec {l : List De} {n : Nat} (h : fewDI l n = true) (hn : n ≤ 500) : l.length ≤ n ∧ ∀ x ∈ l, x.s.size ≤ 300 ∧ x.ns.size ≤ 300 := by
  unfold fewDI at h
  rw [Bool.and_eq_true, decide_eq_true_eq] at h
  refine ⟨h.2, fun x hx => ?_⟩
  rw [List.take_of_length_le (by omega)] at h
  have := List.all_eq_true.1 h.1 x hx
  unfold shortDe at this
  simpa using this
theorem take500D {l : List De} {i : Nat} {x : De} (hx : l[i]? = some x) (hi : i < 500) : (l.drop i).take (500 - i) = x :: (l.drop (i + 1)).take (500 - (i + 1)) := by
  rw [drop_eq_cons hx, show 500 - i = (500 - (i + 1)) + 1 by omega, List.take_succ_cons]
set_option maxHeartbeats 3000000 in
theorem few11_c (v : Value) (l : List De) (n : Nat) (w : World) (hv : DeTs w v l) (hl : l.length ≤ 9223372036854775807) (hn : n ≤ 1000) (hs : ∀ x ∈ l, x.s.size ≤ 9223372036854775807 ∧ x.ns.size ≤ 9223372036854775807) :
    Calls Try.prog 13 #[v, .int .i64 (n : Int)] w fun e w' => e = .returned (.bool (fewDI l n)) ∧ w' = w := by
  obtain ⟨a, cap, rfl⟩ := hv.len
  obtain ⟨R, hR⟩ : ∃ R, fewDI l n = R := ⟨_, rfl⟩
  rw [hR]
  have HRR := Lib.hid hR
  have HV := Lib.hid hv
  obtain ⟨m, hm⟩ : ∃ m, l.length = m := ⟨_, rfl⟩
  have HM := Lib.hid hm
  rw [hm] at hl ⊢
  have HS := Lib.hid hs
  clear hv hm hR hs
  go_enter Try.func13, Try.ntmps13
  go_wp2
  go_loop [5] (fun iv => ∃ i : Nat, i ≤ m ∧ i ≤ 500 ∧ iv = .int .i64 i ∧ (((l.drop i).take (500 - i)).all shortDe && decide (l.length ≤ n)) = R) (fun iv => 501 - (intOf iv).toNat)
  case atStart => exact ⟨0, by omega, by omega, rfl, HRR.out⟩
  case round =>
    obtain ⟨i, hi, hi5, rfl, hgo⟩ := hrel
    have HGO := Lib.hid hgo
    clear hgo
    by_cases him : i < m ∧ i < 500
    · obtain ⟨h1, h2⟩ := him
      have h1z : (i : Int) < (m : Int) := by omega
      have h2z : (i : Int) < 500 := by omega
      obtain ⟨x, hx⟩ : ∃ x, l[i]? = some x := ⟨_, List.getElem?_eq_getElem (by rw [HM.out]; omega)⟩
      obtain ⟨g, off, rfl, hg, hr⟩ := HV.out.at hx
      obtain ⟨d0, d1, d2, d3, d4, d5, d6⟩ := de_at hr
      have hsx := HS.out x (List.mem_of_getElem? hx)
      have HG : Hid ((shortDe x && (((l.drop (i + 1)).take (500 - (i + 1))).all shortDe && decide (l.length ≤ n))) = R) := Lib.hid (by rw [← HGO.out, take500D hx h2, List.all_cons, Bool.and_assoc])
      obtain ⟨hs1, hs2⟩ := hsx
      clear hx hr hg
      obtain ⟨k, d, dt, s, ns, isD, sh⟩ := x
      simp only at d0 d1 d2 d3 d4 d5 d6 hs1 hs2
      by_cases hb : 300 < s.size ∨ 300 < ns.size
      · have HF : Hid (R = false) := Lib.hid (by
          rw [← HG.out, Bool.and_eq_false_iff]
          left
          unfold shortDe
          simp only [Bool.and_eq_false_iff, decide_eq_false_iff_not]
          omega)
        by_cases hb1 : 300 < s.size
        · have e1 : (300 : Int) < (s.size : Int) := by omega
          have e2 := decide_eq_true e1
          clear hb
          go_wp2
          go_ret
          exact ⟨by rw [HF.out]; rfl, rfl⟩
        · have e1 : ¬ (300 : Int) < (s.size : Int) := by omega
          have e2 := decide_eq_false e1
          have e3 : (300 : Int) < (ns.size : Int) := by omega
          have e4 := decide_eq_true e3
          clear hb
          go_wp2
          go_ret
          exact ⟨by rw [HF.out]; rfl, rfl⟩
      · have HF : Hid ((((l.drop (i + 1)).take (500 - (i + 1))).all shortDe && decide (l.length ≤ n)) = R) := Lib.hid (by
          have h9 := HG.out
          rw [show shortDe ⟨k, d, dt, s, ns, isD, sh⟩ = true by unfold shortDe; simp; omega, Bool.true_and] at h9
          exact h9)
        have e1 : ¬ (300 : Int) < (s.size : Int) := by omega
        have e2 := decide_eq_false e1
        have e3 : ¬ (300 : Int) < (ns.size : Int) := by omega
        have e4 := decide_eq_false e3
        clear hb
        go_wp2
        go_round
        case rel => exact ⟨i + 1, by omega, by omega, by first | rfl | go_num, HF.out⟩
        case measure => simp [intOf]; omega
    · have HF : Hid (R = decide (m ≤ n)) := Lib.hid (by
        rw [← HGO.out]
        have : (l.drop i).take (500 - i) = [] := by
          by_cases h5 : i = 500
          · subst h5; rfl
          · rw [List.drop_of_length_le (by rw [HM.out]; omega), List.take_nil]
        rw [this, HM.out]
        rfl)
      have hlast : decide ((m : Int) ≤ (n : Int)) = decide (m ≤ n) := by
        congr 1
        exact propext (by omega)
      by_cases hmi : i < m
      · have h1z : (i : Int) < (m : Int) := by omega
        have h2z : ¬ (i : Int) < 500 := by omega
        have e1 := decide_eq_true h1z
        have e2 := decide_eq_false h2z
        clear him
        go_wp2
        go_ret
        exact ⟨by rw [HF.out, ← hlast]; simp, rfl⟩
      · have h1z : ¬ (i : Int) < (m : Int) := by omega
        have e1 := decide_eq_false h1z
        clear him
        go_wp2
        go_ret
        exact ⟨by rw [HF.out, ← hlast]; simp, rfl⟩
set_option maxHeartbeats 4000000 in
set_option maxRecDepth 100000 in
theorem refOp_c (x : De) (w : World) (h : x.k = 1 ∨ x.k = 2 ∨ x.k = 3) : Calls Try.prog 18 #[deV x] w fun e w' => e = .returned (opV (opOf x)) ∧ Below w.heap.size w w' := by
  obtain ⟨k, d, dt, s, ns, isD, sh⟩ := x
  unfold deV opV opOf
  simp only at h ⊢
  rcases h with rfl | rfl | rfl
  · rw [show ((1 : Int) - 1) = 0 by decide]
    go_enter Try.func18, Try.ntmps18
    go_wp2
    refine bodyPost_ret (results_cell_row Try.results18 _ _ _ _ _ _ _ rfl (alloc_two _ _ _) Try.underlying47 rfl (by kernel_rfl)) rfl ⟨rfl, belowTwoD _ _ _⟩
  · rw [show ((2 : Int) - 1) = 1 by decide]
    go_enter Try.func18, Try.ntmps18
    go_wp2
    refine bodyPost_ret (results_cell_row Try.results18 _ _ _ _ _ _ _ rfl (alloc_two _ _ _) Try.underlying47 rfl (by kernel_rfl)) rfl ⟨rfl, belowTwoD _ _ _⟩
  · rw [show ((3 : Int) - 1) = 2 by decide]
    go_enter Try.func18, Try.ntmps18
    go_wp2
    refine bodyPost_ret (results_cell_row Try.results18 _ _ _ _ _ _ _ rfl (alloc_two _ _ _) Try.underlying47 rfl (by kernel_rfl)) rfl ⟨rfl, belowTwoD _ _ _⟩
end Go.Proofs.Ytddobjhahohhhaa
