/-
  Prepared for stage 10: the reference's Same, and Few; two entries compared.
-/
import Derived.Test.YthaghhleidopeaaR10Do
import Derived.Laws.StructEq
namespace Go.Proofs.Ythaghhleidopeaa
open Go.RowKit Go.Sort
set_option linter.unusedVariables false

theorem ent_eql (x y : Ent) (w : World) : (Op.equalIn 10000 40 (entV x) (entV y)).run Try.prog w = .ok (decide (x = y)) w := by
  have hS : Try.prog.underlying 40 = some (.struct (Try.prog.fieldsOf 40)) := by kernel_rfl
  have hp : Try.prog.stoodInHeld 40 = false := by kernel_rfl
  obtain ⟨n1, a1, b1, c1, d1⟩ := x
  obtain ⟨n2, a2, b2, c2, d2⟩ := y
  unfold entV
  rw [show (10000 : Nat) = 9999 + 1 from rfl, run_equalIn_agg w 9999 40 _ _ hS hp]
  simp only [Program.fieldsOf, Try.underlying40]
  go_simp
  have hn : (n1.toList == n2.toList) = decide (n1 = n2) := by
    by_cases h : n1 = n2
    · subst h; simp
    · rw [text_ne h, decide_eq_false h]
  have hl : n1.toList = n2.toList ↔ n1 = n2 := ⟨fun h => by
    rw [ByteArray.toList_eq, ByteArray.toList_eq] at h
    exact ByteArray.ext (Array.toList_inj.1 h), fun h => by rw [h]⟩
  (try simp only [Ent.mk.injEq])
  (try rw [hn])
  by_cases h1 : n1 = n2 <;> by_cases h2 : a1 = a2 <;> by_cases h3 : b1 = b2 <;> by_cases h4 : c1 = c2 <;> by_cases h5 : d1 = d2 <;> simp [hl, h1, h2, h3, h4, h5]
theorem ent_neq (x y : Ent) (w : World) : (binOp .neq 40 (entV x) (entV y)).run Try.prog w = .ok (.bool (!decide (x = y))) w := by
  have h := ent_eql x y w
  unfold entV at h ⊢
  rw [run_neq_struct, h]
  rfl
theorem ent_eq (x y : Ent) (w : World) : (binOp .eql 40 (entV x) (entV y)).run Try.prog w = .ok (.bool (decide (x = y))) w := by
  have h := ent_eql x y w
  unfold entV at h ⊢
  rw [run_eql_struct, h]
  rfl
theorem ent_guard (op : BinOp) (a b : Operand) (x y : Ent) (w : World) : (eqGuard op 40 a b (entV x) (entV y)).run Try.prog w = .ok () w := by
  unfold entV
  exact run_eqGuard_agg w op 40 a b _ _ (by kernel_rfl)
theorem drop_same {α : Type} [DecidableEq α] {l l' : List α} {i : Nat} {x y : α} (h1 : l[i]? = some x) (h2 : l'[i]? = some y) : decide (l.drop i = l'.drop i) = (decide (x = y) && decide (l.drop (i + 1) = l'.drop (i + 1))) := by
  rw [drop_eq_cons h1, drop_eq_cons h2]
  by_cases h : x = y <;> simp [h]
set_option maxHeartbeats 4000000 in
theorem same10_c (v1 v2 : Value) (l1 l2 : List Ent) (w : World) (h1 : EntsIs w v1 l1) (h2 : EntsIs w v2 l2) (hl1 : l1.length ≤ 100000) (hl2 : l2.length ≤ 100000) :
    Calls Try.prog 15 #[v1, v2] w fun e w' => e = .returned (.bool (decide (l1 = l2))) ∧ ∃ q, w' = w.drewN q := by
  obtain ⟨a1, cap1, rfl⟩ := h1.len
  obtain ⟨a2, cap2, rfl⟩ := h2.len
  have H1 := Lib.hid h1
  have H2 := Lib.hid h2
  obtain ⟨R, hR⟩ : ∃ R, decide (l1 = l2) = R := ⟨_, rfl⟩
  rw [hR]
  obtain ⟨n1, hn1⟩ : ∃ n, l1.length = n := ⟨_, rfl⟩
  obtain ⟨n2, hn2⟩ : ∃ n, l2.length = n := ⟨_, rfl⟩
  have HN1 := Lib.hid hn1
  have HN2 := Lib.hid hn2
  rw [hn1] at hl1 ⊢
  rw [hn2] at hl2 ⊢
  have HRR := Lib.hid hR
  clear h1 h2 hR hn1 hn2
  by_cases hne : n1 = n2
  · subst hne
    go_enter Try.func15, Try.ntmps15
    go_wp2
    go_loopw [5] (fun iv wr => ∃ i : Nat, i ≤ n1 ∧ iv = .int .i64 i ∧ decide (l1.drop i = l2.drop i) = R ∧ ∃ q, wr = w.drewN q) (fun iv _ => n1 - (intOf iv).toNat)
    case atStart => exact ⟨0, by omega, rfl, HRR.out, 0, rfl⟩
    case round =>
      obtain ⟨i, hi, rfl, hgo, q, hq⟩ := hrel
      have HGO := Lib.hid hgo
      have HQ := Lib.hid hq
      clear hgo hq
      by_cases hin : i < n1
      · have hiz : (i : Int) < (n1 : Int) := by omega
        obtain ⟨x, hx⟩ : ∃ x, l1[i]? = some x := ⟨_, List.getElem?_eq_getElem (by rw [HN1.out]; omega)⟩
        obtain ⟨y, hy⟩ : ∃ y, l2[i]? = some y := ⟨_, List.getElem?_eq_getElem (by rw [HN2.out]; omega)⟩
        have hb : Below w.heap.size w wr := by rw [HQ.out]; exact below_drewN1 (Below.refl _ _) q
        obtain ⟨g1, o1, rfl, hg1, r1⟩ := (LstIs.kept H1.out hb).at hx
        obtain ⟨g2, o2, rfl, hg2, r2⟩ := (LstIs.kept H2.out hb).at hy
        obtain ⟨d0, d1, d2, d3, d4⟩ := ent_at r1
        obtain ⟨e0, e1, e2, e3, e4⟩ := ent_at r2
        have HD := Lib.hid (drop_same hx hy)
        have hcmp := ent_neq x y
        have hgd := fun op a b => ent_guard op a b x y
        clear hx hy r1 r2 hg1 hg2 hb
        obtain ⟨xn, xa, xb, xc, xd⟩ := x
        obtain ⟨yn, ya, yb, yc, yd⟩ := y
        simp only at d0 d1 d2 d3 d4 e0 e1 e2 e3 e4
        unfold entV at hcmp hgd
        by_cases hxy : (⟨xn, xa, xb, xc, xd⟩ : Ent) = ⟨yn, ya, yb, yc, yd⟩
        · rw [decide_eq_true hxy] at hcmp
          have HG : Hid (decide (l1.drop (i + 1) = l2.drop (i + 1)) = R) := Lib.hid (by rw [← HGO.out, HD.out, decide_eq_true hxy, Bool.true_and])
          clear hxy HD
          go_wp2
          go_quiet (fail)
          go_wp2
          go_roundw
          case rel => exact ⟨i + 1, by omega, by first | rfl | go_num, HG.out, _, by rw [HQ.out, World.drewN_drewN]⟩
          case measure => simp [intOf]; omega
        · rw [decide_eq_false hxy] at hcmp
          have HG : Hid (R = false) := Lib.hid (by rw [← HGO.out, HD.out, decide_eq_false hxy, Bool.false_and])
          clear hxy HD
          go_wp2
          go_quiet (fail)
          go_wp2
          go_ret
          exact ⟨by rw [HG.out]; rfl, _, by rw [HQ.out, World.drewN_drewN]⟩
      · have hge : ¬ ((i : Int) < (n1 : Int)) := by omega
        have HG : Hid (R = true) := Lib.hid (by
          rw [← HGO.out, List.drop_of_length_le (by rw [HN1.out]; omega), List.drop_of_length_le (by rw [HN2.out]; omega)]
          rfl)
        go_wp2
        go_ret
        exact ⟨by rw [HG.out]; rfl, q, HQ.out⟩
  · have hz : ((n1 : Int) == (n2 : Int)) = false := by rw [beq_eq_false_iff_ne]; omega
    have HG : Hid (R = false) := Lib.hid (by
      rw [← HRR.out]
      exact decide_eq_false (fun e => hne (by rw [← HN1.out, ← HN2.out, e])))
    go_enter Try.func15, Try.ntmps15
    go_wp2
    go_ret
    exact ⟨by rw [HG.out]; rfl, 0, rfl⟩
end Go.Proofs.Ythaghhleidopeaa
