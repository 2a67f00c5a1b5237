/-
  How often an entry stands in a list, and whether: the law's own count and has.
-/
import Derived.Test.YtmplekjiciedgaaQ4
import Derived.Test.YtmplekjiciedgaaQ2
import Derived.Handy
namespace Go.Proofs.Ytmplekjiciedgaa
open Go.RowKit Go.Sort
set_option linter.unusedVariables false

theorem drop_count {l : List Ent} {i : Nat} {x : Ent} (h : l[i]? = some x) (e : Ent) : (l.drop i).count e = (l.drop (i + 1)).count e + if x = e then 1 else 0 := by
  rw [drop_eq_cons h, List.count_cons]
  simp
set_option maxHeartbeats 4000000 in
theorem count16_c (v : Value) (l : List Ent) (e : Ent) (w : World) (h : EntsIs w v l) (hl : l.length ≤ 100000) :
    Calls Try.prog 17 #[v, entV e] w fun r w' => r = .returned (.int .i64 ((l.count e : Nat) : Int)) ∧ Below w.heap.size w w' := by
  obtain ⟨a, cap, rfl⟩ := h.len
  obtain ⟨m, hm⟩ : ∃ m, l.length = m := ⟨_, rfl⟩
  obtain ⟨C, hC⟩ : ∃ C, l.count e = C := ⟨_, rfl⟩
  have hCl : C ≤ m := by rw [← hC, ← hm]; exact List.count_le_length
  have HC : Hid (l.count e = C) := Lib.hid hC
  have HM := Lib.hid hm
  rw [hm] at h hl ⊢
  rw [hC]
  obtain ⟨nm, nd, dr, ck, sh⟩ := e
  unfold entV
  simp only
  have hb0 : Below w.heap.size w (w.alloc (.cells #[.string nm, .int .i64 nd, .bool dr, .int .i64 ck, .int .i64 sh] 46)) := (Below.refl _ _).alloc (Nat.le_refl _) _
  have HB := Lib.hid hb0
  have HH := Lib.hid (LstIs.kept h hb0)
  have HQ : Hid ((w.alloc (.cells #[.string nm, .int .i64 nd, .bool dr, .int .i64 ck, .int .i64 sh] 46)).heap[w.heap.size]? = some (.cells #[.string nm, .int .i64 nd, .bool dr, .int .i64 ck, .int .i64 sh] 46 (0, 0))) := Lib.hid (heap_alloc_new _ _)
  clear h hb0 hm hC
  go_enter Try.func17, Try.ntmps17
  go_upto_region 1 with fail
  generalize w.alloc (.cells #[.string nm, .int .i64 nd, .bool dr, .int .i64 ck, .int .i64 sh] 46) = W0 at *
  obtain ⟨A, hA⟩ : ∃ A, w.heap.size = A := ⟨_, rfl⟩
  rw [hA] at HQ HB
  (try rw [hA])
  have HA := Lib.hid hA
  clear hA
  go_wp2
  go_loopw [5, 6] (fun nv iv wr => ∃ (i n : Nat), nv = .int .i64 n ∧ iv = .int .i64 i ∧ i ≤ m ∧ n + (l.drop i).count ⟨nm, nd, dr, ck, sh⟩ = C ∧ ∃ q, wr = W0.drewN q) (fun _ iv _ => m - (intOf iv).toNat)
  case atStart => exact ⟨0, 0, rfl, rfl, by omega, by rw [Nat.zero_add]; exact HC.out, 0, rfl⟩
  case round =>
    obtain ⟨i, n, rfl, rfl, hi, hgo, q, hq⟩ := hrel
    have HGO := Lib.hid hgo
    have HQQ := Lib.hid hq
    have hnC : n ≤ C := by omega
    clear hgo hq
    by_cases hin : i < m
    · have hiz : (i : Int) < (m : Int) := by omega
      obtain ⟨x, hx⟩ : ∃ x, l[i]? = some x := ⟨_, List.getElem?_eq_getElem (by rw [HM.out]; omega)⟩
      have hb : Below W0.heap.size W0 wr := by rw [HQQ.out]; exact below_drewN1 (Below.refl _ _) q
      obtain ⟨g1, o1, rfl, hg1, r1⟩ := (LstIs.kept HH.out hb).at hx
      obtain ⟨d0, d1, d2, d3, d4⟩ := ent_at r1
      obtain ⟨⟨e0, e1, e2, e3, e4⟩, -⟩ := five_cells ((hb.block _ (lt_of_get HQ.out)).trans HQ.out)
      have HD := Lib.hid (drop_count hx ⟨nm, nd, dr, ck, sh⟩)
      have hcmp := ent_eq x ⟨nm, nd, dr, ck, sh⟩
      have hgd := fun op a b => ent_guard op a b x ⟨nm, nd, dr, ck, sh⟩
      clear hx r1 hg1 hb
      obtain ⟨xn, xa, xb, xc, xd⟩ := x
      simp only at d0 d1 d2 d3 d4
      unfold entV at hcmp hgd
      by_cases hxy : (⟨xn, xa, xb, xc, xd⟩ : Ent) = ⟨nm, nd, dr, ck, sh⟩
      · rw [decide_eq_true hxy] at hcmp
        have HG : Hid (n + 1 + (l.drop (i + 1)).count ⟨nm, nd, dr, ck, sh⟩ = C) := Lib.hid (by
          have h1 := HGO.out
          have h2 := HD.out
          rw [if_pos hxy] at h2
          omega)
        clear hxy HD
        go_wp2
        go_quiet (fail)
        go_wp2
        go_roundw
        case rel => exact ⟨i + 1, n + 1, by first | rfl | go_num, by first | rfl | go_num, by omega, HG.out, _, by rw [HQQ.out, World.drewN_drewN]⟩
        case measure => simp [intOf]; omega
      · rw [decide_eq_false hxy] at hcmp
        have HG : Hid (n + (l.drop (i + 1)).count ⟨nm, nd, dr, ck, sh⟩ = C) := Lib.hid (by
          have h1 := HGO.out
          have h2 := HD.out
          rw [if_neg hxy] at h2
          omega)
        clear hxy HD
        go_wp2
        go_quiet (fail)
        go_wp2
        go_roundw
        case rel => exact ⟨i + 1, n, rfl, by first | rfl | go_num, by omega, HG.out, _, by rw [HQQ.out, World.drewN_drewN]⟩
        case measure => simp [intOf]; omega
    · have hiz : ¬ (i : Int) < (m : Int) := by omega
      have HE : Hid (n = C) := Lib.hid (by
        have h1 := HGO.out
        rw [List.drop_of_length_le (by rw [HM.out]; omega)] at h1
        exact h1)
      go_wp2
      go_ret
      exact ⟨by rw [HE.out]; rfl, by rw [HA.out, HQQ.out]; exact below_drewN1 HB.out q⟩
set_option maxHeartbeats 4000000 in
theorem has16_c (v : Value) (l : List Ent) (e : Ent) (w : World) (h : EntsIs w v l) (hl : l.length ≤ 100000) :
    Calls Try.prog 16 #[v, entV e] w fun r w' => r = .returned (.bool (decide (e ∈ l))) ∧ Below w.heap.size w w' := by
  have hb0 : Below w.heap.size w (w.alloc (.cells #[.string e.name, .int .i64 e.node, .bool e.dir, .int .i64 e.cookie, .int .i64 e.short] 46)) := (Below.refl _ _).alloc (Nat.le_refl _) _
  have HB := Lib.hid hb0
  have cC := count16_c v l e _ (LstIs.kept h hb0) hl
  have HQ : Hid ((w.alloc (.cells #[.string e.name, .int .i64 e.node, .bool e.dir, .int .i64 e.cookie, .int .i64 e.short] 46)).heap[w.heap.size]? = some (.cells #[.string e.name, .int .i64 e.node, .bool e.dir, .int .i64 e.cookie, .int .i64 e.short] 46 (0, 0))) := Lib.hid (heap_alloc_new _ _)
  obtain ⟨a, cap, rfl⟩ := h.len
  obtain ⟨C, hC⟩ : ∃ C, l.count e = C := ⟨_, rfl⟩
  have hp : decide (e ∈ l) = decide ((0 : Int) < (C : Int)) := by
    rw [Bool.eq_iff_iff, decide_eq_true_iff, decide_eq_true_iff, ← hC, ← List.count_pos_iff]
    omega
  rw [hC] at cC
  rw [hp]
  generalize l.length = m at *
  obtain ⟨nm, nd, dr, ck, sh⟩ := e
  unfold entV at cC ⊢
  simp only at *
  clear h hb0 hp hC hl
  go_enter Try.func16, Try.ntmps16
  go_upto_region 1 with fail
  generalize w.alloc (.cells #[.string nm, .int .i64 nd, .bool dr, .int .i64 ck, .int .i64 sh] 46) = W0 at *
  obtain ⟨⟨e0, e1, e2, e3, e4⟩, -⟩ := five_cells HQ.out
  go_wp2_with (go_at_call 17; refine cC.mono ?_; rintro r w1 ⟨rfl, hb1⟩; have HB1 := Lib.hid hb1; clear hb1)
  go_ret
  exact ⟨by first | rfl | simp, HB.out.trans (HB1.out.mono HB.out.size)⟩
end Go.Proofs.Ytmplekjiciedgaa
