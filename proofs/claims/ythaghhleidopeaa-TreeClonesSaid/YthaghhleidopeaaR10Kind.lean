/-
  Prepared for stage 10: the reference's kind and above.
-/
import Derived.Test.YthaghhleidopeaaR10Kit
namespace Go.Proofs.Ythaghhleidopeaa
open Go.RowKit Go.Sort
set_option linter.unusedVariables false

/-- A tree that came by value lies in a block of its own. -/
def TreeAt (W : World) (b : Nat) (v : Value) (nx : Int) : Prop := W.heap[b]? = some (.cells #[v, .int .i64 nx] 48 (0, 0))
theorem TreeAt.l {W : World} {b : Nat} {v : Value} {nx : Int} (h : TreeAt W b v nx) : W.cell? ⟨b, 0, none⟩ = some v ∧ W.cell? ⟨b, 1, none⟩ = some (.int .i64 nx) := ⟨by rw [cell_of_row _ _ _ _ _ _ h]; rfl, by rw [cell_of_row _ _ _ _ _ _ h]; rfl⟩
theorem TreeAt.below {W W' : World} {b : Nat} {v : Value} {nx : Int} (h : TreeAt W b v nx) (hb : Below W.heap.size W W') : TreeAt W' b v nx := by
  unfold TreeAt
  rw [hb.block _ (lt_of_get h)]
  exact h
set_option maxHeartbeats 2000000 in
theorem kind10_c (v : Value) (l : List Itm) (nx n : Int) (w : World) (hv : ItmsIs w v l) (hl : l.length ≤ 1000) :
    Calls Try.prog 44 #[treeV v nx, .int .i64 n] w fun e w' => e = .returned (.int .i64 (kindI l n)) ∧ Below w.heap.size w w' := by
  obtain ⟨a, cap, rfl⟩ := hv.len
  obtain ⟨m, hm⟩ : ∃ m, l.length = m := ⟨_, rfl⟩
  rw [hm] at hl hv ⊢
  have HT : Hid (TreeAt (w.alloc (.cells #[.slice a m cap, .int .i64 nx] 48)) w.heap.size (.slice a m cap) nx) := Lib.hid (heap_alloc_new _ _)
  have HB : Hid (Below w.heap.size w (w.alloc (.cells #[.slice a m cap, .int .i64 nx] 48))) := Lib.hid ((Below.refl _ _).alloc (Nat.le_refl _) _)
  have HV := Lib.hid (LstIs.kept hv HB.out)
  have HM := Lib.hid hm
  clear hv hm
  unfold treeV
  go_enter Try.func44, Try.ntmps44
  by_cases hn0 : n = 0
  · subst hn0
    go_wp2
    go_ret
    exact ⟨rfl, HB.out⟩
  · have HK : Hid (kindI l n = kindGo l n) := Lib.hid (by unfold kindI; rw [if_neg hn0])
    have e0 : (n == 0) = false := by rw [beq_eq_false_iff_ne]; exact hn0
    go_wp2
    generalize w.alloc (.cells #[.slice a m cap, .int .i64 nx] 48) = W0 at *
    obtain ⟨hc0, hc1⟩ := HT.out.l
    go_loopw [5] (fun iv wr => ∃ i : Nat, i ≤ m ∧ iv = .int .i64 i ∧ kindGo (l.drop i) n = kindGo l n ∧ wr = W0) (fun iv _ => m - (intOf iv).toNat)
    case atStart => exact ⟨0, by omega, rfl, rfl, rfl⟩
    case round =>
      obtain ⟨i, hi, rfl, hgo, rfl⟩ := hrel
      have HGO := Lib.hid hgo
      clear hgo
      by_cases him : i < m
      · have hiz : (i : Int) < (m : Int) := by omega
        obtain ⟨x, hx⟩ : ∃ x, l[i]? = some x := ⟨_, List.getElem?_eq_getElem (by rw [HM.out]; omega)⟩
        obtain ⟨g, off, rfl, hg, hr⟩ := HV.out.at hx
        obtain ⟨d0, d1, d2, d3, d4, d5⟩ := itm_at hr
        have HG : Hid (kindGo l n = if x.e.node = n then (if x.e.dir = true then 2 else 1) else kindGo (l.drop (i + 1)) n) := Lib.hid (by rw [← HGO.out, drop_eq_cons hx, kindGo_cons])
        clear hr hx hg
        generalize x.e.node = nd at *
        generalize x.e.dir = dr at *
        by_cases hnd : nd = n
        · subst hnd
          cases dr with
          | true =>
            have HE : Hid (kindI l nd = 2) := Lib.hid (by rw [HK.out, HG.out, if_pos rfl, if_pos rfl])
            go_wp2
            go_ret
            exact ⟨by rw [HE.out]; rfl, HB.out⟩
          | false =>
            have HE : Hid (kindI l nd = 1) := Lib.hid (by rw [HK.out, HG.out, if_pos rfl, if_neg (by decide)])
            go_wp2
            go_ret
            exact ⟨by rw [HE.out]; rfl, HB.out⟩
        · have HE : Hid (kindGo (l.drop (i + 1)) n = kindGo l n) := Lib.hid (by rw [HG.out, if_neg hnd])
          have e1 : (nd == n) = false := by rw [beq_eq_false_iff_ne]; exact hnd
          go_wp2
          go_roundw
          case rel => exact ⟨i + 1, by omega, by first | rfl | go_num, HE.out, by first | rfl | trivial⟩
          case measure => simp [intOf]; omega
      · have hiz : ¬ (i : Int) < (m : Int) := by omega
        have HE : Hid (kindI l n = 0) := Lib.hid (by rw [HK.out, ← HGO.out, List.drop_of_length_le (by rw [HM.out]; omega)]; rfl)
        go_wp2
        go_ret
        exact ⟨by rw [HE.out]; rfl, HB.out⟩
set_option maxHeartbeats 2000000 in
theorem above10_c (v : Value) (l : List Itm) (nx n : Int) (w : World) (hv : ItmsIs w v l) (hl : l.length ≤ 1000) :
    Calls Try.prog 67 #[treeV v nx, .int .i64 n] w fun e w' => e = .returned (.int .i64 (aboveI l n)) ∧ Below w.heap.size w w' := by
  obtain ⟨a, cap, rfl⟩ := hv.len
  obtain ⟨m, hm⟩ : ∃ m, l.length = m := ⟨_, rfl⟩
  rw [hm] at hl hv ⊢
  have HT : Hid (TreeAt (w.alloc (.cells #[.slice a m cap, .int .i64 nx] 48)) w.heap.size (.slice a m cap) nx) := Lib.hid (heap_alloc_new _ _)
  have HB : Hid (Below w.heap.size w (w.alloc (.cells #[.slice a m cap, .int .i64 nx] 48))) := Lib.hid ((Below.refl _ _).alloc (Nat.le_refl _) _)
  have HV := Lib.hid (LstIs.kept hv HB.out)
  have HM := Lib.hid hm
  clear hv hm
  unfold treeV
  go_enter Try.func67, Try.ntmps67
  go_wp2
  generalize w.alloc (.cells #[.slice a m cap, .int .i64 nx] 48) = W0 at *
  obtain ⟨hc0, hc1⟩ := HT.out.l
  go_loopw [5] (fun iv wr => ∃ i : Nat, i ≤ m ∧ iv = .int .i64 i ∧ aboveI (l.drop i) n = aboveI l n ∧ wr = W0) (fun iv _ => m - (intOf iv).toNat)
  case atStart => exact ⟨0, by omega, rfl, rfl, rfl⟩
  case round =>
    obtain ⟨i, hi, rfl, hgo, rfl⟩ := hrel
    have HGO := Lib.hid hgo
    clear hgo
    by_cases him : i < m
    · have hiz : (i : Int) < (m : Int) := by omega
      obtain ⟨x, hx⟩ : ∃ x, l[i]? = some x := ⟨_, List.getElem?_eq_getElem (by rw [HM.out]; omega)⟩
      obtain ⟨g, off, rfl, hg, hr⟩ := HV.out.at hx
      obtain ⟨d0, d1, d2, d3, d4, d5⟩ := itm_at hr
      have HG : Hid (aboveI l n = if x.e.node = n then x.inn else aboveI (l.drop (i + 1)) n) := Lib.hid (by rw [← HGO.out, drop_eq_cons hx, aboveI_cons])
      clear hr hx hg
      generalize x.e.node = nd at *
      by_cases hnd : nd = n
      · subst hnd
        have HE : Hid (aboveI l nd = x.inn) := Lib.hid (by rw [HG.out, if_pos rfl])
        go_wp2
        go_ret
        exact ⟨by rw [HE.out]; rfl, HB.out⟩
      · have HE : Hid (aboveI (l.drop (i + 1)) n = aboveI l n) := Lib.hid (by rw [HG.out, if_neg hnd])
        have e1 : (nd == n) = false := by rw [beq_eq_false_iff_ne]; exact hnd
        go_wp2
        go_roundw
        case rel => exact ⟨i + 1, by omega, by first | rfl | go_num, HE.out, by first | rfl | trivial⟩
        case measure => simp [intOf]; omega
    · have hiz : ¬ (i : Int) < (m : Int) := by omega
      have HE : Hid (aboveI l n = -1) := Lib.hid (by rw [← HGO.out, List.drop_of_length_le (by rw [HM.out]; omega)]; rfl)
      go_wp2
      go_ret
      exact ⟨by rw [HE.out]; rfl, HB.out⟩
end Go.Proofs.Ythaghhleidopeaa
