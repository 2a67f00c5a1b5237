/-
  Prepared for TreeMakes: the numbers that a tree uses.
-/
import Derived.Test.YtddobjhahohhhaaGreatQI
namespace Go.Proofs.YtddobjhahohhhaaGreat
open Go.RowKit Go.Sort
set_option linter.unusedVariables false

theorem nums_of {w : World} {v : Value} {l : List Int} (h : NumsL w v l) : NumsIs w v l := by
  rcases h with h | ⟨g, off, cap, hg, hv, hc⟩
  · exact Or.inl h
  · refine Or.inr ⟨g, off, cap, hg, hv, fun j hj => ?_⟩
    have h1 := hc j l[j] (List.getElem?_eq_getElem hj)
    have h2 := h1 0 (.int .i64 l[j]) rfl
    rw [List.getD_eq_getElem?_getD, List.getElem?_eq_getElem hj]
    simpa using h2
def usedK (K : Nat → Int) : Nat → List Int
  | 0 => []
  | n + 1 => usedK K n ++ (if n ≠ 0 ∧ K n ≠ 0 then [(n : Int)] else [])
theorem usedK_le (K : Nat → Int) : ∀ n, (usedK K n).length ≤ n
  | 0 => Nat.le_refl _
  | n + 1 => by
    have := usedK_le K n
    unfold usedK
    rw [List.length_append]
    split <;> simp <;> omega
theorem usedK_mem (K : Nat → Int) : ∀ (n : Nat) (x : Int), x ∈ usedK K n ↔ ∃ m : Nat, m < n ∧ m ≠ 0 ∧ K m ≠ 0 ∧ x = m
  | 0, x => by unfold usedK; simp
  | n + 1, x => by
    unfold usedK
    rw [List.mem_append, usedK_mem K n x]
    constructor
    · rintro (⟨m, h1, h2⟩ | h)
      · exact ⟨m, by omega, h2⟩
      · by_cases hc : n ≠ 0 ∧ K n ≠ 0
        · rw [if_pos hc, List.mem_singleton] at h
          exact ⟨n, by omega, hc.1, hc.2, h⟩
        · rw [if_neg hc] at h
          cases h
    · rintro ⟨m, h1, h2, h3, h4⟩
      by_cases e : m = n
      · subst e
        rw [if_pos ⟨h2, h3⟩]
        exact Or.inr (List.mem_singleton.2 h4)
      · exact Or.inl ⟨m, by omega, h2, h3, h4⟩
def UsedPost (X : List Int) (w : World) (e : Ending) (w' : World) : Prop := ∃ v, e = .returned v ∧ NumsIs w' v X ∧ Below w.heap.size w w'
section
variable {w : World} {b : Nat} {K : Nat → Int} {E : Nat → List Ent} {R : Nat → Value} {u : Nat} {v : Value} {ys : List Int} {c : Int}
set_option maxHeartbeats 8000000 in
set_option maxRecDepth 100000 in
theorem used_c (h : TM w b K E R u v ys c) (hK : ∀ n, n ≤ 200 → K n = 0 ∨ K n = 1 ∨ K n = 2) : Calls Tryz.prog 52 #[ptrV b] w (UsedPost (usedK K 201) w) := by
  unfold UsedPost
  have HT := Lib.hid h
  have HKK := Lib.hid hK
  obtain ⟨X, hX⟩ : ∃ X, usedK K 201 = X := ⟨_, rfl⟩
  rw [hX]
  have HX := Lib.hid hX
  clear h hX hK
  go_enter Tryz.func52, Tryz.ntmps52
  go_wp2
  go_loopw [3, 5] (fun ov iv wr => ∃ n : Nat, n ≤ 201 ∧ iv = .int .i64 n ∧ wr.ownsRow w.heap.size 3 1 ov (usedK K n).length ((usedK K n).flatMap numC) ∧ Below w.heap.size w wr) (fun _ iv _ => 201 - (intOf iv).toNat)
  case atStart => exact ⟨0, by omega, rfl, World.ownsRow_nil _ _ _ _, Below.refl _ _⟩
  case round =>
    obtain ⟨n, hn, rfl, hrow, hb⟩ := hrel
    have HW := Lib.hid hrow
    have HBW := Lib.hid hb
    have hdl := usedK_le K n
    have HSC : Hid (usedK K (n + 1) = usedK K n ++ (if n ≠ 0 ∧ K n ≠ 0 then [(n : Int)] else [])) := Lib.hid rfl
    have hsz := hb.size
    by_cases hn2 : n ≤ 200
    · have hnz : (n : Int) < 201 := by omega
      have hn0 : (0 : Int) ≤ (n : Int) := by omega
      have c1 := ((HT.out.below hb).kcell hn2).1
      clear hrow hb
      by_cases hz : n = 0
      · subst hz
        have HS2 : Hid (usedK K (0 + 1) = usedK K 0) := Lib.hid (by rw [HSC.out, if_neg (by omega), List.append_nil])
        clear HSC c1
        go_wp2
        go_roundw
        case rel => exact ⟨0 + 1, by omega, by first | rfl | go_num, by rw [HS2.out]; exact HW.out, HBW.out⟩
        case measure => simp [intOf] <;> omega
      · have hzb : ((n : Int) == 0) = false := by rw [beq_eq_false_iff_ne]; omega
        have hzc : ¬ (n : Int) = 0 := by omega
        have hzn : ((n : Int) != 0) = true := by rw [bne, hzb]; rfl
        have hze : ¬ n = 0 := hz
        have hzd : ¬ n = 0 := hz
        by_cases hk : K n = 0
        · rw [hk] at c1
          have HS2 : Hid (usedK K (n + 1) = usedK K n) := Lib.hid (by rw [HSC.out, if_neg (fun e => e.2 hk), List.append_nil])
          clear hk HSC
          go_wp2
          go_roundw
          case rel => exact ⟨n + 1, by omega, by first | rfl | go_num, by rw [HS2.out]; exact HW.out, HBW.out⟩
          case measure => simp [intOf]; omega
        · have HS2 : Hid (usedK K (n + 1) = usedK K n ++ [(n : Int)]) := Lib.hid (by rw [HSC.out, if_pos ⟨hz, hk⟩])
          clear HSC hzd hz
          have hk12 := (HKK.out n hn2).resolve_left hk
          clear hk
          rcases hk12 with hk | hk
          · rw [hk] at c1
            clear hk
            have HOA : Hid (World.ownsRow (wr.alloc (.cells #[.int .i64 (n : Int)] 3)) w.heap.size 3 1 u3 (usedK K n).length ((usedK K n).flatMap numC)) := Lib.hid (HW.out.alloc _)
            have HIA : Hid (NumsL (wr.alloc (.cells #[.int .i64 (n : Int)] 3)) (.slice (some ⟨wr.heap.size, 0, none⟩) 1 1) [(n : Int)]) := Lib.hid (LstIs.block (numC_len _) (heap_alloc_new _ _))
            have hsa : w.heap.size ≤ (wr.alloc (.cells #[.int .i64 (n : Int)] 3)).heap.size := by show _ ≤ (wr.heap.push _).size; simp; omega
            have HSA := Lib.hid hsa
            have HBA : Hid (Below w.heap.size w (wr.alloc (.cells #[.int .i64 (n : Int)] 3))) := Lib.hid (HBW.out.alloc hsz _)
            have hlen : (usedK K n).length + [(n : Int)].length ≤ 100000 := by simp; omega
            clear hsa
            go_wp2_with (at_builtin; refine wpList_append_lst intElem rfl _ _ rfl w.heap.size _ _ _ rfl HOA.out _ [(n : Int)] (numC_len _) (numC_one _) rfl HIA.out hlen HSA.out ?_; intro v8 w8 ho8 hg8 hr8; have HB8 := Lib.hid (HBA.out.grown hg8 HSA.out (fun j hj => (HOA.out.lt j hj).1)); have HO8 := Lib.hid ho8; clear ho8 hg8 hr8)
            go_roundw
            case rel => exact ⟨n + 1, by omega, by first | rfl | go_num, by rw [HS2.out, List.length_append, List.flatMap_append]; exact HO8.out, HB8.out⟩
            case measure => simp [intOf]; omega
          · rw [hk] at c1
            clear hk
            have HOA : Hid (World.ownsRow (wr.alloc (.cells #[.int .i64 (n : Int)] 3)) w.heap.size 3 1 u3 (usedK K n).length ((usedK K n).flatMap numC)) := Lib.hid (HW.out.alloc _)
            have HIA : Hid (NumsL (wr.alloc (.cells #[.int .i64 (n : Int)] 3)) (.slice (some ⟨wr.heap.size, 0, none⟩) 1 1) [(n : Int)]) := Lib.hid (LstIs.block (numC_len _) (heap_alloc_new _ _))
            have hsa : w.heap.size ≤ (wr.alloc (.cells #[.int .i64 (n : Int)] 3)).heap.size := by show _ ≤ (wr.heap.push _).size; simp; omega
            have HSA := Lib.hid hsa
            have HBA : Hid (Below w.heap.size w (wr.alloc (.cells #[.int .i64 (n : Int)] 3))) := Lib.hid (HBW.out.alloc hsz _)
            have hlen : (usedK K n).length + [(n : Int)].length ≤ 100000 := by simp; omega
            clear hsa
            go_wp2_with (at_builtin; refine wpList_append_lst intElem rfl _ _ rfl w.heap.size _ _ _ rfl HOA.out _ [(n : Int)] (numC_len _) (numC_one _) rfl HIA.out hlen HSA.out ?_; intro v8 w8 ho8 hg8 hr8; have HB8 := Lib.hid (HBA.out.grown hg8 HSA.out (fun j hj => (HOA.out.lt j hj).1)); have HO8 := Lib.hid ho8; clear ho8 hg8 hr8)
            go_roundw
            case rel => exact ⟨n + 1, by omega, by first | rfl | go_num, by rw [HS2.out, List.length_append, List.flatMap_append]; exact HO8.out, HB8.out⟩
            case measure => simp [intOf]; omega
    · have hnz : ¬ (n : Int) < 201 := by omega
      obtain rfl : n = 201 := by omega
      rw [HX.out] at HW
      have HE : Hid (NumsL wr u3 X) := Lib.hid (LstIs.own (numC_len _) HW.out rfl)
      clear hrow hb
      go_wp2
      go_ret
      exact ⟨_, rfl, nums_of HE.out, HBW.out⟩
end
end Go.Proofs.YtddobjhahohhhaaGreat
