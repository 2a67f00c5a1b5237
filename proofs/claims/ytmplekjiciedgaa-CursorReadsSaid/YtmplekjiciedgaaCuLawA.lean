/-
  What the laws of stage 16 ask of the program's Read and Valid; their awake; a tree's list.
-/
import Derived.Test.YtmplekjiciedgaaCuRef
import Derived.Test.YtmplekjiciedgaaQH
namespace Go.Proofs.Ytmplekjiciedgaa
open Go.RowKit Go.Sort
set_option linter.unusedVariables false

/-- What the program's Read keeps, of a directory's entries. -/
def ReadC : Prop := ∀ (v : Value) (l : List Ent) (c n : Int) (w : World), EntsIs w v l → RoomV v → Rises l → l.length ≤ 1000 → (∀ e ∈ l, 1 ≤ e.cookie ∧ e.cookie ≤ 1000000) → (∀ e ∈ l, e.name.size ≤ 100000) → -9223372036854775808 ≤ c ∧ c ≤ 9223372036854775807 → -9223372036854775808 ≤ n ∧ n ≤ 9223372036854775807 →
  Calls Try.prog 11 #[v, .int .i64 c, .int .i64 n] w (ReadPost (readI l c n) w)
def ValidC : Prop := ∀ (c : Int) (w : World), -9223372036854775808 ≤ c ∧ c ≤ 9223372036854775807 → Calls Try.prog 15 #[.int .i64 c] w fun e w' => e = .returned (.bool (decide (0 ≤ c))) ∧ Below w.heap.size w w'
theorem listI_cook {L : List Itm} {nx : Int} (h : GoodT L nx) (d : Int) : ∀ e ∈ listI L d, 1 ≤ e.cookie ∧ e.cookie < nx := by
  intro e he
  unfold listI at he
  split at he
  · obtain ⟨x, hx, -, rfl⟩ := mem_entsI.1 he
    exact h.cook x hx
  · cases he
theorem listI_name {L : List Itm} {nx : Int} (h : GoodT L nx) (d : Int) : ∀ e ∈ listI L d, e.name.size ≤ 100000 := by
  intro e he
  unfold listI at he
  split at he
  · obtain ⟨x, hx, -, rfl⟩ := mem_entsI.1 he
    have hf := h.form x hx
    unfold badE at hf
    split at hf
    · rename_i hg
      unfold goodB at hg
      simp only [Bool.and_eq_true, decide_eq_true_eq] at hg
      omega
    · cases hf
  · cases he
def awE (k : Int) : Ent := ⟨⟨#[]⟩, 0, false, k, 0⟩
theorem awake_read : readI [awE 2, awE 5] 2 1 = ([awE 5], 5, 0) := by
  rw [readI_ok (by decide) (by decide) (by decide)]
  rfl
set_option maxHeartbeats 4000000 in
set_option maxRecDepth 100000 in
theorem awake16_c (hR : ReadC) (hV : ValidC) (w : World) : Calls Try.prog 6 #[] w fun e w' => e = .returned (.bool true) ∧ Below w.heap.size w w' := by
  have hb0 : Below w.heap.size w (w.alloc (.cells #[.string ⟨#[]⟩, .int .i64 0, .bool false, .int .i64 2, .int .i64 0, .string ⟨#[]⟩, .int .i64 0, .bool false, .int .i64 5, .int .i64 0] 46)) := (Below.refl _ _).alloc (Nat.le_refl _) _
  have HB := Lib.hid hb0
  have he : EntsIs (w.alloc (.cells #[.string ⟨#[]⟩, .int .i64 0, .bool false, .int .i64 2, .int .i64 0, .string ⟨#[]⟩, .int .i64 0, .bool false, .int .i64 5, .int .i64 0] 46)) (.slice (some ⟨w.heap.size, 0, none⟩) 2 2) [awE 2, awE 5] := LstIs.block (entC_len _) (heap_alloc_new _ _)
  have cR := hR _ _ 2 1 _ he (Nat.le_refl 2) (by unfold Rises awE; simp) (by decide) (by intro e h; simp [awE] at h; rcases h with rfl | rfl <;> decide) (by intro e h; simp [awE] at h; rcases h with rfl | rfl <;> decide) (by decide) (by decide)
  rw [awake_read] at cR
  unfold ReadPost at cR
  have HV := Lib.hid (fun W => hV 0 W (by decide))
  clear hb0 he hR hV
  simp only at cR
  go_enter Try.func6, Try.ntmps6
  go_upto_region 2 with (go_at_call 11; refine cR.mono ?_; rintro e w1 ⟨v1, rfl, he1, hb1⟩; have HB1 := Lib.hid (HB.out.trans (hb1.mono HB.out.size)); obtain ⟨a1, c1, hv1⟩ := he1.len; subst hv1; clear he1 hb1)
  go_wp2_with (go_at_call 15; refine (HV.out _).mono ?_; rintro e w2 ⟨rfl, hb2⟩)
  go_ret
  exact ⟨by first | rfl | simp, HB1.out.trans (hb2.mono HB1.out.size)⟩
end Go.Proofs.Ytmplekjiciedgaa
