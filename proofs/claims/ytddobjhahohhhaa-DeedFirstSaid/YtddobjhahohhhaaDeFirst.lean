/-
  The law DeedFirst: no deed's bytes begin with another one's.
-/
import Derived.Test.YtddobjhahohhhaaDeLawKit
namespace Go.Proofs.Ytddobjhahohhhaa
open Go.RowKit Go.Sort
set_option linter.unusedVariables false
set_option linter.unusedSimpArgs false

structure TwoDe (w : World) (a b : De) (W : World) : Prop where
  x : W.heap[w.heap.size]? = some (.cells ⟨deC a⟩ 23 (0, 0))
  y : W.heap[w.heap.size + 1]? = some (.cells ⟨deC b⟩ 23 (0, 0))
  b : Below w.heap.size w W
theorem TwoDe.below {w W W' : World} {a b : De} (h : TwoDe w a b W) (hb : Below W.heap.size W W') : TwoDe w a b W' :=
  ⟨(hb.block _ (lt_of_get h.x)).trans h.x, (hb.block _ (lt_of_get h.y)).trans h.y, h.b.trans (hb.mono (Nat.le_of_lt (lt_of_get h.x)))⟩
theorem twoDe_new (w : World) (a b : De) : TwoDe w a b ((w.alloc (.cells ⟨deC a⟩ 23)).alloc (.cells ⟨deC b⟩ 23)) :=
  ⟨by rw [Lib.alloc_old _ _ _ (by simp)]; exact heap_alloc_new _ _, alloc_two _ _ _, belowTwoD _ _ _⟩
theorem ext_front (Y : ByteArray) (n : Nat) : (Y.extract 0 n).data.toList = Y.data.toList.take n := by
  rw [ByteArray.data_extract, Array.toList_extract, List.extract_eq_take_drop]
  simp
theorem first_ne {a b : De} (ha : May a) (hb : May b) (hab : a ≠ b) {X Y : ByteArray} (hX : X = ⟨(bytesL a).toArray⟩) (hY : Y = ⟨(bytesL b).toArray⟩) : Y.extract 0 X.size ≠ X := by
  intro e
  apply hab
  have h1 : (Y.extract 0 X.size).data.toList = X.data.toList := by rw [e]
  rw [ext_front, hX, hY] at h1
  have h2 : (bytesL b).take (bytesL a).length = bytesL a := h1
  refine bytes_first ha hb (r := (bytesL b).drop (bytesL a).length) ?_
  rw [← h2, List.length_take]
  conv => lhs; rw [← List.take_append_drop (bytesL a).length (bytesL b)]
  by_cases h3 : (bytesL a).length ≤ (bytesL b).length
  · rw [Nat.min_eq_left h3]
  · rw [Nat.min_eq_right (by omega), List.take_of_length_le (by omega), List.drop_of_length_le (by omega), List.drop_of_length_le (Nat.le_refl _)]
set_option maxHeartbeats 8000000 in
set_option maxRecDepth 100000 in
theorem deedFirst_c (a b : De) (w : World) : Calls Try.prog 3 #[deV a, deV b] w fun e w' => e = .returned (.bool true) ∧ Below w.heap.size w w' := by
  have cA := encode_c a
  have cB := encode_c b
  have cW := awake11_c
  obtain ⟨X, hX⟩ : ∃ X : ByteArray, (⟨(encA a).1.toArray⟩ : ByteArray) = X := ⟨_, rfl⟩
  obtain ⟨Y, hY⟩ : ∃ Y : ByteArray, (⟨(encA b).1.toArray⟩ : ByteArray) = Y := ⟨_, rfl⟩
  obtain ⟨e1, he1⟩ : ∃ e1, (encA a).2 = e1 := ⟨_, rfl⟩
  obtain ⟨e2, he2⟩ : ∃ e2, (encA b).2 = e2 := ⟨_, rfl⟩
  rw [hX, he1] at cA
  rw [hY, he2] at cB
  have hT := Lib.hid (twoDe_new w a b)
  have hcase : (e1 ≠ 0) ∨ (e1 = 0 ∧ e2 ≠ 0) ∨ (e1 = 0 ∧ e2 = 0 ∧ (a = b ∨ (a ≠ b ∧ Y.extract 0 X.size ≠ X))) := by
    by_cases ha : May a
    · have h1 : e1 = 0 := by rw [← he1]; unfold encA; rw [if_pos ha]
      by_cases hb : May b
      · have h2 : e2 = 0 := by rw [← he2]; unfold encA; rw [if_pos hb]
        refine Or.inr (Or.inr ⟨h1, h2, ?_⟩)
        by_cases hab : a = b
        · exact Or.inl hab
        · refine Or.inr ⟨hab, first_ne ha hb hab ?_ ?_⟩
          · rw [← hX]; unfold encA; rw [if_pos ha]
          · rw [← hY]; unfold encA; rw [if_pos hb]
      · refine Or.inr (Or.inl ⟨h1, ?_⟩)
        rw [← he2]; unfold encA; rw [if_neg hb]; decide
    · refine Or.inl ?_
      rw [← he1]; unfold encA; rw [if_neg ha]; decide
  have hEQ := de_eq a b
  have hGD := fun op p q => de_guard op p q a b
  clear hX hY he1 he2
  obtain ⟨ak, ad, adt, as', ans, aisD, ash⟩ := a
  obtain ⟨bk, bd, bdt, bs, bns, bisD, bsh⟩ := b
  unfold deV at *
  simp only at cA cB hcase hEQ hGD ⊢
  have HT : Hid (TwoDe w ⟨ak, ad, adt, as', ans, aisD, ash⟩ ⟨bk, bd, bdt, bs, bns, bisD, bsh⟩ ((w.alloc (.cells #[.int .i64 ak, .int .i64 ad, .int .i64 adt, .string as', .string ans, .bool aisD, .int .i64 ash] 23)).alloc (.cells #[.int .i64 bk, .int .i64 bd, .int .i64 bdt, .string bs, .string bns, .bool bisD, .int .i64 bsh] 23))) := hT
  clear hT
  go_enter Try.func3, Try.ntmps3
  go_upto_region 1 with fail
  generalize ((w.alloc (.cells #[.int .i64 ak, .int .i64 ad, .int .i64 adt, .string as', .string ans, .bool aisD, .int .i64 ash] 23)).alloc (.cells #[.int .i64 bk, .int .i64 bd, .int .i64 bdt, .string bs, .string bns, .bool bisD, .int .i64 bsh] 23)) = W0 at *
  generalize hbO : w.heap.size = bO at *
  have HT0 : Hid (W0.heap[bO]? = some (.cells ⟨deC ⟨ak, ad, adt, as', ans, aisD, ash⟩⟩ 23 (0, 0)) ∧ W0.heap[bO + 1]? = some (.cells ⟨deC ⟨bk, bd, bdt, bs, bns, bisD, bsh⟩⟩ 23 (0, 0))) := Lib.hid ⟨by rw [← hbO]; exact HT.out.x, by rw [← hbO]; exact HT.out.y⟩
  obtain ⟨p0, p1, p2, p3, p4, p5, p6⟩ := de_cells HT0.out.1
  go_upto_region 2 with (go_at_call 8; refine (cA _).mono ?_; rintro e w1 ⟨rfl, hb1⟩; have HT := Lib.hid (HT.out.below hb1); have HT0 := Lib.hid (And.intro ((hb1.block _ (lt_of_get HT0.out.1)).trans HT0.out.1) ((hb1.block _ (lt_of_get HT0.out.2)).trans HT0.out.2)); clear hb1)
  clear p0 p1 p2 p3 p4 p5 p6 cA
  obtain ⟨p0, p1, p2, p3, p4, p5, p6⟩ := de_cells HT0.out.2
  go_upto_region 3 with (go_at_call 8; refine (cB _).mono ?_; rintro e w2 ⟨rfl, hb1⟩; have HT := Lib.hid (HT.out.below hb1); have HT0 := Lib.hid (And.intro ((hb1.block _ (lt_of_get HT0.out.1)).trans HT0.out.1) ((hb1.block _ (lt_of_get HT0.out.2)).trans HT0.out.2)); clear hb1)
  clear p0 p1 p2 p3 p4 p5 p6 cB
  rcases hcase with h1 | ⟨rfl, h2⟩ | ⟨rfl, rfl, hab⟩
  · have h1b : (e1 == 0) = false := beq_eq_false_iff_ne.2 h1
    clear HT0
    go_wp2_with (go_at_call 9; refine (cW _).mono ?_; rintro e w3 ⟨rfl, hb1⟩; have HT := Lib.hid (HT.out.below hb1); clear hb1)
    go_ret
    exact ⟨rfl, by first | exact HT.out.b | (rw [← hbO]; exact HT.out.b)⟩
  · have h2b : (e2 == 0) = false := beq_eq_false_iff_ne.2 h2
    clear HT0
    go_wp2_with (go_at_call 9; refine (cW _).mono ?_; rintro e w3 ⟨rfl, hb1⟩; have HT := Lib.hid (HT.out.below hb1); clear hb1)
    go_ret
    exact ⟨rfl, by first | exact HT.out.b | (rw [← hbO]; exact HT.out.b)⟩
  · go_upto_region 5 with (go_at_call 9; refine (cW _).mono ?_; rintro e w3 ⟨rfl, hb1⟩; have HT := Lib.hid (HT.out.below hb1); have HT0 := Lib.hid (And.intro ((hb1.block _ (lt_of_get HT0.out.1)).trans HT0.out.1) ((hb1.block _ (lt_of_get HT0.out.2)).trans HT0.out.2)); clear hb1)
    obtain ⟨p0, p1, p2, p3, p4, p5, p6⟩ := de_cells HT0.out.1
    obtain ⟨q0, q1, q2, q3, q4, q5, q6⟩ := de_cells HT0.out.2
    rcases hab with hab | ⟨hab, hne⟩
    · simp only [decide_eq_true hab] at hEQ
      clear hab
      go_wp2
      go_ret
      exact ⟨rfl, by first | exact HT.out.b | (rw [← hbO]; exact HT.out.b)⟩
    · simp only [decide_eq_false hab] at hEQ
      have hnb : ((Y.extract 0 X.size).toList == X.toList) = false := by rw [text_eqb, decide_eq_false hne]
      have hnb2 : ¬ Y.extract 0 X.size = X := hne
      clear hab
      by_cases hs : Y.size < X.size
      · have hsz : (Y.size : Int) < (X.size : Int) := by omega
        clear hs
        go_wp2
        go_ret
        exact ⟨rfl, by first | exact HT.out.b | (rw [← hbO]; exact HT.out.b)⟩
      · have hsz : ¬ (Y.size : Int) < (X.size : Int) := by omega
        have hsz2 : (X.size : Int) ≤ (Y.size : Int) := by omega
        have hsz3 : (0 : Int) ≤ (X.size : Int) := by omega
        clear hs
        go_wp2
        go_ret
        exact ⟨rfl, by first | exact HT.out.b | (rw [← hbO]; exact HT.out.b)⟩
end Go.Proofs.Ytddobjhahohhhaa
