/-
  The law BankScans: its calls.
-/
import Derived.Test.YtkmfblbkaihbdaaBkAll
import Derived.Test.YtkmfblbkaihbdaaBkLoKit
import Derived.Laws.AppendOwnNone
namespace Go.Proofs.Ytkmfblbkaihbdaa
open Go.RowKit Go.Sort
set_option linter.unusedVariables false

/-- 'append' of a whole row of texts to an own one. -/
theorem append_strs {ops : Array Oper} {rest : List Oper} {o : Oper} {a : Act} {Q : Exit → Act → World → Prop} {w : World} (hgd : o.guard = none) (s x : Operand)
    (ho : o.op = .call { callee := .builtin .append, args := #[s, x], argTypes := #[25, 25] }) (B B' n k : Nat) (v : Value) (xs : List ByteArray) (hs : a.eval s = v) (hown : w.ownsRow B 9 1 v n (xs.map Value.string))
    (vx : Value) (L : List ByteArray) (hx : a.eval x = vx) (hsrc : w.ownsRow B' 9 1 vx k (L.map Value.string)) (hk : L.length = k) (hlen : n + k ≤ 100000) (hB : B ≤ w.heap.size)
    (h : ∀ v' w', w'.ownsRow B 9 1 v' (n + k) ((xs ++ L).map Value.string) → w.grownBy w' v.ownBlock → wpList Try.prog ops Q rest (a.put o.dst v') w') : wpList Try.prog ops Q (o :: rest) a w := by
  obtain ⟨i0, hi0, hz0, hz1, hz2⟩ := info_parts Try.infoStr7
  rcases hsrc.2 with ⟨hv, h0⟩ | ⟨g, cap, cur, hv, hg, hb, hc1, hc2, hc3, hc4⟩
  · have hL : L = [] := List.eq_nil_of_length_eq_zero (by omega)
    subst h0
    subst hL
    refine wpList_append_own_none hgd s x 25 ho B 9 i0 1 Try.underlying25 hi0 v n (xs.map Value.string) hs hown (hx.trans hv) ?_
    exact h v w (by rw [List.append_nil]; exact hown) ⟨rfl, rfl, rfl, Nat.le_refl _, fun _ _ _ => rfl⟩
  · refine wpList_append_own _ hgd s x 25 ho B 9 i0 (.string ⟨#[]⟩) 1 16 Try.underlying25 hi0 hz0 hz1 hz2 rfl (by decide) v n (xs.map Value.string) hs hown ⟨g, 0, none⟩ k cap (L.map Value.string) (hx.trans hv) (by simp [hk]) ?_ ?_ (by unfold maxLen; omega) (by omega) hB ?_
    · intro j u hj
      have h1 := hsrc.cells (g := g) (by rw [hv]; rfl) j u hj
      simpa [Addr.add] using h1
    · intro u hu
      obtain ⟨y, _, rfl⟩ := List.mem_map.1 hu
      rfl
    · intro v' w' h1 h2 h3
      exact h v' w' (by rw [List.map_append]; exact h1) h2
theorem frV_framesL (s : ByteArray) : frV (cutB s.data.toList) = (framesL s).map Value.string := by
  unfold frV framesL
  rw [List.map_map]
  rfl
theorem putG {B b n p : Nat} {W : World} (h : DevG B b n p W) (k : Nat) (s : ByteArray) (hk : k < n) (hs : s.size = 64) (hp : p ≤ 900) (hB : B ≤ W.heap.size) :
    Calls Try.prog 16 #[.pointer (some ⟨b, 0, none⟩), .int .i64 k, .string s] W fun e w' => e = .returned (.int .i64 0) ∧ DevG B b n (p + 1) w' ∧ Below B W w' ∧ Off devTs W w' := by
  obtain ⟨st, hd, hg, hl, hn, hpp⟩ := h
  have ha := ask_ok (free_gone hl) (show k < st.now.length by omega)
  have h1 := put_c B b st (k : Int) s W hd hg (by omega) hB
  unfold PutPost at h1
  rw [show putI st (k : Int) s = 0 by unfold putI; rw [if_pos ha, if_pos hs], if_pos rfl, Int.toNat_natCast] at h1
  refine h1.mono ?_
  rintro e w' ⟨rfl, hd', hb, ho⟩
  exact ⟨rfl, ⟨_, hd', good_put hg ha hs, hl, by simp [putSt, hn], by simp [putSt]; omega⟩, hb, ho⟩
theorem sizeD {B b n : Nat} {W : World} {st : St} (h : Dev B W b st) (hn : st.now.length = n) :
    Calls Try.prog 19 #[.pointer (some ⟨b, 0, none⟩)] W fun e w' => e = .returned (.int .i64 n) ∧ W = w' := by
  obtain ⟨a, cap, h0⟩ := h.nowCell
  rw [hn] at h0
  exact size_c b n cap a W h0
theorem DevG.off {B b n p : Nat} {W W' : World} {ex : List TypeId} (h : DevG B b n p W) (ho : Off ex W W') (h1 : 66 ∉ ex) (h2 : 74 ∉ ex) (h3 : 76 ∉ ex) : DevG B b n p W' := by
  obtain ⟨st, hd, r⟩ := h
  exact ⟨st, hd.off ho h1 h2 h3, r⟩
/-- The states ahead of a wiping and behind it. -/
structure Wiped (n E : Nat) (R : List (List UInt8)) (st st2 : St) : Prop where
  good : Good st2
  lim : st2.lim = false
  len : st2.now.length = n
  scan : scanB ((bytesL (bankL st2 0 n)).drop 1) = R
  zero : ∀ i, E ≤ i → i < n → st2.now.getD i ⟨#[]⟩ = zero64
theorem bankL_all {st : St} {n : Nat} (hn : st.now.length = n) : bankL st 0 n = st.now := by
  unfold bankL
  rw [List.drop_zero, List.take_of_length_le (by omega)]
theorem wiped_of {st : St} {n : Nat} {R : List (List UInt8)} (hg : Good st) (hl : st.lim = false) (hn : st.now.length = n) (h1 : 1 ≤ n) (hR : scanB ((bytesL st.now).drop 1) = R) :
    1 + (layB R).length ≤ n ∧ Wiped n (1 + (layB R).length) R st (wipesSt st (1 + (layB R).length) (n - (1 + (layB R).length))) := by
  have hbl : (bytesL st.now).length = n := by unfold bytesL; rw [List.length_map, hn]
  have hle : 1 + (layB R).length ≤ n := by
    have h2 := scan_le ((bytesL st.now).drop 1)
    rw [hR, List.length_drop, hbl] at h2
    omega
  refine ⟨hle, ?_⟩
  obtain ⟨g1, g2, g3, g4, _⟩ := wipes_good (i := 1 + (layB R).length) hg hl (n - (1 + (layB R).length)) (by omega)
  rw [show 1 + (layB R).length + (n - (1 + (layB R).length)) = n by omega, List.drop_eq_nil_of_le (by omega), List.append_nil] at g3
  have hlen : (wipesSt st (1 + (layB R).length) (n - (1 + (layB R).length))).now.length = n := by
    rw [g3]
    simp
    omega
  refine ⟨g1, g2, hlen, ?_, ?_⟩
  · rw [bankL_all hlen, g3, bytesL_append, bytesL_take, bytesL_zeros]
    rw [List.drop_append, List.length_take, hbl, Nat.min_eq_left hle, show 1 - (1 + (layB R).length) = 0 by omega, List.drop_zero, List.drop_take, Nat.add_sub_cancel_left]
    conv => lhs; rw [← hR]
    rw [scan_wiped, hR]
  · intro i h2 h3
    rw [g3, List.getD_eq_getElem?_getD, List.getElem?_append_right (by rw [List.length_take]; omega), List.getElem?_replicate, if_pos (by rw [List.length_take]; omega)]
    rfl
theorem getZ {B b n E i : Nat} {W : World} {R : List (List UInt8)} {st st2 : St} (h : Dev B W b st2) (hw : Wiped n E R st st2) (h1 : E ≤ i) (h2 : i < n) :
    Calls Try.prog 21 #[.pointer (some ⟨b, 0, none⟩), .int .i64 i] W fun e w' => W = w' ∧ e = .returned (.tuple #[.string zero64, .int .i64 0]) := by
  have h3 := get_c B b st2 (i : Int) W h hw.good
  unfold GetPost at h3
  rw [ask_ok (free_gone hw.lim) (by rw [hw.len]; exact h2), if_pos rfl, Int.toNat_natCast, hw.zero i h1 h2] at h3
  exact h3
theorem zero_made (W : World) : (convert 37 9 (.slice (some ⟨W.heap.size, 0, none⟩) 64 64)).run Try.prog (W.alloc (.cells zb64 5)) = .ok (.string zero64) (W.alloc (.cells zb64 5)) := by
  have h1 := conv_u8s (W := W.alloc (.cells zb64 5)) (g := W.heap.size) (l := List.replicate 64 0) (by simp) (by rw [← zb_u8s]; exact heap_alloc_new _ _)
  rw [zero64_eq] at h1
  exact h1
end Go.Proofs.Ytkmfblbkaihbdaa
