/-
  A device (stage 6): Put at whatever arguments; Cut.
-/
import Derived.Test.YtmpfdmjbgabcdaaSePut
namespace Go.Proofs.Ytmpfdmjbgabcdaa
open Go.RowKit Go.Sort
set_option linter.unusedVariables false

theorem ask_zero {n : Nat} {lim : Bool} {left i : Int} (h : askI n lim left i = 0) : ∃ k : Nat, i = k ∧ k < n := by
  unfold askI at h
  split at h
  · cases h
  · split at h
    · cases h
    · exact ⟨i.toNat, by omega, by omega⟩
set_option maxHeartbeats 2000000 in
theorem put_c (B b : Nat) (st : St) (i : Int) (s : ByteArray) (w : World) (h : Dev B w b st) (hg : Good st) (hp : st.pend.length ≤ 1000) (hB : B ≤ w.heap.size) :
    Calls Try.prog 26 #[.pointer (some ⟨b, 0, none⟩), .int .i64 i, .string s] w (PutPost B b st i s w) := by
  unfold PutPost
  by_cases ha : askI st.now.length st.lim st.left i = 0
  · obtain ⟨k, rfl, hk⟩ := ask_zero ha
    by_cases hs : s.size = 64
    · have hq : putI st k s = 0 := by unfold putI; rw [if_pos ha, if_pos hs]
      rw [hq, if_pos rfl]
      exact put_ok B b k st s w h hg hp ha hk hs hB
    · have hq : putI st k s = 1 := by unfold putI; rw [if_pos ha, if_neg hs]
      rw [hq, if_neg (by decide)]
      have HD := Lib.hid h
      obtain ⟨gn, gs, vp, h⟩ := h
      obtain ⟨c0, c1, c2, c3, c4⟩ := h.cells
      have cA := ask_c b _ _ _ _ _ k w c0 c3 c4
      rw [ha] at cA
      have hne : ((s.size : Int) == 64) = false := by rw [beq_eq_false_iff_ne]; omega
      have hne2 : ((s.size : Int) != 64) = true := by rw [bne, hne]; rfl
      generalize st.now.length = n at *
      clear h hg hq ha
      go_enter Try.func26, Try.ntmps26
      go_wp2_with fail
      refine cA.mono ?_
      rintro e w2 ⟨rfl, rfl⟩
      go_wp2
      go_ret
      exact ⟨rfl, HD.out, Below.refl _ _, Off.refl _ _⟩
  · have hq : putI st i s = askI st.now.length st.lim st.left i := by unfold putI; rw [if_neg ha]
    rw [hq, if_neg ha]
    have HD := Lib.hid h
    obtain ⟨gn, gs, vp, h⟩ := h
    obtain ⟨c0, c1, c2, c3, c4⟩ := h.cells
    have cA := ask_c b _ _ _ _ _ i w c0 c3 c4
    have hne : (askI st.now.length st.lim st.left i == 0) = false := by simpa using ha
    generalize askI st.now.length st.lim st.left i = q at *
    generalize st.now.length = n at *
    clear h hg hq
    go_enter Try.func26, Try.ntmps26
    go_wp2_with fail
    refine cA.mono ?_
    rintro e w2 ⟨rfl, rfl⟩
    go_wp2
    go_ret
    exact ⟨rfl, HD.out, Below.refl _ _, Off.refl _ _⟩
/-- Is power gone? -/
def goneB (st : St) : Bool := st.lim && st.left == 0
def cutSt (st : St) (n : Int) : St := if goneB st = true then st else { st with lim := decide (0 ≤ n), left := n }
theorem DevAt.wpower {B : Nat} {W W' : World} {b gn gs : Nat} {vp : Value} {st : St} (h : DevAt B W b gn gs vp st) (l : Bool) (x : Int) (hb : W'.heap[b]? = some (.cells (head gn gs st.now.length vp l x) 65 (0, 0))) (hf : ∀ j, j ≠ b → W'.heap[j]? = W.heap[j]?) : DevAt B W' b gn gs vp { st with lim := l, left := x } := by
  have h1 : gn ≠ b := Ne.symm (block_ne h.hd h.nw (by decide))
  have h2 : gs ≠ b := Ne.symm (block_ne h.hd h.sf (by decide))
  refine ⟨h.hb, h.hgn, h.hgs, h.ne, hb, (hf gn h1).trans h.nw, (hf gs h2).trans h.sf, ⟨h.pd.1, ?_⟩⟩
  rcases h.pd.2 with hn | ⟨g, cap, cur, hv, hg, hh, r⟩
  · exact Or.inl hn
  · exact Or.inr ⟨g, cap, cur, hv, hg, (hf g (block_ne hh h.hd (by decide))).trans hh, r⟩
set_option maxHeartbeats 2000000 in
theorem cut_c (B b : Nat) (st : St) (n : Int) (w : World) (h : Dev B w b st) :
    Calls Try.prog 24 #[.pointer (some ⟨b, 0, none⟩), .int .i64 n] w fun e w' => e = .returned (.tuple #[]) ∧ Dev B w' b (cutSt st n) ∧ Below B w w' ∧ Off devTs w w' := by
  unfold cutSt goneB
  have HD := Lib.hid h
  obtain ⟨gn, gs, vp, h⟩ := h
  obtain ⟨c0, c1, c2, c3, c4⟩ := h.cells
  have cG := gone_c b _ _ w c3 c4
  cases hg : (st.lim && st.left == 0)
  · rw [hg] at cG
    simp only [Bool.false_eq_true, if_false]
    have f3 := h.frozen 3
    have f4 := h.frozen 4
    have HH := Lib.hid h
    have HW : Hid (∀ l : Bool, l = decide (0 ≤ n) → (Dev B ((w.setCell ⟨b, 3, none⟩ (.bool l)).setCell ⟨b, 4, none⟩ (.int .i64 n)) b { st with lim := decide (0 ≤ n), left := n } ∧ Below B w ((w.setCell ⟨b, 3, none⟩ (.bool l)).setCell ⟨b, 4, none⟩ (.int .i64 n)) ∧ Off devTs w ((w.setCell ⟨b, 3, none⟩ (.bool l)).setCell ⟨b, 4, none⟩ (.int .i64 n)))) := Lib.hid (fun l hl => by
      subst hl
      have e1 := heap_setCell_same w b 3 _ _ (.bool (decide (0 ≤ n))) HH.out.hd
      have e2 := heap_setCell_same _ b 4 _ _ (.int .i64 n) e1
      refine ⟨⟨gn, gs, vp, HH.out.wpower _ _ e2 (fun j hj => ?_)⟩, ((Below.refl B w).setCell (p := ⟨b, 3, none⟩) HH.out.hb _).setCell (p := ⟨b, 4, none⟩) HH.out.hb _, Off.setCell (Off.setCell (Off.refl _ w) HH.out.hd (by simp) _) e1 (by simp) _⟩
      rw [heap_setCell_other _ _ _ _ hj, heap_setCell_other _ _ _ _ hj])
    clear h hg
    by_cases hn : 0 ≤ n
    · have hd : decide (0 ≤ n) = true := decide_eq_true hn
      rw [hd] at HW
      go_enter Try.func24, Try.ntmps24
      go_wp2_with fail
      refine cG.mono ?_
      rintro e w2 ⟨rfl, rfl⟩
      go_wp2
      go_end0
      refine ⟨rfl, ?_⟩
      have := HW.out true rfl
      simpa [hd] using this
    · have hd : decide (0 ≤ n) = false := decide_eq_false hn
      rw [hd] at HW
      go_enter Try.func24, Try.ntmps24
      go_wp2_with fail
      refine cG.mono ?_
      rintro e w2 ⟨rfl, rfl⟩
      go_wp2
      go_end0
      refine ⟨rfl, ?_⟩
      have := HW.out false rfl
      simpa [hd] using this
  · rw [hg] at cG
    simp only [if_true]
    clear h hg
    go_enter Try.func24, Try.ntmps24
    go_wp2_with fail
    refine cG.mono ?_
    rintro e w2 ⟨rfl, rfl⟩
    go_wp2
    refine bodyPost_ret (results_none rfl _ _ _) rfl ?_
    exact ⟨rfl, HD.out, Below.refl _ _, Off.refl _ _⟩
end Go.Proofs.Ytmpfdmjbgabcdaa
