/-
  A bank (stage 7): all frames from one on are wiped.
-/
import Derived.Test.YtmpfdmjbgabcdaaBkWipe
namespace Go.Proofs.Ytmpfdmjbgabcdaa
open Go.RowKit Go.Sort
set_option linter.unusedVariables false

def wipesSt (st : St) (i : Nat) : Nat → St
  | 0 => st
  | k + 1 => wipe1 (wipesSt st i k) (i + k)
theorem wipe1_good {st : St} {i : Nat} (hg : Good st) (hl : st.lim = false) (hi : i < st.now.length) :
    Good (wipe1 st i) ∧ (wipe1 st i).lim = false ∧ (wipe1 st i).now = st.now.set i zero64 ∧ (wipe1 st i).pend.length ≤ st.pend.length + 1 ∧ (wipe1 st i).safe = st.safe := by
  unfold wipe1
  split
  · rename_i hz
    refine ⟨hg, hl, ?_, by omega, rfl⟩
    apply List.ext_getElem?
    intro j
    by_cases hj : i = j
    · subst hj
      rw [List.getElem?_set_self hi, List.getElem?_eq_getElem hi]
      rw [List.getD_eq_getElem?_getD, List.getElem?_eq_getElem hi] at hz
      exact congrArg some hz
    · rw [List.getElem?_set_ne hj]
  · have ha := ask_ok (free_gone hl) hi
    exact ⟨good_put hg ha rfl, hl, rfl, by simp [putSt], rfl⟩
theorem wipes_good {st : St} {i : Nat} (hg : Good st) (hl : st.lim = false) : ∀ k, i + k ≤ st.now.length →
    Good (wipesSt st i k) ∧ (wipesSt st i k).lim = false ∧ (wipesSt st i k).now = st.now.take i ++ List.replicate k zero64 ++ st.now.drop (i + k) ∧ (wipesSt st i k).pend.length ≤ st.pend.length + k ∧ (wipesSt st i k).safe = st.safe
  | 0, _ => ⟨hg, hl, by simp [wipesSt], by simp [wipesSt], rfl⟩
  | k + 1, hk => by
    obtain ⟨g1, g2, g3, g4, g5⟩ := wipes_good (i := i) hg hl k (by omega)
    have hlen : (wipesSt st i k).now.length = st.now.length := by
      rw [g3]
      simp
      omega
    obtain ⟨e1, e2, e3, e4, e5⟩ := wipe1_good g1 g2 (show i + k < (wipesSt st i k).now.length by omega)
    refine ⟨e1, e2, ?_, ?_, e5.trans g5⟩
    · show (wipe1 (wipesSt st i k) (i + k)).now = _
      rw [e3, g3]
      have hl1 : (st.now.take i).length = i := by rw [List.length_take]; omega
      rw [List.append_assoc, List.set_append, if_neg (by omega), hl1, show i + k - i = k by omega, List.set_append, if_neg (by simp), List.length_replicate, Nat.sub_self]
      have hgp : i + k < st.now.length := by omega
      rw [List.drop_eq_getElem_cons hgp, List.set_cons_zero, List.replicate_succ']
      simp [Nat.add_assoc]
    · show (wipe1 (wipesSt st i k) (i + k)).pend.length ≤ _
      omega
set_option maxHeartbeats 2000000 in
theorem wipe_no (B b : Nat) (st : St) (fr sz at_ q : Int) (w : World) (h : Dev B w b st) (hg : Good st) (ho : openI st fr sz = q) (hne : q ≠ 0) :
    Calls Try.prog 58 #[.pointer (some ⟨b, 0, none⟩), .int .i64 fr, .int .i64 sz, .int .i64 at_] w fun e w' => e = .returned (.int .i64 q) ∧ Below w.heap.size w w' := by
  have cO := open_no B b st fr sz q w h hg ho hne
  have hne2 : (q == 0) = false := by simpa using hne
  clear h hg ho hne
  go_enter Try.func58, Try.ntmps58
  go_wp2_with fail
  refine cO.mono ?_
  rintro e w1 ⟨rfl, hb1⟩
  have HB1 : Hid (Below w.heap.size w (w1.alloc (.cells #[.pointer none, .int .i64 0, .int .i64 0] 105))) := Lib.hid (hb1.alloc hb1.size _)
  clear hb1 cO
  go_wp2
  go_ret
  exact ⟨rfl, HB1.out⟩
set_option maxHeartbeats 8000000 in
set_option maxRecDepth 100000 in
theorem wipe_ok (B b : Nat) (st : St) (F S a : Nat) (at_ : Int) (w : World) (h : Dev B w b st) (hg : Good st) (hl : st.lim = false) (ho : openI st F S = 0) (hS : F + S ≤ st.now.length) (ha : max at_ 1 = (a : Int)) (hat : at_ ≤ 9223372036854775807) (hp : st.pend.length + S ≤ 1000) (hB : B ≤ w.heap.size) :
    Calls Try.prog 58 #[.pointer (some ⟨b, 0, none⟩), .int .i64 F, .int .i64 S, .int .i64 at_] w fun e w' => e = .returned (.int .i64 0) ∧ Dev B w' b (wipesSt st (F + a) (S - a)) ∧ Below B w w' ∧ Off devTs w w' := by
  have cO := open_ok B b st F S w h hg ho
  have hf := hg.few
  have hS4 : S ≤ 4096 := by omega
  obtain ⟨k, hk⟩ : ∃ k, S - a = k := ⟨_, rfl⟩
  rw [hk]
  have HW : Hid (∀ j W, j < k → Dev B W b (wipesSt st (F + a) j) → B ≤ W.heap.size → Calls Try.prog 68 #[.agg #[.pointer (some ⟨b, 0, none⟩), .int .i64 F, .int .i64 S], .int .i64 ((a : Int) + (j : Int))] W fun e w' => e = .returned (.int .i64 0) ∧ Dev B w' b (wipesSt st (F + a) (j + 1)) ∧ Below B W w' ∧ Off devTs W w') := Lib.hid (fun j W hj hd hBW => by
    obtain ⟨g1, g2, g3, g4, _⟩ := wipes_good (i := F + a) hg hl j (by omega)
    have hlen : (wipesSt st (F + a) j).now.length = st.now.length := by
      rw [g3]
      simp
      omega
    have h1 := bwipe_c B b (wipesSt st (F + a) j) F (a + j) S W hd g1 g2 (by omega) hBW (by omega)
    rw [show ((a + j : Nat) : Int) = (a : Int) + (j : Int) by omega, show F + (a + j) = F + a + j by omega] at h1
    exact h1)
  have HDB : Hid (∀ W, Below w.heap.size w W → Dev B W b (wipesSt st (F + a) 0)) := Lib.hid (fun W hW => h.below hW)
  have ha9 : (a : Int) ≤ 9223372036854775807 := by omega
  have ha1 : 1 ≤ a := by omega
  clear h hg hl ho hS hf hp
  go_enter Try.func58, Try.ntmps58
  go_wp2_with fail
  refine cO.mono ?_
  rintro e w1 ⟨rfl, hb1⟩
  have HB1 := Lib.hid hb1
  clear hb1 cO
  go_wp2
  obtain ⟨W0, hW0⟩ : ∃ W0, w1.alloc (.cells #[.pointer (some ⟨b, 0, none⟩), .int .i64 F, .int .i64 S] 105) = W0 := ⟨_, rfl⟩
  have HB0 : Hid (Below w.heap.size w W0) := Lib.hid (by rw [← hW0]; exact HB1.out.alloc HB1.out.size _)
  have HC0 : Hid (W0.heap[w1.heap.size]? = some (.cells #[.pointer (some ⟨b, 0, none⟩), .int .i64 F, .int .i64 S] 105 (0, 0))) := Lib.hid (by rw [← hW0]; exact heap_alloc_new _ _)
  rw [hW0]
  clear hW0
  generalize w1.heap.size = g at *
  try rw [ha]
  clear hat
  go_loopw [11] (fun iv wr => ∃ j : Nat, j ≤ k ∧ iv = .int .i64 ((a : Int) + (j : Int)) ∧ Dev B wr b (wipesSt st (F + a) j) ∧ Below B w wr ∧ Off devTs W0 wr) (fun iv _ => S - (intOf iv).toNat)
  case atStart => exact ⟨0, by omega, by first | rfl | (rw [ha]; congr 1) | (congr 1; omega), HDB.out _ HB0.out, HB0.out.mono hB, Off.refl _ _⟩
  case round =>
    obtain ⟨j, hj, rfl, hd, hb, hoff⟩ := hrel
    have HD := Lib.hid hd
    have HB := Lib.hid hb
    have HOf := Lib.hid hoff
    have hbox := hoff 105 (by decide) _ _ _ HC0.out
    have k0 : wr.cell? ⟨g, 0, none⟩ = some (.pointer (some ⟨b, 0, none⟩)) := by rw [cell_of_row _ _ _ _ _ _ hbox]; rfl
    have k1 : wr.cell? ⟨g, 1, none⟩ = some (.int .i64 F) := by rw [cell_of_row _ _ _ _ _ _ hbox]; rfl
    have k2 : wr.cell? ⟨g, 2, none⟩ = some (.int .i64 S) := by rw [cell_of_row _ _ _ _ _ _ hbox]; rfl
    clear hbox hd hb hoff
    by_cases hjk : a + j < S
    · have hjz : (a : Int) + (j : Int) < (S : Int) := by omega
      have haw : IntKind.i64.wrap ((a : Int) + (j : Int) + 1) = (a : Int) + (j : Int) + 1 := by rw [IntKind.wrap_i64]; omega
      have HBsz : Hid (B ≤ wr.heap.size) := Lib.hid (Nat.le_trans hB HB.out.size)
      go_wp2_with fail
      refine (HW.out j wr (by omega) HD.out HBsz.out).mono ?_
      rintro e w5 ⟨rfl, hd5, hb5, ho5⟩
      have HD5 := Lib.hid hd5
      have HB5 : Hid (Below B w w5) := Lib.hid (HB.out.trans hb5)
      have HO5 : Hid (Off devTs W0 w5) := Lib.hid (HOf.out.trans ho5)
      clear hd5 hb5 ho5 k0 k1 k2
      go_wp2
      go_roundw
      case rel => exact ⟨j + 1, by omega, by congr 1, HD5.out, HB5.out, HO5.out⟩
      case measure => simp [intOf]; omega
    · have hjz : ¬ ((a : Int) + (j : Int) < (S : Int)) := by omega
      have hjk2 : j = k ∨ (k = 0 ∧ j = 0) := by omega
      have HDE : Hid (Dev B wr b (wipesSt st (F + a) k)) := Lib.hid (by
        have : j = k := by omega
        rw [← this]; exact HD.out)
      have HOE : Hid (Off devTs w wr) := Lib.hid ((Off.ofBelow HB0.out _).trans HOf.out)
      go_wp2
      go_ret
      exact ⟨rfl, HDE.out, HB.out, HOE.out⟩
end Go.Proofs.Ytmpfdmjbgabcdaa
