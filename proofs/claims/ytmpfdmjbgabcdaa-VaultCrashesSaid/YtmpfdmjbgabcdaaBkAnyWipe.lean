/-
  A bank (stage 7), power limited or not: frames are wiped till power goes.
-/
import Derived.Test.YtmpfdmjbgabcdaaBkAny
namespace Go.Proofs.Ytmpfdmjbgabcdaa
open Go.RowKit Go.Sort
set_option linter.unusedVariables false

/-- Power goes nowhere on the way. -/
def RunsW (st : St) (i k : Nat) : Prop := ∀ j, j < k → goneB (wipesSt st i j) = false
theorem wipe1_any {st : St} {i : Nat} (hg : Good st) (hgo : goneB st = false) (hi : i < st.now.length) :
    Good (wipe1 st i) ∧ (wipe1 st i).lim = st.lim ∧ (wipe1 st i).now = st.now.set i zero64 ∧ (wipe1 st i).pend.length ≤ st.pend.length + 1 ∧ (wipe1 st i).safe = st.safe := by
  unfold wipe1
  split
  · rename_i hz
    refine ⟨hg, rfl, ?_, by omega, rfl⟩
    apply List.ext_getElem?
    intro j
    by_cases hj : i = j
    · subst hj
      rw [List.getElem?_set_self hi, List.getElem?_eq_getElem hi]
      rw [List.getD_eq_getElem?_getD, List.getElem?_eq_getElem hi] at hz
      exact congrArg some hz
    · rw [List.getElem?_set_ne hj]
  · exact ⟨good_put hg (ask_ok hgo hi) rfl, rfl, rfl, by simp [putSt], rfl⟩
theorem wipes_any {st : St} {i : Nat} (hg : Good st) : ∀ k, i + k ≤ st.now.length → RunsW st i k →
    Good (wipesSt st i k) ∧ (wipesSt st i k).lim = st.lim ∧ (wipesSt st i k).now = st.now.take i ++ List.replicate k zero64 ++ st.now.drop (i + k) ∧ (wipesSt st i k).pend.length ≤ st.pend.length + k ∧ (wipesSt st i k).safe = st.safe
  | 0, _, _ => ⟨hg, rfl, by simp [wipesSt], by simp [wipesSt], rfl⟩
  | k + 1, hk, hr => by
    obtain ⟨g1, g2, g3, g4, g5⟩ := wipes_any (i := i) hg k (by omega) (fun j hj => hr j (by omega))
    have hlen : (wipesSt st i k).now.length = st.now.length := by
      rw [g3]
      simp
      omega
    obtain ⟨e1, e2, e3, e4, e5⟩ := wipe1_any g1 (hr k (by omega)) (show i + k < (wipesSt st i k).now.length by omega)
    refine ⟨e1, e2.trans g2, ?_, ?_, e5.trans g5⟩
    · show (wipe1 (wipesSt st i k) (i + k)).now = _
      rw [e3, g3]
      have hl1 : (st.now.take i).length = i := by rw [List.length_take]; omega
      rw [List.append_assoc, List.set_append, if_neg (by omega), hl1, show i + k - i = k by omega, List.set_append, if_neg (by simp), List.length_replicate, Nat.sub_self]
      have hgp : i + k < st.now.length := by omega
      rw [List.drop_eq_getElem_cons hgp, List.set_cons_zero, List.replicate_succ']
      simp [Nat.add_assoc]
    · show (wipe1 (wipesSt st i k) (i + k)).pend.length ≤ _
      omega
set_option maxHeartbeats 4000000 in
set_option maxRecDepth 100000 in
theorem bwipe_any (B b : Nat) (st : St) (F i : Nat) (sz : Int) (w : World) (h : Dev B w b st) (hg : Good st) (hgo : goneB st = false) (hp : st.pend.length ≤ 1000) (hB : B ≤ w.heap.size) (hi : F + i < st.now.length) :
    Calls Try.prog 68 #[.agg #[.pointer (some ⟨b, 0, none⟩), .int .i64 F, .int .i64 sz], .int .i64 i] w fun e w' => e = .returned (.int .i64 0) ∧ Dev B w' b (wipe1 st (F + i)) ∧ Below B w w' ∧ Off devTs w w' := by
  have hf := hg.few
  obtain ⟨x, hx⟩ : ∃ x, st.now.getD (F + i) ⟨#[]⟩ = x := ⟨_, rfl⟩
  unfold wipe1
  rw [hx]
  have cG : Hid (∀ W, Below w.heap.size w W → Calls Try.prog 73 #[.agg #[.pointer (some ⟨b, 0, none⟩), .int .i64 F, .int .i64 sz], .int .i64 i] W fun e w' => e = .returned (.tuple #[.string x, .int .i64 0]) ∧ Below W.heap.size W w') := Lib.hid (fun W hW => by
    have h1 := bget_c B b st F sz i ((F + i : Nat) : Int) W (h.below hW) hg (by omega) (by omega)
    rw [ask_ok hgo hi, if_pos rfl, Int.toNat_natCast, hx] at h1
    exact h1)
  have cP : Hid (∀ W, Below w.heap.size w W → Calls Try.prog 66 #[.agg #[.pointer (some ⟨b, 0, none⟩), .int .i64 F, .int .i64 sz], .int .i64 i, .string zero64] W fun e w' => e = .returned (.int .i64 0) ∧ Dev B w' b (putSt st (F + i) zero64) ∧ Below B W w' ∧ Off devTs W w') := Lib.hid (fun W hW => by
    have h1 := bput_any B b st F i 0 sz zero64 W (h.below hW) hg hgo hp (Nat.le_trans hB hW.size) hi rfl
    rw [show (i : Int) + ((0 : Nat) : Int) = (i : Int) by omega] at h1
    exact h1)
  have HD : Hid (∀ W, Below w.heap.size w W → Dev B W b st) := Lib.hid (fun W hW => h.below hW)
  have cN := noughts_c
  obtain ⟨W0, hW0⟩ : ∃ W0, w.alloc (.cells #[.pointer (some ⟨b, 0, none⟩), .int .i64 F, .int .i64 sz] 105) = W0 := ⟨_, rfl⟩
  have HB0 : Hid (Below w.heap.size w W0) := Lib.hid (by rw [← hW0]; exact (Below.refl _ _).alloc (Nat.le_refl _) _)
  have HS0 : Hid (W0.heap.size = w.heap.size + 1) := Lib.hid (by rw [← hW0]; simp)
  have HC0 : Hid (W0.heap[w.heap.size]? = some (.cells #[.pointer (some ⟨b, 0, none⟩), .int .i64 F, .int .i64 sz] 105 (0, 0))) := Lib.hid (by rw [← hW0]; exact heap_alloc_new _ _)
  have HBX : Hid (Below W0.heap.size W0 W0 ∧ W0.cell? ⟨w.heap.size, 0, none⟩ = some (.pointer (some ⟨b, 0, none⟩)) ∧ W0.cell? ⟨w.heap.size, 1, none⟩ = some (.int .i64 F) ∧ W0.cell? ⟨w.heap.size, 2, none⟩ = some (.int .i64 sz)) := Lib.hid ⟨Below.refl _ _, by rw [cell_of_row _ _ _ _ _ _ HC0.out]; rfl, by rw [cell_of_row _ _ _ _ _ _ HC0.out]; rfl, by rw [cell_of_row _ _ _ _ _ _ HC0.out]; rfl⟩
  have hgS : w.heap.size < W0.heap.size := by rw [HS0.out]; omega
  have HBW : Hid (∀ W, Below W0.heap.size W0 W → Below w.heap.size w W) := Lib.hid (fun W hW => HB0.out.trans (hW.mono (by rw [HS0.out]; omega)))
  obtain ⟨_, k0, k1, k2⟩ := HBX.out
  clear h hg hgo hp hi hf hx
  by_cases hz : x = zero64
  · subst hz
    rw [if_pos rfl]
    clear cP
    generalize hZ : zero64 = Z at *
    go_enter Try.func68, Try.ntmps68
    go_wp2_with fail
    refine (cG.out _ HB0.out).mono ?_
    rintro e w1 ⟨rfl, hb1⟩
    have HS1 := Lib.hid (box_step hgS HBX.out hb1)
    clear hb1 k0 k1 k2
    go_wp2_with fail
    refine (cN _).mono ?_
    rintro e w2 ⟨rfl, hb2⟩
    have HS2 := Lib.hid (box_step hgS HS1.out hb2)
    have HBw := Lib.hid (HBW.out _ HS2.out.1)
    clear hb2 cN
    go_wp2
    go_ret
    exact ⟨rfl, HD.out _ HBw.out, HBw.out.mono hB, Off.ofBelow HBw.out _⟩
  · rw [if_neg hz]
    have hne := toList_ne hz
    generalize zero64 = Z at *
    clear hz
    go_enter Try.func68, Try.ntmps68
    go_wp2_with fail
    refine (cG.out _ HB0.out).mono ?_
    rintro e w1 ⟨rfl, hb1⟩
    have HS1 := Lib.hid (box_step hgS HBX.out hb1)
    clear hb1 k0 k1 k2
    go_wp2_with fail
    refine (cN _).mono ?_
    rintro e w2 ⟨rfl, hb2⟩
    have HS2 := Lib.hid (box_step hgS HS1.out hb2)
    clear hb2
    obtain ⟨_, j0, j1, j2⟩ := HS2.out
    have q0 : w2.drew.cell? ⟨w.heap.size, 0, none⟩ = some (.pointer (some ⟨b, 0, none⟩)) := j0
    have q1 : w2.drew.cell? ⟨w.heap.size, 1, none⟩ = some (.int .i64 F) := j1
    have q2 : w2.drew.cell? ⟨w.heap.size, 2, none⟩ = some (.int .i64 sz) := j2
    have HKK : Hid (∀ w3, Below w2.drew.heap.size w2.drew w3 → (w3.cell? ⟨w.heap.size, 0, none⟩ = some (.pointer (some ⟨b, 0, none⟩)) ∧ w3.cell? ⟨w.heap.size, 1, none⟩ = some (.int .i64 F) ∧ w3.cell? ⟨w.heap.size, 2, none⟩ = some (.int .i64 sz)) ∧ Below w.heap.size w w3) := Lib.hid (fun w3 hb3 => by
      have h1 := box_step hgS (box_drew HS2.out) hb3
      exact ⟨h1.2, HBW.out _ h1.1⟩)
    go_wp2
    go_region_with (first | (go_at_call 72; refine (cN _).mono ?_; rintro e w3 ⟨rfl, hb3⟩; obtain ⟨⟨p0, p1, p2⟩, hbw⟩ := HKK.out _ hb3) | (go_at_call 66; refine (cP.out _ (by assumption)).mono ?_; rintro e w4 ⟨rfl, hd4, hb4, ho4⟩))
    all_goals (try go_wp2)
    all_goals go_ret
    all_goals exact ⟨rfl, hd4, (hbw.mono hB).trans hb4, (Off.ofBelow hbw _).trans ho4⟩
set_option maxHeartbeats 4000000 in
set_option maxRecDepth 100000 in
theorem bwipe_gone (B b : Nat) (st : St) (F i : Nat) (sz : Int) (w : World) (h : Dev B w b st) (hg : Good st) (hgo : goneB st = true) (hi : F + i ≤ 1000000) :
    Calls Try.prog 68 #[.agg #[.pointer (some ⟨b, 0, none⟩), .int .i64 F, .int .i64 sz], .int .i64 i] w fun e w' => e = .returned (.int .i64 13) ∧ Below w.heap.size w w' := by
  have cG : Hid (∀ W, Below w.heap.size w W → Calls Try.prog 73 #[.agg #[.pointer (some ⟨b, 0, none⟩), .int .i64 F, .int .i64 sz], .int .i64 i] W fun e w' => e = .returned (.tuple #[.string ⟨#[]⟩, .int .i64 13]) ∧ Below W.heap.size W w') := Lib.hid (fun W hW => by
    have h1 := bget_c B b st F sz i ((F + i : Nat) : Int) W (h.below hW) hg (by omega) (by omega)
    rw [ask_gone hgo, if_neg (by decide)] at h1
    exact h1)
  obtain ⟨W0, hW0⟩ : ∃ W0, w.alloc (.cells #[.pointer (some ⟨b, 0, none⟩), .int .i64 F, .int .i64 sz] 105) = W0 := ⟨_, rfl⟩
  have HB0 : Hid (Below w.heap.size w W0) := Lib.hid (by rw [← hW0]; exact (Below.refl _ _).alloc (Nat.le_refl _) _)
  have HC0 : Hid (W0.heap[w.heap.size]? = some (.cells #[.pointer (some ⟨b, 0, none⟩), .int .i64 F, .int .i64 sz] 105 (0, 0))) := Lib.hid (by rw [← hW0]; exact heap_alloc_new _ _)
  have k0 : W0.cell? ⟨w.heap.size, 0, none⟩ = some (.pointer (some ⟨b, 0, none⟩)) := by rw [cell_of_row _ _ _ _ _ _ HC0.out]; rfl
  have k1 : W0.cell? ⟨w.heap.size, 1, none⟩ = some (.int .i64 F) := by rw [cell_of_row _ _ _ _ _ _ HC0.out]; rfl
  have k2 : W0.cell? ⟨w.heap.size, 2, none⟩ = some (.int .i64 sz) := by rw [cell_of_row _ _ _ _ _ _ HC0.out]; rfl
  clear h hg hgo hi
  go_enter Try.func68, Try.ntmps68
  go_wp2_with fail
  refine (cG.out _ HB0.out).mono ?_
  rintro e w1 ⟨rfl, hb1⟩
  have HB1 : Hid (Below w.heap.size w w1) := Lib.hid (HB0.out.trans (hb1.mono HB0.out.size))
  clear hb1 k0 k1 k2
  go_wp2
  go_ret
  exact ⟨rfl, HB1.out⟩
/-- What stands behind a Wipe: j frames are wiped, all of them or till power was gone. -/
def AnyWipe (B b : Nat) (st : St) (i k : Nat) (w : World) (e : Ending) (w' : World) : Prop :=
  ∃ j, j ≤ k ∧ (e = .returned (.int .i64 0) ∧ j = k ∨ e = .returned (.int .i64 13) ∧ j < k ∧ goneB (wipesSt st i j) = true) ∧ RunsW st i j ∧ Dev B w' b (wipesSt st i j) ∧ Below B w w' ∧ Off devTs w w'
set_option maxHeartbeats 8000000 in
set_option maxRecDepth 100000 in
theorem wipe_any (B b : Nat) (st : St) (F S a : Nat) (at_ : Int) (w : World) (h : Dev B w b st) (hg : Good st) (ho : openI st F S = 0) (hS : F + S ≤ st.now.length) (ha : max at_ 1 = (a : Int)) (hat : at_ ≤ 9223372036854775807) (hp : st.pend.length + S ≤ 1000) (hB : B ≤ w.heap.size) :
    Calls Try.prog 58 #[.pointer (some ⟨b, 0, none⟩), .int .i64 F, .int .i64 S, .int .i64 at_] w (AnyWipe B b st (F + a) (S - a) w) := by
  unfold AnyWipe
  have cO := open_ok B b st F S w h hg ho
  have hf := hg.few
  have hS4 : S ≤ 4096 := by omega
  obtain ⟨k, hk⟩ : ∃ k, S - a = k := ⟨_, rfl⟩
  rw [hk]
  have HW : Hid (∀ j W, j < k → RunsW st (F + a) j → goneB (wipesSt st (F + a) j) = false → Dev B W b (wipesSt st (F + a) j) → B ≤ W.heap.size → Calls Try.prog 68 #[.agg #[.pointer (some ⟨b, 0, none⟩), .int .i64 F, .int .i64 S], .int .i64 ((a : Int) + (j : Int))] W fun e w' => e = .returned (.int .i64 0) ∧ Dev B w' b (wipesSt st (F + a) (j + 1)) ∧ Below B W w' ∧ Off devTs W w') := Lib.hid (fun j W hj hr hgo hd hBW => by
    obtain ⟨g1, g2, g3, g4, _⟩ := wipes_any (i := F + a) hg j (by omega) hr
    have hlen : (wipesSt st (F + a) j).now.length = st.now.length := by
      rw [g3]
      simp
      omega
    have h1 := bwipe_any B b (wipesSt st (F + a) j) F (a + j) S W hd g1 hgo (by omega) hBW (by omega)
    rw [show ((a + j : Nat) : Int) = (a : Int) + (j : Int) by omega, show F + (a + j) = F + a + j by omega] at h1
    exact h1)
  have HWG : Hid (∀ j W, j < k → RunsW st (F + a) j → goneB (wipesSt st (F + a) j) = true → Dev B W b (wipesSt st (F + a) j) → Calls Try.prog 68 #[.agg #[.pointer (some ⟨b, 0, none⟩), .int .i64 F, .int .i64 S], .int .i64 ((a : Int) + (j : Int))] W fun e w' => e = .returned (.int .i64 13) ∧ Below W.heap.size W w') := Lib.hid (fun j W hj hr hgo hd => by
    obtain ⟨g1, g2, g3, g4, _⟩ := wipes_any (i := F + a) hg j (by omega) hr
    have h1 := bwipe_gone B b (wipesSt st (F + a) j) F (a + j) S W hd g1 hgo (by omega)
    rw [show ((a + j : Nat) : Int) = (a : Int) + (j : Int) by omega] at h1
    exact h1)
  have HRN : Hid (∀ j, RunsW st (F + a) j → goneB (wipesSt st (F + a) j) = false → RunsW st (F + a) (j + 1)) := Lib.hid (fun j hr hgo i hi => by
    by_cases hij : i = j
    · rw [hij]; exact hgo
    · exact hr i (by omega))
  have HR0 : Hid (RunsW st (F + a) 0) := Lib.hid (fun j hj => by omega)
  have HDB : Hid (∀ W, Below w.heap.size w W → Dev B W b (wipesSt st (F + a) 0)) := Lib.hid (fun W hW => h.below hW)
  have ha9 : (a : Int) ≤ 9223372036854775807 := by omega
  have ha1 : 1 ≤ a := by omega
  clear h hg ho hS hf hp
  go_enter Try.func58, Try.ntmps58
  go_wp2_with fail
  refine cO.mono ?_
  rintro e w1 ⟨rfl, hb1⟩
  have HB1 := Lib.hid hb1
  clear hb1 cO
  go_wp2
  obtain ⟨W0, hW0⟩ : ∃ W0, w1.alloc (.cells #[.pointer (some ⟨b, 0, none⟩), .int .i64 F, .int .i64 S] 105) = W0 := ⟨_, rfl⟩
  have HB0 : Hid (Below w.heap.size w W0) := Lib.hid (by rw [← hW0]; exact HB1.out.alloc HB1.out.size _)
  have HC0 : Hid (W0.heap[w1.heap.size]? = some (.cells #[.pointer (some ⟨b, 0, none⟩), .int .i64 F, .int .i64 S] 105 (0, 0))) := Lib.hid (by rw [← hW0]; exact heap_alloc_new _ _)
  rw [hW0]
  clear hW0
  generalize w1.heap.size = g at *
  try rw [ha]
  clear hat
  go_loopw [11] (fun iv wr => ∃ j : Nat, j ≤ k ∧ iv = .int .i64 ((a : Int) + (j : Int)) ∧ RunsW st (F + a) j ∧ Dev B wr b (wipesSt st (F + a) j) ∧ Below B w wr ∧ Off devTs W0 wr) (fun iv _ => S - (intOf iv).toNat)
  case atStart => exact ⟨0, by omega, by first | rfl | (rw [ha]; congr 1) | (congr 1; omega), HR0.out, HDB.out _ HB0.out, HB0.out.mono hB, Off.refl _ _⟩
  case round =>
    obtain ⟨j, hj, rfl, hr, hd, hb, hoff⟩ := hrel
    have HR := Lib.hid hr
    have HD := Lib.hid hd
    have HB := Lib.hid hb
    have HOf := Lib.hid hoff
    have hbox := hoff 105 (by decide) _ _ _ HC0.out
    have k0 : wr.cell? ⟨g, 0, none⟩ = some (.pointer (some ⟨b, 0, none⟩)) := by rw [cell_of_row _ _ _ _ _ _ hbox]; rfl
    have k1 : wr.cell? ⟨g, 1, none⟩ = some (.int .i64 F) := by rw [cell_of_row _ _ _ _ _ _ hbox]; rfl
    have k2 : wr.cell? ⟨g, 2, none⟩ = some (.int .i64 S) := by rw [cell_of_row _ _ _ _ _ _ hbox]; rfl
    clear hbox hd hb hoff hr
    by_cases hjk : a + j < S
    · have hjz : (a : Int) + (j : Int) < (S : Int) := by omega
      have haw : IntKind.i64.wrap ((a : Int) + (j : Int) + 1) = (a : Int) + (j : Int) + 1 := by rw [IntKind.wrap_i64]; omega
      have HBsz : Hid (B ≤ wr.heap.size) := Lib.hid (Nat.le_trans hB HB.out.size)
      have HJK : Hid (j < k) := Lib.hid (by omega)
      cases hgo : goneB (wipesSt st (F + a) j) with
      | false =>
        have HGO := Lib.hid hgo
        clear hgo
        go_wp2_with fail
        refine (HW.out j wr HJK.out HR.out HGO.out HD.out HBsz.out).mono ?_
        rintro e w5 ⟨rfl, hd5, hb5, ho5⟩
        have HD5 := Lib.hid hd5
        have HR5 := Lib.hid (HRN.out j HR.out HGO.out)
        have HB5 : Hid (Below B w w5) := Lib.hid (HB.out.trans hb5)
        have HO5 : Hid (Off devTs W0 w5) := Lib.hid (HOf.out.trans ho5)
        clear hd5 hb5 ho5 k0 k1 k2
        go_wp2
        go_roundw
        case rel => exact ⟨j + 1, by omega, by congr 1, HR5.out, HD5.out, HB5.out, HO5.out⟩
        case measure => simp [intOf]; omega
      | true =>
        have HGO := Lib.hid hgo
        clear hgo
        go_wp2_with fail
        refine (HWG.out j wr HJK.out HR.out HGO.out HD.out).mono ?_
        rintro e w5 ⟨rfl, hb5⟩
        have HD5 := Lib.hid (HD.out.below hb5)
        have HB5 : Hid (Below B w w5) := Lib.hid (HB.out.trans (hb5.mono HBsz.out))
        have HO5 : Hid (Off devTs w w5) := Lib.hid (((Off.ofBelow HB0.out _).trans HOf.out).trans (Off.ofBelow hb5 _))
        clear hb5 k0 k1 k2
        go_wp2
        go_ret
        exact ⟨j, Nat.le_of_lt HJK.out, Or.inr ⟨rfl, HJK.out, HGO.out⟩, HR.out, HD5.out, HB5.out, HO5.out⟩
    · have hjz : ¬ ((a : Int) + (j : Int) < (S : Int)) := by omega
      have hjk2 : j = k ∨ (k = 0 ∧ j = 0) := by omega
      have HJK : Hid (j = k) := Lib.hid (by omega)
      clear hjk2
      have HOE : Hid (Off devTs w wr) := Lib.hid ((Off.ofBelow HB0.out _).trans HOf.out)
      go_wp2
      go_ret
      exact ⟨j, hj, Or.inl ⟨rfl, HJK.out⟩, HR.out, HD.out, HB.out, HOE.out⟩
end Go.Proofs.Ytmpfdmjbgabcdaa
