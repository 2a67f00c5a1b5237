/-
  A bank (stage 7): a frame is wiped; all of them from one on.
-/
import Derived.Test.YtmpfdmjbgabcdaaBkWriteOk
namespace Go.Proofs.Ytmpfdmjbgabcdaa
open Go.RowKit Go.Sort
set_option linter.unusedVariables false

def wipe1 (st : St) (i : Nat) : St := if st.now.getD i ⟨#[]⟩ = zero64 then st else putSt st i zero64
set_option maxHeartbeats 4000000 in
set_option maxRecDepth 100000 in
theorem bwipe_c (B b : Nat) (st : St) (F i : Nat) (sz : Int) (w : World) (h : Dev B w b st) (hg : Good st) (hl : st.lim = false) (hp : st.pend.length ≤ 1000) (hB : B ≤ w.heap.size) (hi : F + i < st.now.length) :
    Calls Try.prog 68 #[.agg #[.pointer (some ⟨b, 0, none⟩), .int .i64 F, .int .i64 sz], .int .i64 i] w fun e w' => e = .returned (.int .i64 0) ∧ Dev B w' b (wipe1 st (F + i)) ∧ Below B w w' ∧ Off devTs w w' := by
  have hf := hg.few
  obtain ⟨x, hx⟩ : ∃ x, st.now.getD (F + i) ⟨#[]⟩ = x := ⟨_, rfl⟩
  unfold wipe1
  rw [hx]
  have cG : Hid (∀ W, Below w.heap.size w W → Calls Try.prog 73 #[.agg #[.pointer (some ⟨b, 0, none⟩), .int .i64 F, .int .i64 sz], .int .i64 i] W fun e w' => e = .returned (.tuple #[.string x, .int .i64 0]) ∧ Below W.heap.size W w') := Lib.hid (fun W hW => by
    have h1 := bget_c B b st F sz i ((F + i : Nat) : Int) W (h.below hW) hg (by omega) (by omega)
    rw [ask_ok (free_gone hl) hi, if_pos rfl, Int.toNat_natCast, hx] at h1
    exact h1)
  have cP : Hid (∀ W, Below w.heap.size w W → Calls Try.prog 66 #[.agg #[.pointer (some ⟨b, 0, none⟩), .int .i64 F, .int .i64 sz], .int .i64 i, .string zero64] W fun e w' => e = .returned (.int .i64 0) ∧ Dev B w' b (putSt st (F + i) zero64) ∧ Below B W w' ∧ Off devTs W w') := Lib.hid (fun W hW => by
    have h1 := bput_at B b st F i 0 sz zero64 W (h.below hW) hg hl hp (Nat.le_trans hB hW.size) hi rfl
    rw [show (i : Int) + ((0 : Nat) : Int) = (i : Int) by omega] at h1
    exact h1)
  have HD : Hid (∀ W, Below w.heap.size w W → Dev B W b st) := Lib.hid (fun W hW => h.below hW)
  have cN := noughts_c
  obtain ⟨W0, hW0⟩ : ∃ W0, w.alloc (.cells #[.pointer (some ⟨b, 0, none⟩), .int .i64 F, .int .i64 sz] 105) = W0 := ⟨_, rfl⟩
  have HB0 : Hid (Below w.heap.size w W0) := Lib.hid (by rw [← hW0]; exact (Below.refl _ _).alloc (Nat.le_refl _) _)
  have HS0 : Hid (W0.heap.size = w.heap.size + 1) := Lib.hid (by rw [← hW0]; simp)
  have HC0 : Hid (W0.heap[w.heap.size]? = some (.cells #[.pointer (some ⟨b, 0, none⟩), .int .i64 F, .int .i64 sz] 105 (0, 0))) := Lib.hid (by rw [← hW0]; exact heap_alloc_new _ _)
  have HBX : Hid (Below W0.heap.size W0 W0 ∧ W0.cell? ⟨w.heap.size, 0, none⟩ = some (.pointer (some ⟨b, 0, none⟩)) ∧ W0.cell? ⟨w.heap.size, 1, none⟩ = some (.int .i64 F) ∧ W0.cell? ⟨w.heap.size, 2, none⟩ = some (.int .i64 sz)) := Lib.hid ⟨Below.refl _ _, by rw [cell_of_row _ _ _ _ _ _ HC0.out]; rfl, by rw [cell_of_row _ _ _ _ _ _ HC0.out]; rfl, by rw [cell_of_row _ _ _ _ _ _ HC0.out]; rfl⟩
  have hgS : w.heap.size < W0.heap.size := by rw [HS0.out]; omega
  have HBW : Hid (∀ W, Below W0.heap.size W0 W → Below w.heap.size w W) := Lib.hid (fun W hW => HB0.out.trans (hW.mono (by rw [HS0.out]; omega)))
  obtain ⟨_, k0, k1, k2⟩ := HBX.out
  clear h hg hl hp hi hf hx
  by_cases hz : x = zero64
  · subst hz
    rw [if_pos rfl]
    clear cP
    generalize hZ : zero64 = Z at *
    go_enter Try.func68, Try.ntmps68
    go_wp2_with fail
    refine (cG.out _ HB0.out).mono ?_
    rintro e w1 ⟨rfl, hb1⟩
    have HS1 := Lib.hid (box_step hgS HBX.out hb1)
    clear hb1 k0 k1 k2
    go_wp2_with fail
    refine (cN _).mono ?_
    rintro e w2 ⟨rfl, hb2⟩
    have HS2 := Lib.hid (box_step hgS HS1.out hb2)
    have HBw := Lib.hid (HBW.out _ HS2.out.1)
    clear hb2 cN
    go_wp2
    go_ret
    exact ⟨rfl, HD.out _ HBw.out, HBw.out.mono hB, Off.ofBelow HBw.out _⟩
  · rw [if_neg hz]
    have hne := toList_ne hz
    generalize zero64 = Z at *
    clear hz
    go_enter Try.func68, Try.ntmps68
    go_wp2_with fail
    refine (cG.out _ HB0.out).mono ?_
    rintro e w1 ⟨rfl, hb1⟩
    have HS1 := Lib.hid (box_step hgS HBX.out hb1)
    clear hb1 k0 k1 k2
    go_wp2_with fail
    refine (cN _).mono ?_
    rintro e w2 ⟨rfl, hb2⟩
    have HS2 := Lib.hid (box_step hgS HS1.out hb2)
    clear hb2
    obtain ⟨_, j0, j1, j2⟩ := HS2.out
    have q0 : w2.drew.cell? ⟨w.heap.size, 0, none⟩ = some (.pointer (some ⟨b, 0, none⟩)) := j0
    have q1 : w2.drew.cell? ⟨w.heap.size, 1, none⟩ = some (.int .i64 F) := j1
    have q2 : w2.drew.cell? ⟨w.heap.size, 2, none⟩ = some (.int .i64 sz) := j2
    have HKK : Hid (∀ w3, Below w2.drew.heap.size w2.drew w3 → (w3.cell? ⟨w.heap.size, 0, none⟩ = some (.pointer (some ⟨b, 0, none⟩)) ∧ w3.cell? ⟨w.heap.size, 1, none⟩ = some (.int .i64 F) ∧ w3.cell? ⟨w.heap.size, 2, none⟩ = some (.int .i64 sz)) ∧ Below w.heap.size w w3) := Lib.hid (fun w3 hb3 => by
      have h1 := box_step hgS (box_drew HS2.out) hb3
      exact ⟨h1.2, HBW.out _ h1.1⟩)
    go_wp2
    go_region_with (first | (go_at_call 72; refine (cN _).mono ?_; rintro e w3 ⟨rfl, hb3⟩; obtain ⟨⟨p0, p1, p2⟩, hbw⟩ := HKK.out _ hb3) | (go_at_call 66; refine (cP.out _ (by assumption)).mono ?_; rintro e w4 ⟨rfl, hd4, hb4, ho4⟩))
    all_goals (try go_wp2)
    all_goals go_ret
    all_goals exact ⟨rfl, hd4, (hbw.mono hB).trans hb4, (Off.ofBelow hbw _).trans ho4⟩
end Go.Proofs.Ytmpfdmjbgabcdaa
