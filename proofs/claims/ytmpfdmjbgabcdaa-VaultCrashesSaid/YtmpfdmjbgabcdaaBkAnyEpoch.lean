/-
  A bank (stage 7), power limited or not: Epoch, SetEpoch.
-/
import Derived.Test.YtmpfdmjbgabcdaaBkAnyWipe
namespace Go.Proofs.Ytmpfdmjbgabcdaa
open Go.RowKit Go.Sort
set_option linter.unusedVariables false

set_option maxHeartbeats 2000000 in
theorem epoch_any (B b : Nat) (st : St) (k : Nat) (w : World) (h : Dev B w b st) (hg : Good st) (hgo : goneB st = false) (hk : k < st.now.length) :
    Calls Try.prog 60 #[.pointer (some ⟨b, 0, none⟩), .int .i64 k] w fun e w' => e = .returned (.tuple #[.int .u64 (epochI (st.now.getD k ⟨#[]⟩)), .int .i64 0]) ∧ Below w.heap.size w w' := by
  have cG := get_c B b st k w h hg
  unfold GetPost at cG
  have ha : askI st.now.length st.lim st.left k = 0 := ask_ok hgo hk
  rw [ha, if_pos rfl, Int.toNat_natCast] at cG
  have hx : st.now[k]? = some (st.now.getD k ⟨#[]⟩) := by rw [List.getD_eq_getElem?_getD, List.getElem?_eq_getElem hk]; rfl
  have hxs := hg.szn _ (List.mem_of_getElem? hx)
  generalize st.now.getD k ⟨#[]⟩ = x at *
  have cE := epochOf_c x w hxs
  generalize epochI x = E at *
  clear h hg hgo hk ha hx
  go_enter Try.func60, Try.ntmps60
  go_wp2_with fail
  refine cG.mono ?_
  rintro e w1 ⟨rfl, rfl⟩
  go_wp2_with fail
  refine cE.mono ?_
  rintro e w2 ⟨rfl, hb2⟩
  have HB2 := Lib.hid hb2
  clear hb2
  go_wp2
  go_ret2
  exact ⟨rfl, HB2.out⟩
set_option maxHeartbeats 2000000 in
theorem epoch_gone (B b : Nat) (st : St) (k : Int) (w : World) (h : Dev B w b st) (hg : Good st) (hgo : goneB st = true) :
    Calls Try.prog 60 #[.pointer (some ⟨b, 0, none⟩), .int .i64 k] w fun e w' => e = .returned (.tuple #[.int .u64 0, .int .i64 13]) ∧ w = w' := by
  have cG := get_c B b st k w h hg
  unfold GetPost at cG
  rw [ask_gone hgo, if_neg (by decide)] at cG
  clear h hg hgo
  go_enter Try.func60, Try.ntmps60
  go_wp2_with fail
  refine cG.mono ?_
  rintro e w1 ⟨rfl, rfl⟩
  go_wp2
  go_ret2
  exact ⟨rfl, rfl⟩
set_option maxHeartbeats 2000000 in
theorem setEpoch_any (B b : Nat) (st : St) (k N : Nat) (w : World) (h : Dev B w b st) (hg : Good st) (hgo : goneB st = false) (hk : k < st.now.length) (hp : st.pend.length ≤ 1000) (hB : B ≤ w.heap.size) (hN : N < 18446744073709551616) :
    Calls Try.prog 57 #[.pointer (some ⟨b, 0, none⟩), .int .i64 k, .int .u64 N] w fun e w' => e = .returned (.int .i64 0) ∧ Dev B w' b (putSt st k (headB N)) ∧ Below B w w' ∧ Off devTs w w' := by
  have ha : askI st.now.length st.lim st.left k = 0 := ask_ok hgo hk
  have hq : putI st k (headB N) = 0 := by
    unfold putI
    rw [if_pos ha, if_pos (headB_size N)]
  have cP : Hid (∀ W, Below w.heap.size w W → Calls Try.prog 26 #[.pointer (some ⟨b, 0, none⟩), .int .i64 k, .string (headB N)] W fun e w' => e = .returned (.int .i64 0) ∧ Dev B w' b (putSt st k (headB N)) ∧ Below B W w' ∧ Off devTs W w') := Lib.hid (fun W hW => by
    have h1 := put_c B b st k (headB N) W (h.below hW) hg hp (Nat.le_trans hB hW.size)
    unfold PutPost at h1
    rw [hq, if_pos rfl, Int.toNat_natCast] at h1
    exact h1)
  have cH := head_c N w hN
  generalize headB N = Z at *
  clear h hg hgo hk ha hq hp
  go_enter Try.func57, Try.ntmps57
  go_wp2_with fail
  refine cH.mono ?_
  rintro e w1 ⟨rfl, hb1⟩
  have HB1 := Lib.hid hb1
  clear hb1
  go_wp2_with fail
  refine (cP.out _ HB1.out).mono ?_
  rintro e w2 ⟨rfl, hd, hb, ho⟩
  have HD := Lib.hid hd
  have HB2 : Hid (Below B w w2) := Lib.hid ((HB1.out.mono hB).trans hb)
  have HO2 : Hid (Off devTs w w2) := Lib.hid ((Off.ofBelow HB1.out _).trans ho)
  clear hd hb ho
  go_wp2
  go_ret
  exact ⟨rfl, HD.out, HB2.out, HO2.out⟩
set_option maxHeartbeats 2000000 in
theorem setEpoch_gone (B b : Nat) (st : St) (k : Int) (N : Nat) (w : World) (h : Dev B w b st) (hg : Good st) (hgo : goneB st = true) (hp : st.pend.length ≤ 1000) (hB : B ≤ w.heap.size) (hN : N < 18446744073709551616) :
    Calls Try.prog 57 #[.pointer (some ⟨b, 0, none⟩), .int .i64 k, .int .u64 N] w fun e w' => e = .returned (.int .i64 13) ∧ Dev B w' b st ∧ Below B w w' ∧ Off devTs w w' := by
  have hq : putI st k (headB N) = 13 := by
    unfold putI
    rw [ask_gone hgo, if_neg (by decide)]
  have cP : Hid (∀ W, Below w.heap.size w W → Calls Try.prog 26 #[.pointer (some ⟨b, 0, none⟩), .int .i64 k, .string (headB N)] W fun e w' => e = .returned (.int .i64 13) ∧ Dev B w' b st ∧ Below B W w' ∧ Off devTs W w') := Lib.hid (fun W hW => by
    have h1 := put_c B b st k (headB N) W (h.below hW) hg hp (Nat.le_trans hB hW.size)
    unfold PutPost at h1
    rw [hq, if_neg (by decide)] at h1
    exact h1)
  have cH := head_c N w hN
  generalize headB N = Z at *
  clear h hg hgo hq hp
  go_enter Try.func57, Try.ntmps57
  go_wp2_with fail
  refine cH.mono ?_
  rintro e w1 ⟨rfl, hb1⟩
  have HB1 := Lib.hid hb1
  clear hb1
  go_wp2_with fail
  refine (cP.out _ HB1.out).mono ?_
  rintro e w2 ⟨rfl, hd, hb, ho⟩
  have HD := Lib.hid hd
  have HB2 : Hid (Below B w w2) := Lib.hid ((HB1.out.mono hB).trans hb)
  have HO2 : Hid (Off devTs w w2) := Lib.hid ((Off.ofBelow HB1.out _).trans ho)
  clear hd hb ho
  go_wp2
  go_ret
  exact ⟨rfl, HD.out, HB2.out, HO2.out⟩
end Go.Proofs.Ytmpfdmjbgabcdaa
