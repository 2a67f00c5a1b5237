/-
  A bank (stage 7): the epoch of a head; Epoch, SetEpoch.
-/
import Derived.Test.YtmpfdmjbgabcdaaBkHead
import Derived.Laws.Bits64b
namespace Go.Proofs.Ytmpfdmjbgabcdaa
open Go.RowKit Go.Sort
set_option linter.unusedVariables false

def numP (l : List UInt8) : Nat → Nat
  | 0 => 0
  | i + 1 => numP l i * 256 + (l.getD i 0).toNat
theorem numP_lt (l : List UInt8) : ∀ i, numP l i < 256 ^ i
  | 0 => by simp [numP]
  | i + 1 => by
    have h1 := numP_lt l i
    have h2 := UInt8.toNat_lt (l.getD i 0)
    rw [numP, Nat.pow_succ]
    omega
def epochI (s : ByteArray) : Nat := if s = headB (numP s.data.toList 8) then numP s.data.toList 8 else 0
set_option maxHeartbeats 4000000 in
set_option maxRecDepth 100000 in
theorem epochOf_c (s : ByteArray) (w : World) (hs : s.size = 64) : Calls Try.prog 69 #[.string s] w fun e w' => e = .returned (.int .u64 (epochI s)) ∧ Below w.heap.size w w' := by
  obtain ⟨R, hR⟩ : ∃ R, epochI s = R := ⟨_, rfl⟩
  rw [hR]
  have HR := Lib.hid hR
  clear hR
  have HS := Lib.hid hs
  go_enter Try.func69, Try.ntmps69
  go_wp2
  go_loopw [5, 3] (fun iv ev wr => ∃ i : Nat, i ≤ 8 ∧ iv = .int .i64 (i : Int) ∧ ev = .int .u64 (numP s.data.toList i : Nat) ∧ Below w.heap.size w wr) (fun iv _ _ => 8 - (intOf iv).toNat)
  case atStart => exact ⟨0, by omega, rfl, rfl, Below.refl _ _⟩
  case round =>
    obtain ⟨i, hi, rfl, rfl, hb⟩ := hrel
    have HB := Lib.hid hb
    clear hb
    by_cases hi8 : i < 8
    · have hi8z : (i : Int) < 8 := by omega
      have his : (i : Int) < (s.size : Int) := by omega
      have HST : Hid (bits BinOp.or IntKind.u64 (IntKind.u64.wrap (((numP s.data.toList i : Nat) : Int) * 256)) (IntKind.u64.wrap ((s[i]'(by omega)).toNat : Int)) = ((numP s.data.toList (i + 1) : Nat) : Int)) := Lib.hid (by
        have h1 := numP_lt s.data.toList i
        have h2 : 256 ^ i ≤ 256 ^ 7 := Nat.pow_le_pow_right (by decide) (by omega)
        have h3 : (256 : Nat) ^ 7 = 72057594037927936 := by decide
        have hb1 := UInt8.toNat_lt (s[i]'(by omega))
        have hxi : s.data.toList.getD i 0 = s[i]'(by omega) := by
          rw [List.getD_eq_getElem?_getD, List.getElem?_eq_getElem (by rw [Array.length_toList]; show i < s.size; omega)]; rfl
        rw [numP, hxi]
        generalize (s[i]'(by omega)).toNat = C at *
        generalize numP s.data.toList i = E at *
        have e1 : IntKind.u64.wrap ((E : Int) * 256) = ((E * 256 : Nat) : Int) := by rw [IntKind.wrap_u64]; omega
        have e2 : IntKind.u64.wrap (C : Int) = (C : Int) := by rw [IntKind.wrap_u64]; omega
        rw [e1, e2, bits_or_u64_nat _ _ (by omega) (by omega), or_shift _ _ hb1])
      go_wp2
      go_roundw
      case rel => exact ⟨i + 1, by omega, by first | rfl | go_num, by rw [HST.out], HB.out⟩
      case measure => simp [intOf]; omega
    · have hi8z : ¬ ((i : Int) < 8) := by omega
      have hie : i = 8 := by omega
      subst hie
      obtain ⟨E, hE⟩ : ∃ E, numP s.data.toList 8 = E := ⟨_, rfl⟩
      have hEl : E < 18446744073709551616 := by
        have := numP_lt s.data.toList 8
        rw [hE] at this
        exact this
      have cH := fun W => head_c E W hEl
      have HE := Lib.hid hE
      rw [hE]
      clear hE hi
      by_cases hc : s = headB E
      · have HRE : Hid (E = R) := Lib.hid (by rw [← HR.out]; unfold epochI; rw [HE.out, if_pos hc])
        have HX := Lib.hid hc
        rw [← hc] at cH
        clear hc
        go_wp2_with fail
        refine (cH _).mono ?_
        rintro e w1 ⟨rfl, hb1⟩
        have HB1 : Hid (Below w.heap.size w w1) := Lib.hid (HB.out.trans (hb1.mono HB.out.size))
        clear hb1
        go_wp2
        go_ret
        exact ⟨by rw [← HRE.out]; rfl, HB1.out⟩
      · have HRE : Hid (R = 0) := Lib.hid (by rw [← HR.out]; unfold epochI; rw [HE.out, if_neg hc])
        have hne := toList_ne hc
        generalize headB E = Z at *
        clear hc
        go_wp2_with fail
        refine (cH _).mono ?_
        rintro e w1 ⟨rfl, hb1⟩
        have HB1 : Hid (Below w.heap.size w w1) := Lib.hid (HB.out.trans (hb1.mono HB.out.size))
        clear hb1
        go_wp2
        go_ret
        exact ⟨by rw [HRE.out]; rfl, HB1.out⟩
set_option maxHeartbeats 2000000 in
theorem epoch_c (B b : Nat) (st : St) (k : Nat) (w : World) (h : Dev B w b st) (hg : Good st) (hl : st.lim = false) (hk : k < st.now.length) :
    Calls Try.prog 60 #[.pointer (some ⟨b, 0, none⟩), .int .i64 k] w fun e w' => e = .returned (.tuple #[.int .u64 (epochI (st.now.getD k ⟨#[]⟩)), .int .i64 0]) ∧ Below w.heap.size w w' := by
  have cG := get_c B b st k w h hg
  unfold GetPost at cG
  have hgl : (st.lim && st.left == 0) = false := by rw [hl]; rfl
  have ha : askI st.now.length st.lim st.left k = 0 := by
    unfold askI
    rw [hgl, if_neg (by simp), if_neg (by omega)]
  rw [ha, if_pos rfl, Int.toNat_natCast] at cG
  have hx : st.now[k]? = some (st.now.getD k ⟨#[]⟩) := by rw [List.getD_eq_getElem?_getD, List.getElem?_eq_getElem hk]; rfl
  have hxs := hg.szn _ (List.mem_of_getElem? hx)
  generalize st.now.getD k ⟨#[]⟩ = x at *
  have cE := epochOf_c x w hxs
  generalize epochI x = E at *
  clear h hg hl hk hgl ha hx
  go_enter Try.func60, Try.ntmps60
  go_wp2_with fail
  refine cG.mono ?_
  rintro e w1 ⟨rfl, rfl⟩
  go_wp2_with fail
  refine cE.mono ?_
  rintro e w2 ⟨rfl, hb2⟩
  have HB2 := Lib.hid hb2
  clear hb2
  go_wp2
  go_ret2
  exact ⟨rfl, HB2.out⟩
theorem headB_size (N : Nat) : (headB N).size = 64 := by
  unfold headB
  show Array.size _ = 64
  rw [List.size_toArray]
  split
  · simp
  · exact headK_length N 8
set_option maxHeartbeats 2000000 in
theorem setEpoch_c (B b : Nat) (st : St) (k N : Nat) (w : World) (h : Dev B w b st) (hg : Good st) (hl : st.lim = false) (hk : k < st.now.length) (hp : st.pend.length ≤ 1000) (hB : B ≤ w.heap.size) (hN : N < 18446744073709551616) :
    Calls Try.prog 57 #[.pointer (some ⟨b, 0, none⟩), .int .i64 k, .int .u64 N] w fun e w' => e = .returned (.int .i64 0) ∧ Dev B w' b (putSt st k (headB N)) ∧ Below B w w' ∧ Off devTs w w' := by
  have hgl : (st.lim && st.left == 0) = false := by rw [hl]; rfl
  have ha : askI st.now.length st.lim st.left k = 0 := by
    unfold askI
    rw [hgl, if_neg (by simp), if_neg (by omega)]
  have hq : putI st k (headB N) = 0 := by
    unfold putI
    rw [if_pos ha, if_pos (headB_size N)]
  have cP : Hid (∀ W, Below w.heap.size w W → Calls Try.prog 26 #[.pointer (some ⟨b, 0, none⟩), .int .i64 k, .string (headB N)] W fun e w' => e = .returned (.int .i64 0) ∧ Dev B w' b (putSt st k (headB N)) ∧ Below B W w' ∧ Off devTs W w') := Lib.hid (fun W hW => by
    have h1 := put_c B b st k (headB N) W (h.below hW) hg hp (Nat.le_trans hB hW.size)
    unfold PutPost at h1
    rw [hq, if_pos rfl, Int.toNat_natCast] at h1
    exact h1)
  have cH := head_c N w hN
  generalize headB N = Z at *
  clear h hg hl hk hgl ha hq hp
  go_enter Try.func57, Try.ntmps57
  go_wp2_with fail
  refine cH.mono ?_
  rintro e w1 ⟨rfl, hb1⟩
  have HB1 := Lib.hid hb1
  clear hb1
  go_wp2_with fail
  refine (cP.out _ HB1.out).mono ?_
  rintro e w2 ⟨rfl, hd, hb, ho⟩
  have HD := Lib.hid hd
  have HB2 : Hid (Below B w w2) := Lib.hid ((HB1.out.mono hB).trans hb)
  have HO2 : Hid (Off devTs w w2) := Lib.hid ((Off.ofBelow HB1.out _).trans ho)
  clear hd hb ho
  go_wp2
  go_ret
  exact ⟨rfl, HD.out, HB2.out, HO2.out⟩
end Go.Proofs.Ytmpfdmjbgabcdaa
