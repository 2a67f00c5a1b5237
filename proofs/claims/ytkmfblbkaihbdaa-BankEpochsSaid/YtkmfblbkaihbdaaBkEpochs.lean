/-
  The law BankEpochs.
-/
import Derived.Test.YtkmfblbkaihbdaaBkBytes
namespace Go.Proofs.Ytkmfblbkaihbdaa
open Go.RowKit Go.Sort
set_option linter.unusedVariables false

set_option maxHeartbeats 8000000 in
set_option maxRecDepth 100000 in
theorem epochs7_walk (N : Int) (raw : ByteArray) (y : Int) (hN0 : 0 ≤ N) (hN1 : N ≤ 18446744073709551615) (hr : raw.size ≤ 9223372036854775807) (hy0 : 0 ≤ y) (hy1 : y ≤ 65535) (w : World) :
    Calls Try.prog 7 #[.int .u64 N, .string raw, .int .u16 y] w fun e w' => e = .returned (.bool true) ∧ Below w.heap.size w w' := by
  obtain ⟨n, rfl⟩ : ∃ n : Nat, N = n := ⟨N.toNat, by omega⟩
  obtain ⟨z, rfl⟩ : ∃ z : Nat, y = z := ⟨y.toNat, by omega⟩
  have hn : n < 18446744073709551616 := by omega
  have cA := awake7_c
  have cN := fun W => new_c 2 W
  unfold NewPost at cN
  rw [show sizeI 2 = 2 from rfl] at cN
  have cH := fun W => head7_c n W hn
  have HE : Hid (epochI (headB n) = n) := Lib.hid (epoch_head n hn)
  have HHS : Hid ((headB n).size = 64) := Lib.hid (headB_size n)
  obtain ⟨st1, hst1⟩ : ∃ st1, putSt (stNew 2) 1 (headB n) = st1 := ⟨_, rfl⟩
  have HS1 : Hid (Good st1 ∧ st1.lim = false ∧ st1.now.length = 2 ∧ st1.pend.length = 1 ∧ st1.now.getD 1 ⟨#[]⟩ = headB n) := Lib.hid (by
    rw [← hst1]
    refine ⟨good_put (goodNew 2 (by decide)) (ask_ok (free_gone rfl) (by rw [stNew_now]; decide)) (headB_size n), rfl, by simp [putSt, stNew], by simp [putSt, stNew], by simp [putSt, stNew]⟩)
  have cP : Hid (∀ (B b : Nat) W, Dev B W b (stNew 2) → B ≤ W.heap.size → Calls Try.prog 24 #[.pointer (some ⟨b, 0, none⟩), .int .i64 1, .int .u64 n] W fun e w' => e = .returned (.int .i64 0) ∧ Dev B w' b st1 ∧ Below B W w' ∧ Off devTs W w') := Lib.hid (fun B b W hd hB => by
    have h1 := setEpoch_c B b (stNew 2) 1 n W hd (goodNew 2 (by decide)) rfl (by rw [stNew_now]; decide) (by decide) hB hn
    rw [hst1] at h1
    exact h1)
  have cG : Hid (∀ (B b : Nat) W, Dev B W b st1 → Calls Try.prog 21 #[.pointer (some ⟨b, 0, none⟩), .int .i64 1] W fun e w' => W = w' ∧ e = .returned (.tuple #[.string (headB n), .int .i64 0])) := Lib.hid (fun B b W hd => by
    have h1 := get_c B b st1 ((1 : Nat) : Int) W hd HS1.out.1
    unfold GetPost at h1
    rw [ask_ok (free_gone HS1.out.2.1) (by rw [HS1.out.2.2.1]; decide), if_pos rfl, Int.toNat_natCast, HS1.out.2.2.2.2] at h1
    exact h1)
  have cX : Hid (∀ (B b : Nat) W, Dev B W b st1 → Calls Try.prog 25 #[.pointer (some ⟨b, 0, none⟩), .int .i64 1] W fun e w' => e = .returned (.tuple #[.int .u64 n, .int .i64 0]) ∧ Below W.heap.size W w') := Lib.hid (fun B b W hd => by
    have h1 := epoch_c B b st1 1 W hd HS1.out.1 HS1.out.2.1 (by rw [HS1.out.2.2.1]; decide)
    rw [HS1.out.2.2.2.2, HE.out] at h1
    exact h1)
  have cQ : Hid (∀ (B b : Nat) (s : ByteArray) W, s.size = 64 → Dev B W b st1 → B ≤ W.heap.size → Calls Try.prog 16 #[.pointer (some ⟨b, 0, none⟩), .int .i64 0, .string s] W fun e w' => e = .returned (.int .i64 0) ∧ Dev B w' b (putSt st1 0 s) ∧ Below B W w' ∧ Off devTs W w') := Lib.hid (fun B b s W hs hd hB => by
    have h1 := put_c B b st1 ((0 : Nat) : Int) s W hd HS1.out.1 (by rw [HS1.out.2.2.2.1]; decide) hB
    unfold PutPost at h1
    rw [show putI st1 ((0 : Nat) : Int) s = 0 by unfold putI; rw [if_pos (ask_ok (free_gone HS1.out.2.1) (by rw [HS1.out.2.2.1]; decide)), if_pos hs], if_pos rfl, Int.toNat_natCast] at h1
    exact h1)
  have cY : Hid (∀ (B b : Nat) (s : ByteArray) W, s.size = 64 → Dev B W b (putSt st1 0 s) → Calls Try.prog 25 #[.pointer (some ⟨b, 0, none⟩), .int .i64 0] W fun e w' => e = .returned (.tuple #[.int .u64 (epochI s), .int .i64 0]) ∧ Below W.heap.size W w') := Lib.hid (fun B b s W hs hd => by
    have hg := good_put (k := 0) HS1.out.1 (ask_ok (free_gone HS1.out.2.1) (by rw [HS1.out.2.2.1]; decide)) hs
    have hlen : (putSt st1 0 s).now.length = 2 := by
      show (st1.now.set 0 s).length = 2
      rw [List.length_set, HS1.out.2.2.1]
    have h1 := epoch_c B b (putSt st1 0 s) 0 W hd hg HS1.out.2.1 (by rw [hlen]; decide)
    rw [show (putSt st1 0 s).now.getD 0 ⟨#[]⟩ = s by
      show (st1.now.set 0 s).getD 0 _ = s
      rw [List.getD_eq_getElem?_getD, List.getElem?_set_self (by rw [HS1.out.2.2.1]; decide)]
      rfl] at h1
    exact h1)
  clear hst1 hN0 hN1 hy0
  obtain ⟨S, hS⟩ : ∃ S, headB n = S := ⟨_, rfl⟩
  rw [hS] at cH HE HHS cG
  have HSS := Lib.hid hS
  clear hS
  go_enter Try.func7, Try.ntmps7
  go_wp2_with fail
  refine (cA _).mono ?_
  rintro e w1 ⟨rfl, hb1⟩
  have HB1 := Lib.hid hb1
  clear hb1 cA
  go_wp2_with fail
  refine (cN _).mono ?_
  rintro e w2 ⟨b, rfl, hd2, hb2, _⟩
  have HB2 : Hid (Below w.heap.size w w2) := Lib.hid (HB1.out.trans (hb2.mono HB1.out.size))
  have HD2 := Lib.hid (hd2.base HB1.out.size)
  clear hb2 hd2 cN
  go_wp2_with fail
  refine (cP.out _ b _ HD2.out HB2.out.size).mono ?_
  rintro e w3 ⟨rfl, hd3, hb3, _⟩
  have HB3 : Hid (Below w.heap.size w w3) := Lib.hid (HB2.out.trans hb3)
  have HD3 := Lib.hid hd3
  clear hb3 hd3
  go_wp2_with fail
  refine (cG.out _ b _ HD3.out).mono ?_
  rintro e w4 ⟨rfl, rfl⟩
  go_wp2_with fail
  refine (cX.out _ b _ HD3.out).mono ?_
  rintro e w4 ⟨rfl, hb4⟩
  have HB4 : Hid (Below w.heap.size w w4) := Lib.hid (HB3.out.trans (hb4.mono HB3.out.size))
  have HD4 := Lib.hid (HD3.out.below hb4)
  clear hb4
  go_wp2_with fail
  refine (cH _).mono ?_
  rintro e w5 ⟨rfl, hb5⟩
  have HB5 : Hid (Below w.heap.size w w5) := Lib.hid (HB4.out.trans (hb5.mono HB4.out.size))
  have HD5 := Lib.hid (HD4.out.below hb5)
  clear hb5
  obtain ⟨cap, w6, hcv, hby, hb6⟩ := str_bytes w5 S
  rw [HHS.out] at hcv
  have HB6 : Hid (Below w.heap.size w w6) := Lib.hid (HB5.out.trans (hb6.mono HB5.out.size))
  have HD6 := Lib.hid (HD5.out.below hb6)
  have HBY := Lib.hid hby
  clear hb6 hby
  generalize hg : w5.heap.size = g at *
  obtain ⟨I, hI⟩ : ∃ I, z % 64 = I := ⟨_, rfl⟩
  have hI1 : (z : Int) % 64 = (I : Int) := by omega
  have hI2 : (z : Int).tmod 64 = (I : Int) := by rw [Int.tmod_eq_emod_of_nonneg (by omega)]; exact hI1
  have hIl : I < 64 := by omega
  have hIz : (I : Int) < 64 := by omega
  obtain ⟨Q, hQ⟩ : ∃ Q, z / 64 = Q := ⟨_, rfl⟩
  have hQ1 : (z : Int) / 64 = (Q : Int) := by omega
  have hQ2 : (z : Int).tdiv 64 = (Q : Int) := by rw [Int.tdiv_eq_ediv_of_nonneg (by omega)]; exact hQ1
  obtain ⟨P, hP⟩ : ∃ P, Q % 8 = P := ⟨_, rfl⟩
  have hP1 : (Q : Int) % 8 = (P : Int) := by omega
  have hP2 : (Q : Int).tmod 8 = (P : Int) := by rw [Int.tmod_eq_emod_of_nonneg (by omega)]; exact hP1
  have hPw : IntKind.u8.wrap (P : Int) = (P : Int) := by rw [IntKind.wrap_u8]; omega
  have hPm : (P : Int) % 256 = (P : Int) := by omega
  have hQw : IntKind.u16.wrap (Q : Int) = (Q : Int) := by simp [IntKind.wrap, IntKind.bits, IntKind.signed]; omega
  clear hI hQ hP hy1
  have hSl : S.data.toList.length = 64 := by rw [Array.length_toList]; exact HHS.out
  obtain ⟨c, hc, hcell, hfz⟩ := HBY.out.at (i := I) (by omega)
  obtain ⟨v, hv, hxor⟩ := xor_u8 c P
  have HBY7 : Hid (BytesAt (w6.setCell ⟨g, I, none⟩ (.int .u8 (v : Int))) g (S.data.toList.set I (UInt8.ofNat v))) := Lib.hid (HBY.out.set (by omega) hv)
  have HB7 : Hid (Below w.heap.size w (w6.setCell ⟨g, I, none⟩ (.int .u8 (v : Int)))) := Lib.hid (HB6.out.setCell (p := ⟨g, I, none⟩) (by rw [← hg]; exact HB5.out.size) _)
  have HD7 : Hid (Dev w.heap.size (w6.setCell ⟨g, I, none⟩ (.int .u8 (v : Int))) b st1) := Lib.hid (HD6.out.off (HBY.out.offSet _) (by decide) (by decide) (by decide))
  have HL7 : Hid ((S.data.toList.set I (UInt8.ofNat v)).length = 64) := Lib.hid (by rw [List.length_set]; exact hSl)
  generalize S.data.toList.set I (UInt8.ofNat v) = l7 at *
  generalize hw7 : w6.setCell ⟨g, I, none⟩ (.int .u8 (v : Int)) = w7 at *
  by_cases hraw : raw.size = 64
  · obtain ⟨cap2, w8, hcv8, hby8, hb8⟩ := str_bytes w7 raw
    rw [hraw] at hcv8
    have HB8 : Hid (Below w.heap.size w w8) := Lib.hid (HB7.out.trans (hb8.mono HB7.out.size))
    have HD8 := Lib.hid (HD7.out.below hb8)
    have HBY8 := Lib.hid hby8
    have HL8 : Hid (raw.data.toList.length = 64) := Lib.hid (by rw [Array.length_toList]; exact hraw)
    generalize raw.data.toList = l8 at *
    clear hb8 hby8
    generalize hg8 : w7.heap.size = g8 at *
    obtain ⟨T, hT⟩ : ∃ T : ByteArray, (⟨l8.toArray⟩ : ByteArray) = T := ⟨_, rfl⟩
    have hTs : T.size = 64 := by
      rw [← hT]
      show l8.toArray.size = 64
      rw [List.size_toArray]
      exact HL8.out
    have hcT := HBY8.out.conv (cap := cap2) HL8.out
    rw [hT] at hcT
    have HCT : Hid (∀ W, BytesAt W g8 l8 → (convert 37 9 (.slice (some ⟨g8, 0, none⟩) 64 cap2)).run Try.prog W = .ok (.string T) W) := Lib.hid (fun W h => by rw [← hT]; exact h.conv HL8.out)
    obtain ⟨E, hE⟩ : ∃ E, epochI T = E := ⟨_, rfl⟩
    have HEE : Hid (E = 0 ∨ (T = headB E ∧ E < 18446744073709551616)) := Lib.hid (by
      by_cases he : E = 0
      · exact Or.inl he
      · refine Or.inr ?_
        have h8 := numP_lt T.data.toList 8
        unfold epochI at hE
        split at hE
        · rename_i h9
          rw [← hE]
          exact ⟨h9, h8⟩
        · exact absurd hE.symm he)
    have HTS := Lib.hid hTs
    have HEQ := Lib.hid hE
    clear hT hE
    go_wp2_with fail
    refine (cQ.out _ b T _ HTS.out HD8.out HB8.out.size).mono ?_
    rintro e w9 ⟨rfl, hd9, hb9, ho9⟩
    have HB9 : Hid (Below w.heap.size w w9) := Lib.hid (HB8.out.trans hb9)
    have HD9 := Lib.hid hd9
    have HBY9 := Lib.hid (HBY8.out.off ho9 (by decide))
    clear hd9 hb9 ho9 hcT
    go_wp2_with fail
    refine (cY.out _ b T _ HTS.out HD9.out).mono ?_
    rintro e w10 ⟨rfl, hb10⟩
    rw [HEQ.out]
    have HB10 : Hid (Below w.heap.size w w10) := Lib.hid (HB9.out.trans (hb10.mono HB9.out.size))
    have HBY10 := Lib.hid (HBY9.out.kept hb10)
    clear hb10
    by_cases hE0 : E = 0
    · subst hE0
      go_wp2
      go_quiet (fail)
      have HBE : Hid (Below w.heap.size w (w10.drewN nq)) := Lib.hid (Below.drewS HB10.out nq)
      go_wp2
      go_ret
      exact ⟨rfl, HBE.out⟩
    · obtain ⟨hTE, hEl⟩ := HEE.out.resolve_left hE0
      have hEz : ((E : Int) == 0) = false := by rw [beq_eq_false_iff_ne]; omega
      have HHY : Hid (∀ W, Below w10.heap.size w10 W → Calls Try.prog 26 #[.int .u64 E] W fun e w' => e = .returned (.string T) ∧ Below w10.heap.size w10 w') := Lib.hid (fun W hW => by
        have h1 := head7_c E W hEl
        rw [← hTE] at h1
        exact h1.mono fun e w' h => ⟨h.1, hW.trans (h.2.mono hW.size)⟩)
      have HSK : Hid (∀ W, Below w10.heap.size w10 W → (Below w10.heap.size w10 W ∧ (convert 37 9 (.slice (some ⟨g8, 0, none⟩) 64 cap2)).run Try.prog W = .ok (.string T) W)) := Lib.hid (fun W h => ⟨h, HCT.out W (HBY10.out.kept h)⟩)
      have hcT := HCT.out w10 HBY10.out
      clear hTE hE0
      go_wp2
      go_region_held3 (fun W => Below w10.heap.size w10 W ∧ (convert 37 9 (.slice (some ⟨g8, 0, none⟩) 64 cap2)).run Try.prog W = .ok (.string T) W) ((refine HSK.out _ ?_; first | assumption | exact (Below.refl _ _).drew | exact Below.refl _ _ | exact Below.drew ‹_›)) (first | (go_at_call 26; refine (HHY.out _ ?_).mono ?_; (first | assumption | exact (Below.refl _ _).drew | exact Below.refl _ _ | exact Below.drew ‹_›); rintro e w11 ⟨rfl, hb11⟩))
      have HB11 : Hid (Below w.heap.size w w11) := Lib.hid (HB10.out.trans (hb11.mono HB10.out.size))
      clear hb11
      go_wp2
      go_ret
      exact ⟨rfl, HB11.out⟩
  · have hrz : ((raw.size : Int) == 64) = false := by rw [beq_eq_false_iff_ne]; omega
    obtain ⟨T, hT⟩ : ∃ T : ByteArray, (⟨l7.toArray⟩ : ByteArray) = T := ⟨_, rfl⟩
    have hTs : T.size = 64 := by
      rw [← hT]
      show l7.toArray.size = 64
      rw [List.size_toArray]
      exact HL7.out
    have hcT := HBY7.out.conv (cap := cap) HL7.out
    rw [hT] at hcT
    have HCT : Hid (∀ W, BytesAt W g l7 → (convert 37 9 (.slice (some ⟨g, 0, none⟩) 64 cap)).run Try.prog W = .ok (.string T) W) := Lib.hid (fun W h => by rw [← hT]; exact h.conv HL7.out)
    obtain ⟨E, hE⟩ : ∃ E, epochI T = E := ⟨_, rfl⟩
    have HEE : Hid (E = 0 ∨ (T = headB E ∧ E < 18446744073709551616)) := Lib.hid (by
      by_cases he : E = 0
      · exact Or.inl he
      · refine Or.inr ?_
        have h8 := numP_lt T.data.toList 8
        unfold epochI at hE
        split at hE
        · rename_i h9
          rw [← hE]
          exact ⟨h9, h8⟩
        · exact absurd hE.symm he)
    have HTS := Lib.hid hTs
    have HEQ := Lib.hid hE
    clear hT hE
    go_wp2_with fail
    refine (cQ.out _ b T _ HTS.out HD7.out HB7.out.size).mono ?_
    rintro e w9 ⟨rfl, hd9, hb9, ho9⟩
    have HB9 : Hid (Below w.heap.size w w9) := Lib.hid (HB7.out.trans hb9)
    have HD9 := Lib.hid hd9
    have HBY9 := Lib.hid (HBY7.out.off ho9 (by decide))
    clear hd9 hb9 ho9 hcT
    go_wp2_with fail
    refine (cY.out _ b T _ HTS.out HD9.out).mono ?_
    rintro e w10 ⟨rfl, hb10⟩
    rw [HEQ.out]
    have HB10 : Hid (Below w.heap.size w w10) := Lib.hid (HB9.out.trans (hb10.mono HB9.out.size))
    have HBY10 := Lib.hid (HBY9.out.kept hb10)
    clear hb10
    by_cases hE0 : E = 0
    · subst hE0
      go_wp2
      go_quiet (fail)
      have HBE : Hid (Below w.heap.size w (w10.drewN nq)) := Lib.hid (Below.drewS HB10.out nq)
      go_wp2
      go_ret
      exact ⟨rfl, HBE.out⟩
    · obtain ⟨hTE, hEl⟩ := HEE.out.resolve_left hE0
      have hEz : ((E : Int) == 0) = false := by rw [beq_eq_false_iff_ne]; omega
      have HHY : Hid (∀ W, Below w10.heap.size w10 W → Calls Try.prog 26 #[.int .u64 E] W fun e w' => e = .returned (.string T) ∧ Below w10.heap.size w10 w') := Lib.hid (fun W hW => by
        have h1 := head7_c E W hEl
        rw [← hTE] at h1
        exact h1.mono fun e w' h => ⟨h.1, hW.trans (h.2.mono hW.size)⟩)
      have HSK : Hid (∀ W, Below w10.heap.size w10 W → (Below w10.heap.size w10 W ∧ (convert 37 9 (.slice (some ⟨g, 0, none⟩) 64 cap)).run Try.prog W = .ok (.string T) W)) := Lib.hid (fun W h => ⟨h, HCT.out W (HBY10.out.kept h)⟩)
      have hcT := HCT.out w10 HBY10.out
      clear hTE hE0
      go_wp2
      go_region_held3 (fun W => Below w10.heap.size w10 W ∧ (convert 37 9 (.slice (some ⟨g, 0, none⟩) 64 cap)).run Try.prog W = .ok (.string T) W) ((refine HSK.out _ ?_; first | assumption | exact (Below.refl _ _).drew | exact Below.refl _ _ | exact Below.drew ‹_›)) (first | (go_at_call 26; refine (HHY.out _ ?_).mono ?_; (first | assumption | exact (Below.refl _ _).drew | exact Below.refl _ _ | exact Below.drew ‹_›); rintro e w11 ⟨rfl, hb11⟩))
      have HB11 : Hid (Below w.heap.size w w11) := Lib.hid (HB10.out.trans (hb11.mono HB10.out.size))
      clear hb11
      go_wp2
      go_ret
      exact ⟨rfl, HB11.out⟩
end Go.Proofs.Ytkmfblbkaihbdaa
