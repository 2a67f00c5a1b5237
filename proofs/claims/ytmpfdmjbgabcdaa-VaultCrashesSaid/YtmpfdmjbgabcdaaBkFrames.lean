/-
  A bank (stage 7): a record's frames; the bytes of frames.
-/
import Derived.Test.YtmpfdmjbgabcdaaBkFramed
import Derived.Test.YtmpfdmjbgabcdaaBkBu
namespace Go.Proofs.Ytmpfdmjbgabcdaa
open Go.RowKit Go.Sort
set_option linter.unusedVariables false

def strLen : Value → Nat
  | .string s => s.size
  | _ => 0
theorem strLen_str (s : ByteArray) : strLen (.string s) = s.size := rfl
theorem extract_tail (R : ByteArray) (j q : Nat) (hq : R.size = q) (hj : j = min 62 q) : (R.extract j q).data.toList = R.data.toList.drop 62 := by
  rw [ByteArray.data_extract, Array.toList_extract]
  show (R.data.toList.drop j).take (q - j) = _
  have hl : R.data.toList.length = q := by rw [Array.length_toList]; exact hq
  by_cases h : 62 ≤ q
  · rw [hj, Nat.min_eq_left h, List.take_of_length_le (by rw [List.length_drop, hl]; omega)]
  · rw [hj, Nat.min_eq_right (by omega), List.drop_eq_nil_of_le (by omega), List.drop_eq_nil_of_le (by omega), List.take_nil]
theorem size_nil {R : ByteArray} (h : R.size ≠ 0) : R.data.toList ≠ [] := fun e => h (by
  have := congrArg List.length e
  rw [Array.length_toList] at this
  exact this)
set_option maxHeartbeats 8000000 in
set_option maxRecDepth 100000 in
theorem frames_c (s : ByteArray) (w : World) (hs : s.size ≤ 60000) : Calls Try.prog 65 #[.string s] w (CutPost s w) := by
  unfold CutPost
  obtain ⟨n, hn⟩ : ∃ n, s.size = n := ⟨_, rfl⟩
  have HN := Lib.hid hn
  rw [hn] at hs
  obtain ⟨i0, hi0, hz0, hz1, hz2⟩ := info_parts Try.infoStr7
  obtain ⟨w1, hm, hown, hgrow⟩ := run_make_own (P := Try.prog) w w.heap.size 39 9 i0 (.string ⟨#[]⟩) 1 Try.underlying39 hi0 hz0 hz1 .i64 .i64 ((n + 61) / 62) (by rw [hz2]; omega) (by unfold maxLen; omega) (Nat.le_refl _)
  have cF := frames_n n w (by omega)
  rw [framesI_nat] at cF
  have HO0 := Lib.hid hown
  have HB0 : Hid (Below w.heap.size w w1) := Lib.hid ((Below.refl _ _).grown hgrow (Nat.le_refl _) (fun k hk => by cases hk))
  clear hown hgrow
  generalize (n + 61) / 62 = kf at *
  go_enter Try.func65, Try.ntmps65
  go_wp2_with fail
  refine cF.mono ?_
  rintro e w0 ⟨rfl, rfl⟩
  clear cF
  go_wp2
  clear hm
  go_loopw [4, 3] (fun rv ov wr => ∃ (R : ByteArray) (out : List (List UInt8)), R.size ≤ n ∧ rv = .string R ∧ out ++ cutB R.data.toList = cutB s.data.toList ∧ (∃ o, o = ov ∧ wr.ownsRow w.heap.size 9 1 o out.length (frV out)) ∧ Below w.heap.size w wr) (fun rv _ _ => strLen rv)
  case atStart => exact ⟨s, [], by omega, rfl, rfl, ⟨_, rfl, HO0.out⟩, HB0.out⟩
  case round =>
    obtain ⟨R, out, hR, rfl, hc, ⟨ov, rfl, hown⟩, hb⟩ := hrel
    have HC := Lib.hid hc
    have HO := Lib.hid hown
    have HB := Lib.hid hb
    clear hc hown hb
    obtain ⟨q, hq⟩ : ∃ q, R.size = q := ⟨_, rfl⟩
    have HQ := Lib.hid hq
    rw [hq] at hR
    by_cases hq0 : q = 0
    · have hRe : R = ⟨#[]⟩ := by
        cases R with
        | mk d =>
          congr 1
          exact Array.eq_empty_of_size_eq_zero (by rw [← hq0, ← hq]; rfl)
      subst hRe
      have HE2 : Hid (cutB s.data.toList = out) := Lib.hid (by
        rw [← HC.out]
        show out ++ cutB [] = out
        rw [cutB_nil, List.append_nil])
      go_wp2
      go_ret
      exact ⟨_, rfl, by rw [HE2.out]; exact HO.out, HB.out⟩
    · have hne : (R.toList == (⟨#[]⟩ : ByteArray).toList) = false := toList_ne (fun e => hq0 (by rw [← hq, e]; rfl))
      have hne2 : (R.toList == []) = false := by
        rw [ByteArray.toList_eq, beq_eq_false_iff_ne]
        exact size_nil (by rw [hq]; exact hq0)
      have hne3 : R ≠ ⟨#[]⟩ := fun e => hq0 (by rw [← hq, e]; rfl)
      have cFr := fun W => framed_c R W (by omega)
      obtain ⟨F, hF⟩ : ∃ F, frameB R.data.toList = F := ⟨_, rfl⟩
      have HF := Lib.hid hF
      rw [hF] at cFr
      clear hF
      obtain ⟨j, hj⟩ : ∃ j, min 62 q = j := ⟨_, rfl⟩
      have hjz : min (62 : Int) (q : Int) = (j : Int) := by omega
      have hj0 : (0 : Int) ≤ (j : Int) := by omega
      have hjq : (j : Int) ≤ (q : Int) := by omega
      have HOL : Hid (out.length ≤ 2000) := Lib.hid (by
        have h1 := congrArg List.length HC.out
        rw [List.length_append, cutB_length s.data.toList] at h1
        have h2 : s.data.toList.length = n := by rw [Array.length_toList]; exact HN.out
        rw [h2] at h1
        omega)
      have HJ := Lib.hid hj
      clear hj
      go_wp2_with fail
      refine (cFr _).mono ?_
      rintro e w2 ⟨rfl, hb2⟩
      have hown1 := HO.out.kept (grown_of_belowB hb2 none) (by cases h : ov.ownBlock with | none => exact Or.inl rfl | some x => exact Or.inr (by simp))
      have HO2 := Lib.hid hown1
      have HB2 : Hid (Below w.heap.size w w2) := Lib.hid (HB.out.trans (hb2.mono HB.out.size))
      have HA3 : Hid ((w2.alloc (.cells #[.string ⟨F.toArray⟩] 9)).ownsRow w.heap.size 9 1 ov out.length (frV out)) := Lib.hid (HO2.out.alloc _)
      clear hown1 hb2 cFr
      go_wp2_with (at_builtin; refine wpList_append_own _ rfl _ _ 39 rfl w.heap.size 9 i0 (.string ⟨#[]⟩) 1 16 Try.underlying39 hi0 hz0 hz1 hz2 rfl (by decide) _ _ _ rfl HA3.out ⟨w2.heap.size, 0, none⟩ 1 1 [.string ⟨F.toArray⟩] rfl rfl ?c1 ?c2 ?c3 ?c4 ?c5 ?_)
      case c1 =>
        intro j u hj
        match j, hj with
        | 0, hj => simp at hj; subst hj; simp [Addr.add]
      case c2 => intro u hu; simp at hu; subst hu; rfl
      case c3 => have := HOL.out; unfold maxLen; omega
      case c4 => have := HOL.out; omega
      case c5 => have h1 := HB2.out.size; simp; omega
      intro v' w3 hown' hgrow _
      have HO3 := Lib.hid hown'
      have HG3 := Lib.hid hgrow
      clear hown' hgrow
      go_wp2
      go_roundw
      case rel =>
        refine ⟨R.extract j q, out ++ [F], ?_, by first | rfl | (congr 1), ?_, ⟨_, rfl, ?_⟩, ?_⟩
        · have h1 := extract_tail R j q HQ.out HJ.out.symm
          have h2 : (R.extract j q).size = (R.extract j q).data.toList.length := by rw [Array.length_toList]; rfl
          have h3 : R.data.toList.length = q := by rw [Array.length_toList]; exact HQ.out
          rw [h2, h1, List.length_drop, h3]
          omega
        · rw [← HC.out, extract_tail R j q HQ.out HJ.out.symm, cutB_cons (r := R.data.toList) (size_nil (by rw [HQ.out]; exact hq0)), HF.out, List.append_assoc]
          rfl
        · have := HO3.out
          simpa [frV] using this
        · exact (HB2.out.alloc HB2.out.size _).grown HG3.out (by have := HB2.out.size; simp; omega) (fun j hj => (HO2.out.lt j hj).1)
      case measure =>
        rw [strLen_str, strLen_str]
        have h1 := extract_tail R j q HQ.out HJ.out.symm
        have h2 : (R.extract j q).size = (R.extract j q).data.toList.length := by rw [Array.length_toList]; rfl
        have h3 : R.data.toList.length = q := by rw [Array.length_toList]; exact HQ.out
        have h4 := HQ.out
        rw [h2, h1, List.length_drop, h3]
        omega
end Go.Proofs.Ytmpfdmjbgabcdaa
