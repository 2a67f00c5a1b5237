/-
  Plain facts on UTF-8: no call of the program stands here. 'isR': is a number a character; 'bsOf': its bytes, none if it is no character. No character's bytes begin with another one's.
-/
import Derived.Lib.MapLaws
import Derived.Lib.TrimUEq
namespace Go.Proofs.Ytjakelphkehonaa
open Go.Lib

def isR (r : Int) : Bool := decide ((0 ≤ r ∧ r < 55296) ∨ (57343 < r ∧ r ≤ 1114111))
def bsOf (r : Int) : ByteArray := if isR r = true then Utf8.encode r else ⟨#[]⟩

theorem isR_of {r : Int} (h : (0 ≤ r ∧ r < 55296) ∨ (57343 < r ∧ r ≤ 1114111)) : isR r = true := decide_eq_true h
theorem isR_not {r : Int} (h : ¬ ((0 ≤ r ∧ r < 55296) ∨ (57343 < r ∧ r ≤ 1114111))) : isR r = false := decide_eq_false h
theorem isR_is {r : Int} (h : isR r = true) : (0 ≤ r ∧ r < 55296) ∨ (57343 < r ∧ r ≤ 1114111) := of_decide_eq_true h
theorem isR_isnt {r : Int} (h : isR r = false) : ¬ ((0 ≤ r ∧ r < 55296) ∨ (57343 < r ∧ r ≤ 1114111)) := of_decide_eq_false h

theorem isR_valid (r : Int) : Utf8.valid r = isR r := by
  simp only [Utf8.valid, isR]
  by_cases h : (0 ≤ r ∧ r < 55296) ∨ (57343 < r ∧ r ≤ 1114111)
  · rw [decide_eq_true h]; rcases h with h | h <;> simp <;> omega
  · rw [decide_eq_false h]; simp; omega

theorem enc1 (n : Nat) (h : n < 128) : encodeRune (n : Int) = [UInt8.ofNat n] := by
  unfold encodeRune
  rw [encodeRuneZ_one (by omega) (by omega)]
  have e1 : ((n : Int)).toNat = n := by omega
  simp only [List.map, e1]
theorem enc2 (n : Nat) (h : 128 ≤ n) (h' : n < 2048) : encodeRune (n : Int) = [UInt8.ofNat (192 + n / 64), UInt8.ofNat (128 + n % 64)] := by
  unfold encodeRune
  rw [encodeRuneZ_two (by omega) (by omega)]
  have e1 : (192 + (n : Int) / 64).toNat = 192 + n / 64 := by omega
  have e2 : (128 + (n : Int) % 64).toNat = 128 + n % 64 := by omega
  simp only [List.map, e1, e2]
theorem enc3 (n : Nat) (h : 2048 ≤ n) (h' : n < 65536) (hr : n < 55296 ∨ 57343 < n) : encodeRune (n : Int) = [UInt8.ofNat (224 + n / 4096), UInt8.ofNat (128 + n / 64 % 64), UInt8.ofNat (128 + n % 64)] := by
  unfold encodeRune
  rw [encodeRuneZ_three (by omega)]
  have e1 : (224 + (n : Int) / 4096).toNat = 224 + n / 4096 := by omega
  have e2 : (128 + (n : Int) / 64 % 64).toNat = 128 + n / 64 % 64 := by omega
  have e3 : (128 + (n : Int) % 64).toNat = 128 + n % 64 := by omega
  simp only [List.map, e1, e2, e3]
theorem enc4 (n : Nat) (h : 65536 ≤ n) (h' : n ≤ 1114111) : encodeRune (n : Int) = [UInt8.ofNat (240 + n / 262144), UInt8.ofNat (128 + n / 4096 % 64), UInt8.ofNat (128 + n / 64 % 64), UInt8.ofNat (128 + n % 64)] := by
  unfold encodeRune
  rw [encodeRuneZ_four (by omega) (by omega)]
  have e1 : (240 + (n : Int) / 262144).toNat = 240 + n / 262144 := by omega
  have e2 : (128 + (n : Int) / 4096 % 64).toNat = 128 + n / 4096 % 64 := by omega
  have e3 : (128 + (n : Int) / 64 % 64).toNat = 128 + n / 64 % 64 := by omega
  have e4 : (128 + (n : Int) % 64).toNat = 128 + n % 64 := by omega
  simp only [List.map, e1, e2, e3, e4]

theorem encode_toList (r : Int) (h : isR r = true) : (Utf8.encode r).data.toList = encodeRune r := by
  have hv := isR_valid r
  rw [h] at hv
  have hr := isR_is h
  obtain ⟨n, rfl⟩ : ∃ n : Nat, r = (n : Int) := ⟨r.toNat, by omega⟩
  have hn : ((n : Int)).toNat = n := by omega
  unfold Utf8.encode
  simp only [hv, if_true, hn]
  by_cases h1 : n < 128
  · rw [if_pos h1, enc1 n h1]
  · rw [if_neg h1]
    by_cases h2 : n < 2048
    · rw [if_pos h2, enc2 n (by omega) h2]
    · rw [if_neg h2]
      by_cases h3 : n < 65536
      · rw [if_pos h3, enc3 n (by omega) h3 (by omega)]
      · rw [if_neg h3, enc4 n (by omega) (by omega)]

theorem u8n (n : Nat) (h : n < 256) : (UInt8.ofNat n).toNat = n := by simp; omega

theorem dec_enc (r : Int) (h : isR r = true) (t : List UInt8) : decodeL (encodeRune r ++ t) = (r.toNat, (encodeRune r).length) := by
  have hr := isR_is h
  obtain ⟨n, rfl⟩ : ∃ n : Nat, r = (n : Int) := ⟨r.toNat, by omega⟩
  have hn : ((n : Int)).toNat = n := by omega
  rw [decodeL_N, hn]
  by_cases h1 : n < 128
  · rw [enc1 n h1]
    simp only [List.cons_append, List.nil_append, List.getD_cons_zero, List.length_cons, List.length_nil]
    rw [u8n n (by omega)]
    unfold decodeN
    rw [if_pos h1]
  · by_cases h2 : n < 2048
    · rw [enc2 n (by omega) h2]
      simp only [List.cons_append, List.nil_append, List.getD_cons_zero, List.getD_cons_succ, List.length_cons, List.length_nil]
      rw [u8n (192 + n / 64) (by omega), u8n (128 + n % 64) (by omega)]
      unfold decodeN
      rw [if_neg (by omega), if_pos (by omega), if_pos (by omega)]
      exact Prod.ext (by simp only; omega) rfl
    · by_cases h3 : n < 65536
      · rw [enc3 n (by omega) h3 (by omega)]
        simp only [List.cons_append, List.nil_append, List.getD_cons_zero, List.getD_cons_succ, List.length_cons, List.length_nil]
        rw [u8n (224 + n / 4096) (by omega), u8n (128 + n / 64 % 64) (by omega), u8n (128 + n % 64) (by omega)]
        unfold decodeN
        rw [if_neg (by omega), if_neg (by omega), if_pos (by omega), if_pos (by omega)]
        exact Prod.ext (by simp only; omega) rfl
      · rw [enc4 n (by omega) (by omega)]
        simp only [List.cons_append, List.nil_append, List.getD_cons_zero, List.getD_cons_succ, List.length_cons, List.length_nil]
        rw [u8n (240 + n / 262144) (by omega), u8n (128 + n / 4096 % 64) (by omega), u8n (128 + n / 64 % 64) (by omega), u8n (128 + n % 64) (by omega)]
        unfold decodeN
        rw [if_neg (by omega), if_neg (by omega), if_neg (by omega), if_pos (by omega), if_pos (by omega)]
        exact Prod.ext (by simp only; omega) rfl

theorem enc_first {a b : Int} (ha : isR a = true) (hb : isR b = true) {t : List UInt8} (h : encodeRune b = encodeRune a ++ t) : a = b := by
  have h1 := dec_enc a ha t
  have h2 := dec_enc b hb []
  rw [List.append_nil, h, h1] at h2
  have := congrArg Prod.fst h2
  have ra := isR_is ha
  have rb := isR_is hb
  simp only at this
  omega

theorem bsOf_size (r : Int) : (bsOf r).size ≤ 4 := by
  unfold bsOf
  by_cases h : isR r = true
  · rw [if_pos h]
    have e := encode_toList r h
    have l := encodeRuneZ_length r
    have : (Utf8.encode r).size = (encodeRuneZ r).length := by
      show (Utf8.encode r).data.size = _
      rw [← Array.length_toList, e]; simp [encodeRune]
    omega
  · rw [if_neg h]; show 0 ≤ 4; omega

theorem bsOf_toList {r : Int} (h : isR r = true) : (bsOf r).data.toList = encodeRune r := by unfold bsOf; rw [if_pos h]; exact encode_toList r h
theorem bsOf_none {r : Int} (h : isR r = false) : bsOf r = ⟨#[]⟩ := by unfold bsOf; rw [if_neg (by rw [h]; decide)]

theorem bsOf_first {a b : Int} (ha : isR a = true) (hab : a ≠ b) (hl : (bsOf a).size ≤ (bsOf b).size) : (bsOf b).extract 0 (bsOf a).size ≠ bsOf a := by
  intro hx
  have hla : (bsOf a).size = (encodeRune a).length := by rw [← bsOf_toList ha]; simp
  have h4 : 1 ≤ (encodeRune a).length := by have := encodeRuneZ_length a; simpa [encodeRune] using this.1
  by_cases hb : isR b = true
  · apply hab
    refine enc_first ha hb (t := (encodeRune b).drop (encodeRune a).length) ?_
    have := congrArg (fun s : ByteArray => s.data.toList) hx
    simp only [ByteArray.data_extract, Array.toList_extract] at this
    rw [bsOf_toList ha, bsOf_toList hb, hla] at this
    simp only [List.extract_eq_take_drop, Nat.sub_zero, List.drop_zero] at this
    conv => lhs; rw [← List.take_append_drop (encodeRune a).length (encodeRune b)]
    rw [this]
  · have hb' : isR b = false := by simpa using hb
    rw [bsOf_none hb'] at hl
    have : (ByteArray.mk #[]).size = 0 := rfl
    omega
end Go.Proofs.Ytjakelphkehonaa
