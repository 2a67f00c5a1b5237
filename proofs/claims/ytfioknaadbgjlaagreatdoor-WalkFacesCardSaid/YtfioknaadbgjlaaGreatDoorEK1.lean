/- Kit. -/
import Derived.Lib.MapLaws
import Derived.Lib.TrimUEq
import Derived.Lib.ValidLaws
import Derived.Laws.IdiomStrings
import Derived.WalkKit
import Derived.Lib.Hide
import Derived.Deep.QuietTactic
set_option maxRecDepth 100000
set_option linter.unusedVariables false
set_option linter.unusedSimpArgs false
namespace Go.Proofs.YtfioknaadbgjlaaGreatDoor.F
open Go.Lib
def isR (r : Int) : Bool := decide ((0 ≤ r ∧ r < 55296) ∨ (57343 < r ∧ r ≤ 1114111))
def bsOf (r : Int) : ByteArray := if isR r = true then Utf8.encode r else ⟨#[]⟩
theorem isR_of {r : Int} (h : (0 ≤ r ∧ r < 55296) ∨ (57343 < r ∧ r ≤ 1114111)) : isR r = true := decide_eq_true h
theorem isR_not {r : Int} (h : ¬ ((0 ≤ r ∧ r < 55296) ∨ (57343 < r ∧ r ≤ 1114111))) : isR r = false := decide_eq_false h
theorem isR_is {r : Int} (h : isR r = true) : (0 ≤ r ∧ r < 55296) ∨ (57343 < r ∧ r ≤ 1114111) := of_decide_eq_true h
theorem isR_valid (r : Int) : Utf8.valid r = isR r := by
  simp only [Utf8.valid, isR]
  by_cases h : (0 ≤ r ∧ r < 55296) ∨ (57343 < r ∧ r ≤ 1114111)
  · rw [decide_eq_true h]; rcases h with h | h <;> simp <;> omega
  · rw [decide_eq_false h]; simp; omega
theorem enc1 (n : Nat) (h : n < 128) : encodeRune (n : Int) = [UInt8.ofNat n] := by
  unfold encodeRune
  rw [encodeRuneZ_one (by omega) (by omega)]
  have e1 : ((n : Int)).toNat = n := by omega
  simp only [List.map, e1]
theorem enc2 (n : Nat) (h : 128 ≤ n) (h' : n < 2048) : encodeRune (n : Int) = [UInt8.ofNat (192 + n / 64), UInt8.ofNat (128 + n % 64)] := by
  unfold encodeRune
  rw [encodeRuneZ_two (by omega) (by omega)]
  have e1 : (192 + (n : Int) / 64).toNat = 192 + n / 64 := by omega
  have e2 : (128 + (n : Int) % 64).toNat = 128 + n % 64 := by omega
  simp only [List.map, e1, e2]
theorem enc3 (n : Nat) (h : 2048 ≤ n) (h' : n < 65536) (hr : n < 55296 ∨ 57343 < n) : encodeRune (n : Int) = [UInt8.ofNat (224 + n / 4096), UInt8.ofNat (128 + n / 64 % 64), UInt8.ofNat (128 + n % 64)] := by
  unfold encodeRune
  rw [encodeRuneZ_three (by omega)]
  have e1 : (224 + (n : Int) / 4096).toNat = 224 + n / 4096 := by omega
  have e2 : (128 + (n : Int) / 64 % 64).toNat = 128 + n / 64 % 64 := by omega
  have e3 : (128 + (n : Int) % 64).toNat = 128 + n % 64 := by omega
  simp only [List.map, e1, e2, e3]
theorem enc4 (n : Nat) (h : 65536 ≤ n) (h' : n ≤ 1114111) : encodeRune (n : Int) = [UInt8.ofNat (240 + n / 262144), UInt8.ofNat (128 + n / 4096 % 64), UInt8.ofNat (128 + n / 64 % 64), UInt8.ofNat (128 + n % 64)] := by
  unfold encodeRune
  rw [encodeRuneZ_four (by omega) (by omega)]
  have e1 : (240 + (n : Int) / 262144).toNat = 240 + n / 262144 := by omega
  have e2 : (128 + (n : Int) / 4096 % 64).toNat = 128 + n / 4096 % 64 := by omega
  have e3 : (128 + (n : Int) / 64 % 64).toNat = 128 + n / 64 % 64 := by omega
  have e4 : (128 + (n : Int) % 64).toNat = 128 + n % 64 := by omega
  simp only [List.map, e1, e2, e3, e4]
theorem encode_toList (r : Int) (h : isR r = true) : (Utf8.encode r).data.toList = encodeRune r := by
  have hv := isR_valid r
  rw [h] at hv
  have hr := isR_is h
  obtain ⟨n, rfl⟩ : ∃ n : Nat, r = (n : Int) := ⟨r.toNat, by omega⟩
  have hn : ((n : Int)).toNat = n := by omega
  unfold Utf8.encode
  simp only [hv, if_true, hn]
  by_cases h1 : n < 128
  · rw [if_pos h1, enc1 n h1]
  · rw [if_neg h1]
    by_cases h2 : n < 2048
    · rw [if_pos h2, enc2 n (by omega) h2]
    · rw [if_neg h2]
      by_cases h3 : n < 65536
      · rw [if_pos h3, enc3 n (by omega) h3 (by omega)]
      · rw [if_neg h3, enc4 n (by omega) (by omega)]
theorem u8n (n : Nat) (h : n < 256) : (UInt8.ofNat n).toNat = n := by simp; omega
theorem dec_enc (r : Int) (h : isR r = true) (t : List UInt8) : decodeL (encodeRune r ++ t) = (r.toNat, (encodeRune r).length) := by
  have hr := isR_is h
  obtain ⟨n, rfl⟩ : ∃ n : Nat, r = (n : Int) := ⟨r.toNat, by omega⟩
  have hn : ((n : Int)).toNat = n := by omega
  rw [decodeL_N, hn]
  by_cases h1 : n < 128
  · rw [enc1 n h1]
    simp only [List.cons_append, List.nil_append, List.getD_cons_zero, List.length_cons, List.length_nil]
    rw [u8n n (by omega)]
    unfold decodeN
    rw [if_pos h1]
  · by_cases h2 : n < 2048
    · rw [enc2 n (by omega) h2]
      simp only [List.cons_append, List.nil_append, List.getD_cons_zero, List.getD_cons_succ, List.length_cons, List.length_nil]
      rw [u8n (192 + n / 64) (by omega), u8n (128 + n % 64) (by omega)]
      unfold decodeN
      rw [if_neg (by omega), if_pos (by omega), if_pos (by omega)]
      exact Prod.ext (by simp only; omega) rfl
    · by_cases h3 : n < 65536
      · rw [enc3 n (by omega) h3 (by omega)]
        simp only [List.cons_append, List.nil_append, List.getD_cons_zero, List.getD_cons_succ, List.length_cons, List.length_nil]
        rw [u8n (224 + n / 4096) (by omega), u8n (128 + n / 64 % 64) (by omega), u8n (128 + n % 64) (by omega)]
        unfold decodeN
        rw [if_neg (by omega), if_neg (by omega), if_pos (by omega), if_pos (by omega)]
        exact Prod.ext (by simp only; omega) rfl
      · rw [enc4 n (by omega) (by omega)]
        simp only [List.cons_append, List.nil_append, List.getD_cons_zero, List.getD_cons_succ, List.length_cons, List.length_nil]
        rw [u8n (240 + n / 262144) (by omega), u8n (128 + n / 4096 % 64) (by omega), u8n (128 + n / 64 % 64) (by omega), u8n (128 + n % 64) (by omega)]
        unfold decodeN
        rw [if_neg (by omega), if_neg (by omega), if_neg (by omega), if_pos (by omega), if_pos (by omega)]
        exact Prod.ext (by simp only; omega) rfl
theorem bsOf_size (r : Int) : (bsOf r).size ≤ 4 := by
  unfold bsOf
  by_cases h : isR r = true
  · rw [if_pos h]
    have e := encode_toList r h
    have l := encodeRuneZ_length r
    have : (Utf8.encode r).size = (encodeRuneZ r).length := by
      show (Utf8.encode r).data.size = _
      rw [← Array.length_toList, e]; simp [encodeRune]
    omega
  · rw [if_neg h]; show 0 ≤ 4; omega
theorem bsOf_toList {r : Int} (h : isR r = true) : (bsOf r).data.toList = encodeRune r := by unfold bsOf; rw [if_pos h]; exact encode_toList r h
theorem bsOf_none {r : Int} (h : isR r = false) : bsOf r = ⟨#[]⟩ := by unfold bsOf; rw [if_neg (by rw [h]; decide)]
end Go.Proofs.YtfioknaadbgjlaaGreatDoor.F
namespace Go.Proofs.YtfioknaadbgjlaaGreatDoor.F
open Go.Lib
def gB (l : List UInt8) (i : Nat) : Nat := (l.getD i 0).toNat
def numL (s : Nat) (l : List UInt8) : Nat :=
  if s = 1 then gB l 0
  else if s = 2 then gB l 0 % 32 * 64 + gB l 1 % 64
  else if s = 3 then (gB l 0 % 16 * 64 + gB l 1 % 64) * 64 + gB l 2 % 64
  else ((gB l 0 % 8 * 64 + gB l 1 % 64) * 64 + gB l 2 % 64) * 64 + gB l 3 % 64
def Hit (s : Nat) (l : List UInt8) : Prop := s ≤ l.length ∧ isR (numL s l : Int) = true ∧ encodeRune (numL s l : Int) = l.take s
theorem gB_lt (l : List UInt8) (i : Nat) : gB l i < 256 := UInt8.toNat_lt _
/-- What decodes at the head: nothing, or a character and its bytes. -/
def nextL (l : List UInt8) : Nat × Nat := if l = [] then (0, 0) else if (decodeL l).1 = 65533 ∧ (decodeL l).2 = 1 then (0, 0) else decodeL l
theorem dec_range (l : List UInt8) (hne : l ≠ []) : isR ((decodeL l).1 : Int) = true := by
  rw [decodeL_N]
  have h0 : (l.getD 0 0).toNat < 256 := UInt8.toNat_lt _
  apply isR_of
  unfold decodeN
  repeat' split
  all_goals (simp only; omega)
theorem next_hit {l : List UInt8} (hne : l ≠ []) (hg : ¬ ((decodeL l).1 = 65533 ∧ (decodeL l).2 = 1)) : 1 ≤ (decodeL l).2 ∧ (decodeL l).2 ≤ 4 ∧ Hit (decodeL l).2 l := by
  have he := encode_decode l hne hg
  have hr := dec_range l hne
  have hw := decodeL_width l
  have hl := decodeL_le l hne
  have hi := isR_is hr
  generalize hc : (decodeL l).1 = c at *
  generalize hk : (decodeL l).2 = k at *
  have hlen : (encodeRune (c : Int)).length = k := by rw [he, List.length_take]; omega
  have h4 := (encodeRuneZ_length (c : Int)).2
  have h4' : k ≤ 4 := by rw [← hlen]; simpa [encodeRune] using h4
  refine ⟨hw, h4', hl, ?_⟩
  have hnum : numL k l = c := by
    have hgd : ∀ i, i < k → gB l i = gB (encodeRune (c : Int)) i := by
      intro i hik
      unfold gB
      rw [he, List.getD_eq_getElem?_getD, List.getD_eq_getElem?_getD, List.getElem?_take, if_pos hik]
    by_cases h1 : c < 128
    · have e := enc1 c h1
      have hk1 : k = 1 := by rw [← hlen, e]; rfl
      subst hk1
      unfold numL
      rw [if_pos rfl, hgd 0 (by omega), e]
      exact u8n c (by omega)
    · by_cases h2 : c < 2048
      · have e := enc2 c (by omega) h2
        have hk1 : k = 2 := by rw [← hlen, e]; rfl
        subst hk1
        unfold numL
        rw [if_neg (by omega), if_pos rfl, hgd 0 (by omega), hgd 1 (by omega), e]
        have a0 : gB [UInt8.ofNat (192 + c / 64), UInt8.ofNat (128 + c % 64)] 0 = 192 + c / 64 := u8n _ (by omega)
        have a1 : gB [UInt8.ofNat (192 + c / 64), UInt8.ofNat (128 + c % 64)] 1 = 128 + c % 64 := u8n _ (by omega)
        rw [a0, a1]
        omega
      · by_cases h3 : c < 65536
        · have e := enc3 c (by omega) h3 (by omega)
          have hk1 : k = 3 := by rw [← hlen, e]; rfl
          subst hk1
          unfold numL
          rw [if_neg (by omega), if_neg (by omega), if_pos rfl, hgd 0 (by omega), hgd 1 (by omega), hgd 2 (by omega), e]
          have a0 : gB [UInt8.ofNat (224 + c / 4096), UInt8.ofNat (128 + c / 64 % 64), UInt8.ofNat (128 + c % 64)] 0 = 224 + c / 4096 := u8n _ (by omega)
          have a1 : gB [UInt8.ofNat (224 + c / 4096), UInt8.ofNat (128 + c / 64 % 64), UInt8.ofNat (128 + c % 64)] 1 = 128 + c / 64 % 64 := u8n _ (by omega)
          have a2 : gB [UInt8.ofNat (224 + c / 4096), UInt8.ofNat (128 + c / 64 % 64), UInt8.ofNat (128 + c % 64)] 2 = 128 + c % 64 := u8n _ (by omega)
          rw [a0, a1, a2]
          omega
        · have e := enc4 c (by omega) (by omega)
          have hk1 : k = 4 := by rw [← hlen, e]; rfl
          subst hk1
          unfold numL
          rw [if_neg (by omega), if_neg (by omega), if_neg (by omega), hgd 0 (by omega), hgd 1 (by omega), hgd 2 (by omega), hgd 3 (by omega), e]
          have a0 : gB [UInt8.ofNat (240 + c / 262144), UInt8.ofNat (128 + c / 4096 % 64), UInt8.ofNat (128 + c / 64 % 64), UInt8.ofNat (128 + c % 64)] 0 = 240 + c / 262144 := u8n _ (by omega)
          have a1 : gB [UInt8.ofNat (240 + c / 262144), UInt8.ofNat (128 + c / 4096 % 64), UInt8.ofNat (128 + c / 64 % 64), UInt8.ofNat (128 + c % 64)] 1 = 128 + c / 4096 % 64 := u8n _ (by omega)
          have a2 : gB [UInt8.ofNat (240 + c / 262144), UInt8.ofNat (128 + c / 4096 % 64), UInt8.ofNat (128 + c / 64 % 64), UInt8.ofNat (128 + c % 64)] 2 = 128 + c / 64 % 64 := u8n _ (by omega)
          have a3 : gB [UInt8.ofNat (240 + c / 262144), UInt8.ofNat (128 + c / 4096 % 64), UInt8.ofNat (128 + c / 64 % 64), UInt8.ofNat (128 + c % 64)] 3 = 128 + c % 64 := u8n _ (by omega)
          rw [a0, a1, a2, a3]
          omega
  rw [hnum]
  exact ⟨hr, he⟩
/-- Of what is decoded: a character, of at most four bytes, that are in the list. -/
theorem nextL_facts (l : List UInt8) : nextL l = (0, 0) ∨ (l ≠ [] ∧ nextL l = decodeL l ∧ isR ((nextL l).1 : Int) = true ∧ 1 ≤ (nextL l).2 ∧ (nextL l).2 ≤ 4 ∧ (nextL l).2 ≤ l.length ∧ encodeRune ((nextL l).1 : Int) = l.take (nextL l).2) := by
  by_cases hne : l = []
  · left; unfold nextL; rw [if_pos hne]
  · by_cases hg : (decodeL l).1 = 65533 ∧ (decodeL l).2 = 1
    · left; unfold nextL; rw [if_neg hne, if_pos hg]
    · right
      have e : nextL l = decodeL l := by unfold nextL; rw [if_neg hne, if_neg hg]
      obtain ⟨a, b, c⟩ := next_hit hne hg
      rw [e]
      exact ⟨hne, rfl, dec_range l hne, a, b, decodeL_le l hne, encode_decode l hne hg⟩
end Go.Proofs.YtfioknaadbgjlaaGreatDoor.F
namespace Go.Proofs.YtfioknaadbgjlaaGreatDoor.F
open Go.Lib
def runesGo : Nat → List UInt8 → Option (List Int)
  | 0, _ => some []
  | n + 1, l => if l = [] then some [] else if (nextL l).2 = 0 then none else (runesGo n (l.drop (nextL l).2)).map (((nextL l).1 : Int) :: ·)
def runesL (l : List UInt8) : Option (List Int) := runesGo l.length l
theorem runesGo_more : ∀ (n m : Nat) (l : List UInt8), l.length ≤ n → n ≤ m → runesGo m l = runesGo n l
  | 0, 0, l, h, _ => rfl
  | 0, m + 1, l, h, _ => by
    have : l = [] := List.eq_nil_of_length_eq_zero (by omega)
    subst this
    rfl
  | n + 1, 0, l, h, h' => by omega
  | n + 1, m + 1, l, h, h' => by
    simp only [runesGo]
    by_cases hne : l = []
    · rw [if_pos hne, if_pos hne]
    · rw [if_neg hne, if_neg hne]
      by_cases h0 : (nextL l).2 = 0
      · rw [if_pos h0, if_pos h0]
      · rw [if_neg h0, if_neg h0, runesGo_more n m _ (by rw [List.length_drop]; omega) (by omega)]
theorem runesL_nil : runesL [] = some [] := rfl
theorem runesL_step {l : List UInt8} (hne : l ≠ []) : runesL l = if (nextL l).2 = 0 then none else (runesL (l.drop (nextL l).2)).map (((nextL l).1 : Int) :: ·) := by
  have hl : 0 < l.length := List.length_pos_iff.2 hne
  obtain ⟨n, hn⟩ : ∃ n, l.length = n + 1 := ⟨l.length - 1, by omega⟩
  unfold runesL
  rw [hn]
  simp only [runesGo]
  rw [if_neg hne]
  by_cases h0 : (nextL l).2 = 0
  · rw [if_pos h0, if_pos h0]
  · rw [if_neg h0, if_neg h0, runesGo_more (l.drop (nextL l).2).length n _ (Nat.le_refl _) (by rw [List.length_drop]; omega)]
def joinL : List Int → List UInt8
  | [] => []
  | r :: rs => (if isR r = true then encodeRune r else []) ++ joinL rs
theorem joinL_append : ∀ (a b : List Int), joinL (a ++ b) = joinL a ++ joinL b
  | [], b => rfl
  | r :: a, b => by simp only [List.cons_append, joinL, joinL_append a b, List.append_assoc]
theorem joinL_snoc (a : List Int) (r : Int) : joinL (a ++ [r]) = joinL a ++ (if isR r = true then encodeRune r else []) := by
  rw [joinL_append]; simp [joinL]
theorem encodeRune_le (r : Int) : 1 ≤ (encodeRune r).length ∧ (encodeRune r).length ≤ 4 := by
  have := encodeRuneZ_length r
  simpa [encodeRune] using this
theorem joinL_length : ∀ a : List Int, (joinL a).length ≤ 4 * a.length
  | [] => by simp [joinL]
  | r :: a => by
    have := joinL_length a
    have h4 := (encodeRune_le r).2
    simp only [joinL, List.length_append, List.length_cons]
    split
    · omega
    · simp; omega
theorem nextL_enc {r : Int} (hr : isR r = true) (t : List UInt8) : nextL (encodeRune r ++ t) = (r.toNat, (encodeRune r).length) := by
  have hd := dec_enc r hr t
  have h1 := (encodeRune_le r).1
  have hne : encodeRune r ++ t ≠ [] := by
    intro h
    have := congrArg List.length h
    rw [List.length_append, List.length_nil] at this
    omega
  unfold nextL
  rw [if_neg hne, hd, if_neg]
  rintro ⟨ha, hb⟩
  simp only at ha hb
  have hi := isR_is hr
  have e : r = 65533 := by omega
  subst e
  revert hb
  decide
/-- What was joined is read as it was, but for what is no character. -/
theorem runes_join : ∀ rs : List Int, runesL (joinL rs) = some (rs.filter isR)
  | [] => rfl
  | r :: rs => by
    simp only [joinL]
    by_cases hr : isR r = true
    · rw [if_pos hr]
      have hn := nextL_enc hr (joinL rs)
      have h1 := (encodeRune_le r).1
      have hne : encodeRune r ++ joinL rs ≠ [] := by
        intro h
        have := congrArg List.length h
        rw [List.length_append, List.length_nil] at this
        omega
      have hi := isR_is hr
      rw [runesL_step hne, hn, if_neg (by simp only; omega)]
      simp only
      rw [List.drop_left, runes_join rs, List.filter_cons, if_pos hr]
      have e : ((r.toNat : Nat) : Int) = r := by omega
      rw [e]
      rfl
    · rw [if_neg hr, List.nil_append, runes_join rs, List.filter_cons, if_neg hr]
theorem nextL_dec {l : List UInt8} (hne : l ≠ []) : nextL l = if (decodeL l).1 = 65533 ∧ (decodeL l).2 = 1 then (0, 0) else decodeL l := by unfold nextL; rw [if_neg hne]
end Go.Proofs.YtfioknaadbgjlaaGreatDoor.F
namespace Go.Proofs.YtfioknaadbgjlaaGreatDoor.F
open Go.Lib
def pairsT : List (Int × List Int × List Int) := [
  (768, [65, 69, 73, 79, 85, 97, 101, 105, 111, 117], [192, 200, 204, 210, 217, 224, 232, 236, 242, 249]),
  (769, [65, 69, 73, 79, 85, 89, 97, 101, 105, 111, 117, 121, 67, 99, 76, 108, 78, 110, 82, 114, 83, 115, 90, 122], [193, 201, 205, 211, 218, 221, 225, 233, 237, 243, 250, 253, 262, 263, 313, 314, 323, 324, 340, 341, 346, 347, 377, 378]),
  (770, [65, 69, 73, 79, 85, 97, 101, 105, 111, 117, 67, 99, 71, 103, 72, 104, 74, 106, 83, 115, 87, 119, 89, 121], [194, 202, 206, 212, 219, 226, 234, 238, 244, 251, 264, 265, 284, 285, 292, 293, 308, 309, 348, 349, 372, 373, 374, 375]),
  (771, [65, 78, 79, 97, 110, 111, 73, 105, 85, 117], [195, 209, 213, 227, 241, 245, 296, 297, 360, 361]),
  (772, [65, 97, 69, 101, 73, 105, 79, 111, 85, 117], [256, 257, 274, 275, 298, 299, 332, 333, 362, 363]),
  (774, [65, 97, 69, 101, 71, 103, 73, 105, 79, 111, 85, 117], [258, 259, 276, 277, 286, 287, 300, 301, 334, 335, 364, 365]),
  (775, [67, 99, 69, 101, 71, 103, 73, 90, 122], [266, 267, 278, 279, 288, 289, 304, 379, 380]),
  (776, [65, 69, 73, 79, 85, 97, 101, 105, 111, 117, 121, 89], [196, 203, 207, 214, 220, 228, 235, 239, 246, 252, 255, 376]),
  (778, [65, 97, 85, 117], [197, 229, 366, 367]),
  (779, [79, 111, 85, 117], [336, 337, 368, 369]),
  (780, [67, 99, 68, 100, 69, 101, 78, 110, 82, 114, 83, 115, 84, 116, 90, 122], [268, 269, 270, 271, 282, 283, 327, 328, 344, 345, 352, 353, 356, 357, 381, 382]),
  (807, [67, 99, 71, 103, 75, 107, 76, 108, 78, 110, 82, 114, 83, 115, 84, 116], [199, 231, 290, 291, 310, 311, 315, 316, 325, 326, 342, 343, 350, 351, 354, 355]),
  (808, [65, 97, 69, 101, 73, 105, 85, 117], [260, 261, 280, 281, 302, 303, 370, 371])]
def markN (n : Nat) : Int := (pairsT.getD n (0, [], [])).1
def lettersN (n : Nat) : List Int := (pairsT.getD n (0, [], [])).2.1
def madeN (n : Nat) : List Int := (pairsT.getD n (0, [], [])).2.2
def txt (l : List Int) : ByteArray := ⟨(joinL l).toArray⟩
theorem txt_runes {l : List Int} (h : l.all isR = true) : runesL (txt l).data.toList = some l := by
  have e : (txt l).data.toList = joinL l := by simp [txt]
  rw [e, runes_join]
  congr 1
  rw [List.filter_eq_self]
  exact fun x hx => List.all_eq_true.1 h x hx
theorem txt_size (l : List Int) : (txt l).size ≤ 4 * l.length := by
  show (joinL l).toArray.size ≤ _
  have := joinL_length l
  simpa using this
def tableOk : Bool := (List.range 13).all fun n => decide ((lettersN n).length = (madeN n).length ∧ 1 ≤ (lettersN n).length ∧ (lettersN n).length ≤ 40 ∧ (lettersN n).all isR = true ∧ (madeN n).all isR = true ∧ 768 ≤ markN n ∧ markN n ≤ 808)
theorem table_ok : tableOk = true := by decide +kernel
theorem table_at {n : Nat} (h : n < 13) : (lettersN n).length = (madeN n).length ∧ 1 ≤ (lettersN n).length ∧ (lettersN n).length ≤ 40 ∧ (lettersN n).all isR = true ∧ (madeN n).all isR = true ∧ 768 ≤ markN n ∧ markN n ≤ 808 :=
  of_decide_eq_true (List.all_eq_true.1 table_ok n (List.mem_range.2 h))
/-- The first number from n on, within so many, at which f has something. -/
def firstSome {α : Type} (f : Nat → Option α) : Nat → Nat → Option α
  | 0, _ => none
  | k + 1, n => match f n with
    | some x => some x
    | none => firstSome f k (n + 1)
theorem firstSome_skip {α : Type} (f : Nat → Option α) : ∀ (k n i : Nat), (∀ j, n ≤ j → j < n + i → f j = none) → i ≤ k → firstSome f k n = firstSome f (k - i) (n + i)
  | k, n, 0, _, _ => rfl
  | 0, n, i + 1, _, h => by omega
  | k + 1, n, i + 1, h, hk => by
    have h0 := h n (by omega) (by omega)
    have ih := firstSome_skip f k (n + 1) i (fun j h1 h2 => h j (by omega) (by omega)) (by omega)
    simp only [firstSome, h0]
    rw [ih, show k + 1 - (i + 1) = k - i by omega, show n + 1 + i = n + (i + 1) by omega]
theorem firstSome_at {α : Type} {f : Nat → Option α} {n : Nat} {x : α} (hn : n < 13) (hno : ∀ j, j < n → f j = none) (h : f n = some x) : firstSome f 13 0 = some x := by
  rw [firstSome_skip f 13 0 n (fun j _ h2 => hno j (by omega)) (by omega), Nat.zero_add]
  obtain ⟨k, hk⟩ : ∃ k, 13 - n = k + 1 := ⟨12 - n, by omega⟩
  rw [hk]
  simp only [firstSome, h]
theorem firstSome_none {α : Type} {f : Nat → Option α} (hno : ∀ j, j < 13 → f j = none) : firstSome f 13 0 = none := by
  rw [firstSome_skip f 13 0 13 (fun j _ h2 => hno j (by omega)) (by omega)]
  rfl
def classI (r : Int) : Int := match (List.range 13).find? (fun n => decide (markN n = r)) with
  | some n => if n < 11 then 230 else 202
  | none => 0
/-- What a letter and the n-th mark make, from the i-th letter on. -/
def rowPair (n : Nat) (a : Int) : Option Int := (((lettersN n).zip (madeN n)).find? fun p => decide (p.1 = a)).map (·.2)
def pairF (a b : Int) (n : Nat) : Option Int := if markN n = b then rowPair n a else none
def pairT (a b : Int) : Option Int := firstSome (pairF a b) 13 0
def pairI (a b : Int) : Int := match pairT a b with
  | some x => x
  | none =>
    if 4352 ≤ a ∧ a ≤ 4370 ∧ 4449 ≤ b ∧ b ≤ 4469 then 44032 + (a - 4352) * 588 + (b - 4449) * 28
    else if 44032 ≤ a ∧ a ≤ 55203 ∧ (a - 44032) % 28 = 0 ∧ 4520 ≤ b ∧ b ≤ 4546 then a + (b - 4519)
    else 0
def rowSplit (n : Nat) (r : Int) : Option Int := (((lettersN n).zip (madeN n)).find? fun p => decide (p.2 = r)).map (·.1)
def splitF (r : Int) (n : Nat) : Option (Int × Int) := (rowSplit n r).map fun a => (a, markN n)
def splitT (r : Int) : Option (Int × Int) := firstSome (splitF r) 13 0
def splitI (r : Int) : Option (Int × Int) := match splitT r with
  | some x => some x
  | none =>
    if r < 44032 ∨ 55203 < r then none
    else if 0 < (r - 44032) % 28 then some (r - (r - 44032) % 28, 4519 + (r - 44032) % 28)
    else some (4352 + (r - 44032) / 588, 4449 + (r - 44032) % 588 / 28)
theorem zip_find1 {l m : List Int} {i : Nat} {a : Int} (hl : l.length = m.length) (hi : i < l.length) (ha : l.getD i 0 = a) (hno : ∀ j, j < i → l.getD j 0 ≠ a) :
    ((l.zip m).find? fun p => decide (p.1 = a)).map (·.2) = some (m.getD i 0) := by
  have hz : (l.zip m).find? (fun p => decide (p.1 = a)) = some (l.getD i 0, m.getD i 0) := by
    rw [List.find?_eq_some_iff_getElem]
    refine ⟨by simp only; rw [ha]; exact decide_eq_true rfl, i, by rw [List.length_zip]; omega, ?_, ?_⟩
    · rw [List.getElem_zip]
      simp [List.getD_eq_getElem?_getD, List.getElem?_eq_getElem hi, List.getElem?_eq_getElem (show i < m.length by omega)]
    · intro j hj
      have := hno j hj
      rw [List.getElem_zip]
      simpa [List.getD_eq_getElem?_getD, List.getElem?_eq_getElem (show j < l.length by omega)] using this
  rw [hz]; rfl
theorem zip_none1 {l m : List Int} {a : Int} (hno : ∀ j, j < l.length → l.getD j 0 ≠ a) : ((l.zip m).find? fun p => decide (p.1 = a)).map (·.2) = none := by
  rw [List.find?_eq_none.2]
  · rfl
  · intro p hp
    obtain ⟨i, hi, rfl⟩ := List.getElem_of_mem hp
    rw [List.length_zip] at hi
    have := hno i (by omega)
    rw [List.getElem_zip]
    simpa [List.getD_eq_getElem?_getD, List.getElem?_eq_getElem (show i < l.length by omega)] using this
theorem zip_find2 {l m : List Int} {i : Nat} {a : Int} (hl : l.length = m.length) (hi : i < m.length) (ha : m.getD i 0 = a) (hno : ∀ j, j < i → m.getD j 0 ≠ a) :
    ((l.zip m).find? fun p => decide (p.2 = a)).map (·.1) = some (l.getD i 0) := by
  have hz : (l.zip m).find? (fun p => decide (p.2 = a)) = some (l.getD i 0, m.getD i 0) := by
    rw [List.find?_eq_some_iff_getElem]
    refine ⟨by simp only; rw [ha]; exact decide_eq_true rfl, i, by rw [List.length_zip]; omega, ?_, ?_⟩
    · rw [List.getElem_zip]
      simp [List.getD_eq_getElem?_getD, List.getElem?_eq_getElem hi, List.getElem?_eq_getElem (show i < l.length by omega)]
    · intro j hj
      have := hno j hj
      rw [List.getElem_zip]
      simpa [List.getD_eq_getElem?_getD, List.getElem?_eq_getElem (show j < m.length by omega)] using this
  rw [hz]; rfl
theorem zip_none2 {l m : List Int} {a : Int} (hno : ∀ j, j < m.length → m.getD j 0 ≠ a) : ((l.zip m).find? fun p => decide (p.2 = a)).map (·.1) = none := by
  rw [List.find?_eq_none.2]
  · rfl
  · intro p hp
    obtain ⟨i, hi, rfl⟩ := List.getElem_of_mem hp
    rw [List.length_zip] at hi
    have := hno i (by omega)
    rw [List.getElem_zip]
    simpa [List.getD_eq_getElem?_getD, List.getElem?_eq_getElem (show i < m.length by omega)] using this
end Go.Proofs.YtfioknaadbgjlaaGreatDoor.F
namespace Go.Proofs.YtfioknaadbgjlaaGreatDoor.F
open Go.Lib
def backCheck : Bool := (List.range 13).all fun n => ((lettersN n).zip (madeN n)).all fun p => decide (splitT p.2 = some (p.1, markN n) ∧ pairT p.1 (markN n) = some p.2 ∧ 192 ≤ p.2 ∧ p.2 ≤ 400 ∧ 65 ≤ p.1 ∧ p.1 ≤ 122)
set_option maxRecDepth 100000 in
theorem back_ok : backCheck = true := by decide +kernel
theorem back_at {n : Nat} (h : n < 13) {p : Int × Int} (hp : p ∈ (lettersN n).zip (madeN n)) : splitT p.2 = some (p.1, markN n) ∧ pairT p.1 (markN n) = some p.2 ∧ 192 ≤ p.2 ∧ p.2 ≤ 400 ∧ 65 ≤ p.1 ∧ p.1 ≤ 122 :=
  of_decide_eq_true (List.all_eq_true.1 (List.all_eq_true.1 back_ok n (List.mem_range.2 h)) p hp)
theorem firstSome_spec {α : Type} {f : Nat → Option α} {x : α} : ∀ (k n : Nat), firstSome f k n = some x → ∃ j, n ≤ j ∧ j < n + k ∧ f j = some x
  | 0, n, h => by cases h
  | k + 1, n, h => by
    simp only [firstSome] at h
    cases hf : f n with
    | some y =>
      rw [hf] at h
      exact ⟨n, by omega, by omega, by rw [hf]; exact h⟩
    | none =>
      rw [hf] at h
      obtain ⟨j, h1, h2, h3⟩ := firstSome_spec k (n + 1) h
      exact ⟨j, by omega, by omega, h3⟩
theorem pairT_spec {a b x : Int} (h : pairT a b = some x) : ∃ n, n < 13 ∧ markN n = b ∧ (a, x) ∈ (lettersN n).zip (madeN n) := by
  obtain ⟨n, _, hn, hf⟩ := firstSome_spec 13 0 h
  unfold pairF at hf
  by_cases hb : markN n = b
  · rw [if_pos hb] at hf
    unfold rowPair at hf
    obtain ⟨p, hp, rfl⟩ := Option.map_eq_some_iff.1 hf
    have h1 := List.find?_some hp
    have h2 := List.mem_of_find?_eq_some hp
    have : p.1 = a := of_decide_eq_true h1
    exact ⟨n, by omega, hb, by rw [← this]; exact h2⟩
  · rw [if_neg hb] at hf; cases hf
theorem splitT_spec {r : Int} {x : Int × Int} (h : splitT r = some x) : ∃ n, n < 13 ∧ markN n = x.2 ∧ (x.1, r) ∈ (lettersN n).zip (madeN n) := by
  obtain ⟨n, _, hn, hf⟩ := firstSome_spec 13 0 h
  unfold splitF at hf
  obtain ⟨a, ha, rfl⟩ := Option.map_eq_some_iff.1 hf
  unfold rowSplit at ha
  obtain ⟨p, hp, rfl⟩ := Option.map_eq_some_iff.1 ha
  have h1 := List.find?_some hp
  have h2 := List.mem_of_find?_eq_some hp
  have : p.2 = r := of_decide_eq_true h1
  exact ⟨n, by omega, rfl, by rw [← this]; exact h2⟩
theorem splitT_big {r : Int} (h : 400 < r) : splitT r = none := by
  cases hs : splitT r with
  | none => rfl
  | some x =>
    obtain ⟨n, hn, hm, hz⟩ := splitT_spec hs
    have := back_at hn hz
    simp only at this
    omega
/-- What two make is split into them. -/
theorem pair_back {a b : Int} (h : 0 < pairI a b) : splitI (pairI a b) = some (a, b) := by
  cases hs : pairT a b with
  | some x =>
    have hx : pairI a b = x := by unfold pairI; rw [hs]
    rw [hx]
    obtain ⟨n, hn, hm, hz⟩ := pairT_spec hs
    have hb := (back_at hn hz).1
    simp only at hb
    unfold splitI
    rw [hb, hm]
  | none =>
    have hx : pairI a b = (if 4352 ≤ a ∧ a ≤ 4370 ∧ 4449 ≤ b ∧ b ≤ 4469 then 44032 + (a - 4352) * 588 + (b - 4449) * 28 else if 44032 ≤ a ∧ a ≤ 55203 ∧ (a - 44032) % 28 = 0 ∧ 4520 ≤ b ∧ b ≤ 4546 then a + (b - 4519) else 0) := by unfold pairI; rw [hs]
    rw [hx] at h ⊢
    by_cases h1 : 4352 ≤ a ∧ a ≤ 4370 ∧ 4449 ≤ b ∧ b ≤ 4469
    · rw [if_pos h1] at h ⊢
      unfold splitI
      rw [splitT_big (by omega)]
      simp only
      rw [if_neg (by omega), if_neg (by omega)]
      congr 1
      exact Prod.ext (by simp only; omega) (by simp only; omega)
    · rw [if_neg h1] at h ⊢
      by_cases h2 : 44032 ≤ a ∧ a ≤ 55203 ∧ (a - 44032) % 28 = 0 ∧ 4520 ≤ b ∧ b ≤ 4546
      · rw [if_pos h2] at h ⊢
        unfold splitI
        rw [splitT_big (by omega)]
        simp only
        rw [if_neg (by omega), if_pos (by omega)]
        congr 1
        exact Prod.ext (by simp only; omega) (by simp only; omega)
      · rw [if_neg h2] at h
        omega
end Go.Proofs.YtfioknaadbgjlaaGreatDoor.F
namespace Go.Proofs.YtfioknaadbgjlaaGreatDoor.F
open Go.Lib
section
variable (c : Int → Int)
/-- x, y stand in the wrong order. -/
def wrongB (x y : Int) : Bool := decide (0 < c y ∧ c y < c x)
def insM (x : Int) : List Int → List Int
  | [] => [x]
  | y :: ys => if wrongB c x y = true then y :: insM x ys else x :: y :: ys
def sortM : List Int → List Int
  | [] => []
  | x :: xs => insM c x (sortM xs)
def orderedM : List Int → Prop
  | [] => True
  | [_] => True
  | x :: y :: t => wrongB c x y = false ∧ orderedM (y :: t)
theorem wrong_is {x y : Int} (h : wrongB c x y = true) : 0 < c y ∧ c y < c x := of_decide_eq_true h
theorem wrong_no {x y : Int} (h : ¬ (0 < c y ∧ c y < c x)) : wrongB c x y = false := decide_eq_false h
theorem wrong_yes {x y : Int} (h : 0 < c y ∧ c y < c x) : wrongB c x y = true := decide_eq_true h
theorem insM_swap {x y : Int} (h : wrongB c x y = true) : ∀ s : List Int, insM c x (insM c y s) = insM c y (insM c x s)
  | [] => by
    have hw := wrong_is c h
    have h' : wrongB c y x = false := wrong_no c (by omega)
    simp [insM, h, h']
  | z :: s => by
    have hw := wrong_is c h
    have h' : wrongB c y x = false := wrong_no c (by omega)
    have ih := insM_swap h s
    by_cases hy : wrongB c y z = true
    · have hz := wrong_is c hy
      have hx : wrongB c x z = true := wrong_yes c (by omega)
      simp only [insM, if_pos hy, if_pos hx, ih]
    · have hy' : wrongB c y z = false := by simpa using hy
      by_cases hx : wrongB c x z = true
      · simp only [insM, if_pos hx, if_neg hy, if_pos h]
      · simp only [insM, if_neg hx, if_neg hy, if_pos h, h', Bool.false_eq_true, if_false]
/-- Two neighbours in the wrong order, changed about: the same in the end. -/
theorem sortM_swap {x y : Int} (h : wrongB c x y = true) : ∀ (p t : List Int), sortM c (p ++ x :: y :: t) = sortM c (p ++ y :: x :: t)
  | [], t => by
    simp only [List.nil_append, sortM]
    exact insM_swap c h _
  | q :: p, t => by
    simp only [List.cons_append, sortM, sortM_swap h p t]
theorem sortM_ordered : ∀ l : List Int, orderedM c l → sortM c l = l
  | [], _ => rfl
  | [x], _ => rfl
  | x :: y :: t, h => by
    have ih := sortM_ordered (y :: t) h.2
    have e : sortM c (x :: y :: t) = insM c x (sortM c (y :: t)) := rfl
    rw [e, ih]
    simp only [insM]
    rw [if_neg (by rw [h.1]; decide)]
/-- A list that came of another by such changes, and is in order, is the other one's own order. -/
inductive SwapsM : List Int → List Int → Prop
  | same (l : List Int) : SwapsM l l
  | step {l : List Int} (p t : List Int) (x y : Int) (h : wrongB c x y = true) (hs : SwapsM (p ++ y :: x :: t) l) : SwapsM (p ++ x :: y :: t) l
theorem SwapsM.sort {l m : List Int} (h : SwapsM c l m) : sortM c l = sortM c m := by
  induction h with
  | same l => rfl
  | step p t x y h hs ih => rw [sortM_swap c h, ih]
theorem SwapsM.ordered {l m : List Int} (h : SwapsM c l m) (ho : orderedM c m) : m = sortM c l := by
  rw [h.sort, sortM_ordered c m ho]
end
end Go.Proofs.YtfioknaadbgjlaaGreatDoor.F
namespace Go.Proofs.YtfioknaadbgjlaaGreatDoor.F
open Go.Lib
section
variable (c : Int → Int)
theorem insM_perm (x : Int) : ∀ l : List Int, (insM c x l).Perm (x :: l)
  | [] => List.Perm.refl _
  | y :: ys => by
    simp only [insM]
    split
    · exact (List.Perm.cons y (insM_perm x ys)).trans (List.Perm.swap x y ys)
    · exact List.Perm.refl _
theorem sortM_perm : ∀ l : List Int, (sortM c l).Perm l
  | [] => List.Perm.refl _
  | x :: xs => (insM_perm c x _).trans (List.Perm.cons x (sortM_perm xs))
theorem insM_end {x z : Int} : ∀ s : List Int, ((∃ w ∈ s ++ [z], ¬ 0 < c w) ∨ c x ≤ c z) → insM c x (s ++ [z]) = insM c x s ++ [z]
  | [], h => by
    have : wrongB c x z = false := by
      apply wrong_no
      rcases h with ⟨w, hw, hn⟩ | h
      · simp at hw; subst hw; omega
      · omega
    simp [insM, this]
  | y :: s, h => by
    by_cases hw : wrongB c x y = true
    · have hx := wrong_is c hw
      have ih := insM_end (x := x) (z := z) s (by
        rcases h with ⟨w, hw', hn⟩ | h
        · left
          simp only [List.cons_append, List.mem_cons] at hw'
          rcases hw' with rfl | hw'
          · omega
          · exact ⟨w, hw', hn⟩
        · exact Or.inr h)
      simp only [List.cons_append, insM, if_pos hw, ih]
    · simp only [List.cons_append, insM, if_neg hw]
end
end Go.Proofs.YtfioknaadbgjlaaGreatDoor.F
namespace Go.Proofs.YtfioknaadbgjlaaGreatDoor.F
open Go.Lib
def full1 (r : Int) : List Int := match splitI r with
  | none => [r]
  | some (a, b) => match splitI a with
    | none => [a, b]
    | some (p, q) => [p, q, b]
def fullL (l : List Int) : List Int := l.flatMap full1
def apartI (l : List Int) : List Int := sortM classI (fullL l)
/-- What a split leaves: the second one isn't split, the first one once more at most. -/
theorem splitT_small {r : Int} (h : r < 192) : splitT r = none := by
  cases hs : splitT r with
  | none => rfl
  | some x =>
    obtain ⟨n, hn, hm, hz⟩ := splitT_spec hs
    have := back_at hn hz
    simp only at this
    omega
theorem splitI_none_of {r : Int} (h : r < 192 ∨ (400 < r ∧ r < 44032) ∨ 55203 < r) : splitI r = none := by
  have ht : splitT r = none := by
    rcases h with h | h | h
    · exact splitT_small h
    · exact splitT_big h.1
    · exact splitT_big (by omega)
  unfold splitI
  rw [ht]
  simp only
  rw [if_pos (by omega)]
theorem splitI_cases {r : Int} {p : Int × Int} (h : splitI r = some p) :
    (192 ≤ r ∧ r ≤ 400 ∧ 65 ≤ p.1 ∧ p.1 ≤ 122 ∧ 768 ≤ p.2 ∧ p.2 ≤ 808) ∨
    (44032 ≤ r ∧ r ≤ 55203 ∧ 0 < (r - 44032) % 28 ∧ 44032 ≤ p.1 ∧ p.1 ≤ 55203 ∧ (p.1 - 44032) % 28 = 0 ∧ 4520 ≤ p.2 ∧ p.2 ≤ 4546) ∨
    (44032 ≤ r ∧ r ≤ 55203 ∧ (r - 44032) % 28 = 0 ∧ 4352 ≤ p.1 ∧ p.1 ≤ 4370 ∧ 4449 ≤ p.2 ∧ p.2 ≤ 4469) := by
  cases hs : splitT r with
  | some x =>
    have hx : splitI r = some x := by unfold splitI; rw [hs]
    rw [hx] at h
    cases h
    obtain ⟨n, hn, hm, hz⟩ := splitT_spec hs
    have hb := back_at hn hz
    have ht := table_at hn
    simp only at hb
    left
    omega
  | none =>
    have hx : splitI r = (if r < 44032 ∨ 55203 < r then none else if 0 < (r - 44032) % 28 then some (r - (r - 44032) % 28, 4519 + (r - 44032) % 28) else some (4352 + (r - 44032) / 588, 4449 + (r - 44032) % 588 / 28)) := by unfold splitI; rw [hs]
    rw [hx] at h
    by_cases h1 : r < 44032 ∨ 55203 < r
    · rw [if_pos h1] at h; cases h
    · rw [if_neg h1] at h
      by_cases h2 : 0 < (r - 44032) % 28
      · rw [if_pos h2] at h
        cases h
        right; left
        simp only
        omega
      · rw [if_neg h2] at h
        cases h
        right; right
        simp only
        omega
theorem split_second {r : Int} {p : Int × Int} (h : splitI r = some p) : splitI p.2 = none := by
  apply splitI_none_of
  rcases splitI_cases h with h | h | h <;> omega
theorem split_first {r : Int} {p q : Int × Int} (h : splitI r = some p) (h' : splitI p.1 = some q) : splitI q.1 = none ∧ splitI q.2 = none := by
  refine ⟨?_, split_second h'⟩
  apply splitI_none_of
  rcases splitI_cases h with h | h | h <;> rcases splitI_cases h' with h' | h' | h' <;> omega
theorem full1_none {r : Int} (h : splitI r = none) : full1 r = [r] := by unfold full1; rw [h]
theorem full1_some {r : Int} {p : Int × Int} (h : splitI r = some p) : full1 r = full1 p.1 ++ full1 p.2 := by
  rw [full1_none (split_second h)]
  obtain ⟨a, b⟩ := p
  cases h2 : splitI a with
  | none =>
    rw [full1_none h2]
    unfold full1
    rw [h]; simp only; rw [h2]; rfl
  | some q =>
    obtain ⟨q1, q2⟩ := q
    have e : full1 r = [q1, q2, b] := by unfold full1; rw [h]; simp only; rw [h2]
    have e2 : full1 a = [q1, q2] := by
      unfold full1
      rw [h2]; simp only
      rw [(split_first h h2).1]
    rw [e, e2]; rfl
theorem fullL_cons (r : Int) (l : List Int) : fullL (r :: l) = full1 r ++ fullL l := by simp [fullL]
theorem fullL_append (a b : List Int) : fullL (a ++ b) = fullL a ++ fullL b := by simp [fullL]
theorem full1_length (r : Int) : (full1 r).length ≤ 3 := by
  unfold full1
  split
  · simp
  · split <;> simp
theorem full1_pos (r : Int) : 1 ≤ (full1 r).length := by
  unfold full1
  split
  · simp
  · split <;> simp
theorem fullL_length : ∀ l : List Int, (fullL l).length ≤ 3 * l.length
  | [] => by simp [fullL]
  | r :: l => by
    rw [fullL_cons, List.length_append, List.length_cons]
    have := full1_length r
    have := fullL_length l
    omega
theorem classI_far {r : Int} (h : r < 768 ∨ 808 < r) : classI r = 0 := by
  have e : (List.range 13).find? (fun n => decide (markN n = r)) = none := by
    rw [List.find?_eq_none]
    intro n hn
    have := table_at (List.mem_range.1 hn)
    simp only [decide_eq_true_eq]
    omega
  unfold classI
  rw [e]
theorem classI_nn (r : Int) : 0 ≤ classI r := by
  unfold classI
  split
  · split <;> decide
  · decide
end Go.Proofs.YtfioknaadbgjlaaGreatDoor.F
namespace Go.Proofs.YtfioknaadbgjlaaGreatDoor.F
open Go.Lib
def PosL (l : List Int) : Prop := ∀ x ∈ l, 0 < classI x
/-- The last one of class 0, what is ahead of it, and the marks behind it. -/
def lastBase : List Int → Option (List Int × Int × List Int)
  | [] => none
  | x :: t => match lastBase t with
    | some (p, b, ms) => some (x :: p, b, ms)
    | none => if classI x = 0 then some ([], x, t) else none
theorem lastBase_none : ∀ {l : List Int}, lastBase l = none → PosL l
  | [], _ => fun x hx => by cases hx
  | x :: t, h => by
    simp only [lastBase] at h
    cases ht : lastBase t with
    | some q => rw [ht] at h; cases h
    | none =>
      rw [ht] at h
      simp only at h
      by_cases hx : classI x = 0
      · rw [if_pos hx] at h; cases h
      · intro y hy
        rcases List.mem_cons.1 hy with rfl | hy
        · have := classI_nn y; omega
        · exact lastBase_none ht y hy
theorem lastBase_pos : ∀ {l : List Int}, PosL l → lastBase l = none
  | [], _ => rfl
  | x :: t, h => by
    simp only [lastBase]
    rw [lastBase_pos (fun y hy => h y (by simp [hy]))]
    simp only
    rw [if_neg (by have := h x (by simp); omega)]
theorem lastBase_some : ∀ {l p : List Int} {b : Int} {ms : List Int}, lastBase l = some (p, b, ms) → l = p ++ b :: ms ∧ classI b = 0 ∧ PosL ms
  | [], p, b, ms, h => by cases h
  | x :: t, p, b, ms, h => by
    simp only [lastBase] at h
    cases ht : lastBase t with
    | some q =>
      obtain ⟨p', b', ms'⟩ := q
      rw [ht] at h
      simp only [Option.some.injEq, Prod.mk.injEq] at h
      obtain ⟨rfl, rfl, rfl⟩ := h
      obtain ⟨h1, h2, h3⟩ := lastBase_some ht
      exact ⟨by rw [h1]; rfl, h2, h3⟩
    | none =>
      rw [ht] at h
      simp only at h
      by_cases hx : classI x = 0
      · rw [if_pos hx] at h
        simp only [Option.some.injEq, Prod.mk.injEq] at h
        obtain ⟨rfl, rfl, rfl⟩ := h
        exact ⟨rfl, hx, lastBase_none ht⟩
      · rw [if_neg hx] at h; cases h
theorem lastBase_at : ∀ (p : List Int) {b : Int} {ms : List Int}, classI b = 0 → PosL ms → lastBase (p ++ b :: ms) = some (p, b, ms)
  | [], b, ms, hb, hm => by
    simp only [List.nil_append, lastBase]
    rw [lastBase_pos hm]
    simp only
    rw [if_pos hb]
  | x :: p, b, ms, hb, hm => by
    have ih := lastBase_at p hb hm
    simp only [List.cons_append, lastBase, ih]
def mayB (ms : List Int) (r : Int) : Bool := match ms.getLast? with
  | none => true
  | some z => decide (classI z < classI r)
def togStep (out : List Int) (r : Int) : List Int := match lastBase out with
  | none => out ++ [r]
  | some (p, b, ms) => if mayB ms r = true ∧ 0 < pairI b r then p ++ pairI b r :: ms else out ++ [r]
def togI (l : List Int) : List Int := l.foldl togStep []
/-- What a pair is, and what it makes. -/
theorem pair_kinds {a b : Int} (h : 0 < pairI a b) :
    (65 ≤ a ∧ a ≤ 122 ∧ 768 ≤ b ∧ b ≤ 808 ∧ 192 ≤ pairI a b ∧ pairI a b ≤ 400) ∨
    (4352 ≤ a ∧ a ≤ 4370 ∧ 4449 ≤ b ∧ b ≤ 4469 ∧ 44032 ≤ pairI a b ∧ pairI a b ≤ 55203) ∨
    (44032 ≤ a ∧ a ≤ 55203 ∧ 4520 ≤ b ∧ b ≤ 4546 ∧ 44032 ≤ pairI a b ∧ pairI a b ≤ 55203) := by
  have hb := pair_back h
  rcases splitI_cases hb with h1 | h1 | h1 <;> simp only at h1
  · left; omega
  · right; right; omega
  · right; left; omega
theorem class_made {a b : Int} (h : 0 < pairI a b) : classI (pairI a b) = 0 := classI_far (by rcases pair_kinds h with h | h | h <;> omega)
theorem mark_near {r : Int} (h : 0 < classI r) : 768 ≤ r ∧ r ≤ 808 := by
  by_cases hh : r < 768 ∨ 808 < r
  · rw [classI_far hh] at h; omega
  · omega
theorem made_second {a b x : Int} (h : 0 < pairI a b) : ¬ 0 < pairI x (pairI a b) := by
  intro h'
  rcases pair_kinds h with h1 | h1 | h1 <;> rcases pair_kinds h' with h2 | h2 | h2 <;> omega
theorem made_first {a b m : Int} (h : 0 < pairI a b) (hb : 0 < classI b) (hm : 0 < classI m) : ¬ 0 < pairI (pairI a b) m := by
  intro h'
  have h3 := mark_near hb
  have h4 := mark_near hm
  rcases pair_kinds h with h1 | h1 | h1 <;> rcases pair_kinds h' with h2 | h2 | h2 <;> omega
theorem togI_snoc (l : List Int) (r : Int) : togI (l ++ [r]) = togStep (togI l) r := by simp [togI]
theorem togStep_length (out : List Int) (r : Int) : (togStep out r).length ≤ out.length + 1 ∧ ((togStep out r).length = out.length + 1 → togStep out r = out ++ [r]) := by
  unfold togStep
  cases h : lastBase out with
  | none => exact ⟨by simp, fun _ => rfl⟩
  | some q =>
    obtain ⟨p, b, ms⟩ := q
    simp only
    have := (lastBase_some h).1
    by_cases hc : mayB ms r = true ∧ 0 < pairI b r
    · rw [if_pos hc]
      have hl : (p ++ pairI b r :: ms).length = out.length := by rw [this]; simp
      exact ⟨by omega, fun h => by omega⟩
    · rw [if_neg hc]; exact ⟨by simp, fun _ => rfl⟩
theorem snoc_ind {P : List Int → Prop} (h0 : P []) (hs : ∀ l r, P l → P (l ++ [r])) (l : List Int) : P l := by
  have : ∀ n (l : List Int), l.length = n → P l := by
    intro n
    induction n with
    | zero => intro l hl; rw [List.eq_nil_of_length_eq_zero hl]; exact h0
    | succ n ih =>
      intro l hl
      rcases List.eq_nil_or_concat l with h | ⟨t, r, h⟩
      · rw [h] at hl; simp at hl
      · rw [List.concat_eq_append] at h
        subst h
        exact hs t r (ih t (by simpa using hl))
  exact this l.length l rfl
theorem togI_length : ∀ l : List Int, (togI l).length ≤ l.length := by
  refine snoc_ind (Nat.le_refl _) fun l r ih => ?_
  rw [togI_snoc, List.length_append, List.length_singleton]
  have := (togStep_length (togI l) r).1
  omega
def FixT (l : List Int) : Prop := togI l = l
theorem fix_front {l : List Int} {r : Int} (h : FixT (l ++ [r])) : FixT l := by
  have key : ∀ l : List Int, (togI l).length = l.length → FixT l := by
    refine snoc_ind (fun _ => rfl) fun l r ih h => ?_
    rw [togI_snoc, List.length_append, List.length_singleton] at h
    have h1 := togStep_length (togI l) r
    have h2 := togI_length l
    have h3 := ih (by omega)
    unfold FixT at *
    rw [togI_snoc, h1.2 (by omega), h3]
  apply key
  unfold FixT at h
  rw [togI_snoc] at h
  have h1 := (togStep_length (togI l) r).1
  rw [h, List.length_append, List.length_singleton] at h1
  have := togI_length l
  omega
theorem fix_part (x : List Int) : ∀ y : List Int, FixT (x ++ y) → FixT x := by
  refine snoc_ind (fun h => by simpa using h) fun y r ih h => ?_
  rw [← List.append_assoc] at h
  exact ih (fix_front h)
theorem fix_snoc {l : List Int} {r : Int} (h : FixT l) (hs : togStep l r = l ++ [r]) : FixT (l ++ [r]) := by
  unfold FixT at *
  rw [togI_snoc, h, hs]
theorem fix_step {out : List Int} (r : Int) (h : FixT out) : FixT (togStep out r) := by
  cases hb : lastBase out with
  | none =>
    have e : togStep out r = out ++ [r] := by unfold togStep; rw [hb]
    rw [e]; exact fix_snoc h e
  | some q =>
    obtain ⟨p, b, ms⟩ := q
    by_cases hc : mayB ms r = true ∧ 0 < pairI b r
    · have e : togStep out r = p ++ pairI b r :: ms := by unfold togStep; rw [hb]; simp only; rw [if_pos hc]
      obtain ⟨ho, hb0, hms⟩ := lastBase_some hb
      rw [e]
      rw [ho] at h
      have hp : FixT p := fix_part p _ h
      have h1 : FixT (p ++ [pairI b r]) := by
        apply fix_snoc hp
        unfold togStep
        cases hl : lastBase p with
        | none => rfl
        | some q =>
          obtain ⟨p', b', ms'⟩ := q
          simp only
          rw [if_neg fun hh => made_second hc.2 hh.2]
      have hr : ms ≠ [] → 0 < classI r := fun hne => by
        have hm := hc.1
        unfold mayB at hm
        cases hg : ms.getLast? with
        | none => exact absurd (List.getLast?_eq_none_iff.1 hg) hne
        | some z =>
          rw [hg] at hm
          have hz := hms z (List.mem_of_getLast? hg)
          have := of_decide_eq_true hm
          omega
      have h2 : ∀ t : List Int, (∀ x ∈ t, 0 < classI x) → (t ≠ [] → 0 < classI r) → FixT ((p ++ [pairI b r]) ++ t) := by
        refine snoc_ind (fun _ _ => by simpa using h1) fun t m ih hpos hr' => ?_
        have hrr := hr' (by simp)
        have hm := hpos m (by simp)
        rw [← List.append_assoc]
        refine fix_snoc (ih (fun x hx => hpos x (List.mem_append_left _ hx)) fun _ => hrr) ?_
        have hl : lastBase ((p ++ [pairI b r]) ++ t) = some (p, pairI b r, t) := by
          rw [List.append_assoc]
          exact lastBase_at p (class_made hc.2) (fun x hx => hpos x (List.mem_append_left _ hx))
        unfold togStep
        rw [hl]
        simp only
        rw [if_neg fun hh => made_first hc.2 hrr hm hh.2]
      have := h2 ms hms hr
      simpa using this
    · have e : togStep out r = out ++ [r] := by unfold togStep; rw [hb]; simp only; rw [if_neg hc]
      rw [e]; exact fix_snoc h e
theorem tog_twice : ∀ l : List Int, togI (togI l) = togI l := by
  refine snoc_ind rfl fun l r ih => ?_
  rw [togI_snoc]
  exact fix_step r ih
end Go.Proofs.YtfioknaadbgjlaaGreatDoor.F
namespace Go.Proofs.YtfioknaadbgjlaaGreatDoor.F
open Go.Lib
/-- The n-th of a row's characters; -1: there is none. -/
def nthI (l : List Int) (n : Int) : Int := if n < 0 ∨ (l.length : Int) ≤ n then -1 else l.getD n.toNat 0
def greekI (first n : Int) : Int := if 17 ≤ n then first + (n + 1) else first + n
def russianI (first yo n : Int) : Int := if n = 6 then yo else if 6 < n then first + (n - 1) else first + n
def twoI (a b : Int) : Int :=
  if a = 130 ∧ 79 ≤ b ∧ b ≤ 88 then 65296 + b - 79
  else if a = 130 ∧ 96 ≤ b ∧ b ≤ 121 then 65313 + b - 96
  else if a = 130 ∧ 129 ≤ b ∧ b ≤ 154 then 65345 + b - 129
  else if a = 130 ∧ 159 ≤ b ∧ b ≤ 241 then 12353 + b - 159
  else if a = 131 ∧ 64 ≤ b ∧ b ≤ 150 ∧ b ≠ 127 then (if 127 < b then 12449 + (b - 64 - 1) else 12449 + (b - 64))
  else if a = 131 ∧ 159 ≤ b ∧ b ≤ 182 then greekI 913 (b - 159)
  else if a = 131 ∧ 191 ≤ b ∧ b ≤ 214 then greekI 945 (b - 191)
  else if a = 132 ∧ 64 ≤ b ∧ b ≤ 96 then russianI 1040 1025 (b - 64)
  else if a = 132 ∧ 112 ≤ b ∧ b ≤ 145 ∧ b ≠ 127 then (if 127 < b then russianI 1072 1105 (b - 112 - 1) else russianI 1072 1105 (b - 112))
  else -1
def latin9I (b : Int) : Int :=
  if b = 164 then 8364 else if b = 166 then 352 else if b = 168 then 353 else if b = 180 then 381
  else if b = 184 then 382 else if b = 188 then 338 else if b = 189 then 339 else if b = 190 then 376 else b
def cp437R : List Int := [199, 252, 233, 226, 228, 224, 229, 231, 234, 235, 232, 239, 238, 236, 196, 197, 201, 230, 198, 244, 246, 242, 251, 249, 255, 214, 220, 162, 163, 165, 8359, 402, 225, 237, 243, 250, 241, 209, 170, 186, 191, 8976, 172, 189, 188, 161, 171, 187, 9617, 9618, 9619, 9474, 9508, 9569, 9570, 9558, 9557, 9571, 9553, 9559, 9565, 9564, 9563, 9488, 9492, 9524, 9516, 9500, 9472, 9532, 9566, 9567, 9562, 9556, 9577, 9574, 9568, 9552, 9580, 9575, 9576, 9572, 9573, 9561, 9560, 9554, 9555, 9579, 9578, 9496, 9484, 9608, 9604, 9612, 9616, 9600, 945, 223, 915, 960, 931, 963, 181, 964, 934, 920, 937, 948, 8734, 966, 949, 8745, 8801, 177, 8805, 8804, 8992, 8993, 247, 8776, 176, 8729, 183, 8730, 8319, 178, 9632, 160]
def cp850R : List Int := [199, 252, 233, 226, 228, 224, 229, 231, 234, 235, 232, 239, 238, 236, 196, 197, 201, 230, 198, 244, 246, 242, 251, 249, 255, 214, 220, 248, 163, 216, 215, 402, 225, 237, 243, 250, 241, 209, 170, 186, 191, 174, 172, 189, 188, 161, 171, 187, 9617, 9618, 9619, 9474, 9508, 193, 194, 192, 169, 9571, 9553, 9559, 9565, 162, 165, 9488, 9492, 9524, 9516, 9500, 9472, 9532, 227, 195, 9562, 9556, 9577, 9574, 9568, 9552, 9580, 164, 240, 208, 202, 203, 200, 305, 205, 206, 207, 9496, 9484, 9608, 9604, 166, 204, 9600, 211, 223, 212, 210, 245, 213, 181, 254, 222, 218, 219, 217, 253, 221, 175, 180, 173, 177, 8215, 190, 182, 167, 247, 184, 176, 168, 183, 185, 179, 178, 9632, 160]
def latin2R : List Int := [160, 260, 728, 321, 164, 317, 346, 167, 168, 352, 350, 356, 377, 173, 381, 379, 176, 261, 731, 322, 180, 318, 347, 711, 184, 353, 351, 357, 378, 733, 382, 380, 340, 193, 194, 258, 196, 313, 262, 199, 268, 201, 280, 203, 282, 205, 206, 270, 272, 323, 327, 211, 212, 336, 214, 215, 344, 366, 218, 368, 220, 221, 354, 223, 341, 225, 226, 259, 228, 314, 263, 231, 269, 233, 281, 235, 283, 237, 238, 271, 273, 324, 328, 243, 244, 337, 246, 247, 345, 367, 250, 369, 252, 253, 355, 729]
/-- A byte's character in one of the encodings 0 to 6; -1: it has none. -/
def oneI (enc b : Int) : Int :=
  if b < 128 ∨ enc = 1 then b
  else if enc = 2 then (if b < 160 then b else nthI latin2R (b - 160))
  else if enc = 3 then latin9I b
  else if enc = 4 then nthI cp437R (b - 128)
  else if enc = 5 then nthI cp850R (b - 128)
  else if enc = 6 then (if 161 ≤ b ∧ b ≤ 223 then 65377 + b - 161 else -1)
  else -1
end Go.Proofs.YtfioknaadbgjlaaGreatDoor.F
namespace Go.Proofs.YtfioknaadbgjlaaGreatDoor.F
open Go.Lib
def oneAt (enc r : Int) : Option Nat := (List.range 256).find? fun b => decide (oneI enc b = r)
def twoAt (a r : Int) : Option Nat := (List.range 256).find? fun b => decide (twoI a b = r)
def twosAt (r : Int) : Option (List Int) :=
  match twoAt 130 r with
  | some b => some [130, (b : Int)]
  | none => match twoAt 131 r with
    | some b => some [131, (b : Int)]
    | none => match twoAt 132 r with
      | some b => some [132, (b : Int)]
      | none => none
def encI (enc r : Int) : Option (List Int) :=
  if isR r = false then none
  else if 7 ≤ enc then some (encodeRuneZ r)
  else match oneAt enc r with
    | some b => some [(b : Int)]
    | none => if enc = 6 then twosAt r else none
theorem oneAt_some {enc r : Int} {b : Nat} (hb : b < 256) (h : oneI enc b = r) (hno : ∀ j : Nat, j < b → oneI enc j ≠ r) : oneAt enc r = some b := by
  unfold oneAt
  rw [List.find?_range_eq_some]
  exact ⟨by simpa using h, by simpa using hb, fun j hj => by simpa using hno j hj⟩
theorem oneAt_none {enc r : Int} (hno : ∀ j : Nat, j < 256 → oneI enc j ≠ r) : oneAt enc r = none := by
  unfold oneAt
  rw [List.find?_range_eq_none]
  exact fun j hj => by simpa using hno j hj
theorem twoAt_some {a r : Int} {b : Nat} (hb : b < 256) (h : twoI a b = r) (hno : ∀ j : Nat, j < b → twoI a j ≠ r) : twoAt a r = some b := by
  unfold twoAt
  rw [List.find?_range_eq_some]
  exact ⟨by simpa using h, by simpa using hb, fun j hj => by simpa using hno j hj⟩
theorem twoAt_none {a r : Int} (hno : ∀ j : Nat, j < 256 → twoI a j ≠ r) : twoAt a r = none := by
  unfold twoAt
  rw [List.find?_range_eq_none]
  exact fun j hj => by simpa using hno j hj
theorem twosAt_some {a : Nat} {r : Int} {b : Nat} (ha : 130 ≤ a) (ha' : a ≤ 132) (h : twoAt a r = some b) (hno : ∀ c : Nat, 130 ≤ c → c < a → twoAt c r = none) : twosAt r = some [(a : Int), (b : Int)] := by
  unfold twosAt
  obtain rfl | rfl | rfl : a = 130 ∨ a = 131 ∨ a = 132 := by omega
  · rw [show twoAt 130 r = some b from h]; rfl
  · rw [show twoAt 130 r = none from hno 130 (by omega) (by omega), show twoAt 131 r = some b from h]; rfl
  · rw [show twoAt 130 r = none from hno 130 (by omega) (by omega), show twoAt 131 r = none from hno 131 (by omega) (by omega), show twoAt 132 r = some b from h]; rfl
end Go.Proofs.YtfioknaadbgjlaaGreatDoor.F
namespace Go.Proofs.YtfioknaadbgjlaaGreatDoor.F
open Go.Lib
theorem nthI_out {l : List Int} {n : Int} (h : n < 0 ∨ (l.length : Int) ≤ n) : nthI l n = -1 := by unfold nthI; rw [if_pos h]
theorem nthI_in {l : List Int} {k : Nat} (h : k < l.length) : nthI l (k : Int) = l[k] := by
  unfold nthI
  rw [if_neg (by omega), show ((k : Int)).toNat = k by omega, List.getD_eq_getElem?_getD, List.getElem?_eq_getElem h]
  rfl
theorem nthI_inj {l : List Int} (hn : l.Nodup) {n m : Int} (h : nthI l n = nthI l m) (hp : 0 ≤ nthI l n) : n = m := by
  by_cases a : n < 0 ∨ (l.length : Int) ≤ n
  · rw [nthI_out a] at hp; omega
  · by_cases b : m < 0 ∨ (l.length : Int) ≤ m
    · rw [h, nthI_out b] at hp; omega
    · obtain ⟨i, rfl⟩ : ∃ i : Nat, n = (i : Int) := ⟨n.toNat, by omega⟩
      obtain ⟨j, rfl⟩ : ∃ j : Nat, m = (j : Int) := ⟨m.toNat, by omega⟩
      have hi : i < l.length := by omega
      have hj : j < l.length := by omega
      rw [nthI_in hi, nthI_in hj] at h
      have := (List.getElem_inj hn).1 h
      omega
theorem nthI_all {l : List Int} {p : Int → Bool} (hl : l.all p = true) {n : Int} (hp : 0 ≤ nthI l n) : p (nthI l n) = true := by
  by_cases a : n < 0 ∨ (l.length : Int) ≤ n
  · rw [nthI_out a] at hp; omega
  · obtain ⟨i, rfl⟩ : ∃ i : Nat, n = (i : Int) := ⟨n.toNat, by omega⟩
    have hi : i < l.length := by omega
    rw [nthI_in hi]
    exact List.all_eq_true.1 hl _ (List.getElem_mem hi)
theorem latin2_nodup : latin2R.Nodup := by decide +kernel
theorem cp437_nodup : cp437R.Nodup := by decide +kernel
theorem cp850_nodup : cp850R.Nodup := by decide +kernel
def okR (x : Int) : Bool := decide (160 ≤ x ∧ x < 55296)
theorem latin2_ok : latin2R.all okR = true := by decide +kernel
theorem cp437_ok : cp437R.all okR = true := by decide +kernel
theorem cp850_ok : cp850R.all okR = true := by decide +kernel
theorem okR_is {x : Int} (h : okR x = true) : 160 ≤ x ∧ x < 55296 := of_decide_eq_true h
set_option maxHeartbeats 4000000 in
theorem latin9_inj {b c : Int} (hb : 128 ≤ b) (hb' : b ≤ 255) (hc : 128 ≤ c) (hc' : c ≤ 255) (h : latin9I b = latin9I c) : b = c := by
  unfold latin9I at h
  repeat' split at h
  all_goals omega
theorem latin9_ok {b : Int} (hb : 128 ≤ b) (hb' : b ≤ 255) : 128 ≤ latin9I b ∧ latin9I b < 55296 := by
  unfold latin9I
  repeat' split
  all_goals omega
/-- What a byte's character can be. -/
theorem oneI_ok {enc b : Int} (h0 : 0 ≤ enc) (h6 : enc ≤ 6) (hb : 0 ≤ b) (hb' : b ≤ 255) : oneI enc b = -1 ∨ (b < 128 ∧ oneI enc b = b) ∨ (128 ≤ b ∧ 128 ≤ oneI enc b ∧ (oneI enc b < 55296 ∨ (enc = 6 ∧ oneI enc b = 65216 + b ∧ 161 ≤ b ∧ b ≤ 223))) := by
  by_cases hl : b < 128
  · right; left; exact ⟨hl, by unfold oneI; rw [if_pos (Or.inl hl)]⟩
  · obtain rfl | rfl | rfl | rfl | rfl | rfl | rfl : enc = 0 ∨ enc = 1 ∨ enc = 2 ∨ enc = 3 ∨ enc = 4 ∨ enc = 5 ∨ enc = 6 := by omega
    · left; unfold oneI; (repeat' split) <;> omega
    · right; right
      have : oneI 1 b = b := by unfold oneI; rw [if_pos (Or.inr rfl)]
      rw [this]; omega
    · by_cases h1 : b < 160
      · right; right
        have : oneI 2 b = b := by unfold oneI; rw [if_neg (by omega), if_pos rfl, if_pos h1]
        rw [this]; omega
      · have : oneI 2 b = nthI latin2R (b - 160) := by unfold oneI; rw [if_neg (by omega), if_pos rfl, if_neg h1]
        rw [this]
        by_cases hp : 0 ≤ nthI latin2R (b - 160)
        · have := okR_is (nthI_all latin2_ok hp)
          right; right; omega
        · left; unfold nthI at hp ⊢; split at hp
          · rw [if_pos (by assumption)]
          · exfalso
            rename_i hr
            apply hp
            obtain ⟨i, hi⟩ : ∃ i : Nat, b - 160 = (i : Int) := ⟨(b - 160).toNat, by omega⟩
            have hil : i < latin2R.length := by omega
            have hx := nthI_in hil
            unfold nthI at hx
            rw [hi] at hr
            rw [if_neg hr] at hx
            rw [hi, hx]
            have := okR_is (List.all_eq_true.1 latin2_ok _ (List.getElem_mem hil))
            omega
    · right; right
      have : oneI 3 b = latin9I b := by unfold oneI; rw [if_neg (by omega), if_neg (by omega), if_pos rfl]
      rw [this]
      have := latin9_ok (b := b) (by omega) hb'
      omega
    · have : oneI 4 b = nthI cp437R (b - 128) := by unfold oneI; rw [if_neg (by omega), if_neg (by omega), if_neg (by omega), if_pos rfl]
      rw [this]
      obtain ⟨i, hi⟩ : ∃ i : Nat, b - 128 = (i : Int) := ⟨(b - 128).toNat, by omega⟩
      have hil : i < cp437R.length := by have : cp437R.length = 128 := rfl; omega
      rw [hi, nthI_in hil]
      have := okR_is (List.all_eq_true.1 cp437_ok _ (List.getElem_mem hil))
      right; right; omega
    · have : oneI 5 b = nthI cp850R (b - 128) := by unfold oneI; rw [if_neg (by omega), if_neg (by omega), if_neg (by omega), if_neg (by omega), if_pos rfl]
      rw [this]
      obtain ⟨i, hi⟩ : ∃ i : Nat, b - 128 = (i : Int) := ⟨(b - 128).toNat, by omega⟩
      have hil : i < cp850R.length := by have : cp850R.length = 128 := rfl; omega
      rw [hi, nthI_in hil]
      have := okR_is (List.all_eq_true.1 cp850_ok _ (List.getElem_mem hil))
      right; right; omega
    · by_cases h1 : 161 ≤ b ∧ b ≤ 223
      · right; right
        have : oneI 6 b = 65377 + b - 161 := by unfold oneI; rw [if_neg (by omega), if_neg (by omega), if_neg (by omega), if_neg (by omega), if_neg (by omega), if_pos rfl, if_pos h1]
        rw [this]; omega
      · left
        unfold oneI; rw [if_neg (by omega), if_neg (by omega), if_neg (by omega), if_neg (by omega), if_neg (by omega), if_pos rfl, if_neg h1]
/-- No two bytes of one encoding have the same character. -/
theorem oneI_inj {enc b c : Int} (h0 : 0 ≤ enc) (h6 : enc ≤ 6) (hb : 0 ≤ b) (hb' : b ≤ 255) (hc : 0 ≤ c) (hc' : c ≤ 255) (hp : 0 ≤ oneI enc b) (h : oneI enc b = oneI enc c) : b = c := by
  rcases oneI_ok h0 h6 hb hb' with k | ⟨k1, k2⟩ | ⟨k1, k2, k3⟩
  · omega
  · rcases oneI_ok h0 h6 hc hc' with j | ⟨j1, j2⟩ | ⟨j1, j2, j3⟩ <;> omega
  · rcases oneI_ok h0 h6 hc hc' with j | ⟨j1, j2⟩ | ⟨j1, j2, j3⟩
    · omega
    · omega
    · clear k2 k3 j2 j3
      unfold oneI at h hp
      obtain rfl | rfl | rfl | rfl | rfl | rfl | rfl : enc = 0 ∨ enc = 1 ∨ enc = 2 ∨ enc = 3 ∨ enc = 4 ∨ enc = 5 ∨ enc = 6 := by omega
      · simp only [show ¬ (b < 128) by omega, show ¬ (c < 128) by omega, false_or] at h hp
        simp at hp
      · simpa using h
      · simp only [show ¬ (b < 128) by omega, show ¬ (c < 128) by omega, false_or] at h hp
        simp only [show ¬ ((2 : Int) = 1) by omega, if_false, if_true] at h hp
        by_cases h1 : b < 160
        · by_cases h2 : c < 160
          · rw [if_pos h1, if_pos h2] at h; exact h
          · rw [if_pos h1] at hp
            rw [if_pos h1, if_neg h2] at h
            have := okR_is (nthI_all latin2_ok (n := c - 160) (by omega))
            omega
        · by_cases h2 : c < 160
          · rw [if_neg h1] at hp
            rw [if_neg h1, if_pos h2] at h
            have := okR_is (nthI_all latin2_ok hp)
            omega
          · rw [if_neg h1] at hp
            rw [if_neg h1, if_neg h2] at h
            have := nthI_inj latin2_nodup h hp
            omega
      · simp only [show ¬ (b < 128) by omega, show ¬ (c < 128) by omega, false_or] at h hp
        simp only [show ¬ ((3 : Int) = 1) by omega, show ¬ ((3 : Int) = 2) by omega, if_false, if_true] at h hp
        exact latin9_inj (by omega) hb' (by omega) hc' h
      · simp only [show ¬ (b < 128) by omega, show ¬ (c < 128) by omega, false_or] at h hp
        simp only [show ¬ ((4 : Int) = 1) by omega, show ¬ ((4 : Int) = 2) by omega, show ¬ ((4 : Int) = 3) by omega, if_false, if_true] at h hp
        have := nthI_inj cp437_nodup h hp
        omega
      · simp only [show ¬ (b < 128) by omega, show ¬ (c < 128) by omega, false_or] at h hp
        simp only [show ¬ ((5 : Int) = 1) by omega, show ¬ ((5 : Int) = 2) by omega, show ¬ ((5 : Int) = 3) by omega, show ¬ ((5 : Int) = 4) by omega, if_false, if_true] at h hp
        have := nthI_inj cp850_nodup h hp
        omega
      · simp only [show ¬ (b < 128) by omega, show ¬ (c < 128) by omega, false_or] at h hp
        simp only [show ¬ ((6 : Int) = 1) by omega, show ¬ ((6 : Int) = 2) by omega, show ¬ ((6 : Int) = 3) by omega, show ¬ ((6 : Int) = 4) by omega, show ¬ ((6 : Int) = 5) by omega, if_false, if_true] at h hp
        repeat' split at h
        all_goals first | omega | (split at hp <;> omega)
end Go.Proofs.YtfioknaadbgjlaaGreatDoor.F
namespace Go.Proofs.YtfioknaadbgjlaaGreatDoor.F
open Go.Lib
def invTwo (v : Int) : Int × Int :=
  if 65296 ≤ v ∧ v ≤ 65305 then (130, v - 65296 + 79)
  else if 65313 ≤ v ∧ v ≤ 65338 then (130, v - 65313 + 96)
  else if 65345 ≤ v ∧ v ≤ 65370 then (130, v - 65345 + 129)
  else if 12353 ≤ v ∧ v ≤ 12435 then (130, v - 12353 + 159)
  else if 12449 ≤ v ∧ v ≤ 12511 then (131, v - 12449 + 64)
  else if 12512 ≤ v ∧ v ≤ 12534 then (131, v - 12449 + 65)
  else if 913 ≤ v ∧ v ≤ 929 then (131, v - 913 + 159)
  else if 931 ≤ v ∧ v ≤ 937 then (131, v - 914 + 159)
  else if 945 ≤ v ∧ v ≤ 961 then (131, v - 945 + 191)
  else if 963 ≤ v ∧ v ≤ 969 then (131, v - 946 + 191)
  else if v = 1025 then (132, 70)
  else if v = 1105 then (132, 118)
  else if 1040 ≤ v ∧ v ≤ 1045 then (132, v - 1040 + 64)
  else if 1046 ≤ v ∧ v ≤ 1071 then (132, v - 1040 + 65)
  else if 1072 ≤ v ∧ v ≤ 1077 then (132, v - 1072 + 112)
  else if 1078 ≤ v ∧ v ≤ 1085 then (132, v - 1072 + 113)
  else (132, v - 1072 + 114)
def twoCheck (a : Int) : Bool := (List.range 256).all fun b => decide (twoI a b = -1 ∨ (invTwo (twoI a b) = (a, (b : Int)) ∧ 160 ≤ twoI a b ∧ twoI a b ≤ 65370 ∧ isR (twoI a b) = true))
theorem twoCheck_130 : twoCheck 130 = true := by decide +kernel
theorem twoCheck_131 : twoCheck 131 = true := by decide +kernel
theorem twoCheck_132 : twoCheck 132 = true := by decide +kernel
theorem two_row {a b : Int} (h : 0 ≤ twoI a b) : a = 130 ∨ a = 131 ∨ a = 132 := by
  apply Decidable.byContradiction
  intro hn
  have : twoI a b = -1 := by
    unfold twoI
    (repeat' split) <;> first | rfl | omega
  omega
theorem two_facts {a : Int} {b : Nat} (hb : b < 256) (h : 0 ≤ twoI a b) : invTwo (twoI a b) = (a, (b : Int)) ∧ 160 ≤ twoI a b ∧ twoI a b ≤ 65370 ∧ isR (twoI a b) = true := by
  have hc : twoCheck a = true := by
    rcases two_row h with rfl | rfl | rfl
    · exact twoCheck_130
    · exact twoCheck_131
    · exact twoCheck_132
  have := List.all_eq_true.1 hc b (List.mem_range.2 hb)
  have := of_decide_eq_true this
  rcases this with h1 | h1
  · omega
  · exact h1
theorem two_inj {a c : Int} {b d : Nat} (hb : b < 256) (hd : d < 256) (h : 0 ≤ twoI a b) (he : twoI a b = twoI c d) : a = c ∧ b = d := by
  have h1 := (two_facts hb h).1
  have h2 := (two_facts hd (he ▸ h)).1
  rw [he, h2] at h1
  have e1 := congrArg Prod.fst h1
  have e2 := congrArg Prod.snd h1
  simp only at e1 e2
  exact ⟨e1.symm, by omega⟩
theorem one6_range {c : Int} (hc : 0 ≤ c) (hc' : c ≤ 255) : oneI 6 c = -1 ∨ oneI 6 c < 128 ∨ 65377 ≤ oneI 6 c := by
  unfold oneI
  (repeat' split) <;> omega
/-- The piece at the head of a list: its character (-1: bad), and how many bytes it has. -/
def pieceL (enc : Int) (l : List UInt8) : Int × Nat :=
  if 7 ≤ enc then (if (nextL l).2 = 0 then (-1, 1) else (((nextL l).1 : Int), (nextL l).2))
  else if enc = 6 ∧ 2 ≤ l.length ∧ 0 ≤ twoI (gB l 0) (gB l 1) then (twoI (gB l 0) (gB l 1), 2)
  else (oneI enc (gB l 0), 1)
def encB (enc r : Int) : Option (List UInt8) := (encI enc r).map fun zs => zs.map fun z => UInt8.ofNat z.toNat
theorem u8_back (x : UInt8) : UInt8.ofNat ((x.toNat : Int)).toNat = x := by
  have : ((x.toNat : Int)).toNat = x.toNat := by omega
  rw [this]
  exact UInt8.ofNat_toNat
theorem encZ_list (r : Int) : ((encodeRuneZ r).map fun z => UInt8.ofNat z.toNat) = encodeRune r := rfl
set_option maxRecDepth 100000 in
/-- A piece is bad, or a character whose bytes it is. -/
theorem piece_enc {enc : Int} {l : List UInt8} (h0 : 0 ≤ enc) (hne : l ≠ []) : ((pieceL enc l).1 = -1 ∧ (pieceL enc l).2 = 1) ∨ (0 ≤ (pieceL enc l).1 ∧ 1 ≤ (pieceL enc l).2 ∧ (pieceL enc l).2 ≤ l.length ∧ encB enc (pieceL enc l).1 = some (l.take (pieceL enc l).2)) := by
  have hlp : 0 < l.length := List.length_pos_iff.2 hne
  obtain ⟨y, ys, rfl⟩ : ∃ y ys, l = y :: ys := by
    cases l with
    | nil => exact absurd rfl hne
    | cons y ys => exact ⟨y, ys, rfl⟩
  by_cases h7 : 7 ≤ enc
  · rcases nextL_facts (y :: ys) with hz | ⟨_, hd, hr, h1, h4, hle, he⟩
    · left
      unfold pieceL
      rw [if_pos h7, hz, if_pos rfl]
      exact ⟨rfl, rfl⟩
    · right
      have hp : pieceL enc (y :: ys) = (((nextL (y :: ys)).1 : Int), (nextL (y :: ys)).2) := by
        unfold pieceL
        rw [if_pos h7, if_neg (by omega)]
      rw [hp]
      refine ⟨by simp only; omega, h1, hle, ?_⟩
      unfold encB encI
      rw [if_neg (by rw [hr]; decide), if_pos h7, Option.map_some, encZ_list, he]
  · by_cases h2 : enc = 6 ∧ 2 ≤ (y :: ys).length ∧ 0 ≤ twoI (gB (y :: ys) 0) (gB (y :: ys) 1)
    · right
      have hp : pieceL enc (y :: ys) = (twoI (gB (y :: ys) 0) (gB (y :: ys) 1), 2) := by
        unfold pieceL
        rw [if_neg h7, if_pos h2]
      rw [hp]
      obtain ⟨rfl, hl2, ht⟩ := h2
      obtain ⟨z, zs, rfl⟩ : ∃ z zs, ys = z :: zs := by
        cases ys with
        | nil => simp at hl2
        | cons z zs => exact ⟨z, zs, rfl⟩
      refine ⟨ht, by simp, hl2, ?_⟩
      have e0 : gB (y :: z :: zs) 0 = y.toNat := rfl
      have e1 : gB (y :: z :: zs) 1 = z.toNat := rfl
      rw [e0, e1] at ht ⊢
      have hy := y.toNat_lt
      have hz := z.toNat_lt
      have hf := two_facts (b := z.toNat) (by omega) ht
      have hrow := two_row ht
      have hno : oneAt 6 (twoI y.toNat z.toNat) = none := oneAt_none (fun j hj he => by
        rcases one6_range (c := j) (by omega) (by omega) with k | k | k <;> omega)
      have htw : twosAt (twoI y.toNat z.toNat) = some [(y.toNat : Int), (z.toNat : Int)] := by
        refine twosAt_some (by omega) (by omega) (twoAt_some (by omega) rfl ?_) ?_
        · intro j hj he
          have := (two_inj (by omega) (by omega) ht he.symm).2
          omega
        · intro c hc1 hc2
          refine twoAt_none (fun j hj he => ?_)
          have := (two_inj (b := z.toNat) (d := j) (by omega) hj ht he.symm).1
          omega
      unfold encB encI
      rw [if_neg (by rw [hf.2.2.2]; decide), if_neg h7, hno]
      simp only [if_true]
      rw [htw]
      simp only [Option.map_some, List.map_cons, List.map_nil, u8_back]
      rfl
    · have hp : pieceL enc (y :: ys) = (oneI enc (gB (y :: ys) 0), 1) := by
        unfold pieceL
        rw [if_neg h7, if_neg h2]
      rw [hp]
      have e0 : gB (y :: ys) 0 = y.toNat := rfl
      rw [e0]
      have hy := y.toNat_lt
      have hk := oneI_ok (enc := enc) (b := y.toNat) h0 (by omega) (by omega) (by omega)
      by_cases hneg : oneI enc (y.toNat : Int) = -1
      · left; exact ⟨hneg, rfl⟩
      · right
        have hpos : 0 ≤ oneI enc (y.toNat : Int) := by omega
        have hr : isR (oneI enc (y.toNat : Int)) = true := isR_of (by omega)
        have hat : oneAt enc (oneI enc (y.toNat : Int)) = some y.toNat := oneAt_some (by omega) rfl (fun j hj he => by
          have := oneI_inj h0 (by omega) (by omega) (by omega) (by omega) (by omega) (by rw [he]; exact hpos) he
          omega)
        refine ⟨hpos, by simp, by simp, ?_⟩
        unfold encB encI
        rw [if_neg (by rw [hr]; decide), if_neg h7, hat]
        simp only [Option.map_some, List.map_cons, List.map_nil, u8_back]
        rfl
end Go.Proofs.YtfioknaadbgjlaaGreatDoor.F
namespace Go.Proofs.YtfioknaadbgjlaaGreatDoor.F
open Go.Lib
def resL : List Int := [34, 37, 42, 47, 58, 60, 62, 63, 92, 124]
def resB (r : Int) : Bool := decide (r ∈ resL ∨ (0 ≤ r ∧ r < 32) ∨ r = 127)
def hexL : List UInt8 := [48, 49, 50, 51, 52, 53, 54, 55, 56, 57, 97, 98, 99, 100, 101, 102]
def esc1 (x : UInt8) : List UInt8 := [37, hexL.getD (x.toNat / 16) 0, hexL.getD (x.toNat % 16) 0]
def escs (l : List UInt8) : List UInt8 := l.flatMap esc1
/-- Is a piece escaped? -/
def hideB (hfs good last empty : Bool) (r : Int) : Bool :=
  decide (r < 0) || resB r || (last && decide (r = 46 ∨ r = 32)) || (!good && decide (128 ≤ r)) || (hfs && good && empty && decide (0 ≤ r ∧ 0 < classI r))
def joinT (hfs good : Bool) (l : List Int) : List Int := if (hfs && good) = true then togI l else l
def presGo (enc : Int) (good : Bool) : Nat → List UInt8 → List Int → List UInt8
  | 0, _, op => joinL (joinT (decide (enc = 8)) good op)
  | n + 1, l, op =>
    if l = [] then joinL (joinT (decide (enc = 8)) good op)
    else
      let p := pieceL enc l
      if hideB (decide (enc = 8)) good (decide (l.length = p.2)) (decide (op = [])) p.1 = true then
        joinL (joinT (decide (enc = 8)) good op) ++ (escs (l.take p.2) ++ presGo enc good n (l.drop p.2) [])
      else presGo enc good n (l.drop p.2) (op ++ [p.1])
theorem presGo_more {enc : Int} {good : Bool} (h0 : 0 ≤ enc) : ∀ (n m : Nat) (l : List UInt8) (op : List Int), l.length ≤ n → n ≤ m → presGo enc good m l op = presGo enc good n l op
  | 0, 0, l, op, _, _ => rfl
  | 0, m + 1, l, op, h, _ => by
    have : l = [] := List.eq_nil_of_length_eq_zero (by omega)
    subst this
    rfl
  | n + 1, 0, l, op, _, h => by omega
  | n + 1, m + 1, l, op, h, h' => by
    simp only [presGo]
    by_cases hne : l = []
    · rw [if_pos hne, if_pos hne]
    · rw [if_neg hne, if_neg hne]
      have h2 : 0 < l.length := List.length_pos_iff.2 hne
      have h1 : 1 ≤ (pieceL enc l).2 := by
        rcases piece_enc h0 hne with hh | hh
        · omega
        · exact hh.2.1
      have hd : (l.drop (pieceL enc l).2).length ≤ n := by rw [List.length_drop]; omega
      rw [presGo_more h0 n m _ _ hd (by omega), presGo_more h0 n m _ _ hd (by omega)]
/-- The same by characters. -/
def escC (l : List UInt8) : List Int := (escs l).map fun x => (x.toNat : Int)
def presC (enc : Int) (good : Bool) : Nat → List UInt8 → List Int → List Int
  | 0, _, op => joinT (decide (enc = 8)) good op
  | n + 1, l, op =>
    if l = [] then joinT (decide (enc = 8)) good op
    else
      let p := pieceL enc l
      if hideB (decide (enc = 8)) good (decide (l.length = p.2)) (decide (op = [])) p.1 = true then
        joinT (decide (enc = 8)) good op ++ (escC (l.take p.2) ++ presC enc good n (l.drop p.2) [])
      else presC enc good n (l.drop p.2) (op ++ [p.1])
theorem escC_cons (x : UInt8) (l : List UInt8) : escC (x :: l) = 37 :: ((hexL.getD (x.toNat / 16) 0).toNat : Int) :: ((hexL.getD (x.toNat % 16) 0).toNat : Int) :: escC l := by
  unfold escC
  rw [show escs (x :: l) = esc1 x ++ escs l by simp [escs]]
  rfl
end Go.Proofs.YtfioknaadbgjlaaGreatDoor.F
namespace Go.Proofs.YtfioknaadbgjlaaGreatDoor.F
open Go.Lib
theorem not_hidden {hfs good last empty : Bool} {r : Int} (h : hideB hfs good last empty r = false) : 0 ≤ r ∧ resB r = false ∧ (good = false → r < 128) := by
  unfold hideB at h
  simp only [Bool.or_eq_false_iff, Bool.and_eq_false_iff, decide_eq_false_iff_not, Bool.not_eq_false'] at h
  obtain ⟨⟨⟨⟨h1, h2⟩, h3⟩, h4⟩, h5⟩ := h
  refine ⟨by omega, h2, fun hg => ?_⟩
  rcases h4 with h4 | h4
  · rw [hg] at h4; cases h4
  · omega
theorem tog_from : ∀ (l out : List Int), ∀ c ∈ l.foldl togStep out, c ∈ out ∨ c ∈ l ∨ 192 ≤ c
  | [], out, c, hc => Or.inl hc
  | r :: l, out, c, hc => by
    rcases tog_from l (togStep out r) c hc with h | h | h
    · have happ : c ∈ out ++ [r] → c ∈ out ∨ c ∈ r :: l ∨ 192 ≤ c := fun h => by
        rcases List.mem_append.1 h with h | h
        · exact Or.inl h
        · simp at h; subst h; exact Or.inr (Or.inl (by simp))
      unfold togStep at h
      cases hb : lastBase out with
      | none => rw [hb] at h; exact happ h
      | some q =>
        obtain ⟨p, b, ms⟩ := q
        rw [hb] at h
        simp only at h
        by_cases hcc : mayB ms r = true ∧ 0 < pairI b r
        · rw [if_pos hcc] at h
          have ho := (lastBase_some hb).1
          rcases List.mem_append.1 h with h | h
          · exact Or.inl (by rw [ho]; simp [h])
          · rcases List.mem_cons.1 h with rfl | h
            · right; right
              rcases pair_kinds hcc.2 with hk | hk | hk <;> omega
            · exact Or.inl (by rw [ho]; simp [h])
        · rw [if_neg hcc] at h; exact happ h
    · exact Or.inr (Or.inl (by simp [h]))
    · exact Or.inr (Or.inr h)
end Go.Proofs.YtfioknaadbgjlaaGreatDoor.F
namespace Go.Proofs.YtfioknaadbgjlaaGreatDoor.F
open Go.Lib
theorem join_ascii : ∀ x : Nat, x < 128 → joinL [((UInt8.ofNat x).toNat : Int)] = [UInt8.ofNat x] := by decide +kernel
theorem join_bytes : ∀ l : List UInt8, (∀ x ∈ l, x.toNat < 128) → joinL (l.map fun x => (x.toNat : Int)) = l
  | [], _ => rfl
  | x :: l, h => by
    have ih := join_bytes l (fun y hy => h y (by simp [hy]))
    have h1 := join_ascii x.toNat (h x (by simp))
    rw [UInt8.ofNat_toNat] at h1
    rw [List.map_cons, show ((x.toNat : Int) :: l.map fun x => (x.toNat : Int)) = [(x.toNat : Int)] ++ l.map fun x => (x.toNat : Int) from rfl, joinL_append, h1, ih]
    rfl
theorem hex_small : ∀ x : Nat, x < 16 → (hexL.getD x 0).toNat < 128 := by decide +kernel
theorem escs_small : ∀ l : List UInt8, ∀ x ∈ escs l, x.toNat < 128 := by
  intro l x hx
  obtain ⟨y, _, hy⟩ := List.mem_flatMap.1 hx
  unfold esc1 at hy
  have h1 := y.toNat_lt
  simp only [List.mem_cons, List.not_mem_nil, or_false] at hy
  rcases hy with rfl | rfl | rfl
  · decide
  · exact hex_small _ (by omega)
  · exact hex_small _ (by omega)
theorem join_escC (l : List UInt8) : joinL (escC l) = escs l := join_bytes (escs l) (escs_small l)
theorem pres_join (enc : Int) (good : Bool) : ∀ (n : Nat) (l : List UInt8) (op : List Int), presGo enc good n l op = joinL (presC enc good n l op)
  | 0, l, op => rfl
  | n + 1, l, op => by
    simp only [presGo, presC]
    by_cases hne : l = []
    · rw [if_pos hne, if_pos hne]
    · rw [if_neg hne, if_neg hne]
      by_cases hh : hideB (decide (enc = 8)) good (decide (l.length = (pieceL enc l).2)) (decide (op = [])) (pieceL enc l).1 = true
      · rw [if_pos hh, if_pos hh, joinL_append, joinL_append, join_escC, pres_join enc good n]
      · rw [if_neg hh, if_neg hh, pres_join enc good n]
/-- All of a presented name are characters. -/
theorem tog_isR : ∀ (l out : List Int), (∀ x ∈ out, isR x = true) → (∀ x ∈ l, isR x = true) → ∀ x ∈ l.foldl togStep out, isR x = true
  | [], out, h, _ => h
  | r :: l, out, h, hl => by
    refine tog_isR l (togStep out r) ?_ (fun x hx => hl x (by simp [hx]))
    have happ : ∀ x ∈ out ++ [r], isR x = true := fun x hx => by
      rcases List.mem_append.1 hx with hx | hx
      · exact h x hx
      · simp at hx; subst hx; exact hl x (by simp)
    unfold togStep
    cases hb : lastBase out with
    | none => exact happ
    | some q =>
      obtain ⟨p, b, ms⟩ := q
      simp only
      by_cases hc : mayB ms r = true ∧ 0 < pairI b r
      · rw [if_pos hc]
        have ho := (lastBase_some hb).1
        intro x hx
        rcases List.mem_append.1 hx with hx | hx
        · exact h x (by rw [ho]; simp [hx])
        · rcases List.mem_cons.1 hx with rfl | hx
          · unfold isR
            rcases pair_kinds hc.2 with hk | hk | hk <;> exact decide_eq_true (by omega)
          · exact h x (by rw [ho]; simp [hx])
      · rw [if_neg hc]; exact happ
theorem joinT_isR {hfs good : Bool} {op : List Int} (h : ∀ x ∈ op, isR x = true) : ∀ x ∈ joinT hfs good op, isR x = true := by
  unfold joinT
  split
  · exact tog_isR op [] (fun x hx => by cases hx) h
  · exact h
theorem escC_isR (l : List UInt8) : ∀ x ∈ escC l, isR x = true := fun x hx => by
  obtain ⟨y, hy, rfl⟩ := List.mem_map.1 hx
  have := escs_small l y hy
  exact decide_eq_true (by omega)
theorem piece_isR {enc : Int} (h0 : 0 ≤ enc) {l : List UInt8} (hne : l ≠ []) (hr : 0 ≤ (pieceL enc l).1) : isR (pieceL enc l).1 = true := by
  unfold pieceL at hr ⊢
  by_cases h7 : 7 ≤ enc
  · rw [if_pos h7] at hr ⊢
    rcases nextL_facts l with hz | ⟨_, hd, hR, h1, h4, hle, he⟩
    · rw [hz, if_pos rfl] at hr; simp at hr
    · rw [if_neg (by omega)] at hr ⊢
      exact hR
  · rw [if_neg h7] at hr ⊢
    by_cases h6 : enc = 6 ∧ 2 ≤ l.length ∧ 0 ≤ twoI (gB l 0) (gB l 1)
    · rw [if_pos h6] at hr ⊢
      exact (two_facts (gB_lt l 1) h6.2.2).2.2.2
    · rw [if_neg h6] at hr ⊢
      have hg := gB_lt l 0
      have ho := oneI_ok (enc := enc) (b := (gB l 0 : Int)) h0 (by omega) (by omega) (by omega)
      simp only at hr
      unfold isR
      exact decide_eq_true (by omega)
theorem presC_isR {enc : Int} (h0 : 0 ≤ enc) (good : Bool) : ∀ (n : Nat) (l : List UInt8) (op : List Int), (∀ x ∈ op, isR x = true) → ∀ x ∈ presC enc good n l op, isR x = true
  | 0, l, op, h => joinT_isR h
  | n + 1, l, op, h => by
    simp only [presC]
    by_cases hne : l = []
    · rw [if_pos hne]; exact joinT_isR h
    · rw [if_neg hne]
      by_cases hh : hideB (decide (enc = 8)) good (decide (l.length = (pieceL enc l).2)) (decide (op = [])) (pieceL enc l).1 = true
      · rw [if_pos hh]
        intro x hx
        rcases List.mem_append.1 hx with hx | hx
        · exact joinT_isR h x hx
        · rcases List.mem_append.1 hx with hx | hx
          · exact escC_isR _ x hx
          · exact presC_isR h0 good n _ [] (fun y hy => by cases hy) x hx
      · rw [if_neg hh]
        have hn := (not_hidden (by simpa using hh)).1
        refine presC_isR h0 good n _ _ fun x hx => ?_
        rcases List.mem_append.1 hx with hx | hx
        · exact h x hx
        · simp at hx; subst hx; exact piece_isR h0 hne hn
def regL (l : List UInt8) : Bool := match runesL l with
  | none => false
  | some rs => decide (apartI rs = rs)
def presL (enc : Int) (l : List UInt8) : List UInt8 := presGo enc (decide (enc ≠ 8) || regL l) l.length l []
end Go.Proofs.YtfioknaadbgjlaaGreatDoor.F
namespace Go.Proofs.YtfioknaadbgjlaaGreatDoor.F
open Go.Lib
def latin9R : List Int := [160, 161, 162, 163, 8364, 165, 352, 167, 353, 169, 170, 171, 172, 173, 174, 175, 176, 177, 178, 179, 381, 181, 182, 183, 382, 185, 186, 187, 338, 339, 376, 191, 192, 193, 194, 195, 196, 197, 198, 199, 200, 201, 202, 203, 204, 205, 206, 207, 208, 209, 210, 211, 212, 213, 214, 215, 216, 217, 218, 219, 220, 221, 222, 223, 224, 225, 226, 227, 228, 229, 230, 231, 232, 233, 234, 235, 236, 237, 238, 239, 240, 241, 242, 243, 244, 245, 246, 247, 248, 249, 250, 251, 252, 253, 254, 255]
def kanaR : List Int := [46, 46, 46, 46, 46, 46, 46, 46, 46, 46, 46, 46, 46, 46, 46, 46, 46, 46, 46, 46, 46, 46, 46, 46, 46, 46, 46, 46, 46, 46, 46, 46, 46, 65377, 65378, 65379, 65380, 65381, 65382, 65383, 65384, 65385, 65386, 65387, 65388, 65389, 65390, 65391, 65392, 65393, 65394, 65395, 65396, 65397, 65398, 65399, 65400, 65401, 65402, 65403, 65404, 65405, 65406, 65407, 65408, 65409, 65410, 65411, 65412, 65413, 65414, 65415, 65416, 65417, 65418, 65419, 65420, 65421, 65422, 65423, 65424, 65425, 65426, 65427, 65428, 65429, 65430, 65431, 65432, 65433, 65434, 65435, 65436, 65437, 65438, 65439]
def kana82R : List Int := [46, 46, 46, 46, 46, 46, 46, 46, 46, 46, 46, 46, 46, 46, 46, 65296, 65297, 65298, 65299, 65300, 65301, 65302, 65303, 65304, 65305, 46, 46, 46, 46, 46, 46, 46, 65313, 65314, 65315, 65316, 65317, 65318, 65319, 65320, 65321, 65322, 65323, 65324, 65325, 65326, 65327, 65328, 65329, 65330, 65331, 65332, 65333, 65334, 65335, 65336, 65337, 65338, 46, 46, 46, 46, 46, 46, 46, 65345, 65346, 65347, 65348, 65349, 65350, 65351, 65352, 65353, 65354, 65355, 65356, 65357, 65358, 65359, 65360, 65361, 65362, 65363, 65364, 65365, 65366, 65367, 65368, 65369, 65370, 46, 46, 46, 46, 12353, 12354, 12355, 12356, 12357, 12358, 12359, 12360, 12361, 12362, 12363, 12364, 12365, 12366, 12367, 12368, 12369, 12370, 12371, 12372, 12373, 12374, 12375, 12376, 12377, 12378, 12379, 12380, 12381, 12382, 12383, 12384, 12385, 12386, 12387, 12388, 12389, 12390, 12391, 12392, 12393, 12394, 12395, 12396, 12397, 12398, 12399, 12400, 12401, 12402, 12403, 12404, 12405, 12406, 12407, 12408, 12409, 12410, 12411, 12412, 12413, 12414, 12415, 12416, 12417, 12418, 12419, 12420, 12421, 12422, 12423, 12424, 12425, 12426, 12427, 12428, 12429, 12430, 12431, 12432, 12433, 12434, 12435]
def kana83R : List Int := [12449, 12450, 12451, 12452, 12453, 12454, 12455, 12456, 12457, 12458, 12459, 12460, 12461, 12462, 12463, 12464, 12465, 12466, 12467, 12468, 12469, 12470, 12471, 12472, 12473, 12474, 12475, 12476, 12477, 12478, 12479, 12480, 12481, 12482, 12483, 12484, 12485, 12486, 12487, 12488, 12489, 12490, 12491, 12492, 12493, 12494, 12495, 12496, 12497, 12498, 12499, 12500, 12501, 12502, 12503, 12504, 12505, 12506, 12507, 12508, 12509, 12510, 12511, 46, 12512, 12513, 12514, 12515, 12516, 12517, 12518, 12519, 12520, 12521, 12522, 12523, 12524, 12525, 12526, 12527, 12528, 12529, 12530, 12531, 12532, 12533, 12534, 46, 46, 46, 46, 46, 46, 46, 46, 913, 914, 915, 916, 917, 918, 919, 920, 921, 922, 923, 924, 925, 926, 927, 928, 929, 931, 932, 933, 934, 935, 936, 937, 46, 46, 46, 46, 46, 46, 46, 46, 945, 946, 947, 948, 949, 950, 951, 952, 953, 954, 955, 956, 957, 958, 959, 960, 961, 963, 964, 965, 966, 967, 968, 969]
def kana84R : List Int := [1040, 1041, 1042, 1043, 1044, 1045, 1025, 1046, 1047, 1048, 1049, 1050, 1051, 1052, 1053, 1054, 1055, 1056, 1057, 1058, 1059, 1060, 1061, 1062, 1063, 1064, 1065, 1066, 1067, 1068, 1069, 1070, 1071, 46, 46, 46, 46, 46, 46, 46, 46, 46, 46, 46, 46, 46, 46, 46, 1072, 1073, 1074, 1075, 1076, 1077, 1105, 1078, 1079, 1080, 1081, 1082, 1083, 1084, 1085, 46, 1086, 1087, 1088, 1089, 1090, 1091, 1092, 1093, 1094, 1095, 1096, 1097, 1098, 1099, 1100, 1101, 1102, 1103]
/-- The k-th character of a row, unless a gap (46) stands there. -/
def atL : List Int → Int → Option Int
  | [], _ => none
  | r :: rs, k => if k = 0 ∧ r ≠ 46 then some r else atL rs (k - 1)
def singleF (enc : Int) : Int := if enc = 1 then 256 else if enc = 2 then 160 else if enc = 3 then 160 else 128
def singleL (enc : Int) : List Int := if enc = 2 then latin2R else if enc = 3 then latin9R else if enc = 4 then cp437R else if enc = 5 then cp850R else if enc = 6 then kanaR else []
def doubleF (enc lead : Int) : Int := if enc = 6 ∧ (lead = 130 ∨ lead = 131 ∨ lead = 132) then 64 else 0
def doubleL (enc lead : Int) : List Int := if enc = 6 then (if lead = 130 then kana82R else if lead = 131 then kana83R else if lead = 132 then kana84R else []) else []
theorem singleL_ok (enc : Int) : (singleL enc).filter isR = singleL enc ∧ (singleL enc).length ≤ 200 := by
  unfold singleL
  (repeat' split) <;> decide +kernel
theorem doubleL_ok (enc lead : Int) : (doubleL enc lead).filter isR = doubleL enc lead ∧ (doubleL enc lead).length ≤ 200 := by
  unfold doubleL
  (repeat' split) <;> decide +kernel
theorem single_fit (enc : Int) : 0 ≤ singleF enc ∧ singleF enc + (singleL enc).length ≤ 256 := by
  unfold singleF singleL
  (repeat' split) <;> first | omega | (subst_vars; decide +kernel)
theorem double_fit (enc lead : Int) : 0 ≤ doubleF enc lead ∧ doubleF enc lead + (doubleL enc lead).length ≤ 256 := by
  unfold doubleF doubleL
  by_cases h : enc = 6
  · subst h
    by_cases h1 : lead = 130
    · subst h1; decide +kernel
    · by_cases h2 : lead = 131
      · subst h2; decide +kernel
      · by_cases h3 : lead = 132
        · subst h3; decide +kernel
        · simp [h1, h2, h3]
  · simp [h]
/-- A byte's character by the project's rows; -1: it has none. -/
def oneP (enc b : Int) : Int := if b < singleF enc then b else (atL (singleL enc) (b - singleF enc)).getD (-1)
def twoP (a b : Int) : Int := (atL (doubleL 6 a) (b - doubleF 6 a)).getD (-1)
def oneCheck : Bool := (List.range 7).all fun e => (List.range 256).all fun b => decide (oneP e b = oneI e b)
def twoCheckP : Bool := [130, 131, 132].all fun a => (List.range 256).all fun b => decide (twoP a b = twoI a b)
set_option maxRecDepth 100000 in
theorem oneCheck_true : oneCheck = true := by decide +kernel
set_option maxRecDepth 100000 in
theorem twoCheckP_true : twoCheckP = true := by decide +kernel
theorem oneP_eq {enc b : Int} (h0 : 0 ≤ enc) (h6 : enc ≤ 6) (hb : 0 ≤ b) (hb' : b ≤ 255) : oneP enc b = oneI enc b := by
  obtain ⟨e, rfl⟩ : ∃ e : Nat, enc = (e : Int) := ⟨enc.toNat, by omega⟩
  obtain ⟨c, rfl⟩ : ∃ c : Nat, b = (c : Int) := ⟨b.toNat, by omega⟩
  have h1 := List.all_eq_true.1 oneCheck_true e (List.mem_range.2 (by omega))
  have h2 := List.all_eq_true.1 h1 c (List.mem_range.2 (by omega))
  exact of_decide_eq_true h2
theorem twoP_eq {a b : Int} (hb : 0 ≤ b) (hb' : b ≤ 255) : twoP a b = twoI a b := by
  obtain ⟨c, rfl⟩ : ∃ c : Nat, b = (c : Int) := ⟨b.toNat, by omega⟩
  by_cases ha : a = 130 ∨ a = 131 ∨ a = 132
  · have hm : a ∈ ([130, 131, 132] : List Int) := by rcases ha with rfl | rfl | rfl <;> simp
    have h1 := List.all_eq_true.1 twoCheckP_true a hm
    have h2 := List.all_eq_true.1 h1 c (List.mem_range.2 (by omega))
    exact of_decide_eq_true h2
  · have h2 : twoI a (c : Int) = -1 := by
      unfold twoI
      (repeat' split) <;> first | rfl | omega
    rw [h2]
    unfold twoP doubleL
    rw [if_pos rfl, if_neg (by omega), if_neg (by omega), if_neg (by omega)]
    rfl
/-- A row's character is a character. -/
theorem atL_mem : ∀ (l : List Int) (k r : Int), atL l k = some r → r ∈ l
  | [], _, _, h => by cases h
  | c :: cs, k, r, h => by
    unfold atL at h
    by_cases hk : k = 0 ∧ c ≠ 46
    · rw [if_pos hk] at h; cases h; exact List.mem_cons_self
    · rw [if_neg hk] at h; exact List.mem_cons_of_mem _ (atL_mem cs _ r h)
theorem atL_isR {l : List Int} (hl : l.filter isR = l) {k r : Int} (h : atL l k = some r) : isR r = true := by
  have hm := atL_mem l k r h
  rw [← hl] at hm
  exact (List.mem_filter.1 hm).2
end Go.Proofs.YtfioknaadbgjlaaGreatDoor.F
namespace Go.Proofs.YtfioknaadbgjlaaGreatDoor.F
open Go.RowKit
/-- The slice v holds the numbers l. -/
def SliceIs (w : World) (v : Value) (l : List Int) : Prop :=
  (l = [] ∧ ∃ a cap, v = .slice a 0 cap) ∨
  (∃ g off cap, g < w.heap.size ∧ v = .slice (some ⟨g, off, none⟩) l.length cap ∧ ∀ j, j < l.length → w.cell? ⟨g, off + j, none⟩ = some (.int .i32 (l.getD j 0)))
theorem SliceIs.kept {w w' : World} {v : Value} {l : List Int} (h : SliceIs w v l) (hb : Below w.heap.size w w') : SliceIs w' v l := by
  rcases h with h | ⟨g, off, cap, hg, hv, hc⟩
  · exact Or.inl h
  · exact Or.inr ⟨g, off, cap, by have := hb.size; omega, hv, fun j hj => by rw [hb.cell (p := ⟨g, off + j, none⟩) hg]; exact hc j hj⟩
theorem SliceIs.nil (w : World) : SliceIs w (.slice none 0 0) [] := Or.inl ⟨rfl, none, 0, rfl⟩
theorem SliceIs.own {w : World} {base e : Nat} {v : Value} {l : List Int} (h : w.ownsRow base e 1 v l.length (l.map (Value.int .i32))) : SliceIs w v l := by
  rcases h.2 with ⟨hv, h0⟩ | ⟨g, cap, cur, hv, hg, hb, hn, hm, hs, ht⟩
  · exact Or.inl ⟨List.eq_nil_of_length_eq_zero h0, none, 0, by rw [hv]⟩
  · refine Or.inr ⟨g, 0, cap, ?_, hv, fun j hj => ?_⟩
    · exact (h.lt g (by rw [hv]; rfl)).2
    · have hcell : w.cell? ⟨g, 0 + j, none⟩ = cur[j]? := by simp [World.cell?, hb]
      rw [hcell, ← Array.getElem?_toList]
      have := congrArg (·[j]?) ht
      simp only [Nat.mul_one, List.getElem?_take, if_pos hj] at this
      rw [this]
      simp [List.getElem?_eq_getElem hj, List.getD_eq_getElem?_getD]
/-- The slice's outer form. -/
theorem SliceIs.len {w : World} {v : Value} {l : List Int} (h : SliceIs w v l) : ∃ a cap, v = .slice a l.length cap := by
  rcases h with ⟨rfl, a, cap, hv⟩ | ⟨g, off, cap, hg, hv, hc⟩
  · exact ⟨a, cap, hv⟩
  · exact ⟨_, cap, hv⟩
theorem same_step {la lb : List Int} {i : Nat} (h : ∀ j, j < i → la.getD j 0 = lb.getD j 0) (h' : la.getD i 0 = lb.getD i 0) : ∀ j, j < i + 1 → la.getD j 0 = lb.getD j 0 := by
  intro j hj
  by_cases e : j = i
  · subst e; exact h'
  · exact h j (by omega)
theorem same_all {la lb : List Int} (hl : la.length = lb.length) (h : ∀ j, j < la.length → la.getD j 0 = lb.getD j 0) : la = lb := by
  apply List.ext_getElem hl
  intro i h1 h2
  have := h i h1
  simpa [List.getD_eq_getElem?_getD, List.getElem?_eq_getElem h1, List.getElem?_eq_getElem h2] using this
theorem below_drewN' {B : Nat} {a w : World} (h : Below B a w) : ∀ q, Below B a (w.drewN q)
  | 0 => h
  | q + 1 => (below_drewN' h q).drew
end Go.Proofs.YtfioknaadbgjlaaGreatDoor.F
