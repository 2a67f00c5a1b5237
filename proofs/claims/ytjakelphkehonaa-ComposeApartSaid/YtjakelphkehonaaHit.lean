/-
  Plain facts: a character's bytes stand at the head of a list just if the number that its bytes bear is a character whose bytes they are; at most one number of bytes serves.
-/
import Derived.Test.YtjakelphkehonaaU8
namespace Go.Proofs.Ytjakelphkehonaa
open Go.Lib
set_option linter.unusedVariables false

def gB (l : List UInt8) (i : Nat) : Nat := (l.getD i 0).toNat
def numL (s : Nat) (l : List UInt8) : Nat :=
  if s = 1 then gB l 0
  else if s = 2 then gB l 0 % 32 * 64 + gB l 1 % 64
  else if s = 3 then (gB l 0 % 16 * 64 + gB l 1 % 64) * 64 + gB l 2 % 64
  else ((gB l 0 % 8 * 64 + gB l 1 % 64) * 64 + gB l 2 % 64) * 64 + gB l 3 % 64
def Hit (s : Nat) (l : List UInt8) : Prop := s ≤ l.length ∧ isR (numL s l : Int) = true ∧ encodeRune (numL s l : Int) = l.take s

theorem gB_lt (l : List UInt8) (i : Nat) : gB l i < 256 := UInt8.toNat_lt _

/-- What decodes at the head: nothing, or a character and its bytes. -/
def nextL (l : List UInt8) : Nat × Nat := if l = [] then (0, 0) else if (decodeL l).1 = 65533 ∧ (decodeL l).2 = 1 then (0, 0) else decodeL l

theorem hit_next {s : Nat} {l : List UInt8} (h1 : 1 ≤ s) (h : Hit s l) : nextL l = (numL s l, s) := by
  obtain ⟨hl, hr, he⟩ := h
  have hd := dec_enc _ hr (l.drop s)
  rw [he, List.take_append_drop, List.length_take, Nat.min_eq_left hl] at hd
  have hn : ((numL s l : Nat) : Int).toNat = numL s l := by omega
  rw [hn] at hd
  have hne : l ≠ [] := by intro h0; rw [h0] at hl; simp at hl; omega
  unfold nextL
  rw [if_neg hne, hd, if_neg]
  rintro ⟨ha, hb⟩
  simp only at ha hb
  subst hb
  have := gB_lt l 0
  unfold numL at ha
  rw [if_pos rfl] at ha
  omega

theorem dec_range (l : List UInt8) (hne : l ≠ []) : isR ((decodeL l).1 : Int) = true := by
  rw [decodeL_N]
  have h0 : (l.getD 0 0).toNat < 256 := UInt8.toNat_lt _
  apply isR_of
  unfold decodeN
  repeat' split
  all_goals (simp only; omega)

theorem next_hit {l : List UInt8} (hne : l ≠ []) (hg : ¬ ((decodeL l).1 = 65533 ∧ (decodeL l).2 = 1)) : 1 ≤ (decodeL l).2 ∧ (decodeL l).2 ≤ 4 ∧ Hit (decodeL l).2 l := by
  have he := encode_decode l hne hg
  have hr := dec_range l hne
  have hw := decodeL_width l
  have hl := decodeL_le l hne
  have hi := isR_is hr
  generalize hc : (decodeL l).1 = c at *
  generalize hk : (decodeL l).2 = k at *
  have hlen : (encodeRune (c : Int)).length = k := by rw [he, List.length_take]; omega
  have h4 := (encodeRuneZ_length (c : Int)).2
  have h4' : k ≤ 4 := by rw [← hlen]; simpa [encodeRune] using h4
  refine ⟨hw, h4', hl, ?_⟩
  have hnum : numL k l = c := by
    have hgd : ∀ i, i < k → gB l i = gB (encodeRune (c : Int)) i := by
      intro i hik
      unfold gB
      rw [he, List.getD_eq_getElem?_getD, List.getD_eq_getElem?_getD, List.getElem?_take, if_pos hik]
    by_cases h1 : c < 128
    · have e := enc1 c h1
      have hk1 : k = 1 := by rw [← hlen, e]; rfl
      subst hk1
      unfold numL
      rw [if_pos rfl, hgd 0 (by omega), e]
      exact u8n c (by omega)
    · by_cases h2 : c < 2048
      · have e := enc2 c (by omega) h2
        have hk1 : k = 2 := by rw [← hlen, e]; rfl
        subst hk1
        unfold numL
        rw [if_neg (by omega), if_pos rfl, hgd 0 (by omega), hgd 1 (by omega), e]
        have a0 : gB [UInt8.ofNat (192 + c / 64), UInt8.ofNat (128 + c % 64)] 0 = 192 + c / 64 := u8n _ (by omega)
        have a1 : gB [UInt8.ofNat (192 + c / 64), UInt8.ofNat (128 + c % 64)] 1 = 128 + c % 64 := u8n _ (by omega)
        rw [a0, a1]
        omega
      · by_cases h3 : c < 65536
        · have e := enc3 c (by omega) h3 (by omega)
          have hk1 : k = 3 := by rw [← hlen, e]; rfl
          subst hk1
          unfold numL
          rw [if_neg (by omega), if_neg (by omega), if_pos rfl, hgd 0 (by omega), hgd 1 (by omega), hgd 2 (by omega), e]
          have a0 : gB [UInt8.ofNat (224 + c / 4096), UInt8.ofNat (128 + c / 64 % 64), UInt8.ofNat (128 + c % 64)] 0 = 224 + c / 4096 := u8n _ (by omega)
          have a1 : gB [UInt8.ofNat (224 + c / 4096), UInt8.ofNat (128 + c / 64 % 64), UInt8.ofNat (128 + c % 64)] 1 = 128 + c / 64 % 64 := u8n _ (by omega)
          have a2 : gB [UInt8.ofNat (224 + c / 4096), UInt8.ofNat (128 + c / 64 % 64), UInt8.ofNat (128 + c % 64)] 2 = 128 + c % 64 := u8n _ (by omega)
          rw [a0, a1, a2]
          omega
        · have e := enc4 c (by omega) (by omega)
          have hk1 : k = 4 := by rw [← hlen, e]; rfl
          subst hk1
          unfold numL
          rw [if_neg (by omega), if_neg (by omega), if_neg (by omega), hgd 0 (by omega), hgd 1 (by omega), hgd 2 (by omega), hgd 3 (by omega), e]
          have a0 : gB [UInt8.ofNat (240 + c / 262144), UInt8.ofNat (128 + c / 4096 % 64), UInt8.ofNat (128 + c / 64 % 64), UInt8.ofNat (128 + c % 64)] 0 = 240 + c / 262144 := u8n _ (by omega)
          have a1 : gB [UInt8.ofNat (240 + c / 262144), UInt8.ofNat (128 + c / 4096 % 64), UInt8.ofNat (128 + c / 64 % 64), UInt8.ofNat (128 + c % 64)] 1 = 128 + c / 4096 % 64 := u8n _ (by omega)
          have a2 : gB [UInt8.ofNat (240 + c / 262144), UInt8.ofNat (128 + c / 4096 % 64), UInt8.ofNat (128 + c / 64 % 64), UInt8.ofNat (128 + c % 64)] 2 = 128 + c / 64 % 64 := u8n _ (by omega)
          have a3 : gB [UInt8.ofNat (240 + c / 262144), UInt8.ofNat (128 + c / 4096 % 64), UInt8.ofNat (128 + c / 64 % 64), UInt8.ofNat (128 + c % 64)] 3 = 128 + c % 64 := u8n _ (by omega)
          rw [a0, a1, a2, a3]
          omega
  rw [hnum]
  exact ⟨hr, he⟩

/-- No number of bytes up to four serves: there is no character. -/
theorem no_hit {l : List UInt8} (h : ∀ s, 1 ≤ s → s ≤ 4 → ¬ Hit s l) : nextL l = (0, 0) := by
  unfold nextL
  by_cases hne : l = []
  · rw [if_pos hne]
  · rw [if_neg hne]
    by_cases hg : (decodeL l).1 = 65533 ∧ (decodeL l).2 = 1
    · rw [if_pos hg]
    · obtain ⟨a, b, c⟩ := next_hit hne hg
      exact absurd c (h _ a b)

/-- Of what is decoded: a character, of at most four bytes, that are in the list. -/
theorem nextL_facts (l : List UInt8) : nextL l = (0, 0) ∨ (l ≠ [] ∧ nextL l = decodeL l ∧ isR ((nextL l).1 : Int) = true ∧ 1 ≤ (nextL l).2 ∧ (nextL l).2 ≤ 4 ∧ (nextL l).2 ≤ l.length ∧ encodeRune ((nextL l).1 : Int) = l.take (nextL l).2) := by
  by_cases hne : l = []
  · left; unfold nextL; rw [if_pos hne]
  · by_cases hg : (decodeL l).1 = 65533 ∧ (decodeL l).2 = 1
    · left; unfold nextL; rw [if_neg hne, if_pos hg]
    · right
      have e : nextL l = decodeL l := by unfold nextL; rw [if_neg hne, if_neg hg]
      obtain ⟨a, b, c⟩ := next_hit hne hg
      rw [e]
      exact ⟨hne, rfl, dec_range l hne, a, b, decodeL_le l hne, encode_decode l hne hg⟩
end Go.Proofs.Ytjakelphkehonaa
