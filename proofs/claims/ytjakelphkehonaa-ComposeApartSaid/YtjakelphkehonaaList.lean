/-
  Plain facts on lists of bytes and of characters: 'runesL' reads all characters of a list of bytes, if they are such; 'joinL' lays the bytes of all numbers that are characters.
-/
import Derived.Test.YtjakelphkehonaaHit
import Derived.Lib.ValidLaws
import Derived.Laws.IdiomStrings
namespace Go.Proofs.Ytjakelphkehonaa
open Go.Lib
set_option linter.unusedVariables false

def runesGo : Nat → List UInt8 → Option (List Int)
  | 0, _ => some []
  | n + 1, l => if l = [] then some [] else if (nextL l).2 = 0 then none else (runesGo n (l.drop (nextL l).2)).map (((nextL l).1 : Int) :: ·)
def runesL (l : List UInt8) : Option (List Int) := runesGo l.length l

theorem runesGo_more : ∀ (n m : Nat) (l : List UInt8), l.length ≤ n → n ≤ m → runesGo m l = runesGo n l
  | 0, 0, l, h, _ => rfl
  | 0, m + 1, l, h, _ => by
    have : l = [] := List.eq_nil_of_length_eq_zero (by omega)
    subst this
    rfl
  | n + 1, 0, l, h, h' => by omega
  | n + 1, m + 1, l, h, h' => by
    simp only [runesGo]
    by_cases hne : l = []
    · rw [if_pos hne, if_pos hne]
    · rw [if_neg hne, if_neg hne]
      by_cases h0 : (nextL l).2 = 0
      · rw [if_pos h0, if_pos h0]
      · rw [if_neg h0, if_neg h0, runesGo_more n m _ (by rw [List.length_drop]; omega) (by omega)]

theorem runesL_nil : runesL [] = some [] := rfl
theorem runesL_step {l : List UInt8} (hne : l ≠ []) : runesL l = if (nextL l).2 = 0 then none else (runesL (l.drop (nextL l).2)).map (((nextL l).1 : Int) :: ·) := by
  have hl : 0 < l.length := List.length_pos_iff.2 hne
  obtain ⟨n, hn⟩ : ∃ n, l.length = n + 1 := ⟨l.length - 1, by omega⟩
  unfold runesL
  rw [hn]
  simp only [runesGo]
  rw [if_neg hne]
  by_cases h0 : (nextL l).2 = 0
  · rw [if_pos h0, if_pos h0]
  · rw [if_neg h0, if_neg h0, runesGo_more (l.drop (nextL l).2).length n _ (Nat.le_refl _) (by rw [List.length_drop]; omega)]

def joinL : List Int → List UInt8
  | [] => []
  | r :: rs => (if isR r = true then encodeRune r else []) ++ joinL rs

theorem joinL_append : ∀ (a b : List Int), joinL (a ++ b) = joinL a ++ joinL b
  | [], b => rfl
  | r :: a, b => by simp only [List.cons_append, joinL, joinL_append a b, List.append_assoc]
theorem joinL_snoc (a : List Int) (r : Int) : joinL (a ++ [r]) = joinL a ++ (if isR r = true then encodeRune r else []) := by
  rw [joinL_append]; simp [joinL]
theorem encodeRune_le (r : Int) : 1 ≤ (encodeRune r).length ∧ (encodeRune r).length ≤ 4 := by
  have := encodeRuneZ_length r
  simpa [encodeRune] using this
theorem joinL_length : ∀ a : List Int, (joinL a).length ≤ 4 * a.length
  | [] => by simp [joinL]
  | r :: a => by
    have := joinL_length a
    have h4 := (encodeRune_le r).2
    simp only [joinL, List.length_append, List.length_cons]
    split
    · omega
    · simp; omega

/-- What was read, joined, is as it was. -/
theorem join_runes : ∀ (n : Nat) (l : List UInt8) (rs : List Int), l.length ≤ n → runesL l = some rs → joinL rs = l := by
  intro n
  induction n with
  | zero =>
    intro l rs hl h
    have : l = [] := List.eq_nil_of_length_eq_zero (by omega)
    subst this
    rw [runesL_nil] at h
    cases h
    rfl
  | succ n ih =>
    intro l rs hl h
    by_cases hne : l = []
    · subst hne
      rw [runesL_nil] at h
      cases h
      rfl
    · rw [runesL_step hne] at h
      have hlp : 0 < l.length := List.length_pos_iff.2 hne
      rcases nextL_facts l with hz | ⟨_, hd, hr, h1, h4, hle, he⟩
      · rw [hz, if_pos rfl] at h
        cases h
      · rw [if_neg (by omega)] at h
        obtain ⟨rs', h', rfl⟩ := Option.map_eq_some_iff.1 h
        have := ih _ rs' (by rw [List.length_drop]; omega) h'
        simp only [joinL]
        rw [this, if_pos hr, he, List.take_append_drop]

theorem nextL_enc {r : Int} (hr : isR r = true) (t : List UInt8) : nextL (encodeRune r ++ t) = (r.toNat, (encodeRune r).length) := by
  have hd := dec_enc r hr t
  have h1 := (encodeRune_le r).1
  have hne : encodeRune r ++ t ≠ [] := by
    intro h
    have := congrArg List.length h
    rw [List.length_append, List.length_nil] at this
    omega
  unfold nextL
  rw [if_neg hne, hd, if_neg]
  rintro ⟨ha, hb⟩
  simp only at ha hb
  have hi := isR_is hr
  have e : r = 65533 := by omega
  subst e
  revert hb
  decide

/-- What was joined is read as it was, but for what is no character. -/
theorem runes_join : ∀ rs : List Int, runesL (joinL rs) = some (rs.filter isR)
  | [] => rfl
  | r :: rs => by
    simp only [joinL]
    by_cases hr : isR r = true
    · rw [if_pos hr]
      have hn := nextL_enc hr (joinL rs)
      have h1 := (encodeRune_le r).1
      have hne : encodeRune r ++ joinL rs ≠ [] := by
        intro h
        have := congrArg List.length h
        rw [List.length_append, List.length_nil] at this
        omega
      have hi := isR_is hr
      rw [runesL_step hne, hn, if_neg (by simp only; omega)]
      simp only
      rw [List.drop_left, runes_join rs, List.filter_cons, if_pos hr]
      have e : ((r.toNat : Nat) : Int) = r := by omega
      rw [e]
      rfl
    · rw [if_neg hr, List.nil_append, runes_join rs, List.filter_cons, if_neg hr]

theorem nextL_dec {l : List UInt8} (hne : l ≠ []) : nextL l = if (decodeL l).1 = 65533 ∧ (decodeL l).2 = 1 then (0, 0) else decodeL l := by unfold nextL; rw [if_neg hne]

/-- The library's test, and the same said by reading. -/
theorem validGo_runes : ∀ (n : Nat) (l : List UInt8), validGoD n l = (runesGo n l).isSome
  | 0, l => rfl
  | n + 1, l => by
    simp only [validGoD, runesGo]
    by_cases hne : l = []
    · rw [if_pos hne, if_pos hne]; rfl
    · rw [if_neg hne, if_neg hne, nextL_dec hne]
      by_cases hg : (decodeL l).1 = 65533 ∧ (decodeL l).2 = 1
      · rw [if_pos hg, if_pos hg, if_pos rfl]; rfl
      · have hw := decodeL_width l
        rw [if_neg hg, if_neg hg, if_neg (by omega), validGo_runes n]
        simp
theorem valid_runes (l : List UInt8) : validD l = (runesL l).isSome := validGo_runes _ _

/-- The conversion to a list of characters, where all are such. -/
theorem runesFrom_eq (s : ByteArray) : ∀ (n i : Nat) (acc : Array Value) (rs : List Int), s.size ≤ i + n → runesL (s.data.toList.drop i) = some rs →
    Conv.runesFrom s n i acc = acc ++ (rs.map (Value.int .i32)).toArray := by
  have hz : s.data.toList.length = s.size := by simp
  intro n
  induction n with
  | zero =>
    intro i acc rs h hr
    have : s.data.toList.drop i = [] := List.drop_eq_nil_of_le (by omega)
    rw [this, runesL_nil] at hr
    cases hr
    simp [Conv.runesFrom]
  | succ n ih =>
    intro i acc rs h hr
    by_cases hi : i < s.size
    · have hne : s.data.toList.drop i ≠ [] := by
        intro h0
        have := congrArg List.length h0
        simp only [List.length_drop, List.length_nil] at this
        omega
      rw [runesL_step hne] at hr
      rcases nextL_facts (s.data.toList.drop i) with hz' | ⟨_, hd, hrr, h1, h4, hle, he⟩
      · rw [hz', if_pos rfl] at hr
        cases hr
      · rw [if_neg (by omega)] at hr
        obtain ⟨rs', h', rfl⟩ := Option.map_eq_some_iff.1 hr
        rw [hd, decodeL_drop] at h' h1
        rw [List.drop_drop] at h'
        unfold Conv.runesFrom
        rw [if_pos hi]
        simp only
        rw [ih (i + (Utf8.decode s i).2) _ rs' (by omega) h', hd, decodeL_drop]
        simp
    · have : s.data.toList.drop i = [] := List.drop_eq_nil_of_le (by omega)
      rw [this, runesL_nil] at hr
      cases hr
      unfold Conv.runesFrom
      rw [if_neg hi]
      simp

theorem runesL_len : ∀ (n : Nat) (l : List UInt8) (rs : List Int), l.length ≤ n → runesL l = some rs → rs.length ≤ l.length := by
  intro n
  induction n with
  | zero =>
    intro l rs hl h
    have : l = [] := List.eq_nil_of_length_eq_zero (by omega)
    subst this
    rw [runesL_nil] at h
    cases h
    simp
  | succ n ih =>
    intro l rs hl h
    by_cases hne : l = []
    · subst hne
      rw [runesL_nil] at h
      cases h
      simp
    · rw [runesL_step hne] at h
      have hlp : 0 < l.length := List.length_pos_iff.2 hne
      by_cases h0 : (nextL l).2 = 0
      · rw [if_pos h0] at h; cases h
      · rw [if_neg h0] at h
        obtain ⟨rs', h', rfl⟩ := Option.map_eq_some_iff.1 h
        have := ih _ rs' (by rw [List.length_drop]; omega) h'
        rw [List.length_drop] at this
        simp only [List.length_cons]
        omega
end Go.Proofs.Ytjakelphkehonaa
