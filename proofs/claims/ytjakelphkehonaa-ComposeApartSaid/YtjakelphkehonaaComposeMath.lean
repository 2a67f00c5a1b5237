/-
  Plain: the chapter's table of marks, letters, and what they make; Hangul.
-/
import Derived.Test.YtjakelphkehonaaList
namespace Go.Proofs.Ytjakelphkehonaa
open Go.Lib
set_option linter.unusedVariables false

def pairsT : List (Int × List Int × List Int) := [
  (768, [65, 69, 73, 79, 85, 97, 101, 105, 111, 117], [192, 200, 204, 210, 217, 224, 232, 236, 242, 249]),
  (769, [65, 69, 73, 79, 85, 89, 97, 101, 105, 111, 117, 121, 67, 99, 76, 108, 78, 110, 82, 114, 83, 115, 90, 122], [193, 201, 205, 211, 218, 221, 225, 233, 237, 243, 250, 253, 262, 263, 313, 314, 323, 324, 340, 341, 346, 347, 377, 378]),
  (770, [65, 69, 73, 79, 85, 97, 101, 105, 111, 117, 67, 99, 71, 103, 72, 104, 74, 106, 83, 115, 87, 119, 89, 121], [194, 202, 206, 212, 219, 226, 234, 238, 244, 251, 264, 265, 284, 285, 292, 293, 308, 309, 348, 349, 372, 373, 374, 375]),
  (771, [65, 78, 79, 97, 110, 111, 73, 105, 85, 117], [195, 209, 213, 227, 241, 245, 296, 297, 360, 361]),
  (772, [65, 97, 69, 101, 73, 105, 79, 111, 85, 117], [256, 257, 274, 275, 298, 299, 332, 333, 362, 363]),
  (774, [65, 97, 69, 101, 71, 103, 73, 105, 79, 111, 85, 117], [258, 259, 276, 277, 286, 287, 300, 301, 334, 335, 364, 365]),
  (775, [67, 99, 69, 101, 71, 103, 73, 90, 122], [266, 267, 278, 279, 288, 289, 304, 379, 380]),
  (776, [65, 69, 73, 79, 85, 97, 101, 105, 111, 117, 121, 89], [196, 203, 207, 214, 220, 228, 235, 239, 246, 252, 255, 376]),
  (778, [65, 97, 85, 117], [197, 229, 366, 367]),
  (779, [79, 111, 85, 117], [336, 337, 368, 369]),
  (780, [67, 99, 68, 100, 69, 101, 78, 110, 82, 114, 83, 115, 84, 116, 90, 122], [268, 269, 270, 271, 282, 283, 327, 328, 344, 345, 352, 353, 356, 357, 381, 382]),
  (807, [67, 99, 71, 103, 75, 107, 76, 108, 78, 110, 82, 114, 83, 115, 84, 116], [199, 231, 290, 291, 310, 311, 315, 316, 325, 326, 342, 343, 350, 351, 354, 355]),
  (808, [65, 97, 69, 101, 73, 105, 85, 117], [260, 261, 280, 281, 302, 303, 370, 371])]
def markN (n : Nat) : Int := (pairsT.getD n (0, [], [])).1
def lettersN (n : Nat) : List Int := (pairsT.getD n (0, [], [])).2.1
def madeN (n : Nat) : List Int := (pairsT.getD n (0, [], [])).2.2
def txt (l : List Int) : ByteArray := ⟨(joinL l).toArray⟩
theorem txt_runes {l : List Int} (h : l.all isR = true) : runesL (txt l).data.toList = some l := by
  have e : (txt l).data.toList = joinL l := by simp [txt]
  rw [e, runes_join]
  congr 1
  rw [List.filter_eq_self]
  exact fun x hx => List.all_eq_true.1 h x hx
theorem txt_size (l : List Int) : (txt l).size ≤ 4 * l.length := by
  show (joinL l).toArray.size ≤ _
  have := joinL_length l
  simpa using this
def tableOk : Bool := (List.range 13).all fun n => decide ((lettersN n).length = (madeN n).length ∧ 1 ≤ (lettersN n).length ∧ (lettersN n).length ≤ 40 ∧ (lettersN n).all isR = true ∧ (madeN n).all isR = true ∧ 768 ≤ markN n ∧ markN n ≤ 808)
theorem table_ok : tableOk = true := by decide +kernel
theorem table_at {n : Nat} (h : n < 13) : (lettersN n).length = (madeN n).length ∧ 1 ≤ (lettersN n).length ∧ (lettersN n).length ≤ 40 ∧ (lettersN n).all isR = true ∧ (madeN n).all isR = true ∧ 768 ≤ markN n ∧ markN n ≤ 808 :=
  of_decide_eq_true (List.all_eq_true.1 table_ok n (List.mem_range.2 h))

/-- The first number from n on, within so many, at which f has something. -/
def firstSome {α : Type} (f : Nat → Option α) : Nat → Nat → Option α
  | 0, _ => none
  | k + 1, n => match f n with
    | some x => some x
    | none => firstSome f k (n + 1)
theorem firstSome_skip {α : Type} (f : Nat → Option α) : ∀ (k n i : Nat), (∀ j, n ≤ j → j < n + i → f j = none) → i ≤ k → firstSome f k n = firstSome f (k - i) (n + i)
  | k, n, 0, _, _ => rfl
  | 0, n, i + 1, _, h => by omega
  | k + 1, n, i + 1, h, hk => by
    have h0 := h n (by omega) (by omega)
    have ih := firstSome_skip f k (n + 1) i (fun j h1 h2 => h j (by omega) (by omega)) (by omega)
    simp only [firstSome, h0]
    rw [ih, show k + 1 - (i + 1) = k - i by omega, show n + 1 + i = n + (i + 1) by omega]
theorem firstSome_at {α : Type} {f : Nat → Option α} {n : Nat} {x : α} (hn : n < 13) (hno : ∀ j, j < n → f j = none) (h : f n = some x) : firstSome f 13 0 = some x := by
  rw [firstSome_skip f 13 0 n (fun j _ h2 => hno j (by omega)) (by omega), Nat.zero_add]
  obtain ⟨k, hk⟩ : ∃ k, 13 - n = k + 1 := ⟨12 - n, by omega⟩
  rw [hk]
  simp only [firstSome, h]
theorem firstSome_none {α : Type} {f : Nat → Option α} (hno : ∀ j, j < 13 → f j = none) : firstSome f 13 0 = none := by
  rw [firstSome_skip f 13 0 13 (fun j _ h2 => hno j (by omega)) (by omega)]
  rfl
def classI (r : Int) : Int := match (List.range 13).find? (fun n => decide (markN n = r)) with
  | some n => if n < 11 then 230 else 202
  | none => 0
/-- What a letter and the n-th mark make, from the i-th letter on. -/
def rowPair (n : Nat) (a : Int) : Option Int := (((lettersN n).zip (madeN n)).find? fun p => decide (p.1 = a)).map (·.2)
def pairF (a b : Int) (n : Nat) : Option Int := if markN n = b then rowPair n a else none
def pairT (a b : Int) : Option Int := firstSome (pairF a b) 13 0
def pairI (a b : Int) : Int := match pairT a b with
  | some x => x
  | none =>
    if 4352 ≤ a ∧ a ≤ 4370 ∧ 4449 ≤ b ∧ b ≤ 4469 then 44032 + (a - 4352) * 588 + (b - 4449) * 28
    else if 44032 ≤ a ∧ a ≤ 55203 ∧ (a - 44032) % 28 = 0 ∧ 4520 ≤ b ∧ b ≤ 4546 then a + (b - 4519)
    else 0
def rowSplit (n : Nat) (r : Int) : Option Int := (((lettersN n).zip (madeN n)).find? fun p => decide (p.2 = r)).map (·.1)
def splitF (r : Int) (n : Nat) : Option (Int × Int) := (rowSplit n r).map fun a => (a, markN n)
def splitT (r : Int) : Option (Int × Int) := firstSome (splitF r) 13 0
def splitI (r : Int) : Option (Int × Int) := match splitT r with
  | some x => some x
  | none =>
    if r < 44032 ∨ 55203 < r then none
    else if 0 < (r - 44032) % 28 then some (r - (r - 44032) % 28, 4519 + (r - 44032) % 28)
    else some (4352 + (r - 44032) / 588, 4449 + (r - 44032) % 588 / 28)

theorem zip_find1 {l m : List Int} {i : Nat} {a : Int} (hl : l.length = m.length) (hi : i < l.length) (ha : l.getD i 0 = a) (hno : ∀ j, j < i → l.getD j 0 ≠ a) :
    ((l.zip m).find? fun p => decide (p.1 = a)).map (·.2) = some (m.getD i 0) := by
  have hz : (l.zip m).find? (fun p => decide (p.1 = a)) = some (l.getD i 0, m.getD i 0) := by
    rw [List.find?_eq_some_iff_getElem]
    refine ⟨by simp only; rw [ha]; exact decide_eq_true rfl, i, by rw [List.length_zip]; omega, ?_, ?_⟩
    · rw [List.getElem_zip]
      simp [List.getD_eq_getElem?_getD, List.getElem?_eq_getElem hi, List.getElem?_eq_getElem (show i < m.length by omega)]
    · intro j hj
      have := hno j hj
      rw [List.getElem_zip]
      simpa [List.getD_eq_getElem?_getD, List.getElem?_eq_getElem (show j < l.length by omega)] using this
  rw [hz]; rfl
theorem zip_none1 {l m : List Int} {a : Int} (hno : ∀ j, j < l.length → l.getD j 0 ≠ a) : ((l.zip m).find? fun p => decide (p.1 = a)).map (·.2) = none := by
  rw [List.find?_eq_none.2]
  · rfl
  · intro p hp
    obtain ⟨i, hi, rfl⟩ := List.getElem_of_mem hp
    rw [List.length_zip] at hi
    have := hno i (by omega)
    rw [List.getElem_zip]
    simpa [List.getD_eq_getElem?_getD, List.getElem?_eq_getElem (show i < l.length by omega)] using this
theorem zip_find2 {l m : List Int} {i : Nat} {a : Int} (hl : l.length = m.length) (hi : i < m.length) (ha : m.getD i 0 = a) (hno : ∀ j, j < i → m.getD j 0 ≠ a) :
    ((l.zip m).find? fun p => decide (p.2 = a)).map (·.1) = some (l.getD i 0) := by
  have hz : (l.zip m).find? (fun p => decide (p.2 = a)) = some (l.getD i 0, m.getD i 0) := by
    rw [List.find?_eq_some_iff_getElem]
    refine ⟨by simp only; rw [ha]; exact decide_eq_true rfl, i, by rw [List.length_zip]; omega, ?_, ?_⟩
    · rw [List.getElem_zip]
      simp [List.getD_eq_getElem?_getD, List.getElem?_eq_getElem hi, List.getElem?_eq_getElem (show i < l.length by omega)]
    · intro j hj
      have := hno j hj
      rw [List.getElem_zip]
      simpa [List.getD_eq_getElem?_getD, List.getElem?_eq_getElem (show j < m.length by omega)] using this
  rw [hz]; rfl
theorem zip_none2 {l m : List Int} {a : Int} (hno : ∀ j, j < m.length → m.getD j 0 ≠ a) : ((l.zip m).find? fun p => decide (p.2 = a)).map (·.1) = none := by
  rw [List.find?_eq_none.2]
  · rfl
  · intro p hp
    obtain ⟨i, hi, rfl⟩ := List.getElem_of_mem hp
    rw [List.length_zip] at hi
    have := hno i (by omega)
    rw [List.getElem_zip]
    simpa [List.getD_eq_getElem?_getD, List.getElem?_eq_getElem (show i < m.length by omega)] using this
end Go.Proofs.Ytjakelphkehonaa
