/-
  Plain facts: the characters of an encoding's bytes, as the chapter tells them.
-/
import Derived.Test.YtnnpkognnbolcaaDoorList
namespace Go.Proofs.YtnnpkognnbolcaaDoor
open Go.Lib
set_option linter.unusedVariables false

/-- The n-th of a row's characters; -1: there is none. -/
def nthI (l : List Int) (n : Int) : Int := if n < 0 ∨ (l.length : Int) ≤ n then -1 else l.getD n.toNat 0
def greekI (first n : Int) : Int := if 17 ≤ n then first + (n + 1) else first + n
def russianI (first yo n : Int) : Int := if n = 6 then yo else if 6 < n then first + (n - 1) else first + n
def twoI (a b : Int) : Int :=
  if a = 130 ∧ 79 ≤ b ∧ b ≤ 88 then 65296 + b - 79
  else if a = 130 ∧ 96 ≤ b ∧ b ≤ 121 then 65313 + b - 96
  else if a = 130 ∧ 129 ≤ b ∧ b ≤ 154 then 65345 + b - 129
  else if a = 130 ∧ 159 ≤ b ∧ b ≤ 241 then 12353 + b - 159
  else if a = 131 ∧ 64 ≤ b ∧ b ≤ 150 ∧ b ≠ 127 then (if 127 < b then 12449 + (b - 64 - 1) else 12449 + (b - 64))
  else if a = 131 ∧ 159 ≤ b ∧ b ≤ 182 then greekI 913 (b - 159)
  else if a = 131 ∧ 191 ≤ b ∧ b ≤ 214 then greekI 945 (b - 191)
  else if a = 132 ∧ 64 ≤ b ∧ b ≤ 96 then russianI 1040 1025 (b - 64)
  else if a = 132 ∧ 112 ≤ b ∧ b ≤ 145 ∧ b ≠ 127 then (if 127 < b then russianI 1072 1105 (b - 112 - 1) else russianI 1072 1105 (b - 112))
  else -1
def latin9I (b : Int) : Int :=
  if b = 164 then 8364 else if b = 166 then 352 else if b = 168 then 353 else if b = 180 then 381
  else if b = 184 then 382 else if b = 188 then 338 else if b = 189 then 339 else if b = 190 then 376 else b
def cp437R : List Int := [199, 252, 233, 226, 228, 224, 229, 231, 234, 235, 232, 239, 238, 236, 196, 197, 201, 230, 198, 244, 246, 242, 251, 249, 255, 214, 220, 162, 163, 165, 8359, 402, 225, 237, 243, 250, 241, 209, 170, 186, 191, 8976, 172, 189, 188, 161, 171, 187, 9617, 9618, 9619, 9474, 9508, 9569, 9570, 9558, 9557, 9571, 9553, 9559, 9565, 9564, 9563, 9488, 9492, 9524, 9516, 9500, 9472, 9532, 9566, 9567, 9562, 9556, 9577, 9574, 9568, 9552, 9580, 9575, 9576, 9572, 9573, 9561, 9560, 9554, 9555, 9579, 9578, 9496, 9484, 9608, 9604, 9612, 9616, 9600, 945, 223, 915, 960, 931, 963, 181, 964, 934, 920, 937, 948, 8734, 966, 949, 8745, 8801, 177, 8805, 8804, 8992, 8993, 247, 8776, 176, 8729, 183, 8730, 8319, 178, 9632, 160]
def cp850R : List Int := [199, 252, 233, 226, 228, 224, 229, 231, 234, 235, 232, 239, 238, 236, 196, 197, 201, 230, 198, 244, 246, 242, 251, 249, 255, 214, 220, 248, 163, 216, 215, 402, 225, 237, 243, 250, 241, 209, 170, 186, 191, 174, 172, 189, 188, 161, 171, 187, 9617, 9618, 9619, 9474, 9508, 193, 194, 192, 169, 9571, 9553, 9559, 9565, 162, 165, 9488, 9492, 9524, 9516, 9500, 9472, 9532, 227, 195, 9562, 9556, 9577, 9574, 9568, 9552, 9580, 164, 240, 208, 202, 203, 200, 305, 205, 206, 207, 9496, 9484, 9608, 9604, 166, 204, 9600, 211, 223, 212, 210, 245, 213, 181, 254, 222, 218, 219, 217, 253, 221, 175, 180, 173, 177, 8215, 190, 182, 167, 247, 184, 176, 168, 183, 185, 179, 178, 9632, 160]
def latin2R : List Int := [160, 260, 728, 321, 164, 317, 346, 167, 168, 352, 350, 356, 377, 173, 381, 379, 176, 261, 731, 322, 180, 318, 347, 711, 184, 353, 351, 357, 378, 733, 382, 380, 340, 193, 194, 258, 196, 313, 262, 199, 268, 201, 280, 203, 282, 205, 206, 270, 272, 323, 327, 211, 212, 336, 214, 215, 344, 366, 218, 368, 220, 221, 354, 223, 341, 225, 226, 259, 228, 314, 263, 231, 269, 233, 281, 235, 283, 237, 238, 271, 273, 324, 328, 243, 244, 337, 246, 247, 345, 367, 250, 369, 252, 253, 355, 729]

/-- A byte's character in one of the encodings 0 to 6; -1: it has none. -/
def oneI (enc b : Int) : Int :=
  if b < 128 ∨ enc = 1 then b
  else if enc = 2 then (if b < 160 then b else nthI latin2R (b - 160))
  else if enc = 3 then latin9I b
  else if enc = 4 then nthI cp437R (b - 128)
  else if enc = 5 then nthI cp850R (b - 128)
  else if enc = 6 then (if 161 ≤ b ∧ b ≤ 223 then 65377 + b - 161 else -1)
  else -1

theorem runesL_chars : ∀ (n : Nat) (l : List UInt8) (rs : List Int), l.length ≤ n → runesL l = some rs → ∀ x ∈ rs, isR x = true := by
  intro n
  induction n with
  | zero =>
    intro l rs hl h
    have : l = [] := List.eq_nil_of_length_eq_zero (by omega)
    subst this
    rw [runesL_nil] at h
    cases h
    intro x hx
    cases hx
  | succ n ih =>
    intro l rs hl h
    by_cases hne : l = []
    · subst hne
      rw [runesL_nil] at h
      cases h
      intro x hx
      cases hx
    · rw [runesL_step hne] at h
      have hlp : 0 < l.length := List.length_pos_iff.2 hne
      rcases nextL_facts l with hz | ⟨_, hd, hr, h1, h4, hle, he⟩
      · rw [hz, if_pos rfl] at h
        cases h
      · rw [if_neg (by omega)] at h
        obtain ⟨rs', h', rfl⟩ := Option.map_eq_some_iff.1 h
        have := ih _ rs' (by rw [List.length_drop]; omega) h'
        intro x hx
        rcases List.mem_cons.1 hx with rfl | hx
        · exact hr
        · exact this x hx
end Go.Proofs.YtnnpkognnbolcaaDoor
