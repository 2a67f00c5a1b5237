/-
  A short name is read back: its hash's digits, its number's.
-/
import Derived.Test.YtfmjhamnpgcdcaaGreatDoorShParse
import Derived.Lib.AtoiBound
namespace Go.Proofs.YtfmjhamnpgcdcaaGreatDoor
set_option linter.unusedVariables false

theorem dgV_dgB : ∀ u : Nat, u < 16 → dgV (dgB u) = u := by decide +kernel
theorem hexTo_append : ∀ (a b : List UInt8) (acc : Nat), hexTo acc (a ++ b) = (hexTo acc a).bind fun v => hexTo v b
  | [], b, acc => rfl
  | c :: a, b, acc => by
    rw [List.cons_append, hexTo, hexTo]
    split
    · exact hexTo_append a b _
    · rfl
theorem hexTo_pad : ∀ (n u acc : Nat), u < 16 ^ n → hexTo acc (padN n u) = some (acc * 16 ^ n + u) := by
  intro n
  induction n with
  | zero => intro u acc hu; simp at hu; subst hu; simp [padN, hexTo]
  | succ n ih =>
    intro u acc hu
    rw [Nat.pow_succ] at hu
    have hd : u / 16 < 16 ^ n := Nat.div_lt_of_lt_mul (by rw [Nat.mul_comm]; exact hu)
    have hm := dgV_dgB (u % 16) (Nat.mod_lt _ (by decide))
    rw [padN, hexTo_append, ih (u / 16) acc hd, Option.bind_some, hexTo, if_pos (by rw [hm]; exact Nat.mod_lt _ (by decide)), hm, hexTo, Nat.pow_succ, Nat.add_mul, Nat.mul_assoc]
    congr 1
    omega
theorem hexTo_lt : ∀ (l : List UInt8) (acc v : Nat), hexTo acc l = some v → v < (acc + 1) * 16 ^ l.length
  | [], acc, v, h => by rw [hexTo] at h; simp at h; subst h; simp
  | c :: l, acc, v, h => by
    rw [hexTo] at h
    split at h
    · rename_i hd
      have := hexTo_lt l _ v h
      rw [List.length_cons, Nat.pow_succ]
      have h2 : (acc * 16 + dgV c + 1) * 16 ^ l.length ≤ ((acc + 1) * 16) * 16 ^ l.length := Nat.mul_le_mul_right _ (by omega)
      have h3 : (acc + 1) * 16 * 16 ^ l.length = (acc + 1) * (16 ^ l.length * 16) := by rw [Nat.mul_assoc, Nat.mul_comm 16]
      omega
    · cases h
theorem dig_val : ∀ m : Nat, m < 10 → Lib.digitVal (UInt8.ofNat (48 + m)) = some m := by decide +kernel
theorem decFrom_append : ∀ (a b : List UInt8) (acc : Nat), Lib.decFrom acc (a ++ b) = (Lib.decFrom acc a).bind fun v => Lib.decFrom v b
  | [], b, acc => rfl
  | c :: a, b, acc => by
    rw [List.cons_append, Lib.decFrom, Lib.decFrom]
    cases Lib.digitVal c with
    | none => rfl
    | some d => exact decFrom_append a b _
theorem decFrom_dec : ∀ (n u : Nat), u < n → Lib.decFrom 0 (Lib.decDigits u) = some u := by
  intro n
  induction n with
  | zero => intro u h; omega
  | succ n ih =>
    intro u hu
    by_cases hs : u < 10
    · rw [dec_small hs, Lib.decFrom, dig_val u hs]; simp [Lib.decFrom]
    · rw [dec_big hs, decFrom_append, ih (u / 10) (by omega), Option.bind_some, Lib.decFrom, dig_val (u % 10) (Nat.mod_lt _ (by decide))]
      simp only [Lib.decFrom]
      congr 1
      omega
theorem head_digit : ∀ (n u : Nat), u < n → ∃ m, m < 10 ∧ ∃ r, Lib.decDigits u = UInt8.ofNat (48 + m) :: r := by
  intro n
  induction n with
  | zero => intro u h; omega
  | succ n ih =>
    intro u hu
    by_cases hs : u < 10
    · exact ⟨u, hs, [], dec_small hs⟩
    · obtain ⟨m, hm, r, hr⟩ := ih (u / 10) (by omega)
      exact ⟨m, hm, r ++ [UInt8.ofNat (48 + u % 10)], by rw [dec_big hs, hr]; rfl⟩
theorem atoi_dec (u : Nat) : Lib.atoi (Lib.decDigits u) = some (u : Int) := by
  obtain ⟨m, hm, r, hr⟩ := head_digit (u + 1) u (by omega)
  have h0 := decFrom_dec (u + 1) u (by omega)
  have hk : ∀ m : Nat, m < 10 → (UInt8.ofNat (48 + m) == 45) = false ∧ (UInt8.ofNat (48 + m) == 43) = false := by decide +kernel
  rw [hr] at h0 ⊢
  simp only [Lib.atoi, (hk m hm).1, (hk m hm).2, Bool.false_eq_true, if_false, Lib.decNat, List.isEmpty_cons, h0, Option.map_some]

/-- l is the short name of a hash and a number. -/
def IsName (l : List UInt8) (v : Nat) (n : Int) : Prop := v < 4294967296 ∧ 1 ≤ n ∧ n ≤ 1000000 ∧ l = nameL v n
theorem IsName.one {l : List UInt8} {v k : Nat} {n m : Int} (h : IsName l v n) (g : IsName l k m) : v = k ∧ n = m :=
  nameL_inj h.1 g.1 h.2.1 h.2.2.1 (h.2.2.2.symm.trans g.2.2.2)
theorem IsName.len {l : List UInt8} {v : Nat} {n : Int} (h : IsName l v n) : 12 ≤ l.length ∧ l.length ≤ 18 := by
  rw [h.2.2.2]; exact nameL_size h.2.1 h.2.2.1
theorem IsName.hex {l : List UInt8} {v : Nat} {n : Int} (h : IsName l v n) : hexTo 0 ((l.drop 2).take 8) = some v := by
  rw [h.2.2.2, nameL_ok h.2.1 h.2.2.1]
  have : (([37, 126] ++ padN 8 v ++ [45] ++ Lib.decDigits n.toNat).drop 2).take 8 = padN 8 v := by
    simp only [List.append_assoc, List.cons_append, List.nil_append, List.drop_succ_cons, List.drop_zero]
    rw [List.take_append_of_le_length (by rw [padN_length]; omega), List.take_of_length_le (by rw [padN_length]; omega)]
  rw [this, hexTo_pad 8 v 0 (by have := h.1; omega)]
  simp
theorem IsName.num {l : List UInt8} {v : Nat} {n : Int} (h : IsName l v n) : Lib.atoi (l.drop 11) = some n := by
  rw [h.2.2.2, nameL_ok h.2.1 h.2.2.1]
  have : ([37, 126] ++ padN 8 v ++ [45] ++ Lib.decDigits n.toNat).drop 11 = Lib.decDigits n.toNat := by
    rw [List.drop_append_of_le_length (by simp [padN_length]), List.drop_of_length_le (by simp [padN_length])]
    rfl
  rw [this, atoi_dec]
  have := h.2.1
  congr 1; omega
theorem name_is {l : List UInt8} {v : Nat} {n : Int} (hv : v < 4294967296) (hl : l ≠ []) (h : nameL v n = l) : IsName l v n := by
  by_cases hn : 1 ≤ n ∧ n ≤ 1000000
  · exact ⟨hv, hn.1, hn.2, h.symm⟩
  · rw [nameL_no (by omega)] at h
    exact absurd h.symm hl
/-- What Read answers. -/
def ReadPost (l : List UInt8) (w : World) (e : Ending) (w' : World) : Prop :=
  ((∃ v n, IsName l v n ∧ e = .returned (.tuple #[.int .u32 (v : Int), .int .i64 n, .bool true])) ∨ ((∀ v n, ¬ IsName l v n) ∧ e = .returned (.tuple #[.int .u32 0, .int .i64 0, .bool false]))) ∧ RowKit.Below w.heap.size w w'
end Go.Proofs.YtfmjhamnpgcdcaaGreatDoor
