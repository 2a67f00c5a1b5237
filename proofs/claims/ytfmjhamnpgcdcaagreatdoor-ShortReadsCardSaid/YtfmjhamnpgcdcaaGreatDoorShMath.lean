/-
  Digits: those of a hash, padded; those of a number; the short name's bytes.
-/
import Derived.Lib.ItoaNum
import Derived.Lib.Repeat
import Derived.Lib.Hide
namespace Go.Proofs.YtfmjhamnpgcdcaaGreatDoor
set_option linter.unusedVariables false

/-- A digit of base 16. -/
def dgB (u : Nat) : UInt8 := if u < 10 then UInt8.ofNat (48 + u) else UInt8.ofNat (87 + u)
/-- The digits of base 16, no zeros ahead. -/
def hexD (u : Nat) : List UInt8 := if h : u < 16 then [dgB u] else hexD (u / 16) ++ [dgB (u % 16)]
termination_by u
decreasing_by omega
theorem hexD_small {u : Nat} (h : u < 16) : hexD u = [dgB u] := by rw [hexD, dif_pos h]
theorem hexD_big {u : Nat} (h : ¬ u < 16) : hexD u = hexD (u / 16) ++ [dgB (u % 16)] := by rw [hexD, dif_neg h]
/-- n digits of base 16. -/
def padN : Nat → Nat → List UInt8
  | 0, _ => []
  | n + 1, u => padN n (u / 16) ++ [dgB (u % 16)]
theorem padN_length : ∀ n u, (padN n u).length = n
  | 0, _ => rfl
  | n + 1, u => by simp [padN, padN_length n]
theorem padN_zero : ∀ n, padN n 0 = List.replicate n 48
  | 0 => rfl
  | n + 1 => by
    have e : dgB 0 = 48 := by decide
    rw [padN, Nat.zero_div, padN_zero n, Nat.zero_mod, e, List.replicate_succ']
theorem hexD_pad : ∀ n u, 1 ≤ n → u < 16 ^ n → 1 ≤ (hexD u).length ∧ (hexD u).length ≤ n ∧ List.replicate (n - (hexD u).length) 48 ++ hexD u = padN n u := by
  intro n
  induction n with
  | zero => intro u h; omega
  | succ n ih =>
    intro u _ hu
    by_cases hs : u < 16
    · rw [hexD_small hs]
      refine ⟨by simp, by simp, ?_⟩
      rw [padN, Nat.div_eq_of_lt hs, padN_zero, Nat.mod_eq_of_lt hs]
      simp
    · have hn : 1 ≤ n := by
        rcases n with _ | n
        · simp at hu; omega
        · omega
      have hd : u / 16 < 16 ^ n := by
        rw [Nat.pow_succ] at hu
        exact Nat.div_lt_of_lt_mul (by rw [Nat.mul_comm]; exact hu)
      obtain ⟨h1, h2, h3⟩ := ih (u / 16) hn hd
      rw [hexD_big hs]
      refine ⟨by simp, by simp; omega, ?_⟩
      rw [padN, ← h3, List.length_append, List.length_singleton, ← List.append_assoc]
      congr 3
      omega
theorem padN_inj : ∀ n u v, u < 16 ^ n → v < 16 ^ n → padN n u = padN n v → u = v := by
  intro n
  induction n with
  | zero => intro u v hu hv _; simp at hu hv; omega
  | succ n ih =>
    intro u v hu hv h
    rw [padN, padN] at h
    have h2 := List.append_inj h (by rw [padN_length, padN_length])
    rw [Nat.pow_succ] at hu hv
    have hd := ih (u / 16) (v / 16) (Nat.div_lt_of_lt_mul (by rw [Nat.mul_comm]; exact hu)) (Nat.div_lt_of_lt_mul (by rw [Nat.mul_comm]; exact hv)) h2.1
    have hk : ∀ a : Nat, a < 16 → ∀ b : Nat, b < 16 → dgB a = dgB b → a = b := by decide +kernel
    have hm := hk (u % 16) (Nat.mod_lt _ (by decide)) (v % 16) (Nat.mod_lt _ (by decide)) (by simpa using h2.2)
    omega
theorem repeat_48 (n : Nat) : Lib.repeatL [48] n = List.replicate n 48 := by
  induction n with
  | zero => rfl
  | succ n ih => rw [Lib.repeatL, ih]; rfl

theorem dec_small {u : Nat} (h : u < 10) : Lib.decDigits u = [UInt8.ofNat (48 + u)] := by rw [Lib.decDigits, dif_pos h]
theorem dec_big {u : Nat} (h : ¬ u < 10) : Lib.decDigits u = Lib.decDigits (u / 10) ++ [UInt8.ofNat (48 + u % 10)] := by rw [Lib.decDigits, dif_neg h]
theorem dec_length : ∀ n u, 1 ≤ n → u < 10 ^ n → 1 ≤ (Lib.decDigits u).length ∧ (Lib.decDigits u).length ≤ n := by
  intro n
  induction n with
  | zero => intro u h; omega
  | succ n ih =>
    intro u _ hu
    by_cases hs : u < 10
    · rw [dec_small hs]; simp
    · have hn : 1 ≤ n := by
        rcases n with _ | n
        · simp at hu; omega
        · omega
      have hd : u / 10 < 10 ^ n := by
        rw [Nat.pow_succ] at hu
        exact Nat.div_lt_of_lt_mul (by rw [Nat.mul_comm]; exact hu)
      have := ih (u / 10) hn hd
      rw [dec_big hs]
      simp; omega
theorem dec_inj : ∀ (n u v : Nat), u < n → Lib.decDigits u = Lib.decDigits v → u = v := by
  intro n
  induction n with
  | zero => intro u v h; omega
  | succ n ih =>
    intro u v hu h
    have hk : ∀ a : Nat, a < 10 → ∀ b : Nat, b < 10 → UInt8.ofNat (48 + a) = UInt8.ofNat (48 + b) → a = b := by decide +kernel
    have hne : ∀ u, Lib.decDigits u ≠ [] := fun u => by
      by_cases hs : u < 10
      · rw [dec_small hs]; simp
      · rw [dec_big hs]; simp
    by_cases hs : u < 10
    · by_cases hv : v < 10
      · rw [dec_small hs, dec_small hv] at h
        exact hk u hs v hv (by simpa using h)
      · rw [dec_small hs, dec_big hv] at h
        have := congrArg List.length h
        simp only [List.length_append, List.length_singleton] at this
        have h0 : 0 < (Lib.decDigits (v / 10)).length := List.length_pos_iff.2 (hne _)
        omega
    · by_cases hv : v < 10
      · rw [dec_small hv, dec_big hs] at h
        have := congrArg List.length h
        simp only [List.length_append, List.length_singleton] at this
        have h0 : 0 < (Lib.decDigits (u / 10)).length := List.length_pos_iff.2 (hne _)
        omega
      · rw [dec_big hs, dec_big hv] at h
        have h2 := List.append_inj' h rfl
        have hd := ih (u / 10) (v / 10) (by omega) h2.1
        have hm := hk (u % 10) (Nat.mod_lt _ (by decide)) (v % 10) (Nat.mod_lt _ (by decide)) (by simpa using h2.2)
        omega
theorem dec_ne (u : Nat) : Lib.decDigits u ≠ [] := by
  by_cases hs : u < 10
  · rw [dec_small hs]; simp
  · rw [dec_big hs]; simp

/-- The short name of a hash and a number. -/
def nameOk (n : Int) : Bool := decide (1 ≤ n) && decide (n ≤ 1000000)
def nameL (h : Nat) (n : Int) : List UInt8 := if nameOk n = true then [37, 126] ++ padN 8 h ++ [45] ++ Lib.decDigits n.toNat else []
theorem nameL_ok {h : Nat} {n : Int} (h1 : 1 ≤ n) (h2 : n ≤ 1000000) : nameL h n = [37, 126] ++ padN 8 h ++ [45] ++ Lib.decDigits n.toNat := by
  unfold nameL nameOk
  rw [if_pos (by rw [decide_eq_true h1, decide_eq_true h2]; rfl)]
theorem nameL_no {h : Nat} {n : Int} (hn : n < 1 ∨ 1000000 < n) : nameL h n = [] := by
  unfold nameL nameOk
  rw [if_neg]
  rcases hn with hn | hn
  · rw [decide_eq_false (by omega)]; simp
  · rw [decide_eq_false (by omega : ¬ n ≤ 1000000)]; simp
theorem nameL_inj {h k : Nat} {n m : Int} (hh : h < 4294967296) (hk : k < 4294967296) (hn : 1 ≤ n) (hn2 : n ≤ 1000000) (e : nameL h n = nameL k m) : h = k ∧ n = m := by
  by_cases hm : 1 ≤ m ∧ m ≤ 1000000
  · rw [nameL_ok hn hn2, nameL_ok hm.1 hm.2] at e
    simp only [List.append_assoc, List.cons_append, List.nil_append, List.cons.injEq, true_and] at e
    have h2 := List.append_inj e (by rw [padN_length, padN_length])
    have h3 := padN_inj 8 h k (by omega) (by omega) h2.1
    have h4 := dec_inj (n.toNat + 1) n.toNat m.toNat (by omega) (by simpa using h2.2)
    exact ⟨h3, by omega⟩
  · rw [nameL_ok hn hn2, nameL_no (by omega)] at e
    simp at e
theorem nameL_size {h : Nat} {n : Int} (hn : 1 ≤ n) (hn2 : n ≤ 1000000) : 12 ≤ (nameL h n).length ∧ (nameL h n).length ≤ 18 := by
  rw [nameL_ok hn hn2]
  have := dec_length 7 n.toNat (by decide) (by omega)
  simp [padN_length]
  omega
theorem nameL_le (h : Nat) (n : Int) : (nameL h n).length ≤ 18 := by
  by_cases hn : 1 ≤ n ∧ n ≤ 1000000
  · exact (nameL_size hn.1 hn.2).2
  · rw [nameL_no (by omega)]; simp
end Go.Proofs.YtfmjhamnpgcdcaaGreatDoor
