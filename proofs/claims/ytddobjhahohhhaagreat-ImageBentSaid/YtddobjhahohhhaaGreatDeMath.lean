/-
  Deeds and their bytes, plainly: what may be encoded, its bytes, what is read of bytes; no deed's bytes begin with another one's.
-/
import Derived.Lib.MapLaws
namespace Go.Proofs.YtddobjhahohhhaaGreat
set_option linter.unusedVariables false

abbrev ptV (b : Nat) : Value := .pointer (some ⟨b, 0, none⟩)
structure De where
  k : Int
  d : Int
  dt : Int
  s : ByteArray
  ns : ByteArray
  isD : Bool
  sh : Int
deriving DecidableEq, Inhabited
def deV (x : De) : Value := .agg #[.int .i64 x.k, .int .i64 x.d, .int .i64 x.dt, .string x.s, .string x.ns, .bool x.isD, .int .i64 x.sh]
def deC (x : De) : List Value := [.int .i64 x.k, .int .i64 x.d, .int .i64 x.dt, .string x.s, .string x.ns, .bool x.isD, .int .i64 x.sh]
def noDe : De := ⟨0, 0, 0, ⟨#[]⟩, ⟨#[]⟩, false, 0⟩
/-- May a deed be encoded? -/
def May (x : De) : Prop := (x.k = 1 ∨ x.k = 2 ∨ x.k = 3) ∧ (x.k = 3 ∨ (x.dt = 0 ∧ x.ns = ⟨#[]⟩)) ∧ (x.k = 3 → x.isD = false) ∧ (x.k = 2 → x.sh = 0) ∧
  (0 ≤ x.d ∧ x.d < 65536) ∧ (0 ≤ x.dt ∧ x.dt < 65536) ∧ x.s.size < 256 ∧ x.ns.size < 256 ∧ (0 ≤ x.sh ∧ x.sh ≤ 1000000)
instance (x : De) : Decidable (May x) := inferInstanceAs (Decidable (_ ∧ _))
/-- The most significant byte first. -/
def beB (n : Nat) : Nat → List UInt8
  | 0 => []
  | k + 1 => UInt8.ofNat (n / 256 ^ k) :: beB n k
theorem beB_len (n : Nat) : ∀ k, (beB n k).length = k
  | 0 => rfl
  | k + 1 => by simp [beB, beB_len n k]
def nameB (s : ByteArray) : List UInt8 := beB s.size 1 ++ s.data.toList
theorem nameB_len (s : ByteArray) : (nameB s).length = s.size + 1 := by
  unfold nameB
  rw [List.length_append, beB_len, Array.length_toList]
  show 1 + s.size = _
  omega
def boolN (t : Bool) : Nat := if t = true then 1 else 0
def dirB (x : De) : List UInt8 := if x.k = 3 then [] else beB (boolN x.isD) 1
def toB (x : De) : List UInt8 := if x.k = 3 then beB x.dt.toNat 2 ++ nameB x.ns else []
def shB (x : De) : List UInt8 := if x.k = 2 then [] else beB x.sh.toNat 4
def bytesL (x : De) : List UInt8 := beB x.k.toNat 1 ++ (beB x.d.toNat 2 ++ (nameB x.s ++ (dirB x ++ (toB x ++ shB x))))
/-- What is read of so many bytes, or fewer. -/
def rdN (k : Nat) (l : List UInt8) : Nat := (l.take k).foldl (fun n b => n * 256 + b.toNat) 0
def nmL (l : List UInt8) : ByteArray := ⟨((l.drop 1).take (rdN 1 l)).toArray⟩
def nmR (l : List UInt8) : List UInt8 := (l.drop 1).drop (rdN 1 l)
def decL (l : List UInt8) : De :=
  let k := rdN 1 l
  let d := rdN 2 (l.drop 1)
  let s := nmL ((l.drop 1).drop 2)
  let r := nmR ((l.drop 1).drop 2)
  if k = 1 then ⟨k, d, 0, s, ⟨#[]⟩, decide (rdN 1 r = 1), rdN 4 (r.drop 1)⟩
  else if k = 2 then ⟨k, d, 0, s, ⟨#[]⟩, decide (rdN 1 r = 1), 0⟩
  else if k = 3 then ⟨k, d, rdN 2 r, s, nmL (r.drop 2), false, rdN 4 (nmR (r.drop 2))⟩
  else ⟨k, d, 0, s, ⟨#[]⟩, false, 0⟩
theorem u8_of (n : Nat) : (UInt8.ofNat n).toNat = n % 256 := by simp
theorem beB_drop (n k : Nat) (r : List UInt8) : (beB n k ++ r).drop k = r := by
  have := List.drop_left (l₁ := beB n k) (l₂ := r)
  rwa [beB_len] at this
theorem beB_take (n k : Nat) (r : List UInt8) : (beB n k ++ r).take k = beB n k := by
  have := List.take_left (l₁ := beB n k) (l₂ := r)
  rwa [beB_len] at this
theorem rd1 (n : Nat) (h : n < 256) (r : List UInt8) : rdN 1 (beB n 1 ++ r) = n := by
  unfold rdN
  rw [beB_take]
  simp [beB]
  omega
theorem rd2 (n : Nat) (h : n < 65536) (r : List UInt8) : rdN 2 (beB n 2 ++ r) = n := by
  unfold rdN
  rw [beB_take]
  simp [beB]
  omega
theorem rd4 (n : Nat) (h : n < 4294967296) (r : List UInt8) : rdN 4 (beB n 4 ++ r) = n := by
  unfold rdN
  rw [beB_take]
  simp [beB]
  omega
theorem nm_l (s : ByteArray) (h : s.size < 256) (r : List UInt8) : nmL (nameB s ++ r) = s := by
  unfold nmL nameB
  rw [List.append_assoc, rd1 _ h, beB_drop, List.take_left' (by rw [Array.length_toList]; rfl)]
theorem nm_r (s : ByteArray) (h : s.size < 256) (r : List UInt8) : nmR (nameB s ++ r) = r := by
  unfold nmR nameB
  rw [List.append_assoc, rd1 _ h, beB_drop, List.drop_left' (by rw [Array.length_toList]; rfl)]
theorem decL_bytes (x : De) (h : May x) (r : List UInt8) : decL (bytesL x ++ r) = x := by
  obtain ⟨k, d, dt, s, ns, isD, sh⟩ := x
  obtain ⟨h1, h2, h3, h4, h5, h6, h7, h8, h9⟩ := h
  simp only at h1 h2 h3 h4 h5 h6 h7 h8 h9
  obtain ⟨d, rfl⟩ : ∃ n : Nat, d = n := ⟨d.toNat, by omega⟩
  obtain ⟨dt, rfl⟩ : ∃ n : Nat, dt = n := ⟨dt.toNat, by omega⟩
  obtain ⟨sh, rfl⟩ : ∃ n : Nat, sh = n := ⟨sh.toNat, by omega⟩
  unfold bytesL decL
  simp only [List.append_assoc, Int.toNat_natCast]
  have hk : ∃ q : Nat, k = q ∧ (q = 1 ∨ q = 2 ∨ q = 3) := ⟨k.toNat, by omega, by omega⟩
  obtain ⟨q, rfl, hq⟩ := hk
  rw [Int.toNat_natCast, rd1 q (by omega), beB_drop, rd2 d (by omega), beB_drop, nm_l s h7, nm_r s h7]
  unfold dirB toB shB
  simp only [Int.toNat_natCast]
  rcases hq with rfl | rfl | rfl
  · obtain ⟨e1, e2⟩ := h2.resolve_left (by decide)
    have e1' : dt = 0 := by omega
    subst e1' e2
    simp only [reduceIte, List.nil_append, show ¬ ((1 : Nat) : Int) = 3 by decide, show ¬ ((1 : Nat) : Int) = 2 by decide]
    rw [rd1 _ (by unfold boolN; split <;> omega), beB_drop, rd4 sh (by omega)]
    cases isD <;> simp [boolN]
  · obtain ⟨e1, e2⟩ := h2.resolve_left (by decide)
    have e1' : dt = 0 := by omega
    have e3 : sh = 0 := by have := h4 rfl; omega
    subst e1' e2 e3
    simp only [reduceIte, List.nil_append, show ((2 : Nat) : Int) = 2 from rfl, show ¬ (2 : Int) = 3 by decide, show ¬ (2 : Nat) = 1 by decide]
    rw [rd1 _ (by unfold boolN; split <;> omega)]
    cases isD <;> simp [boolN]
  · obtain rfl : isD = false := h3 rfl
    simp only [reduceIte, List.nil_append, List.append_assoc, show ¬ (3 : Nat) = 1 by decide, show ¬ (3 : Nat) = 2 by decide, show ((3 : Nat) : Int) = 3 from rfl, show ¬ (3 : Int) = 2 by decide]
    rw [rd2 dt (by omega), beB_drop, nm_l ns h8, nm_r ns h8, rd4 sh (by omega)]
/-- No deed's bytes begin with another one's. -/
theorem bytes_first {a b : De} (ha : May a) (hb : May b) {r : List UInt8} (h : bytesL b = bytesL a ++ r) : a = b := by
  have h1 := decL_bytes a ha r
  have h2 := decL_bytes b hb []
  rw [List.append_nil, h] at h2
  rw [← h1, h2]
theorem bytesL_len (x : De) (h : May x) : (bytesL x).length ≤ 600 := by
  obtain ⟨_, _, _, _, _, _, h7, h8, _⟩ := h
  have e1 : (nameB x.s).length ≤ 256 := by rw [nameB_len]; omega
  have e2 : (nameB x.ns).length ≤ 256 := by rw [nameB_len]; omega
  have e3 : (dirB x).length ≤ 1 := by unfold dirB; split <;> simp [beB_len]
  have e4 : (toB x).length ≤ 258 := by unfold toB; split <;> simp [beB_len] <;> omega
  have e5 : (shB x).length ≤ 4 := by unfold shB; split <;> simp [beB_len]
  unfold bytesL
  simp only [List.length_append, beB_len]
  omega
end Go.Proofs.YtddobjhahohhhaaGreat
