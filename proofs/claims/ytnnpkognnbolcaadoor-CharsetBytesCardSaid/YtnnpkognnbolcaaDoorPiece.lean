/-
  Plain facts on pieces: what is encoded stands as one piece at the head of whatever follows; a piece that is not bad is encoded as it was.
-/
import Derived.Test.YtnnpkognnbolcaaDoorCharsetPlain
import Derived.Test.YtnnpkognnbolcaaDoorEncMath
namespace Go.Proofs.YtnnpkognnbolcaaDoor
open Go.Lib
set_option linter.unusedVariables false

def invTwo (v : Int) : Int × Int :=
  if 65296 ≤ v ∧ v ≤ 65305 then (130, v - 65296 + 79)
  else if 65313 ≤ v ∧ v ≤ 65338 then (130, v - 65313 + 96)
  else if 65345 ≤ v ∧ v ≤ 65370 then (130, v - 65345 + 129)
  else if 12353 ≤ v ∧ v ≤ 12435 then (130, v - 12353 + 159)
  else if 12449 ≤ v ∧ v ≤ 12511 then (131, v - 12449 + 64)
  else if 12512 ≤ v ∧ v ≤ 12534 then (131, v - 12449 + 65)
  else if 913 ≤ v ∧ v ≤ 929 then (131, v - 913 + 159)
  else if 931 ≤ v ∧ v ≤ 937 then (131, v - 914 + 159)
  else if 945 ≤ v ∧ v ≤ 961 then (131, v - 945 + 191)
  else if 963 ≤ v ∧ v ≤ 969 then (131, v - 946 + 191)
  else if v = 1025 then (132, 70)
  else if v = 1105 then (132, 118)
  else if 1040 ≤ v ∧ v ≤ 1045 then (132, v - 1040 + 64)
  else if 1046 ≤ v ∧ v ≤ 1071 then (132, v - 1040 + 65)
  else if 1072 ≤ v ∧ v ≤ 1077 then (132, v - 1072 + 112)
  else if 1078 ≤ v ∧ v ≤ 1085 then (132, v - 1072 + 113)
  else (132, v - 1072 + 114)
def twoCheck (a : Int) : Bool := (List.range 256).all fun b => decide (twoI a b = -1 ∨ (invTwo (twoI a b) = (a, (b : Int)) ∧ 160 ≤ twoI a b ∧ twoI a b ≤ 65370 ∧ isR (twoI a b) = true))
theorem twoCheck_130 : twoCheck 130 = true := by decide +kernel
theorem twoCheck_131 : twoCheck 131 = true := by decide +kernel
theorem twoCheck_132 : twoCheck 132 = true := by decide +kernel

theorem two_row {a b : Int} (h : 0 ≤ twoI a b) : a = 130 ∨ a = 131 ∨ a = 132 := by
  apply Decidable.byContradiction
  intro hn
  have : twoI a b = -1 := by
    unfold twoI
    (repeat' split) <;> first | rfl | omega
  omega
theorem two_facts {a : Int} {b : Nat} (hb : b < 256) (h : 0 ≤ twoI a b) : invTwo (twoI a b) = (a, (b : Int)) ∧ 160 ≤ twoI a b ∧ twoI a b ≤ 65370 ∧ isR (twoI a b) = true := by
  have hc : twoCheck a = true := by
    rcases two_row h with rfl | rfl | rfl
    · exact twoCheck_130
    · exact twoCheck_131
    · exact twoCheck_132
  have := List.all_eq_true.1 hc b (List.mem_range.2 hb)
  have := of_decide_eq_true this
  rcases this with h1 | h1
  · omega
  · exact h1
theorem two_inj {a c : Int} {b d : Nat} (hb : b < 256) (hd : d < 256) (h : 0 ≤ twoI a b) (he : twoI a b = twoI c d) : a = c ∧ b = d := by
  have h1 := (two_facts hb h).1
  have h2 := (two_facts hd (he ▸ h)).1
  rw [he, h2] at h1
  have e1 := congrArg Prod.fst h1
  have e2 := congrArg Prod.snd h1
  simp only at e1 e2
  exact ⟨e1.symm, by omega⟩
theorem one6_range {c : Int} (hc : 0 ≤ c) (hc' : c ≤ 255) : oneI 6 c = -1 ∨ oneI 6 c < 128 ∨ 65377 ≤ oneI 6 c := by
  unfold oneI
  (repeat' split) <;> omega
theorem one6_row {c : Int} (h : c = 130 ∨ c = 131 ∨ c = 132) : oneI 6 c = -1 := by
  rcases h with rfl | rfl | rfl <;> decide

theorem oneAt_spec {enc r : Int} {b : Nat} (h : oneAt enc r = some b) : b < 256 ∧ oneI enc b = r := by
  unfold oneAt at h
  rw [List.find?_range_eq_some] at h
  exact ⟨by simpa using h.2.1, by simpa using h.1⟩
theorem twoAt_spec {a r : Int} {b : Nat} (h : twoAt a r = some b) : b < 256 ∧ twoI a b = r := by
  unfold twoAt at h
  rw [List.find?_range_eq_some] at h
  exact ⟨by simpa using h.2.1, by simpa using h.1⟩
theorem twosAt_spec {r : Int} {zs : List Int} (h : twosAt r = some zs) : ∃ (a b : Nat), a < 256 ∧ b < 256 ∧ zs = [(a : Int), (b : Int)] ∧ twoI a b = r := by
  unfold twosAt at h
  split at h
  · rename_i b hb
    cases h
    exact ⟨130, b, by omega, (twoAt_spec hb).1, rfl, (twoAt_spec hb).2⟩
  · split at h
    · rename_i b hb
      cases h
      exact ⟨131, b, by omega, (twoAt_spec hb).1, rfl, (twoAt_spec hb).2⟩
    · split at h
      · rename_i b hb
        cases h
        exact ⟨132, b, by omega, (twoAt_spec hb).1, rfl, (twoAt_spec hb).2⟩
      · cases h

/-- The piece at the head of a list: its character (-1: bad), and how many bytes it has. -/
def pieceL (enc : Int) (l : List UInt8) : Int × Nat :=
  if 7 ≤ enc then (if (nextL l).2 = 0 then (-1, 1) else (((nextL l).1 : Int), (nextL l).2))
  else if enc = 6 ∧ 2 ≤ l.length ∧ 0 ≤ twoI (gB l 0) (gB l 1) then (twoI (gB l 0) (gB l 1), 2)
  else (oneI enc (gB l 0), 1)
def encB (enc r : Int) : Option (List UInt8) := (encI enc r).map fun zs => zs.map fun z => UInt8.ofNat z.toNat

theorem u8_back (x : UInt8) : UInt8.ofNat ((x.toNat : Int)).toNat = x := by
  have : ((x.toNat : Int)).toNat = x.toNat := by omega
  rw [this]
  exact UInt8.ofNat_toNat
theorem encZ_list (r : Int) : ((encodeRuneZ r).map fun z => UInt8.ofNat z.toNat) = encodeRune r := rfl

/-- What is encoded stands as one piece, whatever follows. -/
theorem enc_piece {enc r : Int} {x : List UInt8} (h0 : 0 ≤ enc) (h : encB enc r = some x) (t : List UInt8) : x ≠ [] ∧ pieceL enc (x ++ t) = (r, x.length) := by
  unfold encB at h
  obtain ⟨zs, hz, rfl⟩ := Option.map_eq_some_iff.1 h
  unfold encI at hz
  by_cases hr : isR r = false
  · rw [if_pos hr] at hz; cases hz
  · rw [if_neg hr] at hz
    have hr' : isR r = true := by simpa using hr
    have hi := isR_is hr'
    by_cases h7 : 7 ≤ enc
    · rw [if_pos h7] at hz
      cases hz
      rw [encZ_list]
      have hn := nextL_enc hr' t
      have h1 := (encodeRune_le r).1
      refine ⟨fun h0 => by rw [h0] at h1; simp at h1, ?_⟩
      unfold pieceL
      rw [if_pos h7, hn, if_neg (by simp only; omega)]
      exact Prod.ext (by simp only; omega) rfl
    · rw [if_neg h7] at hz
      cases ho : oneAt enc r with
      | some b =>
        rw [ho] at hz
        cases hz
        obtain ⟨hb, hbr⟩ := oneAt_spec ho
        refine ⟨by simp, ?_⟩
        have hg : (gB (([(b : Int)].map fun z => UInt8.ofNat z.toNat) ++ t) 0 : Int) = b := by
          show (((UInt8.ofNat ((b : Int)).toNat).toNat : Nat) : Int) = b
          rw [u8n _ (by omega)]; omega
        unfold pieceL
        rw [if_neg h7, hg, if_neg, hbr]
        · rfl
        · rintro ⟨h6, _, hp⟩
          subst h6
          have := one6_row (two_row hp)
          omega
      | none =>
        rw [ho] at hz
        by_cases h6 : enc = 6
        · simp only [h6, if_true] at hz
          obtain ⟨a, b, ha, hb, rfl, hab⟩ := twosAt_spec hz
          refine ⟨by simp, ?_⟩
          have hg0 : (gB (([(a : Int), (b : Int)].map fun z => UInt8.ofNat z.toNat) ++ t) 0 : Int) = a := by
            show (((UInt8.ofNat ((a : Int)).toNat).toNat : Nat) : Int) = a
            rw [u8n _ (by omega)]; omega
          have hg1 : (gB (([(a : Int), (b : Int)].map fun z => UInt8.ofNat z.toNat) ++ t) 1 : Int) = b := by
            show (((UInt8.ofNat ((b : Int)).toNat).toNat : Nat) : Int) = b
            rw [u8n _ (by omega)]; omega
          unfold pieceL
          rw [if_neg h7, hg0, hg1, if_pos ⟨h6, by simp, by omega⟩, hab]
          rfl
        · simp only [if_neg h6] at hz
          cases hz

set_option maxRecDepth 100000 in
/-- A piece is bad, or a character whose bytes it is. -/
theorem piece_enc {enc : Int} {l : List UInt8} (h0 : 0 ≤ enc) (hne : l ≠ []) : ((pieceL enc l).1 = -1 ∧ (pieceL enc l).2 = 1) ∨ (0 ≤ (pieceL enc l).1 ∧ 1 ≤ (pieceL enc l).2 ∧ (pieceL enc l).2 ≤ l.length ∧ encB enc (pieceL enc l).1 = some (l.take (pieceL enc l).2)) := by
  have hlp : 0 < l.length := List.length_pos_iff.2 hne
  obtain ⟨y, ys, rfl⟩ : ∃ y ys, l = y :: ys := by
    cases l with
    | nil => exact absurd rfl hne
    | cons y ys => exact ⟨y, ys, rfl⟩
  by_cases h7 : 7 ≤ enc
  · rcases nextL_facts (y :: ys) with hz | ⟨_, hd, hr, h1, h4, hle, he⟩
    · left
      unfold pieceL
      rw [if_pos h7, hz, if_pos rfl]
      exact ⟨rfl, rfl⟩
    · right
      have hp : pieceL enc (y :: ys) = (((nextL (y :: ys)).1 : Int), (nextL (y :: ys)).2) := by
        unfold pieceL
        rw [if_pos h7, if_neg (by omega)]
      rw [hp]
      refine ⟨by simp only; omega, h1, hle, ?_⟩
      unfold encB encI
      rw [if_neg (by rw [hr]; decide), if_pos h7, Option.map_some, encZ_list, he]
  · by_cases h2 : enc = 6 ∧ 2 ≤ (y :: ys).length ∧ 0 ≤ twoI (gB (y :: ys) 0) (gB (y :: ys) 1)
    · right
      have hp : pieceL enc (y :: ys) = (twoI (gB (y :: ys) 0) (gB (y :: ys) 1), 2) := by
        unfold pieceL
        rw [if_neg h7, if_pos h2]
      rw [hp]
      obtain ⟨rfl, hl2, ht⟩ := h2
      obtain ⟨z, zs, rfl⟩ : ∃ z zs, ys = z :: zs := by
        cases ys with
        | nil => simp at hl2
        | cons z zs => exact ⟨z, zs, rfl⟩
      refine ⟨ht, by simp, hl2, ?_⟩
      have e0 : gB (y :: z :: zs) 0 = y.toNat := rfl
      have e1 : gB (y :: z :: zs) 1 = z.toNat := rfl
      rw [e0, e1] at ht ⊢
      have hy := y.toNat_lt
      have hz := z.toNat_lt
      have hf := two_facts (b := z.toNat) (by omega) ht
      have hrow := two_row ht
      have hno : oneAt 6 (twoI y.toNat z.toNat) = none := oneAt_none (fun j hj he => by
        rcases one6_range (c := j) (by omega) (by omega) with k | k | k <;> omega)
      have htw : twosAt (twoI y.toNat z.toNat) = some [(y.toNat : Int), (z.toNat : Int)] := by
        refine twosAt_some (by omega) (by omega) (twoAt_some (by omega) rfl ?_) ?_
        · intro j hj he
          have := (two_inj (by omega) (by omega) ht he.symm).2
          omega
        · intro c hc1 hc2
          refine twoAt_none (fun j hj he => ?_)
          have := (two_inj (b := z.toNat) (d := j) (by omega) hj ht he.symm).1
          omega
      unfold encB encI
      rw [if_neg (by rw [hf.2.2.2]; decide), if_neg h7, hno]
      simp only [if_true]
      rw [htw]
      simp only [Option.map_some, List.map_cons, List.map_nil, u8_back]
      rfl
    · have hp : pieceL enc (y :: ys) = (oneI enc (gB (y :: ys) 0), 1) := by
        unfold pieceL
        rw [if_neg h7, if_neg h2]
      rw [hp]
      have e0 : gB (y :: ys) 0 = y.toNat := rfl
      rw [e0]
      have hy := y.toNat_lt
      have hk := oneI_ok (enc := enc) (b := y.toNat) h0 (by omega) (by omega) (by omega)
      by_cases hneg : oneI enc (y.toNat : Int) = -1
      · left; exact ⟨hneg, rfl⟩
      · right
        have hpos : 0 ≤ oneI enc (y.toNat : Int) := by omega
        have hr : isR (oneI enc (y.toNat : Int)) = true := isR_of (by omega)
        have hat : oneAt enc (oneI enc (y.toNat : Int)) = some y.toNat := oneAt_some (by omega) rfl (fun j hj he => by
          have := oneI_inj h0 (by omega) (by omega) (by omega) (by omega) (by omega) (by rw [he]; exact hpos) he
          omega)
        refine ⟨hpos, by simp, by simp, ?_⟩
        unfold encB encI
        rw [if_neg (by rw [hr]; decide), if_neg h7, hat]
        simp only [Option.map_some, List.map_cons, List.map_nil, u8_back]
        rfl
end Go.Proofs.YtnnpkognnbolcaaDoor
