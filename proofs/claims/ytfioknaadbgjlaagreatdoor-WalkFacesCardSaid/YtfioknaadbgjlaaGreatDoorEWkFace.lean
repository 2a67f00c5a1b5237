/- Kit. -/
import Derived.Test.YtfioknaadbgjlaaGreatDoorEF1
import Derived.Test.YtfioknaadbgjlaaGreatDoorEL4
import Derived.Test.YtfioknaadbgjlaaGreatDoorEK9
import Derived.Test.YtfioknaadbgjlaaGreatDoorEWA
set_option maxRecDepth 100000
set_option linter.unusedVariables false
set_option linter.unusedSimpArgs false
namespace Go.Proofs.YtfioknaadbgjlaaGreatDoor.F
open Go.RowKit Go.Sort Lib
theorem enc_low {r : Int} (h : isR r = true) (h1 : r < 128) : encodeRune r = [UInt8.ofNat r.toNat] := by
  have h0 : 0 ≤ r := by have := isR_is h; omega
  obtain ⟨n, rfl⟩ : ∃ n : Nat, r = (n : Int) := ⟨r.toNat, by omega⟩
  have hn : n < 128 := by omega
  have h2 := join_ascii n hn
  have h3 : ((UInt8.ofNat n).toNat : Int) = (n : Int) := by
    rw [UInt8.toNat_ofNat']
    omega
  rw [h3] at h2
  have h4 := joinL_snoc [] (n : Int)
  rw [List.nil_append, h2, if_pos h] at h4
  rw [Int.toNat_natCast]
  exact h4.symm
theorem enc_byte {r : Int} (h : isR r = true) {x : UInt8} (hx : x ∈ encodeRune r) (hl : x.toNat < 128) : r = (x.toNat : Int) := by
  by_cases h1 : r < 128
  · rw [enc_low h h1] at hx
    have h0 : 0 ≤ r := by have := isR_is h; omega
    rw [List.mem_singleton.1 hx, UInt8.toNat_ofNat']
    omega
  · have := enc_high h (by omega) x hx
    omega
theorem join_byte : ∀ (l : List Int) {x : UInt8}, x.toNat < 128 → x ∈ joinL l → (x.toNat : Int) ∈ l
  | [], _, _, h => by cases h
  | r :: l, x, hl, h => by
    have e : joinL (r :: l) = joinL [r] ++ joinL l := joinL_append [r] l
    rw [e] at h
    rcases List.mem_append.1 h with h | h
    · have h4 := joinL_snoc [] r
      rw [List.nil_append] at h4
      rw [h4] at h
      split at h
      · rename_i hr
        rw [← enc_byte hr h hl]
        exact List.mem_cons_self
      · cases h
    · exact List.mem_cons_of_mem _ (join_byte l hl h)
theorem hex_47 : ∀ n : Nat, n < 16 → ((hexL.getD n 0).toNat : Int) ≠ 47 := by decide
theorem escC_47 : ∀ l : List UInt8, ∀ x ∈ escC l, x ≠ 47
  | [], x, h => by cases h
  | b :: l, x, h => by
    rw [escC_cons] at h
    rcases List.mem_cons.1 h with h | h
    · omega
    · rcases List.mem_cons.1 h with h | h
      · rw [h]; exact hex_47 _ (by have := b.toNat_lt; omega)
      · rcases List.mem_cons.1 h with h | h
        · rw [h]; exact hex_47 _ (by omega)
        · exact escC_47 l x h
theorem joinT_47 {hfs good : Bool} {op : List Int} (h : ∀ x ∈ op, x ≠ 47) : ∀ x ∈ joinT hfs good op, x ≠ 47 := fun x hx => by
  unfold joinT at hx
  split at hx
  · rcases tog_from op [] x hx with h1 | h1 | h1
    · cases h1
    · exact h x h1
    · omega
  · exact h x hx
theorem presC_47 (enc : Int) (good : Bool) : ∀ (n : Nat) (l : List UInt8) (op : List Int), (∀ x ∈ op, x ≠ 47) → ∀ x ∈ presC enc good n l op, x ≠ 47 := by
  intro n
  induction n with
  | zero => intro l op h; exact joinT_47 h
  | succ n ih =>
    intro l op h
    simp only [presC]
    split
    · exact joinT_47 h
    · split
      · intro x hx
        rcases List.mem_append.1 hx with h1 | h1
        · exact joinT_47 h x h1
        · rcases List.mem_append.1 h1 with h2 | h2
          · exact escC_47 _ x h2
          · exact ih _ [] (fun y hy => by cases hy) x h2
      · rename_i hh
        refine ih _ _ (fun x hx => ?_)
        rcases List.mem_append.1 hx with h1 | h1
        · exact h x h1
        · have e : x = (pieceL enc l).1 := by simpa using h1
          have hr := (not_hidden (by simpa using hh)).2.1
          rw [e]
          intro h47
          rw [h47] at hr
          exact absurd hr (by decide)
theorem pres_47 (enc : Int) (l : List UInt8) : ∀ c ∈ presL enc l, c ≠ 47 := fun c hc h => by
  unfold presL at hc
  rw [pres_join] at hc
  subst h
  exact presC_47 enc _ _ l [] (fun y hy => by cases hy) _ (join_byte _ (by decide) hc) rfl
theorem enc_some (r : Int) : encodeRune r ≠ [] := fun h => by
  have := (encodeRune_le r).1
  rw [h] at this
  exact absurd this (by decide)
theorem pres_part {enc : Int} (h0 : 0 ≤ enc) {l : List UInt8} (hl : l ≠ []) : badN (presL enc l) = false := by
  have hp : presL enc l = joinL (presC enc (decide (enc ≠ 8) || regL l) l.length l []) := by unfold presL; rw [pres_join]
  obtain ⟨B, x, hB, hx, -⟩ := last_presC h0 (decide (enc ≠ 8) || regL l) l.length l [] (Nat.le_refl _) hl
  have hR : isR x = true := presC_isR h0 (decide (enc ≠ 8) || regL l) l.length l [] (fun y hy => by cases hy) x (by rw [hB]; simp)
  rw [hB, joinL_snoc, if_pos hR] at hp
  obtain ⟨z, t, hz⟩ : ∃ z t, encodeRune x = z :: t := by
    cases h : encodeRune x with
    | nil => exact absurd h (enc_some x)
    | cons a b => exact ⟨a, b, rfl⟩
  have hz46 : z ≠ 46 := fun h => hx (by
    have := enc_byte hR (x := z) (by rw [hz]; simp) (by rw [h]; decide)
    rw [this, h]; rfl)
  have hmem : z ∈ presL enc l := by rw [hp, hz]; simp
  cases hb : badN (presL enc l) with
  | false => rfl
  | true =>
    rcases (bad_cases _).1 hb with h | h | h
    · rw [h] at hmem; cases hmem
    · rw [h] at hmem; exact absurd (List.mem_singleton.1 hmem) hz46
    · rw [h] at hmem; simp at hmem; exact absurd hmem hz46
theorem padN_47 : ∀ (n u : Nat), ∀ c ∈ padN n u, c ≠ 47
  | 0, _, _, h => by cases h
  | n + 1, u, c, h => by
    rcases List.mem_append.1 h with h | h
    · exact padN_47 n _ c h
    · have hd : ∀ k : Nat, k < 16 → dgB k ≠ 47 := by decide
      rw [List.mem_singleton.1 h]
      exact hd _ (Nat.mod_lt _ (by decide))
theorem dec_47 : ∀ (n u : Nat), u < n → ∀ c ∈ Lib.decDigits u, c ≠ 47
  | 0, _, h, _, _ => by omega
  | n + 1, u, h, c, hc => by
    have hd : ∀ k : Nat, k < 10 → UInt8.ofNat (48 + k) ≠ 47 := by decide
    by_cases hu : u < 10
    · rw [dec_small hu] at hc
      rw [List.mem_singleton.1 hc]
      exact hd u hu
    · rw [dec_big hu] at hc
      rcases List.mem_append.1 hc with hc | hc
      · exact dec_47 n (u / 10) (by omega) c hc
      · rw [List.mem_singleton.1 hc]
        exact hd _ (Nat.mod_lt _ (by decide))
/-- A face can be a path's name. -/
theorem face_part {enc : Int} (h0 : 0 ≤ enc) {e : Ent} (hn : e.name.data.toList ≠ []) (h1 : 0 ≤ e.short) (h2 : e.short ≤ 1000000) : (∀ c ∈ faceL enc e, c ≠ 47) ∧ badN (faceL enc e) = false := by
  unfold faceL
  split
  · exact ⟨pres_47 enc _, pres_part h0 hn⟩
  · rename_i hs
    have hs1 : 1 ≤ e.short := by omega
    constructor
    · rw [nameL_ok hs1 h2]
      intro c hc
      rcases List.mem_append.1 hc with hc | hc
      · rcases List.mem_append.1 hc with hc | hc
        · rcases List.mem_append.1 hc with hc | hc
          · simp at hc; rcases hc with rfl | rfl <;> decide
          · exact padN_47 _ _ c hc
        · rw [List.mem_singleton.1 hc]; decide
      · exact dec_47 _ _ (Nat.lt_succ_self _) c hc
    · have hl := (nameL_size (h := fnvL e.name.data.toList) hs1 h2).1
      cases hb : badN (nameL (fnvL e.name.data.toList) e.short) with
      | false => rfl
      | true =>
        rcases (bad_cases _).1 hb with h | h | h <;> (rw [h] at hl; simp at hl)
end Go.Proofs.YtfioknaadbgjlaaGreatDoor.F
