/-
  Plain facts of a text of an encoding's characters that is presented as it is.
-/
import Derived.Test.YtfmjhamnpgcdcaaDoorZEsCleanM
namespace Go.Proofs.YtfmjhamnpgcdcaaDoor
open Go.RowKit Go.Lib Go.Sort
set_option linter.unusedVariables false

theorem bytesM_nilP (enc : Int) : bytesM enc [] = some [] := rfl
theorem bytesM_consP {enc r : Int} {l : List Int} {x : List UInt8} (h : bytesM enc (r :: l) = some x) : ∃ b z, encB enc r = some b ∧ bytesM enc l = some z ∧ x = b ++ z := by
  unfold bytesM at h
  simp only [List.map_cons, List.foldr_cons] at h
  cases hc : encB enc r with
  | none => rw [hc] at h; cases h
  | some b =>
    rw [hc] at h
    simp only [Option.bind_some] at h
    obtain ⟨z, hz, rfl⟩ := Option.map_eq_some_iff.1 h
    exact ⟨b, z, rfl, hz, rfl⟩
theorem encB_isR {enc r : Int} {b : List UInt8} (h : encB enc r = some b) : isR r = true := by
  unfold encB encI at h
  cases hr : isR r with
  | true => rfl
  | false => rw [hr] at h; simp at h
theorem encB_utf {enc r : Int} (h7 : 7 ≤ enc) {b : List UInt8} (h : encB enc r = some b) : b = encodeRune r := by
  have hr := encB_isR h
  unfold encB encI at h
  rw [if_neg (by rw [hr]; decide), if_pos h7, Option.map_some, encZ_list] at h
  exact (Option.some.inj h).symm
theorem bytesM_join {enc : Int} (h7 : 7 ≤ enc) : ∀ (l : List Int) (x : List UInt8), bytesM enc l = some x → x = joinL l ∧ ∀ r ∈ l, isR r = true
  | [], x, h => by cases h; exact ⟨rfl, fun r hr => nomatch hr⟩
  | r :: l, x, h => by
    obtain ⟨b, z, h1, h2, rfl⟩ := bytesM_consP h
    obtain ⟨h3, h4⟩ := bytesM_join h7 l z h2
    have hr := encB_isR h1
    refine ⟨?_, fun q hq => ?_⟩
    · rw [encB_utf h7 h1, h3]
      simp only [joinL]
      rw [if_pos hr]
    · rcases List.mem_cons.1 hq with rfl | hq
      · exact hr
      · exact h4 q hq
theorem encB_short {enc r : Int} {b : List UInt8} (h0 : 0 ≤ enc) (h : encB enc r = some b) : 1 ≤ b.length ∧ b.length ≤ 4 := by
  obtain ⟨hne, hp⟩ := enc_piece h0 h []
  have hl := List.length_pos_iff.2 hne
  have := pieceL_range h0 hne
  rw [List.append_nil] at hp
  rw [hp] at this
  refine ⟨hl, ?_⟩
  unfold encB encI at h
  by_cases hr : isR r = false
  · rw [if_pos hr] at h; cases h
  · rw [if_neg hr] at h
    by_cases h7 : 7 ≤ enc
    · rw [if_pos h7, Option.map_some, encZ_list] at h
      rw [← Option.some.inj h]
      exact (encodeRune_le r).2
    · rw [if_neg h7] at h
      cases ho : oneAt enc r with
      | some q =>
        rw [ho] at h
        rw [← Option.some.inj h]
        simp
      | none =>
        rw [ho] at h
        simp only at h
        by_cases h6 : enc = 6
        · rw [if_pos h6] at h
          obtain ⟨zs, hz, rfl⟩ := Option.map_eq_some_iff.1 h
          obtain ⟨a, c, _, _, rfl, _⟩ := twosAt_spec hz
          simp
        · rw [if_neg h6] at h; cases h
theorem bytesM_len {enc : Int} (h0 : 0 ≤ enc) : ∀ (l : List Int) (x : List UInt8), bytesM enc l = some x → x.length ≤ 4 * l.length
  | [], x, h => by cases h; simp
  | r :: l, x, h => by
    obtain ⟨b, z, h1, h2, rfl⟩ := bytesM_consP h
    have h3 := bytesM_len h0 l z h2
    have h4 := encB_short h0 h1
    simp only [List.length_append, List.length_cons]
    omega
theorem plain_presC {enc : Int} (h0 : 0 ≤ enc) : ∀ (n : Nat) (l : List Int) (raw : List UInt8) (op : List Int), bytesM enc l = some raw → raw.length ≤ n →
    (∀ r ∈ l, reservedI r = false) → (∀ z, l.getLast? = some z → z ≠ 46 ∧ z ≠ 32) → (enc = 8 → op = [] → ∀ r t, l = r :: t → classI r = 0) →
    presC enc true n raw op = joinT (decide (enc = 8)) true (op ++ l)
  | n, [], raw, op, hb, hl, _, _, _ => by
    cases hb
    rw [List.append_nil]
    cases n with
    | zero => rfl
    | succ n => simp [presC]
  | n, r :: l, raw, op, hb, hl, hr, hz, hc => by
    obtain ⟨b, z, h1, h2, rfl⟩ := bytesM_consP hb
    obtain ⟨hne, hp⟩ := enc_piece h0 h1 z
    have hbl := encB_short h0 h1
    have hR := encB_isR h1
    cases n with
    | zero => simp only [List.length_append] at hl; omega
    | succ n =>
      have hlast : (b ++ z).length = b.length → l = [] := fun he => by
        cases l with
        | nil => rfl
        | cons q l =>
          obtain ⟨b', z', h3, h4, rfl⟩ := bytesM_consP h2
          have := encB_short h0 h3
          simp only [List.length_append] at he
          omega
      have hh : hideB (decide (enc = 8)) true (decide ((b ++ z).length = b.length)) (decide (op = [])) r = false := by
        have hr0 : 0 ≤ r := by
          unfold isR at hR
          have := of_decide_eq_true hR
          omega
        unfold hideB
        rw [res_same, hr r (by simp), decide_eq_false (show ¬ (r < 0) by omega)]
        simp only [Bool.not_true, Bool.false_and, Bool.or_false, Bool.false_or, Bool.and_true]
        rw [Bool.or_eq_false_iff]
        constructor
        · by_cases he : (b ++ z).length = b.length
          · have hl0 := hlast he
            subst hl0
            have := hz r rfl
            rw [decide_eq_false (show ¬ (r = 46 ∨ r = 32) by omega), Bool.and_false]
          · rw [decide_eq_false he, Bool.false_and]
        · by_cases h8 : enc = 8
          · by_cases ho : op = []
            · rw [decide_eq_false (show ¬ (0 ≤ r ∧ 0 < classI r) by rw [hc h8 ho r l rfl]; omega), Bool.and_false]
            · rw [decide_eq_false ho, Bool.and_false, Bool.false_and]
          · rw [decide_eq_false h8, Bool.false_and, Bool.false_and]
      simp only [presC]
      rw [if_neg (by simp [hne]), hp]
      simp only [hh]
      rw [if_neg (by decide), List.drop_left, plain_presC h0 n l z (op ++ [r]) h2 (by simp only [List.length_append] at hl; omega) (fun q hq => hr q (by simp [hq]))
        (fun q hq => hz q (by
          cases l with
          | nil => cases hq
          | cons a l => rw [List.getLast?_cons_cons]; exact hq))
        (fun _ ho => by simp at ho), List.append_assoc]
      rfl
def wantL (enc : Int) (l : List Int) : List Int := if enc = 8 then togI l else l
/-- EscapePlain's mathematics. -/
theorem plain_pres {enc : Int} (h0 : 0 ≤ enc) (l : List Int) (raw : List UInt8) (hb : bytesM enc l = some raw) (hr : ∀ r ∈ l, reservedI r = false) (hz : ∀ z, l.getLast? = some z → z ≠ 46 ∧ z ≠ 32)
    (h8 : enc = 8 → apartI l = l ∧ ∀ r t, l = r :: t → classI r = 0) : presL enc raw = joinL (wantL enc l) := by
  have hg : (decide (enc ≠ 8) || regL raw) = true := by
    by_cases h : enc = 8
    · subst h
      obtain ⟨h1, h2⟩ := bytesM_join (by decide) l raw hb
      have hru : runesL raw = some l := by
        rw [h1, runes_join, List.filter_eq_self.2 h2]
      have : regL raw = true := by
        unfold regL
        rw [hru]
        exact decide_eq_true (h8 rfl).1
      rw [this, Bool.or_true]
    · rw [decide_eq_true h, Bool.true_or]
  unfold presL
  rw [hg, pres_join, plain_presC h0 _ l raw [] hb (Nat.le_refl _) hr hz (fun h _ => (h8 h).2), List.nil_append]
  unfold joinT wantL
  by_cases h : enc = 8
  · rw [if_pos h, decide_eq_true h]; rfl
  · rw [if_neg h, decide_eq_false h]; rfl
theorem plain_reads {enc : Int} (h0 : 0 ≤ enc) (l : List Int) (raw : List UInt8) (hl : l.length ≤ 40) (hb : bytesM enc l = some raw) (hp : presL enc raw = joinL (wantL enc l)) : Reads enc ⟨(joinL (wantL enc l)).toArray⟩ raw := by
  rw [← hp]
  have := bytesM_len h0 l raw hb
  exact reads_pres h0 raw (by omega)
end Go.Proofs.YtfmjhamnpgcdcaaDoor
