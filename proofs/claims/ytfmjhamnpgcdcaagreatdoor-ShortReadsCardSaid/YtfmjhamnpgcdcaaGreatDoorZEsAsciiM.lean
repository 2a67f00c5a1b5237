/-
  Plain facts of a text of letters, digits and points on each disk; the contract of Restore of a name that isn't presented so.
-/
import Derived.Test.YtfmjhamnpgcdcaaGreatDoorZEsCleanM
namespace Go.Proofs.YtfmjhamnpgcdcaaGreatDoor
open Go.RowKit Go.Lib Go.Sort
set_option linter.unusedVariables false

def alphaL : List UInt8 := [97, 98, 99, 100, 101, 102, 103, 104, 105, 106, 107, 108, 109, 110, 111, 112, 113, 114, 115, 116, 117, 118, 119, 120, 121, 122, 65, 66, 67, 68, 69, 70, 71, 72, 73, 74, 75, 76, 77, 78, 79, 80, 81, 82, 83, 84, 85, 86, 87, 88, 89, 90, 48, 49, 50, 51, 52, 53, 54, 55, 56, 57, 95, 45, 46]
set_option maxRecDepth 100000 in
theorem alpha_enc : ∀ e : Nat, e < 9 → ∀ n : Nat, n < 65 → encB (e : Int) ((alphaL.getD n 0).toNat : Int) = some [alphaL.getD n 0] := by decide +kernel
theorem alpha_plain : ∀ n : Nat, n < 65 → reservedI ((alphaL.getD n 0).toNat : Int) = false ∧ (alphaL.getD n 0).toNat < 128 ∧ (alphaL.getD n 0).toNat ≠ 32 ∧ (alphaL.getD n 0).toNat ≠ 37 ∧ classI ((alphaL.getD n 0).toNat : Int) = 0 := by decide +kernel
def Alpha (l : List UInt8) : Prop := ∀ c ∈ l, c ∈ alphaL
theorem alpha_at {c : UInt8} (h : c ∈ alphaL) : ∃ n, n < 65 ∧ alphaL.getD n 0 = c := by
  obtain ⟨n, hn, rfl⟩ := List.getElem_of_mem h
  exact ⟨n, hn, by simp [List.getD_eq_getElem?_getD, List.getElem?_eq_getElem hn]⟩
theorem alpha_c {c : UInt8} (h : c ∈ alphaL) {enc : Int} (h0 : 0 ≤ enc) (h8 : enc ≤ 8) : encB enc (c.toNat : Int) = some [c] ∧ reservedI (c.toNat : Int) = false ∧ c.toNat < 128 ∧ c.toNat ≠ 32 ∧ c.toNat ≠ 37 ∧ classI (c.toNat : Int) = 0 := by
  obtain ⟨n, hn, rfl⟩ := alpha_at h
  obtain ⟨e, rfl⟩ : ∃ e : Nat, enc = (e : Int) := ⟨enc.toNat, by omega⟩
  exact ⟨alpha_enc e (by omega) n hn, alpha_plain n hn⟩
def chars (l : List UInt8) : List Int := l.map fun c => (c.toNat : Int)
theorem chars_low {l : List UInt8} (h : Alpha l) : ∀ x ∈ chars l, 0 ≤ x ∧ x < 128 ∧ x ≠ 37 := fun x hx => by
  obtain ⟨c, hc, rfl⟩ := List.mem_map.1 hx
  have := alpha_c (h c hc) (enc := 0) (by decide) (by decide)
  omega
theorem chars_join {l : List UInt8} (h : Alpha l) : joinL (chars l) = l := join_bytes l (fun x hx => (alpha_c (h x hx) (enc := 0) (by decide) (by decide)).2.2.1)
theorem chars_runes {l : List UInt8} (h : Alpha l) : runesL l = some (chars l) := by
  have h1 := runes_join (chars l)
  rw [chars_join h, List.filter_eq_self.2] at h1
  · exact h1
  · intro x hx
    have := chars_low h x hx
    exact isR_of (by omega)
theorem bytesM_more {enc r : Int} {b z : List UInt8} {l : List Int} (h1 : encB enc r = some b) (h2 : bytesM enc l = some z) : bytesM enc (r :: l) = some (b ++ z) := by
  unfold bytesM at *
  simp only [List.map_cons, List.foldr_cons]
  rw [h1, h2]; rfl
theorem chars_bytesM {enc : Int} (h0 : 0 ≤ enc) (h8 : enc ≤ 8) (l : List UInt8) (h : Alpha l) : bytesM enc (chars l) = some l := by
  induction l with
  | nil => rfl
  | cons c l ih =>
    have h1 := (alpha_c (h c (by simp)) h0 h8).1
    exact bytesM_more h1 (ih (fun x hx => h x (by simp [hx])))
theorem reads_alpha {enc : Int} (h0 : 0 ≤ enc) (h8 : enc ≤ 8) (l : List UInt8) (h : Alpha l) (hl : l.length ≤ 100) : Reads enc ⟨l.toArray⟩ l := by
  refine ⟨chars l, chars_runes h, by show l.toArray.size ≤ 4000; simp; omega, by unfold chars; rw [List.length_map]; omega, ?_, ?_, by omega⟩
  · have := okD_chars (chars l) [] (fun c hc => (chars_low h c hc).2.2)
    rw [List.append_nil] at this
    exact this.trans (by rw [okD.eq_1])
  · have := readC_chars (enc := enc) (chars l) [] [] (fun c hc => (chars_low h c hc).2.2)
    rw [List.append_nil, List.nil_append, readC_nil] at this
    rw [this, bytesC_M]
    have ha : (if enc = 8 then apartI (chars l) else chars l) = chars l := by
      split
      · exact ascii_apart (fun c hc => ⟨(chars_low h c hc).1, (chars_low h c hc).2.1⟩)
      · rfl
    rw [ha]
    exact chars_bytesM h0 h8 l h
theorem alpha_piece {enc : Int} (h0 : 0 ≤ enc) (h8 : enc ≤ 8) {c : UInt8} (hc : c ∈ alphaL) (t : List UInt8) : pieceL enc (c :: t) = ((c.toNat : Int), 1) := (enc_piece h0 (alpha_c hc h0 h8).1 t).2
theorem alpha_presC {enc : Int} (h0 : 0 ≤ enc) (h8 : enc ≤ 8) (good : Bool) : ∀ (n : Nat) (l : List UInt8) (op : List Int), l.length ≤ n → Alpha l → (∀ z, l.getLast? = some z → z ≠ 46) → presC enc good n l op = joinT (decide (enc = 8)) good (op ++ chars l)
  | 0, l, op, hl, _, _ => by
    have : l = [] := List.eq_nil_of_length_eq_zero (by omega)
    subst this
    show joinT _ _ op = _
    rw [show op ++ chars [] = op from List.append_nil op]
  | n + 1, [], op, _, _, _ => by
    rw [show op ++ chars [] = op from List.append_nil op]
    simp [presC]
  | n + 1, c :: t, op, hl, ha, hz => by
    have hc := ha c (by simp)
    have hp := alpha_c hc h0 h8
    simp only [presC]
    rw [if_neg (by simp), alpha_piece h0 h8 hc t]
    have hh : hideB (decide (enc = 8)) good (decide ((c :: t).length = 1)) (decide (op = [])) (c.toNat : Int) = false := by
      unfold hideB
      rw [res_same, hp.2.1, decide_eq_false (show ¬ ((c.toNat : Int) < 0) by omega), decide_eq_false (show ¬ (128 ≤ (c.toNat : Int)) by omega), decide_eq_false (show ¬ (0 ≤ (c.toNat : Int) ∧ 0 < classI (c.toNat : Int)) by rw [hp.2.2.2.2.2]; omega)]
      simp only [Bool.and_false, Bool.or_false, Bool.false_or]
      by_cases h1 : (c :: t).length = 1
      · have ht : t = [] := List.eq_nil_of_length_eq_zero (by simpa using h1)
        have h46 := hz c (by rw [ht]; rfl)
        have : c.toNat ≠ 46 := fun e => h46 (UInt8.toNat_inj.1 e)
        rw [decide_eq_false (show ¬ ((c.toNat : Int) = 46 ∨ (c.toNat : Int) = 32) by omega), Bool.and_false]
      · rw [decide_eq_false h1]; rfl
    simp only [hh]
    rw [if_neg (by decide)]
    show presC enc good n t (op ++ [(c.toNat : Int)]) = _
    rw [alpha_presC h0 h8 good n t _ (by simp at hl; omega) (fun x hx => ha x (by simp [hx])) (fun z h9 => hz z (by
      cases t with
      | nil => cases h9
      | cons a t => rw [List.getLast?_cons_cons]; exact h9))]
    rw [List.append_assoc]
    rfl
theorem alpha_pres {enc : Int} (h0 : 0 ≤ enc) (h8 : enc ≤ 8) (l : List UInt8) (ha : Alpha l) (hz : ∀ z, l.getLast? = some z → z ≠ 46) : presL enc l = l := by
  unfold presL
  rw [pres_join, alpha_presC h0 h8 _ _ l [] (Nat.le_refl _) ha hz, List.nil_append]
  have hj : joinT (decide (enc = 8)) (decide (enc ≠ 8) || regL l) (chars l) = chars l := by
    unfold joinT
    split
    · have := fix_low (A := []) rfl (chars l) (fun x hx => by have := chars_low ha x hx; omega)
      rw [List.nil_append] at this
      exact this
    · rfl
  rw [hj, chars_join ha]
theorem alpha_point {enc : Int} (h0 : 0 ≤ enc) (l : List UInt8) (ha : Alpha l) (hz : l.getLast? = some 46) : presL enc l ≠ l := by
  intro h
  have hne : l ≠ [] := by rintro rfl; cases hz
  have hru : runesL (presL enc l) = some (presC enc (decide (enc ≠ 8) || regL l) l.length l []) := by
    unfold presL
    rw [pres_join, runes_join, List.filter_eq_self.2]
    exact presC_isR h0 _ _ _ [] (fun x hx => by cases hx)
  rw [h, chars_runes ha] at hru
  obtain ⟨B, x, hB, hx, _⟩ := last_presC h0 (decide (enc ≠ 8) || regL l) l.length l [] (Nat.le_refl _) hne
  rw [← Option.some.inj hru] at hB
  have h1 : (chars l).getLast? = some x := by rw [hB]; simp
  unfold chars at h1
  rw [List.getLast?_map, hz] at h1
  have h2 := Option.some.inj h1
  exact hx (by rw [← h2]; rfl)

set_option maxHeartbeats 2000000 in
set_option maxRecDepth 100000 in
/-- Restore of a name that isn't presented so. -/
theorem restore_no (enc : Int) (h0 : 0 ≤ enc) (h8 : enc ≤ 8) (b : ByteArray) (x : List UInt8) (hr : Reads enc b x) (hxs : x.length ≤ 300) (hp : presL enc x ≠ b.data.toList) (w : World) (hT : Tabs w) :
    Calls Tryz.prog 8 #[.int .i64 enc, .string b] w fun e w' => e = .returned (.tuple #[.string ⟨#[]⟩, .int .i64 3]) ∧ Below w.heap.size w w' := by
  obtain ⟨rs, h1, h2, h3, h4, h5, h6⟩ := hr
  have cR := read4_c enc h0 h8 b rs h1 h2 h3 h4 x h5 h6 w hT
  have HG : Hid (∀ w1, Calls Tryz.prog 18 #[.string ⟨x.toArray⟩] w1 fun e w' => e = .returned (.bool (goodB ⟨x.toArray⟩)) ∧ Below w1.heap.size w1 w') := Lib.hid (fun w1 => esGood_c ⟨x.toArray⟩ (by show x.toArray.size ≤ _; simp; omega) w1)
  have HP : Hid (∀ w1, Below w.heap.size w w1 → Calls Tryz.prog 19 #[.int .i64 enc, .string ⟨x.toArray⟩] w1 fun e w' => e = .returned (.string ⟨(presL enc x).toArray⟩) ∧ Below w1.heap.size w1 w') := Lib.hid (fun w1 hb => present_c enc h0 h8 ⟨x.toArray⟩ (by show x.toArray.size ≤ _; simp; omega) w1 (hT.step hb))
  have hne : ((⟨(presL enc x).toArray⟩ : ByteArray).toList == b.toList) = false := by
    rw [beq_eq_false_iff_ne, ByteArray.toList_eq, ByteArray.toList_eq]
    exact hp
  generalize (⟨(presL enc x).toArray⟩ : ByteArray) = Q at *
  generalize (⟨x.toArray⟩ : ByteArray) = X at *
  clear hT hp h0 h8 h1 h2 h3 h4 h5 h6 hxs
  cases hg : goodB X with
  | false =>
    rw [hg] at HG
    clear hg
    go_enter Tryz.func8, Tryz.ntmps8
    go_wp2_with fail
    refine cR.mono ?_
    rintro e w1 ⟨rfl, hb1⟩
    have cG := HG.out w1
    go_wp2_with fail
    refine cG.mono ?_
    rintro e w2 ⟨rfl, hb2⟩
    have HB := Lib.hid (below_step hb1 hb2)
    clear hb1 hb2 cR cG
    go_wp2
    go_ret2
    exact ⟨rfl, HB.out⟩
  | true =>
    rw [hg] at HG
    clear hg
    go_enter Tryz.func8, Tryz.ntmps8
    go_wp2_with fail
    refine cR.mono ?_
    rintro e w1 ⟨rfl, hb1⟩
    have cG := HG.out w1
    go_wp2_with fail
    refine cG.mono ?_
    rintro e w2 ⟨rfl, hb2⟩
    have hb12 := below_step hb1 hb2
    have cP := HP.out w2 hb12
    go_wp2_with fail
    refine cP.mono ?_
    rintro e w3 ⟨rfl, hb3⟩
    have HB := Lib.hid (below_step hb12 hb3)
    clear hb1 hb2 hb12 hb3 cR cG cP
    go_wp2
    go_ret2
    exact ⟨rfl, HB.out⟩
end Go.Proofs.YtfmjhamnpgcdcaaGreatDoor
