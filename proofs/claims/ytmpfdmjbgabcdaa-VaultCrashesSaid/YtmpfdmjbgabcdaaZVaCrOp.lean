/-
  VaultCrashes' kit: a restart, and what is opened behind it, twice.
-/
import Derived.Test.YtmpfdmjbgabcdaaZVaCrKit
namespace Go.Proofs.Ytmpfdmjbgabcdaa
open Go.RowKit Go.Sort
set_option linter.unusedVariables false

section
variable {B b vb i : Nat} {W W' : World} {img fresh : ByteArray} {lv : Value} {syn : Nat}
/-- What is opened, beside what the law knows. -/
def CrO (B i : Nat) (W : World) (img : ByteArray) (lv : Value) (syn : Nat) (fresh img' : ByteArray) (rs' : List ByteArray) : Prop :=
  ∃ rs, RowAt B W lv rs ∧ rs.length ≤ i ∧ ((img' = img ∧ syn ≤ rs'.length ∧ rs' <+: rs) ∨ (fresh.size ≠ 0 ∧ img' = fresh ∧ rs' = [] ∧ (img' ≠ img ∨ 0 < syn)))
theorem CrO.below {img' : ByteArray} {rs' : List ByteArray} (h : CrO B i W img lv syn fresh img' rs') (hb : Below W.heap.size W W') : CrO B i W' img lv syn fresh img' rs' := by
  obtain ⟨rs, h1, h2⟩ := h
  exact ⟨rs, h1.below hb, h2⟩
theorem cr_case {r1 r2 rs rs' : List ByteArray} {img' : ByteArray} (h0 : r1 ++ r2 = img :: rs) (h1 : r1.length = syn + 1) (hc : (∃ y, y <+: r2 ∧ img' :: rs' = r1 ++ y) ∨ (fresh.size ≠ 0 ∧ img' = fresh ∧ rs' = [])) :
    rs'.length ≤ rs.length ∧ ((img' = img ∧ syn ≤ rs'.length ∧ rs' <+: rs) ∨ (fresh.size ≠ 0 ∧ img' = fresh ∧ rs' = [] ∧ (img' ≠ img ∨ 0 < syn))) := by
  obtain ⟨a, t, rfl⟩ : ∃ a t, r1 = a :: t := by
    cases r1 with
    | nil => simp at h1
    | cons a t => exact ⟨a, t, rfl⟩
  rw [List.cons_append] at h0
  injection h0 with e1 e2
  subst e1 e2
  have ht : t.length = syn := by simpa using h1
  rcases hc with ⟨y, ⟨z, hz⟩, hl⟩ | ⟨hf, e1, e2⟩
  · rw [List.cons_append] at hl
    injection hl with e1 e2
    subst e1 e2
    refine ⟨by rw [← hz]; simp, Or.inl ⟨rfl, by simp; omega, ⟨z, ?_⟩⟩⟩
    rw [List.append_assoc, hz]
  · subst e2
    refine ⟨Nat.zero_le _, ?_⟩
    by_cases hp : img' = a ∧ syn = 0
    · exact Or.inl ⟨hp.1, by rw [hp.2]; exact Nat.zero_le _, List.nil_prefix⟩
    · refine Or.inr ⟨hf, e1, rfl, ?_⟩
      by_cases hi : img' = a
      · exact Or.inr (by have : ¬ syn = 0 := fun e => hp ⟨hi, e⟩; omega)
      · exact Or.inl hi
set_option maxHeartbeats 8000000 in
set_option maxRecDepth 100000 in
theorem cr_opened (kv : Value) (kl : List Int) (h : CrZ B b i W img lv syn fresh) (hi : i ≤ 900) (hk : NumsIs W kv kl) (hkl : kl.length ≤ 9223372036854775807) (hB : B ≤ W.heap.size) :
    Calls Try.prog 25 #[.pointer (some ⟨b, 0, none⟩), kv] W fun e w' => ∃ vb img' rs', e = .returned (.pointer (some ⟨vb, 0, none⟩)) ∧ Below B W w' ∧ KeepO W w' ∧ CrN B b vb (i + 1) w' img' rs' ∧ CrO B i w' img lv syn fresh img' rs' := by
  obtain ⟨k, E, rs, r1, r2, st, hd, hD, h0, h1, h2, h3, h4, h5⟩ := h
  obtain ⟨k', E', img', rs', hK, hE', hcase⟩ := hD.kn kl rfl (by decide) (by decide) (by rw [h0]; exact h5) (by intro e; rw [e] at h1; simp at h1)
  obtain ⟨hlen, hcase⟩ := cr_case h0 h1 hcase
  have HCASE := Lib.hid hcase
  have HLEN : Hid (rs'.length ≤ i) := Lib.hid (by omega)
  have H4 := Lib.hid h4
  have H2 := Lib.hid h2
  have HE : Hid (E' ≤ i + 2) := Lib.hid (by omega)
  have HI := Lib.hid hi
  have HBB := Lib.hid hB
  have cR := restart_c B b st kv kl W hd hD.good (by have := hD.pnd; omega) hk hkl hB
  have HK := Lib.hid hK
  have HRE : Hid (∀ W1 st1, Dev B W1 b st1 → KnX 60 30 k' E' img' rs' st1 → B ≤ W1.heap.size → Calls Try.prog 15 #[.pointer (some ⟨b, 0, none⟩)] W1 (ReX B b 60 30 k' E' img' rs' W1)) := Lib.hid (fun W1 st1 a1 a2 a3 => reopen_c a1 a2 a3)
  obtain ⟨ka, kc, rfl⟩ := hk.len
  obtain ⟨M, hM⟩ : ∃ M, kl.length = M := ⟨_, rfl⟩
  rw [hM] at cR ⊢
  clear hcase hlen h0 h1 h2 h3 h4 h5 hd hD hK hE' hk hkl hM hi
  go_enter Try.func25, Try.ntmps25
  go_wp2_with fail
  refine cR.mono ?_
  rintro e w1 ⟨rfl, hd1, hb1, ho1⟩
  have HB1 := Lib.hid hb1
  have HO1 := Lib.hid (KeepO.ofOff ho1.va)
  have HR1 : Hid (RowAt B w1 lv rs) := Lib.hid (H4.out.off ho1.va)
  have HD1 := Lib.hid hd1
  clear hd1 hb1 ho1 cR
  go_wp2_with fail
  refine (HRE.out w1 _ HD1.out HK.out (Nat.le_trans hB HB1.out.size)).mono ?_
  rintro e w2 ⟨vb1, rv1, st1, rfl, hb2, ho2, hvb1, hrow1, hL1, hp1⟩
  have HB2 : Hid (Below B W w2) := Lib.hid (HB1.out.trans hb2)
  have HO2 := Lib.hid (HO1.out.trans (KeepO.ofOff ho2.1))
  have HR2 : Hid (RowAt B w2 lv rs) := Lib.hid (HR1.out.off ho2.1)
  have HL1 := Lib.hid hL1
  have HK2 : Hid (KnX 60 30 k' E' img' rs' st1) := Lib.hid (hL1.live.kn rfl)
  clear hb2 ho2 hvb1 hrow1 hL1 hp1
  go_wp2_with fail
  refine (HRE.out w2 _ HL1.out.dev HK2.out (Nat.le_trans hB HB2.out.size)).mono ?_
  rintro e w3 ⟨vb2, rv2, st2, rfl, hb3, ho3, hvb2, hrow2, hL2, hp2⟩
  have HB3 : Hid (Below B W w3) := Lib.hid (HB2.out.trans hb3)
  have HO3 := Lib.hid (HO2.out.trans (KeepO.ofOff ho3.1))
  have HR3 : Hid (RowAt B w3 lv rs) := Lib.hid (HR2.out.off ho3.1)
  have HX3 : Hid (CrN B b vb1 (i + 1) w3 img' rs') := Lib.hid (by
    refine ⟨k', E', _, st2, rv1, ⟨hL2.live, hL2.dev, ?_, ?_, HL1.out.hvb⟩, HE.out, by have := HLEN.out; omega⟩
    · exact ho3.2 _ (by decide) vb1 _ _ (lt_of_get HL1.out.vlt) HL1.out.vlt
    · rcases HL1.out.row with h | ⟨g, off, cap, cur, hv, a1, a2, a3, hg, a4, a5⟩
      · exact Or.inl h
      · exact Or.inr ⟨g, off, cap, cur, hv, a1, a2, a3, ho3.2 _ (by decide) g _ _ (lt_of_get hg) hg, a4, a5⟩)
  have HY3 : Hid (CrN B b vb2 (i + 1) w3 img' rs') := Lib.hid ⟨k', E', _, st2, rv2, hL2, HE.out, by have := HLEN.out; omega⟩
  clear hb3 ho3 hvb2 hrow2 hL2 hp2
  have cI := crn_image HX3.out
  go_wp2_with fail
  refine cI.mono ?_
  rintro e w4 ⟨rfl, rfl⟩
  clear cI
  have cJ := crn_image HY3.out
  go_wp2_with fail
  refine cJ.mono ?_
  rintro e w4 ⟨rfl, rfl⟩
  clear cJ
  have cA := crn_records HX3.out (by have := HI.out; omega) (Nat.le_trans hB HB3.out.size)
  go_wp2_with fail
  refine cA.mono ?_
  rintro e w4 ⟨a4, c4, rfl, hb4, hs4, _⟩
  have HB4 := Lib.hid hb4
  have HS4 := Lib.hid hs4
  clear hb4 hs4 cA
  have cC := crn_records (HY3.out.below HB4.out) (by have := HI.out; omega) (Nat.le_trans hB (Nat.le_trans HB3.out.size HB4.out.size))
  go_wp2_with fail
  refine cC.mono ?_
  rintro e w5 ⟨a5, c5, rfl, hb5, hs5, _⟩
  have HB5 : Hid (Below w3.heap.size w3 w5) := Lib.hid (HB4.out.trans (hb5.mono HB4.out.size))
  have cS := same_c _ _ rs' rs' w5 (HS4.out.kept hb5) hs5 (by have := HLEN.out; have := HI.out; omega) (by have := HLEN.out; have := HI.out; omega) true ⟨fun _ => rfl, fun _ => rfl⟩
  clear hb5 hs5 cC
  go_wp2_with fail
  refine cS.mono ?_
  rintro e w6 ⟨rfl, hb6⟩
  have HB6 : Hid (Below w3.heap.size w3 w6) := Lib.hid (HB5.out.trans (hb6.mono HB5.out.size))
  clear hb6 cS
  go_wp2
  go_ret
  exact ⟨vb1, img', rs', rfl, HB3.out.trans (HB6.out.mono (Nat.le_trans hB HB3.out.size)), HO3.out.trans (KeepO.ofBelow HB6.out), HX3.out.below HB6.out, rs, HR3.out.below HB6.out, H2.out, HCASE.out⟩
end
end Go.Proofs.Ytmpfdmjbgabcdaa
