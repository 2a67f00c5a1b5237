/-
  The contract of the reference's Read.
-/
import Derived.Test.YtfmjhamnpgcdcaaGreatDoorShRef
import Derived.Test.YtfmjhamnpgcdcaaGreatDoorShMath2
namespace Go.Proofs.YtfmjhamnpgcdcaaGreatDoor
open Go.RowKit
set_option linter.unusedVariables false

/-- A digit of a short name's hash: small letters alone. -/
def rdV (c : UInt8) : Nat := if 48 ≤ c.toNat ∧ c.toNat ≤ 57 then c.toNat - 48 else if 97 ≤ c.toNat ∧ c.toNat ≤ 102 then c.toNat - 87 else 16
def rhexTo : Nat → List UInt8 → Option Nat
  | acc, [] => some acc
  | acc, c :: l => if rdV c < 16 then rhexTo (acc * 16 + rdV c) l else none
theorem rdV_dgB : ∀ u : Nat, u < 16 → rdV (dgB u) = u := by decide +kernel
theorem rhexTo_append : ∀ (a b : List UInt8) (acc : Nat), rhexTo acc (a ++ b) = (rhexTo acc a).bind fun v => rhexTo v b
  | [], b, acc => rfl
  | c :: a, b, acc => by
    rw [List.cons_append, rhexTo, rhexTo]
    split
    · exact rhexTo_append a b _
    · rfl
theorem rhexTo_pad : ∀ (n u acc : Nat), u < 16 ^ n → rhexTo acc (padN n u) = some (acc * 16 ^ n + u) := by
  intro n
  induction n with
  | zero => intro u acc hu; simp at hu; subst hu; simp [padN, rhexTo]
  | succ n ih =>
    intro u acc hu
    rw [Nat.pow_succ] at hu
    have hd : u / 16 < 16 ^ n := Nat.div_lt_of_lt_mul (by rw [Nat.mul_comm]; exact hu)
    have hm := rdV_dgB (u % 16) (Nat.mod_lt _ (by decide))
    rw [padN, rhexTo_append, ih (u / 16) acc hd, Option.bind_some, rhexTo, if_pos (by rw [hm]; exact Nat.mod_lt _ (by decide)), hm, rhexTo, Nat.pow_succ, Nat.add_mul, Nat.mul_assoc]
    congr 1
    omega
theorem rhexTo_step {l : List UInt8} {k acc : Nat} {c : UInt8} (hk : k < l.length) (hc : l[k] = c) (hd : rdV c < 16) : rhexTo acc (l.drop k) = rhexTo (acc * 16 + rdV c) (l.drop (k + 1)) := by
  rw [List.drop_eq_getElem_cons hk, hc, rhexTo, if_pos hd]
theorem rhexTo_bad {l : List UInt8} {k acc : Nat} {c : UInt8} (hk : k < l.length) (hc : l[k] = c) (hd : ¬ rdV c < 16) : rhexTo acc (l.drop k) = none := by
  rw [List.drop_eq_getElem_cons hk, hc, rhexTo, if_neg hd]
theorem IsName.rhex {l : List UInt8} {v : Nat} {n : Int} (h : IsName l v n) : rhexTo 0 ((l.drop 2).take 8) = some v := by
  rw [h.2.2.2, nameL_ok h.2.1 h.2.2.1]
  have : (([37, 126] ++ padN 8 v ++ [45] ++ Lib.decDigits n.toNat).drop 2).take 8 = padN 8 v := by
    simp only [List.append_assoc, List.cons_append, List.nil_append, List.drop_succ_cons, List.drop_zero]
    rw [List.take_append_of_le_length (by rw [padN_length]; omega), List.take_of_length_le (by rw [padN_length]; omega)]
  rw [this, rhexTo_pad 8 v 0 (by have := h.1; omega)]
  simp
theorem IsName.dec {l : List UInt8} {v : Nat} {n : Int} (h : IsName l v n) : Lib.decFrom 0 (l.drop 11) = some n.toNat := by
  rw [h.2.2.2, nameL_ok h.2.1 h.2.2.1]
  have : ([37, 126] ++ padN 8 v ++ [45] ++ Lib.decDigits n.toNat).drop 11 = Lib.decDigits n.toNat := by
    rw [List.drop_append_of_le_length (by simp [padN_length]), List.drop_of_length_le (by simp [padN_length])]
    rfl
  rw [this, decFrom_dec (n.toNat + 1) n.toNat (by omega)]
theorem decFrom_step {l : List UInt8} {k acc d : Nat} {c : UInt8} (hk : k < l.length) (hc : l[k] = c) (hd : Lib.digitVal c = some d) : Lib.decFrom acc (l.drop k) = Lib.decFrom (acc * 10 + d) (l.drop (k + 1)) := by
  rw [List.drop_eq_getElem_cons hk, hc, Lib.decFrom, hd]
theorem decFrom_bad {l : List UInt8} {k acc : Nat} {c : UInt8} (hk : k < l.length) (hc : l[k] = c) (hd : Lib.digitVal c = none) : Lib.decFrom acc (l.drop k) = none := by
  rw [List.drop_eq_getElem_cons hk, hc, Lib.decFrom, hd]
theorem pow16_le {k : Nat} (h : k ≤ 7) : 16 ^ k ≤ 268435456 := by
  have : ∀ k : Nat, k < 8 → 16 ^ k ≤ 268435456 := by decide +kernel
  exact this k (by omega)
theorem pow10_le {k : Nat} (h : k ≤ 6) : 10 ^ k ≤ 1000000 := by
  have : ∀ k : Nat, k < 7 → 10 ^ k ≤ 1000000 := by decide +kernel
  exact this k (by omega)

set_option maxHeartbeats 4000000 in
set_option maxRecDepth 100000 in
theorem rread_c (s : ByteArray) (hs : s.size ≤ 9223372036854775807) (w : World) :
    Calls Tryz.prog 7 #[.string s] w (ReadPost s.data.toList w) := by
  obtain ⟨l, hl⟩ : ∃ l, s.data.toList = l := ⟨_, rfl⟩
  have hsl : l.length = s.size := by rw [← hl]; rfl
  have HGet : Hid (∀ k (h : k < s.size), ∃ h2 : k < l.length, l[k] = s[k]) := Lib.hid (fun k h => ⟨by rw [hsl]; exact h, by subst hl; rfl⟩)
  have HL := Lib.hid hl
  rw [hl]
  unfold ReadPost
  by_cases hlen : s.size < 12 ∨ 18 < s.size
  · have HN : Hid (∀ v n, ¬ IsName l v n) := Lib.hid (fun v n h => by have := h.len; omega)
    have hcase : ((s.size : Int) < 12) ∨ (¬ ((s.size : Int) < 12) ∧ (18 : Int) < (s.size : Int)) := by omega
    clear hlen hsl hl
    rcases hcase with h1 | ⟨h1, h2⟩
    all_goals
      go_enter Tryz.func7, Tryz.ntmps7
      go_wp2
      go_ret3
      exact ⟨Or.inr ⟨HN.out, rfl⟩, Below.refl _ _⟩
  · have h1 : ¬ ((s.size : Int) < 12) := by omega
    have h2 : ¬ ((18 : Int) < (s.size : Int)) := by omega
    have h12 : 12 ≤ s.size := by omega
    have h18 : s.size ≤ 18 := by omega
    have HS := Lib.hid hsl
    clear hlen hl
    have hB := Go.PlainAid.get_bt s
    go_enter Tryz.func7, Tryz.ntmps7
    go_wp2
    go_loop [5, 7] (fun hv iv => ∃ (k v : Nat), (k ≤ 8 ∧ v < 16 ^ k) ∧ iv = .int .i64 ((k + 2 : Nat) : Int) ∧ hv = .int .u32 v ∧ rhexTo 0 ((l.drop 2).take 8) = rhexTo v (((l.drop 2).take 8).drop k)) (fun _ iv => 10 - (intOf iv).toNat)
    case atStart => exact ⟨0, 0, by omega, rfl, rfl, rfl⟩
    case round =>
      obtain ⟨k, v, ⟨hk8, hv⟩, rfl, rfl, hx⟩ := hrel
      have HX := Lib.hid hx
      clear hx
      by_cases hk : k < 8
      · have hkz : (((k + 2 : Nat) : Int)) < 10 := by omega
        have hkz2 : ((k : Int) + 2) < 10 := by omega
        have hks : k + 2 < s.size := by omega
        have hksz : (((k + 2 : Nat) : Int)) < (s.size : Int) := by omega
        obtain ⟨hkl, hget⟩ := HGet.out (k + 2) hks
        obtain ⟨c, hc⟩ : ∃ c, s[k + 2] = c := ⟨_, rfl⟩
        have hbk : Go.PlainAid.bt s (k + 2) = (c.toNat : Int) := by rw [← hB (k + 2) hks, hc]
        have hcl : Hid (∃ h : k < ((l.drop 2).take 8).length, ((l.drop 2).take 8)[k] = c) := Lib.hid ⟨by rw [List.length_take, List.length_drop]; omega, by
          rw [List.getElem_take, List.getElem_drop, ← hc, ← hget]
          congr 1
          omega⟩
        have hv28 : v < 268435456 := by have := pow16_le (show k ≤ 7 by omega); omega
        obtain ⟨x, hxc⟩ : ∃ x, c.toNat = x := ⟨_, rfl⟩
        have HC := Lib.hid hxc
        rw [hxc] at hbk
        have hx8 : x < 256 := by rw [← hxc]; exact c.toNat_lt
        have HV := Lib.hid hv
        clear hc hget hkl hxc hv
        by_cases hA : 48 ≤ x ∧ x ≤ 57
        · have b1 : (48 : Int) ≤ (x : Int) := by omega
          have b2 : (x : Int) ≤ 57 := by omega
          have b3 : ¬ ((97 : Int) ≤ (x : Int)) := by omega
          have b4 : (((x : Int) - 48) == 16) = false := by rw [beq_eq_false_iff_ne]; omega
          have HDV : Hid (rdV c = x - 48) := Lib.hid (by unfold rdV; rw [HC.out, if_pos hA])
          have HNX : Hid (rhexTo 0 ((l.drop 2).take 8) = rhexTo (v * 16 + (x - 48)) (((l.drop 2).take 8).drop (k + 1))) := Lib.hid (by
            obtain ⟨h1, h2⟩ := hcl.out
            rw [HX.out, rhexTo_step h1 h2 (by rw [HDV.out]; omega), HDV.out])
          have HPW : Hid (v * 16 + (x - 48) < 16 ^ (k + 1)) := Lib.hid (by have := HV.out; rw [Nat.pow_succ]; omega)
          have HVV : Hid ((v : Int) * 16 + ((x : Int) - 48) = ((v * 16 + (x - 48) : Nat) : Int)) := Lib.hid (by omega)
          clear hA
          go_wp2
          go_round
          case rel => exact ⟨k + 1, v * 16 + (x - 48), ⟨by omega, HPW.out⟩, by first | rfl | go_num, by first | rfl | rw [HVV.out], HNX.out⟩
          case measure => simp [intOf]; omega
        · have hA2 : ((48 : Int) ≤ (x : Int) ∧ ¬ ((x : Int) ≤ 57)) ∨ ¬ ((48 : Int) ≤ (x : Int)) := by omega
          by_cases hBq : 97 ≤ x ∧ x ≤ 102
          · have b1 : (97 : Int) ≤ (x : Int) := by omega
            have b2 : (x : Int) ≤ 102 := by omega
            have b0 : (48 : Int) ≤ (x : Int) := by omega
            have b5 : ¬ ((x : Int) ≤ 57) := by omega
            have b4 : (((x : Int) - 97 + 10) == 16) = false := by rw [beq_eq_false_iff_ne]; omega
            have HDV : Hid (rdV c = x - 87) := Lib.hid (by unfold rdV; rw [HC.out, if_neg hA, if_pos hBq])
            have HNX : Hid (rhexTo 0 ((l.drop 2).take 8) = rhexTo (v * 16 + (x - 87)) (((l.drop 2).take 8).drop (k + 1))) := Lib.hid (by
              obtain ⟨h1, h2⟩ := hcl.out
              rw [HX.out, rhexTo_step h1 h2 (by rw [HDV.out]; omega), HDV.out])
            have HPW : Hid (v * 16 + (x - 87) < 16 ^ (k + 1)) := Lib.hid (by have := HV.out; rw [Nat.pow_succ]; omega)
            have HVV : Hid ((v : Int) * 16 + ((x : Int) - 97 + 10) = ((v * 16 + (x - 87) : Nat) : Int)) := Lib.hid (by omega)
            clear hA hBq hA2
            go_wp2
            go_round
            case rel => exact ⟨k + 1, v * 16 + (x - 87), ⟨by omega, HPW.out⟩, by first | rfl | go_num, by first | rfl | rw [HVV.out], HNX.out⟩
            case measure => simp [intOf]; omega
          · have hB2 : ((97 : Int) ≤ (x : Int) ∧ ¬ ((x : Int) ≤ 102)) ∨ ¬ ((97 : Int) ≤ (x : Int)) := by omega
            have HN : Hid (∀ u n, ¬ IsName l u n) := Lib.hid (fun u n h => by
              have h3 := h.rhex
              obtain ⟨h4, h5⟩ := hcl.out
              rw [HX.out, rhexTo_bad h4 h5 (by unfold rdV; rw [HC.out, if_neg hA, if_neg hBq]; decide)] at h3
              cases h3)
            clear hA hBq
            rcases hA2 with ⟨e1, e2⟩ | e1
            all_goals
              rcases hB2 with ⟨e3, e4⟩ | e3
              all_goals
                first
                  | omega
                  | (go_wp2
                     go_ret3
                     exact ⟨Or.inr ⟨HN.out, rfl⟩, Below.refl _ _⟩)
      · have hkz : ¬ ((((k + 2 : Nat) : Int)) < 10) := by omega
        have hk8e : k = 8 := by omega
        subst hk8e
        have HV8 : Hid (rhexTo 0 ((l.drop 2).take 8) = some v) := Lib.hid (by
          rw [HX.out, List.drop_of_length_le (by rw [List.length_take]; omega)]; rfl)
        have hv32 : v < 4294967296 := by omega
        clear hv hk hk8
        go_wp2
        go_loop [6, 10] (fun nv iv => ∃ (j a : Nat), (j + 11 ≤ s.size ∧ a < 10 ^ j) ∧ iv = .int .i64 ((j + 11 : Nat) : Int) ∧ nv = .int .i64 a ∧ Lib.decFrom 0 (l.drop 11) = Lib.decFrom a ((l.drop 11).drop j)) (fun _ iv => s.size - (intOf iv).toNat)
        case atStart => exact ⟨0, 0, by omega, rfl, rfl, rfl⟩
        case round =>
          obtain ⟨j, a, ⟨hj7, ha⟩, rfl, rfl, hx⟩ := hrel
          have HXD := Lib.hid hx
          clear hx
          by_cases hj : j + 11 < s.size
          · have hjz : (((j + 11 : Nat) : Int)) < (s.size : Int) := by omega
            have hjz2 : ((j : Int) + 11) < (s.size : Int) := by omega
            obtain ⟨hkl, hget⟩ := HGet.out (j + 11) hj
            obtain ⟨c, hc⟩ : ∃ c, s[j + 11] = c := ⟨_, rfl⟩
            have hbk : Go.PlainAid.bt s (j + 11) = (c.toNat : Int) := by rw [← hB (j + 11) hj, hc]
            have hcl : Hid (∃ h : j < (l.drop 11).length, (l.drop 11)[j] = c) := Lib.hid ⟨by rw [List.length_drop]; omega, by
              rw [List.getElem_drop, ← hc, ← hget]
              congr 1
              omega⟩
            have ha6 : a < 1000000 := by have := pow10_le (show j ≤ 6 by omega); omega
            obtain ⟨x, hxc⟩ : ∃ x, c.toNat = x := ⟨_, rfl⟩
            have HC := Lib.hid hxc
            rw [hxc] at hbk
            have hx8 : x < 256 := by rw [← hxc]; exact c.toNat_lt
            have HAA := Lib.hid ha
            clear hc hget hkl hxc ha
            by_cases hA : 48 ≤ x ∧ x ≤ 57
            · have b1 : ¬ ((x : Int) < 48) := by omega
              have b2 : ¬ ((57 : Int) < (x : Int)) := by omega
              have b1' : (48 : Int) ≤ (x : Int) := by omega
              have b2' : (x : Int) ≤ 57 := by omega
              have HNX : Hid (Lib.decFrom 0 (l.drop 11) = Lib.decFrom (a * 10 + (x - 48)) ((l.drop 11).drop (j + 1))) := Lib.hid (by
                obtain ⟨h1, h2⟩ := hcl.out
                rw [HXD.out, decFrom_step h1 h2 (by unfold Lib.digitVal; rw [HC.out, if_pos hA])])
              have HPW : Hid (a * 10 + (x - 48) < 10 ^ (j + 1)) := Lib.hid (by have := HAA.out; rw [Nat.pow_succ]; omega)
              have HVV : Hid ((a : Int) * 10 + ((x : Int) - 48) = ((a * 10 + (x - 48) : Nat) : Int)) := Lib.hid (by omega)
              clear hA
              go_wp2
              go_round
              case rel => exact ⟨j + 1, a * 10 + (x - 48), ⟨by omega, HPW.out⟩, by first | rfl | go_num, by first | rfl | rw [HVV.out], HNX.out⟩
              case measure => simp [intOf]; omega
            · have hA2 : ((x : Int) < 48) ∨ (¬ ((x : Int) < 48) ∧ (57 : Int) < (x : Int)) := by omega
              have HN : Hid (∀ u n, ¬ IsName l u n) := Lib.hid (fun u n h => by
                have h3 := h.dec
                obtain ⟨h4, h5⟩ := hcl.out
                rw [HXD.out, decFrom_bad h4 h5 (by unfold Lib.digitVal; rw [HC.out, if_neg hA])] at h3
                cases h3)
              clear hA
              rcases hA2 with e1 | ⟨e1, e2⟩
              all_goals
                go_wp2
                go_ret3
                exact ⟨Or.inr ⟨HN.out, rfl⟩, Below.refl _ _⟩
          · have hjz : ¬ ((((j + 11 : Nat) : Int)) < (s.size : Int)) := by omega
            have HD : Hid (Lib.decFrom 0 (l.drop 11) = some a) := Lib.hid (by
              rw [HXD.out, List.drop_of_length_le (by rw [List.length_drop, HS.out]; omega)]; rfl)
            have hne : l ≠ [] := fun e => by have := HS.out; rw [e] at this; simp at this; omega
            have cM := rname_c v hv32 (a : Int) w
            have HV : Hid ((⟨(nameL v (a : Int)).toArray⟩ : ByteArray) = s → IsName l v (a : Int)) := Lib.hid (fun e => name_is hv32 hne (by rw [← HL.out, ← e]))
            have HN : Hid ((⟨(nameL v (a : Int)).toArray⟩ : ByteArray) ≠ s → ∀ u m, ¬ IsName l u m) := Lib.hid (fun e u m h => by
              have h3 := h.rhex
              rw [HV8.out] at h3
              have h4 := h.dec
              rw [HD.out] at h4
              obtain rfl := Option.some.inj h3
              have h5 := Option.some.inj h4
              have h6 := h.2.1
              have h7 : m = (a : Int) := by omega
              subst h7
              exact e (by
                apply ByteArray.ext
                apply Array.toList_inj.1
                rw [HL.out, h.2.2.2]))
            generalize (⟨(nameL v (a : Int)).toArray⟩ : ByteArray) = R at *
            clear hne ha
            by_cases hR : R = s
            · subst hR
              have HV2 := Lib.hid (HV.out rfl)
              clear HV HN
              go_wp2_with fail
              refine cM.mono ?_
              rintro e w3 ⟨rfl, hb3⟩
              have HB3 := Lib.hid hb3
              clear cM hb3
              go_wp2
              go_ret3
              exact ⟨Or.inl ⟨v, a, HV2.out, rfl⟩, HB3.out⟩
            · have HN2 := Lib.hid (HN.out hR)
              have hRb : (R.toList == s.toList) = false := by
                rw [beq_eq_false_iff_ne, ByteArray.toList_eq, ByteArray.toList_eq]
                intro e
                exact hR (ByteArray.ext (Array.toList_inj.1 e))
              clear hR HV HN
              go_wp2_with fail
              refine cM.mono ?_
              rintro e w3 ⟨rfl, hb3⟩
              have HB3 := Lib.hid hb3
              clear cM hb3
              go_wp2
              go_ret3
              exact ⟨Or.inr ⟨HN2.out, rfl⟩, HB3.out⟩
end Go.Proofs.YtfmjhamnpgcdcaaGreatDoor
