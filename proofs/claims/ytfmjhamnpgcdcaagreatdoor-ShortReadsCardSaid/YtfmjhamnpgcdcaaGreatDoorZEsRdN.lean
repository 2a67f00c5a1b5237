/-
  The contract of escape's read, where nothing is read.
-/
import Derived.Test.YtfmjhamnpgcdcaaGreatDoorKC
import Derived.Test.YtfmjhamnpgcdcaaGreatDoorZEsEncN
import Derived.Test.YtfmjhamnpgcdcaaGreatDoorZEsUnN
namespace Go.Proofs.YtfmjhamnpgcdcaaGreatDoor
open Go.RowKit Go.Sort
set_option linter.unusedVariables false

def Bad (enc : Int) (l : List Int) : Prop := okD l = false ∨ readC enc l [] = none
theorem bad_nil {enc : Int} (h : Bad enc []) : False := by
  rcases h with h | h
  · rw [okD.eq_1] at h; cases h
  · rw [readC_nil, bytesC_nil] at h; cases h
theorem mem_no37 {l : List Int} (hno : ∀ j, j < l.length → l.getD j 0 ≠ 37) : ∀ c ∈ l, c ≠ 37 := fun c hc => by
  obtain ⟨j, hj, rfl⟩ := List.getElem_of_mem hc
  have := hno j hj
  simpa [List.getD_eq_getElem?_getD, List.getElem?_eq_getElem hj] using this
theorem bad_last {enc : Int} {l : List Int} (hno : ∀ j, j < l.length → l.getD j 0 ≠ 37) (h : Bad enc l) : bytesC enc l = none := by
  have hc := mem_no37 hno
  have h1 := readC_chars (enc := enc) l [] [] hc
  rw [List.append_nil, List.nil_append, readC_nil] at h1
  have h2 := okD_chars l [] hc
  rw [List.append_nil, okD.eq_1] at h2
  rcases h with h | h
  · rw [h2] at h; cases h
  · rw [← h1]; exact h
theorem bad_esc {enc : Int} {l : List Int} {k : Nat} {y : List UInt8} (hk : k < l.length) (hno : ∀ j, j < k → l.getD j 0 ≠ 37) (h37 : l.getD k 0 = 37) (hy : bytesC enc (l.take k) = some y) (h : Bad enc l) :
    ((l.drop k).length < 3 ∨ hexC ((l.drop k).getD 1 0) = false ∨ hexC ((l.drop k).getD 2 0) = false) ∨ ∃ a b t, l.drop k = 37 :: a :: b :: t ∧ hexC a = true ∧ hexC b = true ∧ Bad enc t := by
  have hcs : ∀ c ∈ l.take k, c ≠ 37 := fun c hc => by
    obtain ⟨j, hj, rfl⟩ := List.getElem_of_mem hc
    rw [List.length_take] at hj
    have := hno j (by omega)
    simpa [List.getD_eq_getElem?_getD, List.getElem?_eq_getElem (show j < l.length by omega)] using this
  have hhead : l[k] = 37 := by simpa [List.getD_eq_getElem?_getD, List.getElem?_eq_getElem hk] using h37
  have hd : l.drop k = 37 :: l.drop (k + 1) := by rw [List.drop_eq_getElem_cons hk, hhead]
  have hl : l = l.take k ++ (37 :: l.drop (k + 1)) := by rw [← hd]; exact (List.take_append_drop k l).symm
  rw [hd]
  cases ht : l.drop (k + 1) with
  | nil => left; left; simp
  | cons a r =>
    cases r with
    | nil => left; left; simp
    | cons b t =>
      cases ha : hexC a with
      | false => left; right; left; exact ha
      | true =>
        cases hb : hexC b with
        | false => left; right; right; exact hb
        | true =>
          right
          refine ⟨a, b, t, rfl, ha, hb, ?_⟩
          rw [hl, ht] at h
          rcases h with h | h
          · left
            rw [okD_chars _ _ hcs, okD_esc ha hb] at h
            exact h
          · right
            rw [readC_chars _ _ _ hcs, List.nil_append, readC_37, hy, Option.bind_some, Option.map_eq_none_iff] at h
            exact h
theorem bytesM_len {enc : Int} (h0 : 0 ≤ enc) : ∀ (l : List Int) (x : List UInt8), bytesM enc l = some x → x.length ≤ 4 * l.length
  | [], x, h => by rw [bytesM_nil h]; simp
  | r :: l, x, h => by
    obtain ⟨b, z, hb, hz, rfl⟩ := bytesM_cons h
    have := bytesM_len h0 l z hz
    have := (encB_some h0 hb).1
    simp
    omega
theorem bytesC_len {enc : Int} (h0 : 0 ≤ enc) {l : List Int} {x : List UInt8} (h : bytesC enc l = some x) : x.length ≤ 12 * l.length := by
  rw [bytesC_M] at h
  have := bytesM_len h0 _ _ h
  have h2 := apart_length l
  by_cases h8 : enc = 8
  · rw [if_pos h8] at this; omega
  · rw [if_neg h8] at this; omega
theorem bounds_drop {l : List Int} {k : Nat} {a b c : Int} {t : List Int} (h : ∀ r ∈ l, -2147483648 ≤ r ∧ r ≤ 2147483647) (hd : l.drop k = a :: b :: c :: t) : ∀ r ∈ t, -2147483648 ≤ r ∧ r ≤ 2147483647 := fun r hr =>
  h r (List.mem_of_mem_drop (i := k) (by rw [hd]; simp [hr]))

def RdNRel (enc : Int) (N : Nat) (w1 : World) (gk : Nat) (cv : Value) (wr : World) : Prop :=
  ∃ (l : List Int) (y : List UInt8), l.length = gk ∧ gk ≤ 1000 ∧ ((l = [] ∧ ∃ a cap, cv = .slice a 0 cap) ∨ SliceC w1 cv l) ∧ Bad enc l ∧ (∀ r ∈ l, -2147483648 ≤ r ∧ r ≤ 2147483647) ∧ y.length + 12 * gk ≤ 12 * N ∧ IsBld 60 [] w1.heap.size w1.heap.size (Lib.byteCells y) wr ∧ Below w1.heap.size w1 wr

set_option maxHeartbeats 4000000 in
set_option maxRecDepth 100000 in
theorem read4_no (enc : Int) (h0 : 0 ≤ enc) (h8 : enc ≤ 8) (b : ByteArray) (rs : List Int) (hr : runesL b.data.toList = some rs) (hs : b.size ≤ 4000) (hrs : rs.length ≤ 1000) (hbad : Bad enc rs) (hrb : ∀ r ∈ rs, -2147483648 ≤ r ∧ r ≤ 2147483647)
    (w : World) (hT : Tabs w) :
    Calls Tryz.prog 17 #[.int .i64 enc, .string b] w fun e w' => e = .returned (.tuple #[.string ⟨#[]⟩, .bool false]) ∧ Below w.heap.size w w' := by
  have cA := uall2_c b rs hr hs w hT
  obtain ⟨N, hN⟩ : ∃ N, rs.length = N := ⟨_, rfl⟩
  have H0 := Lib.hid h0
  have H8 := Lib.hid h8
  have HBAD := Lib.hid hbad
  have HRB := Lib.hid hrb
  have HN9 := Lib.hid hN
  rw [hN] at hrs
  clear hr hs hT hbad hrb h0 h8 hN
  go_enter Tryz.func17, Tryz.ntmps17
  go_wp2_with fail
  refine cA.mono ?_
  rintro e w1 ⟨v1, rfl, hv1, hb1⟩
  have HV1 := Lib.hid hv1
  have HB1 := Lib.hid hb1
  obtain ⟨g1, off1, cap1, hvf, _⟩ := hv1
  subst hvf
  clear cA hb1
  go_wp2_with fail
  go_loopg [6] N (fun gk cv wr => RdNRel enc N w1 gk cv wr)
  case atStart => exact ⟨rs, [], HN9.out, hrs, Or.inr HV1.out, HBAD.out, HRB.out, by simp, bld_fresh w1, (Below.refl _ _).alloc (Nat.le_refl _) _⟩
  case round =>
    obtain ⟨l, y, hlg, hg9, hcv, hbd, hbo, hyl, hbld, hbel⟩ := hrel
    subst hlg
    have HBD := Lib.hid hbld
    have HBL := Lib.hid hbel
    have HBD9 := Lib.hid hbd
    have HBO := Lib.hid hbo
    have hbs := hbel.size
    clear hbld hbd hbo hbel
    rcases hcv with ⟨rfl, _⟩ | hcv
    · exact (bad_nil HBD9.out).elim
    · have HCV := Lib.hid hcv
      obtain ⟨g, off, cap, rfl, hcap, hgw, _⟩ := hcv
      have hl0 : l ≠ [] := fun e => by
        have := HBD9.out
        rw [e] at this
        exact bad_nil this
      have hlp : 0 < l.length := List.length_pos_iff.2 hl0
      have hlz : (0 : Int) < (l.length : Int) := by omega
      clear hl0
      rcases first37 l with hno | ⟨k, hk, hno, h37⟩
      · have cU := until_none l hno g off cap wr (HCV.out.kept HBL.out) (by omega)
        have hyx := bad_last hno HBD9.out
        have HE : Hid (∀ w2, Below w1.heap.size w1 w2 → Calls Tryz.prog 32 #[.int .i64 enc, .slice (some ⟨g, off, none⟩) l.length cap] w2 fun e w' => e = .returned (.tuple #[.string ⟨#[]⟩, .bool false]) ∧ Below w2.heap.size w2 w') := Lib.hid (fun w2 h2 => encn_c enc H0.out H8.out l hyx HBO.out _ w2 (HCV.out.kept h2).is (by omega))
        clear hno hyx
        go_wp2_with fail
        refine cU.mono ?_
        intro e w2 hh
        have he := hh.1
        have hb2 := hh.2
        clear hh
        subst he
        have hbel2 : Below w1.heap.size w1 w2 := HBL.out.trans (hb2.mono hbs)
        have cE := HE.out w2 hbel2
        have HBL2 := Lib.hid hbel2
        have hbs2 := hbel2.size
        clear cU hb2 hbel2
        go_wp2_with fail
        refine cE.mono ?_
        intro e w3 hh
        have he := hh.1
        have hb3 := hh.2
        clear hh
        subst he
        have HFB : Hid (Below w.heap.size w w3) := Lib.hid (HB1.out.trans ((HBL2.out.trans (hb3.mono hbs2)).mono HB1.out.size))
        clear hb3 cE
        go_wp2
        go_ret2
        exact ⟨rfl, HFB.out⟩
      · have cU := until_some l k hk hno h37 g off cap wr (HCV.out.kept HBL.out) (by omega)
        cases hy1 : bytesC enc (l.take k) with
        | none =>
          have HE : Hid (∀ w2, Below w1.heap.size w1 w2 → Calls Tryz.prog 32 #[.int .i64 enc, .slice (some ⟨g, off, none⟩) k cap] w2 fun e w' => e = .returned (.tuple #[.string ⟨#[]⟩, .bool false]) ∧ Below w2.heap.size w2 w') := Lib.hid (fun w2 h2 => encn_c enc H0.out H8.out _ hy1 (fun r hr => HBO.out r (List.mem_of_mem_take hr)) _ w2 ((HCV.out.kept h2).take (by omega)) (by rw [List.length_take]; omega))
          clear hno h37 hy1
          go_wp2_with fail
          refine cU.mono ?_
          intro e w2 hh
          have he := hh.1
          have hb2 := hh.2
          clear hh
          subst he
          have hbel2 : Below w1.heap.size w1 w2 := HBL.out.trans (hb2.mono hbs)
          have cE := HE.out w2 hbel2
          have HBL2 := Lib.hid hbel2
          have hbs2 := hbel2.size
          clear cU hb2 hbel2
          go_wp2_with fail
          refine cE.mono ?_
          intro e w3 hh
          have he := hh.1
          have hb3 := hh.2
          clear hh
          subst he
          have HFB : Hid (Below w.heap.size w w3) := Lib.hid (HB1.out.trans ((HBL2.out.trans (hb3.mono hbs2)).mono HB1.out.size))
          clear hb3 cE
          go_wp2
          go_ret2
          exact ⟨rfl, HFB.out⟩
        | some y1 =>
          have hy1l := bytesC_len H0.out hy1
          rw [List.length_take] at hy1l
          have HE : Hid (∀ w2, Below w1.heap.size w1 w2 → Calls Tryz.prog 32 #[.int .i64 enc, .slice (some ⟨g, off, none⟩) k cap] w2 fun e w' => e = .returned (.tuple #[.string ⟨y1.toArray⟩, .bool true]) ∧ Below w2.heap.size w2 w') := Lib.hid (fun w2 h2 => encode4_c enc H0.out H8.out _ y1 hy1 _ w2 ((HCV.out.kept h2).take (by omega)) (by rw [List.length_take]; omega))
          have HSC : Hid (SliceC w1 (.slice (some ⟨g, off + k, none⟩) (l.length - k) (cap - k)) (l.drop k)) := Lib.hid (HCV.out.drop (by omega))
          have hY1s : (⟨y1.toArray⟩ : ByteArray).size ≤ 12000 := by show y1.toArray.size ≤ 12000; simp; omega
          have hYL : Hid ((⟨y1.toArray⟩ : ByteArray).data.toList = y1) := Lib.hid rfl
          obtain ⟨m, hm⟩ : ∃ m, l.length - k = m := ⟨_, rfl⟩
          obtain ⟨cp, hcp⟩ : ∃ cp, cap - k = cp := ⟨_, rfl⟩
          have hdm : (l.drop k).length = m := by rw [List.length_drop]; exact hm
          have hcm : m ≤ cp := by omega
          have hmp : 0 < m := by omega
          have hm0 : ((m : Int) == 0) = false := by rw [beq_eq_false_iff_ne]; omega
          rcases bad_esc hk hno h37 hy1 HBD9.out with hnone | ⟨ca, cb, t, hdr, hca, hcb, hbt⟩
          · have HU : Hid (∀ w2, Below w1.heap.size w1 w2 → Calls Tryz.prog 34 #[.slice (some ⟨g, off + k, none⟩) m cp] w2 fun e w' => e = .returned (.tuple #[.int .u8 0, .bool false]) ∧ Below w2.heap.size w2 w') := Lib.hid (fun w2 h2 => by
              have := unesc_no (l.drop k) hnone _ w2 (HSC.out.kept h2) (by rw [List.length_drop]; omega)
              rw [hm, hcp] at this
              exact this)
            rw [hm, hcp] at cU
            generalize (⟨y1.toArray⟩ : ByteArray) = Y at *
            clear hno h37 hy1 hnone hdm hm hcp
            go_wp2_with fail
            refine cU.mono ?_
            intro e w2 hh
            have he := hh.1
            have hb2 := hh.2
            clear hh
            subst he
            have hbel2 : Below w1.heap.size w1 w2 := HBL.out.trans (hb2.mono hbs)
            have cE := HE.out w2 hbel2
            have HBD2 := Lib.hid (HBD.out.below hb2)
            have HBL2 := Lib.hid hbel2
            have hbs2 := hbel2.size
            clear cU hb2 hbel2
            go_wp2_with fail
            refine cE.mono ?_
            intro e w3 hh
            have he := hh.1
            have hb3 := hh.2
            clear hh
            subst he
            have cW := wstr_c hasBuilder w1.heap.size w1.heap.size _ Y w3 (HBD2.out.below hb3) (by rw [Lib.byteCells_length]; omega) (by have := hb3.size; omega)
            have HBL3 : Hid (Below w1.heap.size w1 w3) := Lib.hid (HBL2.out.trans (hb3.mono hbs2))
            clear cE hb3
            go_wp2_with fail
            refine cW.mono ?_
            intro e w4 hh
            have he := hh.1
            have hbel4 := hh.2.2.1
            clear hh
            subst he
            have HBL4 : Hid (Below w1.heap.size w1 w4) := Lib.hid (HBL3.out.trans hbel4)
            have cU2 := HU.out w4 HBL4.out
            have hbs4 := HBL4.out.size
            clear hbel4 cW
            go_wp2_with fail
            refine cU2.mono ?_
            intro e w5 hh
            have he := hh.1
            have hb5 := hh.2
            clear hh
            subst he
            have HFB : Hid (Below w.heap.size w w5) := Lib.hid (HB1.out.trans ((HBL4.out.trans (hb5.mono hbs4)).mono HB1.out.size))
            clear cU2 hb5
            go_wp2
            go_ret2
            exact ⟨rfl, HFB.out⟩
          · have hnd : l.length = k + (t.length + 3) := by
              have h9 := congrArg List.length hdr
              rw [List.length_drop] at h9
              simp at h9
              omega
            have HU : Hid (∀ w2, Below w1.heap.size w1 w2 → Calls Tryz.prog 34 #[.slice (some ⟨g, off + k, none⟩) m cp] w2 fun e w' => e = .returned (.tuple #[.int .u8 ((16 * digitOf ca + digitOf cb : Nat) : Int), .bool true]) ∧ Below w2.heap.size w2 w') := Lib.hid (fun w2 h2 => by
              have := unesc_c (l.drop k) t ca cb hdr hca hcb _ w2 (HSC.out.kept h2) (by rw [List.length_drop]; omega)
              rw [hm, hcp] at this
              exact this)
            have hdig : 16 * digitOf ca + digitOf cb < 256 := by
              have h1 := (dig_idx hca).2
              have h2 := (dig_idx hcb).2
              omega
            have hDc : ((16 * digitOf ca + digitOf cb : Nat) : Int) = ((UInt8.ofNat (16 * digitOf ca + digitOf cb)).toNat : Int) := by rw [u8n _ hdig]
            have HBT := Lib.hid hbt
            have HBO2 : Hid (∀ r ∈ t, -2147483648 ≤ r ∧ r ≤ 2147483647) := Lib.hid (bounds_drop HBO.out hdr)
            have HYN : Hid (∀ D : UInt8, (y ++ y1 ++ [D]).length + 12 * t.length ≤ 12 * N) := Lib.hid (fun D => by
              simp only [List.length_append, List.length_cons, List.length_nil]
              omega)
            have hzl9 : (y ++ y1).length ≤ 24000 := by simp only [List.length_append]; omega
            rw [hDc] at HU
            rw [hm, hcp] at cU HSC
            generalize UInt8.ofNat (16 * digitOf ca + digitOf cb) = D at *
            generalize (⟨y1.toArray⟩ : ByteArray) = Y at *
            have HDR := Lib.hid hdr
            have hm3 : m = t.length + 3 := by omega
            have hmz : (3 : Int) ≤ (m : Int) := by omega
            have hmc : (m : Int) ≤ (cp : Int) := by omega
            have HTL : Hid (t.length < l.length) := Lib.hid (by omega)
            have HM3 := Lib.hid hm3
            clear hm3 hno h37 hdr hca hcb hbt hy1 hnd hdig hDc hm hcp hdm
            go_wp2_with fail
            refine cU.mono ?_
            intro e w2 hh
            have he := hh.1
            have hb2 := hh.2
            clear hh
            subst he
            have hbel2 : Below w1.heap.size w1 w2 := HBL.out.trans (hb2.mono hbs)
            have cE := HE.out w2 hbel2
            have HBD2 := Lib.hid (HBD.out.below hb2)
            have HBL2 := Lib.hid hbel2
            have hbs2 := hbel2.size
            clear cU hb2 hbel2
            go_wp2_with fail
            refine cE.mono ?_
            intro e w3 hh
            have he := hh.1
            have hb3 := hh.2
            clear hh
            subst he
            have cW := wstr_c hasBuilder w1.heap.size w1.heap.size _ Y w3 (HBD2.out.below hb3) (by rw [Lib.byteCells_length]; omega) (by have := hb3.size; omega)
            have HBL3 : Hid (Below w1.heap.size w1 w3) := Lib.hid (HBL2.out.trans (hb3.mono hbs2))
            clear cE hb3
            go_wp2_with fail
            refine cW.mono ?_
            intro e w4 hh
            have he := hh.1
            have hb4 := hh.2.1
            have hbel4 := hh.2.2.1
            clear hh
            subst he
            have HB4 : Hid (IsBld 60 [] w1.heap.size w1.heap.size (Lib.byteCells (y ++ y1)) w4) := Lib.hid (Or.inr (by
              rw [Lib.byteCells_append, ← hYL.out, ← Lib.strCells_eq]
              exact hb4))
            have HBL4 : Hid (Below w1.heap.size w1 w4) := Lib.hid (HBL3.out.trans hbel4)
            have cU2 := HU.out w4 HBL4.out
            have hbs4 := HBL4.out.size
            clear hb4 hbel4 cW
            go_wp2_with fail
            refine cU2.mono ?_
            intro e w5 hh
            have he := hh.1
            have hb5 := hh.2
            clear hh
            subst he
            have cB := wbyte_c hasBuilder w1.heap.size w1.heap.size _ (D.toNat : Int) w5 (HB4.out.below hb5) (by rw [Lib.byteCells_length]; omega) (by have := hb5.size; omega)
            have HBL5 : Hid (Below w1.heap.size w1 w5) := Lib.hid (HBL4.out.trans (hb5.mono hbs4))
            clear cU2 hb5
            go_wp2_with fail
            refine cB.mono ?_
            intro e w6 hh
            have he := hh.1
            have hb6 := hh.2.1
            have hbel6 := hh.2.2.1
            clear hh
            subst he
            have HB6 : Hid (IsBld 60 [] w1.heap.size w1.heap.size (Lib.byteCells (y ++ y1 ++ [D])) w6) := Lib.hid (Or.inr (by
              rw [Lib.byteCells_append, byteCells_one]
              exact hb6))
            have HBL6 : Hid (Below w1.heap.size w1 w6) := Lib.hid (HBL5.out.trans hbel6)
            clear hb6 hbel6 cB
            go_wp2_with fail
            case inl =>
              have ht0 : t = [] := List.eq_nil_of_length_eq_zero (by have := HM3.out; omega)
              have hm9 : m - 3 = 0 := by have := HM3.out; rw [ht0] at this; simp at this; omega
              have HCV3 : Hid (t = [] ∧ m - 3 = 0) := Lib.hid ⟨ht0, hm9⟩
              clear ht0 hm9
              go_roundg t.length
              case measure => exact HTL.out
              case rel => exact ⟨t, y ++ y1 ++ [D], rfl, by have := HTL.out; omega, Or.inl ⟨HCV3.out.1, _, _, by rw [HCV3.out.2]⟩, HBT.out, HBO2.out, HYN.out D, HB6.out, HBL6.out⟩
            case inr =>
              have HCV3 : Hid (SliceC w1 (.slice (some ⟨g, off + k + 3, none⟩) (m - 3) (cp - 3)) t) := Lib.hid (by
                have h9 := HSC.out.drop (k := 3) (by rw [HDR.out]; simp)
                rw [HDR.out] at h9
                have e9 : (37 :: ca :: cb :: t).length - 3 = m - 3 := by rw [HM3.out]; simp
                rw [e9] at h9
                exact h9)
              go_roundg t.length
              case measure => exact HTL.out
              case rel => exact ⟨t, y ++ y1 ++ [D], rfl, by have := HTL.out; omega, Or.inr HCV3.out, HBT.out, HBO2.out, HYN.out D, HB6.out, HBL6.out⟩
end Go.Proofs.YtfmjhamnpgcdcaaGreatDoor
