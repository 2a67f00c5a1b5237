/-
  The contract of escape's encode, where some character has no bytes.
  The contract of escape's unescape, where no escape stands.
  The contract of escape's read, where nothing is read.
  Plain facts of a presented name's characters: none is reserved but for escapes, the last is no point and no blank, and on HFS they are put together.
  Plain facts of a text of letters, digits and points on each disk; the contract of Restore of a name that isn't presented so.
  The law EscapeAscii of stage 4, walked: it answers true; what lay in memory stays.
  The laws awake and EscapePresents of stage 4, walked: each answers true; what lay in memory stays.
  The law EscapeBack of stage 4, walked: it answers true; what lay in memory stays.
  The law EscapeApart of stage 4, walked: it answers true; what lay in memory stays.
  The contract of escape's Restore at any text of up to 300 bytes: it answers; of a text whose first escape is none it answers ErrName.
  The contract of Read: the hash and the number of a short name.
  The contract of the reference's Read.
  The law ShortReads of stage 5, walked: it answers true; what lay in memory stays.
  The contracts of Long, both; the law ShortLong of stage 5, walked: it answers true; what lay in memory stays.
-/
import Derived.Test.YtbbgnhbkjbobgaaGreatDoorKC
import Derived.OwnWalk
import Derived.Test.YtbbgnhbkjbobgaaGreatDoorKA
import Derived.Test.YtbbgnhbkjbobgaaGreatDoorKB
import Derived.Laws.IdiomStrings
import Derived.OpenShut
import Derived.Test.YtbbgnhbkjbobgaaGreatDoorL3
import Derived.Test.YtbbgnhbkjbobgaaGreatDoorL2
namespace Go.Proofs.YtbbgnhbkjbobgaaGreatDoor
open Go.RowKit Go.Sort
set_option linter.unusedVariables false

theorem full1_in {r x : Int} (h : x ∈ full1 r) : x = r ∨ (0 ≤ x ∧ x ≤ 55203) := by
  cases hs : splitI r with
  | none => rw [full1_none hs] at h; left; simpa using h
  | some p =>
    right
    obtain ⟨a, b⟩ := p
    have hc := splitI_cases hs
    simp only at hc
    cases h2 : splitI a with
    | none =>
      have e : full1 r = [a, b] := by unfold full1; rw [hs]; simp only; rw [h2]
      rw [e] at h
      simp at h
      rcases h with rfl | rfl <;> omega
    | some q =>
      obtain ⟨q1, q2⟩ := q
      have hc2 := splitI_cases h2
      simp only at hc2
      have e : full1 r = [q1, q2, b] := by unfold full1; rw [hs]; simp only; rw [h2]
      rw [e] at h
      simp at h
      rcases h with rfl | rfl | rfl <;> omega
theorem apart_in {l : List Int} {x : Int} (h : x ∈ apartI l) (hl : ∀ r ∈ l, -2147483648 ≤ r ∧ r ≤ 2147483647) : -2147483648 ≤ x ∧ x ≤ 2147483647 := by
  unfold apartI at h
  have h1 := (sortM_perm classI (fullL l)).mem_iff.1 h
  obtain ⟨r, hr, hx⟩ := List.mem_flatMap.1 h1
  rcases full1_in hx with e | e
  · rw [e]; exact hl r hr
  · omega
theorem bytesM_none {enc r : Int} {l : List Int} (h : bytesM enc (r :: l) = none) : encB enc r = none ∨ ∃ b, encB enc r = some b ∧ bytesM enc l = none := by
  unfold bytesM at h
  simp only [List.map_cons, List.foldr_cons] at h
  cases hb : encB enc r with
  | none => exact Or.inl rfl
  | some b =>
    right
    rw [hb] at h
    simp only [Option.bind_some, Option.map_eq_none_iff] at h
    exact ⟨b, rfl, h⟩
theorem enc_post_no {enc r : Int} (h0 : 0 ≤ enc) (h8 : enc ≤ 8) (hr : -2147483648 ≤ r ∧ r ≤ 2147483647) (h : encB enc r = none) (w : World) :
    Calls Tryz.prog 147 #[.int .i64 enc, .int .i32 r] w fun e w' => e = .returned (.tuple #[.string ⟨#[]⟩, .bool false]) ∧ Below w.heap.size w w' := by
  refine (encode_c enc r hr.1 hr.2 w).mono ?_
  intro e w' hp
  unfold encZ at hp
  rw [if_pos ⟨h0, h8⟩] at hp
  unfold encB at h
  rw [Option.map_eq_none_iff] at h
  rw [h] at hp
  exact hp
theorem enc_post_yes {enc r : Int} (h0 : 0 ≤ enc) (h8 : enc ≤ 8) {b : List UInt8} (h : encB enc r = some b) (w : World) :
    Calls Tryz.prog 147 #[.int .i64 enc, .int .i32 r] w fun e w' => e = .returned (.tuple #[.string ⟨b.toArray⟩, .bool true]) ∧ Below w.heap.size w w' := enc_post h0 h8 h w

def EncNRel (enc : Int) (L : List Int) (B : Nat) (w0 : World) (gk : Nat) (iv : Value) (wr : World) : Prop :=
  ∃ (i : Nat) (y : List UInt8), i + gk = L.length ∧ iv = .int .i64 i ∧ IsBld 59 [] B B (Lib.byteCells y) wr ∧ bytesM enc (L.drop i) = none ∧ y.length ≤ 4 * i ∧ Below B w0 wr
set_option maxHeartbeats 4000000 in
set_option maxRecDepth 100000 in
theorem encn_plain (enc : Int) (h0 : 0 ≤ enc) (h7 : enc ≤ 7) (l : List Int) (hx : bytesM enc l = none) (hrb : ∀ r ∈ l, -2147483648 ≤ r ∧ r ≤ 2147483647) (v : Value) (w : World) (hv : SliceIs w v l) (hs : l.length ≤ 1000) :
    Calls Tryz.prog 106 #[.int .i64 enc, v] w fun e w' => e = .returned (.tuple #[.string ⟨#[]⟩, .bool false]) ∧ Below w.heap.size w w' := by
  have HLL : Hid (l.length ≤ 3000) := Lib.hid (by omega)
  have he8 : (enc == 8) = false := by rw [beq_eq_false_iff_ne]; omega
  have H0 := Lib.hid h0
  have HRB := Lib.hid hrb
  obtain ⟨w1, hw1⟩ : ∃ w1, w1 = w := ⟨_, rfl⟩
  have HW1 : Hid (Below w.heap.size w w1) := Lib.hid (by rw [hw1]; exact Below.refl _ _)
  obtain ⟨v1, hvv⟩ : ∃ v1, v1 = v := ⟨_, rfl⟩
  have hv1 : SliceIs w1 v1 l := by rw [hw1, hvv]; exact hv
  rw [← hvv, ← hw1]
  rw [← hw1] at HW1
  clear hv hs hw1 hvv hrb
  have HV := Lib.hid hv1
  obtain ⟨a, cap, hva⟩ := hv1.len
  obtain ⟨L, hL⟩ : ∃ L, l = L := ⟨_, rfl⟩
  rw [hL] at HV hva hx HLL HRB
  obtain ⟨n, hn⟩ : ∃ n, L.length = n := ⟨_, rfl⟩
  rw [hn] at hva HLL
  have HN := Lib.hid hn
  have HX0 := Lib.hid hx
  have hn3 := HLL.out
  subst hva
  clear hv1 hx hL hn
  go_enter Tryz.func106, Tryz.ntmps106
  go_wp2_with fail
  go_loopg [17] n (fun gk iv wr => EncNRel enc L w1.heap.size w1 gk iv wr)
  case atStart => exact ⟨0, [], by rw [HN.out]; omega, rfl, bld_fresh w1, by rw [List.drop_zero]; exact HX0.out, by simp, (Below.refl _ _).alloc (Nat.le_refl _) _⟩
  case round =>
    obtain ⟨i, y, hig, rfl, hbld, hz, hyl, hbel⟩ := hrel
    rw [HN.out] at hig
    have HZ := Lib.hid hz
    have HBD := Lib.hid hbld
    have hbs := hbel.size
    clear hz hbld
    by_cases hlt : i < n
    · have hltz : (i : Int) < (n : Int) := by omega
      have hil : i < L.length := by rw [HN.out]; exact hlt
      obtain ⟨r, hr⟩ : ∃ r, L.getD i 0 = r := ⟨_, rfl⟩
      have hcell : ∃ g off, a = some ⟨g, off, none⟩ ∧ g < w1.heap.size ∧ w1.cell? ⟨g, off + i, none⟩ = some (.int .i32 r) := by
        rcases HV.out with ⟨h1, _⟩ | ⟨g, off, cap', hg, hv', hc⟩
        · rw [h1] at hil; exact absurd hil (by simp)
        · have := hc i hil
          rw [hr] at this
          refine ⟨g, off, ?_, hg, this⟩
          injection hv'
      obtain ⟨g, off, rfl, hg, c0⟩ := hcell
      have d0 : wr.cell? ⟨g, off + i, none⟩ = some (.int .i32 r) := by rw [hbel.cell (p := ⟨g, off + i, none⟩) hg]; exact c0
      have hst := HZ.out
      have hri : L[i] = r := by rw [← hr]; simp [List.getD_eq_getElem?_getD, List.getElem?_eq_getElem hil]
      have hrb : -2147483648 ≤ r ∧ r ≤ 2147483647 := HRB.out r (by rw [← hri]; exact List.getElem_mem hil)
      rw [List.drop_eq_getElem_cons hil, hri] at hst
      rcases bytesM_none hst with hb | ⟨b, hb, hz'⟩
      · have cE := enc_post_no H0.out (by first | decide | omega) hrb hb wr
        clear hst c0 hr hri hil hrb hb
        go_wp2_with fail
        refine cE.mono ?_
        rintro e w2 ⟨rfl, hb2⟩
        have HFB : Hid (Below w1.heap.size w1 w2) := Lib.hid (HW1.out.trans ((hbel.trans (hb2.mono hbs)).mono HW1.out.size))
        clear cE hb2 hbel
        go_wp2
        go_ret2
        exact ⟨rfl, HFB.out⟩
      · have hbl := (encB_some H0.out hb).1
        have cE := enc_post H0.out (by first | decide | omega) hb wr
        have HZ' := Lib.hid hz'
        have hBl : (⟨b.toArray⟩ : ByteArray).size ≤ 4 := by show b.toArray.size ≤ 4; simpa using hbl
        have hBL : Hid ((⟨b.toArray⟩ : ByteArray).data.toList = b) := Lib.hid rfl
        have HYB : Hid ((y ++ b).length ≤ 4 * (i + 1)) := Lib.hid (by rw [List.length_append]; omega)
        generalize (⟨b.toArray⟩ : ByteArray) = E at *
        clear hst hz' hb c0 hr hri hil hrb
        go_wp2_with fail
        refine cE.mono ?_
        rintro e w2 ⟨rfl, hb2⟩
        have cW := wstr_c hasBuilder w1.heap.size w1.heap.size _ E w2 (HBD.out.below hb2) (by rw [Lib.byteCells_length]; omega) (by have := hb2.size; omega)
        go_wp2_with fail
        refine cW.mono ?_
        rintro e w3 ⟨rfl, hb3, hbel3, _⟩
        have HB3 : Hid (IsBld 59 [] w1.heap.size w1.heap.size (Lib.byteCells (y ++ b)) w3) := Lib.hid (Or.inr (by
          rw [Lib.byteCells_append, ← hBL.out, ← Lib.strCells_eq]
          exact hb3))
        have HBE : Hid (Below w1.heap.size w1 w3) := Lib.hid ((hbel.trans (hb2.mono hbs)).trans hbel3)
        clear hb3 hbel3 cW cE hb2 hbel
        go_wp2
        go_roundg (n - (i + 1))
        case measure => omega
        case rel => exact ⟨i + 1, y ++ b, by rw [HN.out]; omega, by first | rfl | go_num, HB3.out, HZ'.out, HYB.out, HBE.out⟩
    · have h1 := HZ.out
      rw [List.drop_eq_nil_of_le (by rw [HN.out]; omega)] at h1
      cases h1

set_option maxHeartbeats 4000000 in
set_option maxRecDepth 100000 in
theorem encn_hfs (l : List Int) (hx : bytesM 8 (apartI l) = none) (hrb : ∀ r ∈ l, -2147483648 ≤ r ∧ r ≤ 2147483647) (v : Value) (w : World) (hv : SliceIs w v l) (hs : l.length ≤ 1000) :
    Calls Tryz.prog 106 #[.int .i64 8, v] w fun e w' => e = .returned (.tuple #[.string ⟨#[]⟩, .bool false]) ∧ Below w.heap.size w w' := by
  have HLL0 : Hid ((apartI l).length ≤ 3000) := Lib.hid (by have := apart_length l; omega)
  have HRB : Hid (∀ r ∈ apartI l, -2147483648 ≤ r ∧ r ≤ 2147483647) := Lib.hid (fun r h => apart_in h hrb)
  have cA := apart_c l v w hv hs (by have := marks_full l; omega)
  unfold ApartPost at cA
  have H0 : Hid ((0 : Int) ≤ 8) := Lib.hid (by decide)
  clear hrb
  go_enter Tryz.func106, Tryz.ntmps106
  go_wp2_with fail
  refine cA.mono ?_
  rintro e w1 ⟨v1, rfl, hv1, _, hbA⟩
  have HW1 := Lib.hid hbA
  have HLL := HLL0
  clear hv hs cA hbA HLL0
  have HV := Lib.hid hv1
  obtain ⟨a, cap, hva⟩ := hv1.len
  obtain ⟨L, hL⟩ : ∃ L, (apartI l) = L := ⟨_, rfl⟩
  rw [hL] at HV hva hx HLL HRB
  obtain ⟨n, hn⟩ : ∃ n, L.length = n := ⟨_, rfl⟩
  rw [hn] at hva HLL
  have HN := Lib.hid hn
  have HX0 := Lib.hid hx
  have hn3 := HLL.out
  subst hva
  clear hv1 hx hL hn
  go_wp2_with fail
  go_loopg [17] n (fun gk iv wr => EncNRel 8 L w1.heap.size w1 gk iv wr)
  case atStart => exact ⟨0, [], by rw [HN.out]; omega, rfl, bld_fresh w1, by rw [List.drop_zero]; exact HX0.out, by simp, (Below.refl _ _).alloc (Nat.le_refl _) _⟩
  case round =>
    obtain ⟨i, y, hig, rfl, hbld, hz, hyl, hbel⟩ := hrel
    rw [HN.out] at hig
    have HZ := Lib.hid hz
    have HBD := Lib.hid hbld
    have hbs := hbel.size
    clear hz hbld
    by_cases hlt : i < n
    · have hltz : (i : Int) < (n : Int) := by omega
      have hil : i < L.length := by rw [HN.out]; exact hlt
      obtain ⟨r, hr⟩ : ∃ r, L.getD i 0 = r := ⟨_, rfl⟩
      have hcell : ∃ g off, a = some ⟨g, off, none⟩ ∧ g < w1.heap.size ∧ w1.cell? ⟨g, off + i, none⟩ = some (.int .i32 r) := by
        rcases HV.out with ⟨h1, _⟩ | ⟨g, off, cap', hg, hv', hc⟩
        · rw [h1] at hil; exact absurd hil (by simp)
        · have := hc i hil
          rw [hr] at this
          refine ⟨g, off, ?_, hg, this⟩
          injection hv'
      obtain ⟨g, off, rfl, hg, c0⟩ := hcell
      have d0 : wr.cell? ⟨g, off + i, none⟩ = some (.int .i32 r) := by rw [hbel.cell (p := ⟨g, off + i, none⟩) hg]; exact c0
      have hst := HZ.out
      have hri : L[i] = r := by rw [← hr]; simp [List.getD_eq_getElem?_getD, List.getElem?_eq_getElem hil]
      have hrb : -2147483648 ≤ r ∧ r ≤ 2147483647 := HRB.out r (by rw [← hri]; exact List.getElem_mem hil)
      rw [List.drop_eq_getElem_cons hil, hri] at hst
      rcases bytesM_none hst with hb | ⟨b, hb, hz'⟩
      · have cE := enc_post_no H0.out (by first | decide | omega) hrb hb wr
        clear hst c0 hr hri hil hrb hb
        go_wp2_with fail
        refine cE.mono ?_
        rintro e w2 ⟨rfl, hb2⟩
        have HFB : Hid (Below w.heap.size w w2) := Lib.hid (HW1.out.trans ((hbel.trans (hb2.mono hbs)).mono HW1.out.size))
        clear cE hb2 hbel
        go_wp2
        go_ret2
        exact ⟨rfl, HFB.out⟩
      · have hbl := (encB_some H0.out hb).1
        have cE := enc_post H0.out (by first | decide | omega) hb wr
        have HZ' := Lib.hid hz'
        have hBl : (⟨b.toArray⟩ : ByteArray).size ≤ 4 := by show b.toArray.size ≤ 4; simpa using hbl
        have hBL : Hid ((⟨b.toArray⟩ : ByteArray).data.toList = b) := Lib.hid rfl
        have HYB : Hid ((y ++ b).length ≤ 4 * (i + 1)) := Lib.hid (by rw [List.length_append]; omega)
        generalize (⟨b.toArray⟩ : ByteArray) = E at *
        clear hst hz' hb c0 hr hri hil hrb
        go_wp2_with fail
        refine cE.mono ?_
        rintro e w2 ⟨rfl, hb2⟩
        have cW := wstr_c hasBuilder w1.heap.size w1.heap.size _ E w2 (HBD.out.below hb2) (by rw [Lib.byteCells_length]; omega) (by have := hb2.size; omega)
        go_wp2_with fail
        refine cW.mono ?_
        rintro e w3 ⟨rfl, hb3, hbel3, _⟩
        have HB3 : Hid (IsBld 59 [] w1.heap.size w1.heap.size (Lib.byteCells (y ++ b)) w3) := Lib.hid (Or.inr (by
          rw [Lib.byteCells_append, ← hBL.out, ← Lib.strCells_eq]
          exact hb3))
        have HBE : Hid (Below w1.heap.size w1 w3) := Lib.hid ((hbel.trans (hb2.mono hbs)).trans hbel3)
        clear hb3 hbel3 cW cE hb2 hbel
        go_wp2
        go_roundg (n - (i + 1))
        case measure => omega
        case rel => exact ⟨i + 1, y ++ b, by rw [HN.out]; omega, by first | rfl | go_num, HB3.out, HZ'.out, HYB.out, HBE.out⟩
    · have h1 := HZ.out
      rw [List.drop_eq_nil_of_le (by rw [HN.out]; omega)] at h1
      cases h1

theorem encn_c (enc : Int) (h0 : 0 ≤ enc) (h8 : enc ≤ 8) (l : List Int) (hx : bytesC enc l = none) (hrb : ∀ r ∈ l, -2147483648 ≤ r ∧ r ≤ 2147483647) (v : Value) (w : World) (hv : SliceIs w v l) (hs : l.length ≤ 1000) :
    Calls Tryz.prog 106 #[.int .i64 enc, v] w fun e w' => e = .returned (.tuple #[.string ⟨#[]⟩, .bool false]) ∧ Below w.heap.size w w' := by
  rw [bytesC_M] at hx
  by_cases h7 : enc ≤ 7
  · rw [if_neg (by omega)] at hx
    exact encn_plain enc h0 h7 l hx hrb v w hv hs
  · have e : enc = 8 := by omega
    subst e
    exact encn_hfs l hx hrb v w hv hs
end Go.Proofs.YtbbgnhbkjbobgaaGreatDoor

namespace Go.Proofs.YtbbgnhbkjbobgaaGreatDoor
open Go.RowKit Go.Sort
set_option linter.unusedVariables false

theorem dig_no {c : Int} (h : hexC c = false) : idxR digS c = -1 := by
  unfold idxR
  by_cases h1 : 0 ≤ c ∧ c < 128
  · rw [if_pos h1]
    obtain ⟨n, rfl⟩ : ∃ n : Nat, c = (n : Int) := ⟨c.toNat, by omega⟩
    unfold hexC at h
    rw [decide_eq_true h1, Bool.true_and] at h
    have key : ∀ m : Nat, m < 128 → hexL.contains (UInt8.ofNat m) = false → Lib.indexByte digS.data.toList m.toUInt8 = -1 := by decide +kernel
    have := key n (by omega) (by simpa using h)
    rw [show ((n : Int)).toNat = n by omega]
    exact this
  · rw [if_neg h1]
set_option maxHeartbeats 2000000 in
set_option maxRecDepth 100000 in
theorem unesc_no (l : List Int) (h : l.length < 3 ∨ hexC (l.getD 1 0) = false ∨ hexC (l.getD 2 0) = false) (v : Value) (w : World) (hv : SliceC w v l) (hs : l.length ≤ 4000) :
    Calls Tryz.prog 107 #[v] w fun e w' => e = .returned (.tuple #[.int .u8 0, .bool false]) ∧ Below w.heap.size w w' := by
  obtain ⟨g, off, cap, rfl, hcap, hg, hc⟩ := hv
  by_cases h3 : l.length < 3
  · have hz : ((l.length : Int) < 3) := by omega
    generalize l.length = n at *
    clear hc h h3
    go_enter Tryz.func107, Tryz.ntmps107
    go_wp2
    go_ret2
    exact ⟨rfl, Below.refl _ _⟩
  · have c1 := hc 1 (by omega)
    have c2 := hc 2 (by omega)
    obtain ⟨a, ha⟩ : ∃ a, l.getD 1 0 = a := ⟨_, rfl⟩
    obtain ⟨b, hb⟩ : ∃ b, l.getD 2 0 = b := ⟨_, rfl⟩
    rw [ha] at c1 h
    rw [hb] at c2 h
    have cA := fun w => idxRune_c digS digS_ascii (by decide) a w
    have cB := fun w => idxRune_c digS digS_ascii (by decide) b w
    have hz : ¬ ((l.length : Int) < 3) := by omega
    have z1 : (1 : Int) < (l.length : Int) := by omega
    have z2 : (2 : Int) < (l.length : Int) := by omega
    have hab : idxR digS a = -1 ∨ (∃ x : Nat, idxR digS a = (x : Int)) ∧ idxR digS b = -1 := by
      cases hha : hexC a with
      | false => exact Or.inl (dig_no hha)
      | true =>
        right
        refine ⟨⟨_, (dig_idx hha).1⟩, dig_no ?_⟩
        rcases h with h | h | h
        · omega
        · rw [hha] at h; cases h
        · exact h
    unfold digS at cA cB hab
    clear h ha hb hc h3
    generalize l.length = n at *
    rcases hab with e1 | ⟨⟨x, e1⟩, e2⟩
    · rw [e1] at cA
      clear e1
      obtain ⟨z, hzz⟩ : ∃ z, idxR ⟨#[48, 49, 50, 51, 52, 53, 54, 55, 56, 57, 97, 98, 99, 100, 101, 102]⟩ b = z := ⟨_, rfl⟩
      rw [hzz] at cB
      clear hzz
      go_enter Tryz.func107, Tryz.ntmps107
      go_wp2_with fail
      refine (cA _).mono ?_
      rintro e w1 ⟨rfl, hb1⟩
      have c2' : w1.cell? ⟨g, off + 2, none⟩ = some (.int .i32 b) := by rw [hb1.cell (p := ⟨g, off + 2, none⟩) hg]; exact c2
      go_wp2_with fail
      refine (cB _).mono ?_
      rintro e w2 ⟨rfl, hb2⟩
      have HB := Lib.hid (below_step hb1 hb2)
      clear hb1 hb2
      go_wp2
      go_ret2
      exact ⟨rfl, HB.out⟩
    · rw [e1] at cA
      rw [e2] at cB
      have x0 : ¬ ((x : Int) < 0) := by omega
      clear e1 e2
      go_enter Tryz.func107, Tryz.ntmps107
      go_wp2_with fail
      refine (cA _).mono ?_
      rintro e w1 ⟨rfl, hb1⟩
      have c2' : w1.cell? ⟨g, off + 2, none⟩ = some (.int .i32 b) := by rw [hb1.cell (p := ⟨g, off + 2, none⟩) hg]; exact c2
      go_wp2_with fail
      refine (cB _).mono ?_
      rintro e w2 ⟨rfl, hb2⟩
      have HB := Lib.hid (below_step hb1 hb2)
      clear hb1 hb2
      go_wp2
      go_ret2
      exact ⟨rfl, HB.out⟩
end Go.Proofs.YtbbgnhbkjbobgaaGreatDoor

namespace Go.Proofs.YtbbgnhbkjbobgaaGreatDoor
open Go.RowKit Go.Sort
set_option linter.unusedVariables false

def Bad (enc : Int) (l : List Int) : Prop := okD l = false ∨ readC enc l [] = none
theorem bad_nil {enc : Int} (h : Bad enc []) : False := by
  rcases h with h | h
  · rw [okD.eq_1] at h; cases h
  · rw [readC_nil, bytesC_nil] at h; cases h
theorem mem_no37 {l : List Int} (hno : ∀ j, j < l.length → l.getD j 0 ≠ 37) : ∀ c ∈ l, c ≠ 37 := fun c hc => by
  obtain ⟨j, hj, rfl⟩ := List.getElem_of_mem hc
  have := hno j hj
  simpa [List.getD_eq_getElem?_getD, List.getElem?_eq_getElem hj] using this
theorem bad_last {enc : Int} {l : List Int} (hno : ∀ j, j < l.length → l.getD j 0 ≠ 37) (h : Bad enc l) : bytesC enc l = none := by
  have hc := mem_no37 hno
  have h1 := readC_chars (enc := enc) l [] [] hc
  rw [List.append_nil, List.nil_append, readC_nil] at h1
  have h2 := okD_chars l [] hc
  rw [List.append_nil, okD.eq_1] at h2
  rcases h with h | h
  · rw [h2] at h; cases h
  · rw [← h1]; exact h
theorem bad_esc {enc : Int} {l : List Int} {k : Nat} {y : List UInt8} (hk : k < l.length) (hno : ∀ j, j < k → l.getD j 0 ≠ 37) (h37 : l.getD k 0 = 37) (hy : bytesC enc (l.take k) = some y) (h : Bad enc l) :
    ((l.drop k).length < 3 ∨ hexC ((l.drop k).getD 1 0) = false ∨ hexC ((l.drop k).getD 2 0) = false) ∨ ∃ a b t, l.drop k = 37 :: a :: b :: t ∧ hexC a = true ∧ hexC b = true ∧ Bad enc t := by
  have hcs : ∀ c ∈ l.take k, c ≠ 37 := fun c hc => by
    obtain ⟨j, hj, rfl⟩ := List.getElem_of_mem hc
    rw [List.length_take] at hj
    have := hno j (by omega)
    simpa [List.getD_eq_getElem?_getD, List.getElem?_eq_getElem (show j < l.length by omega)] using this
  have hhead : l[k] = 37 := by simpa [List.getD_eq_getElem?_getD, List.getElem?_eq_getElem hk] using h37
  have hd : l.drop k = 37 :: l.drop (k + 1) := by rw [List.drop_eq_getElem_cons hk, hhead]
  have hl : l = l.take k ++ (37 :: l.drop (k + 1)) := by rw [← hd]; exact (List.take_append_drop k l).symm
  rw [hd]
  cases ht : l.drop (k + 1) with
  | nil => left; left; simp
  | cons a r =>
    cases r with
    | nil => left; left; simp
    | cons b t =>
      cases ha : hexC a with
      | false => left; right; left; exact ha
      | true =>
        cases hb : hexC b with
        | false => left; right; right; exact hb
        | true =>
          right
          refine ⟨a, b, t, rfl, ha, hb, ?_⟩
          rw [hl, ht] at h
          rcases h with h | h
          · left
            rw [okD_chars _ _ hcs, okD_esc ha hb] at h
            exact h
          · right
            rw [readC_chars _ _ _ hcs, List.nil_append, readC_37, hy, Option.bind_some, Option.map_eq_none_iff] at h
            exact h
theorem bytesM_len {enc : Int} (h0 : 0 ≤ enc) : ∀ (l : List Int) (x : List UInt8), bytesM enc l = some x → x.length ≤ 4 * l.length
  | [], x, h => by rw [bytesM_nil h]; simp
  | r :: l, x, h => by
    obtain ⟨b, z, hb, hz, rfl⟩ := bytesM_cons h
    have := bytesM_len h0 l z hz
    have := (encB_some h0 hb).1
    simp
    omega
theorem bytesC_len {enc : Int} (h0 : 0 ≤ enc) {l : List Int} {x : List UInt8} (h : bytesC enc l = some x) : x.length ≤ 12 * l.length := by
  rw [bytesC_M] at h
  have := bytesM_len h0 _ _ h
  have h2 := apart_length l
  by_cases h8 : enc = 8
  · rw [if_pos h8] at this; omega
  · rw [if_neg h8] at this; omega
theorem bounds_drop {l : List Int} {k : Nat} {a b c : Int} {t : List Int} (h : ∀ r ∈ l, -2147483648 ≤ r ∧ r ≤ 2147483647) (hd : l.drop k = a :: b :: c :: t) : ∀ r ∈ t, -2147483648 ≤ r ∧ r ≤ 2147483647 := fun r hr =>
  h r (List.mem_of_mem_drop (i := k) (by rw [hd]; simp [hr]))

def RdNRel (enc : Int) (N : Nat) (w1 : World) (gk : Nat) (cv : Value) (wr : World) : Prop :=
  ∃ (l : List Int) (y : List UInt8), l.length = gk ∧ gk ≤ 1000 ∧ ((l = [] ∧ ∃ a cap, cv = .slice a 0 cap) ∨ SliceC w1 cv l) ∧ Bad enc l ∧ (∀ r ∈ l, -2147483648 ≤ r ∧ r ≤ 2147483647) ∧ y.length + 12 * gk ≤ 12 * N ∧ IsBld 59 [] w1.heap.size w1.heap.size (Lib.byteCells y) wr ∧ Below w1.heap.size w1 wr

set_option maxHeartbeats 4000000 in
set_option maxRecDepth 100000 in
theorem read4_no (enc : Int) (h0 : 0 ≤ enc) (h8 : enc ≤ 8) (b : ByteArray) (rs : List Int) (hr : runesL b.data.toList = some rs) (hs : b.size ≤ 4000) (hrs : rs.length ≤ 1000) (hbad : Bad enc rs) (hrb : ∀ r ∈ rs, -2147483648 ≤ r ∧ r ≤ 2147483647)
    (w : World) (hT : Tabs w) :
    Calls Tryz.prog 61 #[.int .i64 enc, .string b] w fun e w' => e = .returned (.tuple #[.string ⟨#[]⟩, .bool false]) ∧ Below w.heap.size w w' := by
  have cA := uall2_c b rs hr hs w hT
  obtain ⟨N, hN⟩ : ∃ N, rs.length = N := ⟨_, rfl⟩
  have H0 := Lib.hid h0
  have H8 := Lib.hid h8
  have HBAD := Lib.hid hbad
  have HRB := Lib.hid hrb
  have HN9 := Lib.hid hN
  rw [hN] at hrs
  clear hr hs hT hbad hrb h0 h8 hN
  go_enter Tryz.func61, Tryz.ntmps61
  go_wp2_with fail
  refine cA.mono ?_
  rintro e w1 ⟨v1, rfl, hv1, hb1⟩
  have HV1 := Lib.hid hv1
  have HB1 := Lib.hid hb1
  obtain ⟨g1, off1, cap1, hvf, _⟩ := hv1
  subst hvf
  clear cA hb1
  go_wp2_with fail
  go_loopg [6] N (fun gk cv wr => RdNRel enc N w1 gk cv wr)
  case atStart => exact ⟨rs, [], HN9.out, hrs, Or.inr HV1.out, HBAD.out, HRB.out, by simp, bld_fresh w1, (Below.refl _ _).alloc (Nat.le_refl _) _⟩
  case round =>
    obtain ⟨l, y, hlg, hg9, hcv, hbd, hbo, hyl, hbld, hbel⟩ := hrel
    subst hlg
    have HBD := Lib.hid hbld
    have HBL := Lib.hid hbel
    have HBD9 := Lib.hid hbd
    have HBO := Lib.hid hbo
    have hbs := hbel.size
    clear hbld hbd hbo hbel
    rcases hcv with ⟨rfl, _⟩ | hcv
    · exact (bad_nil HBD9.out).elim
    · have HCV := Lib.hid hcv
      obtain ⟨g, off, cap, rfl, hcap, hgw, _⟩ := hcv
      have hl0 : l ≠ [] := fun e => by
        have := HBD9.out
        rw [e] at this
        exact bad_nil this
      have hlp : 0 < l.length := List.length_pos_iff.2 hl0
      have hlz : (0 : Int) < (l.length : Int) := by omega
      clear hl0
      rcases first37 l with hno | ⟨k, hk, hno, h37⟩
      · have cU := until_none l hno g off cap wr (HCV.out.kept HBL.out) (by omega)
        have hyx := bad_last hno HBD9.out
        have HE : Hid (∀ w2, Below w1.heap.size w1 w2 → Calls Tryz.prog 106 #[.int .i64 enc, .slice (some ⟨g, off, none⟩) l.length cap] w2 fun e w' => e = .returned (.tuple #[.string ⟨#[]⟩, .bool false]) ∧ Below w2.heap.size w2 w') := Lib.hid (fun w2 h2 => encn_c enc H0.out H8.out l hyx HBO.out _ w2 (HCV.out.kept h2).is (by omega))
        clear hno hyx
        go_wp2_with fail
        refine cU.mono ?_
        intro e w2 hh
        have he := hh.1
        have hb2 := hh.2
        clear hh
        subst he
        have hbel2 : Below w1.heap.size w1 w2 := HBL.out.trans (hb2.mono hbs)
        have cE := HE.out w2 hbel2
        have HBL2 := Lib.hid hbel2
        have hbs2 := hbel2.size
        clear cU hb2 hbel2
        go_wp2_with fail
        refine cE.mono ?_
        intro e w3 hh
        have he := hh.1
        have hb3 := hh.2
        clear hh
        subst he
        have HFB : Hid (Below w.heap.size w w3) := Lib.hid (HB1.out.trans ((HBL2.out.trans (hb3.mono hbs2)).mono HB1.out.size))
        clear hb3 cE
        go_wp2
        go_ret2
        exact ⟨rfl, HFB.out⟩
      · have cU := until_some l k hk hno h37 g off cap wr (HCV.out.kept HBL.out) (by omega)
        cases hy1 : bytesC enc (l.take k) with
        | none =>
          have HE : Hid (∀ w2, Below w1.heap.size w1 w2 → Calls Tryz.prog 106 #[.int .i64 enc, .slice (some ⟨g, off, none⟩) k cap] w2 fun e w' => e = .returned (.tuple #[.string ⟨#[]⟩, .bool false]) ∧ Below w2.heap.size w2 w') := Lib.hid (fun w2 h2 => encn_c enc H0.out H8.out _ hy1 (fun r hr => HBO.out r (List.mem_of_mem_take hr)) _ w2 ((HCV.out.kept h2).take (by omega)) (by rw [List.length_take]; omega))
          clear hno h37 hy1
          go_wp2_with fail
          refine cU.mono ?_
          intro e w2 hh
          have he := hh.1
          have hb2 := hh.2
          clear hh
          subst he
          have hbel2 : Below w1.heap.size w1 w2 := HBL.out.trans (hb2.mono hbs)
          have cE := HE.out w2 hbel2
          have HBL2 := Lib.hid hbel2
          have hbs2 := hbel2.size
          clear cU hb2 hbel2
          go_wp2_with fail
          refine cE.mono ?_
          intro e w3 hh
          have he := hh.1
          have hb3 := hh.2
          clear hh
          subst he
          have HFB : Hid (Below w.heap.size w w3) := Lib.hid (HB1.out.trans ((HBL2.out.trans (hb3.mono hbs2)).mono HB1.out.size))
          clear hb3 cE
          go_wp2
          go_ret2
          exact ⟨rfl, HFB.out⟩
        | some y1 =>
          have hy1l := bytesC_len H0.out hy1
          rw [List.length_take] at hy1l
          have HE : Hid (∀ w2, Below w1.heap.size w1 w2 → Calls Tryz.prog 106 #[.int .i64 enc, .slice (some ⟨g, off, none⟩) k cap] w2 fun e w' => e = .returned (.tuple #[.string ⟨y1.toArray⟩, .bool true]) ∧ Below w2.heap.size w2 w') := Lib.hid (fun w2 h2 => encode4_c enc H0.out H8.out _ y1 hy1 _ w2 ((HCV.out.kept h2).take (by omega)) (by rw [List.length_take]; omega))
          have HSC : Hid (SliceC w1 (.slice (some ⟨g, off + k, none⟩) (l.length - k) (cap - k)) (l.drop k)) := Lib.hid (HCV.out.drop (by omega))
          have hY1s : (⟨y1.toArray⟩ : ByteArray).size ≤ 12000 := by show y1.toArray.size ≤ 12000; simp; omega
          have hYL : Hid ((⟨y1.toArray⟩ : ByteArray).data.toList = y1) := Lib.hid rfl
          obtain ⟨m, hm⟩ : ∃ m, l.length - k = m := ⟨_, rfl⟩
          obtain ⟨cp, hcp⟩ : ∃ cp, cap - k = cp := ⟨_, rfl⟩
          have hdm : (l.drop k).length = m := by rw [List.length_drop]; exact hm
          have hcm : m ≤ cp := by omega
          have hmp : 0 < m := by omega
          have hm0 : ((m : Int) == 0) = false := by rw [beq_eq_false_iff_ne]; omega
          rcases bad_esc hk hno h37 hy1 HBD9.out with hnone | ⟨ca, cb, t, hdr, hca, hcb, hbt⟩
          · have HU : Hid (∀ w2, Below w1.heap.size w1 w2 → Calls Tryz.prog 107 #[.slice (some ⟨g, off + k, none⟩) m cp] w2 fun e w' => e = .returned (.tuple #[.int .u8 0, .bool false]) ∧ Below w2.heap.size w2 w') := Lib.hid (fun w2 h2 => by
              have := unesc_no (l.drop k) hnone _ w2 (HSC.out.kept h2) (by rw [List.length_drop]; omega)
              rw [hm, hcp] at this
              exact this)
            rw [hm, hcp] at cU
            generalize (⟨y1.toArray⟩ : ByteArray) = Y at *
            clear hno h37 hy1 hnone hdm hm hcp
            go_wp2_with fail
            refine cU.mono ?_
            intro e w2 hh
            have he := hh.1
            have hb2 := hh.2
            clear hh
            subst he
            have hbel2 : Below w1.heap.size w1 w2 := HBL.out.trans (hb2.mono hbs)
            have cE := HE.out w2 hbel2
            have HBD2 := Lib.hid (HBD.out.below hb2)
            have HBL2 := Lib.hid hbel2
            have hbs2 := hbel2.size
            clear cU hb2 hbel2
            go_wp2_with fail
            refine cE.mono ?_
            intro e w3 hh
            have he := hh.1
            have hb3 := hh.2
            clear hh
            subst he
            have cW := wstr_c hasBuilder w1.heap.size w1.heap.size _ Y w3 (HBD2.out.below hb3) (by rw [Lib.byteCells_length]; omega) (by have := hb3.size; omega)
            have HBL3 : Hid (Below w1.heap.size w1 w3) := Lib.hid (HBL2.out.trans (hb3.mono hbs2))
            clear cE hb3
            go_wp2_with fail
            refine cW.mono ?_
            intro e w4 hh
            have he := hh.1
            have hbel4 := hh.2.2.1
            clear hh
            subst he
            have HBL4 : Hid (Below w1.heap.size w1 w4) := Lib.hid (HBL3.out.trans hbel4)
            have cU2 := HU.out w4 HBL4.out
            have hbs4 := HBL4.out.size
            clear hbel4 cW
            go_wp2_with fail
            refine cU2.mono ?_
            intro e w5 hh
            have he := hh.1
            have hb5 := hh.2
            clear hh
            subst he
            have HFB : Hid (Below w.heap.size w w5) := Lib.hid (HB1.out.trans ((HBL4.out.trans (hb5.mono hbs4)).mono HB1.out.size))
            clear cU2 hb5
            go_wp2
            go_ret2
            exact ⟨rfl, HFB.out⟩
          · have hnd : l.length = k + (t.length + 3) := by
              have h9 := congrArg List.length hdr
              rw [List.length_drop] at h9
              simp at h9
              omega
            have HU : Hid (∀ w2, Below w1.heap.size w1 w2 → Calls Tryz.prog 107 #[.slice (some ⟨g, off + k, none⟩) m cp] w2 fun e w' => e = .returned (.tuple #[.int .u8 ((16 * digitOf ca + digitOf cb : Nat) : Int), .bool true]) ∧ Below w2.heap.size w2 w') := Lib.hid (fun w2 h2 => by
              have := unesc_c (l.drop k) t ca cb hdr hca hcb _ w2 (HSC.out.kept h2) (by rw [List.length_drop]; omega)
              rw [hm, hcp] at this
              exact this)
            have hdig : 16 * digitOf ca + digitOf cb < 256 := by
              have h1 := (dig_idx hca).2
              have h2 := (dig_idx hcb).2
              omega
            have hDc : ((16 * digitOf ca + digitOf cb : Nat) : Int) = ((UInt8.ofNat (16 * digitOf ca + digitOf cb)).toNat : Int) := by rw [u8n _ hdig]
            have HBT := Lib.hid hbt
            have HBO2 : Hid (∀ r ∈ t, -2147483648 ≤ r ∧ r ≤ 2147483647) := Lib.hid (bounds_drop HBO.out hdr)
            have HYN : Hid (∀ D : UInt8, (y ++ y1 ++ [D]).length + 12 * t.length ≤ 12 * N) := Lib.hid (fun D => by
              simp only [List.length_append, List.length_cons, List.length_nil]
              omega)
            have hzl9 : (y ++ y1).length ≤ 24000 := by simp only [List.length_append]; omega
            rw [hDc] at HU
            rw [hm, hcp] at cU HSC
            generalize UInt8.ofNat (16 * digitOf ca + digitOf cb) = D at *
            generalize (⟨y1.toArray⟩ : ByteArray) = Y at *
            have HDR := Lib.hid hdr
            have hm3 : m = t.length + 3 := by omega
            have hmz : (3 : Int) ≤ (m : Int) := by omega
            have hmc : (m : Int) ≤ (cp : Int) := by omega
            have HTL : Hid (t.length < l.length) := Lib.hid (by omega)
            have HM3 := Lib.hid hm3
            clear hm3 hno h37 hdr hca hcb hbt hy1 hnd hdig hDc hm hcp hdm
            go_wp2_with fail
            refine cU.mono ?_
            intro e w2 hh
            have he := hh.1
            have hb2 := hh.2
            clear hh
            subst he
            have hbel2 : Below w1.heap.size w1 w2 := HBL.out.trans (hb2.mono hbs)
            have cE := HE.out w2 hbel2
            have HBD2 := Lib.hid (HBD.out.below hb2)
            have HBL2 := Lib.hid hbel2
            have hbs2 := hbel2.size
            clear cU hb2 hbel2
            go_wp2_with fail
            refine cE.mono ?_
            intro e w3 hh
            have he := hh.1
            have hb3 := hh.2
            clear hh
            subst he
            have cW := wstr_c hasBuilder w1.heap.size w1.heap.size _ Y w3 (HBD2.out.below hb3) (by rw [Lib.byteCells_length]; omega) (by have := hb3.size; omega)
            have HBL3 : Hid (Below w1.heap.size w1 w3) := Lib.hid (HBL2.out.trans (hb3.mono hbs2))
            clear cE hb3
            go_wp2_with fail
            refine cW.mono ?_
            intro e w4 hh
            have he := hh.1
            have hb4 := hh.2.1
            have hbel4 := hh.2.2.1
            clear hh
            subst he
            have HB4 : Hid (IsBld 59 [] w1.heap.size w1.heap.size (Lib.byteCells (y ++ y1)) w4) := Lib.hid (Or.inr (by
              rw [Lib.byteCells_append, ← hYL.out, ← Lib.strCells_eq]
              exact hb4))
            have HBL4 : Hid (Below w1.heap.size w1 w4) := Lib.hid (HBL3.out.trans hbel4)
            have cU2 := HU.out w4 HBL4.out
            have hbs4 := HBL4.out.size
            clear hb4 hbel4 cW
            go_wp2_with fail
            refine cU2.mono ?_
            intro e w5 hh
            have he := hh.1
            have hb5 := hh.2
            clear hh
            subst he
            have cB := wbyte_c hasBuilder w1.heap.size w1.heap.size _ (D.toNat : Int) w5 (HB4.out.below hb5) (by rw [Lib.byteCells_length]; omega) (by have := hb5.size; omega)
            have HBL5 : Hid (Below w1.heap.size w1 w5) := Lib.hid (HBL4.out.trans (hb5.mono hbs4))
            clear cU2 hb5
            go_wp2_with fail
            refine cB.mono ?_
            intro e w6 hh
            have he := hh.1
            have hb6 := hh.2.1
            have hbel6 := hh.2.2.1
            clear hh
            subst he
            have HB6 : Hid (IsBld 59 [] w1.heap.size w1.heap.size (Lib.byteCells (y ++ y1 ++ [D])) w6) := Lib.hid (Or.inr (by
              rw [Lib.byteCells_append, byteCells_one]
              exact hb6))
            have HBL6 : Hid (Below w1.heap.size w1 w6) := Lib.hid (HBL5.out.trans hbel6)
            clear hb6 hbel6 cB
            go_wp2_with fail
            case inl =>
              have ht0 : t = [] := List.eq_nil_of_length_eq_zero (by have := HM3.out; omega)
              have hm9 : m - 3 = 0 := by have := HM3.out; rw [ht0] at this; simp at this; omega
              have HCV3 : Hid (t = [] ∧ m - 3 = 0) := Lib.hid ⟨ht0, hm9⟩
              clear ht0 hm9
              go_roundg t.length
              case measure => exact HTL.out
              case rel => exact ⟨t, y ++ y1 ++ [D], rfl, by have := HTL.out; omega, Or.inl ⟨HCV3.out.1, _, _, by rw [HCV3.out.2]⟩, HBT.out, HBO2.out, HYN.out D, HB6.out, HBL6.out⟩
            case inr =>
              have HCV3 : Hid (SliceC w1 (.slice (some ⟨g, off + k + 3, none⟩) (m - 3) (cp - 3)) t) := Lib.hid (by
                have h9 := HSC.out.drop (k := 3) (by rw [HDR.out]; simp)
                rw [HDR.out] at h9
                have e9 : (37 :: ca :: cb :: t).length - 3 = m - 3 := by rw [HM3.out]; simp
                rw [e9] at h9
                exact h9)
              go_roundg t.length
              case measure => exact HTL.out
              case rel => exact ⟨t, y ++ y1 ++ [D], rfl, by have := HTL.out; omega, Or.inr HCV3.out, HBT.out, HBO2.out, HYN.out D, HB6.out, HBL6.out⟩
end Go.Proofs.YtbbgnhbkjbobgaaGreatDoor

namespace Go.Proofs.YtbbgnhbkjbobgaaGreatDoor
open Go.RowKit Go.Lib Go.Sort
set_option linter.unusedVariables false

/-! ### put together -/
theorem ascii_pair {b r : Int} (hb : b < 128) (h : 0 < pairI b r) : 0 < classI r := by
  have hm : ∀ n : Nat, n < 13 → 0 < classI (markN n) := by decide +kernel
  rcases pair_kinds h with h1 | h1 | h1
  · cases hp : pairT b r with
    | some x =>
      obtain ⟨n, hn, hr, _⟩ := pairT_spec hp
      rw [← hr]; exact hm n hn
    | none =>
      unfold pairI at h
      rw [hp] at h
      simp only at h
      rw [if_neg (by omega), if_neg (by omega)] at h
      omega
  · omega
  · omega
theorem step_low (A : List Int) {x : Int} (hx : x < 768) : togStep A x = A ++ [x] := by
  unfold togStep
  cases hb : lastBase A with
  | none => rfl
  | some q =>
    obtain ⟨p, b, ms⟩ := q
    simp only
    rw [if_neg]
    rintro ⟨_, h⟩
    rcases pair_kinds h with h1 | h1 | h1 <;> omega
theorem fix_low {A : List Int} (h : FixT A) : ∀ E : List Int, (∀ x ∈ E, x < 768) → FixT (A ++ E) := by
  refine snoc_ind (fun _ => by simpa using h) fun E r ih hE => ?_
  rw [← List.append_assoc]
  exact fix_snoc (ih (fun x hx => hE x (by simp [hx]))) (step_low _ (hE r (by simp)))
theorem base_front (A : List Int) : ∀ {X p : List Int} {b : Int} {ms : List Int}, lastBase X = some (p, b, ms) → lastBase (A ++ X) = some (A ++ p, b, ms) := by
  intro X p b ms h
  obtain ⟨rfl, hb, hms⟩ := lastBase_some h
  rw [← List.append_assoc]
  exact lastBase_at (A ++ p) hb hms
theorem step_front (A : List Int) {X : List Int} (hX : lastBase X ≠ none) (r : Int) : togStep (A ++ X) r = A ++ togStep X r := by
  cases hb : lastBase X with
  | none => exact absurd hb hX
  | some q =>
    obtain ⟨p, b, ms⟩ := q
    unfold togStep
    rw [base_front A hb, hb]
    simp only
    split
    · rw [List.append_assoc]
    · rw [List.append_assoc]
/-- What ends in a character of ASCII, or holds none. -/
def EndOK (A : List Int) : Prop := A = [] ∨ ∃ B x, A = B ++ [x] ∧ x < 128 ∧ classI x = 0
theorem fix_seg {A : List Int} (hA : FixT A) (he : EndOK A) : ∀ T : List Int, FixT T → (∀ r t, T = r :: t → classI r = 0) → FixT (A ++ T) ∧ T.foldl togStep A = A ++ T := by
  refine snoc_ind (fun _ _ => ⟨by simpa using hA, by simp⟩) fun T r ih hT hc => ?_
  have hF := fix_front hT
  have hst : togStep T r = T ++ [r] := by
    have h1 := hT
    unfold FixT at h1 hF
    rw [togI_snoc, hF] at h1
    exact h1
  have key : togStep (A ++ T) r = A ++ (T ++ [r]) := by
    cases T with
    | nil =>
      rw [List.append_nil]
      have hr := hc r [] rfl
      unfold togStep
      rcases he with rfl | ⟨B, x, rfl, hx, hcx⟩
      · rfl
      · rw [lastBase_at B hcx (fun y hy => by cases hy)]
        simp only
        rw [if_neg]
        · rfl
        · rintro ⟨_, h⟩
          have := ascii_pair hx h
          omega
    | cons t0 T =>
      have h0 := hc t0 (T ++ [r]) rfl
      rw [step_front A (fun h => ?_) r, hst]
      have := lastBase_none h t0 (by simp)
      omega
  have ihh := ih hF (fun q t h => hc q (t ++ [r]) (by rw [h]; rfl))
  refine ⟨?_, by rw [List.foldl_append, ihh.2]; exact key⟩
  rw [← List.append_assoc]
  exact fix_snoc ihh.1 (by rw [key, List.append_assoc])
/-- The first of what is put together. -/
theorem tog_first : ∀ s : List Int, (∀ r t, s = r :: t → classI r = 0) → ∀ r t, togI s = r :: t → classI r = 0 := by
  refine snoc_ind (fun _ r t h => by cases h) fun s x ih hs r t h => ?_
  rw [togI_snoc] at h
  have hfirst : ∀ r t, togI s = r :: t → classI r = 0 := by
    intro r t h9
    refine ih (fun q u h8 => hs q (u ++ [x]) (by rw [h8]; rfl)) r t h9
  unfold togStep at h
  cases hb : lastBase (togI s) with
  | none =>
    rw [hb] at h
    simp only at h
    cases ht : togI s with
    | nil =>
      rw [ht] at h
      have e : x = r := by simpa using (List.cons.inj h).1
      have hs0 : s = [] := by
        cases s with
        | nil => rfl
        | cons q u =>
          exfalso
          have h7 : ∀ l out : List Int, out ≠ [] → l.foldl togStep out ≠ [] := by
            intro l
            induction l with
            | nil => intro out h; exact h
            | cons c l ihl =>
              intro out h
              refine ihl _ ?_
              unfold togStep
              split
              · simp
              · split <;> simp
          exact h7 u (togStep [] q) (by unfold togStep; split <;> simp [lastBase] at *) ht
      rw [← e]
      exact hs x [] (by rw [hs0]; rfl)
    | cons q u =>
      rw [ht] at h
      have e : q = r := (List.cons.inj h).1
      rw [← e]
      exact hfirst q u ht
  | some pq =>
    obtain ⟨p, b, ms⟩ := pq
    rw [hb] at h
    simp only at h
    obtain ⟨ho, hb0, _⟩ := lastBase_some hb
    split at h
    · rename_i hc
      cases p with
      | nil =>
        have e : pairI b x = r := (List.cons.inj h).1
        rw [← e]
        exact class_made hc.2
      | cons q u =>
        have e : q = r := (List.cons.inj h).1
        rw [← e]
        exact hfirst q (u ++ b :: ms) (by rw [ho]; rfl)
    · rw [ho] at h
      cases p with
      | nil =>
        have e : b = r := (List.cons.inj h).1
        rw [← e]; exact hb0
      | cons q u =>
        have e : q = r := (List.cons.inj h).1
        rw [← e]
        exact hfirst q (u ++ b :: ms) (by rw [ho]; rfl)
theorem escC_low (l : List UInt8) : ∀ x ∈ escC l, x < 128 := fun x hx => by
  unfold escC at hx
  obtain ⟨y, hy, rfl⟩ := List.mem_map.1 hx
  have := escs_small l y hy
  omega
theorem hex_class : ∀ n : Nat, n < 256 → classI ((hexL.getD (n % 16) 0).toNat : Int) = 0 := by decide +kernel
theorem escC_end : ∀ l : List UInt8, l ≠ [] → ∃ B x, escC l = B ++ [x] ∧ x < 128 ∧ classI x = 0 ∧ x ≠ 46 ∧ x ≠ 32
  | [], h => absurd rfl h
  | [y], _ => by
    have hd : ∀ n : Nat, n < 256 → ((hexL.getD (n % 16) 0).toNat : Int) < 128 ∧ ((hexL.getD (n % 16) 0).toNat : Int) ≠ 46 ∧ ((hexL.getD (n % 16) 0).toNat : Int) ≠ 32 := by decide +kernel
    have h1 := hd y.toNat y.toNat_lt
    refine ⟨[37, ((hexL.getD (y.toNat / 16) 0).toNat : Int)], ((hexL.getD (y.toNat % 16) 0).toNat : Int), ?_, h1.1, hex_class y.toNat y.toNat_lt, h1.2⟩
    rw [escC_cons]; rfl
  | y :: z :: l, _ => by
    obtain ⟨B, x, h1, h2⟩ := escC_end (z :: l) (by simp)
    refine ⟨37 :: ((hexL.getD (y.toNat / 16) 0).toNat : Int) :: ((hexL.getD (y.toNat % 16) 0).toNat : Int) :: B, x, ?_, h2⟩
    rw [escC_cons, h1]; rfl
theorem presC_fix_reg : ∀ (n : Nat) (l : List UInt8) (op A : List Int), FixT A → EndOK A → (∀ r t, op = r :: t → classI r = 0) → FixT (A ++ presC 8 true n l op) := by
  have hseg : ∀ op A : List Int, FixT A → EndOK A → (∀ r t, op = r :: t → classI r = 0) → FixT (A ++ joinT (decide ((8 : Int) = 8)) true op) := fun op A hA he hc =>
    (fix_seg hA he (togI op) (tog_twice op) (tog_first op hc)).1
  intro n
  induction n with
  | zero => intro l op A hA he hc; exact hseg op A hA he hc
  | succ n ih =>
    intro l op A hA he hc
    simp only [presC]
    split
    · exact hseg op A hA he hc
    · rename_i hne
      have hr := pieceL_range (enc := 8) (by decide) hne
      split
      · rename_i hh
        have htk : l.take (pieceL 8 l).2 ≠ [] := by
          intro h9
          have := congrArg List.length h9
          rw [List.length_take, List.length_nil] at this
          omega
        obtain ⟨B, x, hB, hx, hcx, _⟩ := escC_end _ htk
        rw [← List.append_assoc, ← List.append_assoc]
        refine ih _ [] _ (fix_low (hseg op A hA he hc) _ (fun y hy => by have := escC_low _ y hy; omega)) (Or.inr ⟨A ++ joinT (decide ((8 : Int) = 8)) true op ++ B, x, ?_, hx, hcx⟩) (fun r t h => by cases h)
        rw [hB]
        simp only [List.append_assoc]
      · rename_i hh
        refine ih _ _ A hA he (fun r t h => ?_)
        cases op with
        | nil =>
          have e : (pieceL 8 l).1 = r := by simpa using (List.cons.inj h).1
          rw [← e]
          have h0 := not_hidden (by simpa using hh)
          have h1 : hideB true true (decide (l.length = (pieceL 8 l).2)) true (pieceL 8 l).1 = false := by simpa using hh
          unfold hideB at h1
          simp only [Bool.or_eq_false_iff, Bool.true_and, decide_eq_false_iff_not] at h1
          have := classI_nn (pieceL 8 l).1
          omega
        | cons q u =>
          have e : q = r := (List.cons.inj h).1
          rw [← e]
          exact hc q u rfl
theorem presC_low : ∀ (n : Nat) (l : List UInt8) (op : List Int), (∀ x ∈ op, x < 128) → ∀ x ∈ presC 8 false n l op, x < 128 := by
  have hj : ∀ op : List Int, joinT (decide ((8 : Int) = 8)) false op = op := fun op => rfl
  intro n
  induction n with
  | zero => intro l op h; show ∀ x ∈ joinT _ _ op, _; rw [hj]; exact h
  | succ n ih =>
    intro l op h
    simp only [presC]
    split
    · exact h
    · split
      · intro x hx
        have hx' : x ∈ op ++ (escC (l.take (pieceL 8 l).2) ++ presC 8 false n (l.drop (pieceL 8 l).2) []) := hx
        rcases List.mem_append.1 hx' with h1 | h1
        · exact h x h1
        · rcases List.mem_append.1 h1 with h2 | h2
          · exact escC_low _ x h2
          · exact ih _ [] (fun y hy => by cases hy) x h2
      · rename_i hh
        refine ih _ _ (fun x hx => ?_)
        rcases List.mem_append.1 hx with h1 | h1
        · exact h x h1
        · have e : x = (pieceL 8 l).1 := by simpa using h1
          rw [e]
          exact (not_hidden (by simpa using hh)).2.2 rfl
theorem pres_fix (good : Bool) (l : List UInt8) : FixT (presC 8 good l.length l []) := by
  cases good with
  | true => simpa using presC_fix_reg l.length l [] [] rfl (Or.inl rfl) (fun r t h => by cases h)
  | false => simpa using fix_low (A := []) rfl _ (fun x hx => by have := presC_low l.length l [] (fun y hy => by cases hy) x hx; omega)

/-! ### nothing reserved -/
def cleanD (l : List Int) : Bool := match l with
  | [] => true
  | [c] => decide (c ≠ 37) && !reservedI c
  | [c, a] => (decide (c ≠ 37) && !reservedI c) && cleanD [a]
  | c :: a :: b :: t => if c = 37 then cleanD t else !reservedI c && cleanD (a :: b :: t)
theorem cleanD_char {c : Int} (h : reservedI c = false) (t : List Int) : cleanD (c :: t) = cleanD t := by
  have hc : c ≠ 37 := fun e => by rw [e] at h; exact absurd h (by decide)
  match t with
  | [] => rw [cleanD.eq_2, cleanD.eq_1, decide_eq_true hc, h]; rfl
  | [a] => rw [cleanD.eq_3, decide_eq_true hc, h]; simp
  | a :: b :: t => rw [cleanD.eq_4, if_neg hc, h]; rfl
theorem cleanD_chars : ∀ (cs t : List Int), (∀ c ∈ cs, reservedI c = false) → cleanD (cs ++ t) = cleanD t
  | [], t, _ => rfl
  | c :: cs, t, h => by
    rw [List.cons_append, cleanD_char (h c (by simp)), cleanD_chars cs t (fun x hx => h x (by simp [hx]))]
theorem cleanD_escs : ∀ (bs : List UInt8) (t : List Int), cleanD (escC bs ++ t) = cleanD t
  | [], t => rfl
  | x :: bs, t => by
    rw [escC_cons]
    show cleanD (37 :: _ :: _ :: (escC bs ++ t)) = _
    rw [cleanD.eq_4, if_pos rfl, cleanD_escs bs t]
theorem res_far {c : Int} (h : 192 ≤ c) : reservedI c = false := by
  unfold reservedI
  refine decide_eq_false ?_
  rintro (h1 | h1 | h1)
  · simp [resT] at h1; omega
  · omega
  · omega
theorem clean_presC {enc : Int} (good : Bool) : ∀ (n : Nat) (l : List UInt8) (op : List Int), (∀ c ∈ op, reservedI c = false) → cleanD (presC enc good n l op) = true := by
  have hj : ∀ op : List Int, (∀ c ∈ op, reservedI c = false) → ∀ c ∈ joinT (decide (enc = 8)) good op, reservedI c = false := fun op h c hc => by
    unfold joinT at hc
    split at hc
    · rcases tog_from op [] c hc with h1 | h1 | h1
      · cases h1
      · exact h c h1
      · exact res_far h1
    · exact h c hc
  intro n
  induction n with
  | zero =>
    intro l op h
    have := cleanD_chars _ [] (hj op h)
    rw [List.append_nil] at this
    exact this.trans (by rw [cleanD.eq_1])
  | succ n ih =>
    intro l op h
    simp only [presC]
    split
    · have := cleanD_chars _ [] (hj op h)
      rw [List.append_nil] at this
      exact this.trans (by rw [cleanD.eq_1])
    · split
      · rw [cleanD_chars _ _ (hj op h), cleanD_escs]
        exact ih _ [] (fun c hc => by cases hc)
      · rename_i hh
        refine ih _ _ (fun c hc => ?_)
        rcases List.mem_append.1 hc with h1 | h1
        · exact h c h1
        · have e : c = (pieceL enc l).1 := by simpa using h1
          rw [e, ← res_same]
          exact (not_hidden (by simpa using hh)).2.1

/-! ### the last one -/
def LastOK (l : List Int) : Prop := ∃ B x, l = B ++ [x] ∧ x ≠ 46 ∧ x ≠ 32
theorem LastOK.front {l : List Int} (h : LastOK l) (A : List Int) : LastOK (A ++ l) := by
  obtain ⟨B, x, rfl, h1⟩ := h
  exact ⟨A ++ B, x, by rw [List.append_assoc], h1⟩
theorem tog_last {op : List Int} {r : Int} (h : r ≠ 46 ∧ r ≠ 32) : LastOK (togI (op ++ [r])) := by
  rw [togI_snoc]
  unfold togStep
  cases hb : lastBase (togI op) with
  | none => exact ⟨_, r, rfl, h⟩
  | some q =>
    obtain ⟨p, b, ms⟩ := q
    obtain ⟨_, _, hms⟩ := lastBase_some hb
    simp only
    split
    · rename_i hc
      have hk := pair_kinds hc.2
      rcases List.eq_nil_or_concat ms with hm | ⟨m, z, hm⟩
      · rw [hm]
        refine ⟨p, pairI b r, rfl, ?_⟩
        constructor <;> omega
      · rw [List.concat_eq_append] at hm
        rw [hm]
        have hz := hms z (by rw [hm]; simp)
        have hz2 := mark_near hz
        refine ⟨p ++ pairI b r :: m, z, by simp, ?_⟩
        constructor <;> omega
    · exact ⟨_, r, rfl, h⟩
theorem last_presC {enc : Int} (h0 : 0 ≤ enc) (good : Bool) : ∀ (n : Nat) (l : List UInt8) (op : List Int), l.length ≤ n → l ≠ [] → LastOK (presC enc good n l op)
  | 0, l, op, hl, hne => absurd (List.eq_nil_of_length_eq_zero (by omega)) hne
  | n + 1, l, op, hl, hne => by
    have hr := pieceL_range h0 hne
    have hd : (l.drop (pieceL enc l).2).length ≤ n := by rw [List.length_drop]; omega
    have hend : ∀ (m : Nat) (o : List Int), presC enc good m [] o = joinT (decide (enc = 8)) good o := fun m o => by cases m <;> simp [presC]
    simp only [presC]
    rw [if_neg hne]
    by_cases hlast : l.drop (pieceL enc l).2 = []
    · have hK : l.length = (pieceL enc l).2 := by
        have := congrArg List.length hlast
        rw [List.length_drop, List.length_nil] at this
        omega
      rw [hlast, hend, hend]
      split
      · have htk : l.take (pieceL enc l).2 ≠ [] := by
          rw [List.take_of_length_le (by omega)]; exact hne
        obtain ⟨B, x, hB, _, _, hx⟩ := escC_end _ htk
        have hj0 : joinT (decide (enc = 8)) good [] = [] := by
          unfold joinT
          split <;> rfl
        rw [hj0, List.append_nil]
        exact LastOK.front ⟨B, x, hB, hx⟩ _
      · rename_i hh
        have h1 : hideB (decide (enc = 8)) good (decide (l.length = (pieceL enc l).2)) (decide (op = [])) (pieceL enc l).1 = false := by simpa using hh
        rw [decide_eq_true hK] at h1
        unfold hideB at h1
        simp only [Bool.or_eq_false_iff, Bool.true_and, decide_eq_false_iff_not] at h1
        have hx : (pieceL enc l).1 ≠ 46 ∧ (pieceL enc l).1 ≠ 32 := by
          have h2 := h1.1.1.2
          exact ⟨fun e => h2 (Or.inl e), fun e => h2 (Or.inr e)⟩
        unfold joinT
        split
        · exact tog_last hx
        · exact ⟨op, _, rfl, hx⟩
    · split
      · exact LastOK.front (LastOK.front (last_presC h0 good n _ [] hd hlast) _) _
      · exact last_presC h0 good n _ _ hd hlast
end Go.Proofs.YtbbgnhbkjbobgaaGreatDoor

namespace Go.Proofs.YtbbgnhbkjbobgaaGreatDoor
open Go.RowKit Go.Lib Go.Sort
set_option linter.unusedVariables false

def alphaL : List UInt8 := [97, 98, 99, 100, 101, 102, 103, 104, 105, 106, 107, 108, 109, 110, 111, 112, 113, 114, 115, 116, 117, 118, 119, 120, 121, 122, 65, 66, 67, 68, 69, 70, 71, 72, 73, 74, 75, 76, 77, 78, 79, 80, 81, 82, 83, 84, 85, 86, 87, 88, 89, 90, 48, 49, 50, 51, 52, 53, 54, 55, 56, 57, 95, 45, 46]
set_option maxRecDepth 100000 in
theorem alpha_enc : ∀ e : Nat, e < 9 → ∀ n : Nat, n < 65 → encB (e : Int) ((alphaL.getD n 0).toNat : Int) = some [alphaL.getD n 0] := by decide +kernel
theorem alpha_plain : ∀ n : Nat, n < 65 → reservedI ((alphaL.getD n 0).toNat : Int) = false ∧ (alphaL.getD n 0).toNat < 128 ∧ (alphaL.getD n 0).toNat ≠ 32 ∧ (alphaL.getD n 0).toNat ≠ 37 ∧ classI ((alphaL.getD n 0).toNat : Int) = 0 := by decide +kernel
def Alpha (l : List UInt8) : Prop := ∀ c ∈ l, c ∈ alphaL
theorem alpha_at {c : UInt8} (h : c ∈ alphaL) : ∃ n, n < 65 ∧ alphaL.getD n 0 = c := by
  obtain ⟨n, hn, rfl⟩ := List.getElem_of_mem h
  exact ⟨n, hn, by simp [List.getD_eq_getElem?_getD, List.getElem?_eq_getElem hn]⟩
theorem alpha_c {c : UInt8} (h : c ∈ alphaL) {enc : Int} (h0 : 0 ≤ enc) (h8 : enc ≤ 8) : encB enc (c.toNat : Int) = some [c] ∧ reservedI (c.toNat : Int) = false ∧ c.toNat < 128 ∧ c.toNat ≠ 32 ∧ c.toNat ≠ 37 ∧ classI (c.toNat : Int) = 0 := by
  obtain ⟨n, hn, rfl⟩ := alpha_at h
  obtain ⟨e, rfl⟩ : ∃ e : Nat, enc = (e : Int) := ⟨enc.toNat, by omega⟩
  exact ⟨alpha_enc e (by omega) n hn, alpha_plain n hn⟩
def chars (l : List UInt8) : List Int := l.map fun c => (c.toNat : Int)
theorem chars_low {l : List UInt8} (h : Alpha l) : ∀ x ∈ chars l, 0 ≤ x ∧ x < 128 ∧ x ≠ 37 := fun x hx => by
  obtain ⟨c, hc, rfl⟩ := List.mem_map.1 hx
  have := alpha_c (h c hc) (enc := 0) (by decide) (by decide)
  omega
theorem chars_join {l : List UInt8} (h : Alpha l) : joinL (chars l) = l := join_bytes l (fun x hx => (alpha_c (h x hx) (enc := 0) (by decide) (by decide)).2.2.1)
theorem chars_runes {l : List UInt8} (h : Alpha l) : runesL l = some (chars l) := by
  have h1 := runes_join (chars l)
  rw [chars_join h, List.filter_eq_self.2] at h1
  · exact h1
  · intro x hx
    have := chars_low h x hx
    exact isR_of (by omega)
theorem bytesM_more {enc r : Int} {b z : List UInt8} {l : List Int} (h1 : encB enc r = some b) (h2 : bytesM enc l = some z) : bytesM enc (r :: l) = some (b ++ z) := by
  unfold bytesM at *
  simp only [List.map_cons, List.foldr_cons]
  rw [h1, h2]; rfl
theorem chars_bytesM {enc : Int} (h0 : 0 ≤ enc) (h8 : enc ≤ 8) (l : List UInt8) (h : Alpha l) : bytesM enc (chars l) = some l := by
  induction l with
  | nil => rfl
  | cons c l ih =>
    have h1 := (alpha_c (h c (by simp)) h0 h8).1
    exact bytesM_more h1 (ih (fun x hx => h x (by simp [hx])))
theorem reads_alpha {enc : Int} (h0 : 0 ≤ enc) (h8 : enc ≤ 8) (l : List UInt8) (h : Alpha l) (hl : l.length ≤ 100) : Reads enc ⟨l.toArray⟩ l := by
  refine ⟨chars l, chars_runes h, by show l.toArray.size ≤ 4000; simp; omega, by unfold chars; rw [List.length_map]; omega, ?_, ?_, by omega⟩
  · have := okD_chars (chars l) [] (fun c hc => (chars_low h c hc).2.2)
    rw [List.append_nil] at this
    exact this.trans (by rw [okD.eq_1])
  · have := readC_chars (enc := enc) (chars l) [] [] (fun c hc => (chars_low h c hc).2.2)
    rw [List.append_nil, List.nil_append, readC_nil] at this
    rw [this, bytesC_M]
    have ha : (if enc = 8 then apartI (chars l) else chars l) = chars l := by
      split
      · exact ascii_apart (fun c hc => ⟨(chars_low h c hc).1, (chars_low h c hc).2.1⟩)
      · rfl
    rw [ha]
    exact chars_bytesM h0 h8 l h
theorem alpha_piece {enc : Int} (h0 : 0 ≤ enc) (h8 : enc ≤ 8) {c : UInt8} (hc : c ∈ alphaL) (t : List UInt8) : pieceL enc (c :: t) = ((c.toNat : Int), 1) := (enc_piece h0 (alpha_c hc h0 h8).1 t).2
theorem alpha_presC {enc : Int} (h0 : 0 ≤ enc) (h8 : enc ≤ 8) (good : Bool) : ∀ (n : Nat) (l : List UInt8) (op : List Int), l.length ≤ n → Alpha l → (∀ z, l.getLast? = some z → z ≠ 46) → presC enc good n l op = joinT (decide (enc = 8)) good (op ++ chars l)
  | 0, l, op, hl, _, _ => by
    have : l = [] := List.eq_nil_of_length_eq_zero (by omega)
    subst this
    show joinT _ _ op = _
    rw [show op ++ chars [] = op from List.append_nil op]
  | n + 1, [], op, _, _, _ => by
    rw [show op ++ chars [] = op from List.append_nil op]
    simp [presC]
  | n + 1, c :: t, op, hl, ha, hz => by
    have hc := ha c (by simp)
    have hp := alpha_c hc h0 h8
    simp only [presC]
    rw [if_neg (by simp), alpha_piece h0 h8 hc t]
    have hh : hideB (decide (enc = 8)) good (decide ((c :: t).length = 1)) (decide (op = [])) (c.toNat : Int) = false := by
      unfold hideB
      rw [res_same, hp.2.1, decide_eq_false (show ¬ ((c.toNat : Int) < 0) by omega), decide_eq_false (show ¬ (128 ≤ (c.toNat : Int)) by omega), decide_eq_false (show ¬ (0 ≤ (c.toNat : Int) ∧ 0 < classI (c.toNat : Int)) by rw [hp.2.2.2.2.2]; omega)]
      simp only [Bool.and_false, Bool.or_false, Bool.false_or]
      by_cases h1 : (c :: t).length = 1
      · have ht : t = [] := List.eq_nil_of_length_eq_zero (by simpa using h1)
        have h46 := hz c (by rw [ht]; rfl)
        have : c.toNat ≠ 46 := fun e => h46 (UInt8.toNat_inj.1 e)
        rw [decide_eq_false (show ¬ ((c.toNat : Int) = 46 ∨ (c.toNat : Int) = 32) by omega), Bool.and_false]
      · rw [decide_eq_false h1]; rfl
    simp only [hh]
    rw [if_neg (by decide)]
    show presC enc good n t (op ++ [(c.toNat : Int)]) = _
    rw [alpha_presC h0 h8 good n t _ (by simp at hl; omega) (fun x hx => ha x (by simp [hx])) (fun z h9 => hz z (by
      cases t with
      | nil => cases h9
      | cons a t => rw [List.getLast?_cons_cons]; exact h9))]
    rw [List.append_assoc]
    rfl
theorem alpha_pres {enc : Int} (h0 : 0 ≤ enc) (h8 : enc ≤ 8) (l : List UInt8) (ha : Alpha l) (hz : ∀ z, l.getLast? = some z → z ≠ 46) : presL enc l = l := by
  unfold presL
  rw [pres_join, alpha_presC h0 h8 _ _ l [] (Nat.le_refl _) ha hz, List.nil_append]
  have hj : joinT (decide (enc = 8)) (decide (enc ≠ 8) || regL l) (chars l) = chars l := by
    unfold joinT
    split
    · have := fix_low (A := []) rfl (chars l) (fun x hx => by have := chars_low ha x hx; omega)
      rw [List.nil_append] at this
      exact this
    · rfl
  rw [hj, chars_join ha]
theorem alpha_point {enc : Int} (h0 : 0 ≤ enc) (l : List UInt8) (ha : Alpha l) (hz : l.getLast? = some 46) : presL enc l ≠ l := by
  intro h
  have hne : l ≠ [] := by rintro rfl; cases hz
  have hru : runesL (presL enc l) = some (presC enc (decide (enc ≠ 8) || regL l) l.length l []) := by
    unfold presL
    rw [pres_join, runes_join, List.filter_eq_self.2]
    exact presC_isR h0 _ _ _ [] (fun x hx => by cases hx)
  rw [h, chars_runes ha] at hru
  obtain ⟨B, x, hB, hx, _⟩ := last_presC h0 (decide (enc ≠ 8) || regL l) l.length l [] (Nat.le_refl _) hne
  rw [← Option.some.inj hru] at hB
  have h1 : (chars l).getLast? = some x := by rw [hB]; simp
  unfold chars at h1
  rw [List.getLast?_map, hz] at h1
  have h2 := Option.some.inj h1
  exact hx (by rw [← h2]; rfl)

set_option maxHeartbeats 2000000 in
set_option maxRecDepth 100000 in
/-- Restore of a name that isn't presented so. -/
theorem restore_no (enc : Int) (h0 : 0 ≤ enc) (h8 : enc ≤ 8) (b : ByteArray) (x : List UInt8) (hr : Reads enc b x) (hxs : x.length ≤ 300) (hp : presL enc x ≠ b.data.toList) (w : World) (hT : Tabs w) :
    Calls Tryz.prog 36 #[.int .i64 enc, .string b] w fun e w' => e = .returned (.tuple #[.string ⟨#[]⟩, .int .i64 3]) ∧ Below w.heap.size w w' := by
  obtain ⟨rs, h1, h2, h3, h4, h5, h6⟩ := hr
  have cR := read4_c enc h0 h8 b rs h1 h2 h3 h4 x h5 h6 w hT
  have HG : Hid (∀ w1, Calls Tryz.prog 23 #[.string ⟨x.toArray⟩] w1 fun e w' => e = .returned (.bool (goodB ⟨x.toArray⟩)) ∧ Below w1.heap.size w1 w') := Lib.hid (fun w1 => esGood_c ⟨x.toArray⟩ (by show x.toArray.size ≤ _; simp; omega) w1)
  have HP : Hid (∀ w1, Below w.heap.size w w1 → Calls Tryz.prog 22 #[.int .i64 enc, .string ⟨x.toArray⟩] w1 fun e w' => e = .returned (.string ⟨(presL enc x).toArray⟩) ∧ Below w1.heap.size w1 w') := Lib.hid (fun w1 hb => present_c enc h0 h8 ⟨x.toArray⟩ (by show x.toArray.size ≤ _; simp; omega) w1 (hT.step hb))
  have hne : ((⟨(presL enc x).toArray⟩ : ByteArray).toList == b.toList) = false := by
    rw [beq_eq_false_iff_ne, ByteArray.toList_eq, ByteArray.toList_eq]
    exact hp
  generalize (⟨(presL enc x).toArray⟩ : ByteArray) = Q at *
  generalize (⟨x.toArray⟩ : ByteArray) = X at *
  clear hT hp h0 h8 h1 h2 h3 h4 h5 h6 hxs
  cases hg : goodB X with
  | false =>
    rw [hg] at HG
    clear hg
    go_enter Tryz.func36, Tryz.ntmps36
    go_wp2_with fail
    refine cR.mono ?_
    rintro e w1 ⟨rfl, hb1⟩
    have cG := HG.out w1
    go_wp2_with fail
    refine cG.mono ?_
    rintro e w2 ⟨rfl, hb2⟩
    have HB := Lib.hid (below_step hb1 hb2)
    clear hb1 hb2 cR cG
    go_wp2
    go_ret2
    exact ⟨rfl, HB.out⟩
  | true =>
    rw [hg] at HG
    clear hg
    go_enter Tryz.func36, Tryz.ntmps36
    go_wp2_with fail
    refine cR.mono ?_
    rintro e w1 ⟨rfl, hb1⟩
    have cG := HG.out w1
    go_wp2_with fail
    refine cG.mono ?_
    rintro e w2 ⟨rfl, hb2⟩
    have hb12 := below_step hb1 hb2
    have cP := HP.out w2 hb12
    go_wp2_with fail
    refine cP.mono ?_
    rintro e w3 ⟨rfl, hb3⟩
    have HB := Lib.hid (below_step hb12 hb3)
    clear hb1 hb2 hb12 hb3 cR cG cP
    go_wp2
    go_ret2
    exact ⟨rfl, HB.out⟩
end Go.Proofs.YtbbgnhbkjbobgaaGreatDoor

namespace Go.Proofs.YtbbgnhbkjbobgaaGreatDoor
open Go.RowKit Go.Sort
set_option linter.unusedVariables false

def tabB : ByteArray := ⟨#[97, 98, 99, 100, 101, 102, 103, 104, 105, 106, 107, 108, 109, 110, 111, 112, 113, 114, 115, 116, 117, 118, 119, 120, 121, 122, 65, 66, 67, 68, 69, 70, 71, 72, 73, 74, 75, 76, 77, 78, 79, 80, 81, 82, 83, 84, 85, 86, 87, 88, 89, 90, 48, 49, 50, 51, 52, 53, 54, 55, 56, 57, 95, 45, 46]⟩
theorem tab_at : ∀ u : Nat, u < 65 → Go.PlainAid.bt tabB u = ((alphaL.getD u 0).toNat : Int) := by decide +kernel
def mapT (l : List UInt8) : List UInt8 := l.map fun c => alphaL.getD (c.toNat % 65) 0
theorem mapT_alpha (l : List UInt8) : Alpha (mapT l) := fun c hc => by
  obtain ⟨d, _, rfl⟩ := List.mem_map.1 hc
  have h : d.toNat % 65 < alphaL.length := Nat.mod_lt _ (by decide)
  rw [List.getD_eq_getElem?_getD, List.getElem?_eq_getElem h]
  exact List.getElem_mem h
/-- A slice of bytes of one's own. -/
def OwnB (B : Nat) (w : World) (v : Value) (xs : List UInt8) : Prop := w.ownsRow B 5 1 v xs.length (Lib.byteCells xs)
theorem OwnB.set {B g n cap i : Nat} {w : World} {xs : List UInt8} (x : UInt8) (h : OwnB B w (.slice (some ⟨g, 0, none⟩) n cap) xs) : OwnB B (w.setCell ⟨g, i, none⟩ (.int .u8 (x.toNat : Int))) (.slice (some ⟨g, 0, none⟩) n cap) (xs.set i x) := by
  refine ⟨by simp [Lib.byteCells_length], ?_⟩
  rcases h.2 with ⟨hv, _⟩ | ⟨g', cap', cur, hv, hg, hb, hn, hm, hs, ht⟩
  · cases hv
  · cases hv
    refine Or.inr ⟨g, cap, cur.setIfInBounds i (.int .u8 (x.toNat : Int)), by simp, hg, ?_, by simpa using hn, hm, by simpa using hs, ?_⟩
    · rw [setCell_eq]
      simp [mapBlock, Array.getElem?_modify, hb, onCells]
    · unfold Lib.byteCells at *
      rw [Array.toList_setIfInBounds, List.length_set, List.map_set, List.take_set, ht]
theorem OwnB.cell {B g n cap j : Nat} {w : World} {xs : List UInt8} (h : OwnB B w (.slice (some ⟨g, 0, none⟩) n cap) xs) (hj : j < xs.length) : w.cell? ⟨g, j, none⟩ = some (.int .u8 ((xs.getD j 0).toNat : Int)) ∧ w.frozen? ⟨g, j, none⟩ = false := by
  rcases h.2 with ⟨hv, _⟩ | ⟨g', cap', cur, hv, hg, hb, hn, hm, hs, ht⟩
  · cases hv
  · cases hv
    refine ⟨?_, Lib.frozen_of_heap hb j⟩
    rw [Lib.cell_of_heap hb, ← Array.getElem?_toList]
    have := congrArg (·[j]?) ht
    simp only [Nat.mul_one, List.getElem?_take, if_pos hj] at this
    rw [this]
    simp [Lib.byteCells, List.getElem?_eq_getElem hj, List.getD_eq_getElem?_getD]
theorem OwnB.below {B : Nat} {w w' : World} {v : Value} {xs : List UInt8} (h : OwnB B w v xs) (hb : Below w.heap.size w w') : OwnB B w' v xs :=
  h.kept (row := none) ⟨hb.os, hb.tape, hb.output, hb.size, fun k hk _ => hb.block k hk⟩ (by cases h : v.ownBlock with | none => exact Or.inl rfl | some x => exact Or.inr (by simp))
theorem OwnB.text {B g n cap : Nat} {w : World} {xs : List UInt8} (h : OwnB B w (.slice (some ⟨g, 0, none⟩) n cap) xs) (hn : xs.length = n) : (convert 57 9 (.slice (some ⟨g, 0, none⟩) n cap)).run Tryz.prog w = .ok (.string ⟨xs.toArray⟩) w := by
  subst hn
  refine run_convert_bytes_back (P := Tryz.prog) w 57 9 5 ⟨g, 0, none⟩ cap xs Tryz.underlying57 Tryz.underlying5 Tryz.underlying9 (fun j hj => ?_)
  rw [addr_add, Nat.zero_add, (h.cell hj).1]
  simp [List.getD_eq_getElem?_getD, List.getElem?_eq_getElem hj]
theorem madeByte (n : Nat) : (madeCells (Value.int .u8 0).cells (n * 1)).toList = Lib.byteCells (List.replicate n (0 : UInt8)) := by
  apply List.ext_getElem?
  intro i
  simp [madeCells, Lib.byteCells]
  by_cases h : i < n
  · simp [h, Nat.mod_one, Value.cells]
  · simp [h]
/-- The slice v holds the bytes l. -/
def BytesC (w : World) (v : Value) (l : List UInt8) : Prop := (l = [] ∧ ∃ a cap, v = .slice a 0 cap) ∨ (∃ g off cap, v = .slice (some ⟨g, off, none⟩) l.length cap ∧ g < w.heap.size ∧ ∀ j, j < l.length → w.cell? ⟨g, off + j, none⟩ = some (.int .u8 ((l.getD j 0).toNat : Int)))
theorem BytesC.len {w : World} {v : Value} {l : List UInt8} (h : BytesC w v l) : ∃ a cap, v = .slice a l.length cap := by
  rcases h with ⟨rfl, a, cap, hv⟩ | ⟨g, off, cap, hv, _⟩
  · exact ⟨a, cap, hv⟩
  · exact ⟨_, cap, hv⟩
theorem good_alpha {l : List UInt8} (ha : Alpha l) (hl : l.length ≤ 100) (hn : l ≠ []) (hz : ∀ z, l.getLast? = some z → z ≠ 46) : goodB ⟨l.toArray⟩ = true := by
  have hb : ∀ n : Nat, n < 65 → (alphaL.getD n 0).toNat ≠ 0 ∧ (alphaL.getD n 0).toNat ≠ 47 := by decide +kernel
  have hZ : hasZ ⟨l.toArray⟩ = false := hasZ_no (fun k hk => by
    have h1 := bt_list (b := ⟨l.toArray⟩) hk
    have hkl : k < l.length := by simpa using (show k < l.toArray.size from hk)
    have h2 : (⟨l.toArray⟩ : ByteArray).data.toList[k]? = some l[k] := by
      show l.toArray.toList[k]? = _
      rw [List.toList_toArray, List.getElem?_eq_getElem hkl]
    rw [h2] at h1
    rw [h1.2, ← Option.some.inj h1.1]
    obtain ⟨n, hn, he⟩ := alpha_at (ha _ (List.getElem_mem hkl))
    have := hb n hn
    rw [he] at this
    omega)
  rw [good_says, hZ]
  have hs : (⟨l.toArray⟩ : ByteArray).size = l.length := by show l.toArray.size = _; simp
  have hp : 0 < l.length := List.length_pos_iff.2 hn
  have ht : (⟨l.toArray⟩ : ByteArray).toList = l := by rw [ByteArray.toList_eq]
  rw [ht, hs, decide_eq_false (show ¬ l = [46] from fun e => hz 46 (by rw [e]; rfl) rfl), decide_eq_false (show ¬ l = [46, 46] from fun e => hz 46 (by rw [e]; rfl) rfl), decide_eq_true (by omega : 1 ≤ l.length), decide_eq_true (by omega : l.length ≤ 255)]
  rfl

end Go.Proofs.YtbbgnhbkjbobgaaGreatDoor

namespace Go.Proofs.YtbbgnhbkjbobgaaGreatDoor
open Go.RowKit Go.Sort
set_option linter.unusedVariables false

theorem pres_cafe : presL 1 [99, 97, 102, 233, 46] = [99, 97, 102, 195, 169, 37, 50, 101] := by decide +kernel
end Go.Proofs.YtbbgnhbkjbobgaaGreatDoor

namespace Go.Proofs.YtbbgnhbkjbobgaaGreatDoor
open Go.RowKit Go.Sort
set_option linter.unusedVariables false

theorem good_size {b : ByteArray} (h : goodB b = true) : b.size ≤ 255 := by
  rw [good_says] at h
  simp only [Bool.and_eq_true, decide_eq_true_iff] at h
  exact h.2.2
end Go.Proofs.YtbbgnhbkjbobgaaGreatDoor

namespace Go.Proofs.YtbbgnhbkjbobgaaGreatDoor
open Go.RowKit Go.Sort
set_option linter.unusedVariables false

theorem pres_same {E : Int} (h0 : 0 ≤ E) (a b : ByteArray) : ((⟨(presL E a.data.toList).toArray⟩ : ByteArray).toList == (⟨(presL E b.data.toList).toArray⟩ : ByteArray).toList) = (a.toList == b.toList) := by
  have h : ((⟨(presL E a.data.toList).toArray⟩ : ByteArray).toList = (⟨(presL E b.data.toList).toArray⟩ : ByteArray).toList) ↔ (a.toList = b.toList) := by
    rw [ByteArray.toList_eq, ByteArray.toList_eq, ByteArray.toList_eq, ByteArray.toList_eq]
    exact ⟨fun h => pres_inj h0 h, fun h => by rw [h]⟩
  by_cases e : a.toList = b.toList
  · rw [beq_iff_eq.2 e, beq_iff_eq]; exact h.2 e
  · rw [beq_eq_false_iff_ne.2 e, beq_eq_false_iff_ne]; exact fun h9 => e (h.1 h9)

end Go.Proofs.YtbbgnhbkjbobgaaGreatDoor

namespace Go.Proofs.YtbbgnhbkjbobgaaGreatDoor
open Go.RowKit Go.Sort
set_option linter.unusedVariables false

theorem readC_len {enc : Int} (h0 : 0 ≤ enc) : ∀ (n : Nat) (l : List Int) (x : List UInt8), l.length ≤ n → okD l = true → readC enc l [] = some x → x.length ≤ 12 * l.length := by
  intro n
  induction n with
  | zero =>
    intro l x hl hok hx
    have : l = [] := List.eq_nil_of_length_eq_zero (by omega)
    subst this
    rw [readC_nil, bytesC_nil] at hx
    cases hx; simp
  | succ n ih =>
    intro l x hl hok hx
    rcases first37 l with hno | ⟨k, hk, hno, h37⟩
    · exact bytesC_len h0 (read_last hno hx)
    · obtain ⟨a, b, t, y, z', hd, ha, hb, hot, hy, hz, rfl⟩ := read_esc hk hno h37 hok hx
      have h1 := bytesC_len h0 hy
      have hlen := congrArg List.length hd
      rw [List.length_drop] at hlen
      simp at hlen
      have h2 := ih t z' (by omega) hot hz
      rw [List.length_take] at h1
      simp
      omega
set_option maxHeartbeats 1000000 in
theorem uall_none (b : ByteArray) (ho : runesL b.data.toList = none) (hs : b.size ≤ 4000) (w : World) (hT : Tabs w) :
    Calls Tryz.prog 104 #[.string b] w fun e w' => (∃ v, e = .returned (.tuple #[v, .bool false])) ∧ Below w.heap.size w w' := by
  refine (uall_c b hs w hT).mono ?_
  rintro e w' ⟨v, he, _, hb⟩
  rw [ho] at he
  exact ⟨⟨v, he⟩, hb⟩
set_option maxHeartbeats 1000000 in
theorem read4_nr (enc : Int) (b : ByteArray) (ho : runesL b.data.toList = none) (hs : b.size ≤ 4000) (w : World) (hT : Tabs w) :
    Calls Tryz.prog 61 #[.int .i64 enc, .string b] w fun e w' => e = .returned (.tuple #[.string ⟨#[]⟩, .bool false]) ∧ Below w.heap.size w w' := by
  have cA := uall_none b ho hs w hT
  clear ho hs hT
  go_enter Tryz.func61, Tryz.ntmps61
  go_wp2_with fail
  refine cA.mono ?_
  rintro e w1 ⟨⟨v, rfl⟩, hb⟩
  have HB := Lib.hid hb
  clear cA hb
  go_wp2
  go_ret2
  exact ⟨rfl, HB.out⟩
set_option maxHeartbeats 1000000 in
theorem restore_fail (enc : Int) (b : ByteArray) (w : World) (cR : Calls Tryz.prog 61 #[.int .i64 enc, .string b] w fun e w' => e = .returned (.tuple #[.string ⟨#[]⟩, .bool false]) ∧ Below w.heap.size w w') :
    Calls Tryz.prog 36 #[.int .i64 enc, .string b] w fun e w' => e = .returned (.tuple #[.string ⟨#[]⟩, .int .i64 3]) ∧ Below w.heap.size w w' := by
  go_enter Tryz.func36, Tryz.ntmps36
  go_wp2_with fail
  refine cR.mono ?_
  rintro e w1 ⟨rfl, hb⟩
  have HB := Lib.hid hb
  clear cR hb
  go_wp2
  go_ret2
  exact ⟨rfl, HB.out⟩
set_option maxHeartbeats 1000000 in
theorem restore_bad (enc : Int) (h0 : 0 ≤ enc) (h8 : enc ≤ 8) (b : ByteArray) (x : List UInt8) (hr : Reads enc b x) (hg : goodB ⟨x.toArray⟩ = false) (w : World) (hT : Tabs w) :
    Calls Tryz.prog 36 #[.int .i64 enc, .string b] w fun e w' => e = .returned (.tuple #[.string ⟨#[]⟩, .int .i64 3]) ∧ Below w.heap.size w w' := by
  obtain ⟨rs, h1, h2, h3, h4, h5, h6⟩ := hr
  have cR := read4_c enc h0 h8 b rs h1 h2 h3 h4 x h5 h6 w hT
  have HG : Hid (∀ w1, Calls Tryz.prog 23 #[.string ⟨x.toArray⟩] w1 fun e w' => e = .returned (.bool false) ∧ Below w1.heap.size w1 w') := Lib.hid (fun w1 => by
    have := esGood_c ⟨x.toArray⟩ (by show x.toArray.size ≤ _; simp; omega) w1
    rw [hg] at this
    exact this)
  generalize (⟨x.toArray⟩ : ByteArray) = X at *
  clear hT h0 h8 h1 h2 h3 h4 h5 h6 hg
  go_enter Tryz.func36, Tryz.ntmps36
  go_wp2_with fail
  refine cR.mono ?_
  rintro e w1 ⟨rfl, hb1⟩
  have cG := HG.out w1
  go_wp2_with fail
  refine cG.mono ?_
  rintro e w2 ⟨rfl, hb2⟩
  have HB := Lib.hid (below_step hb1 hb2)
  clear hb1 hb2 cR cG
  go_wp2
  go_ret2
  exact ⟨rfl, HB.out⟩
/-- What Restore answers, whatever is asked. -/
def RestPost (N : Prop) (w : World) (e : Ending) (w' : World) : Prop := ∃ (s : ByteArray) (r : Int), e = .returned (.tuple #[.string s, .int .i64 r]) ∧ (N → r = 3) ∧ Below w.heap.size w w'
theorem restore_any (enc : Int) (h0 : 0 ≤ enc) (h8 : enc ≤ 8) (b : ByteArray) (hs : b.size ≤ 300) (N : Prop) (hN : N → ∀ rs, runesL b.data.toList = some rs → Bad enc rs) (w : World) (hT : Tabs w) :
    Calls Tryz.prog 36 #[.int .i64 enc, .string b] w (RestPost N w) := by
  have fails : ∀ {R : Ending → World → Prop}, Calls Tryz.prog 36 #[.int .i64 enc, .string b] w (fun e w' => e = .returned (.tuple #[.string ⟨#[]⟩, .int .i64 3]) ∧ Below w.heap.size w w') → Calls Tryz.prog 36 #[.int .i64 enc, .string b] w (RestPost N w) :=
    fun h => h.mono fun e w' ⟨h1, h2⟩ => ⟨_, 3, h1, fun _ => rfl, h2⟩
  cases hr : runesL b.data.toList with
  | none => exact fails (R := fun _ _ => True) (restore_fail enc b w (read4_nr enc b hr (by omega) w hT))
  | some rs =>
    have hbl : b.data.toList.length = b.size := rfl
    have hrl := runesL_len _ _ rs (Nat.le_refl _) hr
    have hrb : ∀ r ∈ rs, -2147483648 ≤ r ∧ r ≤ 2147483647 := fun r hm => by
      have := isR_is (runesL_chars _ _ rs (Nat.le_refl _) hr r hm)
      omega
    by_cases hbad : Bad enc rs
    · exact fails (R := fun _ _ => True) (restore_fail enc b w (read4_no enc h0 h8 b rs hr (by omega) (by omega) hbad hrb w hT))
    · have hok : okD rs = true := by
        cases h : okD rs with
        | true => rfl
        | false => exact absurd (Or.inl h) hbad
      cases hx : readC enc rs [] with
      | none => exact absurd (Or.inr hx) hbad
      | some x =>
        have hxl := readC_len h0 _ rs x (Nat.le_refl _) hok hx
        have hR : Reads enc b x := ⟨rs, hr, by omega, by omega, hok, hx, by omega⟩
        cases hg : goodB ⟨x.toArray⟩ with
        | false => exact fails (R := fun _ _ => True) (restore_bad enc h0 h8 b x hR hg w hT)
        | true =>
          have hx255 : x.length ≤ 255 := by
            have h1 := hg
            rw [good_says] at h1
            simp only [Bool.and_eq_true, decide_eq_true_iff] at h1
            have h2 : (⟨x.toArray⟩ : ByteArray).size = x.length := by show x.toArray.size = _; simp
            omega
          by_cases hp : presL enc x = b.data.toList
          · exact (restore_yes enc h0 h8 b x hR hg (by omega) hp w hT).mono fun e w' ⟨h1, h2⟩ => ⟨_, 0, h1, fun hn => absurd (hN hn rs hr) hbad, h2⟩
          · exact fails (R := fun _ _ => True) (restore_no enc h0 h8 b x hR (by omega) hp w hT)
end Go.Proofs.YtbbgnhbkjbobgaaGreatDoor

namespace Go.Proofs.YtbbgnhbkjbobgaaGreatDoor
open Go.RowKit Go.Sort
set_option linter.unusedVariables false

end Go.Proofs.YtbbgnhbkjbobgaaGreatDoor

namespace Go.Proofs.YtbbgnhbkjbobgaaGreatDoor
open Go.RowKit
set_option linter.unusedVariables false

/-- A digit of a short name's hash: small letters alone. -/
def rdV (c : UInt8) : Nat := if 48 ≤ c.toNat ∧ c.toNat ≤ 57 then c.toNat - 48 else if 97 ≤ c.toNat ∧ c.toNat ≤ 102 then c.toNat - 87 else 16
def rhexTo : Nat → List UInt8 → Option Nat
  | acc, [] => some acc
  | acc, c :: l => if rdV c < 16 then rhexTo (acc * 16 + rdV c) l else none
theorem rdV_dgB : ∀ u : Nat, u < 16 → rdV (dgB u) = u := by decide +kernel
theorem rhexTo_append : ∀ (a b : List UInt8) (acc : Nat), rhexTo acc (a ++ b) = (rhexTo acc a).bind fun v => rhexTo v b
  | [], b, acc => rfl
  | c :: a, b, acc => by
    rw [List.cons_append, rhexTo, rhexTo]
    split
    · exact rhexTo_append a b _
    · rfl
theorem rhexTo_pad : ∀ (n u acc : Nat), u < 16 ^ n → rhexTo acc (padN n u) = some (acc * 16 ^ n + u) := by
  intro n
  induction n with
  | zero => intro u acc hu; simp at hu; subst hu; simp [padN, rhexTo]
  | succ n ih =>
    intro u acc hu
    rw [Nat.pow_succ] at hu
    have hd : u / 16 < 16 ^ n := Nat.div_lt_of_lt_mul (by rw [Nat.mul_comm]; exact hu)
    have hm := rdV_dgB (u % 16) (Nat.mod_lt _ (by decide))
    rw [padN, rhexTo_append, ih (u / 16) acc hd, Option.bind_some, rhexTo, if_pos (by rw [hm]; exact Nat.mod_lt _ (by decide)), hm, rhexTo, Nat.pow_succ, Nat.add_mul, Nat.mul_assoc]
    congr 1
    omega
theorem rhexTo_step {l : List UInt8} {k acc : Nat} {c : UInt8} (hk : k < l.length) (hc : l[k] = c) (hd : rdV c < 16) : rhexTo acc (l.drop k) = rhexTo (acc * 16 + rdV c) (l.drop (k + 1)) := by
  rw [List.drop_eq_getElem_cons hk, hc, rhexTo, if_pos hd]
theorem rhexTo_bad {l : List UInt8} {k acc : Nat} {c : UInt8} (hk : k < l.length) (hc : l[k] = c) (hd : ¬ rdV c < 16) : rhexTo acc (l.drop k) = none := by
  rw [List.drop_eq_getElem_cons hk, hc, rhexTo, if_neg hd]
theorem IsName.rhex {l : List UInt8} {v : Nat} {n : Int} (h : IsName l v n) : rhexTo 0 ((l.drop 2).take 8) = some v := by
  rw [h.2.2.2, nameL_ok h.2.1 h.2.2.1]
  have : (([37, 126] ++ padN 8 v ++ [45] ++ Lib.decDigits n.toNat).drop 2).take 8 = padN 8 v := by
    simp only [List.append_assoc, List.cons_append, List.nil_append, List.drop_succ_cons, List.drop_zero]
    rw [List.take_append_of_le_length (by rw [padN_length]; omega), List.take_of_length_le (by rw [padN_length]; omega)]
  rw [this, rhexTo_pad 8 v 0 (by have := h.1; omega)]
  simp
theorem IsName.dec {l : List UInt8} {v : Nat} {n : Int} (h : IsName l v n) : Lib.decFrom 0 (l.drop 11) = some n.toNat := by
  rw [h.2.2.2, nameL_ok h.2.1 h.2.2.1]
  have : ([37, 126] ++ padN 8 v ++ [45] ++ Lib.decDigits n.toNat).drop 11 = Lib.decDigits n.toNat := by
    rw [List.drop_append_of_le_length (by simp [padN_length]), List.drop_of_length_le (by simp [padN_length])]
    rfl
  rw [this, decFrom_dec (n.toNat + 1) n.toNat (by omega)]
theorem decFrom_step {l : List UInt8} {k acc d : Nat} {c : UInt8} (hk : k < l.length) (hc : l[k] = c) (hd : Lib.digitVal c = some d) : Lib.decFrom acc (l.drop k) = Lib.decFrom (acc * 10 + d) (l.drop (k + 1)) := by
  rw [List.drop_eq_getElem_cons hk, hc, Lib.decFrom, hd]
theorem decFrom_bad {l : List UInt8} {k acc : Nat} {c : UInt8} (hk : k < l.length) (hc : l[k] = c) (hd : Lib.digitVal c = none) : Lib.decFrom acc (l.drop k) = none := by
  rw [List.drop_eq_getElem_cons hk, hc, Lib.decFrom, hd]
theorem pow16_le {k : Nat} (h : k ≤ 7) : 16 ^ k ≤ 268435456 := by
  have : ∀ k : Nat, k < 8 → 16 ^ k ≤ 268435456 := by decide +kernel
  exact this k (by omega)
theorem pow10_le {k : Nat} (h : k ≤ 6) : 10 ^ k ≤ 1000000 := by
  have : ∀ k : Nat, k < 7 → 10 ^ k ≤ 1000000 := by decide +kernel
  exact this k (by omega)

end Go.Proofs.YtbbgnhbkjbobgaaGreatDoor

namespace Go.Proofs.YtbbgnhbkjbobgaaGreatDoor
open Go.RowKit Go.Sort
set_option linter.unusedVariables false

theorem dgB_low : ∀ u : Nat, u < 16 → (dgB u).toNat < 128 := by decide +kernel
theorem padN_low : ∀ (n u : Nat), ∀ c ∈ padN n u, c.toNat < 128 := by
  intro n
  induction n with
  | zero => intro u c hc; cases hc
  | succ n ih =>
    intro u c hc
    rw [padN, List.mem_append] at hc
    rcases hc with hc | hc
    · exact ih _ c hc
    · rw [List.mem_singleton] at hc; subst hc; exact dgB_low _ (Nat.mod_lt _ (by decide))
theorem dec_low : ∀ (n u : Nat), u < n → ∀ c ∈ Lib.decDigits u, c.toNat < 128 := by
  intro n
  have hk : ∀ m : Nat, m < 10 → (UInt8.ofNat (48 + m)).toNat < 128 := by decide +kernel
  induction n with
  | zero => intro u h; omega
  | succ n ih =>
    intro u hu c hc
    by_cases hs : u < 10
    · rw [dec_small hs, List.mem_singleton] at hc; subst hc; exact hk u hs
    · rw [dec_big hs, List.mem_append] at hc
      rcases hc with hc | hc
      · exact ih (u / 10) (by omega) c hc
      · rw [List.mem_singleton] at hc; subst hc; exact hk _ (Nat.mod_lt _ (by decide))
theorem name_low {l : List UInt8} {v : Nat} {n : Int} (h : IsName l v n) : ∀ c ∈ l, c.toNat < 128 := by
  intro c hc
  rw [h.2.2.2, nameL_ok h.2.1 h.2.2.1] at hc
  simp only [List.mem_append, List.mem_cons, List.not_mem_nil, or_false] at hc
  rcases hc with (((rfl | rfl) | hc) | rfl) | hc
  · decide
  · decide
  · exact padN_low 8 v c hc
  · decide
  · exact dec_low (n.toNat + 1) n.toNat (by omega) c hc
theorem name_head {l : List UInt8} {v : Nat} {n : Int} (h : IsName l v n) : ∃ r, l = 37 :: 126 :: r := by
  rw [h.2.2.2, nameL_ok h.2.1 h.2.2.1]
  exact ⟨_, by simp only [List.append_assoc, List.cons_append, List.nil_append]; rfl⟩
theorem okD_tilde (r : List Int) : okD (37 :: 126 :: r) = false := by
  cases r with
  | nil => rw [okD.eq_3]; simp
  | cons b t =>
    have h : hexC 126 = false := by decide +kernel
    rw [okD.eq_4, if_pos rfl, h]
    simp
theorem name_bad {l : List UInt8} {v : Nat} {n : Int} (h : IsName l v n) (enc : Int) (rs : List Int) (hr : runesL l = some rs) : Bad enc rs := by
  left
  have h1 := runes_join (chars l)
  have hj : joinL (chars l) = l := join_bytes l (fun x hx => name_low h x hx)
  rw [hj, hr] at h1
  obtain ⟨r, hl⟩ := name_head h
  have h2 := Option.some.inj h1
  rw [hl] at h2
  have h3 : chars (37 :: 126 :: r) = 37 :: 126 :: chars r := rfl
  have i1 : isR 37 = true := by decide
  have i2 : isR 126 = true := by decide
  rw [h3, List.filter_cons, if_pos i1, List.filter_cons, if_pos i2] at h2
  rw [h2]
  exact okD_tilde _

end Go.Proofs.YtbbgnhbkjbobgaaGreatDoor

namespace Go.Proofs.YtbbgnhbkjbobgaaGreatDoor
open Go.RowKit Go.Sort
set_option linter.unusedVariables false

def longB (enc : Int) (l : List UInt8) : Bool := decide ((255 : Int) < ((⟨(presL enc l).toArray⟩ : ByteArray).size : Int))
set_option maxHeartbeats 1000000 in
theorem long_c (enc : Int) (h0 : 0 ≤ enc) (h8 : enc ≤ 8) (b : ByteArray) (hs : b.size ≤ 300) (w : World) (hT : Tabs w) :
    Calls Tryz.prog 29 #[.int .i64 enc, .string b] w fun e w' => e = .returned (.bool (longB enc b.data.toList)) ∧ Below w.heap.size w w' := by
  have c := present_c enc h0 h8 b hs w hT
  unfold longB
  generalize (⟨(presL enc b.data.toList).toArray⟩ : ByteArray) = P at *
  clear hT h0 h8 hs
  go_enter Tryz.func29, Tryz.ntmps29
  go_wp2_with fail
  refine c.mono ?_
  rintro e w1 ⟨rfl, hb⟩
  have HB := Lib.hid hb
  clear c hb
  go_wp2
  go_ret
  exact ⟨rfl, HB.out⟩
set_option maxHeartbeats 1000000 in
theorem rlong_c (enc : Int) (h0 : 0 ≤ enc) (h8 : enc ≤ 8) (b : ByteArray) (hs : b.size ≤ 300) (w : World) :
    Calls Tryz.prog 13 #[.int .i64 enc, .string b] w fun e w' => e = .returned (.bool (longB enc b.data.toList)) ∧ Below w.heap.size w w' := by
  have c := refPres_c enc h0 h8 b hs w
  unfold longB
  generalize (⟨(presL enc b.data.toList).toArray⟩ : ByteArray) = P at *
  clear h0 h8 hs
  go_enter Tryz.func13, Tryz.ntmps13
  go_wp2_with fail
  refine c.mono ?_
  rintro e w1 ⟨rfl, hb⟩
  have HB := Lib.hid hb
  clear c hb
  go_wp2
  go_ret
  exact ⟨rfl, HB.out⟩

end Go.Proofs.YtbbgnhbkjbobgaaGreatDoor
