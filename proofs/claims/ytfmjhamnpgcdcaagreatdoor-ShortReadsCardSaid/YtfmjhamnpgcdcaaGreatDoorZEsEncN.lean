/-
  The contract of escape's encode, where some character has no bytes.
-/
import Derived.Test.YtfmjhamnpgcdcaaGreatDoorKC
namespace Go.Proofs.YtfmjhamnpgcdcaaGreatDoor
open Go.RowKit Go.Sort
set_option linter.unusedVariables false

theorem full1_in {r x : Int} (h : x ∈ full1 r) : x = r ∨ (0 ≤ x ∧ x ≤ 55203) := by
  cases hs : splitI r with
  | none => rw [full1_none hs] at h; left; simpa using h
  | some p =>
    right
    obtain ⟨a, b⟩ := p
    have hc := splitI_cases hs
    simp only at hc
    cases h2 : splitI a with
    | none =>
      have e : full1 r = [a, b] := by unfold full1; rw [hs]; simp only; rw [h2]
      rw [e] at h
      simp at h
      rcases h with rfl | rfl <;> omega
    | some q =>
      obtain ⟨q1, q2⟩ := q
      have hc2 := splitI_cases h2
      simp only at hc2
      have e : full1 r = [q1, q2, b] := by unfold full1; rw [hs]; simp only; rw [h2]
      rw [e] at h
      simp at h
      rcases h with rfl | rfl | rfl <;> omega
theorem apart_in {l : List Int} {x : Int} (h : x ∈ apartI l) (hl : ∀ r ∈ l, -2147483648 ≤ r ∧ r ≤ 2147483647) : -2147483648 ≤ x ∧ x ≤ 2147483647 := by
  unfold apartI at h
  have h1 := (sortM_perm classI (fullL l)).mem_iff.1 h
  obtain ⟨r, hr, hx⟩ := List.mem_flatMap.1 h1
  rcases full1_in hx with e | e
  · rw [e]; exact hl r hr
  · omega
theorem bytesM_none {enc r : Int} {l : List Int} (h : bytesM enc (r :: l) = none) : encB enc r = none ∨ ∃ b, encB enc r = some b ∧ bytesM enc l = none := by
  unfold bytesM at h
  simp only [List.map_cons, List.foldr_cons] at h
  cases hb : encB enc r with
  | none => exact Or.inl rfl
  | some b =>
    right
    rw [hb] at h
    simp only [Option.bind_some, Option.map_eq_none_iff] at h
    exact ⟨b, rfl, h⟩
theorem enc_post_no {enc r : Int} (h0 : 0 ≤ enc) (h8 : enc ≤ 8) (hr : -2147483648 ≤ r ∧ r ≤ 2147483647) (h : encB enc r = none) (w : World) :
    Calls Tryz.prog 68 #[.int .i64 enc, .int .i32 r] w fun e w' => e = .returned (.tuple #[.string ⟨#[]⟩, .bool false]) ∧ Below w.heap.size w w' := by
  refine (encode_c enc r hr.1 hr.2 w).mono ?_
  intro e w' hp
  unfold encZ at hp
  rw [if_pos ⟨h0, h8⟩] at hp
  unfold encB at h
  rw [Option.map_eq_none_iff] at h
  rw [h] at hp
  exact hp
theorem enc_post_yes {enc r : Int} (h0 : 0 ≤ enc) (h8 : enc ≤ 8) {b : List UInt8} (h : encB enc r = some b) (w : World) :
    Calls Tryz.prog 68 #[.int .i64 enc, .int .i32 r] w fun e w' => e = .returned (.tuple #[.string ⟨b.toArray⟩, .bool true]) ∧ Below w.heap.size w w' := enc_post h0 h8 h w

def EncNRel (enc : Int) (L : List Int) (B : Nat) (w0 : World) (gk : Nat) (iv : Value) (wr : World) : Prop :=
  ∃ (i : Nat) (y : List UInt8), i + gk = L.length ∧ iv = .int .i64 i ∧ IsBld 60 [] B B (Lib.byteCells y) wr ∧ bytesM enc (L.drop i) = none ∧ y.length ≤ 4 * i ∧ Below B w0 wr
set_option maxHeartbeats 4000000 in
set_option maxRecDepth 100000 in
theorem encn_plain (enc : Int) (h0 : 0 ≤ enc) (h7 : enc ≤ 7) (l : List Int) (hx : bytesM enc l = none) (hrb : ∀ r ∈ l, -2147483648 ≤ r ∧ r ≤ 2147483647) (v : Value) (w : World) (hv : SliceIs w v l) (hs : l.length ≤ 1000) :
    Calls Tryz.prog 32 #[.int .i64 enc, v] w fun e w' => e = .returned (.tuple #[.string ⟨#[]⟩, .bool false]) ∧ Below w.heap.size w w' := by
  have HLL : Hid (l.length ≤ 3000) := Lib.hid (by omega)
  have he8 : (enc == 8) = false := by rw [beq_eq_false_iff_ne]; omega
  have H0 := Lib.hid h0
  have HRB := Lib.hid hrb
  obtain ⟨w1, hw1⟩ : ∃ w1, w1 = w := ⟨_, rfl⟩
  have HW1 : Hid (Below w.heap.size w w1) := Lib.hid (by rw [hw1]; exact Below.refl _ _)
  obtain ⟨v1, hvv⟩ : ∃ v1, v1 = v := ⟨_, rfl⟩
  have hv1 : SliceIs w1 v1 l := by rw [hw1, hvv]; exact hv
  rw [← hvv, ← hw1]
  rw [← hw1] at HW1
  clear hv hs hw1 hvv hrb
  have HV := Lib.hid hv1
  obtain ⟨a, cap, hva⟩ := hv1.len
  obtain ⟨L, hL⟩ : ∃ L, l = L := ⟨_, rfl⟩
  rw [hL] at HV hva hx HLL HRB
  obtain ⟨n, hn⟩ : ∃ n, L.length = n := ⟨_, rfl⟩
  rw [hn] at hva HLL
  have HN := Lib.hid hn
  have HX0 := Lib.hid hx
  have hn3 := HLL.out
  subst hva
  clear hv1 hx hL hn
  go_enter Tryz.func32, Tryz.ntmps32
  go_wp2_with fail
  go_loopg [17] n (fun gk iv wr => EncNRel enc L w1.heap.size w1 gk iv wr)
  case atStart => exact ⟨0, [], by rw [HN.out]; omega, rfl, bld_fresh w1, by rw [List.drop_zero]; exact HX0.out, by simp, (Below.refl _ _).alloc (Nat.le_refl _) _⟩
  case round =>
    obtain ⟨i, y, hig, rfl, hbld, hz, hyl, hbel⟩ := hrel
    rw [HN.out] at hig
    have HZ := Lib.hid hz
    have HBD := Lib.hid hbld
    have hbs := hbel.size
    clear hz hbld
    by_cases hlt : i < n
    · have hltz : (i : Int) < (n : Int) := by omega
      have hil : i < L.length := by rw [HN.out]; exact hlt
      obtain ⟨r, hr⟩ : ∃ r, L.getD i 0 = r := ⟨_, rfl⟩
      have hcell : ∃ g off, a = some ⟨g, off, none⟩ ∧ g < w1.heap.size ∧ w1.cell? ⟨g, off + i, none⟩ = some (.int .i32 r) := by
        rcases HV.out with ⟨h1, _⟩ | ⟨g, off, cap', hg, hv', hc⟩
        · rw [h1] at hil; exact absurd hil (by simp)
        · have := hc i hil
          rw [hr] at this
          refine ⟨g, off, ?_, hg, this⟩
          injection hv'
      obtain ⟨g, off, rfl, hg, c0⟩ := hcell
      have d0 : wr.cell? ⟨g, off + i, none⟩ = some (.int .i32 r) := by rw [hbel.cell (p := ⟨g, off + i, none⟩) hg]; exact c0
      have hst := HZ.out
      have hri : L[i] = r := by rw [← hr]; simp [List.getD_eq_getElem?_getD, List.getElem?_eq_getElem hil]
      have hrb : -2147483648 ≤ r ∧ r ≤ 2147483647 := HRB.out r (by rw [← hri]; exact List.getElem_mem hil)
      rw [List.drop_eq_getElem_cons hil, hri] at hst
      rcases bytesM_none hst with hb | ⟨b, hb, hz'⟩
      · have cE := enc_post_no H0.out (by first | decide | omega) hrb hb wr
        clear hst c0 hr hri hil hrb hb
        go_wp2_with fail
        refine cE.mono ?_
        rintro e w2 ⟨rfl, hb2⟩
        have HFB : Hid (Below w1.heap.size w1 w2) := Lib.hid (HW1.out.trans ((hbel.trans (hb2.mono hbs)).mono HW1.out.size))
        clear cE hb2 hbel
        go_wp2
        go_ret2
        exact ⟨rfl, HFB.out⟩
      · have hbl := (encB_some H0.out hb).1
        have cE := enc_post H0.out (by first | decide | omega) hb wr
        have HZ' := Lib.hid hz'
        have hBl : (⟨b.toArray⟩ : ByteArray).size ≤ 4 := by show b.toArray.size ≤ 4; simpa using hbl
        have hBL : Hid ((⟨b.toArray⟩ : ByteArray).data.toList = b) := Lib.hid rfl
        have HYB : Hid ((y ++ b).length ≤ 4 * (i + 1)) := Lib.hid (by rw [List.length_append]; omega)
        generalize (⟨b.toArray⟩ : ByteArray) = E at *
        clear hst hz' hb c0 hr hri hil hrb
        go_wp2_with fail
        refine cE.mono ?_
        rintro e w2 ⟨rfl, hb2⟩
        have cW := wstr_c hasBuilder w1.heap.size w1.heap.size _ E w2 (HBD.out.below hb2) (by rw [Lib.byteCells_length]; omega) (by have := hb2.size; omega)
        go_wp2_with fail
        refine cW.mono ?_
        rintro e w3 ⟨rfl, hb3, hbel3, _⟩
        have HB3 : Hid (IsBld 60 [] w1.heap.size w1.heap.size (Lib.byteCells (y ++ b)) w3) := Lib.hid (Or.inr (by
          rw [Lib.byteCells_append, ← hBL.out, ← Lib.strCells_eq]
          exact hb3))
        have HBE : Hid (Below w1.heap.size w1 w3) := Lib.hid ((hbel.trans (hb2.mono hbs)).trans hbel3)
        clear hb3 hbel3 cW cE hb2 hbel
        go_wp2
        go_roundg (n - (i + 1))
        case measure => omega
        case rel => exact ⟨i + 1, y ++ b, by rw [HN.out]; omega, by first | rfl | go_num, HB3.out, HZ'.out, HYB.out, HBE.out⟩
    · have h1 := HZ.out
      rw [List.drop_eq_nil_of_le (by rw [HN.out]; omega)] at h1
      cases h1

set_option maxHeartbeats 4000000 in
set_option maxRecDepth 100000 in
theorem encn_hfs (l : List Int) (hx : bytesM 8 (apartI l) = none) (hrb : ∀ r ∈ l, -2147483648 ≤ r ∧ r ≤ 2147483647) (v : Value) (w : World) (hv : SliceIs w v l) (hs : l.length ≤ 1000) :
    Calls Tryz.prog 32 #[.int .i64 8, v] w fun e w' => e = .returned (.tuple #[.string ⟨#[]⟩, .bool false]) ∧ Below w.heap.size w w' := by
  have HLL0 : Hid ((apartI l).length ≤ 3000) := Lib.hid (by have := apart_length l; omega)
  have HRB : Hid (∀ r ∈ apartI l, -2147483648 ≤ r ∧ r ≤ 2147483647) := Lib.hid (fun r h => apart_in h hrb)
  have cA := apart_c l v w hv hs (by have := marks_full l; omega)
  unfold ApartPost at cA
  have H0 : Hid ((0 : Int) ≤ 8) := Lib.hid (by decide)
  clear hrb
  go_enter Tryz.func32, Tryz.ntmps32
  go_wp2_with fail
  refine cA.mono ?_
  rintro e w1 ⟨v1, rfl, hv1, _, hbA⟩
  have HW1 := Lib.hid hbA
  have HLL := HLL0
  clear hv hs cA hbA HLL0
  have HV := Lib.hid hv1
  obtain ⟨a, cap, hva⟩ := hv1.len
  obtain ⟨L, hL⟩ : ∃ L, (apartI l) = L := ⟨_, rfl⟩
  rw [hL] at HV hva hx HLL HRB
  obtain ⟨n, hn⟩ : ∃ n, L.length = n := ⟨_, rfl⟩
  rw [hn] at hva HLL
  have HN := Lib.hid hn
  have HX0 := Lib.hid hx
  have hn3 := HLL.out
  subst hva
  clear hv1 hx hL hn
  go_wp2_with fail
  go_loopg [17] n (fun gk iv wr => EncNRel 8 L w1.heap.size w1 gk iv wr)
  case atStart => exact ⟨0, [], by rw [HN.out]; omega, rfl, bld_fresh w1, by rw [List.drop_zero]; exact HX0.out, by simp, (Below.refl _ _).alloc (Nat.le_refl _) _⟩
  case round =>
    obtain ⟨i, y, hig, rfl, hbld, hz, hyl, hbel⟩ := hrel
    rw [HN.out] at hig
    have HZ := Lib.hid hz
    have HBD := Lib.hid hbld
    have hbs := hbel.size
    clear hz hbld
    by_cases hlt : i < n
    · have hltz : (i : Int) < (n : Int) := by omega
      have hil : i < L.length := by rw [HN.out]; exact hlt
      obtain ⟨r, hr⟩ : ∃ r, L.getD i 0 = r := ⟨_, rfl⟩
      have hcell : ∃ g off, a = some ⟨g, off, none⟩ ∧ g < w1.heap.size ∧ w1.cell? ⟨g, off + i, none⟩ = some (.int .i32 r) := by
        rcases HV.out with ⟨h1, _⟩ | ⟨g, off, cap', hg, hv', hc⟩
        · rw [h1] at hil; exact absurd hil (by simp)
        · have := hc i hil
          rw [hr] at this
          refine ⟨g, off, ?_, hg, this⟩
          injection hv'
      obtain ⟨g, off, rfl, hg, c0⟩ := hcell
      have d0 : wr.cell? ⟨g, off + i, none⟩ = some (.int .i32 r) := by rw [hbel.cell (p := ⟨g, off + i, none⟩) hg]; exact c0
      have hst := HZ.out
      have hri : L[i] = r := by rw [← hr]; simp [List.getD_eq_getElem?_getD, List.getElem?_eq_getElem hil]
      have hrb : -2147483648 ≤ r ∧ r ≤ 2147483647 := HRB.out r (by rw [← hri]; exact List.getElem_mem hil)
      rw [List.drop_eq_getElem_cons hil, hri] at hst
      rcases bytesM_none hst with hb | ⟨b, hb, hz'⟩
      · have cE := enc_post_no H0.out (by first | decide | omega) hrb hb wr
        clear hst c0 hr hri hil hrb hb
        go_wp2_with fail
        refine cE.mono ?_
        rintro e w2 ⟨rfl, hb2⟩
        have HFB : Hid (Below w.heap.size w w2) := Lib.hid (HW1.out.trans ((hbel.trans (hb2.mono hbs)).mono HW1.out.size))
        clear cE hb2 hbel
        go_wp2
        go_ret2
        exact ⟨rfl, HFB.out⟩
      · have hbl := (encB_some H0.out hb).1
        have cE := enc_post H0.out (by first | decide | omega) hb wr
        have HZ' := Lib.hid hz'
        have hBl : (⟨b.toArray⟩ : ByteArray).size ≤ 4 := by show b.toArray.size ≤ 4; simpa using hbl
        have hBL : Hid ((⟨b.toArray⟩ : ByteArray).data.toList = b) := Lib.hid rfl
        have HYB : Hid ((y ++ b).length ≤ 4 * (i + 1)) := Lib.hid (by rw [List.length_append]; omega)
        generalize (⟨b.toArray⟩ : ByteArray) = E at *
        clear hst hz' hb c0 hr hri hil hrb
        go_wp2_with fail
        refine cE.mono ?_
        rintro e w2 ⟨rfl, hb2⟩
        have cW := wstr_c hasBuilder w1.heap.size w1.heap.size _ E w2 (HBD.out.below hb2) (by rw [Lib.byteCells_length]; omega) (by have := hb2.size; omega)
        go_wp2_with fail
        refine cW.mono ?_
        rintro e w3 ⟨rfl, hb3, hbel3, _⟩
        have HB3 : Hid (IsBld 60 [] w1.heap.size w1.heap.size (Lib.byteCells (y ++ b)) w3) := Lib.hid (Or.inr (by
          rw [Lib.byteCells_append, ← hBL.out, ← Lib.strCells_eq]
          exact hb3))
        have HBE : Hid (Below w1.heap.size w1 w3) := Lib.hid ((hbel.trans (hb2.mono hbs)).trans hbel3)
        clear hb3 hbel3 cW cE hb2 hbel
        go_wp2
        go_roundg (n - (i + 1))
        case measure => omega
        case rel => exact ⟨i + 1, y ++ b, by rw [HN.out]; omega, by first | rfl | go_num, HB3.out, HZ'.out, HYB.out, HBE.out⟩
    · have h1 := HZ.out
      rw [List.drop_eq_nil_of_le (by rw [HN.out]; omega)] at h1
      cases h1

theorem encn_c (enc : Int) (h0 : 0 ≤ enc) (h8 : enc ≤ 8) (l : List Int) (hx : bytesC enc l = none) (hrb : ∀ r ∈ l, -2147483648 ≤ r ∧ r ≤ 2147483647) (v : Value) (w : World) (hv : SliceIs w v l) (hs : l.length ≤ 1000) :
    Calls Tryz.prog 32 #[.int .i64 enc, v] w fun e w' => e = .returned (.tuple #[.string ⟨#[]⟩, .bool false]) ∧ Below w.heap.size w w' := by
  rw [bytesC_M] at hx
  by_cases h7 : enc ≤ 7
  · rw [if_neg (by omega)] at hx
    exact encn_plain enc h0 h7 l hx hrb v w hv hs
  · have e : enc = 8 := by omega
    subst e
    exact encn_hfs l hx hrb v w hv hs
end Go.Proofs.YtfmjhamnpgcdcaaGreatDoor
