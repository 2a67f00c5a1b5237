/-
  What Restore answers, plainly; the contract of the project's Restore at any text of up to 300 bytes; the fourth reference's value and bytes.
-/
import Derived.Test.YtbbgnhbkjbobgaaGreatDoorL4
import Derived.Test.YtbbgnhbkjbobgaaGreatDoorL7
import Derived.Test.YtbbgnhbkjbobgaaGreatDoorK7
import Derived.Test.YtbbgnhbkjbobgaaGreatDoorKB
namespace Go.Proofs.YtbbgnhbkjbobgaaGreatDoor
open Go.RowKit Go.Sort
set_option linter.unusedVariables false

/-- What is read back of characters. -/
def rdI (enc : Int) (rs : List Int) : Option (List UInt8) := if okD rs = true then readC enc rs [] else none
/-- The good bytes that are presented so. -/
def restI (enc : Int) (n : List UInt8) : Option (List UInt8) := (runesL n).bind fun rs => (rdI enc rs).bind fun x => if goodB ⟨x.toArray⟩ = true ∧ presL enc x = n then some x else none
def restV (o : Option (List UInt8)) : Value := match o with
  | some x => .tuple #[.string ⟨x.toArray⟩, .int .i64 0]
  | none => .tuple #[.string ⟨#[]⟩, .int .i64 3]
theorem restI_good {enc : Int} {n x : List UInt8} (h : restI enc n = some x) : goodB ⟨x.toArray⟩ = true ∧ presL enc x = n := by
  unfold restI at h
  obtain ⟨rs, _, h⟩ := Option.bind_eq_some_iff.1 h
  obtain ⟨y, _, h⟩ := Option.bind_eq_some_iff.1 h
  split at h
  · rename_i hc
    obtain rfl := Option.some.inj h
    exact hc
  · cases h
theorem good_len {x : List UInt8} (h : goodB ⟨x.toArray⟩ = true) : x.length ≤ 255 := by
  rw [good_says] at h
  simp only [Bool.and_eq_true, decide_eq_true_iff] at h
  have h2 : (⟨x.toArray⟩ : ByteArray).size = x.length := by show x.toArray.size = _; simp
  omega
theorem restore_all (enc : Int) (h0 : 0 ≤ enc) (h8 : enc ≤ 8) (b : ByteArray) (hs : b.size ≤ 300) (w : World) (hT : Tabs w) :
    Calls Tryz.prog 36 #[.int .i64 enc, .string b] w fun e w' => e = .returned (restV (restI enc b.data.toList)) ∧ Below w.heap.size w w' := by
  cases hr : runesL b.data.toList with
  | none =>
    have hE : restI enc b.data.toList = none := by unfold restI; rw [hr]; rfl
    rw [hE]
    exact restore_fail enc b w (read4_nr enc b hr (by omega) w hT)
  | some rs =>
    have hbl : b.data.toList.length = b.size := rfl
    have hrl := runesL_len _ _ rs (Nat.le_refl _) hr
    have hrb : ∀ r ∈ rs, -2147483648 ≤ r ∧ r ≤ 2147483647 := fun r hm => by
      have := isR_is (runesL_chars _ _ rs (Nat.le_refl _) hr r hm)
      omega
    by_cases hbad : Bad enc rs
    · have hE : restI enc b.data.toList = none := by
        have hn : rdI enc rs = none := by
          unfold rdI
          rcases hbad with h | h
          · rw [if_neg (by rw [h]; decide)]
          · split
            · exact h
            · rfl
        unfold restI
        rw [hr, Option.bind_some, hn]
        rfl
      rw [hE]
      exact restore_fail enc b w (read4_no enc h0 h8 b rs hr (by omega) (by omega) hbad hrb w hT)
    · have hok : okD rs = true := by
        cases h : okD rs with
        | true => rfl
        | false => exact absurd (Or.inl h) hbad
      cases hx : readC enc rs [] with
      | none => exact absurd (Or.inr hx) hbad
      | some x =>
        have hxl := readC_len h0 _ rs x (Nat.le_refl _) hok hx
        have hR : Reads enc b x := ⟨rs, hr, by omega, by omega, hok, hx, by omega⟩
        have hE : restI enc b.data.toList = if goodB ⟨x.toArray⟩ = true ∧ presL enc x = b.data.toList then some x else none := by
          unfold restI rdI
          rw [hr, Option.bind_some, if_pos hok, hx, Option.bind_some]
        cases hg : goodB ⟨x.toArray⟩ with
        | false =>
          rw [hE, if_neg (by rw [hg]; simp)]
          exact restore_bad enc h0 h8 b x hR hg w hT
        | true =>
          have hx255 := good_len hg
          by_cases hp : presL enc x = b.data.toList
          · rw [hE, if_pos ⟨hg, hp⟩]
            exact restore_yes enc h0 h8 b x hR hg (by omega) hp w hT
          · rw [hE, if_neg (fun h => hp h.2)]
            exact restore_no enc h0 h8 b x hR (by omega) hp w hT

def valI (n : Nat) : Int := if hexC (n : Int) = true then (digitOf (n : Int) : Int) else -1
theorem valI_eq : ∀ n : Nat, n < 256 → valI n = if 48 ≤ n ∧ n ≤ 57 then (n : Int) - 48 else if 97 ≤ n ∧ n ≤ 102 then (n : Int) - 87 else -1 := by decide +kernel
theorem val_c (n : Nat) (hn : n < 256) (w : World) : Calls Tryz.prog 63 #[.int .u8 (n : Int)] w fun e w' => e = .returned (.int .i64 (valI n)) ∧ w' = w := by
  rw [valI_eq n hn]
  by_cases h1 : 48 ≤ n
  · have g1 : (48 : Int) ≤ (n : Int) := by omega
    by_cases h2 : n ≤ 57
    · have g2 : (n : Int) ≤ 57 := by omega
      have e1 : IntKind.u8.wrap ((n : Int) - 48) = (n : Int) - 48 := by rw [IntKind.wrap_u8]; omega
      have e2 : IntKind.i64.wrap ((n : Int) - 48) = (n : Int) - 48 := by rw [IntKind.wrap_i64]; omega
      rw [if_pos ⟨h1, h2⟩]
      go_enter Tryz.func63, Tryz.ntmps63
      go_wp2
      go_ret
      exact ⟨rfl, rfl⟩
    · have g2 : ¬ (n : Int) ≤ 57 := by omega
      rw [if_neg (fun h => h2 h.2)]
      by_cases h3 : 97 ≤ n
      · have g3 : (97 : Int) ≤ (n : Int) := by omega
        by_cases h4 : n ≤ 102
        · have g4 : (n : Int) ≤ 102 := by omega
          have e1 : IntKind.u8.wrap ((n : Int) - 97) = (n : Int) - 97 := by rw [IntKind.wrap_u8]; omega
          have e2 : IntKind.i64.wrap ((n : Int) - 97) = (n : Int) - 97 := by rw [IntKind.wrap_i64]; omega
          have e3 : IntKind.i64.wrap ((n : Int) - 97 + 10) = (n : Int) - 87 := by rw [IntKind.wrap_i64]; omega
          rw [if_pos ⟨h3, h4⟩]
          go_enter Tryz.func63, Tryz.ntmps63
          go_wp2
          go_ret
          exact ⟨rfl, rfl⟩
        · have g4 : ¬ (n : Int) ≤ 102 := by omega
          rw [if_neg (fun h => h4 h.2)]
          go_enter Tryz.func63, Tryz.ntmps63
          go_wp2
          go_ret
          exact ⟨rfl, rfl⟩
      · have g3 : ¬ (97 : Int) ≤ (n : Int) := by omega
        rw [if_neg (fun h => h3 h.1)]
        go_enter Tryz.func63, Tryz.ntmps63
        go_wp2
        go_ret
        exact ⟨rfl, rfl⟩
  · have g1 : ¬ (48 : Int) ≤ (n : Int) := by omega
    have g3 : ¬ (97 : Int) ≤ (n : Int) := by omega
    rw [if_neg (fun h => h1 h.1), if_neg (fun h => h1 (by omega))]
    go_enter Tryz.func63, Tryz.ntmps63
    go_wp2
    go_ret
    exact ⟨rfl, rfl⟩

def bytV (o : Option (List UInt8)) : Value := match o with
  | some x => .tuple #[.string ⟨x.toArray⟩, .bool true]
  | none => .tuple #[.string ⟨#[]⟩, .bool false]
theorem renc_no {enc r : Int} (h0 : 0 ≤ enc) (hr : -2147483648 ≤ r ∧ r ≤ 2147483647) (h : encB enc r = none) (w : World) :
    Calls Tryz.prog 109 #[.int .i64 enc, .int .i64 r] w fun e w' => e = .returned (.tuple #[.string ⟨#[]⟩, .bool false]) ∧ Below w.heap.size w w' := by
  refine (enc_c enc r h0 hr.1 hr.2 w).mono ?_
  intro e w' hp
  unfold encB at h
  rw [Option.map_eq_none_iff] at h
  rw [h] at hp
  exact hp
theorem renc_yes {enc r : Int} (h0 : 0 ≤ enc) (hr : -2147483648 ≤ r ∧ r ≤ 2147483647) {b : List UInt8} (h : encB enc r = some b) (w : World) :
    Calls Tryz.prog 109 #[.int .i64 enc, .int .i64 r] w fun e w' => e = .returned (.tuple #[.string ⟨b.toArray⟩, .bool true]) ∧ Below w.heap.size w w' := by
  refine (enc_c enc r h0 hr.1 hr.2 w).mono ?_
  intro e w' hp
  unfold encB at h
  obtain ⟨zs, hz, rfl⟩ := Option.map_eq_some_iff.1 h
  rw [hz] at hp
  exact hp
theorem bytesM_step (enc r : Int) (l : List Int) : bytesM enc (r :: l) = (encB enc r).bind fun x => (bytesM enc l).map (x ++ ·) := rfl
theorem bs_two (a b : List UInt8) : (⟨a.toArray⟩ : ByteArray) ++ ⟨b.toArray⟩ = ⟨(a ++ b).toArray⟩ := by
  apply ByteArray.ext
  simp
/-- What has come up: what is left of the list gives the rest. -/
def BytRel (enc : Int) (L : List Int) (X : Option (List UInt8)) (w0 : World) (gk : Nat) (sv iv : Value) (wr : World) : Prop :=
  ∃ (i : Nat) (y : List UInt8), i + gk = L.length ∧ sv = .string ⟨y.toArray⟩ ∧ iv = .int .i64 (i : Nat) ∧ X = (bytesM enc (L.drop i)).map (y ++ ·) ∧ y.length ≤ 4 * i ∧ Below w0.heap.size w0 wr
set_option maxHeartbeats 4000000 in
set_option maxRecDepth 100000 in
theorem rbytes_c (enc : Int) (h0 : 0 ≤ enc) (h8 : enc ≤ 8) (l : List Int) (hf : ∀ r ∈ l, -2147483648 ≤ r ∧ r ≤ 2147483647) (v : Value) (w : World) (hv : SliceOk w v l) (hs : l.length ≤ 300) :
    Calls Tryz.prog 64 #[.int .i64 enc, v] w fun e w' => e = .returned (bytV (bytesC enc l)) ∧ Below w.heap.size w w' := by
  obtain ⟨X, hX⟩ : ∃ X, bytesC enc l = X := ⟨_, rfl⟩
  rw [hX]
  have H0 := Lib.hid h0
  by_cases he : enc = 8
  · have he8 : (enc == 8) = true := by rw [beq_iff_eq]; exact he
    rw [bytesC_M, if_pos he] at hX
    have cA := refApart_c l v w hv hs hf
    unfold ApartPost at cA
    have hfl : ∀ r ∈ apartI l, -2147483648 ≤ r ∧ r ≤ 2147483647 := fun r hr => apart_in hr hf
    have hln : (apartI l).length ≤ 900 := by have := apart_length l; omega
    obtain ⟨a, cap, rfl⟩ := hv.1.len
    generalize apartI l = L at *
    obtain ⟨n, hn⟩ : ∃ n, L.length = n := ⟨_, rfl⟩
    have HN := Lib.hid hn
    have HF := Lib.hid hfl
    have HX := Lib.hid hX
    rw [hn] at hln
    obtain ⟨ll, hll⟩ : ∃ ll, l.length = ll := ⟨_, rfl⟩
    rw [hll] at cA ⊢
    clear hv hs hf hfl hX hn hll h0 h8 he
    go_enter Tryz.func64, Tryz.ntmps64
    go_wp2_with fail
    refine cA.mono ?_
    rintro e w1 ⟨v1, rfl, hv1, _, hb1⟩
    have HB1 := Lib.hid hb1
    obtain ⟨a1, cap1, rfl⟩ := hv1.len
    have HV := Lib.hid hv1
    rw [HN.out] at HV ⊢
    clear cA hv1 hb1
    go_wp2
    go_loopg [6, 7] n (fun gk sv iv wr => BytRel enc L X w1 gk sv iv wr)
    case atStart => exact ⟨0, [], by rw [HN.out]; omega, rfl, rfl, by rw [← HX.out, List.drop_zero]; simp, by simp, Below.refl _ _⟩
    case round =>
      obtain ⟨i, y, hig, rfl, rfl, hX, hyl, hbel⟩ := hrel
      rw [HN.out] at hig
      have HXX := Lib.hid hX
      have HBL := Lib.hid hbel
      clear hX
      by_cases hlt : i < n
      · have hltz : (i : Int) < (n : Int) := by omega
        have hil : i < L.length := by rw [HN.out]; exact hlt
        obtain ⟨r, hr⟩ : ∃ r, L.getD i 0 = r := ⟨_, rfl⟩
        have hcell : ∃ g off, a1 = some ⟨g, off, none⟩ ∧ g < w1.heap.size ∧ w1.cell? ⟨g, off + i, none⟩ = some (.int .i32 r) := by
          rcases HV.out with ⟨h1, _⟩ | ⟨g, off, cap', hg, hv', hc⟩
          · rw [h1] at hil; exact absurd hil (by simp)
          · have := hc i hil
            rw [hr] at this
            refine ⟨g, off, ?_, hg, this⟩
            injection hv'
        obtain ⟨g, off, rfl, hg, c0⟩ := hcell
        have d0 : wr.cell? ⟨g, off + i, none⟩ = some (.int .i32 r) := by rw [hbel.cell (p := ⟨g, off + i, none⟩) hg]; exact c0
        have hri : L[i] = r := by rw [← hr]; simp [List.getD_eq_getElem?_getD, List.getElem?_eq_getElem hil]
        have hrb := HF.out r (by rw [← hri]; exact List.getElem_mem hil)
        have hwr : IntKind.i64.wrap r = r := by rw [IntKind.wrap_i64]; omega
        have hst : bytesM enc (L.drop i) = (encB enc r).bind fun x => (bytesM enc (L.drop (i + 1))).map (x ++ ·) := by
          rw [List.drop_eq_getElem_cons hil, hri]; rfl
        have HST := Lib.hid hst
        clear hst c0 hr hri hil hbel
        cases hb : encB enc r with
        | none =>
          have cE := renc_no H0.out hrb hb wr
          have HE : Hid (X = none) := Lib.hid (by rw [HXX.out, HST.out, hb]; rfl)
          clear hb
          go_wp2_with fail
          refine cE.mono ?_
          rintro e w2 ⟨rfl, hb2⟩
          have HB2 := Lib.hid (HBL.out.trans (hb2.mono HBL.out.size))
          clear cE hb2
          go_wp2
          go_ret2
          exact ⟨by rw [HE.out]; rfl, HB1.out.trans (HB2.out.mono HB1.out.size)⟩
        | some b =>
          have cE := renc_yes H0.out hrb hb wr
          have hbl := (encB_some H0.out hb).1
          have HE : Hid (X = (bytesM enc (L.drop (i + 1))).map ((y ++ b) ++ ·)) := Lib.hid (by
            rw [HXX.out, HST.out, hb, Option.bind_some, Option.map_map]
            congr 1
            funext z
            simp)
          have hsz : ¬ (9223372036854775807 < (⟨y.toArray⟩ : ByteArray).size + (⟨b.toArray⟩ : ByteArray).size) := by
            show ¬ (9223372036854775807 < y.toArray.size + b.toArray.size)
            simp
            omega
          have hap := bs_two y b
          have HYB : Hid ((y ++ b).length ≤ 4 * (i + 1)) := Lib.hid (by rw [List.length_append]; omega)
          have HAP := Lib.hid hap
          clear hb hap hyl hbl
          obtain ⟨Y, hY⟩ : ∃ Y : ByteArray, (⟨y.toArray⟩ : ByteArray) = Y := ⟨_, rfl⟩
          obtain ⟨B, hB⟩ : ∃ B : ByteArray, (⟨b.toArray⟩ : ByteArray) = B := ⟨_, rfl⟩
          rw [hY] at hsz HAP ⊢
          rw [hB] at hsz HAP cE
          clear hY hB
          go_wp2_with fail
          refine cE.mono ?_
          rintro e w2 ⟨rfl, hb2⟩
          have HB2 := Lib.hid (HBL.out.trans (hb2.mono HBL.out.size))
          clear cE hb2
          go_wp2
          go_roundg (n - (i + 1))
          case measure => omega
          case rel => exact ⟨i + 1, y ++ b, by rw [HN.out]; omega, by rw [HAP.out], by first | rfl | go_num, HE.out, HYB.out, HB2.out⟩
      · have hge : ¬ ((i : Int) < (n : Int)) := by omega
        have HE : Hid (X = some y) := Lib.hid (by
          rw [HXX.out, List.drop_eq_nil_of_le (by rw [HN.out]; omega)]
          show some (y ++ []) = some y
          rw [List.append_nil])
        clear hlt hig hbel
        go_wp2
        go_ret2
        exact ⟨by rw [HE.out]; rfl, HB1.out.trans (HBL.out.mono HB1.out.size)⟩
  · have he8 : (enc == 8) = false := by rw [beq_eq_false_iff_ne]; exact he
    rw [bytesC_M, if_neg he] at hX
    obtain ⟨a1, cap, rfl⟩ := hv.1.len
    obtain ⟨L, rfl⟩ : ∃ L, L = l := ⟨_, rfl⟩
    obtain ⟨w1, rfl⟩ : ∃ w1, w1 = w := ⟨_, rfl⟩
    have HB1 : Hid (Below w1.heap.size w1 w1) := Lib.hid (Below.refl _ _)
    obtain ⟨n, hn⟩ : ∃ n, L.length = n := ⟨_, rfl⟩
    have HN := Lib.hid hn
    have HF := Lib.hid hf
    have HX := Lib.hid hX
    have HV := Lib.hid hv.1
    rw [hn] at hs HV ⊢
    have hln : n ≤ 900 := by omega
    clear hv hf hX hn h0 h8 he hs
    go_enter Tryz.func64, Tryz.ntmps64
    go_wp2
    go_loopg [6, 7] n (fun gk sv iv wr => BytRel enc L X w1 gk sv iv wr)
    case atStart => exact ⟨0, [], by rw [HN.out]; omega, rfl, rfl, by rw [← HX.out, List.drop_zero]; simp, by simp, Below.refl _ _⟩
    case round =>
      obtain ⟨i, y, hig, rfl, rfl, hX, hyl, hbel⟩ := hrel
      rw [HN.out] at hig
      have HXX := Lib.hid hX
      have HBL := Lib.hid hbel
      clear hX
      by_cases hlt : i < n
      · have hltz : (i : Int) < (n : Int) := by omega
        have hil : i < L.length := by rw [HN.out]; exact hlt
        obtain ⟨r, hr⟩ : ∃ r, L.getD i 0 = r := ⟨_, rfl⟩
        have hcell : ∃ g off, a1 = some ⟨g, off, none⟩ ∧ g < w1.heap.size ∧ w1.cell? ⟨g, off + i, none⟩ = some (.int .i32 r) := by
          rcases HV.out with ⟨h1, _⟩ | ⟨g, off, cap', hg, hv', hc⟩
          · rw [h1] at hil; exact absurd hil (by simp)
          · have := hc i hil
            rw [hr] at this
            refine ⟨g, off, ?_, hg, this⟩
            injection hv'
        obtain ⟨g, off, rfl, hg, c0⟩ := hcell
        have d0 : wr.cell? ⟨g, off + i, none⟩ = some (.int .i32 r) := by rw [hbel.cell (p := ⟨g, off + i, none⟩) hg]; exact c0
        have hri : L[i] = r := by rw [← hr]; simp [List.getD_eq_getElem?_getD, List.getElem?_eq_getElem hil]
        have hrb := HF.out r (by rw [← hri]; exact List.getElem_mem hil)
        have hwr : IntKind.i64.wrap r = r := by rw [IntKind.wrap_i64]; omega
        have hst : bytesM enc (L.drop i) = (encB enc r).bind fun x => (bytesM enc (L.drop (i + 1))).map (x ++ ·) := by
          rw [List.drop_eq_getElem_cons hil, hri]; rfl
        have HST := Lib.hid hst
        clear hst c0 hr hri hil hbel
        cases hb : encB enc r with
        | none =>
          have cE := renc_no H0.out hrb hb wr
          have HE : Hid (X = none) := Lib.hid (by rw [HXX.out, HST.out, hb]; rfl)
          clear hb
          go_wp2_with fail
          refine cE.mono ?_
          rintro e w2 ⟨rfl, hb2⟩
          have HB2 := Lib.hid (HBL.out.trans (hb2.mono HBL.out.size))
          clear cE hb2
          go_wp2
          go_ret2
          exact ⟨by rw [HE.out]; rfl, HB1.out.trans (HB2.out.mono HB1.out.size)⟩
        | some b =>
          have cE := renc_yes H0.out hrb hb wr
          have hbl := (encB_some H0.out hb).1
          have HE : Hid (X = (bytesM enc (L.drop (i + 1))).map ((y ++ b) ++ ·)) := Lib.hid (by
            rw [HXX.out, HST.out, hb, Option.bind_some, Option.map_map]
            congr 1
            funext z
            simp)
          have hsz : ¬ (9223372036854775807 < (⟨y.toArray⟩ : ByteArray).size + (⟨b.toArray⟩ : ByteArray).size) := by
            show ¬ (9223372036854775807 < y.toArray.size + b.toArray.size)
            simp
            omega
          have hap := bs_two y b
          have HYB : Hid ((y ++ b).length ≤ 4 * (i + 1)) := Lib.hid (by rw [List.length_append]; omega)
          have HAP := Lib.hid hap
          clear hb hap hyl hbl
          obtain ⟨Y, hY⟩ : ∃ Y : ByteArray, (⟨y.toArray⟩ : ByteArray) = Y := ⟨_, rfl⟩
          obtain ⟨B, hB⟩ : ∃ B : ByteArray, (⟨b.toArray⟩ : ByteArray) = B := ⟨_, rfl⟩
          rw [hY] at hsz HAP ⊢
          rw [hB] at hsz HAP cE
          clear hY hB
          go_wp2_with fail
          refine cE.mono ?_
          rintro e w2 ⟨rfl, hb2⟩
          have HB2 := Lib.hid (HBL.out.trans (hb2.mono HBL.out.size))
          clear cE hb2
          go_wp2
          go_roundg (n - (i + 1))
          case measure => omega
          case rel => exact ⟨i + 1, y ++ b, by rw [HN.out]; omega, by rw [HAP.out], by first | rfl | go_num, HE.out, HYB.out, HB2.out⟩
      · have hge : ¬ ((i : Int) < (n : Int)) := by omega
        have HE : Hid (X = some y) := Lib.hid (by
          rw [HXX.out, List.drop_eq_nil_of_le (by rw [HN.out]; omega)]
          show some (y ++ []) = some y
          rw [List.append_nil])
        clear hlt hig hbel
        go_wp2
        go_ret2
        exact ⟨by rw [HE.out]; rfl, HB1.out.trans (HBL.out.mono HB1.out.size)⟩
end Go.Proofs.YtbbgnhbkjbobgaaGreatDoor
