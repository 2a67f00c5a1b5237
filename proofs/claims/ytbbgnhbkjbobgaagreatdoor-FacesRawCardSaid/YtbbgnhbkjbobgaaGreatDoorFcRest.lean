/-
  The contract of the fourth reference's Restore: the good bytes that are presented so, or ErrName.
-/
import Derived.Test.YtbbgnhbkjbobgaaGreatDoorFcRestM
import Derived.Test.YtbbgnhbkjbobgaaGreatDoorFcEnt
import Derived.Test.YtbbgnhbkjbobgaaGreatDoorKB
import Derived.Deep.LoopGhost
import Derived.Deep.CutRange
import Derived.Deep.RegionHeld3
namespace Go.Proofs.YtbbgnhbkjbobgaaGreatDoor
open Go.RowKit Go.Sort
set_option linter.unusedVariables false

/-- What is left to be read, with the characters since the last escape. -/
def rdL (enc : Int) (l op : List Int) : Option (List UInt8) := if okD l = true then readC enc l op else none
theorem rdI_L (enc : Int) (l : List Int) : rdI enc l = rdL enc l [] := rfl
theorem rdL_nil (enc : Int) (op : List Int) : rdL enc [] op = bytesC enc op := by
  unfold rdL
  rw [if_pos (by rw [okD.eq_1]), readC_nil]
theorem rdL_char {enc c : Int} (h : c ≠ 37) (t op : List Int) : rdL enc (c :: t) op = rdL enc t (op ++ [c]) := by
  unfold rdL
  rw [okD_char h, readC_char h]
theorem rdL_esc {enc a b : Int} (ha : hexC a = true) (hb : hexC b = true) (t op : List Int) : rdL enc (37 :: a :: b :: t) op = (bytesC enc op).bind fun x => (rdL enc t []).map fun y => x ++ UInt8.ofNat (16 * digitOf a + digitOf b) :: y := by
  unfold rdL
  rw [okD_esc ha hb, readC_37]
  split
  · rfl
  · cases bytesC enc op <;> rfl
theorem rdL_short {enc : Int} {l : List Int} (h0 : l.getD 0 0 = 37) (hne : l ≠ []) (h : l.length < 3) (op : List Int) : rdL enc l op = none := by
  unfold rdL
  have : okD l = false := by
    match l, hne, h with
    | [c], _, _ =>
      have : c = 37 := h0
      subst this
      rw [okD.eq_2]; rfl
    | [c, a], _, _ =>
      have : c = 37 := h0
      subst this
      rw [okD.eq_3]; rfl
  rw [if_neg (by rw [this]; decide)]
theorem rdL_bad {enc a b : Int} (h : hexC a = false ∨ hexC b = false) (t op : List Int) : rdL enc (37 :: a :: b :: t) op = none := by
  unfold rdL
  have : okD (37 :: a :: b :: t) = false := by
    rw [okD.eq_4, if_pos rfl]
    rcases h with h | h <;> simp [h]
  rw [if_neg (by rw [this]; decide)]
/-- What comes up of a character's byte. -/
theorem hex_val {n : Nat} (h : n < 256) : (hexC (n : Int) = true ∧ valI n = (digitOf (n : Int) : Int) ∧ digitOf (n : Int) < 16) ∨ (hexC (n : Int) = false ∧ valI n = -1) := by
  cases hh : hexC (n : Int) with
  | true => exact Or.inl ⟨rfl, by unfold valI; rw [if_pos hh], (dig_idx hh).2⟩
  | false => exact Or.inr ⟨rfl, by unfold valI; rw [if_neg (by rw [hh]; decide)]⟩
theorem hex_high {a : Int} (h : 127 < a) : hexC a = false := by
  unfold hexC
  rw [decide_eq_false (by omega)]; rfl

/-- What holds at the head of a round. -/
def RRel (enc : Int) (rs : List Int) (X : Option (List UInt8)) (w0 : World) (gk : Nat) (rv ov kv iv : Value) (wr : World) : Prop :=
  ∃ (j : Nat) (y : List UInt8) (op : List Int) (t : Bool), j + gk = rs.length ∧ rv = .string ⟨y.toArray⟩ ∧ kv = .bool t ∧ iv = .int .i64 (j : Nat) ∧ op.length ≤ j ∧ y.length + 12 * op.length ≤ 16 * j ∧ (∀ r ∈ op, 0 ≤ r ∧ r ≤ 1114111) ∧
    (t = true → X = (rdL enc (rs.drop j) op).map (y ++ ·)) ∧ (t = false → X = none ∧ op = []) ∧ OwnI w0.heap.size wr ov op ∧ Below w0.heap.size w0 wr
theorem size_arr (y : List UInt8) : (⟨y.toArray⟩ : ByteArray).size = y.length := by
  show y.toArray.size = _
  simp
theorem infoInt32r : (Tryz.prog.info? 21).map (fun i => (i.zero, i.size, i.bytes)) = some (some (.int .i32 0), 1, 4) := by kernel_rfl
set_option maxHeartbeats 8000000 in
set_option maxRecDepth 100000 in
theorem rrest_c (enc : Int) (h0 : 0 ≤ enc) (h8 : enc ≤ 8) (b : ByteArray) (hs : b.size ≤ 300) (w : World) :
    Calls Tryz.prog 37 #[.int .i64 enc, .string b] w fun e w' => e = .returned (restV (restI enc b.data.toList)) ∧ Below w.heap.size w w' := by
  obtain ⟨R, hR⟩ : ∃ R, restI enc b.data.toList = R := ⟨_, rfl⟩
  rw [hR]
  cases hru : runesL b.data.toList with
  | none =>
    have HE : Hid (R = none) := Lib.hid (by rw [← hR]; unfold restI; rw [hru]; rfl)
    have cA := refAll_c b (by omega) w
    unfold AllPost at cA
    rw [hru] at cA
    have HBY : Hid (∀ (w1 : World), Calls Tryz.prog 64 #[.int .i64 enc, .slice none 0 0] w1 fun e w' => e = .returned (.tuple #[.string ⟨#[]⟩, .bool true]) ∧ Below w1.heap.size w1 w') := Lib.hid (fun w1 => by
      have h := rbytes_c enc h0 h8 [] (fun r hr => by cases hr) (.slice none 0 0) w1 (SliceOk.nil w1) (by decide)
      rw [bytesC_nil] at h
      exact h)
    clear h0 h8 hs hR hru
    go_enter Tryz.func37, Tryz.ntmps37
    go_wp2_with fail
    refine cA.mono ?_
    rintro e w1 ⟨v1, rfl, hv1, hb1⟩
    obtain ⟨a1, cap1, rfl⟩ := hv1.len
    rw [show (none : Option (List Int)).getD [] = [] from rfl, List.length_nil]
    have HB1 := Lib.hid hb1
    have cB := HBY.out w1
    clear cA hv1 hb1
    go_wp2
    refine wp_loop_rounds 1 ?_
    rw [rounds_succ]
    go_wp2_with fail
    refine cB.mono ?_
    rintro e w2 ⟨rfl, hb2⟩
    go_wp2
    go_ret2
    exact ⟨by rw [HE.out]; rfl, HB1.out.trans (hb2.mono HB1.out.size)⟩
  | some rs =>
    have cA := refAll_ok b rs hru (by omega) w
    have hRX : R = (rdI enc rs).bind fun x => if goodB ⟨x.toArray⟩ = true ∧ presL enc x = b.data.toList then some x else none := by
      rw [← hR]
      unfold restI
      rw [hru, Option.bind_some]
    have HRX := Lib.hid hRX
    obtain ⟨X, hX⟩ : ∃ X, rdI enc rs = X := ⟨_, rfl⟩
    rw [hX] at HRX
    have hrl := runesL_len _ _ rs (Nat.le_refl _) hru
    have hbl : b.data.toList.length = b.size := rfl
    have HRB : Hid (∀ r ∈ rs, 0 ≤ r ∧ r ≤ 1114111) := Lib.hid (fun r hm => by
      have := isR_is (runesL_chars _ _ rs (Nat.le_refl _) hru r hm)
      omega)
    have HBY : Hid (∀ (l : List Int) (v : Value) (w1 : World), (∀ r ∈ l, 0 ≤ r ∧ r ≤ 1114111) → SliceOk w1 v l → l.length ≤ 300 → Calls Tryz.prog 64 #[.int .i64 enc, v] w1 fun e w' => e = .returned (bytV (bytesC enc l)) ∧ Below w1.heap.size w1 w') := Lib.hid (fun l v w1 hf hv hl => rbytes_c enc h0 h8 l (fun r hr => by have := hf r hr; omega) v w1 hv hl)
    have HBC : Hid (∀ (l : List Int) (x : List UInt8), bytesC enc l = some x → x.length ≤ 12 * l.length) := Lib.hid (fun l x h => bytesC_len h0 h)
    have HG : Hid (∀ (y : List UInt8) (w1 : World), y.length ≤ 100000 → Calls Tryz.prog 65 #[.string ⟨y.toArray⟩] w1 fun e w' => e = .returned (.bool (goodB ⟨y.toArray⟩)) ∧ w' = w1) := Lib.hid (fun y w1 hy => refGood_c ⟨y.toArray⟩ (by rw [size_arr]; omega) w1)
    have HP : Hid (∀ (y : List UInt8) (w1 : World), y.length ≤ 300 → Calls Tryz.prog 24 #[.int .i64 enc, .string ⟨y.toArray⟩] w1 fun e w' => e = .returned (.string ⟨(presL enc y).toArray⟩) ∧ Below w1.heap.size w1 w') := Lib.hid (fun y w1 hy => refPres_c enc h0 h8 ⟨y.toArray⟩ (by rw [size_arr]; exact hy) w1)
    obtain ⟨i0, hi0, hz0, hz1, hz2⟩ := info_parts infoInt32r
    obtain ⟨n, hn⟩ : ∃ n, rs.length = n := ⟨_, rfl⟩
    have hn3 : n ≤ 300 := by omega
    have HN := Lib.hid hn
    have HX := Lib.hid hX
    obtain ⟨BL, hBL⟩ : ∃ BL, b.data.toList = BL := ⟨_, rfl⟩
    rw [hBL] at HRX
    have HBLL := Lib.hid hBL
    clear h0 h8 hs hR hru hRX hX hrl hbl hn hBL
    go_enter Tryz.func37, Tryz.ntmps37
    go_wp2_with fail
    refine cA.mono ?_
    rintro e w1 ⟨v1, rfl, hv1, hb1⟩
    have HV := Lib.hid hv1.1
    have HB1 := Lib.hid hb1
    obtain ⟨a1, cap1, rfl⟩ := hv1.1.len
    rw [HN.out] at HV ⊢
    clear cA hv1 hb1
    go_wp2
    go_loopg [6, 7, 9, 10] n (fun gk rv ov kv iv wr => RRel enc rs X w1 gk rv ov kv iv wr)
    case atStart => exact ⟨0, [], [], true, by rw [HN.out]; omega, rfl, rfl, rfl, by simp, by simp, (fun r hr => by cases hr), (fun _ => by rw [← HX.out, rdI_L, List.drop_zero]; simp), (fun h => by cases h), OwnI.nil _ _, Below.refl _ _⟩
    case round =>
      obtain ⟨j, y, op, t, hjg, rfl, rfl, rfl, hol, hyl, hof, hlive, hdead, hown, hbel⟩ := hrel
      rw [HN.out] at hjg
      have HO := Lib.hid hown
      have HOF := Lib.hid hof
      have HBL := Lib.hid hbel
      have HLV := Lib.hid hlive
      have HDD := Lib.hid hdead
      obtain ⟨ao, co, hvo⟩ := (SliceIs.own hown).len
      subst hvo
      clear hown hof hlive hdead
      have HLAST : Hid (∀ (z : List UInt8) , True) := Lib.hid (fun _ => trivial)
      cases t with
      | false =>
        obtain ⟨hXn, hop⟩ := HDD.out rfl
        subst hop
        have HE : Hid (R = none) := Lib.hid (by rw [HRX.out, hXn]; rfl)
        have cB := HBY.out [] _ wr (fun r hr => by cases hr) (SliceOk.own HO.out) (by decide)
        rw [bytesC_nil] at cB
        have hap := bs_two y []
        rw [List.append_nil] at hap
        rw [show ([] : List Int).length = 0 from rfl] at cB
        have hsz : ¬ (9223372036854775807 < (⟨y.toArray⟩ : ByteArray).size + (⟨#[]⟩ : ByteArray).size) := by rw [size_arr]; show ¬ (9223372036854775807 < y.length + 0); omega
        unfold bytV at cB
        simp only at cB
        generalize (⟨y.toArray⟩ : ByteArray) = Y at *
        clear hbel hXn
        by_cases hlt : j < n
        · have hltz : (j : Int) < (n : Int) := by omega
          go_wp2_with fail
          refine cB.mono ?_
          rintro e w2 ⟨rfl, hb2⟩
          go_wp2
          go_ret2
          exact ⟨by rw [HE.out]; rfl, HB1.out.trans ((HBL.out.trans (hb2.mono HBL.out.size)).mono HB1.out.size)⟩
        · have hltz : ¬ ((j : Int) < (n : Int)) := by omega
          go_wp2_with fail
          refine cB.mono ?_
          rintro e w2 ⟨rfl, hb2⟩
          go_wp2
          go_ret2
          exact ⟨by rw [HE.out]; rfl, HB1.out.trans ((HBL.out.trans (hb2.mono HBL.out.size)).mono HB1.out.size)⟩
      | true =>
        have hXj := HLV.out rfl
        have HXJ := Lib.hid hXj
        clear hXj
        by_cases hlt : j < n
        · have hltz : (j : Int) < (n : Int) := by omega
          have hjl : j < rs.length := by rw [HN.out]; exact hlt
          have HVW : Hid (SliceIs wr (.slice a1 n cap1) rs) := Lib.hid (HV.out.kept hbel)
          have hcells : ∃ g off, a1 = some ⟨g, off, none⟩ ∧ ∀ k, k < n → wr.cell? ⟨g, off + k, none⟩ = some (.int .i32 (rs.getD k 0)) := by
            rcases HVW.out with ⟨h1, _⟩ | ⟨g, off, cap', hg, hv', hc⟩
            · rw [h1] at hjl; exact absurd hjl (by simp)
            · refine ⟨g, off, ?_, fun k hk => hc k (by rw [HN.out]; exact hk)⟩
              injection hv'
          obtain ⟨g, off, rfl, hcell⟩ := hcells
          have HCL := Lib.hid hcell
          have c0 := hcell j hlt
          have hgm : ∀ k, k < n → rs.getD k 0 ∈ rs := fun k hk => by
            have hk' : k < rs.length := by rw [HN.out]; exact hk
            rw [List.getD_eq_getElem?_getD, List.getElem?_eq_getElem hk']
            exact List.getElem_mem hk'
          have HGM := Lib.hid hgm
          have hdj : rs.drop j = rs.getD j 0 :: rs.drop (j + 1) := by
            rw [List.drop_eq_getElem_cons hjl]
            simp [List.getD_eq_getElem?_getD, List.getElem?_eq_getElem hjl]
          have HDJ := Lib.hid hdj
          have hcb := HRB.out _ (hgm j hlt)
          obtain ⟨c, hc⟩ : ∃ c, rs.getD j 0 = c := ⟨_, rfl⟩
          rw [hc] at c0 HDJ hcb
          have HC := Lib.hid hc
          clear hcell hgm hdj hc hjl
          by_cases h37 : c = 37
          · subst h37
            by_cases hsh : j + 2 < n
            · have hshz : ¬ (n : Int) ≤ (j : Int) + 2 := by omega
              have i1 : (j : Int) + 1 < (n : Int) := by omega
              have i2 : (j : Int) + 2 < (n : Int) := by omega
              have i3 : (0 : Int) ≤ (j : Int) + 1 := by omega
              have i4 : (0 : Int) ≤ (j : Int) + 2 := by omega
              have i5 : ((j : Int) + 1).toNat = j + 1 := by omega
              have i6 : ((j : Int) + 2).toNat = j + 2 := by omega
              have i7 : IntKind.i64.wrap ((j : Int) + 1) = (j : Int) + 1 := by rw [IntKind.wrap_i64]; omega
              have i8 : IntKind.i64.wrap ((j : Int) + 2) = (j : Int) + 2 := by rw [IntKind.wrap_i64]; omega
              have hca := HCL.out (j + 1) (by omega)
              have hcb2 := HCL.out (j + 2) (by omega)
              obtain ⟨A, hA⟩ : ∃ A, rs.getD (j + 1) 0 = A := ⟨_, rfl⟩
              obtain ⟨D, hD⟩ : ∃ D, rs.getD (j + 2) 0 = D := ⟨_, rfl⟩
              have hAb := HRB.out _ (HGM.out (j + 1) (by omega))
              have hDb := HRB.out _ (HGM.out (j + 2) (by omega))
              have hdr : rs.drop j = 37 :: A :: D :: rs.drop (j + 3) := by
                have e1 : j + 1 < rs.length := by rw [HN.out]; omega
                have e2 : j + 1 + 1 < rs.length := by rw [HN.out]; omega
                rw [HDJ.out, List.drop_eq_getElem_cons e1, List.drop_eq_getElem_cons e2, ← hA, ← hD]
                simp [List.getD_eq_getElem?_getD, List.getElem?_eq_getElem e1, List.getElem?_eq_getElem e2]
              have HDR := Lib.hid hdr
              rw [hA] at hca hAb
              rw [hD] at hcb2 hDb
              have hca' : wr.cell? ⟨g, off + j + 1, none⟩ = some (.int .i32 A) := hca
              have hcb' : wr.cell? ⟨g, off + j + 2, none⟩ = some (.int .i32 D) := hcb2
              have HBAD : Hid (hexC A = false ∨ hexC D = false → R = none) := Lib.hid (fun h => by
                rw [HRX.out, HXJ.out, HDR.out, rdL_bad h]; rfl)
              clear hA hD hdr
              by_cases hA1 : 127 < A
              · have HE := Lib.hid (HBAD.out (Or.inl (hex_high hA1)))
                clear hbel
                go_wp2
                go_ret2
                exact ⟨by rw [HE.out]; rfl, HB1.out.trans (HBL.out.mono HB1.out.size)⟩
              · by_cases hD1 : 127 < D
                · have HE := Lib.hid (HBAD.out (Or.inr (hex_high hD1)))
                  clear hbel
                  go_wp2
                  go_ret2
                  exact ⟨by rw [HE.out]; rfl, HB1.out.trans (HBL.out.mono HB1.out.size)⟩
                · obtain ⟨an, rfl⟩ : ∃ an : Nat, A = (an : Int) := ⟨A.toNat, by omega⟩
                  obtain ⟨dn, rfl⟩ : ∃ dn : Nat, D = (dn : Int) := ⟨D.toNat, by omega⟩
                  have hwa : IntKind.u8.wrap (an : Int) = (an : Int) := by rw [IntKind.wrap_u8]; omega
                  have hwd : IntKind.u8.wrap (dn : Int) = (dn : Int) := by rw [IntKind.wrap_u8]; omega
                  have cVa := fun W => val_c an (by omega) W
                  have cVd := fun W => val_c dn (by omega) W
                  rcases hex_val (n := an) (by omega) with ⟨ga, va, la⟩ | ⟨ga, va⟩
                  · rcases hex_val (n := dn) (by omega) with ⟨gd, vd, ld⟩ | ⟨gd, vd⟩
                    · have HXN : Hid (X = ((bytesC enc op).bind fun x => (rdL enc (rs.drop (j + 3)) []).map fun z => x ++ UInt8.ofNat (16 * digitOf (an : Int) + digitOf (dn : Int)) :: z).map (y ++ ·)) := Lib.hid (by rw [HXJ.out, HDR.out, rdL_esc ga gd])
                      rw [va] at cVa
                      rw [vd] at cVd
                      generalize digitOf (an : Int) = da at *
                      generalize digitOf (dn : Int) = dd at *
                      have n1 : ¬ ((da : Int) < 0) := by omega
                      have n2 : ¬ ((dd : Int) < 0) := by omega
                      have n3 : IntKind.i64.wrap (16 * (da : Int)) = 16 * (da : Int) := by rw [IntKind.wrap_i64]; omega
                      have n4 : IntKind.i64.wrap (16 * (da : Int) + (dd : Int)) = 16 * (da : Int) + (dd : Int) := by rw [IntKind.wrap_i64]; omega
                      have n5 : IntKind.u8.wrap (16 * (da : Int) + (dd : Int)) = 16 * (da : Int) + (dd : Int) := by rw [IntKind.wrap_u8]; omega
                      have HZ9 : Hid ((16 * (da : Int) + (dd : Int)).toNat = 16 * da + dd) := Lib.hid (by omega)
                      have cB := HBY.out op _ wr HOF.out (SliceOk.own HO.out) (by omega)
                      have hcv := conv1 (16 * (da : Int) + (dd : Int))
                      have hcv2 : ∀ W : World, (convert 57 9 (.slice (some ⟨W.heap.size, 0, none⟩) 1 1)).run Tryz.prog (W.alloc (.cells #[.int .u8 (16 * (da : Int) + (dd : Int))] 5)).drew = .ok (.string (bsZ [16 * (da : Int) + (dd : Int)])) (W.alloc (.cells #[.int .u8 (16 * (da : Int) + (dd : Int))] 5)).drew := fun W => conv1 (16 * (da : Int) + (dd : Int)) W.drew
                      have HD9 : Hid ((bsZ [16 * (da : Int) + (dd : Int)]).data.toList = [UInt8.ofNat (16 * da + dd)]) := Lib.hid (by
                        show [UInt8.ofNat (16 * (da : Int) + (dd : Int)).toNat] = _
                        rw [HZ9.out])
                      have hD1 : (bsZ [16 * (da : Int) + (dd : Int)]).size = 1 := rfl
                      generalize bsZ [16 * (da : Int) + (dd : Int)] = DB at *
                      have hgen : ∃ (B : ByteArray) (f : Bool) (yy : List UInt8), bytV (bytesC enc op) = .tuple #[.string B, .bool f] ∧ B.size ≤ 5000 ∧ (⟨y.toArray⟩ : ByteArray) ++ (B ++ DB) = ⟨yy.toArray⟩ ∧ yy.length ≤ 16 * (j + 3) ∧
                          (f = true → X = (rdL enc (rs.drop (j + 3)) []).map (yy ++ ·)) ∧ (f = false → X = none) := by
                        cases hby : bytesC enc op with
                        | none =>
                          refine ⟨⟨#[]⟩, false, y ++ [UInt8.ofNat (16 * da + dd)], rfl, by decide, ?_, by rw [List.length_append, List.length_singleton]; omega, (fun h => by cases h), (fun _ => by rw [HXN.out, hby]; rfl)⟩
                          apply ByteArray.ext
                          apply Array.toList_inj.1
                          have := HD9.out
                          simp [this]
                        | some x =>
                          have hxl := HBC.out op x hby
                          refine ⟨⟨x.toArray⟩, true, (y ++ x) ++ [UInt8.ofNat (16 * da + dd)], rfl, by rw [size_arr]; omega, ?_, by rw [List.length_append, List.length_append, List.length_singleton]; omega, fun _ => ?_, (fun h => by cases h)⟩
                          · apply ByteArray.ext
                            apply Array.toList_inj.1
                            have := HD9.out
                            simp [this]
                          · rw [HXN.out, hby, Option.bind_some, Option.map_map]
                            congr 1
                            funext z
                            simp
                      obtain ⟨B, f, yy, hbv, hs2, hye, hyl9, hlv9, hdd9⟩ := hgen
                      rw [hbv] at cB
                      have hs1 : (⟨y.toArray⟩ : ByteArray).size ≤ 5000 := by rw [size_arr]; omega
                      have HYE := Lib.hid hye
                      have HYL := Lib.hid hyl9
                      have HL9 := Lib.hid hlv9
                      have HD8 := Lib.hid hdd9
                      clear hye hyl9 hlv9 hdd9 hbv
                      generalize (⟨y.toArray⟩ : ByteArray) = Y at *
                      have hz1 : ¬ (9223372036854775807 < B.size + DB.size) := by omega
                      have hz2 : ¬ (9223372036854775807 < Y.size + (B.size + DB.size)) := by omega
                      have hz3 : ¬ (9223372036854775807 < B.size + 1) := by omega
                      have hz4 : ¬ (9223372036854775807 < Y.size + (B.size + 1)) := by omega
                      clear hbel ga gd va vd HBAD hyl
                      go_upto_region 12 with (first | (go_at_call 63; with_reducible refine (cVa _).mono ?_; rintro e w2 ⟨rfl, rfl⟩) | (go_at_call 63; with_reducible refine (cVd _).mono ?_; rintro e w2 ⟨rfl, rfl⟩) | (go_at_call 64; refine cB.mono ?_; rintro e w2 ⟨rfl, hb2⟩; have k1 : w2.cell? ⟨g, off + j + 1, none⟩ = some (.int .i32 an) := (hb2.cell (block_lt_of_cell hca')).trans hca'; have k2 : w2.cell? ⟨g, off + j + 2, none⟩ = some (.int .i32 dn) := (hb2.cell (block_lt_of_cell hcb')).trans hcb'; have k3 : w2.cell? ⟨g, off + (j + 1), none⟩ = some (.int .i32 an) := k1; have k4 : w2.cell? ⟨g, off + (j + 2), none⟩ = some (.int .i32 dn) := k2))
                      have HB2 := Lib.hid (HBL.out.trans (hb2.mono HBL.out.size))
                      clear cB hb2 hca hca' hcb2 hcb'
                      go_cut [6] from 88 to 110 (fun c wx => c = .string (Y ++ (B ++ DB)) ∧ Below w2.heap.size w2 wx)
                      case first =>
                        go_region_with (first | (go_at_call 63; with_reducible refine (cVa _).mono ?_; rintro e w3 ⟨rfl, rfl⟩) | (go_at_call 63; with_reducible refine (cVd _).mono ?_; rintro e w3 ⟨rfl, rfl⟩))
                        all_goals go_wp2
                        all_goals go_meet
                        all_goals exact ⟨by first | rfl | simp, by first | exact ((Below.refl _ _).alloc (Nat.le_refl _) _).drew | exact (Below.refl _ _).drew.alloc (Nat.le_refl _) _ | exact ((Below.refl _ _).drew.alloc (Nat.le_refl _) _).drew⟩
                      case rest =>
                        obtain ⟨hc1, hc2⟩ := hcut
                        subst hc1
                        have HB3 := Lib.hid (HB2.out.trans (hc2.mono HB2.out.size))
                        clear hc2 cVa cVd hcv hcv2 k1 k2 k3 k4
                        go_wp2
                        go_roundg (n - (j + 3))
                        case measure => omega
                        case rel => exact ⟨j + 3, yy, [], f, by rw [HN.out]; omega, by rw [HYE.out], rfl, by first | rfl | go_num, by simp, by have := HYL.out; simp; omega, (fun r hr => by cases hr), HL9.out, fun h => ⟨HD8.out h, rfl⟩, OwnI.nil _ _, HB3.out⟩
                    · have HE := Lib.hid (HBAD.out (Or.inr gd))
                      rw [va] at cVa
                      rw [vd] at cVd
                      generalize digitOf (an : Int) = da at *
                      have n1 : ¬ ((da : Int) < 0) := by omega
                      clear hbel ga gd va vd HBAD
                      go_wp2_with (first | (go_at_call 63; with_reducible refine (cVa _).mono ?_; rintro e w2 ⟨rfl, rfl⟩) | (go_at_call 63; with_reducible refine (cVd _).mono ?_; rintro e w2 ⟨rfl, rfl⟩))
                      go_ret2
                      exact ⟨by rw [HE.out]; rfl, HB1.out.trans (HBL.out.mono HB1.out.size)⟩
                  · have HE := Lib.hid (HBAD.out (Or.inl ga))
                    rw [va] at cVa
                    clear hbel ga va HBAD cVd
                    go_wp2_with (go_at_call 63; with_reducible refine (cVa _).mono ?_; rintro e w2 ⟨rfl, rfl⟩)
                    go_ret2
                    exact ⟨by rw [HE.out]; rfl, HB1.out.trans (HBL.out.mono HB1.out.size)⟩
            · have hshz : (n : Int) ≤ (j : Int) + 2 := by omega
              have HE : Hid (R = none) := Lib.hid (by
                rw [HRX.out, HXJ.out, rdL_short (by rw [HDJ.out]; rfl) (by rw [HDJ.out]; simp) (by rw [List.length_drop, HN.out]; omega)]
                rfl)
              clear hbel
              go_wp2
              go_ret2
              exact ⟨by rw [HE.out]; rfl, HB1.out.trans (HBL.out.mono HB1.out.size)⟩
          · have hne : (c == 37) = false := beq_eq_false_iff_ne.2 h37
            have HE : Hid (X = (rdL enc (rs.drop (j + 1)) (op ++ [c])).map (y ++ ·)) := Lib.hid (by rw [HXJ.out, HDJ.out, rdL_char h37])
            have HO1 : Hid (OwnI w1.heap.size (wr.alloc (.cells #[.int .i32 c] 21)) (.slice ao op.length co) op) := Lib.hid (HO.out.below ((Below.refl wr.heap.size wr).alloc (Nat.le_refl _) _))
            have HOF2 : Hid (∀ r ∈ op ++ [c], 0 ≤ r ∧ r ≤ 1114111) := Lib.hid (fun r hr => by
              rcases List.mem_append.1 hr with h | h
              · exact HOF.out r h
              · rw [List.mem_singleton.1 h]; exact hcb)
            obtain ⟨m, hm⟩ : ∃ m, op.length = m := ⟨_, rfl⟩
            have HM := Lib.hid hm
            rw [hm] at hol hyl
            have hbA := hbel.alloc hbel.size (.cells #[.int .i32 c] 21)
            have HBA := Lib.hid hbA
            rw [hm]
            clear hm hbel h37 hbA
            go_wp2_with (at_builtin; refine wpList_append_own _ rfl _ _ 60 rfl w1.heap.size 21 i0 (.int .i32 0) 1 4 Tryz.underlying60 hi0 hz0 hz1 hz2 rfl (by decide) _ _ _ rfl (by have := HO1.out; unfold OwnI at this; rw [HM.out] at this; exact this) ⟨wr.heap.size, 0, none⟩ 1 1 [.int .i32 c] rfl rfl (by intro j u hj; rcases j with _ | j; (simp at hj; subst hj; simp [Addr.add]); (simp at hj)) (by intro u hu; simp at hu; subst hu; rfl) (by unfold maxLen; omega) (by omega) (by have h1 := HBL.out.size; simp; omega) ?_)
            intro v' w3 hown' hgrow _
            have HO3 : Hid (OwnI w1.heap.size w3 v' (op ++ [c])) := Lib.hid (by
              unfold OwnI
              rw [List.length_append, List.length_singleton, List.map_append, HM.out]
              exact hown')
            have HB3 : Hid (Below w1.heap.size w1 w3) := Lib.hid (HBA.out.grown hgrow (by have := HBA.out.size; simp at this ⊢; omega) (fun k hk => (HO1.out.lt k (by rw [HM.out]; exact hk)).1))
            clear hown' hgrow
            go_wp2
            go_roundg (n - (j + 1))
            case measure => omega
            case rel => exact ⟨j + 1, y, op ++ [c], true, by rw [HN.out]; omega, rfl, rfl, by first | rfl | go_num, by rw [List.length_append, HM.out]; simp; omega, by rw [List.length_append, HM.out]; simp; omega, HOF2.out, fun _ => HE.out, (fun h => by cases h), HO3.out, HB3.out⟩
        · have hltz : ¬ ((j : Int) < (n : Int)) := by omega
          have hje : j = n := by omega
          have HXE : Hid (X = (bytesC enc op).map (y ++ ·)) := Lib.hid (by rw [HXJ.out, List.drop_of_length_le (by rw [HN.out]; omega), rdL_nil])
          have cB := HBY.out op _ wr HOF.out (SliceOk.own HO.out) (by omega)
          cases hby : bytesC enc op with
          | none =>
            rw [hby] at cB
            have HE : Hid (R = none) := Lib.hid (by rw [HRX.out, HXE.out, hby]; rfl)
            have hsz : ¬ (9223372036854775807 < (⟨y.toArray⟩ : ByteArray).size + (⟨#[]⟩ : ByteArray).size) := by rw [size_arr]; show ¬ (9223372036854775807 < y.length + 0); omega
            unfold bytV at cB
            simp only at cB
            generalize (⟨y.toArray⟩ : ByteArray) = Y at *
            clear hbel hby hje
            go_wp2_with fail
            refine cB.mono ?_
            rintro e w2 ⟨rfl, hb2⟩
            go_wp2
            go_ret2
            exact ⟨by rw [HE.out]; rfl, HB1.out.trans ((HBL.out.trans (hb2.mono HBL.out.size)).mono HB1.out.size)⟩
          | some z =>
            rw [hby] at cB
            have hzl := HBC.out op z hby
            have HXS : Hid (X = some (y ++ z)) := Lib.hid (by rw [HXE.out, hby]; rfl)
            have hsz : ¬ (9223372036854775807 < (⟨y.toArray⟩ : ByteArray).size + (⟨z.toArray⟩ : ByteArray).size) := by rw [size_arr, size_arr]; omega
            have hap := bs_two y z
            have cG := fun w2 => HG.out (y ++ z) w2 (by rw [List.length_append]; omega)
            unfold bytV at cB
            simp only at cB
            cases hgd : goodB ⟨(y ++ z).toArray⟩ with
            | false =>
              have HE : Hid (R = none) := Lib.hid (by rw [HRX.out, HXS.out, Option.bind_some, hgd]; simp)
              rw [hgd] at cG
              generalize (⟨y.toArray⟩ : ByteArray) = Y at *
              generalize (⟨z.toArray⟩ : ByteArray) = Z at *
              generalize (⟨(y ++ z).toArray⟩ : ByteArray) = YZ at *
              clear hbel hby hje hgd
              go_wp2_with fail
              refine cB.mono ?_
              rintro e w2 ⟨rfl, hb2⟩
              have cG2 := cG w2
              clear cG
              go_wp2_with fail
              refine cG2.mono ?_
              rintro e w3 ⟨rfl, rfl⟩
              go_wp2
              go_ret2
              exact ⟨by rw [HE.out]; rfl, HB1.out.trans ((HBL.out.trans (hb2.mono HBL.out.size)).mono HB1.out.size)⟩
            | true =>
              have hyz := good_len hgd
              have cP := fun w2 => HP.out (y ++ z) w2 (by omega)
              obtain ⟨P, hP⟩ : ∃ P : ByteArray, (⟨(presL enc (y ++ z)).toArray⟩ : ByteArray) = P := ⟨_, rfl⟩
              obtain ⟨t, ht⟩ : ∃ t, decide (presL enc (y ++ z) = BL) = t := ⟨_, rfl⟩
              have hcm : (P.toList == b.toList) = t := text_is P b t (by rw [← hP, HBLL.out]; exact ht)
              rw [hP] at cP
              rw [hgd] at cG
              have HE1 : Hid (t = true → R = some (y ++ z)) := Lib.hid (fun h => by
                rw [HRX.out, HXS.out, Option.bind_some]
                rw [h] at ht
                rw [if_pos ⟨hgd, of_decide_eq_true ht⟩])
              have HE2 : Hid (t = false → R = none) := Lib.hid (fun h => by
                rw [HRX.out, HXS.out, Option.bind_some]
                rw [h] at ht
                rw [if_neg (fun hc => of_decide_eq_false ht hc.2)])
              have HYZ : Hid (restV (some (y ++ z)) = .tuple #[.string ⟨(y ++ z).toArray⟩, .int .i64 0]) := Lib.hid rfl
              generalize (⟨y.toArray⟩ : ByteArray) = Y at *
              generalize (⟨z.toArray⟩ : ByteArray) = Z at *
              generalize (⟨(y ++ z).toArray⟩ : ByteArray) = YZ at *
              clear hbel hby hje hgd ht hP
              cases t with
              | true =>
                go_wp2_with fail
                refine cB.mono ?_
                rintro e w2 ⟨rfl, hb2⟩
                have HB2 := Lib.hid (HBL.out.trans (hb2.mono HBL.out.size))
                have cG2 := cG w2
                clear cG hb2
                go_wp2_with fail
                refine cG2.mono ?_
                rintro e w3 ⟨rfl, rfl⟩
                have cP2 := cP w3
                clear cP cG2
                go_wp2_with fail
                refine cP2.mono ?_
                rintro e w4 ⟨rfl, hb4⟩
                go_wp2
                go_ret2
                exact ⟨by rw [HE1.out (by trivial), HYZ.out]; rfl, HB1.out.trans ((HB2.out.trans (hb4.mono HB2.out.size)).mono HB1.out.size)⟩
              | false =>
                go_wp2_with fail
                refine cB.mono ?_
                rintro e w2 ⟨rfl, hb2⟩
                have HB2 := Lib.hid (HBL.out.trans (hb2.mono HBL.out.size))
                have cG2 := cG w2
                clear cG hb2
                go_wp2_with fail
                refine cG2.mono ?_
                rintro e w3 ⟨rfl, rfl⟩
                have cP2 := cP w3
                clear cP cG2
                go_wp2_with fail
                refine cP2.mono ?_
                rintro e w4 ⟨rfl, hb4⟩
                go_wp2
                go_ret2
                exact ⟨by rw [HE2.out (by trivial)]; rfl, HB1.out.trans ((HB2.out.trans (hb4.mono HB2.out.size)).mono HB1.out.size)⟩
end Go.Proofs.YtbbgnhbkjbobgaaGreatDoor
