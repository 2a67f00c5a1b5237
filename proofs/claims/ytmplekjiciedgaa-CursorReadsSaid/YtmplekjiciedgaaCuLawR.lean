/-
  The law CursorReads of stage 16, walked, over what the program's Read and Valid keep.
-/
import Derived.Test.YtmplekjiciedgaaCuLawA
import Derived.Test.YtmplekjiciedgaaQ4
namespace Go.Proofs.Ytmplekjiciedgaa
open Go.RowKit Go.Sort
set_option linter.unusedVariables false

set_option maxHeartbeats 8000000 in
set_option maxRecDepth 100000 in
theorem reads_walk (hR : ReadC) (hV : ValidC) (v : Value) (l : List OpT) (c n : Int) (w : World) (hc : -9223372036854775808 ≤ c ∧ c ≤ 9223372036854775807) (hn : -9223372036854775808 ≤ n ∧ n ≤ 9223372036854775807) (hv : OpTs w v l) (hl : l.length ≤ 9223372036854775807) (hs : ∀ x ∈ l, x.s.size ≤ 9223372036854775807 ∧ x.ns.size ≤ 9223372036854775807) (hk : ∀ x ∈ l, 0 ≤ x.k ∧ x.k ≤ 255) :
    Calls Try.prog 4 #[v, .int .i64 c, .int .i64 n] w fun e w' => e = .returned (.bool true) ∧ Below w.heap.size w w' := by
  have cA := awake16_c hR hV w
  have HA : Hid (∀ w1, Calls Try.prog 6 #[] w1 fun e w' => e = .returned (.bool true) ∧ Below w1.heap.size w1 w') := Lib.hid (fun w1 => awake16_c hR hV w1)
  have cF := fun W (h : OpTs W v l) => few10_c v l 60 W h hl (by omega) hs
  obtain ⟨R, hRR⟩ : ∃ R, fewI l 60 = R := ⟨_, rfl⟩
  rw [hRR] at cF
  have HV := Lib.hid hv
  obtain ⟨a, cap, rfl⟩ := hv.len
  obtain ⟨m, hm⟩ : ∃ m, l.length = m := ⟨_, rfl⟩
  have HM := Lib.hid hm
  simp only [hm] at cF HV ⊢
  cases R with
  | false =>
    clear hs hk hR hV hv hm
    go_enter Try.func4, Try.ntmps4
    go_wp2_with (first
      | (go_at_call 6; with_reducible refine cA.mono ?_; rintro e w1 ⟨rfl, hb1⟩; have HB1 := Lib.hid hb1; clear hb1)
      | (go_at_call 7; refine (cF _ (LstIs.kept HV.out HB1.out)).mono ?_; rintro e w2 ⟨rfl, hw2⟩; subst hw2)
      | (go_at_call 6; refine (HA.out _).mono ?_; rintro e w3 ⟨rfl, hb3⟩))
    go_ret
    exact ⟨rfl, HB1.out.trans (hb3.mono HB1.out.size)⟩
  | true =>
    have hm60 : m ≤ 60 := by rw [← hm]; exact (fewI_spec hRR (by omega)).1
    have HSZ := Lib.hid hs
    have HK := Lib.hid hk
    have HRC := Lib.hid hR
    have cV := hV c
    have HVC := Lib.hid (fun W => cV W hc)
    clear hs hk hR hV hv hm hRR cV
    go_enter Try.func4, Try.ntmps4
    go_upto_region 4 with (first
      | (go_at_call 6; with_reducible refine cA.mono ?_; rintro e w1 ⟨rfl, hb1⟩; have HB1 := Lib.hid hb1; clear hb1)
      | (go_at_call 7; refine (cF _ (LstIs.kept HV.out HB1.out)).mono ?_; rintro e w2 ⟨rfl, hw2⟩; subst hw2)
      | (go_at_call 8; refine (theTree.new _).mono ?_; rintro e w3 ⟨b, S, rfl, hi3, hs3, hb3⟩; have HI3 := Lib.hid hi3; have HS3 := Lib.hid (fun k hk => Nat.le_trans HB1.out.size (hs3 k hk)); have HB3 := Lib.hid (HB1.out.trans (hb3.mono HB1.out.size)); clear hi3 hs3 hb3))
    clear cA cF HA
    go_wp2
    go_loopw [8] (fun iv wr => ∃ (i : Nat) (L : List Itm) (nx : Int) (S : Nat → Prop), i ≤ m ∧ iv = .int .i64 i ∧ theTree.Is wr b L nx S ∧ (∀ k, S k → w.heap.size ≤ k) ∧ nx ≤ 1 + i ∧ Below w.heap.size w wr) (fun iv _ => m - (intOf iv).toNat)
    case atStart => exact ⟨0, [], 1, S, by omega, rfl, HI3.out, HS3.out, by omega, HB3.out⟩
    case round =>
      clear HI3 HS3 HB3
      obtain ⟨i, L, nx, S, hi, rfl, his, hS, hnx, hb⟩ := hrel
      have hn1 := theTree.next his
      by_cases him : i < m
      · have hiz : (i : Int) < (m : Int) := by omega
        obtain ⟨o, ho⟩ : ∃ o, l[i]? = some o := ⟨_, List.getElem?_eq_getElem (by rw [HM.out]; omega)⟩
        obtain ⟨g, off, rfl, hg, hrg⟩ := HV.out.at ho
        have hom := List.mem_of_getElem? ho
        have h9 := rangeAt_below hrg hg hb
        have o0 : wr.cell? ⟨g, off + i * 7, none⟩ = some (.int .u8 o.k) := h9 0 _ rfl
        have o1 : wr.cell? ⟨g, off + i * 7 + 1, none⟩ = some (.int .i64 o.d) := h9 1 _ rfl
        have o2 : wr.cell? ⟨g, off + i * 7 + 2, none⟩ = some (.int .i64 o.dt) := h9 2 _ rfl
        have o3 : wr.cell? ⟨g, off + i * 7 + 3, none⟩ = some (.string o.s) := h9 3 _ rfl
        have o4 : wr.cell? ⟨g, off + i * 7 + 4, none⟩ = some (.string o.ns) := h9 4 _ rfl
        have o5 : wr.cell? ⟨g, off + i * 7 + 5, none⟩ = some (.bool o.isD) := h9 5 _ rfl
        have o6 : wr.cell? ⟨g, off + i * 7 + 6, none⟩ = some (.int .i64 o.sh) := h9 6 _ rfl
        have hos := HSZ.out o hom
        have hok := HK.out o hom
        have hqn := doI_next L nx o
        have cDo := lawDo10_c theTree o his hos.1 hos.2 hok.1 hok.2 (by omega)
        obtain ⟨Q, hQ⟩ : ∃ Q, doI L nx o = Q := ⟨_, rfl⟩
        rw [hQ] at cDo hqn
        unfold opV at cDo
        have HBb := Lib.hid hb
        have HSS := Lib.hid hS
        clear hQ hg hrg ho hom h9 hb hS
        go_wp2_with (go_at_call 9; refine cDo.mono ?_; rintro e w4 ⟨S4, rfl, hi4, ht4⟩; have hlow := ht4.low HBb.out.size HSS.out; have HI4 := Lib.hid hi4; have HL4 := Lib.hid hlow; clear hi4 ht4 hlow)
        go_roundw
        case rel => exact ⟨i + 1, Q.1.1, Q.1.2, S4, by omega, by first | rfl | go_num, HI4.out, HL4.out.2, by omega, HBb.out.trans HL4.out.1⟩
        case measure => simp [intOf]; omega
      · have hiz : ¬ (i : Int) < (m : Int) := by omega
        have cD := theTree.dirs his
        have HI := Lib.hid his
        have HB := Lib.hid hb
        have HG := Lib.hid (theGood his)
        have HLN : Hid (L.length ≤ 200) := Lib.hid (theTree.len his)
        clear his hS hb
        go_upto_region 9 with (go_at_call 13; refine cD.mono ?_; rintro e w5 ⟨dv, rfl, hd5, -, hb5⟩; have HD5 := Lib.hid hd5; have HB5 := Lib.hid (HB.out.trans (hb5.mono HB.out.size)); have HI5 := Lib.hid (theTree.below HI.out hb5); clear hd5 hb5)
        obtain ⟨ad, cd, hdv⟩ := HD5.out.len
        obtain ⟨D, hD⟩ : ∃ D, (dirsI L).length = D := ⟨_, rfl⟩
        have HDL := Lib.hid hD
        have hD201 : D ≤ 201 := by rw [← hD]; exact dirsTo_le L 201
        rw [hD] at hdv
        subst hdv
        clear hD cD HI HB
        go_wp2
        go_loopw [10] (fun iv wr => ∃ i : Nat, iv = .int .i64 i ∧ i ≤ D ∧ Below w5.heap.size w5 wr) (fun iv _ => D - (intOf iv).toNat)
        case atStart => exact ⟨0, rfl, by omega, Below.refl _ _⟩
        case round =>
          obtain ⟨k, rfl, hkD, hb⟩ := hrel
          by_cases hkd : k < D
          · have hkz : (k : Int) < (D : Int) := by omega
            obtain ⟨q, hq⟩ : ∃ q, (dirsI L)[k]? = some q := ⟨_, List.getElem?_eq_getElem (by rw [HDL.out]; omega)⟩
            obtain ⟨g5, o5, rfl, hg5, hr5⟩ := HD5.out.at hq
            have p1 := num_at (rangeAt_below hr5 hg5 hb)
            rw [Nat.mul_one] at p1
            have cL := theTree.list q (theTree.below HI5.out hb)
            have hlen : (listI L q).length ≤ 200 := Nat.le_trans (listI_le L q) HLN.out
            have hris := HG.out.risesL q
            have hck : ∀ e ∈ listI L q, 1 ≤ e.cookie ∧ e.cookie ≤ 1000000 := fun e he => by have := listI_cook HG.out q e he; omega
            have HRD := Lib.hid (fun v W h hrm => HRC.out v (listI L q) c n W h hrm hris (by omega) hck (listI_name HG.out q) hc hn)
            have HRF := Lib.hid (fun v W h => rread_c v (listI L q) c n W h hris (by omega))
            unfold ReadPost at HRD HRF
            have hrl : (readI (listI L q) c n).1.length ≤ 100000 := by
              unfold readI
              split
              · simp
              · split
                · simp
                · simp only [List.length_take]
                  have h9 : (aboveC c (listI L q)).length ≤ (listI L q).length := List.length_filter_le _ _
                  omega
            generalize readI (listI L q) c n = T at *
            obtain ⟨T1, T2, T3⟩ := T
            simp only at HRD HRF hrl
            have HB := Lib.hid hb
            clear hq hg5 hr5 hb hris hck
            go_upto_region 15 with (first
              | (go_at_call 10; refine cL.mono ?_; rintro e w6 ⟨lv, rfl, he6, ⟨-, hrm6⟩, hb6⟩; have HRM6 := Lib.hid hrm6; have HE6 := Lib.hid he6; have HB6 := Lib.hid (HB.out.trans (hb6.mono HB.out.size)); clear he6 hb6 hrm6)
              | (go_at_call 11; refine (HRD.out _ _ HE6.out HRM6.out).mono ?_; rintro e w7 ⟨xv, rfl, hx7, hb7⟩; have HX7 := Lib.hid hx7; have HE7 := Lib.hid (LstIs.kept HE6.out hb7); have HB7 := Lib.hid (HB6.out.trans (hb7.mono HB6.out.size)); clear hx7 hb7)
              | (go_at_call 14; refine (HRF.out _ _ HE7.out).mono ?_; rintro e w8 ⟨yv, rfl, hy8, hb8⟩; have HY8 := Lib.hid hy8; have HX8 := Lib.hid (LstIs.kept HX7.out hb8); have HB8 := Lib.hid (HB7.out.trans (hb8.mono HB7.out.size)); clear hy8 hb8))
            have cS := same10_c xv yv T1 T1 w8 HX8.out HY8.out hrl hrl
            rw [decide_eq_true rfl] at cS
            clear cL HRD HRF p1
            go_wp2_with (go_at_call 12; refine cS.mono ?_; rintro e w9 ⟨rfl, q9, hw9⟩; have HB9 : Hid (Below w5.heap.size w5 w9) := Lib.hid (by rw [hw9]; exact below_drewN1 HB8.out q9); clear hw9)
            go_roundw
            case rel => exact ⟨k + 1, by first | rfl | go_num, by omega, HB9.out⟩
            case measure => simp [intOf]; omega
          · have hkz : ¬ (k : Int) < (D : Int) := by omega
            have HB := Lib.hid (HB5.out.trans (hb.mono HB5.out.size))
            clear hb
            go_wp2_with (go_at_call 15; refine (HVC.out _).mono ?_; rintro e w6 ⟨rfl, hb6⟩; have HB6 := Lib.hid (HB.out.trans (hb6.mono HB.out.size)); clear hb6)
            go_ret
            exact ⟨by first | rfl | simp, HB6.out⟩
end Go.Proofs.Ytmplekjiciedgaa
