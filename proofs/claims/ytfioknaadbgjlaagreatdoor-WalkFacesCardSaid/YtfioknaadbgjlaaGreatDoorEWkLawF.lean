/- Kit. -/
import Derived.Test.YtfioknaadbgjlaaGreatDoorEWkGone
import Derived.Test.YtfioknaadbgjlaaGreatDoorEWC
import Derived.IntWalk
set_option maxRecDepth 100000
set_option linter.unusedVariables false
set_option linter.unusedSimpArgs false
namespace Go.Proofs.YtfioknaadbgjlaaGreatDoor
open Go.RowKit Go.Sort
theorem pathS_more (ns : List (List UInt8)) (q : List UInt8) : pathS ns ++ ⟨#[47]⟩ ++ mkS q = pathS (ns ++ [q]) := by
  apply ByteArray.ext
  apply Array.toList_inj.1
  rw [ByteArray.data_append, ByteArray.data_append, Array.toList_append, Array.toList_append]
  show joinP ns ++ [47] ++ q = joinP (ns ++ [q])
  rw [joinP_more]
  simp
theorem pathS_list (ns : List (List UInt8)) : (pathS ns).data.toList = joinP ns := rfl
theorem pathS_size (ns : List (List UInt8)) : (pathS ns).size = (joinP ns).length := by
  show (joinP ns).toArray.size = _
  rw [List.size_toArray]
theorem split_short {p : List UInt8} {ns : List (List UInt8)} (h : splitI p = (ns, 0)) : p.length ≤ 1024 := by
  rcases Nat.lt_or_ge 1024 p.length with hl | hl
  · unfold splitI at h
    rw [if_pos hl] at h
    cases h
  · exact hl
theorem mkS_size (l : List UInt8) : (mkS l).size = l.length := by
  show l.toArray.size = _
  rw [List.size_toArray]
theorem gone_root (E : Int) (L : List Itm) {B : Nat} {w : World} (hd : w.heap[B + 1]? = some (.cells #[.int .i64 0] 3 (0, 0))) (hp : w.heap[B + 2]? = some (.cells #[.string ⟨#[]⟩] 9 (0, 0))) :
    Gone E L B w (.slice (some ⟨B + 1, 0, none⟩) 1 1) (.slice (some ⟨B + 2, 0, none⟩) 1 1) [0] [[]] 0 0 where
  own := ⟨rfl, Or.inr ⟨B + 1, 1, #[.int .i64 0], rfl, by omega, hd, Nat.le_refl _, by unfold maxLen; omega, rfl, rfl⟩⟩
  txt := ⟨rfl, Or.inr ⟨B + 2, 1, #[.string ⟨#[]⟩], rfl, by omega, hp, Nat.le_refl _, by unfold maxLen; omega, rfl, rfl⟩⟩
  same := rfl
  seen := Seen.root L
  way j d hj := by
    cases j with
    | zero =>
      have e1 : (0 : Int) = d := by simpa using hj
      subst e1
      exact ⟨[], rfl, LeadsTo.root E L, Nat.zero_le _⟩
    | succ j => cases hj
set_option maxHeartbeats 4000000 in
set_option maxRecDepth 100000 in
theorem faces_all (x : Int) (hx0 : 0 ≤ x) (hx1 : x ≤ 255) (v : Value) (l : List OpT) (w : World) (hv : OpTs w v l) (hl : l.length ≤ 9223372036854775807) (hs : ∀ x ∈ l, x.s.size ≤ 9223372036854775807 ∧ x.ns.size ≤ 9223372036854775807) (hk : ∀ x ∈ l, 0 ≤ x.k ∧ x.k ≤ 255) (hw : KW w) :
    Calls Tryz.prog 4 #[.int .u8 x, v] w fun e w' => e = .returned (.bool true) ∧ Below w.heap.size w w' := by
  have cA := awake15_c splitW_c w hw
  have HA : Hid (∀ w1, Below w.heap.size w w1 → Calls Tryz.prog 5 #[] w1 fun e w' => e = .returned (.bool true) ∧ Below w1.heap.size w1 w') := Lib.hid (fun w1 h1 => awake15_c splitW_c w1 (kw_lasts _ _ hw h1))
  have HK : Hid (∀ w1, Below w.heap.size w w1 → KW w1) := Lib.hid (fun w1 h1 => kw_lasts _ _ hw h1)
  have cF := fun W (h : OpTs W v l) => few10_c v l 40 W h hl (by omega) hs
  obtain ⟨R, hR⟩ : ∃ R, fewI l 40 = R := ⟨_, rfl⟩
  rw [hR] at cF
  have HV := Lib.hid hv
  obtain ⟨a, cap, rfl⟩ := hv.len
  obtain ⟨E, hE⟩ : ∃ E, x % 9 = E := ⟨_, rfl⟩
  have hE0 : 0 ≤ E := by omega
  have hE8 : E ≤ 8 := by omega
  have hwE : IntKind.i64.wrap E = E := by rw [IntKind.wrap_i64]; omega
  clear hw
  cases R with
  | false =>
    clear hs hk
    go_enter Tryz.func4, Tryz.ntmps4
    go_wp2_with (first
      | (go_at_call 5; with_reducible refine cA.mono ?_; rintro e w1 ⟨rfl, hb1⟩; have HB1 := Lib.hid hb1; clear hb1)
      | (go_at_call 6; refine (cF _ (LstIs.kept HV.out HB1.out)).mono ?_; rintro e w2 ⟨rfl, hw2⟩; subst hw2)
      | (go_at_call 5; refine (HA.out _ HB1.out).mono ?_; rintro e w3 ⟨rfl, hb3⟩))
    go_ret
    exact ⟨rfl, HB1.out.trans (hb3.mono HB1.out.size)⟩
  | true =>
    have hm80 : l.length ≤ 80 := by have := (fewI_spec hR (by omega)).1; omega
    have cM := fun W (h : OpTs W (.slice a l.length cap) l) => made_c (.slice a l.length cap) l W h hm80 hs hk
    unfold MadePost treeV at cM
    clear hs hk hl hR hv
    obtain ⟨m, hm⟩ : ∃ m, l.length = m := ⟨_, rfl⟩
    simp only [hm] at cM cF HV hm80 ⊢
    clear hm
    go_enter Tryz.func4, Tryz.ntmps4
    go_wp2_with (first
      | (go_at_call 5; with_reducible refine cA.mono ?_; rintro e w1 ⟨rfl, hb1⟩; have HB1 := Lib.hid hb1; clear hb1)
      | (go_at_call 6; refine (cF _ (LstIs.kept HV.out HB1.out)).mono ?_; rintro e w2 ⟨rfl, hw2⟩; subst hw2)
      | (go_at_call 7; fail))
    refine (cM _ (LstIs.kept HV.out HB1.out)).mono ?_
    rintro e w3 ⟨b, L, nx, S, rv, rfl, hi3, hr3, -, hnx, hb3⟩
    obtain ⟨ar, cr, hrv⟩ := hr3.1.len
    subst hrv
    obtain ⟨nl, hnl⟩ : ∃ nl, L.length = nl := ⟨_, rfl⟩
    have HLN : Hid (L.length ≤ 200) := Lib.hid (theTree.len hi3)
    have HG := Lib.hid (theGood hi3)
    have HI3 := Lib.hid hi3
    have HB3 : Hid (Below w.heap.size w w3) := Lib.hid (HB1.out.trans (hb3.mono HB1.out.size))
    have HEP : Hid (∀ d, ∀ e ∈ listI L d, e.name.data.toList ≠ [] ∧ 0 ≤ e.short ∧ e.short ≤ 1000000 ∧ e.name.size ≤ 255) := Lib.hid (fun d => ent_parts hi3 (d := d))
    have HOK : Hid (∀ d, ∀ e ∈ listI L d, F.EntOk e) := Lib.hid (fun d => listI_ok (tree_ok hi3) d)
    simp only [hnl]
    clear hr3 hnl hi3 hb3 cA cF cM HV HA hnx
    obtain ⟨B, hB⟩ : ∃ B, w3.heap.size = B := ⟨_, rfl⟩
    have s1 : (w3.alloc (.cells #[.slice ar nl cr, .int .i64 nx] 28)).heap.size = w3.heap.size + 1 := by simp
    have s2 : ((w3.alloc (.cells #[.slice ar nl cr, .int .i64 nx] 28)).alloc (.cells #[.int .i64 0] 3)).heap.size = w3.heap.size + 1 + 1 := by simp
    have e1 : (((w3.alloc (.cells #[.slice ar nl cr, .int .i64 nx] 28)).alloc (.cells #[.int .i64 0] 3)).alloc (.cells #[.string ⟨#[]⟩] 9)).heap[w3.heap.size + 1]? = some (.cells #[.int .i64 0] 3 (0, 0)) := by
      rw [Below.heap_alloc _ _ _ (by rw [s2]; omega), ← s1]
      exact heap_alloc_new _ _
    have e2 : (((w3.alloc (.cells #[.slice ar nl cr, .int .i64 nx] 28)).alloc (.cells #[.int .i64 0] 3)).alloc (.cells #[.string ⟨#[]⟩] 9)).heap[w3.heap.size + 1 + 1]? = some (.cells #[.string ⟨#[]⟩] 9 (0, 0)) := by
      rw [← s2]
      exact heap_alloc_new _ _
    have b1 : Below w3.heap.size w3 (((w3.alloc (.cells #[.slice ar nl cr, .int .i64 nx] 28)).alloc (.cells #[.int .i64 0] 3)).alloc (.cells #[.string ⟨#[]⟩] 9)) := (((Below.refl _ w3).alloc (Nat.le_refl _) _).alloc (by simp) _).alloc (by simp; omega) _
    have E1 := Lib.hid e1
    have E2 := Lib.hid e2
    have B1 := Lib.hid b1
    have HBB := Lib.hid hB
    clear e1 e2 b1 s1 s2
    go_upto_region 6 with fail
    generalize (((w3.alloc (.cells #[.slice ar nl cr, .int .i64 nx] 28)).alloc (.cells #[.int .i64 0] 3)).alloc (.cells #[.string ⟨#[]⟩] 9)) = W0 at *
    rw [hB] at E1 E2 B1
    (try rw [hB])
    clear hB
    have HG0 : Hid (Gone E L B W0 (.slice (some ⟨B + 1, 0, none⟩) 1 1) (.slice (some ⟨B + 1 + 1, 0, none⟩) 1 1) [0] [[]] 0 0) := Lib.hid (gone_root E L E1.out E2.out)
    have HBI : Hid (∀ W, Below B w3 W → theTree.Is W b L nx S) := Lib.hid (fun W hW => theTree.below HI3.out (by rw [HBB.out]; exact hW))
    have HBK : Hid (∀ W, Below B w3 W → KW W) := Lib.hid (fun W hW => HK.out W (HB3.out.trans (hW.mono (by rw [← HBB.out]; exact HB3.out.size))))
    clear E1 E2 HI3 HK
    go_wp2
    go_loopw [8, 9, 10] (fun dv pv iv wr => ∃ (u1 u2 : Value) (i : Nat) (ds : List Int) (ps : List (List (List UInt8))), u1 = dv ∧ u2 = pv ∧ iv = .int .i64 i ∧ i ≤ ds.length ∧ Gone E L B wr u1 u2 ds ps i 0 ∧ Below B w3 wr) (fun _ _ iv _ => 300 - (intOf iv).toNat)
    case atStart => exact ⟨_, _, 0, [0], [[]], rfl, rfl, rfl, by omega, HG0.out, B1.out⟩
    case round =>
      clear HG0 B1
      obtain ⟨dv, pv, i, ds, ps, rfl, rfl, rfl, hi, hg, hb⟩ := hrel
      obtain ⟨a1, c1, a2, c2, hdv, hpv⟩ := hg.forms
      have hle := hg.seen.len
      have hll := HLN.out
      obtain ⟨D, hD⟩ : ∃ D, ds.length = D := ⟨_, rfl⟩
      rw [hD] at hdv hpv hi hle
      subst hdv hpv
      have HGo := Lib.hid hg
      have HB := Lib.hid hb
      have hBs : B ≤ wr.heap.size := by have := hb.size; have := HBB.out; omega
      have HBs := Lib.hid hBs
      by_cases hin : i < D
      · have hiz : (i : Int) < (D : Int) := by omega
        have hi0 : (0 : Int) ≤ (i : Int) := by omega
        obtain ⟨d, hd⟩ : ∃ d, ds[i]? = some d := ⟨_, List.getElem?_eq_getElem (by rw [hD]; exact hin)⟩
        obtain ⟨g1, o1, rfl, hg1, hc1⟩ := hg.num hd
        have cL := theTree.list d (HBI.out wr hb)
        have HD := Lib.hid hd
        clear hg hb hd hD
        go_upto_region 10 with (go_at_call 12; refine cL.mono ?_; rintro e w4 ⟨mv, rfl, he4, hf4, hb4⟩; have HE4 := Lib.hid he4; have HB4 := Lib.hid hb4; have HS4 := Lib.hid (HGo.out.aside hf4); clear he4 hb4 hf4)
        obtain ⟨am, cm, hmv⟩ := HE4.out.len
        obtain ⟨n, hn⟩ : ∃ n, (listI L d).length = n := ⟨_, rfl⟩
        have HN := Lib.hid hn
        have hn1 : n ≤ 200 := by rw [← hn]; exact Nat.le_trans (listI_le L d) HLN.out
        rw [hn] at hmv
        subst hmv
        have HW4 : Hid (Below B w3 w4) := Lib.hid (HB.out.trans (HB4.out.mono HBs.out))
        have hk4 := HBK.out w4 HW4.out
        have cC := F.clean_c E hE0 hE8 (.slice am n cm) (listI L d) w4 HE4.out (by rw [hn]; omega) (HOK.out d) hk4.1 hk4.2
        obtain ⟨C, hC⟩ : ∃ C, F.cleanB E (listI L d) = C := ⟨_, rfl⟩
        have HC := Lib.hid hC
        rw [hC] at cC
        have HG4 := Lib.hid (HGo.out.below HB4.out)
        have HS : Hid (B ≤ w4.heap.size) := Lib.hid (Nat.le_trans HBs.out HB4.out.size)
        clear hn hC hk4 cL hc1 hg1 HGo HB hBs
        cases C with
        | false =>
          go_wp2_with (go_at_call 13; refine cC.mono ?_; rintro e w5 ⟨rfl, hb5⟩; have HB5 := Lib.hid hb5; clear hb5)
          go_roundw
          case rel => exact ⟨_, _, i + 1, ds, ps, rfl, rfl, by first | rfl | go_num, by have := (List.getElem?_eq_some_iff.1 HD.out).1; omega, (HG4.out.below HB5.out).over, HW4.out.trans (HB5.out.mono HS.out)⟩
          case measure => simp [intOf]; omega
        | true =>
          go_wp2_with (go_at_call 13; refine cC.mono ?_; rintro e w5 ⟨rfl, hb5⟩; have HB5 := Lib.hid hb5; clear hb5)
          have HG5 := Lib.hid (HG4.out.below HB5.out)
          have HW5 := Lib.hid (HW4.out.trans (HB5.out.mono HS.out))
          have HE5 := Lib.hid (LstIs.kept HE4.out HB5.out)
          clear cC HG4 HW4 HE4
          go_loopw [8, 9, 13] (fun dv pv kv wq => ∃ (u1 u2 : Value) (k : Nat) (ds : List Int) (ps : List (List (List UInt8))), u1 = dv ∧ u2 = pv ∧ kv = .int .i64 k ∧ k ≤ n ∧ ds[i]? = some d ∧ Gone E L B wq u1 u2 ds ps i k ∧ Below B w3 wq ∧ EntsIs wq (.slice am n cm) (listI L d) ∧ Aside (.slice am n cm) u1 u2) (fun _ _ kv _ => n - (intOf kv).toNat)
          case atStart => exact ⟨_, _, 0, ds, ps, rfl, rfl, rfl, by omega, HD.out, HG5.out, HW5.out, HE5.out, HS4.out⟩
          case round =>
            clear HG5 HW5 HE5 HS4 HD
            obtain ⟨dv, pv, k, ds, ps, rfl, rfl, rfl, hk, hd, hg, hb, he, hsd⟩ := hrel
            obtain ⟨a1, c1, a2, c2, hdv, hpv⟩ := hg.forms
            have hle := hg.seen.len
            have hll := HLN.out
            have hid := (List.getElem?_eq_some_iff.1 hd).1
            obtain ⟨D, hD⟩ : ∃ D, ds.length = D := ⟨_, rfl⟩
            rw [hD] at hdv hpv hle hid
            subst hdv hpv
            have HGo := Lib.hid hg
            have HB := Lib.hid hb
            have HD := Lib.hid hd
            have HE := Lib.hid he
            have HSD := Lib.hid hsd
            have HDL := Lib.hid hD
            have HBs : Hid (B ≤ wr.heap.size) := Lib.hid (by have := hb.size; have := HBB.out; omega)
            by_cases hkn : k < n
            · have hkz : (k : Int) < (n : Int) := by omega
              have hk0 : (0 : Int) ≤ (k : Int) := by omega
              have hi0 : (0 : Int) ≤ (i : Int) := by omega
              have hiz : (i : Int) < (D : Int) := by omega
              obtain ⟨x, hx⟩ : ∃ x, (listI L d)[k]? = some x := ⟨_, List.getElem?_eq_getElem (by rw [HN.out]; omega)⟩
              obtain ⟨p1, p2, p3, p4⟩ := HEP.out d x (List.mem_of_getElem? hx)
              obtain ⟨ns, hns, hlead, hpl⟩ := hg.way i d hd
              have HMO := Lib.hid (hlead.more hE0 HC.out hx p1 p2 p3)
              have HTO := Lib.hid (hlead.told hE0 HC.out hx p1 p2 p3)
              have HDI := Lib.hid (hlead.dir hE0 HC.out hx p1 p2 p3)
              have HSE := Lib.hid (hg.seen.push HG.out hd (listI_ents hx))
              have hfl := face_len hE0 p4
              have hxo := HOK.out d x (List.mem_of_getElem? hx)
              have hkw := HBK.out wr hb
              have cO := F.regr (W := wr) (fun w1 h1 => F.of_c E hE0 hE8 x hxo w1 (hkw.1.step h1) (hkw.2.step h1))
              have hpos : 0 < (listI L d).length := by rw [HN.out]; omega
              have HPO := Lib.hid hpos
              obtain ⟨g1, o1, rfl, hg1, hc1⟩ := hg.num hd
              obtain ⟨g2, o2, rfl, hg2, hc2⟩ := hg.path hns
              obtain ⟨gm, om, rfl, hgm, hrm⟩ := he.at hx
              obtain ⟨d0, d1, d2, d3, d4⟩ := ent_at hrm
              have k0 := cell_regrown d0
              have k1 := cell_regrown d1
              have k2 := cell_regrown d2
              have k3 := cell_regrown d3
              have k4 := cell_regrown d4
              have kp := cell_regrown hc2
              obtain ⟨nm, nd, dr, ck, sh⟩ := x
              obtain ⟨q, hq⟩ : ∃ q, F.faceL E ⟨nm, nd, dr, ck, sh⟩ = q := ⟨_, rfl⟩
              rw [hq] at HMO HTO HDI hfl
              have HTX : Hid (splitI (joinP (ns ++ [q])) = ([], 4) ∨ splitI (joinP (ns ++ [q])) = (ns ++ [q], 0)) := Lib.hid (split_more HMO.out.2.1 HMO.out.2.2)
              rw [show (⟨(F.faceL E ⟨nm, nd, dr, ck, sh⟩).toArray⟩ : ByteArray) = mkS q by rw [hq]; rfl] at cO
              unfold entV at cO
              have hcat := pathS_more ns q
              have hz1 : (pathS ns).size ≤ 1024 := by rw [pathS_size]; exact hpl
              have hz2 : (mkS q).size ≤ 2000 := by rw [mkS_size]; exact hfl
              have hz3 : (pathS (ns ++ [q])).size ≤ 9223372036854775807 := by
                rw [pathS_size, joinP_more, List.length_append, List.length_cons]
                omega
              have hPL := pathS_list (ns ++ [q])
              obtain ⟨PP, hPP⟩ : ∃ P, pathS (ns ++ [q]) = P := ⟨_, rfl⟩
              rw [hPP] at hcat hz3 hPL
              have HPP := Lib.hid hPP
              obtain ⟨PS, hPS⟩ : ∃ P, pathS ns = P := ⟨_, rfl⟩
              obtain ⟨FB, hFB⟩ : ∃ P, mkS q = P := ⟨_, rfl⟩
              rw [hPS] at hcat hz1 kp
              rw [hFB] at hcat hz2 cO
              have HFB := Lib.hid hFB
              have HPL := Lib.hid hPL
              simp only at d0 d1 d2 d3 d4 k0 k1 k2 k3 k4 HTO HDI HSE
              have HCM : Hid (∀ W, Below wr.heap.size wr W → W.cell? ⟨g1, o1 + i, none⟩ = some (.int .i64 d) ∧ W.cell? ⟨gm, om + k * 5 + 1, none⟩ = some (.int .i64 nd) ∧ W.cell? ⟨gm, om + k * 5 + 2, none⟩ = some (.bool dr)) := Lib.hid (fun W hW => ⟨by rw [hW.cell (p := ⟨g1, o1 + i, none⟩) hg1]; exact hc1, by rw [hW.cell (p := ⟨gm, om + k * 5 + 1, none⟩) hgm]; exact d1, by rw [hW.cell (p := ⟨gm, om + k * 5 + 2, none⟩) hgm]; exact d2⟩)
              have hw1 : ¬ 9223372036854775807 < PS.size + 1 := by omega
              have hw2 : ¬ 9223372036854775807 < PS.size + 1 + FB.size := by omega
              clear hPP hx hns hlead hpl hfl hxo hkw hpos hrm hq hPS hFB hPL hg hb he hsd hd p1 p2 p3 p4 HMO
              go_upto_region 14 with fail
              refine wp_region_quiet_below (by kernel_rfl) (by kernel_rfl) ?_
              repeat (quiet_step (first | exact cO _ _))
              refine wpQuiet_nil ?_
              intro _ hw'
              obtain ⟨⟨dq, osq⟩, hw''⟩ := hw'
              subst hw''
              have HB2 : Hid (Below wr.heap.size wr (Go.Sort.grow (redrawn wr dq) osq)) := Lib.hid (below_regrown _ dq osq)
              clear cO k0 k1 k2 k3 k4 kp d0 d1 d2 d3 d4 hc1 hc2 hg1 hg2 hgm
              generalize Go.Sort.grow (redrawn wr dq) osq = w2 at *
              (try rw [hcat])
              have HW2 : Hid (Below B w3 w2) := Lib.hid (HB.out.trans (HB2.out.mono HBs.out))
              have cS := splitW_c PP w2 hz3 (HBK.out w2 HW2.out)
              rw [HPL.out] at cS
              rcases HTX.out with hsp | hsp
              · rw [hsp] at cS
                simp only at cS
                clear hsp HTX HTO HDI HSE HCM
                go_wp2_with (go_at_call 15; refine cS.mono ?_; rintro e w6 ⟨v6, rfl, hT6, hb6⟩; have HB6 := Lib.hid (HB2.out.trans (hb6.mono HB2.out.size)); clear hT6 hb6)
                go_roundw
                case rel => exact ⟨_, _, k + 1, ds, ps, rfl, rfl, by first | rfl | go_num, by omega, HD.out, (HGo.out.below HB6.out).next, HB.out.trans (HB6.out.mono HBs.out), LstIs.kept HE.out HB6.out, HSD.out⟩
                case measure => simp [intOf]; omega
              · rw [hsp] at cS
                have hsh := split_short hsp
                obtain ⟨t1, t2⟩ := HTO.out hsp
                have hM16 := splitI_len (joinP (ns ++ [q]))
                rw [hsp] at hM16
                simp only at cS hM16
                obtain ⟨M, hM⟩ : ∃ M, (ns ++ [q]).length = M := ⟨_, rfl⟩
                have hM1 : M = ns.length + 1 := by rw [← hM, List.length_append]; rfl
                have HLQ : Hid ((ns ++ [q])[M - 1]? = some q) := Lib.hid (by rw [hM1, Nat.add_sub_cancel, List.getElem?_append_right (Nat.le_refl _), Nat.sub_self]; rfl)
                have HML := Lib.hid hM
                rw [hM] at hM16
                have HSH := Lib.hid hsh
                have n1 : walkV (nodeI (fdW E) L PP.data.toList) = .tuple #[.int .i64 nd, .bool dr, .int .i64 0] := by
                  rw [HPL.out]
                  exact congrArg walkV t1
                have n2 : parV (parentI (fdW E) L PP.data.toList) = .tuple #[.int .i64 d, .string FB, .int .i64 0] := by
                  rw [HPL.out, ← HFB.out]
                  exact congrArg parV t2
                have HNo : Hid (∀ W, Below B w3 W → _) := Lib.hid (fun W hW => nodeW_c E W b L nx S PP hE0 hE8 (HBK.out W hW) (HBI.out W hW) hz3)
                have HPa : Hid (∀ W, Below B w3 W → _) := Lib.hid (fun W hW => parentW_c E W b L nx S PP hE0 hE8 (HBK.out W hW) (HBI.out W hW) hz3)
                rw [n1] at HNo
                rw [n2] at HPa
                have hm1 : (0 : Int) ≤ (M : Int) - 1 := by omega
                have hm1b : (1 : Int) ≤ (M : Int) := by omega
                have hm2 : (M : Int) - 1 ≤ (M : Int) := by omega
                have hm3 : (M : Int) - 1 < (M : Int) := by omega
                have hk1 : ((M : Int) - 1).toNat = M - 1 := by omega
                have hwr : IntKind.i64.wrap ((M : Int) - 1) = (M : Int) - 1 := IntWalk.i64_in _ (by omega)
                have hm5 : (0 : Int) ≤ (M : Int) - 1 ∧ (M : Int) - 1 < (M : Int) := by omega
                clear hsp hsh t1 t2 n1 n2 hM hM1 HTX HTO hcat hz1 hz2
                go_upto_region 19 with (first
                  | (go_at_call 15; refine cS.mono ?_; rintro e w6 ⟨v6, rfl, hT6, hb6⟩; obtain ⟨a6, c6, hv6⟩ := hT6.len; rw [List.length_map, HML.out] at hv6; subst hv6; have HT6 := Lib.hid hT6; have HB6 := Lib.hid (HB2.out.trans (hb6.mono HB2.out.size)); clear hT6 hb6)
                  | (go_at_call 8; refine (HNo.out _ (HB.out.trans (HB6.out.mono HBs.out))).mono ?_; rintro e w7 ⟨rfl, hb7⟩; have HB7 := Lib.hid (HB6.out.trans (hb7.mono HB6.out.size)); have HT7 := Lib.hid (LstIs.kept HT6.out hb7); clear hb7)
                  | (go_at_call 10; refine (HPa.out _ (HB.out.trans (HB7.out.mono HBs.out))).mono ?_; rintro e w8 ⟨rfl, hb8⟩; have HB8 := Lib.hid (HB7.out.trans (hb8.mono HB7.out.size)); have HT8 := Lib.hid (LstIs.kept HT7.out hb8); clear hb8))
                obtain ⟨q1, q2, q3⟩ := HCM.out w8 HB8.out
                obtain ⟨g6, o6, rfl, hg6, hq6⟩ := txt_at HT8.out (j := M - 1) (s := mkS q) (by rw [List.getElem?_map, HLQ.out]; rfl)
                rw [HFB.out] at hq6
                have hne : (FB.toList != FB.toList) = false := by simp
                clear cS HNo HPa HT6 HT7 HT8 HB6 HB7 HCM
                cases dr with
                | false =>
                  go_wp2
                  go_roundw
                  case rel => exact ⟨_, _, k + 1, ds, ps, rfl, rfl, by first | rfl | go_num, by omega, HD.out, (HGo.out.below HB8.out).next, HB.out.trans (HB8.out.mono HBs.out), LstIs.kept HE.out HB8.out, HSD.out⟩
                  case measure => simp [intOf]; omega
                | true =>
                  have HL2 := Lib.hid (HDI.out rfl)
                  have HG8 := Lib.hid (HGo.out.below HB8.out)
                  have HE8 := Lib.hid (LstIs.kept HE.out HB8.out)
                  have HW8 : Hid (Below B w3 w8) := Lib.hid (HB.out.trans (HB8.out.mono HBs.out))
                  have HS8 : Hid (B ≤ w8.heap.size) := Lib.hid (Nat.le_trans HBs.out HB8.out.size)
                  have hbA : Below w8.heap.size w8 (w8.alloc (.cells #[.int .i64 nd] 3)) := (Below.refl _ _).alloc (Nat.le_refl _) _
                  have HOA := Lib.hid (gone_own HG8.out.own hbA)
                  have HIA : Hid (NumsL (w8.alloc (.cells #[.int .i64 nd] 3)) (.slice (some ⟨w8.heap.size, 0, none⟩) 1 1) [nd]) := Lib.hid (LstIs.block (numC_len _) (heap_alloc_new _ _))
                  have HSA : Hid (B ≤ (w8.alloc (.cells #[.int .i64 nd] 3)).heap.size) := Lib.hid (Nat.le_trans HS8.out hbA.size)
                  have hlen : ds.length + [nd].length ≤ 100000 := by have := HDL.out; simp; omega
                  have hlen2 : ps.length + [PP].length ≤ 100000 := by have := HDL.out; have := HGo.out.same; simp; omega
                  clear hbA HDI HB8
                  go_upto_region 23 with (at_builtin; refine wpList_append_lst intElem rfl _ _ rfl B _ _ _ rfl HOA.out _ [nd] (numC_len _) (numC_one _) rfl HIA.out hlen HSA.out ?_; intro v9 w9 ho9 hg9 hr9; have HH9 := Lib.hid (HG8.out.half HS8.out HW8.out HE8.out HSD.out (d := d) HSE.out HPO.out ho9 hg9 hr9); clear ho9 hg9 hr9)
                  have HS9 : Hid (B ≤ w9.heap.size) := Lib.hid (by have := HH9.out.kept.size; have := HBB.out; omega)
                  have HHA := Lib.hid (HH9.out.al HS9.out (.cells #[.string PP] 9))
                  have HIB : Hid (TxtsIs (w9.alloc (.cells #[.string PP] 9)) (.slice (some ⟨w9.heap.size, 0, none⟩) 1 1) [PP]) := Lib.hid (LstIs.block (txC_len _) (heap_alloc_new _ _))
                  have HSB : Hid (B ≤ (w9.alloc (.cells #[.string PP] 9)).heap.size) := Lib.hid (Nat.le_trans HS9.out (by simp))
                  clear q1 q2 q3 hq6 hg6
                  go_wp2_with (at_builtin; refine wpList_append_lst strElem rfl _ _ rfl B _ _ _ rfl HHA.out.txt _ [PP] (txC_len _) (fun x _ => txC_one x) rfl HIB.out hlen2 HSB.out ?_; intro v10 w10 ho10 hg10 hr10; have HF10 := Lib.hid (HH9.out.full HS9.out HL2.out HSH.out HPO.out (by rw [HPP.out]; exact ho10) hg10 hr10); clear ho10 hg10 hr10)
                  go_roundw
                  case rel => exact ⟨_, _, k + 1, ds ++ [nd], ps ++ [ns ++ [q]], rfl, rfl, by first | rfl | go_num, by omega, by rw [List.getElem?_append_left (by have := HDL.out; omega)]; exact HD.out, HF10.out.1, HF10.out.2.2.2, HF10.out.2.1, HF10.out.2.2.1⟩
                  case measure => simp [intOf]; omega
            · have hkz : ¬ (k : Int) < (n : Int) := by omega
              go_wp2
              go_roundw
              case rel => exact ⟨_, _, i + 1, ds, ps, rfl, rfl, by first | rfl | go_num, by omega, HGo.out.over, HB.out⟩
              case measure => simp [intOf]; omega
      · have hiz : ¬ (i : Int) < (D : Int) := by omega
        go_wp2
        go_ret
        exact ⟨rfl, HB3.out.trans (HB.out.mono (by rw [← HBB.out]; exact HB3.out.size))⟩
end Go.Proofs.YtfioknaadbgjlaaGreatDoor
