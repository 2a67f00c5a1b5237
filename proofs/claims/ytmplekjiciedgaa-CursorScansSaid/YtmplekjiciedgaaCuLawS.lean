/-
  The law CursorScans of stage 16, walked, over what the program's Read and Valid keep.
-/
import Derived.Test.YtmplekjiciedgaaCuScanK
import Derived.Test.YtmplekjiciedgaaCuStep
namespace Go.Proofs.Ytmplekjiciedgaa
open Go.RowKit Go.Sort
set_option linter.unusedVariables false

theorem fst_ok {l : List OpT} {n : Nat} (h : fewI l n = true) (hn : n ≤ 500) : l.length ≤ n := (fewI_spec h hn).1
theorem take_pos {l : List Ent} {n : Nat} (h : ¬ l.take n = []) : 1 ≤ (l.take n).length := by
  rcases Nat.eq_zero_or_pos (l.take n).length with h0 | h0
  · exact absurd (List.eq_nil_of_length_eq_zero h0) h
  · exact h0
set_option maxHeartbeats 16000000 in
set_option maxRecDepth 100000 in
theorem scans_walk (hR : ReadC) (hV : ValidC) (v1 v2 : Value) (l1 l2 : List OpT) (sa : Option Addr) (sn sc : Nat) (bs : List Int) (w : World)
    (h1 : OpTs w v1 l1) (hl1 : l1.length ≤ 9223372036854775807) (hs1 : ∀ x ∈ l1, x.s.size ≤ 9223372036854775807 ∧ x.ns.size ≤ 9223372036854775807) (hk1 : ∀ x ∈ l1, 0 ≤ x.k ∧ x.k ≤ 255)
    (h2 : OpTs w v2 l2) (hl2 : l2.length ≤ 9223372036854775807) (hs2 : ∀ x ∈ l2, x.s.size ≤ 9223372036854775807 ∧ x.ns.size ≤ 9223372036854775807) (hk2 : ∀ x ∈ l2, 0 ≤ x.k ∧ x.k ≤ 255)
    (hbs : bs.length = sn) (hbb : ∀ x ∈ bs, 0 ≤ x ∧ x ≤ 255) (hbc : sn = 0 ∨ ∃ g off, sa = some ⟨g, off, none⟩ ∧ g < w.heap.size ∧ ∀ j, j < sn → w.cell? ⟨g, off + j, none⟩ = some (.int .u8 (bs.getD j 0))) (hsn : sn ≤ 9223372036854775807) :
    Calls Try.prog 5 #[v1, v2, .slice sa sn sc] w fun e w' => e = .returned (.bool true) ∧ Below w.heap.size w w' := by
  have cA := awake16_c hR hV w
  have HA : Hid (∀ w1, Calls Try.prog 6 #[] w1 fun e w' => e = .returned (.bool true) ∧ Below w1.heap.size w1 w') := Lib.hid (fun w1 => awake16_c hR hV w1)
  have cF1 := fun W (h : OpTs W v1 l1) => few10_c v1 l1 30 W h hl1 (by omega) hs1
  have cF2 := fun W (h : OpTs W v2 l2) => few10_c v2 l2 60 W h hl2 (by omega) hs2
  obtain ⟨R1, hR1⟩ : ∃ R, fewI l1 30 = R := ⟨_, rfl⟩
  obtain ⟨R2, hR2⟩ : ∃ R, fewI l2 60 = R := ⟨_, rfl⟩
  rw [hR1] at cF1
  rw [hR2] at cF2
  have HV1 := Lib.hid h1
  have HV2 := Lib.hid h2
  obtain ⟨a1, cap1, rfl⟩ := h1.len
  obtain ⟨a2, cap2, rfl⟩ := h2.len
  obtain ⟨m1, hm1⟩ : ∃ m, l1.length = m := ⟨_, rfl⟩
  obtain ⟨m2, hm2⟩ : ∃ m, l2.length = m := ⟨_, rfl⟩
  have HM1 := Lib.hid hm1
  have HM2 := Lib.hid hm2
  simp only [hm1] at cF1 HV1 ⊢
  simp only [hm2] at cF2 HV2 ⊢
  cases R1 with
  | false =>
    clear hs1 hk1 hs2 hk2 hR hV h1 h2 hm1 hm2 hbs hbb hbc cF2
    go_enter Try.func5, Try.ntmps5
    go_wp2_with (first
      | (go_at_call 6; with_reducible refine cA.mono ?_; rintro e w1 ⟨rfl, hb1⟩; have HB1 := Lib.hid hb1; clear hb1)
      | (go_at_call 7; refine (cF1 _ (LstIs.kept HV1.out HB1.out)).mono ?_; rintro e w2 ⟨rfl, hw2⟩; subst hw2)
      | (go_at_call 6; refine (HA.out _).mono ?_; rintro e w3 ⟨rfl, hb3⟩))
    go_ret
    exact ⟨rfl, HB1.out.trans (hb3.mono HB1.out.size)⟩
  | true =>
    cases R2 with
    | false =>
      clear hs1 hk1 hs2 hk2 hR hV h1 h2 hm1 hm2 hbs hbb hbc
      go_enter Try.func5, Try.ntmps5
      go_wp2_with (first
        | (go_at_call 6; with_reducible refine cA.mono ?_; rintro e w1 ⟨rfl, hb1⟩; have HB1 := Lib.hid hb1; clear hb1)
        | (go_at_call 7; have f1 := cF1 _ (LstIs.kept HV1.out HB1.out); refine f1.mono ?_; rintro e w2 ⟨rfl, hw2⟩; subst hw2; clear f1 cF1)
        | (go_at_call 7; have f1 := cF2 _ (LstIs.kept HV2.out HB1.out); refine f1.mono ?_; rintro e w2 ⟨rfl, hw2⟩; subst hw2; clear f1)
        | (go_at_call 6; refine (HA.out _).mono ?_; rintro e w3 ⟨rfl, hb3⟩))
      go_ret
      exact ⟨rfl, HB1.out.trans (hb3.mono HB1.out.size)⟩
    | true =>
      have hm30 : m1 ≤ 30 := by rw [← hm1]; exact fst_ok hR1 (by omega)
      have hm60 : m2 ≤ 60 := by rw [← hm2]; exact fst_ok hR2 (by omega)
      have HSZ1 := Lib.hid hs1
      have HK1 := Lib.hid hk1
      have HSZ2 := Lib.hid hs2
      have HK2 := Lib.hid hk2
      have HRC := Lib.hid hR
      have HBC := Lib.hid hbc
      have HBB := Lib.hid hbb
      have HBS := Lib.hid hbs
      clear hs1 hk1 hs2 hk2 hR hV h1 h2 hm1 hm2 hR1 hR2 hbs hbb hbc
      go_enter Try.func5, Try.ntmps5
      go_upto_region 4 with (first
        | (go_at_call 6; with_reducible refine cA.mono ?_; rintro e w1 ⟨rfl, hb1⟩; have HB1 := Lib.hid hb1; clear hb1)
        | (go_at_call 7; have f1 := cF1 _ (LstIs.kept HV1.out HB1.out); refine f1.mono ?_; rintro e w2 ⟨rfl, hw2⟩; subst hw2; clear f1 cF1)
        | (go_at_call 7; have f1 := cF2 _ (LstIs.kept HV2.out HB1.out); refine f1.mono ?_; rintro e w2 ⟨rfl, hw2⟩; subst hw2; clear f1)
        | (go_at_call 8; refine (theTree.new _).mono ?_; rintro e w3 ⟨b, S, rfl, hi3, hs3, hb3⟩; have HI3 := Lib.hid hi3; have HS3 := Lib.hid (fun k hk => Nat.le_trans HB1.out.size (hs3 k hk)); have HB3 := Lib.hid (HB1.out.trans (hb3.mono HB1.out.size)); clear hi3 hs3 hb3))
      clear cA cF2 HA
      go_wp2
      go_loopw [8] (fun iv wr => ∃ (i : Nat) (L : List Itm) (nx : Int) (S : Nat → Prop), i ≤ m1 ∧ iv = .int .i64 i ∧ theTree.Is wr b L nx S ∧ (∀ k, S k → w.heap.size ≤ k) ∧ nx ≤ 1 + i ∧ Below w.heap.size w wr) (fun iv _ => m1 - (intOf iv).toNat)
      case atStart => exact ⟨0, [], 1, S, by omega, rfl, HI3.out, HS3.out, by omega, HB3.out⟩
      case round =>
        clear HI3 HS3 HB3
        obtain ⟨i, L, nx, S, hi, rfl, his, hS, hnx, hb⟩ := hrel
        have hnx1 := theTree.next his
        by_cases him : i < m1
        · have hiz : (i : Int) < (m1 : Int) := by omega
          obtain ⟨o, ho⟩ : ∃ o, l1[i]? = some o := ⟨_, List.getElem?_eq_getElem (by rw [HM1.out]; omega)⟩
          obtain ⟨g, off, rfl, hg, hrg⟩ := HV1.out.at ho
          have hom := List.mem_of_getElem? ho
          have h9 := rangeAt_below hrg hg hb
          have o0 : wr.cell? ⟨g, off + i * 7, none⟩ = some (.int .u8 o.k) := h9 0 _ rfl
          have o1 : wr.cell? ⟨g, off + i * 7 + 1, none⟩ = some (.int .i64 o.d) := h9 1 _ rfl
          have o2 : wr.cell? ⟨g, off + i * 7 + 2, none⟩ = some (.int .i64 o.dt) := h9 2 _ rfl
          have o3 : wr.cell? ⟨g, off + i * 7 + 3, none⟩ = some (.string o.s) := h9 3 _ rfl
          have o4 : wr.cell? ⟨g, off + i * 7 + 4, none⟩ = some (.string o.ns) := h9 4 _ rfl
          have o5 : wr.cell? ⟨g, off + i * 7 + 5, none⟩ = some (.bool o.isD) := h9 5 _ rfl
          have o6 : wr.cell? ⟨g, off + i * 7 + 6, none⟩ = some (.int .i64 o.sh) := h9 6 _ rfl
          have hos := HSZ1.out o hom
          have hok := HK1.out o hom
          have hqn := doI_next L nx o
          have cDo := lawDo10_c theTree o his hos.1 hos.2 hok.1 hok.2 (by omega)
          obtain ⟨Q, hQ⟩ : ∃ Q, doI L nx o = Q := ⟨_, rfl⟩
          rw [hQ] at cDo hqn
          unfold opV at cDo
          have HBb := Lib.hid hb
          have HSS := Lib.hid hS
          clear hQ hg hrg ho hom h9 hb hS
          go_wp2_with (go_at_call 9; refine cDo.mono ?_; rintro e w4 ⟨S4, rfl, hi4, ht4⟩; have hlow := ht4.low HBb.out.size HSS.out; have HI4 := Lib.hid hi4; have HL4 := Lib.hid hlow; clear hi4 ht4 hlow)
          go_roundw
          case rel => exact ⟨i + 1, Q.1.1, Q.1.2, S4, by omega, by first | rfl | go_num, HI4.out, HL4.out.2, by omega, HBb.out.trans HL4.out.1⟩
          case measure => simp [intOf]; omega
        · have hiz : ¬ (i : Int) < (m1 : Int) := by omega
          have cL := theTree.list 0 his
          have HB := Lib.hid hb
          have HIS := Lib.hid his
          have HS := Lib.hid hS
          obtain ⟨F, hF⟩ : ∃ E, listI L 0 = E := ⟨_, rfl⟩
          have hlen : F.length ≤ 200 := by rw [← hF]; exact Nat.le_trans (listI_le L 0) (theTree.len his)
          have HSC : Hid (Scan F F [] 0 nx (listI L 0)) := Lib.hid (by
            rw [hF]
            refine Scan.start ?_ ?_
            · rw [← hF]; exact (theGood his).risesL 0
            · rw [← hF]; exact listI_cook (theGood his) 0)
          rw [hF] at cL
          have hnx31 : nx ≤ 31 := by omega
          obtain ⟨M, hM⟩ : ∃ M, F.length = M := ⟨_, rfl⟩
          have HML := Lib.hid hM
          rw [hM] at hlen
          clear his hS hb hF hM
          go_upto_region 9 with (go_at_call 10; refine cL.mono ?_; rintro e w5 ⟨fv, rfl, he5, hf5, hb5⟩; have HE5 := Lib.hid he5; have HF5 := Lib.hid hf5.1; have HB5 := Lib.hid hb5; clear he5 hb5 hf5)
          have HI5 := Lib.hid (theTree.below HIS.out HB5.out)
          have HW5 := Lib.hid (HB.out.trans (HB5.out.mono HB.out.size))
          have HLT5 := Lib.hid (theTree.lt HI5.out)
          have HFS5 := Lib.hid (EntsS.new HE5.out (theTree.lt HIS.out) HF5.out)
          obtain ⟨af, cf, hfv⟩ := HE5.out.len
          rw [HML.out] at hfv
          subst hfv
          have hbA : Below w5.heap.size w5 (w5.alloc (.cells #[] 46)) := (Below.refl _ _).alloc (Nat.le_refl _) _
          have HBA := Lib.hid hbA
          have HEM : Hid ((w5.alloc (.cells #[] 46)).heap[w5.heap.size]? = some (.cells #[] 46 (0, 0))) := Lib.hid (heap_alloc_new _ _)
          have HOE : Hid (World.ownsRow (w5.alloc (.cells #[] 46)) w5.heap.size 46 5 (.slice (some ⟨w5.heap.size, 0, none⟩) 0 0) 0 []) := Lib.hid (own_new HEM.out (Nat.le_refl _))
          have HAA := Lib.hid (LstIs.kept HE5.out hbA)
          have hlen0 : 0 + F.length ≤ 100000 := by have := HML.out; omega
          clear hbA cL HB HIS
          go_upto_region 10 with (at_builtin; refine wpList_append_lst entElem rfl _ _ rfl w5.heap.size _ 0 [] rfl HOE.out _ F (entC_len F) (fun y _ => entC_one y) rfl HAA.out hlen0 HBA.out.size ?_; intro v6 w6 ho6 hg6 hr6; have HO6 := Lib.hid ho6; have HB6 := Lib.hid (HBA.out.grown hg6 HBA.out.size (fun j hj => (HOE.out.lt j hj).1)); clear ho6 hg6 hr6)
          have HH6 : Hid (Held w w6 b (.slice af M cf) v6 (.slice none 0 0) F F [] L nx S) := Lib.hid ⟨theTree.below HI5.out HB6.out, HS.out, HW5.out.trans (HB6.out.mono HW5.out.size), HFS5.out.below HB6.out, EntsS.own (l := F) (by have h7 := HO6.out; rw [List.nil_append] at h7; exact h7) (by rw [Nat.zero_add]) HLT5.out, EntsS.nil _ _⟩
          clear HI5 HW5 HLT5 HFS5 HE5 HF5 HOE HAA HEM HBA HO6 HB5 HS
          go_wp2
          go_loopw [11, 12, 13, 14, 15, 16] (fun av rv cv dv lv iv wq => ∃ (u1 u2 : Value) (i : Nat) (c nx : Int) (dn : Bool) (L : List Itm) (S : Nat → Prop) (A Rd : List Ent), u1 = av ∧ u2 = rv ∧ cv = .int .i64 c ∧ dv = .bool dn ∧ lv = .int .i64 i ∧ iv = .int .i64 i ∧ i ≤ 200 ∧ Held w wq b (.slice af M cf) u1 u2 F A Rd L nx S ∧ Scan F A Rd c nx (listI L 0) ∧ c ≤ 1000000 ∧ nx ≤ 31 + min (3 * i) m2 ∧ (dn = false → i ≤ Rd.length) ∧ (dn = true → aboveC c (listI L 0) = [] ∧ i ≤ Rd.length + 1)) (fun _ _ _ _ _ iv _ => 200 - (intOf iv).toNat)
          case atStart => exact ⟨_, _, 0, 0, nx, false, L, S, F, [], rfl, rfl, rfl, rfl, rfl, rfl, by omega, HH6.out, HSC.out, by omega, by omega, fun _ => Nat.le_refl _, fun h => Bool.noConfusion h⟩
          case round =>
            clear HH6 HSC
            obtain ⟨av, rv, i, c, nx, dn, L, S, A, Rd, rfl, rfl, rfl, rfl, rfl, rfl, hi, hh, hsc, hc6, hnx, hdf, hdt⟩ := hrel
            have HH := Lib.hid hh
            have HSC := Lib.hid hsc
            have hnx1 := theTree.next hh.tree
            have hal := hsc.all_le hnx1
            have hrl := hsc.rd_le
            have hcp := hsc.pos
            cases dn with
            | true =>
              obtain ⟨hab, hiR⟩ := hdt rfl
              have hiA : i ≤ A.length + 1 := by omega
              have hi2 : (i : Int) < 200 := by omega
              have hris := (theGood hh.tree).risesL 0
              have cL := theTree.list 0 hh.tree
              have hlen : (listI L 0).length ≤ 200 := Nat.le_trans (listI_le L 0) (theTree.len hh.tree)
              have hA90 : A.length ≤ 200 := by omega
              have hR90 : Rd.length ≤ 200 := by omega
              obtain ⟨E, hE⟩ : ∃ E, listI L 0 = E := ⟨_, rfl⟩
              rw [hE] at cL hlen HSC hab
              have HST := Lib.hid (fun (e : Ent) (h1 : e ∈ F) (h2 : e ∈ E) => HSC.out.stay hab h1 h2)
              have HCT := Lib.hid (fun (e : Ent) (h1 : e ∈ Rd) => HSC.out.count h1)
              have HIN := Lib.hid (fun (e : Ent) (h1 : e ∈ Rd) => (HSC.out.red e h1).1)
              obtain ⟨aa, ca, hav⟩ := HH.out.al.1.len
              obtain ⟨ar, cr, hrv⟩ := HH.out.rs.1.len
              obtain ⟨NA, hNA⟩ : ∃ n, A.length = n := ⟨_, rfl⟩
              obtain ⟨NR, hNR⟩ : ∃ n, Rd.length = n := ⟨_, rfl⟩
              have HNA := Lib.hid hNA
              have HNR := Lib.hid hNR
              rw [hNA] at hav hA90 hiA
              rw [hNR] at hrv hR90
              subst hav hrv
              have hiAz : (i : Int) ≤ (NA : Int) + 1 := by omega
              clear hdt hdf hh hsc hab hE hris hNA hNR hrl hal hiR hnx hcp hc6
              go_upto_region 39 with (go_at_call 10; refine cL.mono ?_; rintro e w7 ⟨ev, rfl, he7, -, hb7⟩; have HE7 := Lib.hid he7; have HH7 := Lib.hid (HH.out.below hb7); clear he7 hb7)
              obtain ⟨ae, ce, hev⟩ := HE7.out.len
              obtain ⟨NE, hNE⟩ : ∃ n, E.length = n := ⟨_, rfl⟩
              rw [hNE] at hev hlen
              subst hev
              clear cL HH HSC
              go_wp2
              go_loopw [29] (fun iv wq => ∃ k : Nat, iv = .int .i64 k ∧ k ≤ M ∧ Below w7.heap.size w7 wq) (fun iv _ => M - (intOf iv).toNat)
              case atStart => exact ⟨0, rfl, by omega, Below.refl _ _⟩
              case round =>
                obtain ⟨k, rfl, hkM, hb⟩ := hrel
                have HB := Lib.hid hb
                by_cases hk : k < M
                · have hkz : (k : Int) < (M : Int) := by omega
                  have hk0 : (0 : Int) ≤ (k : Int) := by omega
                  obtain ⟨x, hx⟩ : ∃ x, F[k]? = some x := ⟨_, List.getElem?_eq_getElem (by rw [HML.out]; omega)⟩
                  obtain ⟨g, off, rfl, hg, hrr⟩ := HH7.out.fs.1.at hx
                  have HD := Lib.hid (fun W (hW : Below w7.heap.size w7 W) => ent_at (rangeAt_below hrr hg hW))
                  obtain ⟨d0, d1, d2, d3, d4⟩ := HD.out wr hb
                  have cH := has16_c _ E x wr (LstIs.kept HE7.out hb) (by rw [hNE]; omega)
                  have hxF := List.mem_of_getElem? hx
                  by_cases hxE : x ∈ E
                  · have hc1 := HST.out x hxF hxE
                    rw [decide_eq_true hxE] at cH
                    have HK := Lib.hid (fun W (hW : Below w7.heap.size w7 W) => count16_c _ Rd x W (HH7.out.rs.below hW).1 (by rw [HNR.out]; omega))
                    rw [hc1] at HK
                    obtain ⟨nm, nd, dr, ck, sh⟩ := x
                    unfold entV at cH HK
                    simp only at d0 d1 d2 d3 d4 cH HK HD
                    clear hx hrr hg hb hxF hxE hc1
                    go_wp2_with (first
                      | (go_at_call 16; refine cH.mono ?_; rintro e w8 ⟨rfl, hb8⟩; have HB8 := Lib.hid (HB.out.trans (hb8.mono HB.out.size)); clear hb8 d0 d1 d2 d3 d4; obtain ⟨d0, d1, d2, d3, d4⟩ := HD.out w8 HB8.out)
                      | (go_at_call 17; refine (HK.out w8 HB8.out).mono ?_; rintro e w9 ⟨rfl, hb9⟩; have HB9 := Lib.hid (HB8.out.trans (hb9.mono HB8.out.size)); clear hb9))
                    go_roundw
                    case rel => exact ⟨k + 1, by first | rfl | go_num, by omega, HB9.out⟩
                    case measure => simp [intOf]; omega
                  · rw [decide_eq_false hxE] at cH
                    obtain ⟨nm, nd, dr, ck, sh⟩ := x
                    unfold entV at cH
                    simp only at d0 d1 d2 d3 d4 cH
                    clear hx hrr hg hb hxF hxE
                    go_wp2_with (go_at_call 16; refine cH.mono ?_; rintro e w8 ⟨rfl, hb8⟩; have HB8 := Lib.hid (HB.out.trans (hb8.mono HB.out.size)); clear hb8 d0 d1 d2 d3 d4)
                    go_roundw
                    case rel => exact ⟨k + 1, by first | rfl | go_num, by omega, HB8.out⟩
                    case measure => simp [intOf]; omega
                · have hkz : ¬ (k : Int) < (M : Int) := by omega
                  clear hb
                  go_wp2
                  go_loopw [30] (fun iv wq => ∃ k : Nat, iv = .int .i64 k ∧ k ≤ NR ∧ Below w7.heap.size w7 wq) (fun iv _ => NR - (intOf iv).toNat)
                  case atStart => exact ⟨0, rfl, by omega, HB.out⟩
                  case round =>
                    clear HB
                    obtain ⟨k, rfl, hkR, hb⟩ := hrel
                    have HB := Lib.hid hb
                    by_cases hk : k < NR
                    · have hkz : (k : Int) < (NR : Int) := by omega
                      have hk0 : (0 : Int) ≤ (k : Int) := by omega
                      obtain ⟨x, hx⟩ : ∃ x, Rd[k]? = some x := ⟨_, List.getElem?_eq_getElem (by rw [HNR.out]; omega)⟩
                      have hxR := List.mem_of_getElem? hx
                      have hc1 := HCT.out x hxR
                      have cH := has16_c _ A x wr (HH7.out.al.below hb).1 (by rw [HNA.out]; omega)
                      rw [decide_eq_true (HIN.out x hxR)] at cH
                      have HK := Lib.hid (fun W (hW : Below w7.heap.size w7 W) => count16_c _ Rd x W (HH7.out.rs.below hW).1 (by rw [HNR.out]; omega))
                      rw [hc1] at HK
                      obtain ⟨g, off, rfl, hg, hrr⟩ := HH7.out.rs.1.at hx
                      have HD := Lib.hid (fun W (hW : Below w7.heap.size w7 W) => ent_at (rangeAt_below hrr hg hW))
                      obtain ⟨d0, d1, d2, d3, d4⟩ := HD.out wr hb
                      obtain ⟨nm, nd, dr, ck, sh⟩ := x
                      unfold entV at cH HK
                      simp only at d0 d1 d2 d3 d4 cH HK HD
                      clear hx hrr hg hb hxR hc1
                      go_wp2_with (first
                        | (go_at_call 16; refine cH.mono ?_; rintro e w8 ⟨rfl, hb8⟩; have HB8 := Lib.hid (HB.out.trans (hb8.mono HB.out.size)); clear hb8 d0 d1 d2 d3 d4; obtain ⟨d0, d1, d2, d3, d4⟩ := HD.out w8 HB8.out)
                        | (go_at_call 17; refine (HK.out w8 HB8.out).mono ?_; rintro e w9 ⟨rfl, hb9⟩; have HB9 := Lib.hid (HB8.out.trans (hb9.mono HB8.out.size)); clear hb9))
                      go_roundw
                      case rel => exact ⟨k + 1, by first | rfl | go_num, by omega, HB9.out⟩
                      case measure => simp [intOf]; omega
                    · have hkz : ¬ (k : Int) < (NR : Int) := by omega
                      have HBF := Lib.hid (HH7.out.low.trans (hb.mono HH7.out.low.size))
                      go_wp2
                      go_ret
                      exact ⟨by first | rfl | simp, HBF.out⟩
            | false =>
              have hiR := hdf rfl
              have hi200 : i < 200 := by omega
              have hiz : (i : Int) < 200 := by omega
              have hi0 : (0 : Int) ≤ (i : Int) := by omega
              have hR90 : Rd.length ≤ 200 := by omega
              have hA90 : A.length ≤ 200 := by omega
              have cL := theTree.list 0 hh.tree
              have HLT := Lib.hid hh.lt
              obtain ⟨E, hE⟩ : ∃ E, listI L 0 = E := ⟨_, rfl⟩
              have hlen : E.length ≤ 200 := by rw [← hE]; exact Nat.le_trans (listI_le L 0) (theTree.len hh.tree)
              have HRI : Hid (Rises E) := Lib.hid (by rw [← hE]; exact (theGood hh.tree).risesL 0)
              have HCK : Hid (∀ e ∈ E, 1 ≤ e.cookie ∧ e.cookie ≤ 1000000) := Lib.hid (fun e he => by
                have := listI_cook (theGood hh.tree) 0 e (by rw [hE]; exact he)
                omega)
              have HNM : Hid (∀ e ∈ E, e.name.size ≤ 100000) := Lib.hid (by rw [← hE]; exact listI_name (theGood hh.tree) 0)
              have HEQ := Lib.hid hE
              rw [hE] at cL HSC
              obtain ⟨aa, ca, hav⟩ := HH.out.al.1.len
              obtain ⟨ar, cr, hrv⟩ := HH.out.rs.1.len
              obtain ⟨NA, hNA⟩ : ∃ n, A.length = n := ⟨_, rfl⟩
              obtain ⟨NR, hNR⟩ : ∃ n, Rd.length = n := ⟨_, rfl⟩
              have HNA := Lib.hid hNA
              have HNR := Lib.hid hNR
              rw [hNA] at hav hA90 hal hrl
              rw [hNR] at hrv hR90 hiR hrl
              subst hav hrv
              clear hdt hdf hh hsc hE hNA hNR
              by_cases hsi : i < sn
              · have hsz : (i : Int) < (sn : Int) := by omega
                rcases HBC.out with h0 | ⟨gs, os, rfl, hgs, hcs⟩
                · omega
                · have hcell : wr.cell? ⟨gs, os + i, none⟩ = some (.int .u8 (bs.getD i 0)) := by rw [HH.out.low.cell (p := ⟨gs, os + i, none⟩) hgs]; exact hcs i hsi
                  have hby : 0 ≤ bs.getD i 0 ∧ bs.getD i 0 ≤ 255 := by
                    have h7 : i < bs.length := by rw [HBS.out]; exact hsi
                    rw [List.getD_eq_getElem?_getD, List.getElem?_eq_getElem h7]
                    exact HBB.out _ (List.getElem_mem h7)
                  generalize bs.getD i 0 = by0 at *
                  obtain ⟨z, hz⟩ : ∃ z, by0 % 64 = z := ⟨_, rfl⟩
                  have hz0 : 0 ≤ z := by omega
                  have hz1 : z ≤ 63 := by omega
                  have hzm : by0.tmod 64 = z := by rw [Int.tmod_eq_emod_of_nonneg hby.1]; exact hz
                  have hzw : IntKind.i64.wrap z = z := by rw [IntKind.wrap_i64]; omega
                  have hzp : IntKind.i64.wrap (1 + z) = 1 + z := by rw [IntKind.wrap_i64]; omega
                  obtain ⟨s, hs⟩ : ∃ s, 1 + z = s := ⟨_, rfl⟩
                  have hs1 : 1 ≤ s := by omega
                  have hs64 : s ≤ 64 := by omega
                  clear hcs hgs
                  go_upto_region 20 with fail
                  (try rw [hs])
                  clear hcell hzm hzw hzp hz hs
                  have cR := fun v W (h : EntsIs W v E) (hrm : RoomV v) => HRC.out v E c s W h hrm HRI.out (by omega) HCK.out HNM.out (by omega) (by omega)
                  rw [readI_ok hs1 hs64 hcp] at cR
                  unfold ReadPost at cR
                  simp only at cR
                  have HSR := Lib.hid (HSC.out.read HRI.out s.toNat)
                  obtain ⟨X, hX⟩ : ∃ X, (aboveC c E).take s.toNat = X := ⟨_, rfl⟩
                  obtain ⟨c', hc'⟩ : ∃ z, lastC c X = z := ⟨_, rfl⟩
                  have HX := Lib.hid hX
                  have HCX := Lib.hid hc'
                  rw [hX] at cR HSR
                  rw [hc'] at cR HSR
                  have hXl : X.length ≤ 200 := by
                    rw [← hX]
                    have h8 : ((aboveC c E).take s.toNat).length ≤ (aboveC c E).length := List.length_take_le' _ _
                    have h9 : (aboveC c E).length ≤ E.length := List.length_filter_le _ _
                    omega
                  have hc'6 : c' ≤ 1000000 := by
                    rw [← hc']
                    rcases last_cases X with h0 | ⟨u, y, h0⟩
                    · rw [h0, lastC_nil]; exact hc6
                    · rw [h0, lastC_snoc]
                      exact (HCK.out y (mem_above.1 (List.mem_of_mem_take (by rw [hX, h0]; simp : y ∈ (aboveC c E).take s.toNat))).1).2
                  have hc'0 : 0 ≤ c' := HSR.out.pos
                  clear hX hc'
                  go_upto_region 25 with (first
                    | (go_at_call 10; refine cL.mono ?_; rintro e w6 ⟨lv, rfl, he6, ⟨-, hrm6⟩, hb6⟩; have HRM6 := Lib.hid hrm6; have HE6 := Lib.hid he6; have HB6 := Lib.hid hb6; clear he6 hb6 hrm6)
                    | (go_at_call 11; refine (cR _ _ HE6.out HRM6.out).mono ?_; rintro e w7 ⟨xv, rfl, hx7, hb7⟩; have HX7 := Lib.hid hx7; have HB7 := Lib.hid (HB6.out.trans (hb7.mono HB6.out.size)); clear hx7 hb7))
                  have HH7 := Lib.hid (HH.out.below HB7.out)
                  have hbA : Below w7.heap.size w7 (w7.alloc (.cells #[] 46)) := (Below.refl _ _).alloc (Nat.le_refl _) _
                  have HBA := Lib.hid hbA
                  have HEM : Hid ((w7.alloc (.cells #[] 46)).heap[w7.heap.size]? = some (.cells #[] 46 (0, 0))) := Lib.hid (heap_alloc_new _ _)
                  have HOE : Hid (World.ownsRow (w7.alloc (.cells #[] 46)) w7.heap.size 46 5 (.slice (some ⟨w7.heap.size, 0, none⟩) 0 0) 0 []) := Lib.hid (own_new HEM.out (Nat.le_refl _))
                  have HAA := Lib.hid (LstIs.kept HH7.out.rs.1 hbA)
                  have hlen0 : 0 + Rd.length ≤ 100000 := by have := HNR.out; omega
                  have hlen1 : 0 + Rd.length + X.length ≤ 100000 := by have := HNR.out; omega
                  clear hbA cR cL
                  go_upto_region 26 with (first
                    | (at_builtin; refine wpList_append_lst entElem rfl _ _ rfl w7.heap.size _ 0 [] rfl HOE.out _ Rd (entC_len Rd) (fun y _ => entC_one y) rfl HAA.out hlen0 HBA.out.size ?_; intro v8 w8 ho8 hg8 hr8; have HO8 := Lib.hid ho8; have HB8 := Lib.hid (HBA.out.grown hg8 HBA.out.size (fun j hj => (HOE.out.lt j hj).1)); have HX8 := Lib.hid (LstIs.kept HX7.out HB8.out); clear ho8 hg8 hr8)
                    | (at_builtin; refine wpList_append_lst entElem rfl _ _ rfl w7.heap.size _ _ _ rfl HO8.out _ X (entC_len X) (fun y _ => entC_one y) rfl HX8.out hlen1 HB8.out.size ?_; intro v9 w9 ho9 hg9 hr9; have HB9 := Lib.hid (HB8.out.grown hg9 HB8.out.size (fun j hj => (HO8.out.lt j hj).1)); have HO9 := Lib.hid ho9; clear ho9 hg9 hr9))
                  have HH9 : Hid (Held w w9 b (.slice af M cf) (.slice aa NA ca) v9 F A (Rd ++ X) L nx S) := Lib.hid ((HH7.out.below HB9.out).read (EntsS.own (by rw [List.flatMap_append]; exact HO9.out) (by rw [List.length_append, Nat.zero_add]) HH7.out.lt))
                  obtain ⟨ax, cx, hxv⟩ := HX7.out.len
                  obtain ⟨NX, hNX⟩ : ∃ n, X.length = n := ⟨_, rfl⟩
                  have HNX := Lib.hid hNX
                  rw [hNX] at hxv hXl
                  subst hxv
                  clear HOE HAA HEM HBA HO8 HO9 HX8 HB8 HB9 HH7 HB7 HX7 HE6 HB6 HH HSC hNX
                  by_cases hX0 : NX = 0
                  · subst hX0
                    have HXE : Hid (X = []) := Lib.hid (List.eq_nil_of_length_eq_zero HNX.out)
                    have HDN : Hid (aboveC c' (listI L 0) = [] ∧ i + 1 ≤ (Rd ++ X).length + 1) := Lib.hid ⟨by
                      have h7 := HX.out
                      rw [HXE.out] at h7
                      have h8 := HCX.out
                      rw [HXE.out, lastC_nil] at h8
                      rw [← h8, HEQ.out]
                      exact take_nil_above (by omega) h7, by rw [List.length_append, HNR.out]; omega⟩
                    go_wp2
                    go_loopw [11, 23] (fun av kv wq => av = .slice aa NA ca ∧ kv = .int .i64 (3 * (i : Int)) ∧ wq = w9) (fun _ _ _ => 0)
                    case atStart => exact ⟨rfl, by first | rfl | go_num, by first | rfl | trivial⟩
                    case round =>
                      obtain ⟨rfl, rfl, rfl⟩ := hrel
                      have hq1 : 3 * (i : Int) < 3 * (i : Int) + 3 := by omega
                      by_cases hkm : 3 * (i : Int) < (m2 : Int)
                      · go_wp2
                        go_roundw
                        case rel => exact ⟨_, _, i + 1, c', nx, true, L, S, A, Rd ++ X, rfl, rfl, rfl, rfl, by first | rfl | go_num, by first | rfl | go_num, by omega, HH9.out, by rw [HEQ.out]; exact HSR.out, hc'6, by omega, fun h => Bool.noConfusion h, fun _ => HDN.out⟩
                        case measure => simp [intOf]; omega
                      · go_wp2
                        go_roundw
                        case rel => exact ⟨_, _, i + 1, c', nx, true, L, S, A, Rd ++ X, rfl, rfl, rfl, rfl, by first | rfl | go_num, by first | rfl | go_num, by omega, HH9.out, by rw [HEQ.out]; exact HSR.out, hc'6, by omega, fun h => Bool.noConfusion h, fun _ => HDN.out⟩
                        case measure => simp [intOf]; omega
                  · have hXz : ((NX : Int) == 0) = false := beq_eq_false_iff_ne.2 (by omega)
                    have HLX : Hid (i + 1 ≤ (Rd ++ X).length) := Lib.hid (by rw [List.length_append, HNR.out, HNX.out]; omega)
                    go_wp2
                    go_loopw [11, 23] (fun av kv wq => ∃ (u : Value) (k : Nat) (nx : Int) (L : List Itm) (S : Nat → Prop) (A : List Ent), u = av ∧ kv = .int .i64 k ∧ 3 * i ≤ k ∧ k ≤ 3 * i + 3 ∧ Held w wq b (.slice af M cf) u v9 F A (Rd ++ X) L nx S ∧ Scan F A (Rd ++ X) c' nx (listI L 0) ∧ nx ≤ 31 + min k m2) (fun _ kv _ => 3 * i + 3 - (intOf kv).toNat)
                    case atStart => exact ⟨_, 3 * i, nx, L, S, A, rfl, congrArg (Value.int .i64) (by omega), by omega, by omega, HH9.out, by rw [HEQ.out]; exact HSR.out, by omega⟩
                    case round =>
                      clear HH9 HSR HEQ HLT HRI HCK HNA
                      obtain ⟨av, k, nx, L, S, A, rfl, rfl, hk1, hk2, hh, hsc, hnx⟩ := hrel
                      have HH := Lib.hid hh
                      have HSC := Lib.hid hsc
                      have hnx1 := theTree.next hh.tree
                      have hal := hsc.all_le hnx1
                      by_cases hk3 : k < 3 * i + 3
                      · have hk3z : (k : Int) < 3 * (i : Int) + 3 := by omega
                        by_cases hkm : k < m2
                        · have hkmz : (k : Int) < (m2 : Int) := by omega
                          have hk0 : (0 : Int) ≤ (k : Int) := by omega
                          obtain ⟨o, ho⟩ : ∃ o, l2[k]? = some o := ⟨_, List.getElem?_eq_getElem (by rw [HM2.out]; omega)⟩
                          obtain ⟨g, off, rfl, hg, hrg⟩ := HV2.out.at ho
                          have hom := List.mem_of_getElem? ho
                          have h9 := rangeAt_below hrg hg hh.low
                          have o0 : wr.cell? ⟨g, off + k * 7, none⟩ = some (.int .u8 o.k) := h9 0 _ rfl
                          have o1 : wr.cell? ⟨g, off + k * 7 + 1, none⟩ = some (.int .i64 o.d) := h9 1 _ rfl
                          have o2 : wr.cell? ⟨g, off + k * 7 + 2, none⟩ = some (.int .i64 o.dt) := h9 2 _ rfl
                          have o3 : wr.cell? ⟨g, off + k * 7 + 3, none⟩ = some (.string o.s) := h9 3 _ rfl
                          have o4 : wr.cell? ⟨g, off + k * 7 + 4, none⟩ = some (.string o.ns) := h9 4 _ rfl
                          have o5 : wr.cell? ⟨g, off + k * 7 + 5, none⟩ = some (.bool o.isD) := h9 5 _ rfl
                          have o6 : wr.cell? ⟨g, off + k * 7 + 6, none⟩ = some (.int .i64 o.sh) := h9 6 _ rfl
                          have hos := HSZ2.out o hom
                          have hok := HK2.out o hom
                          have hqn := doI_next L nx o
                          have hnw := doI_new L nx o 0
                          have cDo := lawDo10_c theTree o hh.tree hos.1 hos.2 hok.1 hok.2 (by omega)
                          obtain ⟨Q, hQ⟩ : ∃ Q, doI L nx o = Q := ⟨_, rfl⟩
                          rw [hQ] at cDo hqn hnw
                          have HNW := Lib.hid hnw
                          unfold opV at cDo
                          clear hQ hg hrg ho hom h9 hh hsc hnw
                          go_upto_region 32 with (go_at_call 9; refine cDo.mono ?_; rintro e w4 ⟨S4, rfl, hi4, ht4⟩; have HH4 := Lib.hid (HH.out.trod hi4 ht4); clear hi4 ht4)
                          clear cDo o0 o1 o2 o3 o4 o5 o6
                          have hG4 := theGood HH4.out.tree
                          have cL := theTree.list 0 HH4.out.tree
                          have HSC4 : Hid (Scan F (addAll A (listI Q.1.1 0)) (Rd ++ X) c' Q.1.2 (listI Q.1.1 0)) := Lib.hid (HSC.out.call hqn.1 (by rw [root_ents, root_ents]; exact HNW.out) (listI_cook hG4 0) (hG4.risesL 0))
                          have hnl : (listI Q.1.1 0).length ≤ 200 := Nat.le_trans (listI_le _ _) (theTree.len HH4.out.tree)
                          have hal4 := HSC4.out.all_le (theTree.next HH4.out.tree)
                          obtain ⟨Y, hY⟩ : ∃ Y, listI Q.1.1 0 = Y := ⟨_, rfl⟩
                          have HYY := Lib.hid hY
                          rw [hY] at cL HSC4 hnl hal4
                          clear hY hG4 HSC HH HNW
                          go_upto_region 33 with (go_at_call 10; refine cL.mono ?_; rintro e w5 ⟨yv, rfl, he5, hf5, hb5⟩; have HY5 := Lib.hid (EntsS.new he5 HH4.out.lt hf5.1); have HH5 := Lib.hid (HH4.out.below hb5); clear he5 hf5 hb5)
                          obtain ⟨ay, cy, hyv⟩ := HY5.out.1.len
                          obtain ⟨NY, hNY⟩ : ∃ n, Y.length = n := ⟨_, rfl⟩
                          have HNY := Lib.hid hNY
                          rw [hNY] at hyv hnl
                          subst hyv
                          clear cL HH4 hNY
                          go_wp2
                          go_loopw [11, 26] (fun av jv wq => ∃ (u : Value) (j : Nat), u = av ∧ jv = .int .i64 j ∧ j ≤ NY ∧ Held w wq b (.slice af M cf) u v9 F (addAll A (Y.take j)) (Rd ++ X) Q.1.1 Q.1.2 S4 ∧ EntsS wq S4 (.slice ay NY cy) Y) (fun _ jv _ => NY - (intOf jv).toNat)
                          case atStart => exact ⟨_, 0, rfl, rfl, by omega, HH5.out, HY5.out⟩
                          case round =>
                            clear HH5 HY5
                            obtain ⟨av, j, rfl, rfl, hj, hh, hy⟩ := hrel
                            have HH := Lib.hid hh
                            have HY := Lib.hid hy
                            obtain ⟨aa, ca, hav⟩ := hh.al.1.len
                            have hsl : (addAll A (Y.take j)).length ≤ 1000 := by
                              have h7 := addAll_len (Y.take j) A
                              have h8 : (Y.take j).length ≤ j := List.length_take_le _ _
                              omega
                            obtain ⟨NA, hNA⟩ : ∃ n, (addAll A (Y.take j)).length = n := ⟨_, rfl⟩
                            have HNA := Lib.hid hNA
                            rw [hNA] at hav hsl
                            subst hav
                            by_cases hjn : j < NY
                            · have hjz : (j : Int) < (NY : Int) := by omega
                              have hj0 : (0 : Int) ≤ (j : Int) := by omega
                              obtain ⟨x, hx⟩ : ∃ x, Y[j]? = some x := ⟨_, List.getElem?_eq_getElem (by rw [HNY.out]; omega)⟩
                              have hst := addAll_one_step (a := A) hx
                              have cH := has16_c _ (addAll A (Y.take j)) x wr hh.al.1 (by rw [hNA]; omega)
                              obtain ⟨g, off, rfl, hg, hrr⟩ := hy.1.at hx
                              have HD := Lib.hid (fun W (hW : Below wr.heap.size wr W) => ent_at (rangeAt_below hrr hg hW))
                              obtain ⟨d0, d1, d2, d3, d4⟩ := ent_at hrr
                              by_cases hxA : x ∈ addAll A (Y.take j)
                              · rw [if_pos hxA] at hst
                                have HST := Lib.hid hst
                                rw [decide_eq_true hxA] at cH
                                obtain ⟨nm, nd, dr, ck, sh⟩ := x
                                unfold entV at cH
                                simp only at d0 d1 d2 d3 d4 cH
                                clear hx hrr hg hh hy hxA hst hNA HD
                                go_wp2_with (go_at_call 16; refine cH.mono ?_; rintro e w8 ⟨rfl, hb8⟩; have HB8 := Lib.hid hb8; clear hb8 d0 d1 d2 d3 d4)
                                go_roundw
                                case rel => exact ⟨_, j + 1, rfl, by first | rfl | go_num, by omega, by rw [HST.out]; exact HH.out.below HB8.out, HY.out.below HB8.out⟩
                                case measure => simp [intOf]; omega
                              · rw [if_neg hxA] at hst
                                have HST := Lib.hid hst
                                rw [decide_eq_false hxA] at cH
                                obtain ⟨T, hT⟩ : ∃ T, addAll A (Y.take j) = T := ⟨_, rfl⟩
                                rw [hT] at HST HH HNA
                                have hl12 : T.length ≤ 1000 := by have := HNA.out; omega
                                obtain ⟨nm, nd, dr, ck, sh⟩ := x
                                unfold entV at cH
                                simp only at d0 d1 d2 d3 d4 cH HD
                                clear hx hrr hg hh hy hxA hst hNA hT
                                go_upto_region 37 with (go_at_call 16; refine cH.mono ?_; rintro e w8 ⟨rfl, hb8⟩; have HB8 := Lib.hid hb8; clear hb8 d0 d1 d2 d3 d4)
                                have HH8 := Lib.hid (HH.out.below HB8.out)
                                have HY8 := Lib.hid (HY.out.below HB8.out)
                                have HLI := Lib.hid HH8.out.al.1
                                obtain ⟨d0, d1, d2, d3, d4⟩ := HD.out w8 HB8.out
                                have HK : Hid (∀ W, Below w8.heap.size w8 W → W.cell? ⟨g, off + j * 5, none⟩ = some (.string nm) ∧ W.cell? ⟨g, off + j * 5 + 1, none⟩ = some (.int .i64 nd) ∧ W.cell? ⟨g, off + j * 5 + 2, none⟩ = some (.bool dr) ∧ W.cell? ⟨g, off + j * 5 + 3, none⟩ = some (.int .i64 ck) ∧ W.cell? ⟨g, off + j * 5 + 4, none⟩ = some (.int .i64 sh)) := Lib.hid (fun W h => HD.out W (HB8.out.trans (h.mono HB8.out.size)))
                                have HBz : Hid (Below w8.heap.size w8 w8.drew) := Lib.hid (Below.refl _ _).drew
                                have HBa : Hid (Below w8.heap.size w8 (w8.alloc E0).drew) := Lib.hid ((Below.refl _ _).alloc (Nat.le_refl _) _).drew
                                have HEa : Hid ((w8.alloc E0).drew.heap[w8.heap.size]? = some (.cells #[] 46 (0, 0))) := Lib.hid (show (w8.alloc E0).heap[w8.heap.size]? = _ from heap_alloc_new _ _)
                                have HBc : Hid (Below w8.heap.size w8 (w8.alloc (.cells #[.string nm, .int .i64 nd, .bool dr, .int .i64 ck, .int .i64 sh] 46)).drew) := Lib.hid ((Below.refl _ _).alloc (Nat.le_refl _) _).drew
                                have HEc : Hid ((w8.alloc (.cells #[.string nm, .int .i64 nd, .bool dr, .int .i64 ck, .int .i64 sh] 46)).drew.heap[w8.heap.size]? = some (.cells #[.string nm, .int .i64 nd, .bool dr, .int .i64 ck, .int .i64 sh] 46 (0, 0))) := Lib.hid (show (w8.alloc (.cells #[.string nm, .int .i64 nd, .bool dr, .int .i64 ck, .int .i64 sh] 46)).heap[w8.heap.size]? = _ from heap_alloc_new _ _)
                                have HEd : Hid (((w8.alloc (.cells #[.string nm, .int .i64 nd, .bool dr, .int .i64 ck, .int .i64 sh] 46)).drew.alloc E0).heap[w8.heap.size + 1]? = some (.cells #[] 46 (0, 0))) := Lib.hid (by
                                  have h7 := heap_alloc_new (w8.alloc (.cells #[.string nm, .int .i64 nd, .bool dr, .int .i64 ck, .int .i64 sh] 46)).drew E0
                                  rw [show (w8.alloc (.cells #[.string nm, .int .i64 nd, .bool dr, .int .i64 ck, .int .i64 sh] 46)).drew.heap.size = w8.heap.size + 1 by show (w8.heap.push _).size = _; simp] at h7
                                  exact h7)
                                have HBd : Hid (Below w8.heap.size w8 ((w8.alloc E0).alloc (.cells #[.string nm, .int .i64 nd, .bool dr, .int .i64 ck, .int .i64 sh] 46)).drew) := Lib.hid (below_alS (below_alS (Below.refl _ _) _) _).drew
                                have HBe : Hid (Below w8.heap.size w8 ((w8.alloc (.cells #[.string nm, .int .i64 nd, .bool dr, .int .i64 ck, .int .i64 sh] 46)).alloc E0).drew) := Lib.hid (below_alS (below_alS (Below.refl _ _) _) _).drew
                                have G1 : Hid (((w8.alloc E0).alloc (.cells #[.string nm, .int .i64 nd, .bool dr, .int .i64 ck, .int .i64 sh] 46)).drew.heap[w8.heap.size]? = some (.cells #[] 46 (0, 0))) := Lib.hid (heap_one w8 #[] 46 (.cells #[.string nm, .int .i64 nd, .bool dr, .int .i64 ck, .int .i64 sh] 46))
                                have G2 : Hid (((w8.alloc E0).alloc (.cells #[.string nm, .int .i64 nd, .bool dr, .int .i64 ck, .int .i64 sh] 46)).drew.heap[w8.heap.size + 1]? = some (.cells #[.string nm, .int .i64 nd, .bool dr, .int .i64 ck, .int .i64 sh] 46 (0, 0))) := Lib.hid (heap_snd w8 #[.string nm, .int .i64 nd, .bool dr, .int .i64 ck, .int .i64 sh] 46 E0)
                                have G3 : Hid (((w8.alloc (.cells #[.string nm, .int .i64 nd, .bool dr, .int .i64 ck, .int .i64 sh] 46)).alloc E0).drew.heap[w8.heap.size + 1]? = some (.cells #[] 46 (0, 0))) := Lib.hid (heap_snd w8 #[] 46 (.cells #[.string nm, .int .i64 nd, .bool dr, .int .i64 ck, .int .i64 sh] 46))
                                have G4 : Hid (((w8.alloc (.cells #[.string nm, .int .i64 nd, .bool dr, .int .i64 ck, .int .i64 sh] 46)).alloc E0).drew.heap[w8.heap.size]? = some (.cells #[.string nm, .int .i64 nd, .bool dr, .int .i64 ck, .int .i64 sh] 46 (0, 0))) := Lib.hid (heap_one w8 #[.string nm, .int .i64 nd, .bool dr, .int .i64 ck, .int .i64 sh] 46 E0)
                                clear HB8 HH HY HD
                                go_region_held3 (fun W => W.cell? ⟨g, off + j * 5, none⟩ = some (.string nm) ∧ W.cell? ⟨g, off + j * 5 + 1, none⟩ = some (.int .i64 nd) ∧ W.cell? ⟨g, off + j * 5 + 2, none⟩ = some (.bool dr) ∧ W.cell? ⟨g, off + j * 5 + 3, none⟩ = some (.int .i64 ck) ∧ W.cell? ⟨g, off + j * 5 + 4, none⟩ = some (.int .i64 sh)) ((refine HK.out _ ?_; (first | assumption | exact HBa.out | exact HBc.out | exact HBd.out | exact HBe.out | exact HBz.out | exact below_alS (by assumption) _ | exact below_alS (below_alS (by assumption) _) _))) (first
                                  | ((refine step_first (w := w8) rfl _ _ rfl _ rfl HEa.out (Nat.le_refl _) HBa.out _ T rfl HLI.out hl12 ?_); intro v9' w9' ho7 hb7 hk7; have hs7 := hb7.size; obtain ⟨a7, c7, hv7⟩ := ho7.form; rw [HNA.out] at hv7; subst hv7)
                                  | ((refine step_first (w := w8) rfl _ _ rfl _ rfl (heap_keep HEa.out (.cells #[.string nm, .int .i64 nd, .bool dr, .int .i64 ck, .int .i64 sh] 46)) (Nat.le_refl _) (below_alS HBa.out _) _ T rfl HLI.out hl12 ?_); intro v9' w9' ho7 hb7 hk7; have hs7 := hb7.size; have hE7 := hk7 (w8.alloc E0).drew.heap.size _ (by show (w8.heap.push _).size ≠ _; simp) (heap_alloc_new (w8.alloc E0).drew (.cells #[.string nm, .int .i64 nd, .bool dr, .int .i64 ck, .int .i64 sh] 46)); have hE8 := hE7; rw [show (w8.alloc E0).drew.heap.size = w8.heap.size + 1 by show (w8.heap.push _).size = _; simp] at hE8; obtain ⟨a7, c7, hv7⟩ := ho7.form; rw [HNA.out] at hv7; subst hv7)
                                  | ((refine step_first (w := w8) rfl _ _ rfl _ rfl HEd.out (Nat.le_succ _) (below_alS HBc.out _) _ T rfl HLI.out hl12 ?_); intro v9' w9' ho7 hb7 hk7; have hs7 := hb7.size; have hE7 := hk7 w8.heap.size _ (Nat.ne_of_lt (Nat.lt_succ_self _)) (heap_keep HEc.out E0); obtain ⟨a7, c7, hv7⟩ := ho7.form; rw [HNA.out] at hv7; subst hv7)
                                  | ((refine step_first (w := w8) rfl _ _ rfl _ rfl G1.out (Nat.le_refl _) HBd.out _ T rfl HLI.out hl12 ?_); intro v9' w9' ho7 hb7 hk7; have hs7 := hb7.size; have hE7 := hk7 (w8.heap.size + 1) _ (Nat.succ_ne_self _) G2.out; obtain ⟨a7, c7, hv7⟩ := ho7.form; rw [HNA.out] at hv7; subst hv7)
                                  | ((refine step_first (w := w8) rfl _ _ rfl _ rfl G3.out (Nat.le_succ _) HBe.out _ T rfl HLI.out hl12 ?_); intro v9' w9' ho7 hb7 hk7; have hs7 := hb7.size; have hE7 := hk7 w8.heap.size _ (Nat.ne_of_lt (Nat.lt_succ_self _)) G4.out; obtain ⟨a7, c7, hv7⟩ := ho7.form; rw [HNA.out] at hv7; subst hv7)
                                  | ((refine step_second (w := w8) rfl _ _ rfl _ T rfl (ho7.al _) (below_alS hb7 _) _ (⟨nm, nd, dr, ck, sh⟩ : Ent) rfl (heap_alloc_new _ _) hl12 ?_); intro v10 w10 ho9 hb9; have HO9 : Hid (OwnE w8.heap.size w10 v10 (T ++ [(⟨nm, nd, dr, ck, sh⟩ : Ent)])) := Lib.hid ho9; have HB9 := Lib.hid hb9; obtain ⟨a9, c9, hv9⟩ := ho9.form; rw [List.length_append, HNA.out] at hv9; subst hv9; clear ho9 hb9)
                                  | ((refine step_second (w := w8) rfl _ _ rfl _ T rfl ho7 hb7 _ (⟨nm, nd, dr, ck, sh⟩ : Ent) rfl hE7 hl12 ?_); intro v10 w10 ho9 hb9; have HO9 : Hid (OwnE w8.heap.size w10 v10 (T ++ [(⟨nm, nd, dr, ck, sh⟩ : Ent)])) := Lib.hid ho9; have HB9 := Lib.hid hb9; obtain ⟨a9, c9, hv9⟩ := ho9.form; rw [List.length_append, HNA.out] at hv9; subst hv9; clear ho9 hb9)
                                  | ((refine step_second (w := w8) rfl _ _ rfl _ T rfl ho7 hb7 _ (⟨nm, nd, dr, ck, sh⟩ : Ent) rfl hE8 hl12 ?_); intro v10 w10 ho9 hb9; have HO9 : Hid (OwnE w8.heap.size w10 v10 (T ++ [(⟨nm, nd, dr, ck, sh⟩ : Ent)])) := Lib.hid ho9; have HB9 := Lib.hid hb9; obtain ⟨a9, c9, hv9⟩ := ho9.form; rw [List.length_append, HNA.out] at hv9; subst hv9; clear ho9 hb9)
                                  | fail)
                                all_goals
                                  have HH10 := Lib.hid ((HH8.out.below HB9.out).all (EntsS.own HO9.out rfl HH8.out.lt))
                                  have HY10 := Lib.hid (HY8.out.below HB9.out)
                                  go_wp2
                                  go_roundw
                                  case rel => exact ⟨_, j + 1, rfl, by first | rfl | go_num, by omega, by rw [HST.out]; exact HH10.out, HY10.out⟩
                                  case measure => simp [intOf]; omega
                            · have hjz : ¬ (j : Int) < (NY : Int) := by omega
                              have HYT : Hid (Y.take j = Y) := Lib.hid (List.take_of_length_le (by rw [HNY.out]; omega))
                              have HHY : Hid (Held w wr b (.slice af M cf) (.slice aa NA ca) v9 F (addAll A Y) (Rd ++ X) Q.1.1 Q.1.2 S4) := Lib.hid (by
                                have h7 := HH.out
                                rw [HYT.out] at h7
                                exact h7)
                              clear hh hy hNA
                              go_wp2
                              go_roundw
                              case rel => exact ⟨_, k + 1, Q.1.2, Q.1.1, S4, addAll A Y, rfl, by first | rfl | go_num, by omega, by omega, HHY.out, by rw [HYY.out]; exact HSC4.out, by omega⟩
                              case measure => simp [intOf]; omega
                        · have hkmz : ¬ (k : Int) < (m2 : Int) := by omega
                          clear hh hsc
                          go_wp2
                          go_roundw
                          case rel => exact ⟨_, _, i + 1, c', nx, false, L, S, A, Rd ++ X, rfl, rfl, rfl, rfl, by first | rfl | go_num, by first | rfl | go_num, by omega, HH.out, HSC.out, hc'6, by omega, fun _ => HLX.out, fun h => Bool.noConfusion h⟩
                          case measure => simp [intOf]; omega
                      · have hk3z : ¬ (k : Int) < 3 * (i : Int) + 3 := by omega
                        clear hh hsc
                        go_wp2
                        go_roundw
                        case rel => exact ⟨_, _, i + 1, c', nx, false, L, S, A, Rd ++ X, rfl, rfl, rfl, rfl, by first | rfl | go_num, by first | rfl | go_num, by omega, HH.out, HSC.out, hc'6, by omega, fun _ => HLX.out, fun h => Bool.noConfusion h⟩
                        case measure => simp [intOf]; omega
              · have hsz : ¬ (i : Int) < (sn : Int) := by omega
                obtain ⟨s, hs⟩ : ∃ s : Int, 1 = s := ⟨_, rfl⟩
                have hs1 : 1 ≤ s := by omega
                have hs64 : s ≤ 64 := by omega
                go_upto_region 20 with fail
                (try rw [hs])
                clear hs
                have cR := fun v W (h : EntsIs W v E) (hrm : RoomV v) => HRC.out v E c s W h hrm HRI.out (by omega) HCK.out HNM.out (by omega) (by omega)
                rw [readI_ok hs1 hs64 hcp] at cR
                unfold ReadPost at cR
                simp only at cR
                have HSR := Lib.hid (HSC.out.read HRI.out s.toNat)
                obtain ⟨X, hX⟩ : ∃ X, (aboveC c E).take s.toNat = X := ⟨_, rfl⟩
                obtain ⟨c', hc'⟩ : ∃ z, lastC c X = z := ⟨_, rfl⟩
                have HX := Lib.hid hX
                have HCX := Lib.hid hc'
                rw [hX] at cR HSR
                rw [hc'] at cR HSR
                have hXl : X.length ≤ 200 := by
                  rw [← hX]
                  have h8 : ((aboveC c E).take s.toNat).length ≤ (aboveC c E).length := List.length_take_le' _ _
                  have h9 : (aboveC c E).length ≤ E.length := List.length_filter_le _ _
                  omega
                have hc'6 : c' ≤ 1000000 := by
                  rw [← hc']
                  rcases last_cases X with h0 | ⟨u, y, h0⟩
                  · rw [h0, lastC_nil]; exact hc6
                  · rw [h0, lastC_snoc]
                    exact (HCK.out y (mem_above.1 (List.mem_of_mem_take (by rw [hX, h0]; simp : y ∈ (aboveC c E).take s.toNat))).1).2
                have hc'0 : 0 ≤ c' := HSR.out.pos
                clear hX hc'
                go_upto_region 25 with (first
                  | (go_at_call 10; refine cL.mono ?_; rintro e w6 ⟨lv, rfl, he6, ⟨-, hrm6⟩, hb6⟩; have HRM6 := Lib.hid hrm6; have HE6 := Lib.hid he6; have HB6 := Lib.hid hb6; clear he6 hb6 hrm6)
                  | (go_at_call 11; refine (cR _ _ HE6.out HRM6.out).mono ?_; rintro e w7 ⟨xv, rfl, hx7, hb7⟩; have HX7 := Lib.hid hx7; have HB7 := Lib.hid (HB6.out.trans (hb7.mono HB6.out.size)); clear hx7 hb7))
                have HH7 := Lib.hid (HH.out.below HB7.out)
                have hbA : Below w7.heap.size w7 (w7.alloc (.cells #[] 46)) := (Below.refl _ _).alloc (Nat.le_refl _) _
                have HBA := Lib.hid hbA
                have HEM : Hid ((w7.alloc (.cells #[] 46)).heap[w7.heap.size]? = some (.cells #[] 46 (0, 0))) := Lib.hid (heap_alloc_new _ _)
                have HOE : Hid (World.ownsRow (w7.alloc (.cells #[] 46)) w7.heap.size 46 5 (.slice (some ⟨w7.heap.size, 0, none⟩) 0 0) 0 []) := Lib.hid (own_new HEM.out (Nat.le_refl _))
                have HAA := Lib.hid (LstIs.kept HH7.out.rs.1 hbA)
                have hlen0 : 0 + Rd.length ≤ 100000 := by have := HNR.out; omega
                have hlen1 : 0 + Rd.length + X.length ≤ 100000 := by have := HNR.out; omega
                clear hbA cR cL
                go_upto_region 26 with (first
                  | (at_builtin; refine wpList_append_lst entElem rfl _ _ rfl w7.heap.size _ 0 [] rfl HOE.out _ Rd (entC_len Rd) (fun y _ => entC_one y) rfl HAA.out hlen0 HBA.out.size ?_; intro v8 w8 ho8 hg8 hr8; have HO8 := Lib.hid ho8; have HB8 := Lib.hid (HBA.out.grown hg8 HBA.out.size (fun j hj => (HOE.out.lt j hj).1)); have HX8 := Lib.hid (LstIs.kept HX7.out HB8.out); clear ho8 hg8 hr8)
                  | (at_builtin; refine wpList_append_lst entElem rfl _ _ rfl w7.heap.size _ _ _ rfl HO8.out _ X (entC_len X) (fun y _ => entC_one y) rfl HX8.out hlen1 HB8.out.size ?_; intro v9 w9 ho9 hg9 hr9; have HB9 := Lib.hid (HB8.out.grown hg9 HB8.out.size (fun j hj => (HO8.out.lt j hj).1)); have HO9 := Lib.hid ho9; clear ho9 hg9 hr9))
                have HH9 : Hid (Held w w9 b (.slice af M cf) (.slice aa NA ca) v9 F A (Rd ++ X) L nx S) := Lib.hid ((HH7.out.below HB9.out).read (EntsS.own (by rw [List.flatMap_append]; exact HO9.out) (by rw [List.length_append, Nat.zero_add]) HH7.out.lt))
                obtain ⟨ax, cx, hxv⟩ := HX7.out.len
                obtain ⟨NX, hNX⟩ : ∃ n, X.length = n := ⟨_, rfl⟩
                have HNX := Lib.hid hNX
                rw [hNX] at hxv hXl
                subst hxv
                clear HOE HAA HEM HBA HO8 HO9 HX8 HB8 HB9 HH7 HB7 HX7 HE6 HB6 HH HSC hNX
                by_cases hX0 : NX = 0
                · subst hX0
                  have HXE : Hid (X = []) := Lib.hid (List.eq_nil_of_length_eq_zero HNX.out)
                  have HDN : Hid (aboveC c' (listI L 0) = [] ∧ i + 1 ≤ (Rd ++ X).length + 1) := Lib.hid ⟨by
                    have h7 := HX.out
                    rw [HXE.out] at h7
                    have h8 := HCX.out
                    rw [HXE.out, lastC_nil] at h8
                    rw [← h8, HEQ.out]
                    exact take_nil_above (by omega) h7, by rw [List.length_append, HNR.out]; omega⟩
                  go_wp2
                  go_loopw [11, 23] (fun av kv wq => av = .slice aa NA ca ∧ kv = .int .i64 (3 * (i : Int)) ∧ wq = w9) (fun _ _ _ => 0)
                  case atStart => exact ⟨rfl, by first | rfl | go_num, by first | rfl | trivial⟩
                  case round =>
                    obtain ⟨rfl, rfl, rfl⟩ := hrel
                    have hq1 : 3 * (i : Int) < 3 * (i : Int) + 3 := by omega
                    by_cases hkm : 3 * (i : Int) < (m2 : Int)
                    · go_wp2
                      go_roundw
                      case rel => exact ⟨_, _, i + 1, c', nx, true, L, S, A, Rd ++ X, rfl, rfl, rfl, rfl, by first | rfl | go_num, by first | rfl | go_num, by omega, HH9.out, by rw [HEQ.out]; exact HSR.out, hc'6, by omega, fun h => Bool.noConfusion h, fun _ => HDN.out⟩
                      case measure => simp [intOf]; omega
                    · go_wp2
                      go_roundw
                      case rel => exact ⟨_, _, i + 1, c', nx, true, L, S, A, Rd ++ X, rfl, rfl, rfl, rfl, by first | rfl | go_num, by first | rfl | go_num, by omega, HH9.out, by rw [HEQ.out]; exact HSR.out, hc'6, by omega, fun h => Bool.noConfusion h, fun _ => HDN.out⟩
                      case measure => simp [intOf]; omega
                · have hXz : ((NX : Int) == 0) = false := beq_eq_false_iff_ne.2 (by omega)
                  have HLX : Hid (i + 1 ≤ (Rd ++ X).length) := Lib.hid (by rw [List.length_append, HNR.out, HNX.out]; omega)
                  go_wp2
                  go_loopw [11, 23] (fun av kv wq => ∃ (u : Value) (k : Nat) (nx : Int) (L : List Itm) (S : Nat → Prop) (A : List Ent), u = av ∧ kv = .int .i64 k ∧ 3 * i ≤ k ∧ k ≤ 3 * i + 3 ∧ Held w wq b (.slice af M cf) u v9 F A (Rd ++ X) L nx S ∧ Scan F A (Rd ++ X) c' nx (listI L 0) ∧ nx ≤ 31 + min k m2) (fun _ kv _ => 3 * i + 3 - (intOf kv).toNat)
                  case atStart => exact ⟨_, 3 * i, nx, L, S, A, rfl, congrArg (Value.int .i64) (by omega), by omega, by omega, HH9.out, by rw [HEQ.out]; exact HSR.out, by omega⟩
                  case round =>
                    clear HH9 HSR HEQ HLT HRI HCK HNA
                    obtain ⟨av, k, nx, L, S, A, rfl, rfl, hk1, hk2, hh, hsc, hnx⟩ := hrel
                    have HH := Lib.hid hh
                    have HSC := Lib.hid hsc
                    have hnx1 := theTree.next hh.tree
                    have hal := hsc.all_le hnx1
                    by_cases hk3 : k < 3 * i + 3
                    · have hk3z : (k : Int) < 3 * (i : Int) + 3 := by omega
                      by_cases hkm : k < m2
                      · have hkmz : (k : Int) < (m2 : Int) := by omega
                        have hk0 : (0 : Int) ≤ (k : Int) := by omega
                        obtain ⟨o, ho⟩ : ∃ o, l2[k]? = some o := ⟨_, List.getElem?_eq_getElem (by rw [HM2.out]; omega)⟩
                        obtain ⟨g, off, rfl, hg, hrg⟩ := HV2.out.at ho
                        have hom := List.mem_of_getElem? ho
                        have h9 := rangeAt_below hrg hg hh.low
                        have o0 : wr.cell? ⟨g, off + k * 7, none⟩ = some (.int .u8 o.k) := h9 0 _ rfl
                        have o1 : wr.cell? ⟨g, off + k * 7 + 1, none⟩ = some (.int .i64 o.d) := h9 1 _ rfl
                        have o2 : wr.cell? ⟨g, off + k * 7 + 2, none⟩ = some (.int .i64 o.dt) := h9 2 _ rfl
                        have o3 : wr.cell? ⟨g, off + k * 7 + 3, none⟩ = some (.string o.s) := h9 3 _ rfl
                        have o4 : wr.cell? ⟨g, off + k * 7 + 4, none⟩ = some (.string o.ns) := h9 4 _ rfl
                        have o5 : wr.cell? ⟨g, off + k * 7 + 5, none⟩ = some (.bool o.isD) := h9 5 _ rfl
                        have o6 : wr.cell? ⟨g, off + k * 7 + 6, none⟩ = some (.int .i64 o.sh) := h9 6 _ rfl
                        have hos := HSZ2.out o hom
                        have hok := HK2.out o hom
                        have hqn := doI_next L nx o
                        have hnw := doI_new L nx o 0
                        have cDo := lawDo10_c theTree o hh.tree hos.1 hos.2 hok.1 hok.2 (by omega)
                        obtain ⟨Q, hQ⟩ : ∃ Q, doI L nx o = Q := ⟨_, rfl⟩
                        rw [hQ] at cDo hqn hnw
                        have HNW := Lib.hid hnw
                        unfold opV at cDo
                        clear hQ hg hrg ho hom h9 hh hsc hnw
                        go_upto_region 32 with (go_at_call 9; refine cDo.mono ?_; rintro e w4 ⟨S4, rfl, hi4, ht4⟩; have HH4 := Lib.hid (HH.out.trod hi4 ht4); clear hi4 ht4)
                        clear cDo o0 o1 o2 o3 o4 o5 o6
                        have hG4 := theGood HH4.out.tree
                        have cL := theTree.list 0 HH4.out.tree
                        have HSC4 : Hid (Scan F (addAll A (listI Q.1.1 0)) (Rd ++ X) c' Q.1.2 (listI Q.1.1 0)) := Lib.hid (HSC.out.call hqn.1 (by rw [root_ents, root_ents]; exact HNW.out) (listI_cook hG4 0) (hG4.risesL 0))
                        have hnl : (listI Q.1.1 0).length ≤ 200 := Nat.le_trans (listI_le _ _) (theTree.len HH4.out.tree)
                        have hal4 := HSC4.out.all_le (theTree.next HH4.out.tree)
                        obtain ⟨Y, hY⟩ : ∃ Y, listI Q.1.1 0 = Y := ⟨_, rfl⟩
                        have HYY := Lib.hid hY
                        rw [hY] at cL HSC4 hnl hal4
                        clear hY hG4 HSC HH HNW
                        go_upto_region 33 with (go_at_call 10; refine cL.mono ?_; rintro e w5 ⟨yv, rfl, he5, hf5, hb5⟩; have HY5 := Lib.hid (EntsS.new he5 HH4.out.lt hf5.1); have HH5 := Lib.hid (HH4.out.below hb5); clear he5 hf5 hb5)
                        obtain ⟨ay, cy, hyv⟩ := HY5.out.1.len
                        obtain ⟨NY, hNY⟩ : ∃ n, Y.length = n := ⟨_, rfl⟩
                        have HNY := Lib.hid hNY
                        rw [hNY] at hyv hnl
                        subst hyv
                        clear cL HH4 hNY
                        go_wp2
                        go_loopw [11, 26] (fun av jv wq => ∃ (u : Value) (j : Nat), u = av ∧ jv = .int .i64 j ∧ j ≤ NY ∧ Held w wq b (.slice af M cf) u v9 F (addAll A (Y.take j)) (Rd ++ X) Q.1.1 Q.1.2 S4 ∧ EntsS wq S4 (.slice ay NY cy) Y) (fun _ jv _ => NY - (intOf jv).toNat)
                        case atStart => exact ⟨_, 0, rfl, rfl, by omega, HH5.out, HY5.out⟩
                        case round =>
                          clear HH5 HY5
                          obtain ⟨av, j, rfl, rfl, hj, hh, hy⟩ := hrel
                          have HH := Lib.hid hh
                          have HY := Lib.hid hy
                          obtain ⟨aa, ca, hav⟩ := hh.al.1.len
                          have hsl : (addAll A (Y.take j)).length ≤ 1000 := by
                            have h7 := addAll_len (Y.take j) A
                            have h8 : (Y.take j).length ≤ j := List.length_take_le _ _
                            omega
                          obtain ⟨NA, hNA⟩ : ∃ n, (addAll A (Y.take j)).length = n := ⟨_, rfl⟩
                          have HNA := Lib.hid hNA
                          rw [hNA] at hav hsl
                          subst hav
                          by_cases hjn : j < NY
                          · have hjz : (j : Int) < (NY : Int) := by omega
                            have hj0 : (0 : Int) ≤ (j : Int) := by omega
                            obtain ⟨x, hx⟩ : ∃ x, Y[j]? = some x := ⟨_, List.getElem?_eq_getElem (by rw [HNY.out]; omega)⟩
                            have hst := addAll_one_step (a := A) hx
                            have cH := has16_c _ (addAll A (Y.take j)) x wr hh.al.1 (by rw [hNA]; omega)
                            obtain ⟨g, off, rfl, hg, hrr⟩ := hy.1.at hx
                            have HD := Lib.hid (fun W (hW : Below wr.heap.size wr W) => ent_at (rangeAt_below hrr hg hW))
                            obtain ⟨d0, d1, d2, d3, d4⟩ := ent_at hrr
                            by_cases hxA : x ∈ addAll A (Y.take j)
                            · rw [if_pos hxA] at hst
                              have HST := Lib.hid hst
                              rw [decide_eq_true hxA] at cH
                              obtain ⟨nm, nd, dr, ck, sh⟩ := x
                              unfold entV at cH
                              simp only at d0 d1 d2 d3 d4 cH
                              clear hx hrr hg hh hy hxA hst hNA HD
                              go_wp2_with (go_at_call 16; refine cH.mono ?_; rintro e w8 ⟨rfl, hb8⟩; have HB8 := Lib.hid hb8; clear hb8 d0 d1 d2 d3 d4)
                              go_roundw
                              case rel => exact ⟨_, j + 1, rfl, by first | rfl | go_num, by omega, by rw [HST.out]; exact HH.out.below HB8.out, HY.out.below HB8.out⟩
                              case measure => simp [intOf]; omega
                            · rw [if_neg hxA] at hst
                              have HST := Lib.hid hst
                              rw [decide_eq_false hxA] at cH
                              obtain ⟨T, hT⟩ : ∃ T, addAll A (Y.take j) = T := ⟨_, rfl⟩
                              rw [hT] at HST HH HNA
                              have hl12 : T.length ≤ 1000 := by have := HNA.out; omega
                              obtain ⟨nm, nd, dr, ck, sh⟩ := x
                              unfold entV at cH
                              simp only at d0 d1 d2 d3 d4 cH HD
                              clear hx hrr hg hh hy hxA hst hNA hT
                              go_upto_region 37 with (go_at_call 16; refine cH.mono ?_; rintro e w8 ⟨rfl, hb8⟩; have HB8 := Lib.hid hb8; clear hb8 d0 d1 d2 d3 d4)
                              have HH8 := Lib.hid (HH.out.below HB8.out)
                              have HY8 := Lib.hid (HY.out.below HB8.out)
                              have HLI := Lib.hid HH8.out.al.1
                              obtain ⟨d0, d1, d2, d3, d4⟩ := HD.out w8 HB8.out
                              have HK : Hid (∀ W, Below w8.heap.size w8 W → W.cell? ⟨g, off + j * 5, none⟩ = some (.string nm) ∧ W.cell? ⟨g, off + j * 5 + 1, none⟩ = some (.int .i64 nd) ∧ W.cell? ⟨g, off + j * 5 + 2, none⟩ = some (.bool dr) ∧ W.cell? ⟨g, off + j * 5 + 3, none⟩ = some (.int .i64 ck) ∧ W.cell? ⟨g, off + j * 5 + 4, none⟩ = some (.int .i64 sh)) := Lib.hid (fun W h => HD.out W (HB8.out.trans (h.mono HB8.out.size)))
                              have HBz : Hid (Below w8.heap.size w8 w8.drew) := Lib.hid (Below.refl _ _).drew
                              have HBa : Hid (Below w8.heap.size w8 (w8.alloc E0).drew) := Lib.hid ((Below.refl _ _).alloc (Nat.le_refl _) _).drew
                              have HEa : Hid ((w8.alloc E0).drew.heap[w8.heap.size]? = some (.cells #[] 46 (0, 0))) := Lib.hid (show (w8.alloc E0).heap[w8.heap.size]? = _ from heap_alloc_new _ _)
                              have HBc : Hid (Below w8.heap.size w8 (w8.alloc (.cells #[.string nm, .int .i64 nd, .bool dr, .int .i64 ck, .int .i64 sh] 46)).drew) := Lib.hid ((Below.refl _ _).alloc (Nat.le_refl _) _).drew
                              have HEc : Hid ((w8.alloc (.cells #[.string nm, .int .i64 nd, .bool dr, .int .i64 ck, .int .i64 sh] 46)).drew.heap[w8.heap.size]? = some (.cells #[.string nm, .int .i64 nd, .bool dr, .int .i64 ck, .int .i64 sh] 46 (0, 0))) := Lib.hid (show (w8.alloc (.cells #[.string nm, .int .i64 nd, .bool dr, .int .i64 ck, .int .i64 sh] 46)).heap[w8.heap.size]? = _ from heap_alloc_new _ _)
                              have HEd : Hid (((w8.alloc (.cells #[.string nm, .int .i64 nd, .bool dr, .int .i64 ck, .int .i64 sh] 46)).drew.alloc E0).heap[w8.heap.size + 1]? = some (.cells #[] 46 (0, 0))) := Lib.hid (by
                                have h7 := heap_alloc_new (w8.alloc (.cells #[.string nm, .int .i64 nd, .bool dr, .int .i64 ck, .int .i64 sh] 46)).drew E0
                                rw [show (w8.alloc (.cells #[.string nm, .int .i64 nd, .bool dr, .int .i64 ck, .int .i64 sh] 46)).drew.heap.size = w8.heap.size + 1 by show (w8.heap.push _).size = _; simp] at h7
                                exact h7)
                              have HBd : Hid (Below w8.heap.size w8 ((w8.alloc E0).alloc (.cells #[.string nm, .int .i64 nd, .bool dr, .int .i64 ck, .int .i64 sh] 46)).drew) := Lib.hid (below_alS (below_alS (Below.refl _ _) _) _).drew
                              have HBe : Hid (Below w8.heap.size w8 ((w8.alloc (.cells #[.string nm, .int .i64 nd, .bool dr, .int .i64 ck, .int .i64 sh] 46)).alloc E0).drew) := Lib.hid (below_alS (below_alS (Below.refl _ _) _) _).drew
                              have G1 : Hid (((w8.alloc E0).alloc (.cells #[.string nm, .int .i64 nd, .bool dr, .int .i64 ck, .int .i64 sh] 46)).drew.heap[w8.heap.size]? = some (.cells #[] 46 (0, 0))) := Lib.hid (heap_one w8 #[] 46 (.cells #[.string nm, .int .i64 nd, .bool dr, .int .i64 ck, .int .i64 sh] 46))
                              have G2 : Hid (((w8.alloc E0).alloc (.cells #[.string nm, .int .i64 nd, .bool dr, .int .i64 ck, .int .i64 sh] 46)).drew.heap[w8.heap.size + 1]? = some (.cells #[.string nm, .int .i64 nd, .bool dr, .int .i64 ck, .int .i64 sh] 46 (0, 0))) := Lib.hid (heap_snd w8 #[.string nm, .int .i64 nd, .bool dr, .int .i64 ck, .int .i64 sh] 46 E0)
                              have G3 : Hid (((w8.alloc (.cells #[.string nm, .int .i64 nd, .bool dr, .int .i64 ck, .int .i64 sh] 46)).alloc E0).drew.heap[w8.heap.size + 1]? = some (.cells #[] 46 (0, 0))) := Lib.hid (heap_snd w8 #[] 46 (.cells #[.string nm, .int .i64 nd, .bool dr, .int .i64 ck, .int .i64 sh] 46))
                              have G4 : Hid (((w8.alloc (.cells #[.string nm, .int .i64 nd, .bool dr, .int .i64 ck, .int .i64 sh] 46)).alloc E0).drew.heap[w8.heap.size]? = some (.cells #[.string nm, .int .i64 nd, .bool dr, .int .i64 ck, .int .i64 sh] 46 (0, 0))) := Lib.hid (heap_one w8 #[.string nm, .int .i64 nd, .bool dr, .int .i64 ck, .int .i64 sh] 46 E0)
                              clear HB8 HH HY HD
                              go_region_held3 (fun W => W.cell? ⟨g, off + j * 5, none⟩ = some (.string nm) ∧ W.cell? ⟨g, off + j * 5 + 1, none⟩ = some (.int .i64 nd) ∧ W.cell? ⟨g, off + j * 5 + 2, none⟩ = some (.bool dr) ∧ W.cell? ⟨g, off + j * 5 + 3, none⟩ = some (.int .i64 ck) ∧ W.cell? ⟨g, off + j * 5 + 4, none⟩ = some (.int .i64 sh)) ((refine HK.out _ ?_; (first | assumption | exact HBa.out | exact HBc.out | exact HBd.out | exact HBe.out | exact HBz.out | exact below_alS (by assumption) _ | exact below_alS (below_alS (by assumption) _) _))) (first
                                | ((refine step_first (w := w8) rfl _ _ rfl _ rfl HEa.out (Nat.le_refl _) HBa.out _ T rfl HLI.out hl12 ?_); intro v9' w9' ho7 hb7 hk7; have hs7 := hb7.size; obtain ⟨a7, c7, hv7⟩ := ho7.form; rw [HNA.out] at hv7; subst hv7)
                                | ((refine step_first (w := w8) rfl _ _ rfl _ rfl (heap_keep HEa.out (.cells #[.string nm, .int .i64 nd, .bool dr, .int .i64 ck, .int .i64 sh] 46)) (Nat.le_refl _) (below_alS HBa.out _) _ T rfl HLI.out hl12 ?_); intro v9' w9' ho7 hb7 hk7; have hs7 := hb7.size; have hE7 := hk7 (w8.alloc E0).drew.heap.size _ (by show (w8.heap.push _).size ≠ _; simp) (heap_alloc_new (w8.alloc E0).drew (.cells #[.string nm, .int .i64 nd, .bool dr, .int .i64 ck, .int .i64 sh] 46)); have hE8 := hE7; rw [show (w8.alloc E0).drew.heap.size = w8.heap.size + 1 by show (w8.heap.push _).size = _; simp] at hE8; obtain ⟨a7, c7, hv7⟩ := ho7.form; rw [HNA.out] at hv7; subst hv7)
                                | ((refine step_first (w := w8) rfl _ _ rfl _ rfl HEd.out (Nat.le_succ _) (below_alS HBc.out _) _ T rfl HLI.out hl12 ?_); intro v9' w9' ho7 hb7 hk7; have hs7 := hb7.size; have hE7 := hk7 w8.heap.size _ (Nat.ne_of_lt (Nat.lt_succ_self _)) (heap_keep HEc.out E0); obtain ⟨a7, c7, hv7⟩ := ho7.form; rw [HNA.out] at hv7; subst hv7)
                                | ((refine step_first (w := w8) rfl _ _ rfl _ rfl G1.out (Nat.le_refl _) HBd.out _ T rfl HLI.out hl12 ?_); intro v9' w9' ho7 hb7 hk7; have hs7 := hb7.size; have hE7 := hk7 (w8.heap.size + 1) _ (Nat.succ_ne_self _) G2.out; obtain ⟨a7, c7, hv7⟩ := ho7.form; rw [HNA.out] at hv7; subst hv7)
                                | ((refine step_first (w := w8) rfl _ _ rfl _ rfl G3.out (Nat.le_succ _) HBe.out _ T rfl HLI.out hl12 ?_); intro v9' w9' ho7 hb7 hk7; have hs7 := hb7.size; have hE7 := hk7 w8.heap.size _ (Nat.ne_of_lt (Nat.lt_succ_self _)) G4.out; obtain ⟨a7, c7, hv7⟩ := ho7.form; rw [HNA.out] at hv7; subst hv7)
                                | ((refine step_second (w := w8) rfl _ _ rfl _ T rfl (ho7.al _) (below_alS hb7 _) _ (⟨nm, nd, dr, ck, sh⟩ : Ent) rfl (heap_alloc_new _ _) hl12 ?_); intro v10 w10 ho9 hb9; have HO9 : Hid (OwnE w8.heap.size w10 v10 (T ++ [(⟨nm, nd, dr, ck, sh⟩ : Ent)])) := Lib.hid ho9; have HB9 := Lib.hid hb9; obtain ⟨a9, c9, hv9⟩ := ho9.form; rw [List.length_append, HNA.out] at hv9; subst hv9; clear ho9 hb9)
                                | ((refine step_second (w := w8) rfl _ _ rfl _ T rfl ho7 hb7 _ (⟨nm, nd, dr, ck, sh⟩ : Ent) rfl hE7 hl12 ?_); intro v10 w10 ho9 hb9; have HO9 : Hid (OwnE w8.heap.size w10 v10 (T ++ [(⟨nm, nd, dr, ck, sh⟩ : Ent)])) := Lib.hid ho9; have HB9 := Lib.hid hb9; obtain ⟨a9, c9, hv9⟩ := ho9.form; rw [List.length_append, HNA.out] at hv9; subst hv9; clear ho9 hb9)
                                | ((refine step_second (w := w8) rfl _ _ rfl _ T rfl ho7 hb7 _ (⟨nm, nd, dr, ck, sh⟩ : Ent) rfl hE8 hl12 ?_); intro v10 w10 ho9 hb9; have HO9 : Hid (OwnE w8.heap.size w10 v10 (T ++ [(⟨nm, nd, dr, ck, sh⟩ : Ent)])) := Lib.hid ho9; have HB9 := Lib.hid hb9; obtain ⟨a9, c9, hv9⟩ := ho9.form; rw [List.length_append, HNA.out] at hv9; subst hv9; clear ho9 hb9)
                                | fail)
                              all_goals
                                have HH10 := Lib.hid ((HH8.out.below HB9.out).all (EntsS.own HO9.out rfl HH8.out.lt))
                                have HY10 := Lib.hid (HY8.out.below HB9.out)
                                go_wp2
                                go_roundw
                                case rel => exact ⟨_, j + 1, rfl, by first | rfl | go_num, by omega, by rw [HST.out]; exact HH10.out, HY10.out⟩
                                case measure => simp [intOf]; omega
                          · have hjz : ¬ (j : Int) < (NY : Int) := by omega
                            have HYT : Hid (Y.take j = Y) := Lib.hid (List.take_of_length_le (by rw [HNY.out]; omega))
                            have HHY : Hid (Held w wr b (.slice af M cf) (.slice aa NA ca) v9 F (addAll A Y) (Rd ++ X) Q.1.1 Q.1.2 S4) := Lib.hid (by
                              have h7 := HH.out
                              rw [HYT.out] at h7
                              exact h7)
                            clear hh hy hNA
                            go_wp2
                            go_roundw
                            case rel => exact ⟨_, k + 1, Q.1.2, Q.1.1, S4, addAll A Y, rfl, by first | rfl | go_num, by omega, by omega, HHY.out, by rw [HYY.out]; exact HSC4.out, by omega⟩
                            case measure => simp [intOf]; omega
                      · have hkmz : ¬ (k : Int) < (m2 : Int) := by omega
                        clear hh hsc
                        go_wp2
                        go_roundw
                        case rel => exact ⟨_, _, i + 1, c', nx, false, L, S, A, Rd ++ X, rfl, rfl, rfl, rfl, by first | rfl | go_num, by first | rfl | go_num, by omega, HH.out, HSC.out, hc'6, by omega, fun _ => HLX.out, fun h => Bool.noConfusion h⟩
                        case measure => simp [intOf]; omega
                    · have hk3z : ¬ (k : Int) < 3 * (i : Int) + 3 := by omega
                      clear hh hsc
                      go_wp2
                      go_roundw
                      case rel => exact ⟨_, _, i + 1, c', nx, false, L, S, A, Rd ++ X, rfl, rfl, rfl, rfl, by first | rfl | go_num, by first | rfl | go_num, by omega, HH.out, HSC.out, hc'6, by omega, fun _ => HLX.out, fun h => Bool.noConfusion h⟩
                      case measure => simp [intOf]; omega
end Go.Proofs.Ytmplekjiciedgaa
