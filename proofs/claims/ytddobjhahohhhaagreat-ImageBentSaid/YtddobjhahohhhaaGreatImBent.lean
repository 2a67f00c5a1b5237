/-
  The law ImageBent: whatever is otherwise in an image, the tree that comes has just that image.
-/
import Derived.Test.YtddobjhahohhhaaGreatImLawKit
import Derived.Test.YtddobjhahohhhaaGreatImMade
import Derived.Lib.ConvBytes
namespace Go.Proofs.YtddobjhahohhhaaGreat
open Go.RowKit Go.Sort
set_option linter.unusedVariables false
set_option linter.unusedSimpArgs false

theorem heap_set_any {w : World} {g j : Nat} {cs : Array Value} {T : TypeId} {fr : Nat × Nat} (hb : w.heap[g]? = some (.cells cs T fr)) (v : Value) : (w.setCell ⟨g, j, none⟩ v).heap[g]? = some (.cells (cs.setIfInBounds j v) T fr) := by
  simp [World.setCell, Array.getElem?_modify, hb]
theorem cell_any {w : World} {g j : Nat} {cs : Array Value} {T : TypeId} {fr : Nat × Nat} (hb : w.heap[g]? = some (.cells cs T fr)) : w.cell? ⟨g, j, none⟩ = cs[j]? := by
  simp [World.cell?, hb]
theorem frozen_any {w : World} {g j lo hi : Nat} {cs : Array Value} {T : TypeId} (hb : w.heap[g]? = some (.cells cs T (lo, hi))) (hj : j < lo) : w.frozen? ⟨g, j, none⟩ = false := by
  simp [World.frozen?, hb]
  omega
theorem xor_u8 (a : UInt8) (b : Int) (hb : 0 ≤ b ∧ b ≤ 255) : ∃ x : UInt8, bits .xor .u8 (a.toNat : Int) b = (x.toNat : Int) ∧ (b = 0 → x = a) := by
  have hlt := (BitVec.ofInt 8 (a.toNat : Int) ^^^ BitVec.ofInt 8 b).isLt
  refine ⟨UInt8.ofNat (BitVec.ofInt 8 (a.toNat : Int) ^^^ BitVec.ofInt 8 b).toNat, ?_, fun h => ?_⟩
  · show IntKind.u8.wrap ((BitVec.ofInt 8 (a.toNat : Int) ^^^ BitVec.ofInt 8 b).toNat : Int) = _
    rw [u8_of]
    simp [IntKind.wrap, IntKind.bits, IntKind.signed]
  · subst h
    apply UInt8.toNat_inj.1
    rw [u8_of]
    have := a.toNat_lt
    simp
/-- Bytes of a text in a block of their own. -/
theorem bytes_world (W : World) (B : List UInt8) : ∃ cs lo hi, (Lib.bytesWorld W 5 ⟨B.toArray⟩).heap[W.heap.size]? = some (.cells cs 5 (lo, hi)) ∧ (∀ i, i < B.length → cs[i]? = some (.int .u8 ((B.getD i 0).toNat : Int))) ∧ B.length ≤ lo := by
  refine ⟨_, _, _, Lib.bytesWorld_at_new W 5 ⟨B.toArray⟩, fun i hi => ?_, ?_⟩
  · have h := Lib.bytesWorld_cell W 5 ⟨B.toArray⟩ i hi
    rw [cell_any (Lib.bytesWorld_at_new W 5 ⟨B.toArray⟩)] at h
    exact h
  · unfold Lib.bytesCells
    rw [Array.size_append, Array.size_map]
    show B.length ≤ B.toArray.size + _
    rw [List.size_toArray]
    omega
theorem addr_addJ (g off j : Nat) : (⟨g, off, none⟩ : Addr).add j = ⟨g, off + j, none⟩ := by
  simp [Addr.add]
theorem bent_text {W : World} {g k cap j lo hi : Nat} {cs : Array Value} {B : List UInt8} {x : UInt8} (hb : W.heap[g]? = some (.cells (cs.setIfInBounds j (.int .u8 (x.toNat : Int))) 5 (lo, hi))) (hc : ∀ i, i < B.length → cs[i]? = some (.int .u8 ((B.getD i 0).toNat : Int))) (hj : j < B.length) (hk : k ≤ B.length) :
    (convert 41 9 (.slice (some ⟨g, 0, none⟩) k cap)).run Tryz.prog W = .ok (.string ⟨((B.set j x).take k).toArray⟩) W := by
  have hl : ((B.set j x).take k).length = k := by rw [List.length_take, List.length_set]; omega
  have h := run_convert_bytes_back (P := Tryz.prog) W 41 9 5 ⟨g, 0, none⟩ cap ((B.set j x).take k) Tryz.underlying41 Tryz.underlying5 Tryz.underlying9 (fun i hi' => by
    have hik : i < k := by rw [hl] at hi'; exact hi'
    rw [addr_addJ, Nat.zero_add, cell_any hb]
    have hcs : i < cs.size := by
      have := hc i (by omega)
      exact (Array.getElem?_eq_some_iff.1 this).1
    have hcj : j < cs.size := by
      have := hc j hj
      exact (Array.getElem?_eq_some_iff.1 this).1
    rw [List.getElem_take, List.getElem_set, Array.getElem?_setIfInBounds]
    by_cases e : j = i
    · subst e
      rw [if_pos rfl, if_pos rfl, if_pos hcs]
    · rw [if_neg e, if_neg e, hc i (by omega), List.getD_eq_getElem?_getD, List.getElem?_eq_getElem (show i < B.length by omega)]
      rfl)
  rw [hl] at h
  exact h
theorem take_same {B : List UInt8} {j : Nat} (hj : j < B.length) {x : UInt8} (hx : x = B.getD j 0) : (B.set j x).take B.length = B := by
  have e : B.set j x = B := by
    subst hx
    apply List.ext_getElem?
    intro i
    rw [List.getElem?_set]
    by_cases h : j = i
    · subst h
      simp [hj, List.getD_eq_getElem?_getD]
    · simp [h]
  rw [e, List.take_length]
set_option maxHeartbeats 8000000 in
set_option maxRecDepth 100000 in
theorem imageBent_c (v : Value) (l : List OpT) (pa bb cc : Int) (w : World) (hv : OpTs w v l) (hl : l.length ≤ 9223372036854775807) (hs : ∀ x ∈ l, x.s.size ≤ 9223372036854775807 ∧ x.ns.size ≤ 9223372036854775807) (hk : ∀ x ∈ l, 0 ≤ x.k ∧ x.k ≤ 255)
    (hpa : 0 ≤ pa ∧ pa ≤ 65535) (hbb : 0 ≤ bb ∧ bb ≤ 255) (hcc : 0 ≤ cc ∧ cc ≤ 255) :
    Calls Tryz.prog 4 #[v, .int .u16 pa, .agg #[.int .u8 bb, .int .u8 cc]] w fun e w' => e = .returned (.bool true) ∧ Below w.heap.size w w' := by
  have cA := awake12_c
  have cF := fun W (h : OpTs W v l) => few10_c v l 30 W h hl (by omega) hs
  obtain ⟨R, hR⟩ : ∃ R, fewI l 30 = R := ⟨_, rfl⟩
  rw [hR] at cF
  have HV := Lib.hid hv
  obtain ⟨a, cap, rfl⟩ := hv.len
  have HB0 : Hid (Below w.heap.size w (w.alloc (.cells #[.int .u8 bb, .int .u8 cc] 40))) := Lib.hid ((Below.refl _ _).alloc (Nat.le_refl _) _)
  have HW0 : Hid ((w.alloc (.cells #[.int .u8 bb, .int .u8 cc] 40)).heap[w.heap.size]? = some (.cells #[.int .u8 bb, .int .u8 cc] 40 (0, 0))) := Lib.hid (heap_alloc_new _ _)
  cases R with
  | false =>
    clear hs hk
    go_enter Tryz.func4, Tryz.ntmps4
    go_upto_region 1 with fail
    generalize (w.alloc (.cells #[.int .u8 bb, .int .u8 cc] 40)) = W0 at *
    obtain ⟨⟨p0, p1⟩, _⟩ := two_cells HW0.out
    go_quiet (fail)
    have HB1 : Hid (Below w.heap.size w (W0.drewN nq)) := Lib.hid (below_drewN1 HB0.out _)
    generalize W0.drewN nq = W1 at *
    clear p0 p1
    go_wp2_with (first
      | (go_at_call 5; with_reducible refine (cA W1).mono ?_; rintro e w1 ⟨rfl, hb1⟩; have HB2 := Lib.hid (HB1.out.trans (hb1.mono HB1.out.size)); clear hb1)
      | (go_at_call 6; refine (cF _ (LstIs.kept HV.out HB2.out)).mono ?_; rintro e w2 ⟨rfl, hw2⟩; subst hw2)
      | (go_at_call 5; refine (cA _).mono ?_; rintro e w3 ⟨rfl, hb3⟩))
    go_ret
    exact ⟨rfl, HB2.out.trans (hb3.mono HB2.out.size)⟩
  | true =>
    have hm30 : l.length ≤ 80 := by have := (fewI_spec hR (by omega)).1; omega
    have cM := fun W (h : OpTs W (.slice a l.length cap) l) => made_c (.slice a l.length cap) l W h hm30 hs hk
    unfold MadePost treeV at cM
    clear hs hk hl hR hv
    obtain ⟨m, hm⟩ : ∃ m, l.length = m := ⟨_, rfl⟩
    simp only [hm] at cM cF HV hm30 ⊢
    clear hm
    go_enter Tryz.func4, Tryz.ntmps4
    go_upto_region 1 with fail
    generalize (w.alloc (.cells #[.int .u8 bb, .int .u8 cc] 40)) = W0 at *
    obtain ⟨⟨p0, p1⟩, _⟩ := two_cells HW0.out
    go_quiet (fail)
    have HB1 : Hid (Below w.heap.size w (W0.drewN nq)) := Lib.hid (below_drewN1 HB0.out _)
    generalize W0.drewN nq = W1 at *
    clear p0 p1 HW0 HB0
    go_upto_region 4 with (first
      | (go_at_call 5; with_reducible refine (cA W1).mono ?_; rintro e w1 ⟨rfl, hb1⟩; have HB2 := Lib.hid (HB1.out.trans (hb1.mono HB1.out.size)); clear hb1)
      | (go_at_call 6; refine (cF _ (LstIs.kept HV.out HB2.out)).mono ?_; rintro e w2 ⟨rfl, hw2⟩; subst hw2))
    clear cA cF HB1
    go_upto_region 5 with (go_at_call 7; refine (cM _ (LstIs.kept HV.out HB2.out)).mono ?_; rintro e w3 ⟨b, L, nx, S, rv, rfl, hi3, hr3, _, hnx, hb3⟩; obtain ⟨ar, cr, hrv⟩ := hr3.1.len; subst hrv)
    have HB3 : Hid (Below w.heap.size w (w3.alloc (.cells #[.slice ar L.length cr, .int .i64 nx] 28))) := Lib.hid ((HB2.out.trans (hb3.mono HB2.out.size)).alloc (Nat.le_trans HB2.out.size hb3.size) _)
    have HI3 : Hid (theTree.Is (w3.alloc (.cells #[.slice ar L.length cr, .int .i64 nx] 28)) b L nx S) := Lib.hid (theTree.below hi3 ((Below.refl _ _).alloc (Nat.le_refl _) _))
    have hg := theGood hi3
    have HG := Lib.hid hg
    have hx9 : nx ≤ 9223372036854775807 := by omega
    have hshort := img_short hg
    generalize (w3.alloc (.cells #[.slice ar L.length cr, .int .i64 nx] 28)) = W3 at *
    generalize w3.heap.size = q at *
    clear hi3 hr3 hb3 cM hg HB2
    have cE := encode_c HI3.out hx9
    have HX9 := Lib.hid hx9
    obtain ⟨B, hB⟩ : ∃ B, imgI L nx = B := ⟨_, rfl⟩
    have hlow : 10 ≤ B.length := by
      rw [← hB]
      unfold imgI imgB
      simp only [List.length_append, beB_len]
      omega
    rw [hB] at cE hshort
    have HBE := Lib.hid hB
    have kc : Hid (∀ W, (convert 9 41 (.string ⟨B.toArray⟩)).run Tryz.prog W = .ok (.slice (some ⟨W.heap.size, 0, none⟩) B.length (grownCap W B.length 0 5)) (Lib.bytesWorld W 5 ⟨B.toArray⟩)) := Lib.hid fun W => Lib.run_convert_string_bytes (P := Tryz.prog) W 9 41 5 ⟨B.toArray⟩ Tryz.underlying9 Tryz.underlying41 Tryz.underlying5
    clear hB hx9 hnx
    -- the numbers
    obtain ⟨j, hj, hjl⟩ : ∃ j : Nat, pa.tmod (B.length : Int) = (j : Int) ∧ j < B.length := by
      refine ⟨(pa % (B.length : Int)).toNat, ?_, ?_⟩
      · rw [Int.tmod_eq_emod_of_nonneg hpa.1]
        have := Int.emod_nonneg pa (show (B.length : Int) ≠ 0 by omega)
        omega
      · have := Int.emod_lt_of_pos pa (show (0 : Int) < (B.length : Int) by omega)
        have := Int.emod_nonneg pa (show (B.length : Int) ≠ 0 by omega)
        omega
    obtain ⟨c, hc, hcl⟩ : ∃ c : Nat, cc.tmod 3 = (c : Int) ∧ c ≤ 2 := by
      refine ⟨(cc % 3).toNat, ?_, by omega⟩
      rw [Int.tmod_eq_emod_of_nonneg hcc.1]
      omega
    obtain ⟨k, hk⟩ : ∃ k : Nat, (B.length : Int) - (c : Int) = (k : Int) := ⟨B.length - c, by omega⟩
    obtain ⟨y, hy⟩ : ∃ y, B.getD j 0 = y := ⟨_, rfl⟩
    have HY := Lib.hid hy
    obtain ⟨x, hx, hx0⟩ := xor_u8 y bb hbb
    have HXX := Lib.hid hx0
    clear hy hx0
    have HJ := Lib.hid hjl
    have HK : Hid (k ≤ B.length) := Lib.hid (by omega)
    have HKC : Hid (c = 0 → k = B.length) := Lib.hid (fun h => by omega)
    have HLO := Lib.hid hlow
    go_upto_region 6 with (go_at_call 8; refine cE.mono ?_; rintro e w4 ⟨rfl, hb4⟩; have HB4 := Lib.hid (HB3.out.trans (hb4.mono HB3.out.size)); clear hb4; have kc4 := kc.out w4)
    have HBW : Hid (Below w4.heap.size w4 (Lib.bytesWorld w4 5 ⟨B.toArray⟩)) := Lib.hid (by unfold Lib.bytesWorld; exact Lib.below_freeze ((Below.drew (Below.refl _ w4)).alloc (Nat.le_refl _) _) (p := ⟨w4.heap.size, _, none⟩) (Nat.le_refl _) _)
    obtain ⟨cs, lo, hi, hb5, hcs, hlo⟩ := bytes_world w4 B
    have hcap := grownCap_ge w4 B.length 0 5
    clear kc4
    generalize Lib.bytesWorld w4 5 ⟨B.toArray⟩ = W5 at *
    generalize grownCap w4 B.length 0 5 = cap5 at *
    have HG4 : Hid (w.heap.size ≤ w4.heap.size) := Lib.hid HB4.out.size
    have HB5 : Hid (Below w.heap.size w W5) := Lib.hid (HB4.out.trans (HBW.out.mono HB4.out.size))
    have HGG : Hid (w4.heap.size ≤ W5.heap.size) := Lib.hid (Nat.le_of_lt (lt_of_get hb5))
    generalize w4.heap.size = g at *
    have hcj : W5.cell? ⟨g, j, none⟩ = some (.int .u8 (y.toNat : Int)) := by rw [cell_any hb5, ← HY.out]; exact hcs j hjl
    have hfj : W5.frozen? ⟨g, j, none⟩ = false := frozen_any hb5 (by omega)
    have hb6 := heap_set_any hb5 (j := j) (.int .u8 (x.toNat : Int))
    have HB6 : Hid (Below w.heap.size w (W5.setCell ⟨g, j, none⟩ (.int .u8 (x.toNat : Int)))) := Lib.hid (HB5.out.setCell (p := ⟨g, j, none⟩) HG4.out _)
    have htx := fun cap' => bent_text (W := W5.setCell ⟨g, j, none⟩ (.int .u8 (x.toNat : Int))) (cap := cap') hb6 hcs hjl HK.out
    have HTX := Lib.hid htx
    have hjz : (j : Int) < (B.length : Int) := by omega
    have hj0 : (0 : Int) ≤ (j : Int) := by omega
    have hnz : ¬ ((B.length : Int) = 0) := by omega
    have HHB := Lib.hid hb5
    clear hb6 htx hcs hlo
    go_upto_region 7 with fail
    clear hcj hfj hj hx HHB hjz hj0 hnz hb5
    generalize (W5.setCell ⟨g, j, none⟩ (.int .u8 (x.toNat : Int))) = W6 at *
    have htx := HTX.out cap5
    have hk0 : (0 : Int) ≤ (k : Int) := by omega
    have hkc : (k : Int) ≤ (cap5 : Int) := by omega
    obtain ⟨TX, hTX⟩ : ∃ TX, (B.set j x).take k = TX := ⟨_, rfl⟩
    rw [hTX] at htx
    have HTE := Lib.hid hTX
    clear hTX
    go_upto_region 8 with fail
    clear HTX htx hk0 hkc hk
    have HTL : Hid (TX.length ≤ 60000) := Lib.hid (by rw [← HTE.out, List.length_take, List.length_set]; omega)
    have cD := decodeI_c TX W6 (by have := HTL.out; omega)
    unfold IDPost at cD
    have HB9 := HB6
    clear HB6 HTL
    go_wp2_with fail
    refine cD.mono ?_
    rintro e w7 (⟨rfl, hb7, hno⟩ | ⟨b7, A, nx7, S7, rfl, hi7, _, hb7, himg, hnx7⟩)
    · have HB7 := Lib.hid (HB9.out.trans (hb7.mono HB9.out.size))
      have HOR : Hid (bb = 0 → c ≠ 0) := Lib.hid (fun h1 h2 => by
        apply hno L nx HG.out HX9.out
        rw [HBE.out, ← HTE.out, HKC.out h2, take_same HJ.out]
        rw [HXX.out h1, HY.out])
      clear hb7 hno cD
      by_cases hb0 : bb = 0
      · have hc0 := HOR.out hb0
        have hcz : ((c : Int) == 0) = false := by rw [beq_eq_false_iff_ne]; omega
        subst hb0
        go_wp2
        go_ret
        exact ⟨by first | rfl | simp [hc0], HB7.out⟩
      · have hbz : (bb == 0) = false := beq_eq_false_iff_ne.2 hb0
        go_wp2
        go_ret
        exact ⟨by first | rfl | simp [hb0], HB7.out⟩
    · have HB7 := Lib.hid (HB9.out.trans (hb7.mono HB9.out.size))
      have cE7 := encode_c hi7 hnx7
      rw [himg] at cE7
      clear hb7 cD himg hnx7 hi7
      go_wp2_with (go_at_call 8; refine cE7.mono ?_; rintro e w8 ⟨rfl, hb8⟩; have HB8 := Lib.hid (HB7.out.trans (hb8.mono HB7.out.size)); clear hb8)
      go_ret
      exact ⟨by first | rfl | simp, HB8.out⟩
end Go.Proofs.YtddobjhahohhhaaGreat
