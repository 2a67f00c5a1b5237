/-
  The law TreeBack, on any TreeC.
-/
import Derived.Test.YthaghhleidopeaaTreeBackM
namespace Go.Proofs.Ythaghhleidopeaa
open Go.RowKit Go.Sort
set_option linter.unusedVariables false

theorem LstIs.trodF {α : Type} {f : α → List Value} {c : Nat} {w w' : World} {v : Value} {l : List α} {S S' : Nat → Prop} (h : LstIs f c w v l) (ht : Trod w w' S S') (hf : ∀ g, v.ownBlock = some g → ¬ S g) : LstIs f c w' v l := by
  rcases h with h | ⟨g, off, cap, hg, hv, hc⟩
  · exact Or.inl h
  · exact (LstIs.trod (Or.inr ⟨g, off, cap, hg, hv, hc⟩) ht (fun g' hg' => ⟨by
      rw [hv] at hg'
      obtain rfl := Option.some.inj hg'
      exact hg, hf g' hg'⟩)).1
theorem link_fail {l : List Itm} {nx d : Int} {s : ByteArray} {isD : Bool} {sh : Int} (h : (linkI l nx d s isD sh).2.2 ≠ 0) : (linkI l nx d s isD sh).1 = (l, nx) := by
  unfold linkI at h ⊢
  split
  · rfl
  · rename_i h1
    rw [if_neg h1] at h
    split
    · rfl
    · rename_i h2
      rw [if_neg h2] at h
      split
      · rfl
      · rename_i h3
        rw [if_neg h3] at h
        split
        · rfl
        · rename_i h4
          rw [if_neg h4] at h
          exact absurd rfl h
set_option maxHeartbeats 16000000 in
set_option maxRecDepth 100000 in
theorem treeBack_c (T : TreeC) (hGood : ∀ {w b l nx S}, T.Is w b l nx S → GoodT l nx) (hCook : ∀ {w b l nx S}, T.Is w b l nx S → Calls Try.prog 18 #[ptrV b] w fun e w' => e = .returned (.int .i64 nx) ∧ w' = w)
    (v : Value) (l : List OpT) (d : Int) (nm as_ : ByteArray) (w : World) (hv : OpTs w v l) (hl : l.length ≤ 9223372036854775807) (hs : ∀ x ∈ l, x.s.size ≤ 9223372036854775807 ∧ x.ns.size ≤ 9223372036854775807) (hk : ∀ x ∈ l, 0 ≤ x.k ∧ x.k ≤ 255) (hn1 : nm.size ≤ 9223372036854775807) (hn2 : as_.size ≤ 9223372036854775807) :
    Calls Try.prog 3 #[v, .int .i64 d, .agg #[.string nm, .string as_]] w fun e w' => e = .returned (.bool true) ∧ Below w.heap.size w w' := by
  obtain ⟨a, cap, rfl⟩ := hv.len
  obtain ⟨R, hR⟩ : ∃ R, fewI l 40 = R := ⟨_, rfl⟩
  have cF := fun W (h : OpTs W (.slice a l.length cap) l) => few10_c (.slice a l.length cap) l 40 W h hl (by omega) hs
  rw [hR] at cF
  obtain ⟨m, hm⟩ : ∃ n, l.length = n := ⟨_, rfl⟩
  have HM := Lib.hid hm
  have HSZ := Lib.hid hs
  have HK := Lib.hid hk
  rw [hm] at hl hv ⊢
  simp only [hm] at cF
  have HV := Lib.hid hv
  have HR := Lib.hid hR
  have cA := awake10_c T
  have hb0 : Below w.heap.size w (w.alloc (.cells #[.string nm, .string as_] 23)) := (Below.refl _ w).alloc (Nat.le_refl _) _
  have hq0 : (w.alloc (.cells #[.string nm, .string as_] 23)).heap[w.heap.size]? = some (.cells #[.string nm, .string as_] 23 (0, 0)) := heap_alloc_new _ _
  have HB0 := Lib.hid hb0
  obtain ⟨⟨z0, z1⟩, _⟩ := two_cells hq0
  clear hR hm hs hk hv hb0 hq0
  go_enter Try.func3, Try.ntmps3
  go_upto_region 1 with fail
  generalize (w.alloc (.cells #[.string nm, .string as_] 23)) = W0 at *
  go_quiet (fail)
  go_upto_region 2 with fail
  have HB1 : Hid (Below w.heap.size w (W0.drewN nq)) := Lib.hid (below_drewN1 HB0.out nq)
  generalize W0.drewN nq = W1 at *
  clear z0 z1
  have early : ∀ W, Below w.heap.size w W → Calls Try.prog 8 #[] W fun e w' => e = .returned (.bool true) ∧ Below w.heap.size w w' := fun W hW => (cA W).mono fun e w' ⟨h1, h2⟩ => ⟨h1, hW.trans (h2.mono hW.size)⟩
  have HEA := Lib.hid early
  clear early
  cases R with
  | false =>
    go_wp2_with (first
      | (go_at_call 8; with_reducible refine (HEA.out W1 HB1.out).mono ?_; rintro e w1 ⟨rfl, hb1⟩)
      | (go_at_call 9; refine (cF _ (LstIs.kept HV.out hb1)).mono ?_; rintro e w2 ⟨rfl, hw2⟩; subst hw2)
      | (go_at_call 8; refine (HEA.out _ hb1).mono ?_; rintro e w3 ⟨rfl, hb3⟩))
    go_ret
    exact ⟨rfl, hb3⟩
  | true =>
    by_cases hn3 : 300 < nm.size
    · have hn3z : (300 : Int) < (nm.size : Int) := by omega
      go_wp2_with (first
        | (go_at_call 8; with_reducible refine (HEA.out W1 HB1.out).mono ?_; rintro e w1 ⟨rfl, hb1⟩)
        | (go_at_call 9; refine (cF _ (LstIs.kept HV.out hb1)).mono ?_; rintro e w2 ⟨rfl, hw2⟩; subst hw2)
        | (go_at_call 8; refine (HEA.out _ hb1).mono ?_; rintro e w3 ⟨rfl, hb3⟩))
      go_ret
      exact ⟨rfl, hb3⟩
    · have hn3z : ¬ (300 : Int) < (nm.size : Int) := by omega
      by_cases hn4 : 300 < as_.size
      · have hn4z : (300 : Int) < (as_.size : Int) := by omega
        go_wp2_with (first
          | (go_at_call 8; with_reducible refine (HEA.out W1 HB1.out).mono ?_; rintro e w1 ⟨rfl, hb1⟩)
          | (go_at_call 9; refine (cF _ (LstIs.kept HV.out hb1)).mono ?_; rintro e w2 ⟨rfl, hw2⟩; subst hw2)
          | (go_at_call 8; refine (HEA.out _ hb1).mono ?_; rintro e w3 ⟨rfl, hb3⟩))
        go_ret
        exact ⟨rfl, hb3⟩
      · have hn4z : ¬ (300 : Int) < (as_.size : Int) := by omega
        have hm40 : m ≤ 40 := by rw [← HM.out]; exact (fewI_spec HR.out (by omega)).1
        go_upto_region 5 with (first
          | (go_at_call 8; refine (HEA.out _ HB1.out).mono ?_; rintro e w1 ⟨rfl, hb1⟩)
          | (go_at_call 9; refine (cF _ (LstIs.kept HV.out hb1)).mono ?_; rintro e w2 ⟨rfl, hw2⟩; subst hw2)
          | (go_at_call 10; refine (T.new _).mono ?_; rintro e w3 ⟨b, S, rfl, hi3, hs3, hb3⟩))
        have HX : Hid (Below w.heap.size w w3) := Lib.hid (hb1.trans (hb3.mono hb1.size))
        have HT0 := Lib.hid hi3
        have HS0 : Hid (∀ k, S k → w.heap.size ≤ k) := Lib.hid (fun k hk => Nat.le_trans hb1.size (hs3 k hk))
        clear hb1 hb3 hi3 hs3 cA cF hn3 hn4
        go_wp2
        go_loopw [10] (fun iv wr => ∃ (i : Nat) (L : List Itm) (nx : Int) (S : Nat → Prop), i ≤ m ∧ iv = .int .i64 i ∧ T.Is wr b L nx S ∧ (∀ k, S k → w.heap.size ≤ k) ∧ nx ≤ 1 + i ∧ Below w.heap.size w wr) (fun iv _ => m - (intOf iv).toNat)
        case atStart => exact ⟨0, [], 1, S, by omega, rfl, HT0.out, HS0.out, by omega, HX.out⟩
        case round =>
          clear HT0 HS0 HX
          obtain ⟨i, L, nx, S, hi, rfl, his, hS, hnx, hb⟩ := hrel
          have hnx1 := T.next his
          by_cases him : i < m
          · have hiz : (i : Int) < (m : Int) := by omega
            obtain ⟨o, ho⟩ : ∃ o, l[i]? = some o := ⟨_, List.getElem?_eq_getElem (by rw [HM.out]; omega)⟩
            obtain ⟨g, off, rfl, hg, hrg⟩ := HV.out.at ho
            have hom := List.mem_of_getElem? ho
            have hoc : wr.cell? ⟨g, off + i * 7, none⟩ = some (.int .u8 o.k) ∧ wr.cell? ⟨g, off + i * 7 + 1, none⟩ = some (.int .i64 o.d) ∧ wr.cell? ⟨g, off + i * 7 + 2, none⟩ = some (.int .i64 o.dt) ∧ wr.cell? ⟨g, off + i * 7 + 3, none⟩ = some (.string o.s) ∧ wr.cell? ⟨g, off + i * 7 + 4, none⟩ = some (.string o.ns) ∧ wr.cell? ⟨g, off + i * 7 + 5, none⟩ = some (.bool o.isD) ∧ wr.cell? ⟨g, off + i * 7 + 6, none⟩ = some (.int .i64 o.sh) := by
              have h := rangeAt_below hrg hg hb
              exact ⟨h 0 _ rfl, h 1 _ rfl, h 2 _ rfl, h 3 _ rfl, h 4 _ rfl, h 5 _ rfl, h 6 _ rfl⟩
            have hos := HSZ.out o hom
            have hok := HK.out o hom
            have hqn := doI_next L nx o
            have cDo := lawDo10_c T o his hos.1 hos.2 hok.1 hok.2 (by omega)
            unfold opV at cDo
            obtain ⟨Q, hQ⟩ : ∃ Q, doI L nx o = Q := ⟨_, rfl⟩
            rw [hQ] at hqn cDo
            obtain ⟨o0, o1, o2, o3, o4, o5, o6⟩ := hoc
            have HB := Lib.hid hb
            have HSS := Lib.hid hS
            clear hQ hg hrg ho hom his hb hS
            go_wp2_with (go_at_call 11; refine cDo.mono ?_; rintro e w2 ⟨S2, rfl, hi2, ht2⟩; have HI2 := Lib.hid hi2; have HT2 := Lib.hid ht2; clear hi2 ht2)
            go_roundw
            case rel =>
              have hlow := HT2.out.low HB.out.size HSS.out
              exact ⟨i + 1, Q.1.1, Q.1.2, S2, by omega, by first | rfl | go_num, HI2.out, hlow.2, by omega, HB.out.trans hlow.1⟩
            case measure => simp [intOf]; omega
          · have hiz : ¬ (i : Int) < (m : Int) := by omega
            have hg := hGood his
            have HB := Lib.hid hb
            have HSS := Lib.hid hS
            have HI := Lib.hid his
            have HGG := Lib.hid hg
            have cL := T.list d his
            obtain ⟨eD, heD⟩ : ∃ e, listE L d = e := ⟨_, rfl⟩
            rw [heD] at cL
            have HLT : Hid (∀ k, S k → k < wr.heap.size) := Lib.hid (T.lt his)
            clear his hb hS hg
            go_upto_region 10 with (go_at_call 12; refine cL.mono ?_; rintro e w4 ⟨v4, rfl, he4, hf4, hb4⟩; obtain ⟨a4, c4, hv4⟩ := he4.len; have HE4 := Lib.hid he4; have HF4 := Lib.hid hf4; have HB4 := Lib.hid hb4; clear he4 hf4 hb4; subst hv4)
            have HI4 := Lib.hid (T.below HI.out HB4.out)
            have cK := T.link d nm true (0 : Int) HI4.out hn1 (by omega)
            by_cases hf : (linkI L nx d nm true 0).2.2 = 0
            · obtain ⟨hd, hu1, hu2⟩ := link_unlink HGG.out hf
              have HD := Lib.hid hd
              obtain rfl : eD = 0 := heD.symm.trans hd
              have HU1 := Lib.hid hu1
              have HU2 := Lib.hid hu2
              have hlx := linkI_next L nx d nm true 0
              obtain ⟨⟨⟨L1, nx1⟩, n1, f1⟩, hQ⟩ : ∃ Q, linkI L nx d nm true 0 = Q := ⟨_, rfl⟩
              rw [hQ] at hf cK HU1 HU2 hlx
              simp only at hf cK HU1 HU2 hlx
              subst hf
              clear hQ hu1 hu2 hd
              go_upto_region 12 with (go_at_call 13; refine cK.mono ?_; rintro e w5 ⟨S5, rfl, hi5, ht5⟩)
              have cU := T.unlink d nm true hi5
              have HT5 := Lib.hid ht5
              rw [HU1.out] at cU
              obtain ⟨nx2, hnx2⟩ : ∃ n, (unlinkI L1 nx1 d nm true).1.2 = n := ⟨_, rfl⟩
              rw [HU2.out, hnx2] at cU
              clear hi5 ht5 cK
              go_upto_region 14 with (go_at_call 14; refine cU.mono ?_; rintro e w6 ⟨S6, rfl, hi6, ht6⟩)
              have cL2 := T.list d hi6
              rw [HD.out] at cL2
              have HT6 := Lib.hid (HT5.out.trans ht6)
              clear hi6 ht6 cU
              go_upto_region 15 with (go_at_call 12; refine cL2.mono ?_; rintro e w7 ⟨v7, rfl, he7, hf7, hb7⟩; obtain ⟨a7, c7, hv7⟩ := he7.len; have HE7 := Lib.hid he7; have HB7 := Lib.hid hb7; clear he7 hf7 hb7; subst hv7)
              have HE47 : Hid (EntsIs w7 (.slice a4 (listI L d).length c4) (listI L d)) := Lib.hid (LstIs.kept (HE4.out.trodF HT6.out (fun g hg hc => by have := HLT.out g hc; have := HF4.out g hg; omega)) HB7.out)
              have cS := same10_c _ _ _ _ _ HE47.out HE7.out (by have := listI_le L d; have := HGG.out.len; omega) (by have := listI_le L d; have := HGG.out.len; omega)
              rw [decide_eq_true rfl] at cS
              go_wp2_with (go_at_call 15; refine cS.mono ?_; rintro e w8 ⟨rfl, q8, rfl⟩)
              go_ret
              have hlow := (HT6.out).low (B := w.heap.size) (Nat.le_trans HB.out.size HB4.out.size) HSS.out
              have hbb := (HB.out.trans (HB4.out.mono HB.out.size)).trans hlow.1
              exact ⟨rfl, below_drewN1 (hbb.trans (HB7.out.mono hbb.size)) _⟩
            · have hlf := link_fail hf
              have cK2 := cK
              obtain ⟨⟨q1, n1, f1⟩, hQ⟩ : ∃ Q, linkI L nx d nm true 0 = Q := ⟨_, rfl⟩
              rw [hQ] at hf cK2 hlf
              simp only at hf cK2 hlf
              subst hlf
              have hfz : (f1 == 0) = false := beq_eq_false_iff_ne.2 hf
              clear hQ cK hf
              go_upto_region 16 with (go_at_call 13; refine cK2.mono ?_; rintro e w5 ⟨S5, rfl, hi5, ht5⟩)
              have HI5 := Lib.hid hi5
              have HT5 := Lib.hid ht5
              have cFi := T.find d nm hi5
              clear hi5 ht5 cK2
              have hlow5 := (HT5.out).low (B := w.heap.size) (Nat.le_trans HB.out.size HB4.out.size) HSS.out
              have HB5 : Hid (Below w.heap.size w w5) := Lib.hid ((HB.out.trans (HB4.out.mono HB.out.size)).trans hlow5.1)
              have HS5 := Lib.hid hlow5.2
              clear hlow5
              obtain ⟨⟨x, g1⟩, hX⟩ : ∃ X, findI L d nm = X := ⟨_, rfl⟩
              rw [hX] at cFi
              unfold entV at cFi
              simp only at cFi
              go_upto_region 17 with (go_at_call 16; refine cFi.mono ?_; rintro e w6 ⟨rfl, hb6⟩)
              have hb6a : Below w5.heap.size w5 (w6.alloc (entB x)) := hb6.alloc hb6.size _
              have hqx : (w6.alloc (entB x)).heap[w6.heap.size]? = some (.cells #[.string x.name, .int .i64 x.node, .bool x.dir, .int .i64 x.cookie, .int .i64 x.short] 40 (0, 0)) := heap_alloc_new _ _
              have HQX := Lib.hid hqx
              have HB6 := Lib.hid hb6a
              have hnq1 : ∀ k, S5 k → k ≠ w6.heap.size := fun k hk => by have := T.lt HI5.out k hk; have := hb6.size; omega
              have HNQ1 := Lib.hid hnq1
              clear hb6 hb6a hqx hnq1 cFi
              generalize (w6.alloc (entB x)) = W6 at *
              generalize w6.heap.size = qx at *
              have HI6 := Lib.hid (T.below HI5.out HB6.out)
              have cM := T.move d nm d as_ (0 : Int) HI6.out hn2 (by omega)
              by_cases hmv : (moveI L nx d nm d as_ 0).2 = 0
              · obtain ⟨x', hx1, hx2, hx3, hx4, hx5⟩ := move_back HGG.out hmv
                rw [hX] at hx1
                injection hx1 with hx1 hx1b
                subst hx1
                subst hx1b
                obtain ⟨⟨⟨L2, nx2⟩, f2⟩, hQ⟩ : ∃ Q, moveI L nx d nm d as_ 0 = Q := ⟨_, rfl⟩
                rw [hQ] at hmv cM hx2 hx3 hx4 hx5
                simp only at hmv cM hx2 hx3 hx4 hx5
                subst hmv
                subst hx4
                have HX5 := Lib.hid hx5
                clear hQ hx5 hX
                go_upto_region 19 with (go_at_call 17; refine cM.mono ?_; rintro e w7 ⟨S7, rfl, hi7, ht7⟩)
                have HI7 := Lib.hid hi7
                have HT7 := Lib.hid ht7
                have cF1 := T.find d as_ hi7
                rw [hx2] at cF1
                unfold entV at cF1
                have hq7 : w7.heap[qx]? = some (.cells #[.string x.name, .int .i64 x.node, .bool x.dir, .int .i64 x.cookie, .int .i64 x.short] 40 (0, 0)) := (ht7.rest qx (lt_of_get HQX.out) (fun hc => HNQ1.out qx hc rfl)).trans HQX.out
                have HQ7 := Lib.hid hq7
                clear hi7 ht7 cM hq7 hx2
                go_upto_region 20 with (go_at_call 16; refine cF1.mono ?_; rintro e w8 ⟨rfl, hb8⟩)
                have HB8 : Hid (Below w7.heap.size w7 (w8.alloc (entB ⟨as_, x.node, x.dir, nx, 0⟩))) := Lib.hid (hb8.alloc hb8.size _)
                have HQ8 : Hid ((w8.alloc (entB ⟨as_, x.node, x.dir, nx, 0⟩)).heap[w8.heap.size]? = some (.cells #[.string as_, .int .i64 x.node, .bool x.dir, .int .i64 nx, .int .i64 0] 40 (0, 0))) := Lib.hid (heap_alloc_new _ _)
                have HQYG : Hid (w7.heap.size ≤ w8.heap.size) := Lib.hid hb8.size
                clear hb8 cF1
                generalize (w8.alloc (entB ⟨as_, x.node, x.dir, nx, 0⟩)) = W8 at *
                generalize w8.heap.size = qy at *
                have HI8 := Lib.hid (T.below HI7.out HB8.out)
                have cF2 := T.find d nm HI8.out
                obtain ⟨⟨z, g2⟩, hZ⟩ : ∃ Z, findI L2 d nm = Z := ⟨_, rfl⟩
                rw [hZ] at cF2 hx3
                simp only at hx3
                subst hx3
                unfold entV at cF2
                simp only at cF2
                clear hZ
                go_upto_region 21 with (go_at_call 16; refine cF2.mono ?_; rintro e w9 ⟨rfl, hb9⟩)
                have HB9 : Hid (Below W8.heap.size W8 (w9.alloc (entB z))) := Lib.hid (hb9.alloc hb9.size _)
                clear hb9 cF2
                generalize (w9.alloc (entB z)) = W9 at *
                generalize w9.heap.size = qz at *
                have HBA : Hid (Below w7.heap.size w7 W9) := Lib.hid (HB8.out.trans (HB9.out.mono HB8.out.size))
                have HIA := Lib.hid (T.below HI7.out HBA.out)
                have hqx9 := (HBA.out.block qx (lt_of_get HQ7.out)).trans HQ7.out
                have hqy9 := (HB9.out.block qy (lt_of_get HQ8.out)).trans HQ8.out
                obtain ⟨⟨a0, a1, a2, a3, a4⟩, _⟩ := five_cells (W := W9.drew) hqx9
                obtain ⟨⟨b0, b1, b2, b3, b4⟩, _⟩ := five_cells (W := W9.drew) hqy9
                have HID := Lib.hid (T.below HIA.out (Below.refl _ _).drew)
                have cC := hCook HID.out
                have cM2 := T.move d as_ d nm x.short HID.out hn1 (by omega)
                rw [HX5.out] at cM2
                have hsub : IntKind.i64.wrap (nx + 1 - 1) = nx := by rw [IntKind.wrap_i64]; omega
                have hsub2 : nx + 1 - 1 = nx := by omega
                have hnx9 : (nx == nx) = true := by simp
                have hwn : IntKind.i64.wrap nx = nx := by rw [IntKind.wrap_i64]; omega
                have HQX9 := Lib.hid hqx9
                have HQY9 := Lib.hid hqy9
                have hqxn : ∀ k, S7 k → k ≠ qx ∧ k ≠ qy := fun k hk => by
                  refine ⟨fun e => ?_, fun e => ?_⟩
                  · rcases HT7.out.sub k hk with h9 | h9
                    · exact HNQ1.out k (by first | exact h9) e
                    · have := lt_of_get HQX.out; omega
                  · have := T.lt HI7.out k hk
                    have := HQYG.out
                    omega
                have HQN := Lib.hid hqxn
                have HSS2 : Hid (∀ W : World, W.heap[qx]? = W9.heap[qx]? → W.heap[qy]? = W9.heap[qy]? → W.cell? ⟨qx, 1, none⟩ = some (.int .i64 x.node) ∧ W.cell? ⟨qx, 2, none⟩ = some (.bool x.dir) ∧ W.cell? ⟨qx, 4, none⟩ = some (.int .i64 x.short) ∧ W.cell? ⟨qy, 1, none⟩ = some (.int .i64 x.node) ∧ W.cell? ⟨qy, 2, none⟩ = some (.bool x.dir) ∧ W.cell? ⟨qy, 3, none⟩ = some (.int .i64 nx)) := Lib.hid (fun W h1 h2 => by
                  obtain ⟨⟨_, c1, c2, _, c4⟩, _⟩ := five_cells (h1.trans HQX9.out)
                  obtain ⟨⟨_, e1, e2, e3, _⟩, _⟩ := five_cells (h2.trans HQY9.out)
                  exact ⟨c1, c2, c4, e1, e2, e3⟩)
                have hs0 := HSS2.out W9.drew rfl rfl
                clear a0 a1 a2 a3 a4 b0 b1 b2 b3 b4 hqx9 hqy9 hqxn
                go_region_held3 (fun W => W.cell? ⟨qx, 1, none⟩ = some (.int .i64 x.node) ∧ W.cell? ⟨qx, 2, none⟩ = some (.bool x.dir) ∧ W.cell? ⟨qx, 4, none⟩ = some (.int .i64 x.short) ∧ W.cell? ⟨qy, 1, none⟩ = some (.int .i64 x.node) ∧ W.cell? ⟨qy, 2, none⟩ = some (.bool x.dir) ∧ W.cell? ⟨qy, 3, none⟩ = some (.int .i64 nx)) (with_reducible assumption) (first
                  | (go_at_call 18; refine cC.mono ?_; rintro e w10 ⟨rfl, rfl⟩)
                  | (go_at_call 17; refine cM2.mono ?_; rintro e w11 ⟨S11, rfl, hi11, ht11⟩; have HT11 := Lib.hid ht11; have hs11 := HSS2.out w11 (ht11.rest qx (lt_of_get HQX9.out) (fun hc => (HQN.out qx hc).1 rfl)) (ht11.rest qy (lt_of_get HQY9.out) (fun hc => (HQN.out qy hc).2 rfl)); clear hi11 ht11))
                all_goals
                  go_wp2
                  go_ret
                  have hbb := HB5.out.trans (HB6.out.mono HB5.out.size)
                  have hl7 := HT7.out.low (B := w.heap.size) hbb.size HS5.out
                  have hb7 := hbb.trans hl7.1
                  have hb9 := (hb7.trans (HBA.out.mono hb7.size)).drew
                  have hl11 := HT11.out.low (B := w.heap.size) hb9.size hl7.2
                  exact ⟨rfl, hb9.trans hl11.1⟩
              · obtain ⟨r, hr⟩ : ∃ r, (moveI L nx d nm d as_ 0).2 = r := ⟨_, rfl⟩
                rw [hr] at hmv cM
                have hrz : (r == 0) = false := beq_eq_false_iff_ne.2 hmv
                clear hr hmv
                go_wp2_with (go_at_call 17; refine cM.mono ?_; rintro e w7 ⟨S7, rfl, hi7, ht7⟩; have HT7 := Lib.hid ht7; clear hi7 ht7)
                go_ret
                have hbb := HB5.out.trans (HB6.out.mono HB5.out.size)
                have hl7 := HT7.out.low (B := w.heap.size) hbb.size HS5.out
                exact ⟨rfl, hbb.trans hl7.1⟩
end Go.Proofs.Ythaghhleidopeaa
