/-
  Prepared for stage 10: the law's own 'formed'.
-/
import Derived.Test.YthjieagmglbonaaQ5
import Derived.Deep.RegionHeld3
import Derived.Deep.CutRange
namespace Go.Proofs.Ythjieagmglbonaa
open Go.RowKit Go.Sort
set_option linter.unusedVariables false

set_option maxHeartbeats 16000000 in
set_option maxRecDepth 100000 in
theorem formed10_c (cookie other : Int) (b n : Nat) (F : Int → Option Value) (G : DirsG) (v3 : Value) (d : List Int) (w : World) (hm : DirsAt w b n F G) (hd : NumsL w v3 d) (hdi : ∀ x ∈ d, inI64 x) (hoi : inI64 other) (hdl : d.length ≤ 1000) (hal : (allI G (keysI d other)).length ≤ 5000) (hns : ∀ x ∈ allI G (keysI d other), x.e.name.size ≤ 9223372036854775807) (R : Bool) (hR : R = true ↔ Formed cookie G (keysI d other)) :
    Calls Try.prog 21 #[.int .i64 cookie, .map (some b), v3, .int .i64 other] w fun e w' => e = .returned (.bool R) ∧ Below w.heap.size w w' := by
  have HRR := Lib.hid hR
  have HM0 := Lib.hid hm
  have HD0 := Lib.hid hd
  have HDI := Lib.hid hdi
  have HNS := Lib.hid hns
  have HAL := Lib.hid hal
  obtain ⟨a3, cap3, rfl⟩ := hd.len
  obtain ⟨nd, hnd⟩ : ∃ n, d.length = n := ⟨_, rfl⟩
  have HND := Lib.hid hnd
  rw [hnd] at hdl ⊢
  obtain ⟨B0, hB0⟩ : ∃ B, w.heap.size = B := ⟨_, rfl⟩
  have HB0 := Lib.hid hB0
  clear hR hm hd hdi hns hal hnd
  -- the keys
  have hba : Below w.heap.size w (w.alloc (.cells #[] 3)) := (Below.refl _ w).alloc (Nat.le_refl _) _
  have HOE : Hid (World.ownsRow (w.alloc (.cells #[] 3)) B0 3 1 (.slice (some ⟨w.heap.size, 0, none⟩) 0 0) 0 []) := Lib.hid (own_new (heap_alloc_new _ _) (by omega))
  have HDA : Hid (NumsL (w.alloc (.cells #[] 3)) (.slice a3 nd cap3) d) := Lib.hid (by rw [← HND.out]; exact LstIs.kept HD0.out hba)
  have HBA : Hid (Below B0 w (w.alloc (.cells #[] 3))) := Lib.hid (by rw [← hB0]; exact hba)
  have HSA : Hid (B0 ≤ (w.alloc (.cells #[] 3)).heap.size) := Lib.hid (by have := hba.size; omega)
  have hlen0 : 0 + d.length ≤ 100000 := by have := HND.out; omega
  clear hba hB0
  go_enter Try.func21, Try.ntmps21
  go_upto_region 2 with (at_builtin; refine wpList_append_lst intElem rfl _ _ rfl B0 _ 0 [] rfl HOE.out _ d (numC_len d) (numC_one d) rfl HDA.out hlen0 HSA.out ?_; intro v9 w1 ho1 hg1 hr1; have HB1 := Lib.hid (HBA.out.grown hg1 HSA.out (fun j hj => (HOE.out.lt j hj).1)); have HO1 := Lib.hid ho1; clear ho1 hg1 hr1)
  have HD1 : Hid (NumsL w1 (.slice a3 nd cap3) d) := Lib.hid (by
    have := LstIs.kept HD0.out (by rw [HB0.out]; exact HB1.out)
    rw [HND.out] at this
    exact this)
  clear HOE HDA HBA HSA hlen0
  go_wp2
  go_loopw [10, 11] (fun kv iv wr => ∃ i : Nat, i ≤ nd ∧ iv = .int .i64 i ∧ kv = .bool (decide (other ∈ d.take i)) ∧ wr = w1) (fun _ iv _ => nd - (intOf iv).toNat)
  case atStart => exact ⟨0, by omega, rfl, by simp, rfl⟩
  case round =>
    obtain ⟨i, hi, rfl, rfl, hwr⟩ := hrel
    subst hwr
    by_cases hin : i < nd
    · have hiz : (i : Int) < (nd : Int) := by omega
      obtain ⟨x, hx⟩ : ∃ x, d[i]? = some x := ⟨_, List.getElem?_eq_getElem (by rw [HND.out]; omega)⟩
      obtain ⟨g, off, rfl, hg, hr⟩ := HD1.out.at hx
      have c1 := num_at hr
      rw [Nat.mul_one] at c1
      have HT : Hid (decide (other ∈ d.take (i + 1)) = (decide (other ∈ d.take i) || (x == other))) := Lib.hid (by
        rw [take_snoc hx]
        rw [Bool.eq_iff_iff]
        simp only [decide_eq_true_eq, Bool.or_eq_true, beq_iff_eq, List.mem_append, List.mem_singleton]
        constructor
        · rintro (h | h)
          · exact Or.inl h
          · exact Or.inr h.symm
        · rintro (h | h)
          · exact Or.inl h
          · exact Or.inr h.symm)
      clear hx hr hg
      cases hkn : decide (other ∈ d.take i) with
      | true =>
        rw [hkn] at HT
        clear hkn
        go_wp2
        go_roundw
        case rel => exact ⟨i + 1, by omega, by first | rfl | go_num, by rw [HT.out]; rfl, by first | rfl | trivial⟩
        case measure => simp [intOf]; omega
      | false =>
        rw [hkn] at HT
        clear hkn
        go_wp2
        go_roundw
        case rel => exact ⟨i + 1, by omega, by first | rfl | go_num, by rw [HT.out]; first | rfl | simp, by first | rfl | trivial⟩
        case measure => simp [intOf]; omega
    · have hiz : ¬ (i : Int) < (nd : Int) := by omega
      rw [List.take_of_length_le (show d.length ≤ i by rw [HND.out]; omega)]
      go_upto_if 43 with fail
      go_cut [9, 10] from 42 to 47 (fun c _ wx => wx.ownsRow B0 3 1 c (keysI d other).length ((keysI d other).flatMap numC) ∧ Below B0 w wx)
      case first =>
        by_cases hoin : other ∈ d
        · rw [decide_eq_true hoin]
          have HK : Hid (keysI d other = d) := Lib.hid (by unfold keysI; rw [if_pos hoin])
          clear hoin
          go_wp2
          go_meet
          exact ⟨by rw [HK.out]; simpa using HO1.out, HB1.out⟩
        · rw [decide_eq_false hoin]
          have HK : Hid (keysI d other = d ++ [other]) := Lib.hid (by unfold keysI; rw [if_neg hoin])
          have hs1 : B0 ≤ wr.heap.size := by have := HB1.out.size; have := HB0.out; omega
          have HOA := Lib.hid (HO1.out.alloc (.cells #[.int .i64 other] 3))
          have HIA : Hid (NumsL (wr.alloc (.cells #[.int .i64 other] 3)) (.slice (some ⟨wr.heap.size, 0, none⟩) 1 1) [other]) := Lib.hid (LstIs.block (numC_len _) (heap_alloc_new _ _))
          have HSA : Hid (B0 ≤ (wr.alloc (.cells #[.int .i64 other] 3)).heap.size) := Lib.hid (by show _ ≤ (wr.heap.push _).size; simp; omega)
          have HBA := Lib.hid (HB1.out.alloc hs1 (.cells #[.int .i64 other] 3))
          have hlen : 0 + d.length + [other].length ≤ 100000 := by have := HND.out; simp; omega
          clear hoin
          go_wp2_with (at_builtin; refine wpList_append_lst intElem rfl _ _ rfl B0 _ _ _ rfl HOA.out _ [other] (numC_len _) (numC_one _) rfl HIA.out hlen HSA.out ?_; intro v8 w8 ho8 hg8 hr8; have HB8 := Lib.hid (HBA.out.grown hg8 HSA.out (fun j hj => (HOA.out.lt j hj).1)); have HO8 := Lib.hid ho8; clear ho8 hg8 hr8)
          go_meet
          exact ⟨by rw [HK.out, List.length_append, List.flatMap_append]; simpa using HO8.out, HB8.out⟩
      case rest =>
        obtain ⟨hk9, hb9⟩ := hcut
        obtain ⟨W1, hW1⟩ : ∃ W, W = wc := ⟨_, rfl⟩
        subst hW1
        obtain ⟨keys, hkeys⟩ : ∃ l, keysI d other = l := ⟨_, rfl⟩
        have HKI : Hid (∀ x ∈ keys, inI64 x) := Lib.hid (by
          rw [← hkeys]
          intro x hx
          unfold keysI at hx
          split at hx
          · exact HDI.out x hx
          · rcases List.mem_append.1 hx with h | h
            · exact HDI.out x h
            · rw [List.mem_singleton.1 h]; exact hoi)
        have hkl : keys.length ≤ 1001 := by
          rw [← hkeys]
          unfold keysI
          have := HND.out
          split <;> simp <;> omega
        rw [hkeys] at hk9 HRR HAL HNS
        have hks : NumsL W1 u9 keys := LstIs.own (numC_len _) hk9 rfl
        obtain ⟨ak, ck, rfl⟩ := hks.len
        obtain ⟨m, hm⟩ : ∃ n, keys.length = n := ⟨_, rfl⟩
        have HM := Lib.hid hm
        rw [hm] at hkl hks
        simp only [hm]
        have HKS := Lib.hid hks
        have HBC := Lib.hid hb9
        obtain ⟨Bk, hBk⟩ : ∃ B, W1.heap.size = B := ⟨_, rfl⟩
        have HBK := Lib.hid hBk
        have HM1 : Hid (DirsAt W1 b n F G) := Lib.hid (HM0.out.below (by rw [HB0.out]; exact HBC.out))
        clear hks hm hk9 hb9 hkeys HO1 HB1 HD1 HD0 HM0 HDI hin hiz hi
        go_wp2
        go_loopw [12, 13, 14] (fun av tv iv wr => ∃ i : Nat, i ≤ m ∧ iv = .int .i64 i ∧ wr.ownsRow Bk 104 6 av (allI G (keys.take i)).length ((allI G (keys.take i)).flatMap itmC) ∧ wr.ownsRow Bk 3 1 tv (thereI G (keys.take i)).length ((thereI G (keys.take i)).flatMap numC) ∧ (∀ q ∈ keys.take i, ∀ l, G q = some l → risingE l) ∧ Below Bk W1 wr) (fun _ _ iv _ => m - (intOf iv).toNat)
        case atStart => exact ⟨0, by omega, rfl, World.ownsRow_nil _ _ _ _, World.ownsRow_nil _ _ _ _, fun q hq => by simp at hq, Below.refl _ _⟩
        case round =>
          obtain ⟨i, hi, rfl, hav, htv, hri, hb⟩ := hrel
          have HAV := Lib.hid hav
          have HTV := Lib.hid htv
          have HRI := Lib.hid hri
          have HB := Lib.hid hb
          have hsz : Bk ≤ wr.heap.size := by have := hb.size; have := HBK.out; omega
          clear hav htv hri hb
          by_cases him : i < m
          · have hiz : (i : Int) < (m : Int) := by omega
            obtain ⟨q, hq⟩ : ∃ x, keys[i]? = some x := ⟨_, List.getElem?_eq_getElem (by rw [HM.out]; omega)⟩
            have HKW : Hid (NumsL wr (.slice ak m ck) keys) := Lib.hid (LstIs.kept HKS.out (by rw [HBK.out]; exact HB.out))
            obtain ⟨gk, ok, rfl, hgk, hrk⟩ := HKW.out.at hq
            have c1 := num_at hrk
            rw [Nat.mul_one] at c1
            have hqi := HKI.out q (List.mem_of_getElem? hq)
            have HQI := Lib.hid hqi
            obtain ⟨v15, l, hl, hgl, hlk, _⟩ := HM1.out.look (W := wr) (by rw [HBK.out]; exact HB.out) hqi
            obtain ⟨a15, cp15, rfl⟩ := hl.len
            obtain ⟨ln, hln⟩ : ∃ n, l.length = n := ⟨_, rfl⟩
            have HLN := Lib.hid hln
            rw [hln] at hl hlk
            have HGL := Lib.hid hgl
            have HQ := Lib.hid hq
            have HKC : Hid (∀ W : World, Below Bk W1 W → W.cell? ⟨gk, ok + i, none⟩ = some (.int .i64 q)) := Lib.hid (fun W hW => by
              have h := num_at ((LstIs.kept HKS.out (by rw [HBK.out]; exact hW)).spot hq)
              rw [Nat.mul_one] at h
              exact h)
            obtain ⟨okb, hok⟩ : ∃ t, (G q).isSome = t := ⟨_, rfl⟩
            rw [hok] at hlk
            have HOK := Lib.hid hok
            have hall := allI_snoc (G := G) hq
            rw [hgl] at hall
            have HALL := Lib.hid hall
            have hln5 : (allI G (keys.take i)).length + ln ≤ 5000 := by
              have h1 := allI_le (G := G) (keys := keys) (i := i + 1)
              rw [hall, List.length_append, List.length_map, hln] at h1
              have := HAL.out
              omega
            have hth : (thereI G (keys.take i)).length ≤ 1001 := by
              have h1 := thereI_le (G := G) (keys := keys.take i)
              rw [List.length_take] at h1
              omega
            have HL := Lib.hid hl
            clear hl hgl hq hqi hrk hgk hln hok hall HKW
            go_upto_if 63 with fail
            clear c1 hlk
            go_cut [13, 16] from 54 to 70 (fun tv _ wx => wx.ownsRow Bk 104 6 u12 (allI G (keys.take i)).length ((allI G (keys.take i)).flatMap itmC) ∧ wx.ownsRow Bk 3 1 tv (thereI G (keys.take (i + 1))).length ((thereI G (keys.take (i + 1))).flatMap numC) ∧ Below Bk W1 wx)
            case first =>
              cases okb with
              | false =>
                have HTK : Hid (thereI G (keys.take (i + 1)) = thereI G (keys.take i)) := Lib.hid (by rw [thereI_snoc HQ.out, HOK.out]; simp)
                go_wp2
                go_meet
                exact ⟨HAV.out, by rw [HTK.out]; exact HTV.out, HB.out⟩
              | true =>
                have HTK : Hid (thereI G (keys.take (i + 1)) = thereI G (keys.take i) ++ [q]) := Lib.hid (by rw [thereI_snoc HQ.out, HOK.out]; simp)
                have c1 := HKC.out wr HB.out
                have HOA := Lib.hid (HTV.out.alloc (.cells #[.int .i64 q] 3))
                have HIA : Hid (NumsL (wr.alloc (.cells #[.int .i64 q] 3)) (.slice (some ⟨wr.heap.size, 0, none⟩) 1 1) [q]) := Lib.hid (LstIs.block (numC_len _) (heap_alloc_new _ _))
                have HSA : Hid (Bk ≤ (wr.alloc (.cells #[.int .i64 q] 3)).heap.size) := Lib.hid (by show _ ≤ (wr.heap.push _).size; simp; omega)
                have HBA := Lib.hid (HB.out.alloc hsz (.cells #[.int .i64 q] 3))
                have HAA := Lib.hid (HAV.out.alloc (.cells #[.int .i64 q] 3))
                have hlen : (thereI G (keys.take i)).length + [q].length ≤ 100000 := by simp; omega
                go_wp2_with (at_builtin; refine wpList_append_lst intElem rfl _ _ rfl Bk _ _ _ rfl HOA.out _ [q] (numC_len _) (numC_one _) rfl HIA.out hlen HSA.out ?_; intro v8 w8 ho8 hg8 hr8; have HB8 := Lib.hid (HBA.out.grown hg8 HSA.out (fun j hj => (HOA.out.lt j hj).1)); have HO8 := Lib.hid ho8; have HA8 := Lib.hid (own_beside HAA.out HOA.out (by decide) hg8); clear ho8 hg8 hr8)
                go_meet
                exact ⟨HA8.out, by rw [HTK.out, List.length_append, List.flatMap_append]; exact HO8.out, HB8.out⟩
            case rest =>
              obtain ⟨W5, hW5⟩ : ∃ W, W = wc := ⟨_, rfl⟩
              subst hW5
              obtain ⟨ha5, ht5, hb5⟩ := hcut
              have HA5 := Lib.hid ha5
              have HT5 := Lib.hid ht5
              have HB5 := Lib.hid hb5
              clear HAV HTV HB ha5 ht5 hb5 hsz
              go_wp2
              go_loopw [12, 17] (fun av kv wr => ∃ k : Nat, k ≤ ln ∧ kv = .int .i64 k ∧ wr.ownsRow Bk 104 6 av (allI G (keys.take i) ++ (l.take k).map (Itm.mk q)).length ((allI G (keys.take i) ++ (l.take k).map (Itm.mk q)).flatMap itmC) ∧ wr.ownsRow Bk 3 1 u13 (thereI G (keys.take (i + 1))).length ((thereI G (keys.take (i + 1))).flatMap numC) ∧ risingE (l.take k) ∧ Below Bk W1 wr) (fun _ kv _ => ln - (intOf kv).toNat)
              case atStart => exact ⟨0, by omega, rfl, by simpa using HA5.out, HT5.out, rise_none _, HB5.out⟩
              case round =>
                obtain ⟨k, hk, rfl, hav, htv, hrk, hb⟩ := hrel
                have HAV := Lib.hid hav
                have HTV := Lib.hid htv
                have HRK := Lib.hid hrk
                have HB := Lib.hid hb
                have hsz : Bk ≤ wr.heap.size := by have := hb.size; have := HBK.out; omega
                clear hav htv hrk hb HA5 HT5 HB5
                by_cases hkn : k < ln
                · have hkz : (k : Int) < (ln : Int) := by omega
                  obtain ⟨y, hy⟩ : ∃ x, l[k]? = some x := ⟨_, List.getElem?_eq_getElem (by rw [HLN.out]; omega)⟩
                  obtain ⟨ge, oe, rfl, hge, hre⟩ := HL.out.at hy
                  have HEC : Hid (∀ W : World, Below Bk W1 W → W.cell? ⟨ge, oe + k * 5, none⟩ = some (.string y.name) ∧ W.cell? ⟨ge, oe + k * 5 + 1, none⟩ = some (.int .i64 y.node) ∧ W.cell? ⟨ge, oe + k * 5 + 2, none⟩ = some (.bool y.dir) ∧ W.cell? ⟨ge, oe + k * 5 + 3, none⟩ = some (.int .i64 y.cookie) ∧ W.cell? ⟨ge, oe + k * 5 + 4, none⟩ = some (.int .i64 y.short)) := Lib.hid (fun W hW => ent_at (rangeAt_below hre hge (by rw [HBK.out]; exact hW)))
                  have HSK : Hid (∀ W : World, Below Bk W1 W → Below Bk W1 W ∧ W.cell? ⟨gk, ok + i, none⟩ = some (.int .i64 q) ∧ W.cell? ⟨ge, oe + k * 5, none⟩ = some (.string y.name) ∧ W.cell? ⟨ge, oe + k * 5 + 1, none⟩ = some (.int .i64 y.node) ∧ W.cell? ⟨ge, oe + k * 5 + 2, none⟩ = some (.bool y.dir) ∧ W.cell? ⟨ge, oe + k * 5 + 3, none⟩ = some (.int .i64 y.cookie) ∧ W.cell? ⟨ge, oe + k * 5 + 4, none⟩ = some (.int .i64 y.short)) := Lib.hid (fun W hW => ⟨hW, HKC.out W hW, HEC.out W hW⟩)
                  have HBa : Hid (Below Bk W1 (wr.alloc (.cells #[.int .i64 q, .string y.name, .int .i64 y.node, .bool y.dir, .int .i64 y.cookie, .int .i64 y.short] 104)).drew) := Lib.hid (HB.out.alloc hsz _).drew
                  have HOa : Hid (World.ownsRow (wr.alloc (.cells #[.int .i64 q, .string y.name, .int .i64 y.node, .bool y.dir, .int .i64 y.cookie, .int .i64 y.short] 104)).drew Bk 104 6 u12 (allI G (keys.take i) ++ (l.take k).map (Itm.mk q)).length ((allI G (keys.take i) ++ (l.take k).map (Itm.mk q)).flatMap itmC)) := Lib.hid (HAV.out.alloc _)
                  have HTa : Hid (World.ownsRow (wr.alloc (.cells #[.int .i64 q, .string y.name, .int .i64 y.node, .bool y.dir, .int .i64 y.cookie, .int .i64 y.short] 104)).drew Bk 3 1 u13 (thereI G (keys.take (i + 1))).length ((thereI G (keys.take (i + 1))).flatMap numC)) := Lib.hid (HTV.out.alloc _)
                  have HIa : Hid ((wr.alloc (.cells #[.int .i64 q, .string y.name, .int .i64 y.node, .bool y.dir, .int .i64 y.cookie, .int .i64 y.short] 104)).drew.heap[wr.heap.size]? = some (.cells (itmC (Itm.mk q y)).toArray 104 (0, 0))) := Lib.hid (show (wr.alloc _).heap[wr.heap.size]? = _ from heap_alloc_new _ _)
                  have HLa : Hid (Bk ≤ (wr.alloc (.cells #[.int .i64 q, .string y.name, .int .i64 y.node, .bool y.dir, .int .i64 y.cookie, .int .i64 y.short] 104)).drew.heap.size) := Lib.hid (by have := HBa.out.size; have := HBK.out; omega)
                  have hlen1 : (allI G (keys.take i) ++ (l.take k).map (Itm.mk q)).length + [(Itm.mk q y)].length ≤ 100000 := by simp; omega
                  have HMID := Lib.hid (allI_mid (G := G) (keys := keys) (i := i) (q := q) hy)
                  have hs0 := HSK.out wr.drew HB.out.drew
                  have HY := Lib.hid hy
                  have HGE := Lib.hid hge
                  clear hre hge hy
                  go_upto_region 20 with fail
                  go_region_held3 (fun W => Below Bk W1 W ∧ W.cell? ⟨gk, ok + i, none⟩ = some (.int .i64 q) ∧ W.cell? ⟨ge, oe + k * 5, none⟩ = some (.string y.name) ∧ W.cell? ⟨ge, oe + k * 5 + 1, none⟩ = some (.int .i64 y.node) ∧ W.cell? ⟨ge, oe + k * 5 + 2, none⟩ = some (.bool y.dir) ∧ W.cell? ⟨ge, oe + k * 5 + 3, none⟩ = some (.int .i64 y.cookie) ∧ W.cell? ⟨ge, oe + k * 5 + 4, none⟩ = some (.int .i64 y.short)) (first | assumption | (refine HSK.out _ ?_; first | assumption | exact HBa.out | exact HB.out.drew | exact Below.drew ‹_›)) ((refine step_append_lst itmElem rfl _ _ rfl Bk u12 _ _ rfl HOa.out _ [(Itm.mk q y)] (itmC_len _) (fun z _ => itmC_one z) rfl (LstIs.block (itmC_len _) HIa.out) hlen1 HLa.out ?_; intro v8 w8 ho8 hg8 hr8; have hb8 : Below Bk W1 w8 := HBa.out.grown hg8 HLa.out (fun j hj => (HOa.out.lt j hj).1); have ht8 := own_beside HTa.out HOa.out (by decide) hg8))
                  all_goals
                    have HO9 : Hid (w8.ownsRow Bk 104 6 v8 (allI G (keys.take i) ++ (l.take (k + 1)).map (Itm.mk q)).length ((allI G (keys.take i) ++ (l.take (k + 1)).map (Itm.mk q)).flatMap itmC)) := Lib.hid (by
                      rw [HMID.out, List.length_append (bs := [_]), List.flatMap_append (ys := [_])]
                      exact ho8)
                    have HT9 := Lib.hid ht8
                    have HB9 := Lib.hid hb8
                    obtain ⟨f0, f1, f2, f3, f4⟩ := HEC.out w8 hb8
                    clear ho8 ht8 hb8 hg8 hr8 hs0
                    by_cases hk0 : k = 0
                    · have HRN : Hid (risingE (l.take (k + 1))) := Lib.hid (rise_snoc HRK.out HY.out (fun p x hp => by omega))
                      have hg0 : ¬ (0 : Int) < (k : Int) := by omega
                      have hg1 : ¬ ((k : Int) > 0) := by omega
                      go_wp2
                      go_quiet (fail)
                      go_wp2
                      go_roundw
                      case rel => exact ⟨k + 1, by omega, by first | rfl | go_num, own_drewN1 HO9.out _, own_drewN1 HT9.out _, HRN.out, below_drewN1 HB9.out _⟩
                      case measure => simp [intOf]; omega
                    · obtain ⟨p, hp⟩ : ∃ p, k = p + 1 := ⟨k - 1, by omega⟩
                      obtain ⟨x, hx⟩ : ∃ x, l[p]? = some x := ⟨_, List.getElem?_eq_getElem (by rw [HLN.out]; omega)⟩
                      have e3 := (ent_at (rangeAt_below (LstIs.spot HL.out hx) HGE.out (w' := w8) (by rw [HBK.out]; exact HB9.out))).2.2.2.1
                      have hg0 : (0 : Int) < (k : Int) := by omega
                      have hg2 : 0 < k := by omega
                      have hw1 : IntKind.i64.wrap ((k : Int) - 1) = (p : Int) := by rw [IntKind.wrap_i64]; omega
                      have hp0 : (0 : Int) ≤ (p : Int) := by omega
                      have hp1 : (p : Int) < (ln : Int) := by omega
                      have HPK := Lib.hid hp
                      have HX := Lib.hid hx
                      clear hx
                      by_cases hlt : x.cookie < y.cookie
                      · have HRN : Hid (risingE (l.take (k + 1))) := Lib.hid (rise_snoc HRK.out HY.out (fun p' x' hp' hx' => by
                          have : p' = p := by have := HPK.out; omega
                          subst this
                          rw [HX.out] at hx'
                          rw [← Option.some.inj hx']
                          exact hlt))
                        have hge : ¬ x.cookie ≥ y.cookie := by omega
                        have hge2 : ¬ y.cookie ≤ x.cookie := by omega
                        clear hp
                        go_wp2
                        go_quiet (fail)
                        go_wp2
                        go_roundw
                        case rel => exact ⟨k + 1, by omega, by first | rfl | go_num, own_drewN1 HO9.out _, own_drewN1 HT9.out _, HRN.out, below_drewN1 HB9.out _⟩
                        case measure => simp [intOf]; omega
                      · have HRF : Hid (R = false) := Lib.hid (by
                          have hy := HY.out
                          rw [HPK.out] at hy
                          cases hR : R with
                          | false => rfl
                          | true =>
                            have hF := HRR.out.1 hR
                            have hq := List.mem_of_getElem? HQ.out
                            cases hG : G q with
                            | none =>
                              have h1 := HGL.out
                              rw [hG] at h1
                              have h2 := HY.out
                              rw [← show ([] : List Ent) = l from h1] at h2
                              simp at h2
                            | some l' =>
                              have h1 := HGL.out
                              rw [hG] at h1
                              rw [show l' = l from h1] at hG
                              exact absurd (hF.rise q hq l hG) (rise_bad HX.out hy hlt))
                        have hge : x.cookie ≥ y.cookie := by omega
                        clear hp
                        go_wp2
                        go_quiet (fail)
                        go_wp2
                        go_ret
                        exact ⟨by rw [HRF.out]; rfl, by rw [HB0.out]; exact (HBC.out.trans ((below_drewN1 HB9.out _).mono (by have := HBC.out.size; have := HB0.out; have := HBK.out; omega)))⟩
                · have hkz : ¬ (k : Int) < (ln : Int) := by omega
                  have HTL : Hid (l.take k = l) := Lib.hid (List.take_of_length_le (by rw [HLN.out]; omega))
                  go_wp2
                  go_roundw
                  case rel => exact ⟨i + 1, by omega, by first | rfl | go_num, by rw [HALL.out, ← HTL.out]; exact HAV.out, HTV.out, (by
                    intro q' hq' l' hl'
                    rw [take_snoc HQ.out, List.mem_append, List.mem_singleton] at hq'
                    rcases hq' with h | rfl
                    · exact HRI.out q' h l' hl'
                    · have h1 := HGL.out
                      rw [hl'] at h1
                      rw [show l' = l from h1, ← HTL.out]
                      exact HRK.out), HB.out⟩
                  case measure => simp [intOf]; omega
          · have hiz : ¬ (i : Int) < (m : Int) := by omega
            have HTA : Hid (keys.take i = keys) := Lib.hid (List.take_of_length_le (by rw [HM.out]; omega))
            rw [HTA.out] at HAV HTV HRI
            obtain ⟨W4, hW4⟩ : ∃ W, W = wr := ⟨_, rfl⟩
            subst hW4
            obtain ⟨all, hall⟩ : ∃ l, allI G keys = l := ⟨_, rfl⟩
            obtain ⟨there, hth⟩ : ∃ l, thereI G keys = l := ⟨_, rfl⟩
            have htl : there.length ≤ 1001 := by
              have h1 := thereI_le (G := G) (keys := keys)
              rw [hth] at h1
              have := HM.out
              omega
            rw [hall] at HAV HAL HNS
            rw [hth] at HTV
            have HALL := Lib.hid hall
            have HTH := Lib.hid hth
            have hal : ItmsIs W4 u12 all := LstIs.own (itmC_len _) HAV.out rfl
            have htr : NumsL W4 u13 there := LstIs.own (numC_len _) HTV.out rfl
            obtain ⟨aa, ca, rfl⟩ := hal.len
            obtain ⟨ta, tc, rfl⟩ := htr.len
            obtain ⟨N, hN⟩ : ∃ n, all.length = n := ⟨_, rfl⟩
            obtain ⟨nt, hnt⟩ : ∃ n, there.length = n := ⟨_, rfl⟩
            have HN := Lib.hid hN
            have HNT := Lib.hid hnt
            have hN5 : N ≤ 5000 := by rw [← hN]; exact HAL.out
            rw [hnt] at htl
            rw [hN] at hal
            rw [hnt] at htr
            simp only [hN, hnt]
            have HA4 := Lib.hid hal
            have HT4 := Lib.hid htr
            have HB4 : Hid (Below B0 w W4) := Lib.hid (HBC.out.trans (HB.out.mono (by have := HBC.out.size; have := HB0.out; have := HBK.out; omega)))
            obtain ⟨B4, hB4⟩ : ∃ B, W4.heap.size = B := ⟨_, rfl⟩
            have HS4 := Lib.hid hB4
            have hB04 : B0 ≤ B4 := by have := HB4.out.size; have := HB0.out; omega
            clear hall hth hal htr hN hnt hB4 HAV HTV HAL HB hsz hi
            go_upto_region 23 with fail
            by_cases hck : cookie < 1
            · have HRF : Hid (R = false) := Lib.hid (by
                cases hR : R with
                | false => rfl
                | true => exact absurd (HRR.out.1 hR).pos (by omega))
              go_wp2
              go_ret
              exact ⟨by rw [HRF.out]; rfl, by rw [HB0.out]; exact HB4.out⟩
            · by_cases hrt : (0 : Int) ∈ there
              · have cH := fun W (h : NumsL W (.slice ta nt tc) there) => has10_c _ there 0 W h (by rw [HNT.out]; omega) true (decide_eq_true hrt)
                have HRT := Lib.hid hrt
                clear hrt
                go_wp2_with (go_at_call 49; refine (cH _ HT4.out).mono ?_; rintro e w5 ⟨rfl, hw5⟩; have hw6 := hw5.symm; subst hw6; clear hw5)
                clear cH
                go_loopw [18] (fun iv wq => ∃ j : Nat, j ≤ N ∧ iv = .int .i64 j ∧ (∀ x ∈ all.take j, okItm cookie there x) ∧ apartTo all j ∧ Below B4 W4 wq) (fun iv _ => N - (intOf iv).toNat)
                case atStart => exact ⟨0, by omega, rfl, fun x hx => by simp at hx, fun j k x y hj => by omega, Below.refl _ _⟩
                case round =>
                  obtain ⟨j, hj, rfl, hok, hap, hb⟩ := hrel
                  have HOK := Lib.hid hok
                  have HAP := Lib.hid hap
                  have HB := Lib.hid hb
                  clear hok hap hb
                  by_cases hjn : j < N
                  · have hjz : (j : Int) < (N : Int) := by omega
                    obtain ⟨x, hx⟩ : ∃ x, all[j]? = some x := ⟨_, List.getElem?_eq_getElem (by rw [HN.out]; omega)⟩
                    obtain ⟨ga, oa, rfl, hga, hra⟩ := HA4.out.at hx
                    obtain ⟨d0, d1, d2, d3, d4, d5⟩ := itm_at (rangeAt_below hra hga (w' := wr) (by rw [HS4.out]; exact HB.out))
                    have d2' : wr.cell? ⟨ga, oa + j * 6 + 1 + 1, none⟩ = some (.int .i64 x.e.node) := d2
                    have d3' : wr.cell? ⟨ga, oa + j * 6 + 1 + 2, none⟩ = some (.bool x.e.dir) := d3
                    have d4' : wr.cell? ⟨ga, oa + j * 6 + 1 + 3, none⟩ = some (.int .i64 x.e.cookie) := d4
                    have d5' : wr.cell? ⟨ga, oa + j * 6 + 1 + 4, none⟩ = some (.int .i64 x.e.short) := d5
                    clear d2 d3 d4 d5
                    have HX := Lib.hid hx
                    have hxn := HNS.out x (List.mem_of_getElem? hx)
                    clear hra hx
                    go_upto_region 29 with fail
                    have HE6 : Hid ((wr.alloc (.cells #[.string x.e.name, .int .i64 x.e.node, .bool x.e.dir, .int .i64 x.e.cookie, .int .i64 x.e.short] 93)).heap[wr.heap.size]? = some (.cells #[.string x.e.name, .int .i64 x.e.node, .bool x.e.dir, .int .i64 x.e.cookie, .int .i64 x.e.short] 93 (0, 0))) := Lib.hid (heap_alloc_new _ _)
                    have hbe : B4 ≤ wr.heap.size := by have := HB.out.size; have := HS4.out; omega
                    have HB6 : Hid (Below B4 W4 (wr.alloc (.cells #[.string x.e.name, .int .i64 x.e.node, .bool x.e.dir, .int .i64 x.e.cookie, .int .i64 x.e.short] 93))) := Lib.hid (HB.out.alloc hbe _)
                    generalize (wr.alloc (.cells #[.string x.e.name, .int .i64 x.e.node, .bool x.e.dir, .int .i64 x.e.cookie, .int .i64 x.e.short] 93)) = W6 at *
                    generalize wr.heap.size = be at *
                    have HBE : Hid (be + 1 ≤ W6.heap.size) := Lib.hid (lt_of_get HE6.out)
                    clear HB d0 d1 d2' d3' d4' d5'
                    have cN := fun W => new10_c W
                    unfold treeV at cN
                    obtain ⟨m6, n6, k6, f6, hf6, cL⟩ := link_trial x.e.name hxn x.e.short
                    have HF6 := Lib.hid hf6
                    clear hf6 hxn
                    have HSK : Hid (∀ W : World, Below (be + 1) W6 W → Below (be + 1) W6 W ∧ W.cell? ⟨be, 0, none⟩ = some (.string x.e.name) ∧ W.cell? ⟨be, 1, none⟩ = some (.int .i64 x.e.node) ∧ W.cell? ⟨be, 2, none⟩ = some (.bool x.e.dir) ∧ W.cell? ⟨be, 3, none⟩ = some (.int .i64 x.e.cookie) ∧ W.cell? ⟨be, 4, none⟩ = some (.int .i64 x.e.short)) := Lib.hid (fun W hW => ⟨hW, (five_cells (W := W) ((hW.block be (by omega)).trans HE6.out)).1⟩)
                    go_cut [20, 21, 22] from 118 to 132 (fun t20 _ t22 wx => ∃ (q : Nat) (a7 : Option Addr) (c7 : Nat), t20 = .pointer (some ⟨q, 0, none⟩) ∧ t22 = .int .i64 f6 ∧ wx.heap[q]? = some (.cells #[.slice a7 m6 c7, .int .i64 n6] 33 (0, 0)) ∧ Below (be + 1) W6 wx)
                    case first =>
                      have hs0 := HSK.out W6.drew (Below.refl _ _).drew
                      go_region_held3 (fun W => Below (be + 1) W6 W ∧ W.cell? ⟨be, 0, none⟩ = some (.string x.e.name) ∧ W.cell? ⟨be, 1, none⟩ = some (.int .i64 x.e.node) ∧ W.cell? ⟨be, 2, none⟩ = some (.bool x.e.dir) ∧ W.cell? ⟨be, 3, none⟩ = some (.int .i64 x.e.cookie) ∧ W.cell? ⟨be, 4, none⟩ = some (.int .i64 x.e.short)) (first | assumption | (refine HSK.out _ ?_; first | assumption | exact (Below.refl _ _).drew | exact Below.drew ‹_› | exact below_al (Below.refl _ _) HBE.out | exact (below_al (Below.refl _ _) HBE.out).drew | exact below_al ‹_› HBE.out | exact below_two hq8 hqq)) (first
                        | (go_at_call 11; refine (cN _).mono ?_; rintro e w5 ⟨rfl, hb5⟩; have hq5 : Below (be + 1) W6 w5 := below_step HBE.out (by first | assumption | exact (Below.refl _ _).drew | exact Below.drew ‹_› | exact (below_al (Below.refl _ _) HBE.out).drew | exact below_al (Below.refl _ _) HBE.out) hb5)
                        | (go_at_call 34; refine (cL _).mono ?_; rintro e w7 ⟨a7, c7, rfl, hb7⟩; have hT7 : w7.heap[W6.heap.size]? = some tree0 := tree_kept (tree_kept (W := (W6.alloc tree0).drew) (tree_fresh W6) hb5) hb7; have hq8 : Below (be + 1) W6 w7 := below_step HBE.out hq5 hb7; have hqq : be + 1 ≤ W6.heap.size := HBE.out; obtain ⟨⟨z0, z1⟩, y0, y1⟩ := two_cells hT7)
                        | (go_at_call 34; refine (cL _).mono ?_; rintro e w7 ⟨a7, c7, rfl, hb7⟩; have hT7 : w7.heap[w5.heap.size]? = some tree0 := tree_kept (W := w5.alloc tree0) (tree_fresh w5) hb7; have hq8 : Below (be + 1) W6 w7 := below_step HBE.out (below_al hq5 HBE.out) hb7; have hqq : be + 1 ≤ w5.heap.size := Nat.le_trans HBE.out hq5.size; obtain ⟨⟨z0, z1⟩, y0, y1⟩ := two_cells hT7)
                        | (go_at_call 34; refine (cL _).mono ?_; rintro e w7 ⟨a7, c7, rfl, hb7⟩; have hq7 : Below (be + 1) W6 w7 := below_step HBE.out hq5 hb7; have hT7 : (w7.alloc tree0).heap[w7.heap.size]? = some tree0 := tree_fresh w7; have hq8 : Below (be + 1) W6 (w7.alloc tree0) := below_al hq7 HBE.out; have hqq : be + 1 ≤ w7.heap.size := Nat.le_trans HBE.out hq7.size; obtain ⟨⟨z0, z1⟩, y0, y1⟩ := two_cells hT7))
                      all_goals
                        go_wp2
                        go_meet
                        first
                          | exact ⟨_, _, _, rfl, rfl, tree_put hT7 _ _, below_two hq8 hqq⟩
                          | exact ⟨_, _, _, rfl, rfl, heap_alloc_new _ _, below_al hq7 HBE.out⟩
                    case rest =>
                      obtain ⟨W9, hW9⟩ : ∃ W, W = wc := ⟨_, rfl⟩
                      subst hW9
                      obtain ⟨q, a7, c7, h20, h22, hq9, hb9⟩ := hcut
                      subst h20
                      subst h22
                      have HB9 : Hid (Below B4 W4 W9) := Lib.hid (HB6.out.trans (hb9.mono (by omega)))
                      obtain ⟨s0, s1, s2, s3, s4⟩ := (HSK.out W9 hb9).2
                      obtain ⟨⟨z0, z1⟩, _⟩ := two_cells hq9
                      have HT9 : Hid (∀ p, NumsL (W9.drewN p) (.slice ta nt tc) there) := Lib.hid (fun p => LstIs.kept HT4.out (by rw [HS4.out]; exact below_drewN1 HB9.out p))
                      have HA9 : Hid (∀ p, ItmsIs (W9.drewN p) (.slice (some ⟨ga, oa, none⟩) N ca) all) := Lib.hid (fun p => LstIs.kept HA4.out (by rw [HS4.out]; exact below_drewN1 HB9.out p))
                      obtain ⟨good, hgood⟩ : ∃ t, decide (okItm cookie there x) = t := ⟨_, rfl⟩
                      have HGD := Lib.hid hgood
                      have HBQ := Lib.hid hb9
                      clear hgood hq9 hb9 cN cL HB6
                      go_upto_region 30 with fail
                      go_cut [170] from 133 to 170 (fun c wx => c = .bool (!good) ∧ ∃ p, wx = W9.drewN p)
                      case first =>
                        have HNG : Hid (¬ okItm cookie there x → good = false) := Lib.hid (fun h => by rw [← HGD.out]; exact decide_eq_false h)
                        have HYG : Hid (okItm cookie there x → good = true) := Lib.hid (fun h => by rw [← HGD.out]; exact decide_eq_true h)
                        by_cases h1 : f6 = 0
                        · have hm6 : m6 = 1 := HF6.out.2 h1
                          have HBE0 : Hid (badE x.e.name x.e.short = 0) := Lib.hid (by rw [← HF6.out.1]; exact h1)
                          subst hm6
                          subst h1
                          by_cases h2 : x.e.node < 1
                          · have HG := Lib.hid (HNG.out (fun h => by have := h.2.1; omega))
                            go_quiet (fail)
                            go_wp2
                            go_meet
                            exact ⟨by rw [HG.out]; rfl, _, rfl⟩
                          · by_cases h3 : x.e.node > 200
                            · have HG := Lib.hid (HNG.out (fun h => by have := h.2.2.1; omega))
                              have h3b : ¬ x.e.node ≤ 200 := by omega
                              have h3c : (200 : Int) < x.e.node := by omega
                              go_quiet (fail)
                              go_wp2
                              go_meet
                              exact ⟨by rw [HG.out]; rfl, _, rfl⟩
                            · have h3c : ¬ (200 : Int) < x.e.node := by omega
                              by_cases h4 : x.e.cookie < 1
                              · have HG := Lib.hid (HNG.out (fun h => by have := h.2.2.2.1; omega))
                                go_quiet (fail)
                                go_wp2
                                go_meet
                                exact ⟨by rw [HG.out]; rfl, _, rfl⟩
                              · by_cases h5 : x.e.cookie ≥ cookie
                                · have HG := Lib.hid (HNG.out (fun h => by have := h.2.2.2.2.1; omega))
                                  have h5c : cookie ≤ x.e.cookie := h5
                                  go_quiet (fail)
                                  go_wp2
                                  go_meet
                                  exact ⟨by rw [HG.out]; rfl, _, rfl⟩
                                · have h5c : ¬ cookie ≤ x.e.cookie := h5
                                  by_cases h6 : x.e.node ∈ there
                                  · have cH := fun W (h : NumsL W (.slice ta nt tc) there) => has10_c _ there x.e.node W h (by rw [HNT.out]; omega) true (decide_eq_true h6)
                                    cases hd : x.e.dir with
                                    | true =>
                                      rw [hd] at s2
                                      have HG := Lib.hid (HYG.out ⟨HBE0.out, by omega, by omega, by omega, by omega, by rw [decide_eq_true h6, hd]⟩)
                                      clear hd h6
                                      go_quiet ((go_at_call 49; exact Calls.quiet_of_same ((cH _ (HT9.out _)).mono fun _ _ h => ⟨h.1, h.2⟩)))
                                      go_wp2
                                      go_meet
                                      exact ⟨by rw [HG.out]; rfl, _, rfl⟩
                                    | false =>
                                      rw [hd] at s2
                                      have HG := Lib.hid (HNG.out (fun h => by have := h.2.2.2.2.2; rw [decide_eq_true h6, hd] at this; cases this))
                                      clear hd h6
                                      go_quiet ((go_at_call 49; exact Calls.quiet_of_same ((cH _ (HT9.out _)).mono fun _ _ h => ⟨h.1, h.2⟩)))
                                      go_wp2
                                      go_meet
                                      exact ⟨by rw [HG.out]; rfl, _, rfl⟩
                                  · have cH := fun W (h : NumsL W (.slice ta nt tc) there) => has10_c _ there x.e.node W h (by rw [HNT.out]; omega) false (decide_eq_false h6)
                                    cases hd : x.e.dir with
                                    | true =>
                                      rw [hd] at s2
                                      have HG := Lib.hid (HNG.out (fun h => by have := h.2.2.2.2.2; rw [decide_eq_false h6, hd] at this; cases this))
                                      clear hd h6
                                      go_quiet ((go_at_call 49; exact Calls.quiet_of_same ((cH _ (HT9.out _)).mono fun _ _ h => ⟨h.1, h.2⟩)))
                                      go_wp2
                                      go_meet
                                      exact ⟨by rw [HG.out]; rfl, _, rfl⟩
                                    | false =>
                                      rw [hd] at s2
                                      have HG := Lib.hid (HYG.out ⟨HBE0.out, by omega, by omega, by omega, by omega, by rw [decide_eq_false h6, hd]⟩)
                                      clear hd h6
                                      go_quiet ((go_at_call 49; exact Calls.quiet_of_same ((cH _ (HT9.out _)).mono fun _ _ h => ⟨h.1, h.2⟩)))
                                      go_wp2
                                      go_meet
                                      exact ⟨by rw [HG.out]; rfl, _, rfl⟩
                        · have HG := Lib.hid (HNG.out (fun h => h1 (by rw [HF6.out.1]; exact h.1)))
                          have e1 : (f6 == 0) = false := by rw [beq_eq_false_iff_ne]; exact h1
                          have e2 : (f6 != 0) = true := by rw [bne, e1]; rfl
                          go_quiet (fail)
                          go_wp2
                          go_meet
                          exact ⟨by rw [HG.out]; rfl, _, rfl⟩
                      case rest =>
                        obtain ⟨W30, hW30⟩ : ∃ W, W = wc := ⟨_, rfl⟩
                        subst hW30
                        obtain ⟨h170, p, hp⟩ := hcut
                        subst h170
                        have HPP := Lib.hid hp
                        have HBX : Hid (Below B0 w W9) := Lib.hid (HB4.out.trans (HB9.out.mono hB04))
                        clear hp s0 s1 s2 s3 s4 z0 z1
                        cases good with
                        | false =>
                          have HRF : Hid (R = false) := Lib.hid (by
                            cases hR : R with
                            | false => rfl
                            | true =>
                              have h := (HRR.out.1 hR).ok
                              rw [HALL.out, HTH.out] at h
                              exact absurd (h x (List.mem_of_getElem? HX.out)) (of_decide_eq_false HGD.out))
                          go_wp2
                          go_ret
                          exact ⟨by rw [HRF.out]; rfl, by rw [HB0.out, HPP.out]; exact below_drewN1 HBX.out _⟩
                        | true =>
                          go_wp2
                          go_loopw [23] (fun kv wr => ∃ k : Nat, k ≤ j ∧ kv = .int .i64 k ∧ (∀ k' y, k' < k → all[k']? = some y → ¬ clash y x) ∧ ∃ p, wr = W9.drewN p) (fun kv _ => j - (intOf kv).toNat)
                          case atStart => exact ⟨0, by omega, rfl, fun k' y h => by omega, p, HPP.out⟩
                          case round =>
                            obtain ⟨k, hk, rfl, hcl, p2, hp2⟩ := hrel
                            have HCL := Lib.hid hcl
                            have HP := Lib.hid hp2
                            clear hcl hp2
                            by_cases hkj : k < j
                            · have hkz : (k : Int) < (j : Int) := by omega
                              obtain ⟨y, hy⟩ : ∃ y, all[k]? = some y := ⟨_, List.getElem?_eq_getElem (by rw [HN.out]; omega)⟩
                              have HAW : Hid (ItmsIs wr (.slice (some ⟨ga, oa, none⟩) N ca) all) := Lib.hid (by rw [HP.out]; exact HA9.out p2)
                              obtain ⟨e0, e1, e2, e3, e4, e5⟩ := itm_at (LstIs.spot HAW.out hy)
                              obtain ⟨i0, _⟩ := itm_at (LstIs.spot HAW.out HX.out)
                              have e2' : wr.cell? ⟨ga, oa + k * 6 + 1 + 1, none⟩ = some (.int .i64 y.e.node) := e2
                              have e4' : wr.cell? ⟨ga, oa + k * 6 + 1 + 3, none⟩ = some (.int .i64 y.e.cookie) := e4
                              obtain ⟨_, s0, s1, s2, s3, s4⟩ := HSK.out wr (by rw [HP.out]; exact below_drewN1 HBQ.out p2)
                              clear e2 e3 e4 e5
                              have HY := Lib.hid hy
                              obtain ⟨bad, hbad⟩ : ∃ t, decide (clash y x) = t := ⟨_, rfl⟩
                              have HBD := Lib.hid hbad
                              have hkn : (k : Int) < (N : Int) := by omega
                              have hjn2 : (j : Int) < (N : Int) := by omega
                              clear hy hbad
                              go_upto_region 35 with fail
                              go_cut [219] from 171 to 219 (fun c wx => c = .bool bad ∧ ∃ p, wx = W9.drewN p)
                              case first =>
                                have HYB : Hid (clash y x → bad = true) := Lib.hid (fun h => by rw [← HBD.out]; exact decide_eq_true h)
                                have HNB : Hid (¬ clash y x → bad = false) := Lib.hid (fun h => by rw [← HBD.out]; exact decide_eq_false h)
                                by_cases c1 : y.e.node = x.e.node
                                · have HG := Lib.hid (HYB.out (Or.inl c1))
                                  rw [c1] at e2'
                                  clear c1
                                  go_quiet (fail)
                                  go_wp2
                                  go_meet
                                  exact ⟨by rw [HG.out], _, by rw [HP.out, World.drewN_drewN]⟩
                                · have n1 : (y.e.node == x.e.node) = false := by rw [beq_eq_false_iff_ne]; exact c1
                                  by_cases c2 : y.e.cookie = x.e.cookie
                                  · have HG := Lib.hid (HYB.out (Or.inr (Or.inl c2)))
                                    rw [c2] at e4'
                                    clear c1 c2
                                    go_quiet (fail)
                                    go_wp2
                                    go_meet
                                    exact ⟨by rw [HG.out], _, by rw [HP.out, World.drewN_drewN]⟩
                                  · have n2 : (y.e.cookie == x.e.cookie) = false := by rw [beq_eq_false_iff_ne]; exact c2
                                    by_cases c3 : y.inn = x.inn
                                    · by_cases c4 : y.e.name = x.e.name
                                      · have HG := Lib.hid (HYB.out (Or.inr (Or.inr ⟨c3, c4⟩)))
                                        rw [c3] at e0
                                        rw [c4] at e1
                                        clear c1 c2 c3 c4
                                        go_quiet (fail)
                                        go_wp2
                                        go_meet
                                        exact ⟨by rw [HG.out], _, by rw [HP.out, World.drewN_drewN]⟩
                                      · have HG := Lib.hid (HNB.out (fun h => h.elim c1 fun h => h.elim c2 fun h => c4 h.2))
                                        have n4 := text_ne c4
                                        rw [c3] at e0
                                        clear c1 c2 c3 c4
                                        go_quiet (fail)
                                        go_wp2
                                        go_meet
                                        exact ⟨by rw [HG.out], _, by rw [HP.out, World.drewN_drewN]⟩
                                    · have HG := Lib.hid (HNB.out (fun h => h.elim c1 fun h => h.elim c2 fun h => c3 h.1))
                                      have n3 : (y.inn == x.inn) = false := by rw [beq_eq_false_iff_ne]; exact c3
                                      clear c1 c2 c3
                                      go_quiet (fail)
                                      go_wp2
                                      go_meet
                                      exact ⟨by rw [HG.out], _, by rw [HP.out, World.drewN_drewN]⟩
                              case rest =>
                                obtain ⟨W35, hW35⟩ : ∃ W, W = wc := ⟨_, rfl⟩
                                subst hW35
                                obtain ⟨h219, p3, hp3⟩ := hcut
                                subst h219
                                have HP3 := Lib.hid hp3
                                clear hp3 e0 e1 e2' e4' i0 s0 s1 s2 s3 s4
                                cases bad with
                                | true =>
                                  have HRF : Hid (R = false) := Lib.hid (by
                                    cases hR : R with
                                    | false => rfl
                                    | true =>
                                      have h := (HRR.out.1 hR).apart
                                      rw [HALL.out] at h
                                      exact absurd (of_decide_eq_true HBD.out) (h j k x y (by rw [HN.out]; omega) hkj HX.out HY.out))
                                  go_wp2
                                  go_ret
                                  exact ⟨by rw [HRF.out]; rfl, by rw [HB0.out, HP3.out]; exact below_drewN1 HBX.out _⟩
                                | false =>
                                  go_wp2
                                  go_roundw
                                  case rel => exact ⟨k + 1, by omega, by first | rfl | go_num, (fun k' y' h1 h2 => by
                                    by_cases e : k' = k
                                    · subst e
                                      rw [HY.out] at h2
                                      obtain rfl := Option.some.inj h2
                                      exact of_decide_eq_false HBD.out
                                    · exact HCL.out k' y' (by omega) h2), p3, HP3.out⟩
                                  case measure => simp [intOf]; omega
                            · have hkz : ¬ (k : Int) < (j : Int) := by omega
                              go_wp2
                              go_roundw
                              case rel => exact ⟨j + 1, by omega, by first | rfl | go_num, (fun z hz => by
                                rw [take_snoc HX.out, List.mem_append, List.mem_singleton] at hz
                                rcases hz with h | rfl
                                · exact HOK.out z h
                                · exact of_decide_eq_true HGD.out), (fun j' k' x' y' h1 h2 h3 h4 => by
                                by_cases e : j' = j
                                · subst e
                                  rw [HX.out] at h3
                                  obtain rfl := Option.some.inj h3
                                  exact HCL.out k' y' (by omega) h4
                                · exact HAP.out j' k' x' y' (by omega) h2 h3 h4), by rw [HP.out]; exact below_drewN1 HB9.out _⟩
                              case measure => simp [intOf]; omega
                  · have hjz : ¬ (j : Int) < (N : Int) := by omega
                    have hjN : j = N := by omega
                    have HR2 : Hid (R = true ↔ ∀ t ∈ there, Reach all t) := Lib.hid (by
                      constructor
                      · intro h
                        have := (HRR.out.1 h).reach
                        rw [HALL.out, HTH.out] at this
                        exact this
                      · intro h
                        refine HRR.out.2 ⟨fun q hq l hl => HRI.out q hq l hl, by omega, by rw [HTH.out]; exact HRT.out, ?_, ?_, by rw [HALL.out, HTH.out]; exact h⟩
                        · rw [HALL.out, HTH.out]
                          intro z hz
                          exact HOK.out z (by rw [List.take_of_length_le (by rw [HN.out]; omega)]; exact hz)
                        · rw [HALL.out, HN.out, ← hjN]
                          exact HAP.out)
                    have cR := reached10_c (.slice aa N ca) (.slice ta nt tc) all there wr (LstIs.kept HA4.out (by rw [HS4.out]; exact HB.out)) (LstIs.kept HT4.out (by rw [HS4.out]; exact HB.out)) (by rw [HN.out]; omega) (by rw [HNT.out]; omega) R HR2.out
                    go_wp2_with (go_at_call 50; refine cR.mono ?_; rintro e w5 ⟨rfl, hb5⟩; have HB5 := Lib.hid hb5; clear hb5)
                    go_ret
                    exact ⟨rfl, by rw [HB0.out]; exact HB4.out.trans ((HB.out.trans (HB5.out.mono (by have := HB.out.size; have := HS4.out; omega))).mono hB04)⟩
              · have cH := fun W (h : NumsL W (.slice ta nt tc) there) => has10_c _ there 0 W h (by rw [HNT.out]; omega) false (decide_eq_false hrt)
                have HRF : Hid (R = false) := Lib.hid (by
                  cases hR : R with
                  | false => rfl
                  | true => exact absurd (by rw [← HTH.out]; exact (HRR.out.1 hR).root) hrt)
                clear hrt
                go_wp2_with (go_at_call 49; refine (cH _ HT4.out).mono ?_; rintro e w5 ⟨rfl, hw5⟩; have hw6 := hw5.symm; subst hw6; clear hw5)
                go_ret
                exact ⟨by rw [HRF.out]; rfl, by rw [HB0.out]; exact HB4.out⟩

end Go.Proofs.Ythjieagmglbonaa
