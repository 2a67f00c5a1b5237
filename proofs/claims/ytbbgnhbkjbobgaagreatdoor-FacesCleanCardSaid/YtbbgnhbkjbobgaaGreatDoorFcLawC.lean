/-
  The law FacesClean of stage 14, walked: it answers true; what lay in memory stays.
-/
import Derived.Test.YtbbgnhbkjbobgaaGreatDoorFcStep
import Derived.Test.YtbbgnhbkjbobgaaGreatDoorFcPick
import Derived.Test.YtbbgnhbkjbobgaaGreatDoorFcFind
import Derived.Test.YtbbgnhbkjbobgaaGreatDoorFcLawKit
import Derived.Deep.RegionHeld3
import Derived.Deep.CutRange
namespace Go.Proofs.YtbbgnhbkjbobgaaGreatDoor
open Go.RowKit Go.Sort
set_option linter.unusedVariables false

def strC (s : ByteArray) : List Value := [.string s]
theorem str_at {w : World} {a : Option Addr} {n cap : Nat} {l : List ByteArray} (h : LstIs strC 1 w (.slice a n cap) l) {j : Nat} {s : ByteArray} (hj : l[j]? = some s) : ∃ g off, a = some ⟨g, off, none⟩ ∧ g < w.heap.size ∧ w.cell? ⟨g, off + j, none⟩ = some (.string s) := by
  obtain ⟨g, off, h1, h2, h3⟩ := h.at hj
  refine ⟨g, off, h1, h2, ?_⟩
  have := h3 0 _ rfl
  rw [Nat.mul_one, Nat.add_zero] at this
  exact this
theorem strs_cells {w : World} {a : Option Addr} {n cap : Nat} {l : List ByteArray} (h : LstIs strC 1 w (.slice a n cap) l) (h0 : 0 < l.length) : ∃ g off, a = some ⟨g, off, none⟩ ∧ g < w.heap.size ∧ ∀ j s, l[j]? = some s → w.cell? ⟨g, off + j, none⟩ = some (.string s) := by
  obtain ⟨g, off, h1, h2, _⟩ := str_at h (List.getElem?_eq_getElem h0)
  refine ⟨g, off, h1, h2, fun j s hj => ?_⟩
  obtain ⟨g', off', h3, _, h4⟩ := str_at h hj
  rw [h1] at h3
  injection h3 with h3
  injection h3 with e1 e2
  subst e1 e2
  exact h4
set_option maxHeartbeats 8000000 in
set_option maxRecDepth 100000 in
theorem clean14_walk (x : Int) (hx0 : 0 ≤ x) (hx1 : x ≤ 255) (v : Value) (ns : List ByteArray) (w : World) (hv : LstIs strC 1 w v ns) (hl : ns.length ≤ 9223372036854775807) (hs : ∀ s ∈ ns, s.size ≤ 9223372036854775807) (hT : Tabs w) (hB : Base w) :
    Calls Tryz.prog 6 #[.int .u8 x, v] w fun e w' => e = .returned (.bool true) ∧ Below w.heap.size w w' := by
  have cA := awake14_c w hT hB
  have HA : Hid (∀ w1, Below w.heap.size w w1 → Calls Tryz.prog 7 #[] w1 fun e w' => e = .returned (.bool true) ∧ Below w1.heap.size w1 w') := Lib.hid (fun w1 h1 => awake14_c w1 (hT.step h1) (hB.step h1))
  obtain ⟨E, hE⟩ : ∃ E, x % 9 = E := ⟨_, rfl⟩
  have hE0 : 0 ≤ E := by omega
  have hE8 : E ≤ 8 := by omega
  have hwE : IntKind.i64.wrap E = E := by rw [IntKind.wrap_i64]; omega
  obtain ⟨n, hn⟩ : ∃ n, ns.length = n := ⟨_, rfl⟩
  by_cases hn12 : n ≤ 12
  · have hz : ¬ (12 : Int) < (n : Int) := by omega
    have HE0 := Lib.hid hE0
    have HGO : Hid (∀ s ∈ ns, ∀ w1, Calls Tryz.prog 23 #[.string s] w1 fun e w' => e = .returned (.bool (goodB s)) ∧ Below w1.heap.size w1 w') := Lib.hid (fun s hm w1 => esGood_c s (hs s hm) w1)
    have HPI : Hid (∀ (lv : Value) (l : List Ent) (s : ByteArray) (w1 : World), Below w.heap.size w w1 → EntsIs w1 lv l → l.length ≤ 200 → (∀ e ∈ l, EntOk e) → s.size ≤ 300 → Calls Tryz.prog 18 #[.int .i64 E, lv, .string s] w1 fun e w' => e = .returned (.int .i64 (pickI E l s.data.toList)) ∧ Below w1.heap.size w1 w') := Lib.hid (fun lv l s w1 h1 h2 h3 h4 h5 => pick_c E hE0 hE8 lv l s w1 h2 h3 h4 h5 (hT.step h1))
    have HOF : Hid (∀ (e : Ent), EntOk e → ∀ w1, Below w.heap.size w w1 → Calls Tryz.prog 11 #[.int .i64 E, entV e] w1 fun r w' => r = .returned (.string ⟨(faceL E e).toArray⟩) ∧ Below w1.heap.size w1 w') := Lib.hid (fun e he w1 h1 => of_c E hE0 hE8 e he w1 (hT.step h1) (hB.step h1))
    have HFI : Hid (∀ (lv : Value) (l : List Ent) (s : ByteArray) (w1 : World), Below w.heap.size w w1 → EntsIs w1 lv l → l.length ≤ 1000 → (∀ e ∈ l, EntOk e) → Calls Tryz.prog 14 #[.int .i64 E, lv, .string s] w1 fun e w' => e = .returned (foundV (faced E l s.data.toList)) ∧ Below w1.heap.size w1 w') := Lib.hid (fun lv l s w1 h1 h2 h3 h4 => ffind_c E hE0 hE8 lv l s w1 h2 h3 h4 (hT.step h1) (hB.step h1))
    have HCL : Hid (∀ (lv : Value) (l : List Ent) (w1 : World), Below w.heap.size w w1 → EntsIs w1 lv l → l.length ≤ 1000 → (∀ e ∈ l, EntOk e) → Calls Tryz.prog 16 #[.int .i64 E, lv] w1 fun e w' => e = .returned (.bool (cleanB E l)) ∧ Below w1.heap.size w1 w') := Lib.hid (fun lv l w1 h1 h2 h3 h4 => clean_c E hE0 hE8 lv l w1 h2 h3 h4 (hT.step h1) (hB.step h1))
    have HV := Lib.hid hv
    have HN := Lib.hid hn
    obtain ⟨an, cap, hva⟩ := hv.len
    rw [hn] at hva
    subst hva
    clear hv hl hs hT hB hn
    go_enter Tryz.func6, Tryz.ntmps6
    go_wp2_with fail
    refine cA.mono ?_
    rintro e w1 ⟨rfl, hb1⟩
    have HB1 := Lib.hid hb1
    clear cA hb1
    go_wp2
    go_loopw [7, 6] (fun iv lv wr => ∃ i : Nat, iv = .int .i64 i ∧ i ≤ n ∧ (∃ o, o = lv ∧ OwnE w1.heap.size wr o (mkE E (ns.take i))) ∧ (∀ s ∈ ns.take i, goodB s = true) ∧ (ns.take i).Nodup ∧ Below w1.heap.size w1 wr) (fun iv _ _ => n - (intOf iv).toNat)
    case atStart => exact ⟨0, rfl, by omega, ⟨_, rfl, OwnE.nil _ _⟩, (fun s hs => by simp at hs), by simp, Below.refl _ _⟩
    case round =>
      obtain ⟨i, rfl, hi, ⟨lv, rfl, hown⟩, hgd, hnd, hbel⟩ := hrel
      have HO := Lib.hid hown
      have HGD := Lib.hid hgd
      have HND := Lib.hid hnd
      have HBE0 := Lib.hid hbel
      have hmk := mkE_len E (ns.take i)
      rw [List.length_take, HN.out, Nat.min_eq_left hi] at hmk
      obtain ⟨al, cl, hvl⟩ := hown.form
      rw [hmk] at hvl
      subst hvl
      have HMKL := Lib.hid hmk
      have HBW : Hid (Below w.heap.size w wr) := Lib.hid (HB1.out.trans (hbel.mono HB1.out.size))
      clear hown hgd hnd hmk
      by_cases hin : i < n
      · have hiz : (i : Int) < (n : Int) := by omega
        have hn0 : 0 < ns.length := by rw [HN.out]; omega
        obtain ⟨gn, offn, rfl, hgn, hcs⟩ := strs_cells HV.out hn0
        obtain ⟨s, hsi⟩ : ∃ s, ns[i]? = some s := ⟨_, List.getElem?_eq_getElem (by rw [HN.out]; exact hin)⟩
        have HCS : Hid (∀ W, Below w.heap.size w W → ∀ j s, ns[j]? = some s → W.cell? ⟨gn, offn + j, none⟩ = some (.string s)) := Lib.hid (fun W h j s hj => by rw [h.cell (p := ⟨gn, offn + j, none⟩) hgn]; exact hcs j s hj)
        have HSI := Lib.hid hsi
        have htk := take_snocE hsi
        have HTK := Lib.hid htk
        have cs := HCS.out wr HBW.out i s hsi
        clear hn0 hgn hcs hsi htk
        go_wp2
        go_loopw [8] (fun kv wx => ∃ k : Nat, kv = .int .i64 k ∧ k ≤ i ∧ (∀ j y, j < k → ns[j]? = some y → y ≠ s) ∧ Below wr.heap.size wr wx) (fun kv _ => i - (intOf kv).toNat)
        case atStart => exact ⟨0, rfl, by omega, fun j y hj => absurd hj (by omega), Below.refl _ _⟩
        case round =>
          obtain ⟨k, rfl, hk, hno, hbk⟩ := hrel
          have HNO := Lib.hid hno
          rename World => wx
          have HBK := Lib.hid hbk
          have HBX : Hid (Below w.heap.size w wx) := Lib.hid (HBW.out.trans (hbk.mono HBW.out.size))
          clear hno
          have cs2 := HCS.out wx HBX.out i s HSI.out
          by_cases hki : k < i
          · have hkz : (k : Int) < (i : Int) := by omega
            have hkn : (k : Int) < (n : Int) := by omega
            obtain ⟨y, hy⟩ : ∃ y, ns[k]? = some y := ⟨_, List.getElem?_eq_getElem (by rw [HN.out]; omega)⟩
            have ck := HCS.out wx HBX.out k y hy
            have HY := Lib.hid hy
            clear hy hbk
            by_cases he : y = s
            · have hcm : (y.toList == s.toList) = true := by rw [he]; simp
              clear he
              go_wp2
              go_quiet (fail)
              go_wp2
              go_ret
              exact ⟨rfl, below_drewN' HBX.out _⟩
            · have hcm : (y.toList == s.toList) = false := text_ne he
              have HE : Hid (∀ j z, j < k + 1 → ns[j]? = some z → z ≠ s) := Lib.hid (fun j z hj hz => by
                by_cases e : j = k
                · subst e
                  rw [HY.out] at hz
                  obtain rfl := Option.some.inj hz
                  exact he
                · exact HNO.out j z (by omega) hz)
              clear he
              go_wp2
              go_quiet (fail)
              go_wp2
              go_roundw
              case rel => exact ⟨k + 1, by first | rfl | go_num, by omega, HE.out, below_drewN' HBK.out _⟩
              case measure => simp [intOf]; omega
          · have hkz : ¬ ((k : Int) < (i : Int)) := by omega
            have hki2 : k = i := by omega
            have HND2 : Hid ((ns.take (i + 1)).Nodup) := Lib.hid (by
              rw [HTK.out, List.nodup_append]
              refine ⟨HND.out, by simp, fun a ha b hb => ?_⟩
              rw [List.mem_singleton] at hb
              subst hb
              obtain ⟨j, hj, rfl⟩ := List.getElem_of_mem ha
              rw [List.length_take] at hj
              rw [List.getElem_take]
              exact HNO.out j _ (by omega) (List.getElem?_eq_getElem (by omega)))
            have cG := HGO.out s (List.mem_of_getElem? HSI.out) wx
            clear hbk hki2
            cases hg : goodB s with
            | false =>
              rw [hg] at cG
              go_wp2_with fail
              refine cG.mono ?_
              rintro e w5 ⟨rfl, hb5⟩
              go_wp2
              go_ret
              exact ⟨rfl, HBX.out.trans (hb5.mono HBX.out.size)⟩
            | true =>
              rw [hg] at cG
              have hsz := goodSz hg
              have HGD2 : Hid (∀ t ∈ ns.take (i + 1), goodB t = true) := Lib.hid (fun t ht => by
                rw [HTK.out] at ht
                rcases List.mem_append.1 ht with h | h
                · exact HGD.out t h
                · rw [List.mem_singleton.1 h]; exact hg)
              have hall := (mkE_all HE0.out ns i (by rw [HN.out]; omega) (by rw [HN.out]; omega) HGD.out HND.out).1
              have HMK : Hid (mkE E (ns.take (i + 1)) = mkE E (ns.take i) ++ [newE E (mkE E (ns.take i)) s]) := Lib.hid (by rw [HTK.out, mkE_snoc])
              have hok : ∀ e ∈ mkE E (ns.take i), EntOk e := fun e he => by
                obtain ⟨hp, hz⟩ := hall e he
                refine ⟨by omega, ?_⟩
                rcases hp with ⟨_, h⟩ | ⟨_, h1, h2⟩ <;> omega
              have HOK := Lib.hid hok
              obtain ⟨l, hll⟩ : ∃ l, mkE E (ns.take i) = l := ⟨_, rfl⟩
              rw [hll] at HMK HOK HO HMKL
              obtain ⟨PK, hPK⟩ : ∃ PK, pickI E l s.data.toList = PK := ⟨_, rfl⟩
              have hln := HMKL.out
              have hl12 : l.length ≤ 1000 := by omega
              have HLN := Lib.hid hln
              have HPQ : Hid (pickI E l s.data.toList = PK) := Lib.hid hPK
              clear hll hok hall hg hPK hln
              go_wp2_with fail
              refine cG.mono ?_
              rintro e w5 ⟨rfl, hb5⟩
              have HBE : Hid (Below w1.heap.size w1 w5) := Lib.hid (HBE0.out.trans ((HBK.out.trans (hb5.mono HBK.out.size)).mono HBE0.out.size))
              have HLI : Hid (EntsIs w5 (.slice al i cl) l) := Lib.hid (LstIs.kept HO.out.ents (HBK.out.trans (hb5.mono HBK.out.size)))
              have HBY : Hid (Below w.heap.size w w5) := Lib.hid (HB1.out.trans (HBE.out.mono HB1.out.size))
              have cs5 := HCS.out w5 HBY.out i s HSI.out
              have HPK : Hid (∀ W, Below w5.heap.size w5 W → Calls Tryz.prog 18 #[.int .i64 E, .slice al i cl, .string s] W fun e w' => e = .returned (.int .i64 PK) ∧ Below W.heap.size W w') := Lib.hid (fun W h => by
                rw [← HPQ.out]
                exact HPI.out _ l s W (HBY.out.trans (h.mono HBY.out.size)) (LstIs.kept HLI.out h) (by have := HLN.out; omega) HOK.out (by omega))
              have hwi : IntKind.i64.wrap ((i : Int) + 1) = (i : Int) + 1 := by rw [IntKind.wrap_i64]; omega
              clear cG hb5 cs cs2 hsz
              clear HBK HBX HBW HBE0 HO HND HGD HNO
              go_upto_region 15 with fail
              have HBz : Hid (Below w5.heap.size w5 w5.drew) := Lib.hid (Below.refl _ _).drew
              have HBa : Hid (Below w5.heap.size w5 (w5.alloc E0).drew) := Lib.hid ((Below.refl _ _).alloc (Nat.le_refl _) _).drew
              have HEa : Hid ((w5.alloc E0).drew.heap[w5.heap.size]? = some (.cells #[] 29 (0, 0))) := Lib.hid (show (w5.alloc E0).heap[w5.heap.size]? = _ from heap_alloc_new _ _)
              have HK : Hid (∀ W, Below w5.heap.size w5 W → W.cell? ⟨gn, offn + i, none⟩ = some (.string s)) := Lib.hid (fun W h => by rw [h.cell (p := ⟨gn, offn + i, none⟩) (block_lt_of_cell cs5)]; exact cs5)
              go_region_held3 (fun W => W.cell? ⟨gn, offn + i, none⟩ = some (.string s)) ((refine HK.out _ ?_; (first | assumption | exact HBa.out | exact HBz.out | exact below_alS (by assumption) _ | exact below_alS (below_alS (by assumption) _) _))) (first
                | ((refine step_first (w := w5) rfl _ _ rfl _ rfl HEa.out (Nat.le_refl _) HBa.out _ l rfl HLI.out hl12 ?_); intro v7 w7 ho7 hb7 hk7; have hs7 := hb7.size; obtain ⟨a7, c7, hv7⟩ := ho7.form; rw [HLN.out] at hv7; subst hv7)
                | (go_at_call 18; refine (HPK.out _ hb7).mono ?_; rintro e w8 ⟨rfl, hb8⟩; have hbw8 := hb7.trans (hb8.mono hb7.size); have ho8 := ho7.below hb8; have hs8 := hbw8.size)
                | ((refine step_second (w := w5) rfl _ _ rfl _ l rfl (ho8.al _) (below_alS hbw8 _) _ (⟨s, (i : Int) + 1, false, 0, PK⟩ : Ent) rfl (heap_alloc_new w8 _) hl12 ?_); intro v9 w9 ho9 hb9; obtain ⟨a9, c9, hv9⟩ := ho9.form; rw [List.length_append, HLN.out] at hv9; subst hv9)
                | fail)
              all_goals
                have HNE : newE E l s = ⟨s, (i : Int) + 1, false, 0, PK⟩ := by unfold newE; rw [HLN.out, HPQ.out]
                have HO9 : Hid (OwnE w5.heap.size w9 _ (l ++ [newE E l s])) := Lib.hid (by rw [HNE]; exact ho9)
                have HB9 := Lib.hid (HBE.out.trans (hb9.mono HBE.out.size))
                clear ho9 hb9 HNE
                go_wp2
                go_roundw
                case rel => exact ⟨i + 1, by first | rfl | go_num, by omega, ⟨_, rfl, by rw [HMK.out]; exact HO9.out.mono HBE.out.size⟩, HGD2.out, HND2.out, HB9.out⟩
                case measure => simp [intOf]; omega
      · have hiz : ¬ ((i : Int) < (n : Int)) := by omega
        obtain rfl : n = i := by omega
        have htn : ns.take n = ns := List.take_of_length_le (by rw [HN.out]; omega)
        rw [htn] at HO HGD HND HMKL
        have hnl : ns.length ≤ 100 := by rw [HN.out]; omega
        obtain ⟨hall, hnf⟩ := mkE_all HE0.out ns ns.length (Nat.le_refl _) hnl (by rw [List.take_length]; exact HGD.out) (by rw [List.take_length]; exact HND.out)
        rw [List.take_length] at hall hnf
        have hcln := mkE_clean HE0.out hnl HGD.out HND.out
        have hok : ∀ e ∈ mkE E ns, EntOk e := fun e he => by
          obtain ⟨hp, hz⟩ := hall e he
          refine ⟨by omega, ?_⟩
          rcases hp with ⟨_, h⟩ | ⟨_, h1, h2⟩ <;> omega
        have hfs : ∀ e ∈ mkE E ns, (faceL E e).length ≤ 255 := fun e he => picked_short HE0.out (hall e he).1
        obtain ⟨L, hL⟩ : ∃ L, mkE E ns = L := ⟨_, rfl⟩
        rw [hL] at HO HMKL hok hfs hnf hcln
        have HOK := Lib.hid hok
        have HFS := Lib.hid hfs
        have HNF := Lib.hid hnf
        have HCT := Lib.hid hcln
        have hLn := HMKL.out
        have HLN := Lib.hid hLn
        have HLW := Lib.hid HO.out.ents
        clear htn hnl hall hnf hcln hok hfs hL hLn hbel HGD HND HMKL HO hiz hin
        go_wp2
        go_loopw [9] (fun jv wx => ∃ j : Nat, jv = .int .i64 j ∧ j ≤ n ∧ Below wr.heap.size wr wx) (fun jv _ => n - (intOf jv).toNat)
        case atStart => exact ⟨0, rfl, by omega, Below.refl _ _⟩
        case round =>
          obtain ⟨j, rfl, hj, hbj⟩ := hrel
          rename World => wx
          have HBJ := Lib.hid hbj
          have HBX : Hid (Below w.heap.size w wx) := Lib.hid (HBW.out.trans (hbj.mono HBW.out.size))
          have HLX : Hid (EntsIs wx (.slice al n cl) L) := Lib.hid (LstIs.kept HLW.out hbj)
          clear hbj
          by_cases hjn : j < n
          · have hjz : (j : Int) < (n : Int) := by omega
            have hj0 : (0 : Int) ≤ (j : Int) := by omega
            obtain ⟨x, hx⟩ : ∃ x, L[j]? = some x := ⟨_, List.getElem?_eq_getElem (by rw [HLN.out]; exact hjn)⟩
            obtain ⟨g, off, rfl, hg, hrr⟩ := HLX.out.at hx
            obtain ⟨d0, d1, d2, d3, d4⟩ := ent_at hrr
            have hm := List.mem_of_getElem? hx
            have hxo := HOK.out x hm
            have HXO := Lib.hid hxo
            have HRR := Lib.hid hrr
            have HG := Lib.hid hg
            have cO := HOF.out x hxo wx HBX.out
            obtain ⟨F, hF⟩ : ∃ F : ByteArray, (⟨(faceL E x).toArray⟩ : ByteArray) = F := ⟨_, rfl⟩
            have hFs : F.size ≤ 255 := by
              rw [← hF]
              show (faceL E x).toArray.size ≤ 255
              simpa using HFS.out x hm
            have hfd : foundV (faced E L F.data.toList) = .tuple #[entV x, .bool true] := by
              rw [← hF]
              show foundV (faced E L (faceL E x)) = _
              rw [faced_own HNF.out hx]
              rfl
            have HFD : Hid (∀ W, Below wx.heap.size wx W → Calls Tryz.prog 14 #[.int .i64 E, .slice (some ⟨g, off, none⟩) n cl, .string F] W fun e w' => e = .returned (.tuple #[entV x, .bool true]) ∧ Below W.heap.size W w') := Lib.hid (fun W h => by
              have h9 := HFI.out (.slice (some ⟨g, off, none⟩) n cl) L F W (HBX.out.trans (h.mono HBX.out.size)) (LstIs.kept HLX.out h) (by rw [HLN.out]; omega) HOK.out
              rw [hfd] at h9
              exact h9)
            have HO2 : Hid (∀ W, Below w.heap.size w W → Calls Tryz.prog 11 #[.int .i64 E, entV x] W fun r w' => r = .returned (.string F) ∧ Below W.heap.size W w') := Lib.hid (fun W h => by rw [← hF]; exact HOF.out x hxo W h)
            have HN1 : Hid (∀ W, (binOp .neq 29 (entV x) (entV x)).run Tryz.prog W = .ok (.bool false) W) := Lib.hid (fun W => by rw [ent_neq, decide_eq_true rfl]; rfl)
            have HN2 : Hid (∀ op a b W, (eqGuard op 29 a b (entV x) (entV x)).run Tryz.prog W = .ok () W) := Lib.hid (fun op a b W => ent_guard op a b x x W)
            rw [hF] at cO
            have HQF : Hid (∀ W : World, (W.alloc (.cells #[.string x.name, .int .i64 x.node, .bool x.dir, .int .i64 x.cookie, .int .i64 x.short] 29)).heap[W.heap.size]? = some (.cells #[.string x.name, .int .i64 x.node, .bool x.dir, .int .i64 x.cookie, .int .i64 x.short] 29 (0, 0))) := Lib.hid (fun W => entsBlock x W)
            unfold entV at cO HFD HO2 HN1 HN2
            have h255 : ¬ ((255 : Int) < (F.size : Int)) := by omega
            have h255b := decide_eq_false h255
            clear hx hg hrr hm hxo hF hfd hFs
            obtain ⟨nm, nd, dr, ck, sh⟩ := x
            simp only at d0 d1 d2 d3 d4 cO HFD HO2 HN1 HN2 HQF
            go_upto_region 20 with (first
              | (go_at_call 11; refine cO.mono ?_; rintro e w6 ⟨rfl, hb6⟩; have cF := HFD.out w6 hb6)
              | (go_at_call 14; refine cF.mono ?_; rintro e w7 ⟨rfl, hb7⟩))
            have hbx7 : Below wx.heap.size wx w7 := hb6.trans (hb7.mono hb6.size)
            have hbx8 : Below wx.heap.size wx (w7.alloc (.cells #[.string nm, .int .i64 nd, .bool dr, .int .i64 ck, .int .i64 sh] 29)) := hbx7.alloc hbx7.size _
            have HBX8 := Lib.hid hbx8
            have HQ8 := Lib.hid (HQF.out w7)
            obtain ⟨e0, e1, e2, e3, e4⟩ := ent_at (rangeAt_below HRR.out HG.out hbx8)
            simp only at e0 e1 e2 e3 e4
            clear hb6 hb7 hbx7 hbx8 cO d0 d1 d2 d3 d4
            (try clear cF)
            generalize w7.alloc (.cells #[.string nm, .int .i64 nd, .bool dr, .int .i64 ck, .int .i64 sh] 29) = W8 at *
            obtain ⟨q, hq⟩ : ∃ q, w7.heap.size = q := ⟨_, rfl⟩
            rw [hq] at HQ8
            (try rw [hq])
            clear hq
            obtain ⟨⟨p0, p1, p2, p3, p4⟩, _⟩ := five_cells HQ8.out
            have HBW8 : Hid (Below w.heap.size w W8) := Lib.hid (HBX.out.trans (HBX8.out.mono HBX.out.size))
            have cO8 := regr (W := W8) (fun w9 h9 => HO2.out w9 (HBW8.out.trans (h9.mono HBW8.out.size)))
            have k0 := cell_regrown e0
            have k1 := cell_regrown e1
            have k2 := cell_regrown e2
            have k3 := cell_regrown e3
            have k4 := cell_regrown e4
            have m0 := cell_regrown p0
            have m1 := cell_regrown p1
            have m2 := cell_regrown p2
            have m3 := cell_regrown p3
            have m4 := cell_regrown p4
            have hn1 := HN1.out
            have hn2 := HN2.out
            clear e0 e1 e2 e3 e4 p0 p1 p2 p3 p4
            refine wp_region_quiet_below (by kernel_rfl) (by kernel_rfl) ?_
            repeat (quiet_step (with_reducible exact cO8 _ _))
            refine wpQuiet_nil ?_
            intro _ hw'
            obtain ⟨⟨dq, osq⟩, hw''⟩ := hw'
            subst hw''
            have HB9 : Hid (Below wr.heap.size wr (Go.Sort.grow (redrawn W8 dq) osq)) := Lib.hid ((HBJ.out.trans (HBX8.out.mono HBJ.out.size)).trans ((below_regrown _ dq osq).mono (HBJ.out.trans (HBX8.out.mono HBJ.out.size)).size))
            clear cO8 k0 k1 k2 k3 k4 m0 m1 m2 m3 m4 hn1 hn2
            generalize Go.Sort.grow (redrawn W8 dq) osq = w9 at *
            go_wp2
            go_roundw
            case rel => exact ⟨j + 1, by first | rfl | go_num, by omega, HB9.out⟩
            case measure => simp [intOf]; omega
          · have hjz : ¬ ((j : Int) < (n : Int)) := by omega
            have cC := HCL.out (.slice al n cl) L wx HBX.out HLX.out (by rw [HLN.out]; omega) HOK.out
            rw [HCT.out] at cC
            go_wp2_with fail
            refine cC.mono ?_
            rintro e w6 ⟨rfl, hb6⟩
            go_wp2
            go_ret
            exact ⟨rfl, HBX.out.trans (hb6.mono HBX.out.size)⟩
  · have hz : (12 : Int) < (n : Int) := by omega
    obtain ⟨a, cap, rfl⟩ := hv.len
    rw [hn]
    clear hv hn hl hs hT hB hn12
    go_enter Tryz.func6, Tryz.ntmps6
    go_wp2_with fail
    refine cA.mono ?_
    rintro e w1 ⟨rfl, hb1⟩
    have HB1 := Lib.hid hb1
    have cA2 := HA.out w1 hb1
    clear cA hb1
    go_wp2_with fail
    refine cA2.mono ?_
    rintro e w2 ⟨rfl, hb2⟩
    have HB2 := Lib.hid (HB1.out.trans (hb2.mono HB1.out.size))
    clear cA2 hb2
    go_wp2
    go_ret
    exact ⟨rfl, HB2.out⟩
end Go.Proofs.YtbbgnhbkjbobgaaGreatDoor
