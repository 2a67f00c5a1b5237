/-
  The law WalkSplits of stage 15, walked, over what the program's Split keeps.
-/
import Derived.Test.YtfioknaadbgjlaaDoorWkLawA
import Derived.Deep.RegionHeld3
namespace Go.Proofs.YtfioknaadbgjlaaDoor
open Go.RowKit Go.Sort
set_option linter.unusedVariables false

theorem mkS_app (a b : List UInt8) : mkS a ++ mkS b = mkS (a ++ b) := by
  apply ByteArray.ext
  apply Array.toList_inj.1
  rw [ByteArray.data_append, Array.toList_append]
  rfl
theorem joinP_snoc (ns : List (List UInt8)) (x : List UInt8) : joinP (ns ++ [x]) = joinP ns ++ 47 :: x := by simp [joinP]
theorem joinP_le (ns : List (List UInt8)) (i : Nat) : (joinP (ns.take i)).length ≤ (joinP ns).length := by
  have h : joinP ns = joinP (ns.take i) ++ joinP (ns.drop i) := by
    unfold joinP
    rw [← List.flatMap_append, List.take_append_drop]
  rw [h, List.length_append]
  omega
set_option maxHeartbeats 4000000 in
set_option maxRecDepth 100000 in
theorem splits_walk {K : World → Prop} (hL : Lasts K) (hP : SplitC K) (b : ByteArray) (hs : b.size ≤ 9223372036854775807) (w : World) (hw : K w) :
    Calls Tryd.prog 3 #[.string b] w fun e w' => e = .returned (.bool true) ∧ Below w.heap.size w w' := by
  have cA := awake15_c hP w hw
  have HA : Hid (∀ w1, Below w.heap.size w w1 → Calls Tryd.prog 4 #[] w1 fun e w' => e = .returned (.bool true) ∧ Below w1.heap.size w1 w') := Lib.hid (fun w1 h1 => awake15_c hP w1 (hL _ _ hw h1))
  have HS : Hid (∀ w1, Below w.heap.size w w1 → _) := Lib.hid (fun w1 h1 => hP b w1 hs (hL _ _ hw h1))
  have HR := Lib.hid (fun w1 => rsplit_c b hs w1)
  have hl : b.data.toList.length = b.size := by simp
  clear hP hL hw
  by_cases hbig : 1100 < b.size
  · have hz : (1100 : Int) < (b.size : Int) := by omega
    clear hbig hl
    go_enter Tryd.func3, Tryd.ntmps3
    go_wp2_with fail
    refine cA.mono ?_
    rintro e w1 ⟨rfl, hb1⟩
    go_wp2_with fail
    refine (HA.out w1 hb1).mono ?_
    rintro e w2 ⟨rfl, hb2⟩
    go_wp2
    go_ret
    exact ⟨rfl, hb1.trans (hb2.mono hb1.size)⟩
  · have hz : ¬ (1100 : Int) < (b.size : Int) := by omega
    obtain ⟨P, hPP⟩ : ∃ P, b.data.toList = P := ⟨_, rfl⟩
    obtain ⟨ns, z, hsp⟩ : ∃ ns z, splitI P = (ns, z) := ⟨_, _, rfl⟩
    have hlen : (joinP ns).length ≤ 1100 := by
      have h1 := splitI_join (p := P)
      have h2 := splitI_err P
      rw [hsp] at h1 h2
      rcases h2 with h2 | ⟨h2, -⟩
      · rcases h1 h2 with h | ⟨-, h⟩
        · rw [h, ← hPP, hl]; omega
        · simp only at h; rw [h]; simp [joinP]
      · simp only at h2; rw [h2]; simp [joinP]
    have HJ := Lib.hid (splitI_join (p := P))
    have hn16 := splitI_len P
    rw [hsp] at HJ hn16
    unfold SplitPost at HR
    rw [hPP, hsp] at HS HR
    simp only at HJ hn16 HS HR
    obtain ⟨m, hm⟩ : ∃ m, ns.length = m := ⟨_, rfl⟩
    rw [hm] at hn16
    have HM := Lib.hid hm
    clear hm hbig hl
    go_enter Tryd.func3, Tryd.ntmps3
    go_wp2_with fail
    refine cA.mono ?_
    rintro e w1 ⟨rfl, hb1⟩
    go_wp2_with fail
    refine (HS.out w1 hb1).mono ?_
    rintro e w2 ⟨v, rfl, hT, hb2⟩
    have HB2 : Hid (Below w.heap.size w w2) := Lib.hid (hb1.trans (hb2.mono hb1.size))
    obtain ⟨a, c, hv⟩ := hT.len
    rw [List.length_map, HM.out] at hv
    subst hv
    have HT := Lib.hid hT
    clear hT hb1 hb2 cA
    go_wp2_with fail
    refine (HR.out w2).mono ?_
    rintro e w3 ⟨v2, rfl, hT2, -, hb3⟩
    have HB3 : Hid (Below w.heap.size w w3) := Lib.hid (HB2.out.trans (hb3.mono HB2.out.size))
    obtain ⟨a2, c2, hv⟩ := hT2.len
    rw [List.length_map, HM.out] at hv
    subst hv
    have HT2 := Lib.hid hT2
    have HT3 := Lib.hid (LstIs.kept HT.out hb3)
    clear hT2 hb3
    go_wp2
    go_loopw [7, 8] (fun sv iv wr => ∃ i : Nat, iv = .int .i64 i ∧ i ≤ m ∧ sv = .string (mkS (joinP (ns.take i))) ∧ Below w3.heap.size w3 wr) (fun _ iv _ => m - (intOf iv).toNat)
    case atStart => exact ⟨0, rfl, by omega, rfl, Below.refl _ _⟩
    case round =>
      obtain ⟨i, rfl, him, rfl, hbel⟩ := hrel
      by_cases hk : i < m
      · have hkz : (i : Int) < (m : Int) := by omega
        have hk0 : (0 : Int) ≤ (i : Int) := by omega
        obtain ⟨x, hx⟩ : ∃ x, ns[i]? = some x := ⟨_, List.getElem?_eq_getElem (by rw [HM.out]; omega)⟩
        have HTa := Lib.hid (LstIs.kept HT3.out hbel)
        have HTb := Lib.hid (LstIs.kept HT2.out hbel)
        obtain ⟨g, off, rfl, hg, hcell⟩ := txt_at HTa.out (j := i) (s := mkS x) (by rw [List.getElem?_map, hx]; rfl)
        obtain ⟨g2, off2, rfl, hg2, hcell2⟩ := txt_at HTb.out (j := i) (s := mkS x) (by rw [List.getElem?_map, hx]; rfl)
        have HJ2 : Hid (joinP (ns.take (i + 1)) = joinP (ns.take i) ++ 47 :: x) := Lib.hid (by rw [take_snoc hx, joinP_snoc])
        have hle := joinP_le ns (i + 1)
        rw [HJ2.out] at hle
        have hla : (mkS (joinP (ns.take i))).size ≤ 1100 := by
          rw [List.length_append] at hle
          show (joinP (ns.take i)).toArray.size ≤ 1100
          rw [List.size_toArray]; omega
        have hlx : (mkS (47 :: x)).size ≤ 1100 := by
          rw [List.length_append] at hle
          show (47 :: x).toArray.size ≤ 1100
          rw [List.size_toArray]; omega
        have hl1 : ¬ 9223372036854775807 < 1 + (mkS x).size := by
          have : (47 :: x).toArray.size ≤ 1100 := hlx
          rw [List.size_toArray, List.length_cons] at this
          show ¬ 9223372036854775807 < 1 + x.toArray.size
          rw [List.size_toArray]; omega
        have hee : (⟨#[47]⟩ : ByteArray) ++ mkS x = mkS (47 :: x) := mkS_app [47] x
        have hes : mkS (joinP (ns.take i)) ++ mkS (47 :: x) = mkS (joinP (ns.take (i + 1))) := by rw [mkS_app, HJ2.out]
        obtain ⟨S2, hS2'⟩ : ∃ S, mkS (joinP (ns.take (i + 1))) = S := ⟨_, rfl⟩
        have hS2 := Lib.hid hS2'
        rw [hS2'] at hes
        clear hS2'
        clear hx hle
        go_wp2
        go_quiet (fail)
        have hq := below_draws (Below.refl wr.heap.size wr) nq
        have hc3 := hq.cell (p := ⟨g, off + i, none⟩) hg
        rw [hcell] at hc3
        have HB4 : Hid (Below w3.heap.size w3 (wr.drewN nq)) := Lib.hid (below_draws hbel nq)
        clear hq hcell hcell2
        generalize wr.drewN nq = W at *
        have hne : ((mkS x).toList != (mkS x).toList) = false := by simp
        go_wp2
        go_roundw
        case rel => exact ⟨i + 1, by first | rfl | go_num, by omega, by rw [hS2.out], HB4.out⟩
        case measure => simp [intOf] <;> omega
      · have hkz : ¬ (i : Int) < (m : Int) := by omega
        have HT9 : Hid (ns.take i = ns) := Lib.hid (List.take_of_length_le (by rw [HM.out]; omega))
        have HB9 : Hid (Below w.heap.size w wr) := Lib.hid (HB3.out.trans (hbel.mono HB3.out.size))
        rw [HT9.out]
        have hbt : b = mkS P := by rw [← hPP, mkS_of]
        by_cases hz0 : z = 0
        · subst hz0
          rcases HJ.out rfl with h | ⟨h, hn⟩
          · have he : ((mkS (joinP ns)).toList == b.toList) = true := by rw [h, hbt]; simp
            go_wp2
            go_ret
            exact ⟨rfl, HB9.out⟩
          · have hn' : ns = [] := hn
            have hb47 : b.toList = [47] := by rw [ByteArray.toList_eq, hPP, h]
            have hm0 : (mkS (joinP ns)).toList = [] := by rw [ByteArray.toList_eq, mkS_list, hn']; rfl
            have he1 : ((mkS (joinP ns)).toList == b.toList) = false := by rw [hm0, hb47]; rfl
            have he2 : (b.toList == [47]) = true := by rw [hb47]; rfl
            have he3 : (mkS (joinP ns)).toList.isEmpty = true := by rw [hm0]; rfl
            clear hn' hb47 hm0 h hn hbt
            go_wp2
            go_ret
            exact ⟨rfl, HB9.out⟩
        · have hzb : (z != 0) = true := bne_iff_ne.2 hz0
          go_wp2
          go_ret
          exact ⟨rfl, HB9.out⟩
end Go.Proofs.YtfioknaadbgjlaaDoor
