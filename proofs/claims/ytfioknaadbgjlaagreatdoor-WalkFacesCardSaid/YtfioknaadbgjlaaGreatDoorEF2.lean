/- Kit. -/
import Derived.Test.YtfioknaadbgjlaaGreatDoorEF1
import Derived.Test.YtfioknaadbgjlaaGreatDoorEK9
import Derived.Sort.OwnSorted
import Derived.Test.YtfioknaadbgjlaaGreatDoorEShelf
set_option maxRecDepth 100000
set_option linter.unusedVariables false
set_option linter.unusedSimpArgs false
namespace Go.Proofs.YtfioknaadbgjlaaGreatDoor.F
open Go.RowKit Go.Sort
/-- A row of texts, in just one block. -/
def Txt (b : Nat) (w : World) (xs : List (List UInt8)) : Prop := w.heap[b]? = some (.cells (xs.map encStr).toArray 9 (0, 0))
theorem Txt.cell {b j : Nat} {w : World} {xs : List (List UInt8)} (h : Txt b w xs) (hj : j < xs.length) : w.cell? ⟨b, j, none⟩ = some (.string ⟨(xs.getD j []).toArray⟩) := by
  rw [Lib.cell_of_heap h]
  simp [List.getD_eq_getElem?_getD, hj]
theorem Txt.frozen {b j : Nat} {w : World} {xs : List (List UInt8)} (h : Txt b w xs) : w.frozen? ⟨b, j, none⟩ = false := frozen_of_row _ _ _ _ _ h
theorem Txt.set {b j : Nat} {w : World} {xs : List (List UInt8)} (h : Txt b w xs) (x : List UInt8) : Txt b (w.setCell ⟨b, j, none⟩ (.string ⟨x.toArray⟩)) (xs.set j x) := by
  unfold Txt at *
  rw [setCell_eq]
  simp [mapBlock, Array.getElem?_modify, h, onCells, List.map_set]
theorem Txt.below {b B : Nat} {w w' : World} {xs : List (List UInt8)} (h : Txt b w xs) (hB : b < B) (hb : Below B w w') : Txt b w' xs := by
  unfold Txt at *
  rw [hb.block b hB]; exact h
theorem Txt.lt {b : Nat} {w : World} {xs : List (List UInt8)} (h : Txt b w xs) : b < w.heap.size := lt_of_get h
theorem Txt.keep {b : Nat} {w w' : World} {xs : List (List UInt8)} (h : Txt b w xs) (hb : Below w.heap.size w w') : Txt b w' xs := h.below h.lt hb
theorem madeStr (n : Nat) : (madeCells (Value.string ⟨#[]⟩).cells (n * 1)).toList = (List.replicate n ([] : List UInt8)).map encStr := by
  apply List.ext_getElem?
  intro i
  simp [madeCells]
  by_cases h : i < n
  · simp [h, Nat.mod_one, Value.cells]
  · simp [h]
theorem infoStr14 : (Tryz.prog.info? 9).map (fun i => (i.zero, i.size, i.bytes)) = some (some (.string ⟨#[]⟩), 1, 16) := by kernel_rfl
/-- The faces so far, and empty texts. -/
def partF (enc : Int) (l : List Ent) (j : Nat) : List (List UInt8) := (l.take j).map (faceL enc) ++ List.replicate (l.length - j) []
theorem partF_len (enc : Int) (l : List Ent) (j : Nat) : (partF enc l j).length = l.length := by
  unfold partF
  rw [List.length_append, List.length_map, List.length_take, List.length_replicate]
  omega
theorem partF_zero (enc : Int) (l : List Ent) : partF enc l 0 = List.replicate l.length [] := by simp [partF]
theorem partF_all (enc : Int) (l : List Ent) : partF enc l l.length = l.map (faceL enc) := by simp [partF]
theorem partF_step {enc : Int} {l : List Ent} {j : Nat} {x : Ent} (h : l[j]? = some x) : (partF enc l j).set j (faceL enc x) = partF enc l (j + 1) := by
  obtain ⟨hlt, he⟩ := List.getElem?_eq_some_iff.1 h
  unfold partF
  have hl : ((l.take j).map (faceL enc)).length = j := by rw [List.length_map, List.length_take]; omega
  rw [List.set_append_right _ _ (by omega), hl, Nat.sub_self, List.take_add_one, h, List.map_append]
  obtain ⟨m, hm⟩ : ∃ m, l.length - j = m + 1 := ⟨l.length - j - 1, by omega⟩
  rw [hm, show l.length - (j + 1) = m by omega, List.replicate_succ, List.set_cons_zero]
  simp
def NamesPost (ns : List (List UInt8)) (w : World) (e : Ending) (w' : World) : Prop := e = .returned (.slice (some ⟨w.heap.size, 0, none⟩) ns.length ns.length) ∧ Txt w.heap.size w' ns ∧ Below w.heap.size w w'
set_option maxHeartbeats 4000000 in
set_option maxRecDepth 100000 in
theorem names_c (enc : Int) (h0 : 0 ≤ enc) (h8 : enc ≤ 8) (v : Value) (l : List Ent) (w : World) (hv : EntsIs w v l) (hl : l.length ≤ 1000) (hok : ∀ e ∈ l, EntOk e) (hT : Tabs w) (hB : Base w) :
    Calls Tryz.prog 27 #[.int .i64 enc, v] w (NamesPost (l.map (faceL enc)) w) := by
  unfold NamesPost
  obtain ⟨i0, hi0, hz0, hz1, hz2⟩ := info_parts infoStr14
  have HV := Lib.hid hv
  obtain ⟨a, cap, hva⟩ := hv.len
  obtain ⟨n, hn⟩ : ∃ n, l.length = n := ⟨_, rfl⟩
  rw [List.length_map]
  rw [hn] at hva hl ⊢
  have HN := Lib.hid hn
  have HOK := Lib.hid hok
  have HOF : Hid (∀ e ∈ l, ∀ w1, Below w.heap.size w w1 → Calls Tryz.prog 14 #[.int .i64 enc, entV e] w1 fun r w' => r = .returned (.string ⟨(faceL enc e).toArray⟩) ∧ Below w1.heap.size w1 w') := Lib.hid (fun e he w1 h1 => of_c enc h0 h8 e (hok e he) w1 (hT.step h1) (hB.step h1))
  obtain ⟨b, hb⟩ : ∃ b, w.heap.size = b := ⟨_, rfl⟩
  have HSB := Lib.hid hb
  subst hva
  clear hv hn hok hT hB h0 h8
  go_enter Tryz.func27, Tryz.ntmps27
  go_wp2_with (at_make; refine wpList_make_full _ rfl _ _ 40 rfl w.heap.size 9 i0 (.string ⟨#[]⟩) 1 Tryz.underlying40 hi0 hz0 hz1 .i64 .i64 (n : Int) (n : Int) n rfl rfl rfl rfl (by rw [hz2]; omega) (by unfold maxLen; omega) (Nat.le_refl _) ?_; intro w1 hown1 hgr1)
  rw [madeStr, hb] at hown1
  have hb1 : Below w.heap.size w w1 := (Below.refl _ _).grown hgr1 (Nat.le_refl _) (fun k hk => by cases hk)
  have HT1 : Hid (Txt b w1 (partF enc l 0)) := Lib.hid (by
    rw [partF_zero, HN.out]
    rcases hown1.2 with ⟨hv, _⟩ | ⟨g, c, cur, hv, _, hq, _, _, hs, ht⟩
    · cases hv
    · cases hv
      unfold Txt
      rw [hq, ← ht, List.take_of_length_le (by rw [Array.length_toList, hs]; omega)])
  have HB1 := Lib.hid hb1
  (try rw [hb])
  clear hown1 hgr1 hb1 hb
  go_wp2
  go_loopg [13] n (fun gk iv wr => ∃ j : Nat, j + gk = n ∧ iv = .int .i64 j ∧ Txt b wr (partF enc l j) ∧ Below w.heap.size w wr)
  case atStart => exact ⟨0, by omega, rfl, HT1.out, HB1.out⟩
  case round =>
    obtain ⟨j, hjg, rfl, htx, hbel⟩ := hrel
    have HTX := Lib.hid htx
    have HBL := Lib.hid hbel
    clear htx
    by_cases hlt : j < n
    · have hltz : (j : Int) < (n : Int) := by omega
      obtain ⟨x, hx⟩ : ∃ x, l[j]? = some x := ⟨_, List.getElem?_eq_getElem (by rw [HN.out]; exact hlt)⟩
      obtain ⟨g, off, rfl, hg, hr⟩ := HV.out.at hx
      obtain ⟨c0, c1, c2, c3, c4⟩ := ent_at (rangeAt_below hr hg hbel)
      have HX := Lib.hid hx
      have hxm : x ∈ l := List.mem_of_getElem? hx
      have cO := HOF.out x hxm
      have HS : Hid ((partF enc l j).set j (faceL enc x) = partF enc l (j + 1)) := Lib.hid (partF_step hx)
      have HL : Hid ((partF enc l j).length = n) := Lib.hid (by rw [partF_len]; exact HN.out)
      have HBA : Hid (Below w.heap.size w (wr.alloc (.cells #[.string x.name, .int .i64 x.node, .bool x.dir, .int .i64 x.cookie, .int .i64 x.short] 47))) := Lib.hid (hbel.alloc hbel.size _)
      have HTA : Hid (Txt b (wr.alloc (.cells #[.string x.name, .int .i64 x.node, .bool x.dir, .int .i64 x.cookie, .int .i64 x.short] 47)) (partF enc l j)) := Lib.hid (HTX.out.keep ((Below.refl wr.heap.size wr).alloc (Nat.le_refl _) _))
      have HQ := Lib.hid (entsBlock x wr)
      unfold entV at cO
      clear hbel hr hx hxm
      obtain ⟨nm, nd, dr, ck, sh⟩ := x
      simp only at *
      generalize faceL enc ⟨nm, nd, dr, ck, sh⟩ = F at *
      generalize partF enc l j = Y at *
      have z0 : (0 : Int) ≤ (j : Int) := by omega
      go_upto_region 5 with fail
      generalize wr.alloc (.cells #[.string nm, .int .i64 nd, .bool dr, .int .i64 ck, .int .i64 sh] 47) = W0 at *
      obtain ⟨⟨q0, q1, q2, q3, q4⟩, _⟩ := five_cells HQ.out
      have cO2 := cO W0 HBA.out
      clear cO
      go_wp2_with (go_at_call 14; refine cO2.mono ?_; rintro r w2 ⟨rfl, hb2⟩; have k1 := (HTA.out.keep hb2).cell (j := j) (by rw [HL.out]; exact hlt); have k2 := (HTA.out.keep hb2).frozen (j := j))
      go_roundg (n - (j + 1))
      case measure => omega
      case rel => exact ⟨j + 1, by omega, by first | rfl | go_num, by rw [← HS.out]; exact (HTA.out.keep hb2).set F, (HBA.out.trans (hb2.mono HBA.out.size)).setCell (p := ⟨b, j, none⟩) (Nat.le_of_eq HSB.out) _⟩
    · have hje : j = n := by omega
      subst hje
      have HE : Hid (partF enc l j = l.map (faceL enc)) := Lib.hid (by rw [← HN.out]; exact partF_all enc l)
      have hge : ¬ ((j : Int) < (j : Int)) := by omega
      clear hbel hlt hjg
      go_wp2
      go_ret
      rw [HSB.out]
      exact ⟨rfl, by rw [← HE.out]; exact HTX.out, by have := HBL.out; rw [HSB.out] at this; exact this⟩
end Go.Proofs.YtfioknaadbgjlaaGreatDoor.F
namespace Go.Proofs.YtfioknaadbgjlaaGreatDoor.F
open Go.RowKit Go.Sort
theorem clean_nofit {enc : Int} {l : List Ent} {i : Nat} {x : Ent} (hx : l[i]? = some x) (h : fitB enc x = false) : cleanB enc l = false := by
  unfold cleanB
  rw [Bool.and_eq_false_iff]; left
  rw [List.all_eq_false]
  exact ⟨x, List.mem_of_getElem? hx, by rw [h]; decide⟩
/-- What was looked at so far fits, and has faces of its own. -/
def CleanTo (enc : Int) (l : List Ent) (i : Nat) : Prop := ∀ j x, j < i → l[j]? = some x → fitB enc x = true ∧ ∀ k y, k < j → l[k]? = some y → faceL enc y ≠ faceL enc x
theorem CleanTo.all {enc : Int} {l : List Ent} (h : CleanTo enc l l.length) : cleanB enc l = true := by
  unfold cleanB
  rw [Bool.and_eq_true, List.all_eq_true]
  refine ⟨fun x hx => ?_, decide_eq_true ?_⟩
  · obtain ⟨j, hj, rfl⟩ := List.getElem_of_mem hx
    exact (h j _ hj (List.getElem?_eq_getElem hj)).1
  · rw [List.nodup_iff_pairwise_ne, List.pairwise_iff_getElem]
    intro i j hi hj hij
    rw [List.getElem_map, List.getElem_map]
    rw [List.length_map] at hi hj
    exact (h j _ hj (List.getElem?_eq_getElem hj)).2 i _ hij (List.getElem?_eq_getElem hi)
theorem clean_fits {enc : Int} {l : List Ent} (h : ∀ i x, i < l.length → l[i]? = some x → fitB enc x = true) : cleanB enc l = ((((Lib.compact ((l.map (faceL enc)).mergeSort fun x y => decide (x ≤ y))).length : Nat) : Int) == (l.length : Int)) := by
  have h1 : l.all (fitB enc) = true := List.all_eq_true.2 (fun x hx => by
    obtain ⟨j, hj, rfl⟩ := List.getElem_of_mem hx
    exact h j _ hj (List.getElem?_eq_getElem hj))
  unfold cleanB
  rw [h1, Bool.true_and, Bool.eq_iff_iff, decide_eq_true_iff, beq_iff_eq, ← compact_nodup, List.length_map]
  omega
theorem Txt.holds {b : Nat} {w : World} {xs : List (List UInt8)} (h : Txt b w xs) : Holds encStr w b 0 xs.toArray :=
  holds_of_block h (by rw [List.toList_toArray, List.take_of_length_le (by simp)])
theorem Txt.sorted {b n : Nat} {w : World} {xs ts : List (List UInt8)} (h : Txt b w xs) (hl : ts.length = xs.length) (os : Array Obj) : Txt b (Go.Sort.grow (putRow encStr (Sort.ahead w n) b 0 ts.toArray) os) ts := by
  unfold Txt at *
  rw [heap_sorted _ h]
  congr 2
  apply Array.ext'
  have := take_putCells (xs.map encStr).toArray ts (by simp; omega)
  rw [List.take_of_length_le (by simp [putCells]; omega)] at this
  rw [this]
set_option maxHeartbeats 4000000 in
set_option maxRecDepth 100000 in
theorem clean_c (enc : Int) (h0 : 0 ≤ enc) (h8 : enc ≤ 8) (v : Value) (l : List Ent) (w : World) (hv : EntsIs w v l) (hl : l.length ≤ 1000) (hok : ∀ e ∈ l, EntOk e) (hT : Tabs w) (hB : Base w) :
    Calls Tryz.prog 13 #[.int .i64 enc, v] w fun e w' => e = .returned (.bool (cleanB enc l)) ∧ Below w.heap.size w w' := by
  obtain ⟨a, cap, hva⟩ := hv.len
  obtain ⟨n, hn⟩ : ∃ n, l.length = n := ⟨_, rfl⟩
  have HV := Lib.hid hv
  have HN := Lib.hid hn
  have HF : Hid (∀ e ∈ l, ∀ w1, Below w.heap.size w w1 → Calls Tryz.prog 26 #[.int .i64 enc, entV e] w1 fun r w' => r = .returned (.bool (fitB enc e)) ∧ Below w1.heap.size w1 w') := Lib.hid (fun e he w1 h1 => fits_c enc h0 h8 e (hok e he) w1 (hT.step h1))
  have HNM : Hid (∀ w1, Below w.heap.size w w1 → Calls Tryz.prog 27 #[.int .i64 enc, v] w1 (NamesPost (l.map (faceL enc)) w1)) := Lib.hid (fun w1 h1 => names_c enc h0 h8 v l w1 (LstIs.kept hv h1) hl hok (hT.step h1) (hB.step h1))
  obtain ⟨C, hC⟩ : ∃ C, cleanB enc l = C := ⟨_, rfl⟩
  have HC := Lib.hid hC
  rw [hC]
  rw [hn] at hva hl
  subst hva
  clear hv hn hok hT hB h0 h8 hC
  go_enter Tryz.func13, Tryz.ntmps13
  go_wp2
  go_loopw [10] (fun iv wr => ∃ i : Nat, iv = .int .i64 i ∧ i ≤ n ∧ (∀ j x, j < i → l[j]? = some x → fitB enc x = true) ∧ Below w.heap.size w wr) (fun iv _ => n - (intOf iv).toNat)
  case atStart => exact ⟨0, rfl, by omega, fun j x hj => absurd hj (by omega), Below.refl _ _⟩
  case round =>
    obtain ⟨i, rfl, hi, hfit, hb⟩ := hrel
    have HFI := Lib.hid hfit
    have HB := Lib.hid hb
    clear hfit
    by_cases hin : i < n
    · have hiz : (i : Int) < (n : Int) := by omega
      obtain ⟨x, hx⟩ : ∃ x, l[i]? = some x := ⟨_, List.getElem?_eq_getElem (by rw [HN.out]; omega)⟩
      obtain ⟨g, off, rfl, hg, hrr⟩ := HV.out.at hx
      obtain ⟨d0, d1, d2, d3, d4⟩ := ent_at (rangeAt_below hrr hg hb)
      have HX := Lib.hid hx
      have HQ := Lib.hid (entsBlock x wr)
      have hbA : Below w.heap.size w (wr.alloc (.cells #[.string x.name, .int .i64 x.node, .bool x.dir, .int .i64 x.cookie, .int .i64 x.short] 47)) := hb.alloc hb.size _
      have HBA := Lib.hid hbA
      have cF := HF.out x (List.mem_of_getElem? hx) _ hbA
      unfold entV at cF
      obtain ⟨t, ht⟩ : ∃ t, fitB enc x = t := ⟨_, rfl⟩
      rw [ht] at cF
      have HT := Lib.hid ht
      obtain ⟨nm, nd, dr, ck, sh⟩ := x
      simp only at *
      clear hx hrr hg hb hbA ht
      go_upto_region 4 with fail
      generalize wr.alloc (.cells #[.string nm, .int .i64 nd, .bool dr, .int .i64 ck, .int .i64 sh] 47) = W0 at *
      obtain ⟨⟨q0, q1, q2, q3, q4⟩, _⟩ := five_cells HQ.out
      cases t with
      | false =>
        have HE : Hid (C = false) := Lib.hid (by rw [← HC.out]; exact clean_nofit HX.out HT.out)
        go_wp2_with (go_at_call 26; refine cF.mono ?_; rintro e w2 ⟨rfl, hb2⟩)
        go_ret
        exact ⟨by rw [HE.out]; rfl, HBA.out.trans (hb2.mono HBA.out.size)⟩
      | true =>
        have HE : Hid (∀ j x, j < i + 1 → l[j]? = some x → fitB enc x = true) := Lib.hid (fun j x hj hx => by
          by_cases e : j = i
          · subst e
            rw [HX.out] at hx
            obtain rfl := Option.some.inj hx
            exact HT.out
          · exact HFI.out j x (by omega) hx)
        go_wp2_with (go_at_call 26; refine cF.mono ?_; rintro e w2 ⟨rfl, hb2⟩)
        go_roundw
        case rel => exact ⟨i + 1, by first | rfl | go_num, by omega, HE.out, HBA.out.trans (hb2.mono HBA.out.size)⟩
        case measure => simp [intOf]; omega
    · have hiz : ¬ ((i : Int) < (n : Int)) := by omega
      have hin2 : i = n := by omega
      have HE : Hid (C = ((((Lib.compact ((l.map (faceL enc)).mergeSort fun x y => decide (x ≤ y))).length : Nat) : Int) == (n : Int))) := Lib.hid (by
        rw [← HC.out, ← HN.out]
        exact clean_fits (fun j x hj hx => HFI.out j x (by rw [HN.out] at hj; omega) hx))
      have cN := HNM.out wr hb
      unfold NamesPost at cN
      rw [List.length_map, HN.out] at cN
      clear hin2 hb
      go_wp2_with fail
      refine cN.mono ?_
      rintro e w1 ⟨rfl, htx, hb1⟩
      have HTX := Lib.hid htx
      have HB1 := Lib.hid (HB.out.trans (hb1.mono HB.out.size))
      obtain ⟨XS, hXS⟩ : ∃ XS, l.map (faceL enc) = XS := ⟨_, rfl⟩
      have hXn : XS.length = n := by rw [← hXS, List.length_map]; exact HN.out
      rw [hXS] at HTX HE
      have cS := Tryz.slices_Sort_string wr.heap.size 0 n XS w1 HTX.out.holds HTX.out.lt (by omega)
      rw [hXn] at cS
      have HXN := Lib.hid hXn
      have HWS := Lib.hid HB.out.size
      clear cN htx hb1 hXS hXn
      generalize wr.heap.size = b at *
      go_wp2_with fail
      refine cS.mono ?_
      rintro e w2 ⟨rfl, q, os, hw2⟩
      obtain ⟨TS, hTS⟩ : ∃ TS, (XS.mergeSort fun x y => decide (x ≤ y)) = TS := ⟨_, rfl⟩
      have hTn : TS.length = n := by rw [← hTS, (List.mergeSort_perm XS _).length_eq]; exact HXN.out
      rw [hTS] at hw2 HE
      have HT2 : Hid (Txt b w2 TS) := Lib.hid (by rw [hw2]; exact HTX.out.sorted (by rw [hTn, HXN.out]) os)
      have HB2 : Hid (Below w.heap.size w w2) := Lib.hid (by rw [hw2]; exact HB1.out.grown (grownBy_sorted _) HB1.out.size (fun k hk => by obtain rfl := Option.some.inj hk; exact HWS.out))
      have cC := Tryz.slices_Compact_string b 0 n TS w2 HT2.out.holds (by omega) (by omega)
      rw [hTn] at cC
      have hcl := compact_le TS
      obtain ⟨k, hk⟩ : ∃ k, (Lib.compact TS).length = k := ⟨_, rfl⟩
      rw [hk] at cC HE hcl
      clear cS hw2 hTS hk
      go_wp2_with fail
      refine cC.mono ?_
      rintro e w3 ⟨rfl, q3, hw3⟩
      have HB3 : Hid (Below w.heap.size w w3) := Lib.hid (by
        rw [hw3, ← Go.Sort.grow_empty (putRow encStr (Sort.ahead w2 q3) b 0 _)]
        exact HB2.out.grown (grownBy_sorted _) HB2.out.size (fun k hk => by obtain rfl := Option.some.inj hk; exact HWS.out))
      clear hw3 cC
      go_wp2
      go_ret
      exact ⟨by rw [HE.out]; rfl, HB3.out⟩
end Go.Proofs.YtfioknaadbgjlaaGreatDoor.F
namespace Go.Proofs.YtfioknaadbgjlaaGreatDoor.F
open Go.RowKit Go.Sort
abbrev ptV (b : Nat) : Value := .pointer (some ⟨b, 0, none⟩)
def spotGo (enc : Int) (s : List UInt8) : List Ent → Nat → Int
  | [], _ => -1
  | x :: l, k => if faceL enc x = s then (k : Int) else spotGo enc s l (k + 1)
theorem spotGo_spec (enc : Int) (s : List UInt8) : ∀ (l : List Ent) (k : Nat), (spotGo enc s l k = -1 ∧ faced enc l s = none) ∨ ∃ (i : Nat) (x : Ent), spotGo enc s l k = ((k + i : Nat) : Int) ∧ l[i]? = some x ∧ faced enc l s = some x
  | [], k => Or.inl ⟨rfl, rfl⟩
  | x :: l, k => by
    unfold spotGo
    by_cases h : faceL enc x = s
    · rw [if_pos h]
      refine Or.inr ⟨0, x, rfl, rfl, ?_⟩
      unfold faced
      rw [List.find?_cons, decide_eq_true h]
    · rw [if_neg h]
      have hn : faced enc (x :: l) s = faced enc l s := by
        unfold faced
        rw [List.find?_cons, decide_eq_false h]
      rcases spotGo_spec enc s l (k + 1) with ⟨h1, h2⟩ | ⟨i, y, h1, h2, h3⟩
      · exact Or.inl ⟨h1, hn.trans h2⟩
      · exact Or.inr ⟨i + 1, y, by rw [h1]; omega, by rw [List.getElem?_cons_succ]; exact h2, hn.trans h3⟩
/-- Where the first entry with a face stands, or -1. -/
def spotI (enc : Int) (l : List Ent) (s : List UInt8) : Int := spotGo enc s l 0
theorem spotI_spec (enc : Int) (l : List Ent) (s : List UInt8) : (spotI enc l s = -1 ∧ faced enc l s = none) ∨ ∃ (i : Nat) (x : Ent), spotI enc l s = (i : Int) ∧ l[i]? = some x ∧ faced enc l s = some x := by
  rcases spotGo_spec enc s l 0 with h | ⟨i, x, h1, h2, h3⟩
  · exact Or.inl h
  · exact Or.inr ⟨i, x, by rw [spotI, h1, Nat.zero_add], h2, h3⟩
set_option maxHeartbeats 2000000 in
/-- The closure: has an entry this face? -/
theorem hasFace_c (enc : Int) (h0 : 0 ≤ enc) (h8 : enc ≤ 8) (e : Ent) (he : EntOk e) (s : ByteArray) (p q : Nat) (w : World) (hp : w.heap[p]? = some (.cells #[.int .i64 enc] 3 (0, 0))) (hq : w.heap[q]? = some (.cells #[.string s] 9 (0, 0))) (hT : Tabs w) (hB : Base w)
    (t : Bool) (ht : decide (faceL enc e = s.data.toList) = t) :
    Calls Tryz.prog 80 #[entV e, ptV p, ptV q] w fun r w' => r = .returned (.bool t) ∧ Below w.heap.size w w' := by
  have hb0 : Below w.heap.size w (w.alloc (.cells #[.string e.name, .int .i64 e.node, .bool e.dir, .int .i64 e.cookie, .int .i64 e.short] 47)) := (Below.refl _ w).alloc (Nat.le_refl _) _
  have HQ := Lib.hid (entsBlock e w)
  have HB0 := Lib.hid hb0
  have g0 := cell_regrown (Lib.cell_of_heap ((hb0.block p (lt_of_get hp)).trans hp) 0)
  have g1 := cell_regrown (Lib.cell_of_heap ((hb0.block q (lt_of_get hq)).trans hq) 0)
  have cO := regr (W := w.alloc (.cells #[.string e.name, .int .i64 e.node, .bool e.dir, .int .i64 e.cookie, .int .i64 e.short] 47)) (fun w1 h1 => of_c enc h0 h8 e he w1 ((hT.step hb0).step h1) ((hB.step hb0).step h1))
  obtain ⟨F, hF⟩ : ∃ F : ByteArray, (⟨(faceL enc e).toArray⟩ : ByteArray) = F := ⟨_, rfl⟩
  have hX : (F.toList == s.toList) = t := text_is F s t (by rw [← hF]; exact ht)
  rw [hF] at cO
  unfold entV at cO ⊢
  obtain ⟨k0, k1, k2, k3, k4⟩ := EntAt.of HQ.out
  obtain ⟨nm, nd, dr, ck, sh⟩ := e
  simp only at *
  clear hT hB hb0 hp hq ht hF he h0 h8
  go_enter Tryz.func80, Tryz.ntmps80
  go_upto_region 1 with fail
  refine wp_region_quiet_below (by kernel_rfl) (by kernel_rfl) ?_
  repeat (quiet_step (first | exact cO _ _))
  refine wpQuiet_nil ?_
  intro _ hw'
  obtain ⟨⟨dq, osq⟩, hw''⟩ := hw'
  subst hw''
  go_wp2
  go_ret
  first | exact ⟨rfl, HB0.out.trans ((below_regrown _ dq osq).mono HB0.out.size)⟩ | exact ⟨by rw [hX], HB0.out.trans ((below_regrown _ dq osq).mono HB0.out.size)⟩
set_option maxHeartbeats 2000000 in
theorem idxFace_c (enc : Int) (h0 : 0 ≤ enc) (h8 : enc ≤ 8) (v : Value) (l : List Ent) (s : ByteArray) (p q : Nat) (w : World) (hv : EntsIs w v l) (hl : l.length ≤ 1000) (hok : ∀ e ∈ l, EntOk e) (hp : w.heap[p]? = some (.cells #[.int .i64 enc] 3 (0, 0))) (hq : w.heap[q]? = some (.cells #[.string s] 9 (0, 0))) (hT : Tabs w) (hB : Base w) :
    Calls Tryz.prog 79 #[v, .func (.func 80) #[] #[ptV p, ptV q]] w fun e w' => e = .returned (.int .i64 (spotI enc l s.data.toList)) ∧ Below w.heap.size w w' := by
  obtain ⟨a, cap, rfl⟩ := hv.len
  obtain ⟨n, hn⟩ : ∃ n, l.length = n := ⟨_, rfl⟩
  rw [hn] at hl hv ⊢
  have HV := Lib.hid hv
  have HN := Lib.hid hn
  have HC : Hid (∀ W, Below w.heap.size w W → ∀ e ∈ l, ∀ t, decide (faceL enc e = s.data.toList) = t → Calls Tryz.prog 80 #[entV e, ptV p, ptV q] W fun r w' => r = .returned (.bool t) ∧ Below W.heap.size W w') :=
    Lib.hid (fun W hb e he t ht => hasFace_c enc h0 h8 e (hok e he) s p q W ((hb.block p (lt_of_get hp)).trans hp) ((hb.block q (lt_of_get hq)).trans hq) (hT.step hb) (hB.step hb) t ht)
  obtain ⟨S, hS⟩ : ∃ S, s.data.toList = S := ⟨_, rfl⟩
  obtain ⟨X, hX⟩ : ∃ X, spotI enc l s.data.toList = X := ⟨_, rfl⟩
  have HX := Lib.hid hX
  rw [hX]
  rw [hS] at HC HX
  clear hv hn hX hp hq hT hB hok h0 h8 hS
  go_enter Tryz.func79, Tryz.ntmps79
  go_wp2
  go_loopw [8] (fun iv wr => ∃ i : Nat, i ≤ n ∧ iv = .int .i64 i ∧ spotGo enc S (l.drop i) i = X ∧ Below w.heap.size w wr) (fun iv _ => n - (intOf iv).toNat)
  case atStart => exact ⟨0, by omega, rfl, HX.out, Below.refl _ _⟩
  case round =>
    obtain ⟨i, hi, rfl, hgo, hb⟩ := hrel
    have HGO := Lib.hid hgo
    have HB := Lib.hid hb
    clear hgo
    by_cases hin : i < n
    · have hiz : (i : Int) < (n : Int) := by omega
      obtain ⟨x, hx⟩ : ∃ x, l[i]? = some x := ⟨_, List.getElem?_eq_getElem (by rw [HN.out]; omega)⟩
      obtain ⟨g, off, rfl, hg, hr⟩ := HV.out.at hx
      obtain ⟨d0, d1, d2, d3, d4⟩ := ent_at (rangeAt_below hr hg hb)
      have HG : Hid (spotGo enc S (l.drop i) i = if faceL enc x = S then (i : Int) else spotGo enc S (l.drop (i + 1)) (i + 1)) := Lib.hid (by rw [drop_eq_cons hx]; rfl)
      obtain ⟨t, ht⟩ : ∃ t, decide (faceL enc x = S) = t := ⟨_, rfl⟩
      have HT := Lib.hid ht
      have cC1 := HC.out wr hb x (List.mem_of_getElem? hx) t ht
      unfold entV at cC1
      clear hr hx hg hb ht
      cases t with
      | true =>
        have HE : Hid ((i : Int) = X) := Lib.hid (by rw [← HGO.out, HG.out, if_pos (of_decide_eq_true HT.out)])
        go_wp2_with (go_at_call 80; refine cC1.mono ?_; rintro e w2 ⟨rfl, hb2⟩)
        go_ret
        exact ⟨by rw [HE.out]; rfl, HB.out.trans (hb2.mono HB.out.size)⟩
      | false =>
        have HE : Hid (spotGo enc S (l.drop (i + 1)) (i + 1) = X) := Lib.hid (by rw [← HGO.out, HG.out, if_neg (of_decide_eq_false HT.out)])
        go_wp2_with (go_at_call 80; refine cC1.mono ?_; rintro e w2 ⟨rfl, hb2⟩)
        go_roundw
        case rel => exact ⟨i + 1, by omega, by first | rfl | go_num, HE.out, HB.out.trans (hb2.mono HB.out.size)⟩
        case measure => simp [intOf]; omega
    · have hiz : ¬ (i : Int) < (n : Int) := by omega
      have HE : Hid (X = -1) := Lib.hid (by rw [← HGO.out, List.drop_of_length_le (by rw [HN.out]; omega)]; rfl)
      clear hb
      go_wp2
      go_ret
      exact ⟨by rw [HE.out]; rfl, HB.out⟩
theorem fcClone_c (s : ByteArray) (w : World) (hs : s.size ≤ 281474976710656) : Calls Tryz.prog 35 #[.string s] w fun e w' => e = .returned (.string s) ∧ Below w.heap.size w w' := by
  have cC := Tryz.stringslite_Clone s w hs
  go_enter Tryz.func35, Tryz.ntmps35
  go_wp2_with (go_at_call 63; refine cC.mono ?_; rintro e w2 ⟨rfl, hb2⟩)
  go_ret
  exact ⟨rfl, hb2⟩
/-- What Find answers. -/
def foundV (o : Option Ent) : Value := match o with
  | some e => .tuple #[entV e, .bool true]
  | none => .tuple #[entV noEnt, .bool false]
set_option maxHeartbeats 4000000 in
set_option maxRecDepth 100000 in
theorem ffind_c (enc : Int) (h0 : 0 ≤ enc) (h8 : enc ≤ 8) (v : Value) (l : List Ent) (s : ByteArray) (w : World) (hv : EntsIs w v l) (hl : l.length ≤ 1000) (hok : ∀ e ∈ l, EntOk e) (hT : Tabs w) (hB : Base w) :
    Calls Tryz.prog 45 #[.int .i64 enc, v, .string s] w fun e w' => e = .returned (foundV (faced enc l s.data.toList)) ∧ Below w.heap.size w w' := by
  obtain ⟨b, hb⟩ : ∃ b, w.heap.size = b := ⟨_, rfl⟩
  have hx1 : (w.alloc (.cells #[.int .i64 enc] 3)).heap.size = b + 1 := by rw [← hb]; simp
  have hx2 : ((w.alloc (.cells #[.int .i64 enc] 3)).alloc (.cells #[.string s] 9)).heap.size = b + 2 := by rw [← hb]; simp
  have hbW : Below b w (((w.alloc (.cells #[.int .i64 enc] 3)).alloc (.cells #[.string s] 9)).alloc (.cells #[.string ⟨#[]⟩, .int .i64 0, .bool false, .int .i64 0, .int .i64 0] 47)) :=
    (((Below.refl _ w).alloc (Nat.le_of_eq hb.symm) _).alloc (by rw [hx1]; omega) _).alloc (by rw [hx2]; omega) _
  have q2 : (((w.alloc (.cells #[.int .i64 enc] 3)).alloc (.cells #[.string s] 9)).alloc (.cells #[.string ⟨#[]⟩, .int .i64 0, .bool false, .int .i64 0, .int .i64 0] 47)).heap[b + 2]? = some (.cells #[.string ⟨#[]⟩, .int .i64 0, .bool false, .int .i64 0, .int .i64 0] 47 (0, 0)) := by
    rw [← hx2]; exact heap_alloc_new _ _
  have q1 : (((w.alloc (.cells #[.int .i64 enc] 3)).alloc (.cells #[.string s] 9)).alloc (.cells #[.string ⟨#[]⟩, .int .i64 0, .bool false, .int .i64 0, .int .i64 0] 47)).heap[b + 1]? = some (.cells #[.string s] 9 (0, 0)) := by
    rw [Below.heap_alloc _ _ _ (by rw [hx2]; omega), ← hx1]; exact heap_alloc_new _ _
  have q0 : (((w.alloc (.cells #[.int .i64 enc] 3)).alloc (.cells #[.string s] 9)).alloc (.cells #[.string ⟨#[]⟩, .int .i64 0, .bool false, .int .i64 0, .int .i64 0] 47)).heap[b]? = some (.cells #[.int .i64 enc] 3 (0, 0)) := by
    rw [Below.heap_alloc _ _ _ (by rw [hx2]; omega), Below.heap_alloc _ _ _ (by rw [hx1]; omega), ← hb]; exact heap_alloc_new _ _
  have hbw := hbW
  rw [← hb] at hbw
  have cI := idxFace_c enc h0 h8 v l s b (b + 1) _ (LstIs.kept hv hbw) hl hok q0 q1 (hT.step hbw) (hB.step hbw)
  have HV := Lib.hid (LstIs.kept hv hbw)
  have HOK := Lib.hid hok
  have HQ2 := Lib.hid q2
  have HBW := Lib.hid hbW
  have HSB := Lib.hid hb
  obtain ⟨a, cap, hva⟩ := hv.len
  subst hva
  obtain ⟨n, hn⟩ : ∃ n, l.length = n := ⟨_, rfl⟩
  have HN := Lib.hid hn
  rw [hn] at hl cI HV ⊢
  obtain ⟨R, hR⟩ : ∃ R, faced enc l s.data.toList = R := ⟨_, rfl⟩
  obtain ⟨I, hI⟩ : ∃ I, spotI enc l s.data.toList = I := ⟨_, rfl⟩
  have hsp := spotI_spec enc l s.data.toList
  rw [hR, hI] at hsp
  rw [hI] at cI
  rw [hR]
  have HSP := Lib.hid hsp
  clear hv hok hT hB h0 h8 hx1 hx2 hbW hbw q0 q1 q2 hn hR hI hsp
  go_enter Tryz.func45, Tryz.ntmps45
  go_upto_region 1 with fail
  generalize (((w.alloc (.cells #[.int .i64 enc] 3)).alloc (.cells #[.string s] 9)).alloc (.cells #[.string ⟨#[]⟩, .int .i64 0, .bool false, .int .i64 0, .int .i64 0] 47)) = W0 at *
  clear hb
  rcases HSP.out with ⟨hI, hR⟩ | ⟨i, x, hI, hx, hR⟩
  · subst hI hR
    go_upto_region 3 with (go_at_call 79; refine cI.mono ?_; rintro e w1 ⟨rfl, hb1⟩; have HB1 := Lib.hid hb1; clear hb1)
    obtain ⟨⟨p0, p1, p2, p3, p4⟩, ⟨f0, f1, f2, f3, f4⟩⟩ := five_cells ((HB1.out.block (b + 2) (lt_of_get HQ2.out)).trans HQ2.out)
    go_wp2
    (try simp only [Exit.inBlock, Exit.then])
    refine bodyPost_ret (v := .tuple #[entV noEnt, .bool false]) ?_ rfl ⟨rfl, ?_⟩
    · rw [results_cell_tmp rfl]
      unfold entV noEnt
      go_simp
    · have hsz : b ≤ W0.heap.size := by rw [← HSB.out]; exact HBW.out.size |> fun h => by omega
      have hbb : Below b w w1 := HBW.out.trans (HB1.out.mono hsz)
      rw [HSB.out]
      exact ((((hbb.setCell (p := ⟨b + 2, 0, none⟩) (Nat.le_add_right _ _) _).setCell (p := ⟨b + 2, 1, none⟩) (Nat.le_add_right _ _) _).setCell (p := ⟨b + 2, 2, none⟩) (Nat.le_add_right _ _) _).setCell (p := ⟨b + 2, 3, none⟩) (Nat.le_add_right _ _) _).setCell (p := ⟨b + 2, 4, none⟩) (Nat.le_add_right _ _) _
  · subst hI hR
    obtain ⟨g, off, rfl, hg, hrr⟩ := HV.out.at hx
    have hil : i < n := by
      have := (List.getElem?_eq_some_iff.1 hx).1
      have := HN.out
      omega
    have hiz : (i : Int) < (n : Int) := by omega
    have hi0 : ¬ (i : Int) < 0 := by omega
    have hsz := (HOK.out x (List.mem_of_getElem? hx)).1
    have HG := Lib.hid hg
    have HRR := Lib.hid hrr
    have hsW : b + 2 < W0.heap.size := lt_of_get HQ2.out
    have HSW := Lib.hid hsW
    obtain ⟨nm, nd, dr, ck, sh⟩ := x
    simp only at hsz
    clear hx hg hrr hil hsW
    go_upto_region 5 with (go_at_call 79; refine cI.mono ?_; rintro e w1 ⟨rfl, hb1⟩; have HB1 := Lib.hid hb1; obtain ⟨d0, d1, d2, d3, d4⟩ := ent_at (rangeAt_below HRR.out HG.out hb1); clear hb1; simp only at d0 d1 d2 d3 d4)
    have HQ := Lib.hid (entsBlock ⟨nm, nd, dr, ck, sh⟩ w1)
    have hbA : Below b w (w1.alloc (.cells #[.string nm, .int .i64 nd, .bool dr, .int .i64 ck, .int .i64 sh] 47)) :=
      (HBW.out.trans (HB1.out.mono (by have := HSW.out; omega))).alloc (by have := HB1.out.size; have := HSW.out; omega) _
    have HBA := Lib.hid hbA
    have HQA : Hid ((w1.alloc (.cells #[.string nm, .int .i64 nd, .bool dr, .int .i64 ck, .int .i64 sh] 47)).heap[b + 2]? = some (.cells #[.string ⟨#[]⟩, .int .i64 0, .bool false, .int .i64 0, .int .i64 0] 47 (0, 0))) := Lib.hid (by
      rw [Below.heap_alloc _ _ _ (by have := HB1.out.size; have := HSW.out; omega)]
      exact (HB1.out.block (b + 2) HSW.out).trans HQ2.out)
    have HQB : Hid (b + 2 < w1.heap.size) := Lib.hid (by have := HB1.out.size; have := HSW.out; omega)
    clear hbA d0 d1 d2 d3 d4
    simp only at HQ
    generalize w1.alloc (.cells #[.string nm, .int .i64 nd, .bool dr, .int .i64 ck, .int .i64 sh] 47) = W1 at *
    obtain ⟨q, hq⟩ : ∃ q, w1.heap.size = q := ⟨_, rfl⟩
    rw [hq] at HQ HQB
    (try rw [hq])
    clear hq
    obtain ⟨⟨p0, p1, p2, p3, p4⟩, ⟨f0, f1, f2, f3, f4⟩⟩ := five_cells HQ.out
    have cC := fcClone_c nm W1 (by omega)
    go_upto_region 6 with (go_at_call 35; refine cC.mono ?_; rintro e w3 ⟨rfl, hb3⟩; have HB3 := Lib.hid hb3; have hq3 := (hb3.block q (lt_of_get HQ.out)).trans HQ.out; have k0 := (five_cells hq3).1.1; have k1 := (five_cells hq3).2.1; clear hb3)
    have HQ3 : Hid ((w3.setCell ⟨q, 0, none⟩ (.string nm)).heap[q]? = some (.cells #[.string nm, .int .i64 nd, .bool dr, .int .i64 ck, .int .i64 sh] 47 (0, 0))) := Lib.hid (by
      rw [setCell_eq]
      simp [mapBlock, Array.getElem?_modify, hq3, onCells])
    have HQ4 : Hid ((w3.setCell ⟨q, 0, none⟩ (.string nm)).heap[b + 2]? = some (.cells #[.string ⟨#[]⟩, .int .i64 0, .bool false, .int .i64 0, .int .i64 0] 47 (0, 0))) := Lib.hid (by
      rw [Below.heap_setCell w3 ⟨q, 0, none⟩ _ (b + 2) (by have := HQB.out; show b + 2 ≠ q; omega)]
      exact (HB3.out.block (b + 2) (lt_of_get HQA.out)).trans HQA.out)
    have HB4 : Hid (Below b w (w3.setCell ⟨q, 0, none⟩ (.string nm))) := Lib.hid ((HBA.out.trans (HB3.out.mono (by have := lt_of_get HQA.out; omega))).setCell (p := ⟨q, 0, none⟩) (by have := HQB.out; show b ≤ q; omega) _)
    clear hq3 k0 k1 p0 p1 p2 p3 p4 f0 f1 f2 f3 f4
    generalize w3.setCell ⟨q, 0, none⟩ (.string nm) = W3 at *
    obtain ⟨⟨p0, p1, p2, p3, p4⟩, _⟩ := five_cells HQ3.out
    obtain ⟨⟨r0, r1, r2, r3, r4⟩, ⟨f0, f1, f2, f3, f4⟩⟩ := five_cells HQ4.out
    go_wp2
    (try simp only [Exit.inBlock, Exit.then])
    refine bodyPost_ret (v := .tuple #[entV ⟨nm, nd, dr, ck, sh⟩, .bool true]) ?_ rfl ⟨rfl, ?_⟩
    · rw [results_cell_tmp rfl]
      unfold entV
      go_simp
    · rw [HSB.out]
      exact ((((HB4.out.setCell (p := ⟨b + 2, 0, none⟩) (Nat.le_add_right _ _) _).setCell (p := ⟨b + 2, 1, none⟩) (Nat.le_add_right _ _) _).setCell (p := ⟨b + 2, 2, none⟩) (Nat.le_add_right _ _) _).setCell (p := ⟨b + 2, 3, none⟩) (Nat.le_add_right _ _) _).setCell (p := ⟨b + 2, 4, none⟩) (Nat.le_add_right _ _) _
end Go.Proofs.YtfioknaadbgjlaaGreatDoor.F
namespace Go.Proofs.YtfioknaadbgjlaaGreatDoor.F
open Go.RowKit Go.Sort
end Go.Proofs.YtfioknaadbgjlaaGreatDoor.F
