/-
  The contract of a list's faces: a row of texts in a block of its own.
-/
import Derived.Test.YtbbgnhbkjbobgaaGreatDoorFcOf
import Derived.Test.YtbbgnhbkjbobgaaGreatDoorK9
import Derived.Sort.OwnSorted
namespace Go.Proofs.YtbbgnhbkjbobgaaGreatDoor
open Go.RowKit Go.Sort
set_option linter.unusedVariables false

/-- A row of texts, in just one block. -/
def Txt (b : Nat) (w : World) (xs : List (List UInt8)) : Prop := w.heap[b]? = some (.cells (xs.map encStr).toArray 9 (0, 0))
theorem Txt.cell {b j : Nat} {w : World} {xs : List (List UInt8)} (h : Txt b w xs) (hj : j < xs.length) : w.cell? ⟨b, j, none⟩ = some (.string ⟨(xs.getD j []).toArray⟩) := by
  rw [Lib.cell_of_heap h]
  simp [List.getD_eq_getElem?_getD, hj]
theorem Txt.frozen {b j : Nat} {w : World} {xs : List (List UInt8)} (h : Txt b w xs) : w.frozen? ⟨b, j, none⟩ = false := frozen_of_row _ _ _ _ _ h
theorem Txt.set {b j : Nat} {w : World} {xs : List (List UInt8)} (h : Txt b w xs) (x : List UInt8) : Txt b (w.setCell ⟨b, j, none⟩ (.string ⟨x.toArray⟩)) (xs.set j x) := by
  unfold Txt at *
  rw [setCell_eq]
  simp [mapBlock, Array.getElem?_modify, h, onCells, List.map_set]
theorem Txt.below {b B : Nat} {w w' : World} {xs : List (List UInt8)} (h : Txt b w xs) (hB : b < B) (hb : Below B w w') : Txt b w' xs := by
  unfold Txt at *
  rw [hb.block b hB]; exact h
theorem Txt.lt {b : Nat} {w : World} {xs : List (List UInt8)} (h : Txt b w xs) : b < w.heap.size := lt_of_get h
theorem Txt.keep {b : Nat} {w w' : World} {xs : List (List UInt8)} (h : Txt b w xs) (hb : Below w.heap.size w w') : Txt b w' xs := h.below h.lt hb
theorem madeStr (n : Nat) : (madeCells (Value.string ⟨#[]⟩).cells (n * 1)).toList = (List.replicate n ([] : List UInt8)).map encStr := by
  apply List.ext_getElem?
  intro i
  simp [madeCells]
  by_cases h : i < n
  · simp [h, Nat.mod_one, Value.cells]
  · simp [h]
theorem infoStr14 : (Tryz.prog.info? 9).map (fun i => (i.zero, i.size, i.bytes)) = some (some (.string ⟨#[]⟩), 1, 16) := by kernel_rfl
/-- The faces so far, and empty texts. -/
def partF (enc : Int) (l : List Ent) (j : Nat) : List (List UInt8) := (l.take j).map (faceL enc) ++ List.replicate (l.length - j) []
theorem partF_len (enc : Int) (l : List Ent) (j : Nat) : (partF enc l j).length = l.length := by
  unfold partF
  rw [List.length_append, List.length_map, List.length_take, List.length_replicate]
  omega
theorem partF_zero (enc : Int) (l : List Ent) : partF enc l 0 = List.replicate l.length [] := by simp [partF]
theorem partF_all (enc : Int) (l : List Ent) : partF enc l l.length = l.map (faceL enc) := by simp [partF]
theorem partF_step {enc : Int} {l : List Ent} {j : Nat} {x : Ent} (h : l[j]? = some x) : (partF enc l j).set j (faceL enc x) = partF enc l (j + 1) := by
  obtain ⟨hlt, he⟩ := List.getElem?_eq_some_iff.1 h
  unfold partF
  have hl : ((l.take j).map (faceL enc)).length = j := by rw [List.length_map, List.length_take]; omega
  rw [List.set_append_right _ _ (by omega), hl, Nat.sub_self, List.take_add_one, h, List.map_append]
  obtain ⟨m, hm⟩ : ∃ m, l.length - j = m + 1 := ⟨l.length - j - 1, by omega⟩
  rw [hm, show l.length - (j + 1) = m by omega, List.replicate_succ, List.set_cons_zero]
  simp

def NamesPost (ns : List (List UInt8)) (w : World) (e : Ending) (w' : World) : Prop := e = .returned (.slice (some ⟨w.heap.size, 0, none⟩) ns.length ns.length) ∧ Txt w.heap.size w' ns ∧ Below w.heap.size w w'
set_option maxHeartbeats 4000000 in
set_option maxRecDepth 100000 in
theorem names_c (enc : Int) (h0 : 0 ≤ enc) (h8 : enc ≤ 8) (v : Value) (l : List Ent) (w : World) (hv : EntsIs w v l) (hl : l.length ≤ 1000) (hok : ∀ e ∈ l, EntOk e) (hT : Tabs w) (hB : Base w) :
    Calls Tryz.prog 9 #[.int .i64 enc, v] w (NamesPost (l.map (faceL enc)) w) := by
  unfold NamesPost
  obtain ⟨i0, hi0, hz0, hz1, hz2⟩ := info_parts infoStr14
  have HV := Lib.hid hv
  obtain ⟨a, cap, hva⟩ := hv.len
  obtain ⟨n, hn⟩ : ∃ n, l.length = n := ⟨_, rfl⟩
  rw [List.length_map]
  rw [hn] at hva hl ⊢
  have HN := Lib.hid hn
  have HOK := Lib.hid hok
  have HOF : Hid (∀ e ∈ l, ∀ w1, Below w.heap.size w w1 → Calls Tryz.prog 11 #[.int .i64 enc, entV e] w1 fun r w' => r = .returned (.string ⟨(faceL enc e).toArray⟩) ∧ Below w1.heap.size w1 w') := Lib.hid (fun e he w1 h1 => of_c enc h0 h8 e (hok e he) w1 (hT.step h1) (hB.step h1))
  obtain ⟨b, hb⟩ : ∃ b, w.heap.size = b := ⟨_, rfl⟩
  have HSB := Lib.hid hb
  subst hva
  clear hv hn hok hT hB h0 h8
  go_enter Tryz.func9, Tryz.ntmps9
  go_wp2_with (at_make; refine wpList_make_full _ rfl _ _ 25 rfl w.heap.size 9 i0 (.string ⟨#[]⟩) 1 Tryz.underlying25 hi0 hz0 hz1 .i64 .i64 (n : Int) (n : Int) n rfl rfl rfl rfl (by rw [hz2]; omega) (by unfold maxLen; omega) (Nat.le_refl _) ?_; intro w1 hown1 hgr1)
  rw [madeStr, hb] at hown1
  have hb1 : Below w.heap.size w w1 := (Below.refl _ _).grown hgr1 (Nat.le_refl _) (fun k hk => by cases hk)
  have HT1 : Hid (Txt b w1 (partF enc l 0)) := Lib.hid (by
    rw [partF_zero, HN.out]
    rcases hown1.2 with ⟨hv, _⟩ | ⟨g, c, cur, hv, _, hq, _, _, hs, ht⟩
    · cases hv
    · cases hv
      unfold Txt
      rw [hq, ← ht, List.take_of_length_le (by rw [Array.length_toList, hs]; omega)])
  have HB1 := Lib.hid hb1
  (try rw [hb])
  clear hown1 hgr1 hb1 hb
  go_wp2
  go_loopg [13] n (fun gk iv wr => ∃ j : Nat, j + gk = n ∧ iv = .int .i64 j ∧ Txt b wr (partF enc l j) ∧ Below w.heap.size w wr)
  case atStart => exact ⟨0, by omega, rfl, HT1.out, HB1.out⟩
  case round =>
    obtain ⟨j, hjg, rfl, htx, hbel⟩ := hrel
    have HTX := Lib.hid htx
    have HBL := Lib.hid hbel
    clear htx
    by_cases hlt : j < n
    · have hltz : (j : Int) < (n : Int) := by omega
      obtain ⟨x, hx⟩ : ∃ x, l[j]? = some x := ⟨_, List.getElem?_eq_getElem (by rw [HN.out]; exact hlt)⟩
      obtain ⟨g, off, rfl, hg, hr⟩ := HV.out.at hx
      obtain ⟨c0, c1, c2, c3, c4⟩ := ent_at (rangeAt_below hr hg hbel)
      have HX := Lib.hid hx
      have hxm : x ∈ l := List.mem_of_getElem? hx
      have cO := HOF.out x hxm
      have HS : Hid ((partF enc l j).set j (faceL enc x) = partF enc l (j + 1)) := Lib.hid (partF_step hx)
      have HL : Hid ((partF enc l j).length = n) := Lib.hid (by rw [partF_len]; exact HN.out)
      have HBA : Hid (Below w.heap.size w (wr.alloc (.cells #[.string x.name, .int .i64 x.node, .bool x.dir, .int .i64 x.cookie, .int .i64 x.short] 29))) := Lib.hid (hbel.alloc hbel.size _)
      have HTA : Hid (Txt b (wr.alloc (.cells #[.string x.name, .int .i64 x.node, .bool x.dir, .int .i64 x.cookie, .int .i64 x.short] 29)) (partF enc l j)) := Lib.hid (HTX.out.keep ((Below.refl wr.heap.size wr).alloc (Nat.le_refl _) _))
      have HQ := Lib.hid (entsBlock x wr)
      unfold entV at cO
      clear hbel hr hx hxm
      obtain ⟨nm, nd, dr, ck, sh⟩ := x
      simp only at *
      generalize faceL enc ⟨nm, nd, dr, ck, sh⟩ = F at *
      generalize partF enc l j = Y at *
      have z0 : (0 : Int) ≤ (j : Int) := by omega
      go_upto_region 5 with fail
      generalize wr.alloc (.cells #[.string nm, .int .i64 nd, .bool dr, .int .i64 ck, .int .i64 sh] 29) = W0 at *
      obtain ⟨⟨q0, q1, q2, q3, q4⟩, _⟩ := five_cells HQ.out
      have cO2 := cO W0 HBA.out
      clear cO
      go_wp2_with (go_at_call 11; refine cO2.mono ?_; rintro r w2 ⟨rfl, hb2⟩; have k1 := (HTA.out.keep hb2).cell (j := j) (by rw [HL.out]; exact hlt); have k2 := (HTA.out.keep hb2).frozen (j := j))
      go_roundg (n - (j + 1))
      case measure => omega
      case rel => exact ⟨j + 1, by omega, by first | rfl | go_num, by rw [← HS.out]; exact (HTA.out.keep hb2).set F, (HBA.out.trans (hb2.mono HBA.out.size)).setCell (p := ⟨b, j, none⟩) (Nat.le_of_eq HSB.out) _⟩
    · have hje : j = n := by omega
      subst hje
      have HE : Hid (partF enc l j = l.map (faceL enc)) := Lib.hid (by rw [← HN.out]; exact partF_all enc l)
      have hge : ¬ ((j : Int) < (j : Int)) := by omega
      clear hbel hlt hjg
      go_wp2
      go_ret
      rw [HSB.out]
      exact ⟨rfl, by rw [← HE.out]; exact HTX.out, by have := HBL.out; rw [HSB.out] at this; exact this⟩
end Go.Proofs.YtbbgnhbkjbobgaaGreatDoor
