/-
  The law EscapeAscii of stage 4, walked: it answers true; what lay in memory stays.
-/
import Derived.Test.YtfmjhamnpgcdcaaDoorZEsLawC
import Derived.Test.YtfmjhamnpgcdcaaDoorZEsAsciiM
import Derived.OwnWalk
namespace Go.Proofs.YtfmjhamnpgcdcaaDoor
open Go.RowKit Go.Sort
set_option linter.unusedVariables false

def tabB : ByteArray := ⟨#[97, 98, 99, 100, 101, 102, 103, 104, 105, 106, 107, 108, 109, 110, 111, 112, 113, 114, 115, 116, 117, 118, 119, 120, 121, 122, 65, 66, 67, 68, 69, 70, 71, 72, 73, 74, 75, 76, 77, 78, 79, 80, 81, 82, 83, 84, 85, 86, 87, 88, 89, 90, 48, 49, 50, 51, 52, 53, 54, 55, 56, 57, 95, 45, 46]⟩
theorem tab_at : ∀ u : Nat, u < 65 → Go.PlainAid.bt tabB u = ((alphaL.getD u 0).toNat : Int) := by decide +kernel
def mapT (l : List UInt8) : List UInt8 := l.map fun c => alphaL.getD (c.toNat % 65) 0
theorem mapT_alpha (l : List UInt8) : Alpha (mapT l) := fun c hc => by
  obtain ⟨d, _, rfl⟩ := List.mem_map.1 hc
  have h : d.toNat % 65 < alphaL.length := Nat.mod_lt _ (by decide)
  rw [List.getD_eq_getElem?_getD, List.getElem?_eq_getElem h]
  exact List.getElem_mem h
/-- A slice of bytes of one's own. -/
def OwnB (B : Nat) (w : World) (v : Value) (xs : List UInt8) : Prop := w.ownsRow B 5 1 v xs.length (Lib.byteCells xs)
theorem OwnB.set {B g n cap i : Nat} {w : World} {xs : List UInt8} (x : UInt8) (h : OwnB B w (.slice (some ⟨g, 0, none⟩) n cap) xs) : OwnB B (w.setCell ⟨g, i, none⟩ (.int .u8 (x.toNat : Int))) (.slice (some ⟨g, 0, none⟩) n cap) (xs.set i x) := by
  refine ⟨by simp [Lib.byteCells_length], ?_⟩
  rcases h.2 with ⟨hv, _⟩ | ⟨g', cap', cur, hv, hg, hb, hn, hm, hs, ht⟩
  · cases hv
  · cases hv
    refine Or.inr ⟨g, cap, cur.setIfInBounds i (.int .u8 (x.toNat : Int)), by simp, hg, ?_, by simpa using hn, hm, by simpa using hs, ?_⟩
    · rw [setCell_eq]
      simp [mapBlock, Array.getElem?_modify, hb, onCells]
    · unfold Lib.byteCells at *
      rw [Array.toList_setIfInBounds, List.length_set, List.map_set, List.take_set, ht]
theorem OwnB.cell {B g n cap j : Nat} {w : World} {xs : List UInt8} (h : OwnB B w (.slice (some ⟨g, 0, none⟩) n cap) xs) (hj : j < xs.length) : w.cell? ⟨g, j, none⟩ = some (.int .u8 ((xs.getD j 0).toNat : Int)) ∧ w.frozen? ⟨g, j, none⟩ = false := by
  rcases h.2 with ⟨hv, _⟩ | ⟨g', cap', cur, hv, hg, hb, hn, hm, hs, ht⟩
  · cases hv
  · cases hv
    refine ⟨?_, Lib.frozen_of_heap hb j⟩
    rw [Lib.cell_of_heap hb, ← Array.getElem?_toList]
    have := congrArg (·[j]?) ht
    simp only [Nat.mul_one, List.getElem?_take, if_pos hj] at this
    rw [this]
    simp [Lib.byteCells, List.getElem?_eq_getElem hj, List.getD_eq_getElem?_getD]
theorem OwnB.below {B : Nat} {w w' : World} {v : Value} {xs : List UInt8} (h : OwnB B w v xs) (hb : Below w.heap.size w w') : OwnB B w' v xs :=
  h.kept (row := none) ⟨hb.os, hb.tape, hb.output, hb.size, fun k hk _ => hb.block k hk⟩ (by cases h : v.ownBlock with | none => exact Or.inl rfl | some x => exact Or.inr (by simp))
theorem OwnB.text {B g n cap : Nat} {w : World} {xs : List UInt8} (h : OwnB B w (.slice (some ⟨g, 0, none⟩) n cap) xs) (hn : xs.length = n) : (convert 22 9 (.slice (some ⟨g, 0, none⟩) n cap)).run Tryd.prog w = .ok (.string ⟨xs.toArray⟩) w := by
  subst hn
  refine run_convert_bytes_back (P := Tryd.prog) w 22 9 5 ⟨g, 0, none⟩ cap xs Tryd.underlying22 Tryd.underlying5 Tryd.underlying9 (fun j hj => ?_)
  rw [addr_add, Nat.zero_add, (h.cell hj).1]
  simp [List.getD_eq_getElem?_getD, List.getElem?_eq_getElem hj]
theorem madeByte (n : Nat) : (madeCells (Value.int .u8 0).cells (n * 1)).toList = Lib.byteCells (List.replicate n (0 : UInt8)) := by
  apply List.ext_getElem?
  intro i
  simp [madeCells, Lib.byteCells]
  by_cases h : i < n
  · simp [h, Nat.mod_one, Value.cells]
  · simp [h]
/-- The slice v holds the bytes l. -/
def BytesC (w : World) (v : Value) (l : List UInt8) : Prop := (l = [] ∧ ∃ a cap, v = .slice a 0 cap) ∨ (∃ g off cap, v = .slice (some ⟨g, off, none⟩) l.length cap ∧ g < w.heap.size ∧ ∀ j, j < l.length → w.cell? ⟨g, off + j, none⟩ = some (.int .u8 ((l.getD j 0).toNat : Int)))
theorem BytesC.len {w : World} {v : Value} {l : List UInt8} (h : BytesC w v l) : ∃ a cap, v = .slice a l.length cap := by
  rcases h with ⟨rfl, a, cap, hv⟩ | ⟨g, off, cap, hv, _⟩
  · exact ⟨a, cap, hv⟩
  · exact ⟨_, cap, hv⟩
theorem good_alpha {l : List UInt8} (ha : Alpha l) (hl : l.length ≤ 100) (hn : l ≠ []) (hz : ∀ z, l.getLast? = some z → z ≠ 46) : goodB ⟨l.toArray⟩ = true := by
  have hb : ∀ n : Nat, n < 65 → (alphaL.getD n 0).toNat ≠ 0 ∧ (alphaL.getD n 0).toNat ≠ 47 := by decide +kernel
  have hZ : hasZ ⟨l.toArray⟩ = false := hasZ_no (fun k hk => by
    have h1 := bt_list (b := ⟨l.toArray⟩) hk
    have hkl : k < l.length := by simpa using (show k < l.toArray.size from hk)
    have h2 : (⟨l.toArray⟩ : ByteArray).data.toList[k]? = some l[k] := by
      show l.toArray.toList[k]? = _
      rw [List.toList_toArray, List.getElem?_eq_getElem hkl]
    rw [h2] at h1
    rw [h1.2, ← Option.some.inj h1.1]
    obtain ⟨n, hn, he⟩ := alpha_at (ha _ (List.getElem_mem hkl))
    have := hb n hn
    rw [he] at this
    omega)
  rw [good_says, hZ]
  have hs : (⟨l.toArray⟩ : ByteArray).size = l.length := by show l.toArray.size = _; simp
  have hp : 0 < l.length := List.length_pos_iff.2 hn
  have ht : (⟨l.toArray⟩ : ByteArray).toList = l := by rw [ByteArray.toList_eq]
  rw [ht, hs, decide_eq_false (show ¬ l = [46] from fun e => hz 46 (by rw [e]; rfl) rfl), decide_eq_false (show ¬ l = [46, 46] from fun e => hz 46 (by rw [e]; rfl) rfl), decide_eq_true (by omega : 1 ≤ l.length), decide_eq_true (by omega : l.length ≤ 255)]
  rfl

set_option maxHeartbeats 4000000 in
set_option maxRecDepth 100000 in
theorem ascii4_walk (x : Int) (hx0 : 0 ≤ x) (hx1 : x ≤ 255) (l : List UInt8) (v : Value) (w : World) (hv : BytesC w v l) (hlm : l.length ≤ 9223372036854775807) (hT : Tabs w) :
    Calls Tryd.prog 3 #[.int .u8 x, v] w fun e w' => e = .returned (.bool true) ∧ Below w.heap.size w w' := by
  obtain ⟨i0, hi0, hz0, hz1, hz2⟩ := info_parts infoByteBu
  have cA := awake4_c w hT
  have HA : Hid (∀ w1, Below w.heap.size w w1 → Calls Tryd.prog 7 #[] w1 fun e w' => e = .returned (.bool true) ∧ Below w1.heap.size w1 w') := Lib.hid (fun w1 h1 => awake4_c w1 (hT.step h1))
  obtain ⟨E, hE⟩ : ∃ E, x % 9 = E := ⟨_, rfl⟩
  have hE0 : 0 ≤ E := by omega
  have hE8 : E ≤ 8 := by omega
  have hwE : IntKind.i64.wrap E = E := by rw [IntKind.wrap_i64]; omega
  obtain ⟨a, cap, rfl⟩ := hv.len
  obtain ⟨n, hn⟩ : ∃ n, l.length = n := ⟨_, rfl⟩
  have HN := Lib.hid hn
  have HV := Lib.hid hv
  rw [hn] at hlm ⊢
  clear hv hn
  by_cases hbad : 100 < n ∨ n = 0
  · have hcase : (((100 : Int) < (n : Int)) ∧ ((n : Int) == 0) = false) ∨ (¬ ((100 : Int) < (n : Int)) ∧ ((n : Int) == 0) = true) := by
      rcases hbad with h | h
      · exact Or.inl ⟨by omega, by rw [beq_eq_false_iff_ne]; omega⟩
      · exact Or.inr ⟨by omega, by rw [beq_iff_eq]; omega⟩
    clear hbad hT
    rcases hcase with ⟨h1, h2⟩ | ⟨h1, h2⟩
    · go_enter Tryd.func3, Tryd.ntmps3
      go_wp2_with fail
      refine cA.mono ?_
      rintro e w1 ⟨rfl, hb1⟩
      have cA2 := HA.out w1 hb1
      go_wp2_with fail
      refine cA2.mono ?_
      rintro e w2 ⟨rfl, hb2⟩
      have HB := Lib.hid (below_step hb1 hb2)
      clear hb1 hb2 cA cA2
      go_wp2
      go_ret
      exact ⟨rfl, HB.out⟩
    · go_enter Tryd.func3, Tryd.ntmps3
      go_wp2_with fail
      refine cA.mono ?_
      rintro e w1 ⟨rfl, hb1⟩
      have cA2 := HA.out w1 hb1
      go_wp2_with fail
      refine cA2.mono ?_
      rintro e w2 ⟨rfl, hb2⟩
      have HB := Lib.hid (below_step hb1 hb2)
      clear hb1 hb2 cA cA2
      go_wp2
      go_ret
      exact ⟨rfl, HB.out⟩
  · have h100 : ¬ ((100 : Int) < (n : Int)) := by omega
    have hn0 : ((n : Int) == 0) = false := by rw [beq_eq_false_iff_ne]; omega
    have hn1 : 1 ≤ n := by omega
    have hn100 : n ≤ 100 := by omega
    clear hbad
    go_enter Tryd.func3, Tryd.ntmps3
    go_wp2_with fail
    refine cA.mono ?_
    rintro e w1 ⟨rfl, hb1⟩
    have HB1 := Lib.hid hb1
    have hHs := hb1.size
    clear hb1 cA
    go_wp2_with (at_make; refine wpList_make_full _ rfl _ _ 22 rfl w1.heap.size 5 i0 (.int .u8 0) 1 Tryd.underlying22 hi0 hz0 hz1 .i64 .i64 (n : Int) (n : Int) n rfl rfl rfl rfl (by rw [hz2]; omega) (by unfold maxLen; omega) (Nat.le_refl _) ?_; intro w2 hown2 hgr2)
    rw [madeByte] at hown2
    have ho2 : OwnB w1.heap.size w2 (.slice (some ⟨w1.heap.size, 0, none⟩) n n) (List.replicate n (0 : UInt8)) := by
      unfold OwnB
      rw [List.length_replicate]
      exact hown2
    have HO2 := Lib.hid ho2
    have HB2 : Hid (Below w1.heap.size w1 w2) := Lib.hid ((Below.refl _ _).grown hgr2 (Nat.le_refl _) (fun k hk => by cases hk))
    clear hown2 hgr2 ho2
    go_wp2
    go_loopg [6] n (fun gk iv wr => ∃ (j : Nat) (xs : List UInt8), j + gk = n ∧ iv = .int .i64 j ∧ xs.length = n ∧ xs.take j = mapT (l.take j) ∧ OwnB w1.heap.size wr (.slice (some ⟨w1.heap.size, 0, none⟩) n n) xs ∧ Below w1.heap.size w1 wr)
    case atStart => exact ⟨0, List.replicate n 0, by omega, rfl, by simp, by simp [mapT], HO2.out, HB2.out⟩
    case round =>
      obtain ⟨j, xs, hjg, rfl, hxl, hxt, hown, hbel⟩ := hrel
      have HXT := Lib.hid hxt
      have HO := Lib.hid hown
      have HXL := Lib.hid hxl
      clear hxt hown hxl
      by_cases hlt : j < n
      · have hltz : (j : Int) < (n : Int) := by omega
        have hjl : j < l.length := by rw [HN.out]; exact hlt
        have hcell : ∃ g off, a = some ⟨g, off, none⟩ ∧ g < w.heap.size ∧ w.cell? ⟨g, off + j, none⟩ = some (.int .u8 ((l.getD j 0).toNat : Int)) := by
          rcases HV.out with ⟨h1, _⟩ | ⟨g, off, cap', hvv, hg, hc⟩
          · rw [h1] at hjl; exact absurd hjl (by simp)
          · refine ⟨g, off, ?_, hg, hc j hjl⟩
            injection hvv
        obtain ⟨g, off, rfl, hg, c0⟩ := hcell
        have hbw : Below w.heap.size w wr := HB1.out.trans (hbel.mono HB1.out.size)
        obtain ⟨c, hc⟩ : ∃ c, l.getD j 0 = c := ⟨_, rfl⟩
        rw [hc] at c0
        have d0 : wr.cell? ⟨g, off + j, none⟩ = some (.int .u8 (c.toNat : Int)) := by rw [hbw.cell (p := ⟨g, off + j, none⟩) hg]; exact c0
        have j0 : (0 : Int) ≤ (j : Int) := by omega
        obtain ⟨m, hm⟩ : ∃ m : Nat, c.toNat % 65 = m := ⟨_, rfl⟩
        have hmz : (c.toNat : Int) % 65 = (m : Int) := by omega
        have hm65 : (m : Int) < 65 := by omega
        have m0 : (0 : Int) ≤ (m : Int) := by omega
        have mt : ((m : Int)).toNat = m := by omega
        have cle : (c.toNat : Int) ≤ 255 := by have := c.toNat_lt; omega
        have hB := Go.PlainAid.get_bt ⟨#[97, 98, 99, 100, 101, 102, 103, 104, 105, 106, 107, 108, 109, 110, 111, 112, 113, 114, 115, 116, 117, 118, 119, 120, 121, 122, 65, 66, 67, 68, 69, 70, 71, 72, 73, 74, 75, 76, 77, 78, 79, 80, 81, 82, 83, 84, 85, 86, 87, 88, 89, 90, 48, 49, 50, 51, 52, 53, 54, 55, 56, 57, 95, 45, 46]⟩
        have hbm := tab_at m (by omega)
        unfold tabB at hbm
        obtain ⟨D, hD⟩ : ∃ D, alphaL.getD m 0 = D := ⟨_, rfl⟩
        rw [hD] at hbm
        have HT9 : Hid ((xs.set j D).take (j + 1) = mapT (l.take (j + 1))) := Lib.hid (by
          rw [List.take_add_one, List.take_set, List.set_eq_of_length_le (by rw [List.length_take]; omega), HXT.out]
          have h1 : (xs.set j D)[j]? = some D := by simp [HXL.out, hlt]
          have h2 : l[j]? = some c := by
            rw [List.getElem?_eq_getElem hjl, ← hc]
            simp [List.getD_eq_getElem?_getD, List.getElem?_eq_getElem hjl]
          rw [h1, List.take_add_one, h2]
          unfold mapT
          rw [List.map_append]
          show _ = _ ++ [alphaL.getD (c.toNat % 65) 0]
          rw [hm, hD]; rfl)
        have hcx := HO.out.cell (j := j) (by rw [HXL.out]; exact hlt)
        obtain ⟨f1, f2⟩ := hcx
        have HO9 : Hid (OwnB w1.heap.size (wr.setCell ⟨w1.heap.size, j, none⟩ (.int .u8 (D.toNat : Int))) (.slice (some ⟨w1.heap.size, 0, none⟩) n n) (xs.set j D)) := Lib.hid (HO.out.set D)
        have HB9 : Hid (Below w1.heap.size w1 (wr.setCell ⟨w1.heap.size, j, none⟩ (.int .u8 (D.toNat : Int)))) := Lib.hid (hbel.setCell (p := ⟨w1.heap.size, j, none⟩) (Nat.le_refl _) _)
        clear hc hm hD c0 hbw hjl
        go_wp2
        go_roundg (n - (j + 1))
        case measure => omega
        case rel => exact ⟨j + 1, xs.set j D, by omega, by first | rfl | go_num, by rw [List.length_set]; exact HXL.out, HT9.out, HO9.out, HB9.out⟩
      · have hje : j = n := by omega
        have hxs : xs = mapT l := by
          have h1 := HXT.out
          rw [List.take_of_length_le (by rw [HXL.out]; omega), List.take_of_length_le (by rw [HN.out]; omega)] at h1
          exact h1
        have hml : (mapT l).length = n := by unfold mapT; rw [List.length_map]; exact HN.out
        have hOw : OwnB w1.heap.size wr (.slice (some ⟨w1.heap.size, 0, none⟩) n n) (mapT l) := by rw [← hxs]; exact HO.out
        have hAl := mapT_alpha l
        have hge : ¬ ((j : Int) < (n : Int)) := by omega
        have HBR : Hid (Below w.heap.size w wr) := Lib.hid (HB1.out.trans (hbel.mono HB1.out.size))
        have hbs1 := hbel.size
        clear hje hlt hjg hbel hxs
        generalize mapT l = M at *
        have HOW := Lib.hid hOw
        have HKB : Hid (∀ W, OwnB w1.heap.size W (.slice (some ⟨w1.heap.size, 0, none⟩) n n) M → (convert 22 9 (.slice (some ⟨w1.heap.size, 0, none⟩) n n)).run Tryd.prog W = .ok (.string ⟨M.toArray⟩) W) := Lib.hid (fun W h => h.text hml)
        have hML := Lib.hid hml
        have hMn : M ≠ [] := by
          intro e
          rw [e] at hml
          simp at hml
          omega
        obtain ⟨z, hz⟩ : ∃ z, M.getLast? = some z := by
          cases h : M.getLast? with
          | none => exact absurd (List.getLast?_eq_none_iff.1 h) hMn
          | some z => exact ⟨z, rfl⟩
        have hzl : M.getD (n - 1) 0 = z := by
          rw [List.getLast?_eq_getElem?, hml] at hz
          rw [List.getD_eq_getElem?_getD, hz]; rfl
        have HZC : Hid (∀ W, OwnB w1.heap.size W (.slice (some ⟨w1.heap.size, 0, none⟩) n n) M → W.cell? ⟨w1.heap.size, n - 1, none⟩ = some (.int .u8 (z.toNat : Int))) := Lib.hid (fun W h => by
          have := (h.cell (j := n - 1) (by rw [hml]; omega)).1
          rw [hzl] at this
          exact this)
        have hRd := reads_alpha hE0 hE8 M hAl (by omega)
        have hw1 : IntKind.i64.wrap ((n : Int) - 1) = ((n - 1 : Nat) : Int) := by rw [IntKind.wrap_i64]; omega
        have q0 : (0 : Int) ≤ ((n - 1 : Nat) : Int) := by omega
        have q1 : ((n - 1 : Nat) : Int) < (n : Int) := by omega
        have q2 : (((n - 1 : Nat) : Int)).toNat = n - 1 := by omega
        have kc0 := HKB.out wr hOw
        by_cases h46 : z = 46
        · have hnp := alpha_point hE0 M hAl (by rw [hz, h46])
          have cR := restore_no E hE0 hE8 ⟨M.toArray⟩ M hRd (by omega) hnp wr (hT.step HBR.out)
          subst h46
          generalize (⟨M.toArray⟩ : ByteArray) = S at *
          clear hz hzl hRd hnp hT hMn hml hOw
          go_wp2_with fail
          refine cR.mono ?_
          rintro e w5 ⟨rfl, hb5⟩
          have cz : w5.cell? ⟨w1.heap.size, n - 1, none⟩ = some (.int .u8 46) := HZC.out w5 (HOW.out.below hb5)
          have HB5 : Hid (Below w.heap.size w w5) := Lib.hid (HBR.out.trans (hb5.mono HBR.out.size))
          clear hb5 cR
          go_wp2
          go_ret
          exact ⟨rfl, HB5.out⟩
        · have hzz : ∀ y, M.getLast? = some y → y ≠ 46 := fun y hy => by rw [hz] at hy; rw [← Option.some.inj hy]; exact h46
          have hpr := alpha_pres hE0 hE8 M hAl hzz
          have cR := restore_yes E hE0 hE8 ⟨M.toArray⟩ M hRd (good_alpha hAl (by omega) hMn hzz) (by omega) hpr wr (hT.step HBR.out)
          have HP : Hid (∀ W, Below w.heap.size w W → Calls Tryd.prog 9 #[.int .i64 E, .string ⟨M.toArray⟩] W fun e w' => e = .returned (.string ⟨M.toArray⟩) ∧ Below W.heap.size W w') := Lib.hid (fun W hW => by
            have := present_c E hE0 hE8 ⟨M.toArray⟩ (by show M.toArray.size ≤ 300; simp; omega) W (hT.step hW)
            rw [show (⟨M.toArray⟩ : ByteArray).data.toList = M from rfl, hpr] at this
            exact this)
          have e46 : ((z.toNat : Int) == 46) = false := by
            rw [beq_eq_false_iff_ne]
            intro h9
            exact h46 (UInt8.toNat_inj.1 (by have : z.toNat = 46 := by omega
                                             rw [this]; rfl))
          generalize (⟨M.toArray⟩ : ByteArray) = S at *
          clear hz hzl hRd hT hMn hml hOw hzz hpr h46
          go_wp2_with fail
          refine cR.mono ?_
          rintro e w5 ⟨rfl, hb5⟩
          have cz : w5.cell? ⟨w1.heap.size, n - 1, none⟩ = some (.int .u8 (z.toNat : Int)) := HZC.out w5 (HOW.out.below hb5)
          have ho5 := HOW.out.below hb5
          have HB5 : Hid (Below w.heap.size w w5) := Lib.hid (HBR.out.trans (hb5.mono HBR.out.size))
          have HSK : Hid (∀ W, Below w5.heap.size w5 W → (Below w5.heap.size w5 W ∧ (convert 22 9 (.slice (some ⟨w1.heap.size, 0, none⟩) n n)).run Tryd.prog W = .ok (.string S) W)) := Lib.hid (fun W h => ⟨h, HKB.out W (ho5.below h)⟩)
          have HPK : Hid (∀ W, Below w5.heap.size w5 W → Calls Tryd.prog 9 #[.int .i64 E, .string S] W fun e w' => e = .returned (.string S) ∧ Below w5.heap.size w5 w') := Lib.hid (fun W h => (HP.out W (HB5.out.trans (h.mono HB5.out.size))).mono fun e w' ⟨h1, h2⟩ => ⟨h1, h.trans (h2.mono h.size)⟩)
          clear hb5 cR ho5
          go_wp2_with fail
          have htm : x.tmod 9 = E := by rw [Int.tmod_eq_emod_of_nonneg hx0]; exact hE
          have htw : IntKind.i64.wrap (x.tmod 9) = E := by rw [htm]; exact hwE
          try clear HA
          try clear HKB
          try clear HV
          try clear HN
          try clear HML
          try clear HZC
          try clear HP
          try clear HOW
          try clear HBR
          try clear hAl
          try clear hHs
          try clear hbs1
          try clear hlm
          try clear hn1
          try clear hn100
          try clear h100
          try clear hn0
          try clear kc0
          try clear cz
          try clear HB1
          try clear HO2
          try clear HB2
          try clear HXT
          try clear HO
          try clear HXL
          try clear hMn
          try clear e46
          try clear hw1
          try clear q0
          try clear q1
          try clear q2
          try clear hE0
          try clear hE8
          go_region_held3 (fun W => Below w5.heap.size w5 W ∧ (convert 22 9 (.slice (some ⟨w1.heap.size, 0, none⟩) n n)).run Tryd.prog W = .ok (.string S) W) ((refine HSK.out _ ?_; first | assumption | exact (Below.refl _ _).drew | exact Below.refl _ _ | exact Below.drew ‹_›)) (first | (go_at_call 9; (try rw [htw]); refine (HPK.out _ ?_).mono ?_; (first | assumption | exact (Below.refl _ _).drew | exact Below.refl _ _ | exact Below.drew ‹_›); rintro e w6 ⟨rfl, hb6⟩))
          have HB6 : Hid (Below w.heap.size w w6) := Lib.hid (HB5.out.trans (hb6.mono HB5.out.size))
          clear hb6
          go_wp2
          go_ret
          exact ⟨rfl, HB6.out⟩
end Go.Proofs.YtfmjhamnpgcdcaaDoor
