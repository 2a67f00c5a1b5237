/-
  The library's formatBits at base 16.
-/
import Derived.Test.YtfmjhamnpgcdcaaGreatDoorShFmt
namespace Go.Proofs.YtfmjhamnpgcdcaaGreatDoor
open Go.RowKit Go.Sort
set_option linter.unusedVariables false

/-- The array of 65 bytes at g holds xs. -/
def Arr (g : Nat) (w : World) (xs : List UInt8) : Prop := w.heap[g]? = some (.cells (Lib.byteCells xs).toArray 173 (0, 0)) ∧ xs.length = 65
theorem Arr.start (w : World) : Arr w.heap.size (w.alloc (.cells Tryz.zeroCells173 173)) (List.replicate 65 0) := by
  refine ⟨?_, by simp⟩
  rw [heap_alloc_new]
  have : Tryz.zeroCells173 = (Lib.byteCells (List.replicate 65 (0 : UInt8))).toArray := by kernel_rfl
  rw [this]
theorem Arr.set {g i : Nat} {w : World} {xs : List UInt8} (c : UInt8) (h : Arr g w xs) : Arr g (w.setCell ⟨g, i, none⟩ (.int .u8 (c.toNat : Int))) (xs.set i c) := by
  refine ⟨?_, by rw [List.length_set]; exact h.2⟩
  rw [setCell_eq]
  simp [mapBlock, Array.getElem?_modify, h.1, onCells]
  unfold Lib.byteCells
  rw [List.map_set]
theorem Arr.cell {g i : Nat} {w : World} {xs : List UInt8} (h : Arr g w xs) (hi : i < 65) : w.cell? ⟨g, i, none⟩ = some (.int .u8 ((xs.getD i 0).toNat : Int)) ∧ w.frozen? ⟨g, i, none⟩ = false := by
  refine ⟨?_, Lib.frozen_of_heap h.1 i⟩
  rw [Lib.cell_of_heap h.1]
  have : i < xs.length := by rw [h.2]; exact hi
  simp [Lib.byteCells, List.getD_eq_getElem?_getD, List.getElem?_eq_getElem this]
theorem addB (g off j : Nat) : (⟨g, off, none⟩ : Addr).add j = ⟨g, off + j, none⟩ := by
  unfold Addr.add
  split
  · rename_i h; subst h; rfl
  · rfl
theorem Arr.text {g i n cap : Nat} {w : World} {xs : List UInt8} (h : Arr g w xs) (hn : i + n = 65) : (convert 58 9 (.slice (some ⟨g, i, none⟩) n cap)).run Tryz.prog w = .ok (.string ⟨(xs.drop i).toArray⟩) w := by
  have hl : (xs.drop i).length = n := by rw [List.length_drop, h.2]; omega
  subst hl
  refine run_convert_bytes_back (P := Tryz.prog) w 58 9 5 ⟨g, i, none⟩ cap (xs.drop i) Tryz.underlying58 Tryz.underlying5 Tryz.underlying9 (fun j hj => ?_)
  rw [List.length_drop, h.2] at hj
  rw [addB, (h.cell (i := i + j) (by omega)).1]
  have h1 : i + j < xs.length := by rw [h.2]; omega
  simp [List.getD_eq_getElem?_getD, List.getElem?_eq_getElem h1]
theorem slice65 (w : World) (g k : Nat) (hk : k < 65) : (Instr.sliceAt 173 (.pointer (some ⟨g, 0, none⟩)) (some (.int .i64 (k : Int))) none none).run Tryz.prog w = .ok (.slice (some ⟨g, k, none⟩) (65 - k) (65 - k)) w := by
  have hal : Tryz.prog.arrayLen 173 = 65 := by kernel_rfl
  rw [run_sliceAt_array_l w 173 ⟨g, 0, none⟩ (by kernel_rfl) .i64 (k : Int) (by omega) (by rw [hal]; omega)]
  have hsz : (sizeOf (Tryz.prog.elem 173)).run Tryz.prog w = .ok 1 w := by kernel_rfl
  rw [hsz, Result.andThen_ok, hal]
  have hk2 : ((k : Int)).toNat = k := by omega
  have hk3 : ¬ (65 = k) := by omega
  simp [slicedAt, hk2, hk3, addB]
theorem drop_set_one {xs : List UInt8} {i : Nat} (c : UInt8) (hi : i < xs.length) : (xs.set i c).drop i = c :: xs.drop (i + 1) := by
  rw [List.drop_eq_getElem_cons (by simpa using hi), List.getElem_set_self, List.drop_set_of_lt (by omega)]
def digs : ByteArray := ⟨#[48, 49, 50, 51, 52, 53, 54, 55, 56, 57, 97, 98, 99, 100, 101, 102, 103, 104, 105, 106, 107, 108, 109, 110, 111, 112, 113, 114, 115, 116, 117, 118, 119, 120, 121, 122]⟩
theorem digs_at : ∀ m : Nat, m < 16 → Go.PlainAid.bt digs m = ((dgB m).toNat : Int) := by decide +kernel
theorem wraps_u64 (n : Int) (h₀ : 0 ≤ n) (h₁ : n < 2 ^ 63) : IntKind.u64.wrap n = n := by rw [IntKind.wrap_u64]; omega
theorem and15 {u : Nat} (hu : u < 4294967296) : bits .and .u64 (u : Int) 15 = ((u % 16 : Nat) : Int) := by
  have := bits_mask .u64 63 (by decide) wraps_u64 4 (by decide) (u : Int) (by omega) (by omega)
  rw [show ((2 : Int) ^ 4 - 1) = 15 from rfl, show ((2 : Int) ^ 4) = 16 from rfl] at this
  rw [this]; omega

set_option maxHeartbeats 4000000 in
set_option maxRecDepth 100000 in
theorem bits_c (u : Nat) (hu : u < 4294967296) (w : World) (hz : Zeros w) :
    Calls Tryz.prog 96 #[.slice none 0 0, .int .u64 u, .int .i64 16, .bool false, .bool false] w fun e w' => e = .returned (.tuple #[.slice none 0 0, .string ⟨(hexD u).toArray⟩]) ∧ Below w.heap.size w w' := by
  have cP := fun w => p2_c w
  have hz1 : Zeros (w.alloc (.cells Tryz.zeroCells173 173)) := by
    unfold Zeros at *
    rw [World.cell?_of_block (w := w) (Below.heap_alloc w _ _ (lt_cell hz))]
    exact hz
  have cT := tz_c _ hz1
  obtain ⟨g, hg⟩ : ∃ g, w.heap.size = g := ⟨_, rfl⟩
  have HG := Lib.hid hg
  have HA0 := Arr.start w
  rw [hg] at HA0
  have HA := Lib.hid HA0
  have HB0 : Hid (Below g w (w.alloc (.cells Tryz.zeroCells173 173))) := Lib.hid ((Below.refl g w).alloc (by omega) _)
  have HU : Hid ((hexD u).length ≤ 8) := Lib.hid (hexD_pad 8 u (by decide) (by omega)).2.1
  clear hz hz1 hg HA0
  go_enter Tryz.func96, Tryz.ntmps96
  go_wp2_with fail
  refine (cP _).mono ?_
  rintro e w1 ⟨rfl, rfl⟩
  go_wp2_with fail
  refine cT.mono ?_
  rintro e w1 ⟨rfl, rfl⟩
  clear cP cT
  go_wp2
  rw [HG.out]
  go_loopg [1, 13] u (fun gk uv iv wr => ∃ (i : Nat) (xs : List UInt8), (58 ≤ i ∧ i ≤ 65 ∧ gk < 4294967296) ∧ uv = .int .u64 gk ∧ iv = .int .i64 i ∧ Arr g wr xs ∧ hexD u = hexD gk ++ xs.drop i ∧ Below g w wr)
  case atStart => exact ⟨65, List.replicate 65 0, by omega, rfl, rfl, HA.out, by simp, HB0.out⟩
  case round =>
    obtain ⟨i, xs, ⟨hi1, hi2, hgk⟩, rfl, rfl, harr, hhex, hbel⟩ := hrel
    have HARR := Lib.hid harr
    have HHEX := Lib.hid hhex
    have HBEL := Lib.hid hbel
    have hdl := congrArg List.length hhex
    rw [List.length_append, List.length_drop, harr.2] at hdl
    have hk1 := (hexD_pad 8 gk (by decide) (by omega)).1
    have hu8 := HU.out
    have hi3 : 58 ≤ i := by omega
    have hi4 : 1 ≤ i := by omega
    obtain ⟨k, hk⟩ : ∃ k, i = k + 1 := ⟨i - 1, by omega⟩
    subst hk
    have HK58 : Hid (gk < 16 ∨ 59 ≤ k + 1) := Lib.hid (by
      by_cases h16 : gk < 16
      · exact Or.inl h16
      · right
        rw [hexD_big h16, List.length_append, List.length_singleton] at hdl
        have h2 := (hexD_pad 8 (gk / 16) (by decide) (by omega)).1
        omega)
    clear hdl hk1 hu8 hhex hbel hi3 hi4
    have kw : IntKind.i64.wrap (((k + 1 : Nat) : Int) - 1) = (k : Int) := by rw [IntKind.wrap_i64]; omega
    have kw2 : ((k + 1 : Nat) : Int) - 1 = (k : Int) := by omega
    have kw3 : (k : Int) + 1 - 1 = (k : Int) := by omega
    have k65 : (k : Int) < 65 := by omega
    obtain ⟨c0, f0⟩ := harr.cell (i := k) (by omega)
    have hB := Go.PlainAid.get_bt ⟨#[48, 49, 50, 51, 52, 53, 54, 55, 56, 57, 97, 98, 99, 100, 101, 102, 103, 104, 105, 106, 107, 108, 109, 110, 111, 112, 113, 114, 115, 116, 117, 118, 119, 120, 121, 122]⟩
    clear harr
    by_cases h16 : gk < 16
    · have hge : ¬ ((16 : Int) ≤ (gk : Int)) := by omega
      have hgz : (gk : Int) < 36 := by omega
      have hbm := digs_at gk h16
      unfold digs at hbm
      obtain ⟨d, hd⟩ : ∃ d, dgB gk = d := ⟨_, rfl⟩
      rw [hd] at hbm
      have HX : Hid (hexD u = (xs.set k d).drop k) := Lib.hid (by
        rw [drop_set_one d (by rw [HARR.out.2]; omega), HHEX.out, hexD_small h16, hd]; rfl)
      have HS : Hid (Arr g (wr.setCell ⟨g, k, none⟩ (.int .u8 (d.toNat : Int))) (xs.set k d)) := Lib.hid (HARR.out.set d)
      have HBS : Hid (Below g w (wr.setCell ⟨g, k, none⟩ (.int .u8 (d.toNat : Int)))) := Lib.hid (HBEL.out.setCell (p := ⟨g, k, none⟩) (Nat.le_refl _) _)
      have kc := HS.out.text (i := k) (n := 65 - k) (cap := 65 - k) (by omega)
      have ksl : (Instr.sliceAt 173 (.pointer (some ⟨g, 0, none⟩)) (some (.int .i64 (k : Int))) none none).run Tryz.prog (wr.setCell ⟨g, k, none⟩ (.int .u8 (d.toNat : Int))) = .ok (.slice (some ⟨g, k, none⟩) (65 - k) (65 - k)) (wr.setCell ⟨g, k, none⟩ (.int .u8 (d.toNat : Int))) := slice65 _ g k (by omega)
      clear hd h16 HK58
      go_wp2
      go_ret2
      exact ⟨by rw [HX.out]; rfl, by rw [HG.out]; exact HBS.out⟩
    · have hge : (16 : Int) ≤ (gk : Int) := by omega
      have hm := and15 hgk
      obtain ⟨m, hmm⟩ : ∃ m, gk % 16 = m := ⟨_, rfl⟩
      rw [hmm] at hm
      have hm16 : m < 16 := by omega
      have hmz : (m : Int) < 36 := by omega
      have hbm := digs_at m hm16
      unfold digs at hbm
      obtain ⟨d, hd⟩ : ∃ d, dgB m = d := ⟨_, rfl⟩
      rw [hd] at hbm
      have HQ : Hid ((gk : Int) / 16 = ((gk / 16 : Nat) : Int)) := Lib.hid (by omega)
      have HX : Hid (hexD u = hexD (gk / 16) ++ (xs.set k d).drop k) := Lib.hid (by
        rw [drop_set_one d (by rw [HARR.out.2]; omega), HHEX.out, hexD_big h16, hmm, hd]; simp)
      have HS : Hid (Arr g (wr.setCell ⟨g, k, none⟩ (.int .u8 (d.toNat : Int))) (xs.set k d)) := Lib.hid (HARR.out.set d)
      have HBS : Hid (Below g w (wr.setCell ⟨g, k, none⟩ (.int .u8 (d.toNat : Int)))) := Lib.hid (HBEL.out.setCell (p := ⟨g, k, none⟩) (Nat.le_refl _) _)
      have HK2 : Hid (58 ≤ k) := Lib.hid (by have := HK58.out; omega)
      clear hd hmm HK58
      go_wp2
      go_roundg (gk / 16)
      case measure => omega
      case rel => exact ⟨k, xs.set k d, ⟨HK2.out, by omega, by omega⟩, by first | rfl | rw [HQ.out], by first | rfl | go_num, HS.out, HX.out, HBS.out⟩
end Go.Proofs.YtfmjhamnpgcdcaaGreatDoor
