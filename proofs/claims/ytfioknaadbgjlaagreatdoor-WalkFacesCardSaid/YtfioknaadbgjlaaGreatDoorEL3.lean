/- Kit. -/
import Derived.Lib.ItoaNum
import Derived.Lib.Repeat
import Derived.Lib.Hide
import Derived.Test.YtfioknaadbgjlaaGreatDoorProg
import Derived.WalkKit
import Derived.WalkSpells
import Derived.IntWalk
import Derived.ProofKit
import Derived.Below
import Derived.LoopTactic
import Derived.Deep.LoopGhost
import Derived.Laws.Bits64
import Derived.Laws.BitsLemmas
import Derived.Laws.IdiomStrings
import Derived.Lib.Builder
import Derived.Sort.WalkC
import Derived.PlainAid
import Derived.Lib.UnsafeStr
import Derived.Test.YtfioknaadbgjlaaGreatDoorEShelf
import Derived.Laws.NewBlocks
import Derived.Test.YtfioknaadbgjlaaGreatDoorEL2
import Derived.Lib.ConvBytes
import Derived.Lib.AtoiErrMem
import Derived.Lib.AtoiBound
set_option maxRecDepth 100000
set_option linter.unusedVariables false
set_option linter.unusedSimpArgs false
namespace Go.Proofs.YtfioknaadbgjlaaGreatDoor.F
/-- A digit of base 16. -/
def dgB (u : Nat) : UInt8 := if u < 10 then UInt8.ofNat (48 + u) else UInt8.ofNat (87 + u)
/-- The digits of base 16, no zeros ahead. -/
def hexD (u : Nat) : List UInt8 := if h : u < 16 then [dgB u] else hexD (u / 16) ++ [dgB (u % 16)]
termination_by u
decreasing_by omega
theorem hexD_small {u : Nat} (h : u < 16) : hexD u = [dgB u] := by rw [hexD, dif_pos h]
theorem hexD_big {u : Nat} (h : ¬ u < 16) : hexD u = hexD (u / 16) ++ [dgB (u % 16)] := by rw [hexD, dif_neg h]
/-- n digits of base 16. -/
def padN : Nat → Nat → List UInt8
  | 0, _ => []
  | n + 1, u => padN n (u / 16) ++ [dgB (u % 16)]
theorem padN_length : ∀ n u, (padN n u).length = n
  | 0, _ => rfl
  | n + 1, u => by simp [padN, padN_length n]
theorem padN_zero : ∀ n, padN n 0 = List.replicate n 48
  | 0 => rfl
  | n + 1 => by
    have e : dgB 0 = 48 := by decide
    rw [padN, Nat.zero_div, padN_zero n, Nat.zero_mod, e, List.replicate_succ']
theorem hexD_pad : ∀ n u, 1 ≤ n → u < 16 ^ n → 1 ≤ (hexD u).length ∧ (hexD u).length ≤ n ∧ List.replicate (n - (hexD u).length) 48 ++ hexD u = padN n u := by
  intro n
  induction n with
  | zero => intro u h; omega
  | succ n ih =>
    intro u _ hu
    by_cases hs : u < 16
    · rw [hexD_small hs]
      refine ⟨by simp, by simp, ?_⟩
      rw [padN, Nat.div_eq_of_lt hs, padN_zero, Nat.mod_eq_of_lt hs]
      simp
    · have hn : 1 ≤ n := by
        rcases n with _ | n
        · simp at hu; omega
        · omega
      have hd : u / 16 < 16 ^ n := by
        rw [Nat.pow_succ] at hu
        exact Nat.div_lt_of_lt_mul (by rw [Nat.mul_comm]; exact hu)
      obtain ⟨h1, h2, h3⟩ := ih (u / 16) hn hd
      rw [hexD_big hs]
      refine ⟨by simp, by simp; omega, ?_⟩
      rw [padN, ← h3, List.length_append, List.length_singleton, ← List.append_assoc]
      congr 3
      omega
theorem repeat_48 (n : Nat) : Lib.repeatL [48] n = List.replicate n 48 := by
  induction n with
  | zero => rfl
  | succ n ih => rw [Lib.repeatL, ih]; rfl
theorem dec_small {u : Nat} (h : u < 10) : Lib.decDigits u = [UInt8.ofNat (48 + u)] := by rw [Lib.decDigits, dif_pos h]
theorem dec_big {u : Nat} (h : ¬ u < 10) : Lib.decDigits u = Lib.decDigits (u / 10) ++ [UInt8.ofNat (48 + u % 10)] := by rw [Lib.decDigits, dif_neg h]
theorem dec_length : ∀ n u, 1 ≤ n → u < 10 ^ n → 1 ≤ (Lib.decDigits u).length ∧ (Lib.decDigits u).length ≤ n := by
  intro n
  induction n with
  | zero => intro u h; omega
  | succ n ih =>
    intro u _ hu
    by_cases hs : u < 10
    · rw [dec_small hs]; simp
    · have hn : 1 ≤ n := by
        rcases n with _ | n
        · simp at hu; omega
        · omega
      have hd : u / 10 < 10 ^ n := by
        rw [Nat.pow_succ] at hu
        exact Nat.div_lt_of_lt_mul (by rw [Nat.mul_comm]; exact hu)
      have := ih (u / 10) hn hd
      rw [dec_big hs]
      simp; omega
/-- The short name of a hash and a number. -/
def nameOk (n : Int) : Bool := decide (1 ≤ n) && decide (n ≤ 1000000)
def nameL (h : Nat) (n : Int) : List UInt8 := if nameOk n = true then [37, 126] ++ padN 8 h ++ [45] ++ Lib.decDigits n.toNat else []
theorem nameL_ok {h : Nat} {n : Int} (h1 : 1 ≤ n) (h2 : n ≤ 1000000) : nameL h n = [37, 126] ++ padN 8 h ++ [45] ++ Lib.decDigits n.toNat := by
  unfold nameL nameOk
  rw [if_pos (by rw [decide_eq_true h1, decide_eq_true h2]; rfl)]
theorem nameL_no {h : Nat} {n : Int} (hn : n < 1 ∨ 1000000 < n) : nameL h n = [] := by
  unfold nameL nameOk
  rw [if_neg]
  rcases hn with hn | hn
  · rw [decide_eq_false (by omega)]; simp
  · rw [decide_eq_false (by omega : ¬ n ≤ 1000000)]; simp
theorem nameL_size {h : Nat} {n : Int} (hn : 1 ≤ n) (hn2 : n ≤ 1000000) : 12 ≤ (nameL h n).length ∧ (nameL h n).length ≤ 18 := by
  rw [nameL_ok hn hn2]
  have := dec_length 7 n.toNat (by decide) (by omega)
  simp [padN_length]
  omega
theorem nameL_le (h : Nat) (n : Int) : (nameL h n).length ≤ 18 := by
  by_cases hn : 1 ≤ n ∧ n ≤ 1000000
  · exact (nameL_size hn.1 hn.2).2
  · rw [nameL_no (by omega)]; simp
end Go.Proofs.YtfioknaadbgjlaaGreatDoor.F
namespace Go.Proofs.YtfioknaadbgjlaaGreatDoor.F
open Go.RowKit Go.Sort
theorem lt_cell {w : World} {b c : Nat} {v : Value} (h : w.cell? ⟨b, c, none⟩ = some v) : b < w.heap.size := by
  apply Decidable.byContradiction
  intro hn
  unfold World.cell? at h
  rw [Array.getElem?_eq_none (by show w.heap.size ≤ b; omega)] at h
  simp at h
/-- What the zeros of 16 are read from. -/
def Zeros (w : World) : Prop := w.cell? ⟨5, 15, none⟩ = some (.int .u8 4)
set_option maxHeartbeats 1000000 in
set_option maxRecDepth 100000 in
theorem tz64_c (w : World) (hz : Zeros w) : Calls Tryz.prog 207 #[.int .u64 16] w fun e w' => e = .returned (.int .i64 4) ∧ w = w' := by
  unfold Zeros at hz
  have e1 : IntKind.u64.wrap (bits BinOp.and IntKind.u64 16 (IntKind.u64.wrap (-16)) * 285870213051353865) / 288230376151711744 = 15 := by decide +kernel
  go_enter Tryz.func207, Tryz.ntmps207
  go_wp2
  go_ret
  exact ⟨rfl, rfl⟩
set_option maxHeartbeats 1000000 in
set_option maxRecDepth 100000 in
theorem tz_c (w : World) (hz : Zeros w) : Calls Tryz.prog 181 #[.int .u64 16] w fun e w' => e = .returned (.int .i64 4) ∧ w = w' := by
  have c := tz64_c w hz
  go_enter Tryz.func181, Tryz.ntmps181
  go_wp2_with (go_at_call 207; refine c.mono ?_; rintro e w' ⟨rfl, rfl⟩)
  go_ret
  exact ⟨rfl, rfl⟩
theorem p2_c (w : World) : Calls Tryz.prog 180 #[.int .i64 16] w fun e w' => e = .returned (.bool true) ∧ w = w' := by
  go_enter Tryz.func180, Tryz.ntmps180
  go_wp2
  go_ret
  exact ⟨rfl, rfl⟩
end Go.Proofs.YtfioknaadbgjlaaGreatDoor.F
namespace Go.Proofs.YtfioknaadbgjlaaGreatDoor.F
open Go.RowKit Go.Sort
/-- The array of 65 bytes at g holds xs. -/
def Arr (g : Nat) (w : World) (xs : List UInt8) : Prop := w.heap[g]? = some (.cells (Lib.byteCells xs).toArray 231 (0, 0)) ∧ xs.length = 65
theorem Arr.start (w : World) : Arr w.heap.size (w.alloc (.cells Tryz.zeroCells231 231)) (List.replicate 65 0) := by
  refine ⟨?_, by simp⟩
  rw [heap_alloc_new]
  have : Tryz.zeroCells231 = (Lib.byteCells (List.replicate 65 (0 : UInt8))).toArray := by kernel_rfl
  rw [this]
theorem Arr.set {g i : Nat} {w : World} {xs : List UInt8} (c : UInt8) (h : Arr g w xs) : Arr g (w.setCell ⟨g, i, none⟩ (.int .u8 (c.toNat : Int))) (xs.set i c) := by
  refine ⟨?_, by rw [List.length_set]; exact h.2⟩
  rw [setCell_eq]
  simp [mapBlock, Array.getElem?_modify, h.1, onCells]
  unfold Lib.byteCells
  rw [List.map_set]
theorem Arr.cell {g i : Nat} {w : World} {xs : List UInt8} (h : Arr g w xs) (hi : i < 65) : w.cell? ⟨g, i, none⟩ = some (.int .u8 ((xs.getD i 0).toNat : Int)) ∧ w.frozen? ⟨g, i, none⟩ = false := by
  refine ⟨?_, Lib.frozen_of_heap h.1 i⟩
  rw [Lib.cell_of_heap h.1]
  have : i < xs.length := by rw [h.2]; exact hi
  simp [Lib.byteCells, List.getD_eq_getElem?_getD, List.getElem?_eq_getElem this]
theorem addB (g off j : Nat) : (⟨g, off, none⟩ : Addr).add j = ⟨g, off + j, none⟩ := by
  unfold Addr.add
  split
  · rename_i h; subst h; rfl
  · rfl
theorem Arr.text {g i n cap : Nat} {w : World} {xs : List UInt8} (h : Arr g w xs) (hn : i + n = 65) : (convert 110 9 (.slice (some ⟨g, i, none⟩) n cap)).run Tryz.prog w = .ok (.string ⟨(xs.drop i).toArray⟩) w := by
  have hl : (xs.drop i).length = n := by rw [List.length_drop, h.2]; omega
  subst hl
  refine run_convert_bytes_back (P := Tryz.prog) w 110 9 5 ⟨g, i, none⟩ cap (xs.drop i) Tryz.underlying110 Tryz.underlying5 Tryz.underlying9 (fun j hj => ?_)
  rw [List.length_drop, h.2] at hj
  rw [addB, (h.cell (i := i + j) (by omega)).1]
  have h1 : i + j < xs.length := by rw [h.2]; omega
  simp [List.getD_eq_getElem?_getD, List.getElem?_eq_getElem h1]
theorem slice65 (w : World) (g k : Nat) (hk : k < 65) : (Instr.sliceAt 231 (.pointer (some ⟨g, 0, none⟩)) (some (.int .i64 (k : Int))) none none).run Tryz.prog w = .ok (.slice (some ⟨g, k, none⟩) (65 - k) (65 - k)) w := by
  have hal : Tryz.prog.arrayLen 231 = 65 := by kernel_rfl
  rw [run_sliceAt_array_l w 231 ⟨g, 0, none⟩ (by kernel_rfl) .i64 (k : Int) (by omega) (by rw [hal]; omega)]
  have hsz : (sizeOf (Tryz.prog.elem 231)).run Tryz.prog w = .ok 1 w := by kernel_rfl
  rw [hsz, Result.andThen_ok, hal]
  have hk2 : ((k : Int)).toNat = k := by omega
  have hk3 : ¬ (65 = k) := by omega
  simp [slicedAt, hk2, hk3, addB]
theorem drop_set_one {xs : List UInt8} {i : Nat} (c : UInt8) (hi : i < xs.length) : (xs.set i c).drop i = c :: xs.drop (i + 1) := by
  rw [List.drop_eq_getElem_cons (by simpa using hi), List.getElem_set_self, List.drop_set_of_lt (by omega)]
def digs : ByteArray := ⟨#[48, 49, 50, 51, 52, 53, 54, 55, 56, 57, 97, 98, 99, 100, 101, 102, 103, 104, 105, 106, 107, 108, 109, 110, 111, 112, 113, 114, 115, 116, 117, 118, 119, 120, 121, 122]⟩
theorem digs_at : ∀ m : Nat, m < 16 → Go.PlainAid.bt digs m = ((dgB m).toNat : Int) := by decide +kernel
theorem wraps_u64 (n : Int) (h₀ : 0 ≤ n) (h₁ : n < 2 ^ 63) : IntKind.u64.wrap n = n := by rw [IntKind.wrap_u64]; omega
theorem and15 {u : Nat} (hu : u < 4294967296) : bits .and .u64 (u : Int) 15 = ((u % 16 : Nat) : Int) := by
  have := bits_mask .u64 63 (by decide) wraps_u64 4 (by decide) (u : Int) (by omega) (by omega)
  rw [show ((2 : Int) ^ 4 - 1) = 15 from rfl, show ((2 : Int) ^ 4) = 16 from rfl] at this
  rw [this]; omega
set_option maxHeartbeats 4000000 in
set_option maxRecDepth 100000 in
theorem bits_c (u : Nat) (hu : u < 4294967296) (w : World) (hz : Zeros w) :
    Calls Tryz.prog 144 #[.slice none 0 0, .int .u64 u, .int .i64 16, .bool false, .bool false] w fun e w' => e = .returned (.tuple #[.slice none 0 0, .string ⟨(hexD u).toArray⟩]) ∧ Below w.heap.size w w' := by
  have cP := fun w => p2_c w
  have hz1 : Zeros (w.alloc (.cells Tryz.zeroCells231 231)) := by
    unfold Zeros at *
    rw [World.cell?_of_block (w := w) (Below.heap_alloc w _ _ (lt_cell hz))]
    exact hz
  have cT := tz_c _ hz1
  obtain ⟨g, hg⟩ : ∃ g, w.heap.size = g := ⟨_, rfl⟩
  have HG := Lib.hid hg
  have HA0 := Arr.start w
  rw [hg] at HA0
  have HA := Lib.hid HA0
  have HB0 : Hid (Below g w (w.alloc (.cells Tryz.zeroCells231 231))) := Lib.hid ((Below.refl g w).alloc (by omega) _)
  have HU : Hid ((hexD u).length ≤ 8) := Lib.hid (hexD_pad 8 u (by decide) (by omega)).2.1
  clear hz hz1 hg HA0
  go_enter Tryz.func144, Tryz.ntmps144
  go_wp2_with fail
  refine (cP _).mono ?_
  rintro e w1 ⟨rfl, rfl⟩
  go_wp2_with fail
  refine cT.mono ?_
  rintro e w1 ⟨rfl, rfl⟩
  clear cP cT
  go_wp2
  rw [HG.out]
  go_loopg [1, 13] u (fun gk uv iv wr => ∃ (i : Nat) (xs : List UInt8), (58 ≤ i ∧ i ≤ 65 ∧ gk < 4294967296) ∧ uv = .int .u64 gk ∧ iv = .int .i64 i ∧ Arr g wr xs ∧ hexD u = hexD gk ++ xs.drop i ∧ Below g w wr)
  case atStart => exact ⟨65, List.replicate 65 0, by omega, rfl, rfl, HA.out, by simp, HB0.out⟩
  case round =>
    obtain ⟨i, xs, ⟨hi1, hi2, hgk⟩, rfl, rfl, harr, hhex, hbel⟩ := hrel
    have HARR := Lib.hid harr
    have HHEX := Lib.hid hhex
    have HBEL := Lib.hid hbel
    have hdl := congrArg List.length hhex
    rw [List.length_append, List.length_drop, harr.2] at hdl
    have hk1 := (hexD_pad 8 gk (by decide) (by omega)).1
    have hu8 := HU.out
    have hi3 : 58 ≤ i := by omega
    have hi4 : 1 ≤ i := by omega
    obtain ⟨k, hk⟩ : ∃ k, i = k + 1 := ⟨i - 1, by omega⟩
    subst hk
    have HK58 : Hid (gk < 16 ∨ 59 ≤ k + 1) := Lib.hid (by
      by_cases h16 : gk < 16
      · exact Or.inl h16
      · right
        rw [hexD_big h16, List.length_append, List.length_singleton] at hdl
        have h2 := (hexD_pad 8 (gk / 16) (by decide) (by omega)).1
        omega)
    clear hdl hk1 hu8 hhex hbel hi3 hi4
    have kw : IntKind.i64.wrap (((k + 1 : Nat) : Int) - 1) = (k : Int) := by rw [IntKind.wrap_i64]; omega
    have kw2 : ((k + 1 : Nat) : Int) - 1 = (k : Int) := by omega
    have kw3 : (k : Int) + 1 - 1 = (k : Int) := by omega
    have k65 : (k : Int) < 65 := by omega
    obtain ⟨c0, f0⟩ := harr.cell (i := k) (by omega)
    have hB := Go.PlainAid.get_bt ⟨#[48, 49, 50, 51, 52, 53, 54, 55, 56, 57, 97, 98, 99, 100, 101, 102, 103, 104, 105, 106, 107, 108, 109, 110, 111, 112, 113, 114, 115, 116, 117, 118, 119, 120, 121, 122]⟩
    clear harr
    by_cases h16 : gk < 16
    · have hge : ¬ ((16 : Int) ≤ (gk : Int)) := by omega
      have hgz : (gk : Int) < 36 := by omega
      have hbm := digs_at gk h16
      unfold digs at hbm
      obtain ⟨d, hd⟩ : ∃ d, dgB gk = d := ⟨_, rfl⟩
      rw [hd] at hbm
      have HX : Hid (hexD u = (xs.set k d).drop k) := Lib.hid (by
        rw [drop_set_one d (by rw [HARR.out.2]; omega), HHEX.out, hexD_small h16, hd]; rfl)
      have HS : Hid (Arr g (wr.setCell ⟨g, k, none⟩ (.int .u8 (d.toNat : Int))) (xs.set k d)) := Lib.hid (HARR.out.set d)
      have HBS : Hid (Below g w (wr.setCell ⟨g, k, none⟩ (.int .u8 (d.toNat : Int)))) := Lib.hid (HBEL.out.setCell (p := ⟨g, k, none⟩) (Nat.le_refl _) _)
      have kc := HS.out.text (i := k) (n := 65 - k) (cap := 65 - k) (by omega)
      have ksl : (Instr.sliceAt 231 (.pointer (some ⟨g, 0, none⟩)) (some (.int .i64 (k : Int))) none none).run Tryz.prog (wr.setCell ⟨g, k, none⟩ (.int .u8 (d.toNat : Int))) = .ok (.slice (some ⟨g, k, none⟩) (65 - k) (65 - k)) (wr.setCell ⟨g, k, none⟩ (.int .u8 (d.toNat : Int))) := slice65 _ g k (by omega)
      clear hd h16 HK58
      go_wp2
      go_ret2
      exact ⟨by rw [HX.out]; rfl, by rw [HG.out]; exact HBS.out⟩
    · have hge : (16 : Int) ≤ (gk : Int) := by omega
      have hm := and15 hgk
      obtain ⟨m, hmm⟩ : ∃ m, gk % 16 = m := ⟨_, rfl⟩
      rw [hmm] at hm
      have hm16 : m < 16 := by omega
      have hmz : (m : Int) < 36 := by omega
      have hbm := digs_at m hm16
      unfold digs at hbm
      obtain ⟨d, hd⟩ : ∃ d, dgB m = d := ⟨_, rfl⟩
      rw [hd] at hbm
      have HQ : Hid ((gk : Int) / 16 = ((gk / 16 : Nat) : Int)) := Lib.hid (by omega)
      have HX : Hid (hexD u = hexD (gk / 16) ++ (xs.set k d).drop k) := Lib.hid (by
        rw [drop_set_one d (by rw [HARR.out.2]; omega), HHEX.out, hexD_big h16, hmm, hd]; simp)
      have HS : Hid (Arr g (wr.setCell ⟨g, k, none⟩ (.int .u8 (d.toNat : Int))) (xs.set k d)) := Lib.hid (HARR.out.set d)
      have HBS : Hid (Below g w (wr.setCell ⟨g, k, none⟩ (.int .u8 (d.toNat : Int)))) := Lib.hid (HBEL.out.setCell (p := ⟨g, k, none⟩) (Nat.le_refl _) _)
      have HK2 : Hid (58 ≤ k) := Lib.hid (by have := HK58.out; omega)
      clear hd hmm HK58
      go_wp2
      go_roundg (gk / 16)
      case measure => omega
      case rel => exact ⟨k, xs.set k d, ⟨HK2.out, by omega, by omega⟩, by first | rfl | rw [HQ.out], by first | rfl | go_num, HS.out, HX.out, HBS.out⟩
end Go.Proofs.YtfioknaadbgjlaaGreatDoor.F
namespace Go.Proofs.YtfioknaadbgjlaaGreatDoor.F
open Go.RowKit Go.Sort
set_option maxHeartbeats 1000000 in
theorem ifmt_c (u : Nat) (hu : u < 4294967296) (w : World) (hz : Zeros w) :
    Calls Tryz.prog 103 #[.int .u64 u, .int .i64 16] w fun e w' => e = .returned (.string ⟨(hexD u).toArray⟩) ∧ Below w.heap.size w w' := by
  have c := bits_c u hu w hz
  generalize (⟨(hexD u).toArray⟩ : ByteArray) = S at *
  clear hz
  go_enter Tryz.func103, Tryz.ntmps103
  go_wp2_with fail
  refine c.mono ?_
  rintro e w1 ⟨rfl, hb⟩
  have HB := Lib.hid hb
  clear c hb
  go_wp2
  go_ret
  exact ⟨rfl, HB.out⟩
set_option maxHeartbeats 1000000 in
theorem fmt_c (u : Nat) (hu : u < 4294967296) (w : World) (hz : Zeros w) :
    Calls Tryz.prog 58 #[.int .u64 u, .int .i64 16] w fun e w' => e = .returned (.string ⟨(hexD u).toArray⟩) ∧ Below w.heap.size w w' := by
  have c := ifmt_c u hu w hz
  generalize (⟨(hexD u).toArray⟩ : ByteArray) = S at *
  clear hz
  go_enter Tryz.func58, Tryz.ntmps58
  go_wp2_with fail
  refine c.mono ?_
  rintro e w1 ⟨rfl, hb⟩
  have HB := Lib.hid hb
  clear c hb
  go_wp2
  go_ret
  exact ⟨rfl, HB.out⟩
end Go.Proofs.YtfioknaadbgjlaaGreatDoor.F
namespace Go.Proofs.YtfioknaadbgjlaaGreatDoor.F
open Go.RowKit Go.Sort
theorem below_growS {w : World} (k : Nat) (os : Array Obj) : Below w.heap.size w (grow (w.drewN k) os) := by
  have hd : (w.drewN k).heap = w.heap := by
    induction k with
    | zero => rfl
    | succ k ih => exact ih
  have h1 : ∀ k : Nat, (w.drewN k).os = w.os ∧ (w.drewN k).tape = w.tape ∧ (w.drewN k).output = w.output := fun k => by
    induction k with
    | zero => exact ⟨rfl, rfl, rfl⟩
    | succ k ih => exact ih
  refine ⟨(h1 k).1, (h1 k).2.1, (h1 k).2.2, ?_, fun j hj => ?_⟩
  · show w.heap.size ≤ ((w.drewN k).heap ++ os).size
    rw [hd]; simp
  · show ((w.drewN k).heap ++ os)[j]? = _
    rw [hd, Array.getElem?_append_left hj]
/-- What Name reads of the library's tables. -/
def Base (w : World) : Prop := Zeros w ∧ Lib.TabIs Tryz.prog w "internal/strconv.uint64pow10" .u64 Lib.pow10Tab
theorem glob_pow : Tryz.prog.globalNamed "internal/strconv.uint64pow10" = some 0 := by kernel_rfl
theorem Base.step {w w' : World} (h : Base w) (hb : Below w.heap.size w w') : Base w' := by
  refine ⟨?_, ?_⟩
  · unfold Base Zeros at *
    rw [hb.cell (p := ⟨_, 15, none⟩) (lt_cell h.1)]
    exact h.1
  · have h2 := h.2
    have hlt := lt_cell (h2.cell glob_pow 0 (by decide))
    unfold Lib.TabIs World.var? at *
    rw [glob_pow] at *
    simp only [Option.bind_some] at *
    rw [hb.block _ hlt]
    exact h2
theorem name_bytes {a b c d e : ByteArray} {l : List UInt8} (h : a.data.toList ++ b.data.toList ++ c.data.toList ++ d.data.toList ++ e.data.toList = l) : a ++ b ++ c ++ d ++ e = ⟨l.toArray⟩ := by
  subst h
  apply ByteArray.ext
  apply Array.toList_inj.1
  simp
set_option maxHeartbeats 2000000 in
set_option maxRecDepth 100000 in
theorem name_c (h : Nat) (hh : h < 4294967296) (n : Int) (hn0 : -9223372036854775808 ≤ n) (hn1 : n ≤ 9223372036854775807) (w : World) (hB : Base w) :
    Calls Tryz.prog 31 #[.int .u32 h, .int .i64 n] w fun e w' => e = .returned (.string ⟨(nameL h n).toArray⟩) ∧ Below w.heap.size w w' := by
  by_cases h1 : n < 1
  · rw [nameL_no (Or.inl h1)]
    clear hB
    go_enter Tryz.func31, Tryz.ntmps31
    go_wp2
    go_ret
    exact ⟨rfl, Below.refl _ _⟩
  · by_cases h2 : 1000000 < n
    · rw [nameL_no (Or.inr h2)]
      clear hB
      go_enter Tryz.func31, Tryz.ntmps31
      go_wp2
      go_ret
      exact ⟨rfl, Below.refl _ _⟩
    · obtain ⟨hd1, hd2, hd3⟩ := hexD_pad 8 h (by decide) (by omega)
      have hdl := dec_length 7 n.toNat (by decide) (by omega)
      have cF := fmt_c h hh w hB.1
      have hS : (⟨(hexD h).toArray⟩ : ByteArray).size = (hexD h).length := by show (hexD h).toArray.size = _; simp
      have hSl : (⟨(hexD h).toArray⟩ : ByteArray).data.toList = hexD h := rfl
      obtain ⟨L, hL⟩ : ∃ L, (hexD h).length = L := ⟨_, rfl⟩
      rw [hL] at hd1 hd2 hd3 hS
      obtain ⟨c, hc⟩ : ∃ c, 8 - L = c := ⟨_, rfl⟩
      rw [hc] at hd3
      have HR : Hid (∀ w1, Calls Tryz.prog 59 #[.string ⟨#[48]⟩, .int .i64 c] w1 fun e w' => e = .returned (.string ⟨(List.replicate c 48).toArray⟩) ∧ Below w1.heap.size w1 w') := Lib.hid (fun w1 => by
        have := Tryz.strings_Repeat ⟨#[48]⟩ c w1 (by omega) (by show 1 * c ≤ _; omega)
        rw [show (⟨#[48]⟩ : ByteArray).data.toList = [48] from rfl, repeat_48] at this
        exact this)
      have HI : Hid (∀ w1, Base w1 → Calls Tryz.prog 60 #[.int .i64 n] w1 fun e w' => e = .returned (.string ⟨(Lib.decDigits n.toNat).toArray⟩) ∧ Below w1.heap.size w1 w') := Lib.hid (fun w1 hb1 => by
        refine (Tryz.strconv_Itoa n hn0 hn1 w1 hb1.2).mono ?_
        rintro e w' ⟨rfl, k, os, rfl⟩
        refine ⟨?_, below_growS k os⟩
        unfold Lib.itoa
        rw [if_neg (by omega)])
      have HX : Hid ((⟨#[37, 126]⟩ : ByteArray) ++ ⟨(List.replicate c 48).toArray⟩ ++ ⟨(hexD h).toArray⟩ ++ ⟨#[45]⟩ ++ ⟨(Lib.decDigits n.toNat).toArray⟩ = ⟨(nameL h n).toArray⟩) := Lib.hid (name_bytes (by
        rw [nameL_ok (by omega) (by omega), ← hd3]
        simp))
      have hZs : (⟨(List.replicate c (48 : UInt8)).toArray⟩ : ByteArray).size = c := by show (List.replicate c (48 : UInt8)).toArray.size = _; simp
      have hTs : (⟨(Lib.decDigits n.toNat).toArray⟩ : ByteArray).size ≤ 7 := by show (Lib.decDigits n.toNat).toArray.size ≤ _; simp; omega
      have HBB := Lib.hid hB
      have hcz : (8 : Int) - (L : Int) = (c : Int) := by omega
      have hc7 : c ≤ 7 := by omega
      have HC := Lib.hid hcz
      clear hdl hd3 hSl hL hc hB hcz
      generalize (⟨(hexD h).toArray⟩ : ByteArray) = S at *
      generalize (⟨(List.replicate c (48 : UInt8)).toArray⟩ : ByteArray) = Z at *
      generalize (⟨(Lib.decDigits n.toNat).toArray⟩ : ByteArray) = T at *
      generalize (⟨(nameL h n).toArray⟩ : ByteArray) = R at *
      go_enter Tryz.func31, Tryz.ntmps31
      go_wp2_with fail
      refine cF.mono ?_
      rintro e w1 ⟨rfl, hb1⟩
      have HB1 := Lib.hid hb1
      have HW1 := Lib.hid (HBB.out.step hb1)
      have cR := HR.out w1
      clear cF hb1
      go_wp2_with fail
      rw [HC.out]
      refine cR.mono ?_
      rintro e w2 ⟨rfl, hb2⟩
      have HB2 : Hid (Below w.heap.size w w2) := Lib.hid (HB1.out.trans (hb2.mono HB1.out.size))
      have cI := HI.out w2 (HW1.out.step hb2)
      clear cR hb2
      go_wp2_with fail
      refine cI.mono ?_
      rintro e w3 ⟨rfl, hb3⟩
      have HB3 : Hid (Below w.heap.size w w3) := Lib.hid (HB2.out.trans (hb3.mono HB2.out.size))
      clear cI hb3
      go_wp2
      go_ret
      exact ⟨by rw [← HX.out]; rfl, HB3.out⟩
end Go.Proofs.YtfioknaadbgjlaaGreatDoor.F
namespace Go.Proofs.YtfioknaadbgjlaaGreatDoor.F
open Go.RowKit
end Go.Proofs.YtfioknaadbgjlaaGreatDoor.F
namespace Go.Proofs.YtfioknaadbgjlaaGreatDoor.F
open Go.RowKit
end Go.Proofs.YtfioknaadbgjlaaGreatDoor.F
namespace Go.Proofs.YtfioknaadbgjlaaGreatDoor.F
open Go.RowKit Go.Sort
end Go.Proofs.YtfioknaadbgjlaaGreatDoor.F
namespace Go.Proofs.YtfioknaadbgjlaaGreatDoor.F
open Go.RowKit Go.Sort
end Go.Proofs.YtfioknaadbgjlaaGreatDoor.F
namespace Go.Proofs.YtfioknaadbgjlaaGreatDoor.F
end Go.Proofs.YtfioknaadbgjlaaGreatDoor.F
