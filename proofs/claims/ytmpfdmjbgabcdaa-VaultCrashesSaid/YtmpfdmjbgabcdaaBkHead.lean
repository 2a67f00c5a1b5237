/-
  A bank (stage 7): a head's bytes.
-/
import Derived.Test.YtmpfdmjbgabcdaaBkFramed
namespace Go.Proofs.Ytmpfdmjbgabcdaa
open Go.RowKit Go.Sort
set_option linter.unusedVariables false

/-- The head's bytes behind i rounds, the greatest byte first. -/
def headP (N : Nat) : Nat → List UInt8
  | 0 => List.replicate 64 0
  | i + 1 => ((headP N i).set i (UInt8.ofNat (N / 256 ^ (7 - i) % 256))).set (8 + i) (UInt8.ofNat (255 - N / 256 ^ (7 - i) % 256))
theorem headP_length (N : Nat) : ∀ k, (headP N k).length = 64
  | 0 => by simp [headP]
  | k + 1 => by rw [headP, List.length_set, List.length_set, headP_length N k]
def hpS (c d : Nat → UInt8) : Nat → List UInt8
  | 0 => List.replicate 64 0
  | i + 1 => ((hpS c d i).set i (c (7 - i))).set (8 + i) (d (7 - i))
def hkS (c d : Nat → UInt8) : Nat → List UInt8
  | 0 => List.replicate 64 0
  | k + 1 => ((hkS c d k).set (7 - k) (c k)).set (8 + (7 - k)) (d k)
theorem hpS_hkS (c d : Nat → UInt8) : hpS c d 8 = hkS c d 8 := by kernel_rfl
theorem headP_S (N : Nat) : ∀ i, headP N i = hpS (fun k => UInt8.ofNat (N / 256 ^ k % 256)) (fun k => UInt8.ofNat (255 - N / 256 ^ k % 256)) i
  | 0 => rfl
  | i + 1 => by rw [headP, hpS, headP_S N i]
theorem headK_S (N : Nat) : ∀ i, headK N i = hkS (fun k => UInt8.ofNat (N / 256 ^ k % 256)) (fun k => UInt8.ofNat (255 - N / 256 ^ k % 256)) i
  | 0 => rfl
  | i + 1 => by rw [headK, hkS, headK_S N i]
theorem headP_K (N : Nat) : headP N 8 = headK N 8 := by rw [headP_S, headK_S, hpS_hkS]
theorem set_arr {W : World} {g o c : Nat} {T : TypeId} {l : List UInt8} (ho : o < l.length) (hc : c < 256) (h : W.heap[g]? = some (.cells (bcells l).toArray T (0, 0))) : (W.setCell ⟨g, o, none⟩ (.int .u8 (c : Int))).heap[g]? = some (.cells (bcells (l.set o (UInt8.ofNat c))).toArray T (0, 0)) := by
  have hlen : (bcells l).length = l.length := by unfold bcells; rw [List.length_map]
  have h1 := heap_setCells_at g T [.int .u8 (c : Int)] o W _ h (by rw [hlen]; show o + 1 ≤ _; omega)
  refine h1.trans ?_
  congr 3
  unfold bcells
  rw [List.map_set, UInt8.toNat_ofNat', Nat.mod_eq_of_lt (by omega), List.set_eq_take_append_cons_drop, if_pos (by simpa using ho)]
  simp
theorem cell_arr {W : World} {g o : Nat} {T : TypeId} {l : List UInt8} (ho : o < l.length) (h : W.heap[g]? = some (.cells (bcells l).toArray T (0, 0))) : ∃ v, W.cell? ⟨g, o, none⟩ = some (.int .u8 v) := by
  rw [cell_of_row _ _ _ _ _ _ h]
  exact ⟨((l[o]'ho).toNat : Int), by unfold bcells; simp [ho]⟩
theorem pow_256 (k : Nat) : (2 : Nat) ^ (8 * k) = 256 ^ k := by rw [Nat.pow_mul]
set_option maxHeartbeats 4000000 in
set_option maxRecDepth 100000 in
theorem head_c (N : Nat) (w : World) (hN : N < 18446744073709551616) : Calls Try.prog 67 #[.int .u64 N] w fun e w' => e = .returned (.string (headB N)) ∧ Below w.heap.size w w' := by
  by_cases h0 : N = 0
  · subst h0
    have cN := noughts_c w
    rw [show headB 0 = zero64 from zero64_eq]
    generalize zero64 = Z at *
    go_enter Try.func67, Try.ntmps67
    go_wp2_with fail
    refine cN.mono ?_
    rintro e w1 ⟨rfl, hb1⟩
    have HB1 := Lib.hid hb1
    clear hb1 cN
    go_wp2
    go_ret
    exact ⟨rfl, HB1.out⟩
  · have hnz : ((N : Int) == 0) = false := by rw [beq_eq_false_iff_ne]; omega
    go_enter Try.func67, Try.ntmps67
    go_wp2
    have HC0 : Hid ((w.alloc (.cells (bcells (List.replicate 64 0)).toArray 78)).heap[w.heap.size]? = some (.cells (bcells (headP N 0)).toArray 78 (0, 0))) := Lib.hid (heap_alloc_new _ _)
    go_loopw [8] (fun iv wr => ∃ i : Nat, i ≤ 8 ∧ iv = .int .i64 (i : Int) ∧ wr.heap[w.heap.size]? = some (.cells (bcells (headP N i)).toArray 78 (0, 0)) ∧ Below w.heap.size w wr) (fun iv _ => 8 - (intOf iv).toNat)
    case atStart => exact ⟨0, by omega, rfl, HC0.out, (Below.refl _ _).alloc (Nat.le_refl _) _⟩
    case round =>
      obtain ⟨i, hi, rfl, hrow, hb⟩ := hrel
      have HR := Lib.hid hrow
      have HB := Lib.hid hb
      clear hrow hb
      by_cases hi8 : i < 8
      · have hi8z : (i : Int) < 8 := by omega
        obtain ⟨C, hC⟩ : ∃ C, N / 256 ^ (7 - i) % 256 = C := ⟨_, rfl⟩
        have hC1 : (N : Int) / 2 ^ (8 * (7 - i)) % 256 = (C : Int) := by
          rw [← hC, ← pow_256]
          norm_cast
        have hCl : C < 256 := by rw [← hC]; exact Nat.mod_lt _ (by decide)
        obtain ⟨D, hD⟩ : ∃ D : Nat, 255 - C = D := ⟨_, rfl⟩
        have hD1 : (255 : Int) - (C : Int) = (D : Int) := by omega
        have hDl : D < 256 := by omega
        have hDw : IntKind.u8.wrap ((255 : Int) - (C : Int)) = (D : Int) := by rw [IntKind.wrap_u8]; omega
        have HC := Lib.hid hC
        have HD := Lib.hid hD
        clear hC hD
        have h8i : IntKind.i64.wrap ((8 : Int) + (i : Int)) = 8 + (i : Int) := by rw [IntKind.wrap_i64]; omega
        have h8l : (8 : Int) + (i : Int) < 64 := by omega
        have hi64 : (i : Int) < 64 := by omega
        obtain ⟨v0, c0⟩ := cell_arr (o := i) (by rw [headP_length]; omega) HR.out
        have f0 : wr.frozen? ⟨w.heap.size, i, none⟩ = false := frozen_of_row wr _ i _ _ HR.out
        have HR1 : Hid ((wr.setCell ⟨w.heap.size, i, none⟩ (.int .u8 (C : Int))).heap[w.heap.size]? = some (.cells (bcells ((headP N i).set i (UInt8.ofNat C))).toArray 78 (0, 0))) := Lib.hid (set_arr (by rw [headP_length]; omega) hCl HR.out)
        obtain ⟨v1, c1⟩ := cell_arr (o := 8 + i) (by rw [List.length_set, headP_length]; omega) HR1.out
        have f1 : (wr.setCell ⟨w.heap.size, i, none⟩ (.int .u8 (C : Int))).frozen? ⟨w.heap.size, 8 + i, none⟩ = false := frozen_of_row _ _ _ _ _ HR1.out
        have HR2 : Hid (((wr.setCell ⟨w.heap.size, i, none⟩ (.int .u8 (C : Int))).setCell ⟨w.heap.size, 8 + i, none⟩ (.int .u8 (D : Int))).heap[w.heap.size]? = some (.cells (bcells (headP N (i + 1))).toArray 78 (0, 0))) := Lib.hid (by
          have h1 := set_arr (o := 8 + i) (c := D) (by rw [List.length_set, headP_length]; omega) hDl HR1.out
          rw [h1, headP, HC.out, HD.out])
        have HB2 : Hid (Below w.heap.size w ((wr.setCell ⟨w.heap.size, i, none⟩ (.int .u8 (C : Int))).setCell ⟨w.heap.size, 8 + i, none⟩ (.int .u8 (D : Int)))) := Lib.hid ((HB.out.setCell (p := ⟨w.heap.size, i, none⟩) (Nat.le_refl _) _).setCell (p := ⟨w.heap.size, 8 + i, none⟩) (Nat.le_refl _) _)
        go_wp2
        go_roundw
        case rel => exact ⟨i + 1, by omega, by first | rfl | go_num, HR2.out, HB2.out⟩
        case measure => simp [intOf]; omega
      · have hi8z : ¬ ((i : Int) < 8) := by omega
        have hie : i = 8 := by omega
        subst hie
        have hcv := conv_arr (headP_length N 8) HR.out
        have HHB : Hid ((⟨(headP N 8).toArray⟩ : ByteArray) = headB N) := Lib.hid (by rw [headP_K]; unfold headB; rw [if_neg h0])
        go_wp2
        go_ret
        exact ⟨by rw [← HHB.out]; rfl, HB.out⟩
end Go.Proofs.Ytmpfdmjbgabcdaa
