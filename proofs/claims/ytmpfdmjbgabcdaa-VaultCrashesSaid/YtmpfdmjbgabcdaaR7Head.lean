/-
  The seventh reference's Head: an epoch's.
-/
import Derived.Test.YtmpfdmjbgabcdaaR7Cut
namespace Go.Proofs.Ytmpfdmjbgabcdaa
open Go.RowKit Go.Sort
set_option linter.unusedVariables false

/-- The head's bytes behind k rounds. -/
def headK (N : Nat) : Nat → List UInt8
  | 0 => List.replicate 64 0
  | k + 1 => ((headK N k).set (7 - k) (UInt8.ofNat (N / 256 ^ k % 256))).set (8 + (7 - k)) (UInt8.ofNat (255 - N / 256 ^ k % 256))
theorem headK_length (N : Nat) : ∀ k, (headK N k).length = 64
  | 0 => by simp [headK]
  | k + 1 => by rw [headK, List.length_set, List.length_set, headK_length N k]
def u8s (l : List UInt8) : Array Value := (l.map fun b => Value.int .u8 (b.toNat : Int)).toArray
theorem set_u8s {W : World} {g o c : Nat} {l : List UInt8} (ho : o < l.length) (hc : c < 256) (h : W.heap[g]? = some (.cells (u8s l) 5 (0, 0))) : (W.setCell ⟨g, o, none⟩ (.int .u8 (c : Int))).heap[g]? = some (.cells (u8s (l.set o (UInt8.ofNat c))) 5 (0, 0)) := by
  have h1 := heap_setCells_at g 5 [.int .u8 (c : Int)] o W _ h (by rw [List.length_map]; show o + 1 ≤ _; omega)
  refine h1.trans ?_
  congr 2
  unfold u8s
  congr 1
  rw [List.map_set, UInt8.toNat_ofNat', Nat.mod_eq_of_lt (by omega), List.set_eq_take_append_cons_drop, if_pos (by simpa using ho)]
  simp
theorem cell_u8s {W : World} {g o : Nat} {l : List UInt8} (ho : o < l.length) (h : W.heap[g]? = some (.cells (u8s l) 5 (0, 0))) : ∃ v, W.cell? ⟨g, o, none⟩ = some (.int .u8 v) := by
  rw [cell_of_row _ _ _ _ _ _ h]
  exact ⟨((l[o]'ho).toNat : Int), by unfold u8s; simp [ho]⟩
def headB (N : Nat) : ByteArray := ⟨(if N = 0 then List.replicate 64 0 else headK N 8).toArray⟩
theorem conv_u8s {W : World} {g : Nat} {l : List UInt8} (hl : l.length = 64) (h : W.heap[g]? = some (.cells (u8s l) 5 (0, 0))) : (convert 86 9 (.slice (some ⟨g, 0, none⟩) 64 64)).run Try.prog W = .ok (.string ⟨l.toArray⟩) W := by
  have h9 := run_convert_bytes_back (P := Try.prog) W 86 9 5 ⟨g, 0, none⟩ 64 l Try.underlying86 Try.underlying5 Try.underlying9 (fun j hj => by
    rw [Addr.add_mid, Nat.zero_add, cell_of_row _ _ _ _ _ _ h]
    unfold u8s
    simp [hj])
  rw [hl] at h9
  exact h9
theorem zb_u8s : zb64 = u8s (List.replicate 64 0) := by
  unfold zb64 u8s
  rw [List.map_replicate]
  rfl
set_option maxHeartbeats 8000000 in
set_option maxRecDepth 100000 in
theorem head7_c (N : Nat) (w : World) (hN : N < 18446744073709551616) : Calls Try.prog 27 #[.int .u64 N] w fun e w' => e = .returned (.string (headB N)) ∧ Below w.heap.size w w' := by
  have hm64 := made64
  have HB0 : Hid (Below w.heap.size w (w.alloc (.cells zb64 5))) := Lib.hid ((Below.refl _ _).alloc (Nat.le_refl _) _)
  have HC0 : Hid ((w.alloc (.cells zb64 5)).heap[w.heap.size]? = some (.cells (u8s (List.replicate 64 0)) 5 (0, 0))) := Lib.hid (by rw [← zb_u8s]; exact heap_alloc_new _ _)
  by_cases h0 : N = 0
  · subst h0
    have hcv := conv_u8s (by simp) HC0.out
    go_enter Try.func27, Try.ntmps27
    go_wp2
    go_ret
    exact ⟨rfl, HB0.out⟩
  · have hnz : ((N : Int) == 0) = false := by rw [beq_eq_false_iff_ne]; omega
    have hnz2 : ¬ ((N : Int) = 0) := by omega
    go_enter Try.func27, Try.ntmps27
    go_wp2
    have HS0 : Hid (w.heap.size ≤ w.heap.size) := Lib.hid (Nat.le_refl _)
    obtain ⟨gb, hgb⟩ : ∃ gb, w.heap.size = gb := ⟨_, rfl⟩
    have HGB := Lib.hid hgb
    have HC1 : Hid ((w.alloc (.cells zb64 5)).heap[gb]? = some (.cells (u8s (headK N 0)) 5 (0, 0))) := Lib.hid (by rw [← hgb]; exact HC0.out)
    rw [hgb]
    clear hgb
    go_loopw [4, 0] (fun iv nv wr => ∃ k : Nat, k ≤ 8 ∧ iv = .int .i64 (7 - (k : Int)) ∧ nv = .int .u64 ((N / 256 ^ k : Nat) : Int) ∧ wr.heap[gb]? = some (.cells (u8s (headK N k)) 5 (0, 0)) ∧ Below w.heap.size w wr) (fun iv _ _ => (intOf iv + 1).toNat)
    case atStart => exact ⟨0, by omega, rfl, by rw [Nat.pow_zero, Nat.div_one], HC1.out, HB0.out⟩
    case round =>
      obtain ⟨k, hk, rfl, rfl, hrow, hb⟩ := hrel
      have HR := Lib.hid hrow
      have HB := Lib.hid hb
      clear hrow hb
      by_cases hk8 : k < 8
      · obtain ⟨j, hj⟩ : ∃ j : Nat, j = 7 - k := ⟨_, rfl⟩
        have hjk : 7 - (k : Int) = (j : Int) := by omega
        rw [hjk]
        have hj0 : (0 : Int) ≤ (j : Int) := by omega
        have hj7 : j ≤ 7 := by omega
        have hj64 : (j : Int) < 64 := by omega
        have hj8 : (8 : Int) + (j : Int) < 64 := by omega
        have hjw : IntKind.i64.wrap ((8 : Int) + (j : Int)) = 8 + (j : Int) := by rw [IntKind.wrap_i64]; omega
        have hjm : IntKind.i64.wrap ((j : Int) - 1) = (j : Int) - 1 := by rw [IntKind.wrap_i64]; omega
        obtain ⟨M, hM⟩ : ∃ M, N / 256 ^ k = M := ⟨_, rfl⟩
        have HMN : Hid (N / 256 ^ (k + 1) = M / 256) := Lib.hid (by rw [← hM, Nat.pow_succ, Nat.div_div_eq_div_mul])
        have HM := Lib.hid hM
        rw [hM]
        clear hM
        obtain ⟨B, hB⟩ : ∃ B, M % 256 = B := ⟨_, rfl⟩
        have hB1 : (M : Int) % 256 = (B : Int) := by omega
        have hB2 : (M : Int).tmod 256 = (B : Int) := by rw [Int.tmod_eq_emod_of_nonneg (by omega)]; exact hB1
        have hBl : B < 256 := by omega
        have HBB := Lib.hid hB
        obtain ⟨Q, hQ⟩ : ∃ Q, M / 256 = Q := ⟨_, rfl⟩
        have hQ1 : (M : Int) / 256 = (Q : Int) := by omega
        have hQ2 : (M : Int).tdiv 256 = (Q : Int) := by rw [Int.tdiv_eq_ediv_of_nonneg (by omega)]; exact hQ1
        have HQ := Lib.hid hQ
        clear hB hQ
        obtain ⟨D, hD⟩ : ∃ D : Nat, 255 - B = D := ⟨_, rfl⟩
        have hD1 : (255 : Int) - (B : Int) = (D : Int) := by omega
        have hDl : D < 256 := by omega
        have HD := Lib.hid hD
        have hBw : IntKind.u8.wrap (B : Int) = B := by rw [IntKind.wrap_u8]; omega
        have hDw : IntKind.u8.wrap (D : Int) = D := by rw [IntKind.wrap_u8]; omega
        clear hD
        have HR1 : Hid ((wr.setCell ⟨gb, j, none⟩ (.int .u8 (B : Int))).heap[gb]? = some (.cells (u8s ((headK N k).set j (UInt8.ofNat B))) 5 (0, 0))) := Lib.hid (set_u8s (by rw [headK_length]; omega) hBl HR.out)
        have HR2 : Hid (((wr.setCell ⟨gb, j, none⟩ (.int .u8 (B : Int))).setCell ⟨gb, 8 + j, none⟩ (.int .u8 (D : Int))).heap[gb]? = some (.cells (u8s (headK N (k + 1))) 5 (0, 0))) := Lib.hid (by
          have h1 := set_u8s (o := 8 + j) (c := D) (by rw [List.length_set, headK_length]; omega) hDl HR1.out
          rw [h1, headK, HM.out, HBB.out, HD.out, ← hj])
        have HB1 : Hid (Below w.heap.size w ((wr.setCell ⟨gb, j, none⟩ (.int .u8 (B : Int))).setCell ⟨gb, 8 + j, none⟩ (.int .u8 (D : Int)))) := Lib.hid ((HB.out.setCell (p := ⟨gb, j, none⟩) (Nat.le_of_eq HGB.out) _).setCell (p := ⟨gb, 8 + j, none⟩) (Nat.le_of_eq HGB.out) _)
        have HJ := Lib.hid hj
        clear hj
        obtain ⟨v0, c0⟩ := cell_u8s (o := j) (by rw [headK_length]; omega) HR.out
        have f0 : wr.frozen? ⟨gb, j, none⟩ = false := frozen_of_row wr gb j _ _ HR.out
        obtain ⟨v1, c1⟩ := cell_u8s (o := 8 + j) (by rw [List.length_set, headK_length]; omega) HR1.out
        have f1 : (wr.setCell ⟨gb, j, none⟩ (.int .u8 (B : Int))).frozen? ⟨gb, 8 + j, none⟩ = false := frozen_of_row _ gb _ _ _ HR1.out
        go_wp2
        go_roundw
        case rel =>
          refine ⟨k + 1, by omega, ?_, ?_, HR2.out, HB1.out⟩
          · congr 1
            have := HJ.out
            omega
          · congr 1
            have h1 := HMN.out
            rw [HQ.out] at h1
            rw [h1, IntKind.wrap_u64]
            have h2 : Q ≤ N := by rw [← h1]; exact Nat.div_le_self _ _
            omega
        case measure => simp [intOf]
      · have hk8' : k = 8 := by omega
        subst hk8'
        have hcv := conv_u8s (headK_length N 8) HR.out
        have HHB : Hid ((⟨(headK N 8).toArray⟩ : ByteArray) = headB N) := Lib.hid (by unfold headB; rw [if_neg h0])
        go_wp2
        go_ret
        exact ⟨by rw [← HHB.out]; rfl, HB.out⟩
end Go.Proofs.Ytmpfdmjbgabcdaa
