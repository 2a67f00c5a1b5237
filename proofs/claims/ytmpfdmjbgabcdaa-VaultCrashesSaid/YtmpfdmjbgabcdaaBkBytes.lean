/-
  A text's bytes as a slice of its own (stage 7): made, changed, made a text again.
-/
import Derived.Test.YtmpfdmjbgabcdaaBkOpen
namespace Go.Proofs.Ytmpfdmjbgabcdaa
open Go.RowKit Go.Sort
set_option linter.unusedVariables false

/-- The block g begins with the bytes l. -/
def BytesAt (W : World) (g : Nat) (l : List UInt8) : Prop := (∃ C fr, W.heap[g]? = some (.cells C 5 fr)) ∧ ∀ j (hj : j < l.length), W.cell? ⟨g, j, none⟩ = some (.int .u8 (l[j].toNat : Int)) ∧ W.frozen? ⟨g, j, none⟩ = false
theorem BytesAt.lt {W : World} {g : Nat} {l : List UInt8} (h : BytesAt W g l) : g < W.heap.size := by
  obtain ⟨⟨C, fr, hb⟩, _⟩ := h
  exact lt_of_get hb
theorem BytesAt.same {W W' : World} {g : Nat} {l : List UInt8} (h : BytesAt W g l) (he : W'.heap[g]? = W.heap[g]?) : BytesAt W' g l := by
  obtain ⟨hb, hc⟩ := h
  refine ⟨by rw [he]; exact hb, fun j hj => ?_⟩
  have h1 : W'.cell? ⟨g, j, none⟩ = W.cell? ⟨g, j, none⟩ := by simp [World.cell?, he]
  have h2 : W'.frozen? ⟨g, j, none⟩ = W.frozen? ⟨g, j, none⟩ := by simp [World.frozen?, he]
  rw [h1, h2]
  exact hc j hj
theorem BytesAt.kept {W W' : World} {g : Nat} {l : List UInt8} (h : BytesAt W g l) (hb : Below W.heap.size W W') : BytesAt W' g l := h.same (hb.block g h.lt)
theorem BytesAt.off {W W' : World} {g : Nat} {l : List UInt8} {ex : List TypeId} (h : BytesAt W g l) (ho : Off ex W W') (hT : 5 ∉ ex) : BytesAt W' g l := by
  obtain ⟨C, fr, hb⟩ := h.1
  exact h.same ((ho _ hT g C fr hb).trans hb.symm)
theorem BytesAt.drew {W : World} {g : Nat} {l : List UInt8} (h : BytesAt W g l) : BytesAt W.drew g l := h
theorem BytesAt.set {W : World} {g i c : Nat} {l : List UInt8} (h : BytesAt W g l) (hi : i < l.length) (hc : c < 256) : BytesAt (W.setCell ⟨g, i, none⟩ (.int .u8 (c : Int))) g (l.set i (UInt8.ofNat c)) := by
  obtain ⟨C, fr, hb⟩ := h.1
  refine ⟨⟨C.setIfInBounds i (.int .u8 (c : Int)), fr, by simp [World.setCell, Array.getElem?_modify, hb]⟩, fun j hj => ?_⟩
  rw [List.length_set] at hj
  have hf : (W.setCell ⟨g, i, none⟩ (.int .u8 (c : Int))).frozen? ⟨g, j, none⟩ = W.frozen? ⟨g, j, none⟩ := World.frozen?_setCell _ _ _ _
  refine ⟨?_, hf.trans (h.2 j hj).2⟩
  by_cases e : i = j
  · subst e
    rw [World.cell?_setCell_same _ _ _ (h.2 i hj).1]
    simp [Nat.mod_eq_of_lt hc]
  · rw [World.cell?_setCell_other _ _ _ _ (fun h9 => e (by injection h9))]
    rw [(h.2 j hj).1, List.getElem_set_ne e]
theorem BytesAt.offSet {W : World} {g i : Nat} {l : List UInt8} (h : BytesAt W g l) (v : Value) : Off [5] W (W.setCell ⟨g, i, none⟩ v) := by
  obtain ⟨C, fr, hb⟩ := h.1
  exact (Off.refl _ _).setCell hb (by simp) _
theorem BytesAt.conv {W : World} {g cap n : Nat} {l : List UInt8} (h : BytesAt W g l) (hn : l.length = n) : (convert 86 9 (.slice (some ⟨g, 0, none⟩) n cap)).run Try.prog W = .ok (.string ⟨l.toArray⟩) W := by
  have h9 := run_convert_bytes_back (P := Try.prog) W 86 9 5 ⟨g, 0, none⟩ cap l Try.underlying86 Try.underlying5 Try.underlying9 (fun j hj => by
    rw [Addr.add_mid, Nat.zero_add]
    exact (h.2 j hj).1)
  rw [hn] at h9
  exact h9
theorem BytesAt.at {W : World} {g i : Nat} {l : List UInt8} (h : BytesAt W g l) (hi : i < l.length) : ∃ c : Nat, c < 256 ∧ W.cell? ⟨g, i, none⟩ = some (.int .u8 (c : Int)) ∧ W.frozen? ⟨g, i, none⟩ = false :=
  ⟨_, UInt8.toNat_lt _, (h.2 i hi).1, (h.2 i hi).2⟩
theorem str_bytes (W : World) (s : ByteArray) : ∃ cap W', (convert 9 86 (.string s)).run Try.prog W = .ok (.slice (some ⟨W.heap.size, 0, none⟩) s.size cap) W' ∧ BytesAt W' W.heap.size s.data.toList ∧ Below W.heap.size W W' := by
  refine ⟨_, _, run_bytes_of_string W 9 86 5 s Try.underlying9 Try.underlying86 Try.underlying5, ⟨⟨_, _, heap_alloc_new W.drew _⟩, fun j hj => ?_⟩, ?_⟩
  · have hj' : j < s.data.size := by simpa using hj
    have h1 := World.cell?_alloc_mark W.drew (bytesRow s (grownCap W s.size 0 5)) 5 ((bytesRow s (grownCap W s.size 0 5)).size, (bytesRow s (grownCap W s.size 0 5)).size + 1) j
    have h2 := World.frozen?_alloc_mark W.drew (bytesRow s (grownCap W s.size 0 5)) 5 (bytesRow s (grownCap W s.size 0 5)).size ((bytesRow s (grownCap W s.size 0 5)).size + 1) j
    have h3 := bytesRow_at s (grownCap W s.size 0 5) j hj'
    have hjr : j < (bytesRow s (grownCap W s.size 0 5)).size := (Array.getElem?_eq_some_iff.1 h3).1
    refine ⟨h1.trans (h3.trans (by simp)), h2.trans ?_⟩
    rw [decide_eq_false (by omega)]
    rfl
  · exact (Below.drew (Below.refl W.heap.size W)).alloc (Nat.le_refl _) _
/-- The bytes behind a change of one by 'xor'. -/
theorem xor_u8 (a b : Int) : ∃ c : Nat, c < 256 ∧ bits BinOp.xor IntKind.u8 a b = (c : Int) := by
  have h9 := Go.wf_bits BinOp.xor IntKind.u8 a b
  have h8 : 0 ≤ bits BinOp.xor IntKind.u8 a b ∧ bits BinOp.xor IntKind.u8 a b ≤ 255 := by simpa [Lit.wf, IntKind.min, IntKind.max, IntKind.signed, IntKind.bits] using h9
  exact ⟨(bits BinOp.xor IntKind.u8 a b).toNat, by omega, by omega⟩
/-! The epoch of a head that was written. -/
theorem hS0 (c d : Nat → UInt8) : (hpS c d 8).getD 0 0 = c (7 - 0) := by kernel_rfl
theorem hS1 (c d : Nat → UInt8) : (hpS c d 8).getD 1 0 = c (7 - 1) := by kernel_rfl
theorem hS2 (c d : Nat → UInt8) : (hpS c d 8).getD 2 0 = c (7 - 2) := by kernel_rfl
theorem hS3 (c d : Nat → UInt8) : (hpS c d 8).getD 3 0 = c (7 - 3) := by kernel_rfl
theorem hS4 (c d : Nat → UInt8) : (hpS c d 8).getD 4 0 = c (7 - 4) := by kernel_rfl
theorem hS5 (c d : Nat → UInt8) : (hpS c d 8).getD 5 0 = c (7 - 5) := by kernel_rfl
theorem hS6 (c d : Nat → UInt8) : (hpS c d 8).getD 6 0 = c (7 - 6) := by kernel_rfl
theorem hS7 (c d : Nat → UInt8) : (hpS c d 8).getD 7 0 = c (7 - 7) := by kernel_rfl
theorem headS_eight (c d : Nat → UInt8) : ∀ i, i < 8 → (hpS c d 8).getD i 0 = c (7 - i) := by
  intro i hi
  match i, hi with
  | 0, _ => exact hS0 c d
  | 1, _ => exact hS1 c d
  | 2, _ => exact hS2 c d
  | 3, _ => exact hS3 c d
  | 4, _ => exact hS4 c d
  | 5, _ => exact hS5 c d
  | 6, _ => exact hS6 c d
  | 7, _ => exact hS7 c d
theorem numP_head (N : Nat) (h : N < 18446744073709551616) : ∀ i, i ≤ 8 → numP (headP N 8) i = N / 256 ^ (8 - i)
  | 0, _ => by
    show 0 = N / 256 ^ 8
    rw [Nat.div_eq_of_lt (by simpa using h)]
  | i + 1, hi => by
    rw [numP, numP_head N h i (by omega), headP_S, headS_eight _ _ i (by omega)]
    have h1 : N / 256 ^ (8 - i) = N / 256 ^ (7 - i) / 256 := by
      rw [show 8 - i = (7 - i) + 1 by omega, Nat.pow_succ, Nat.div_div_eq_div_mul]
    rw [h1, show 8 - (i + 1) = 7 - i by omega]
    generalize N / 256 ^ (7 - i) = M
    rw [UInt8.toNat_ofNat']
    omega
theorem epoch_head (N : Nat) (h : N < 18446744073709551616) : epochI (headB N) = N := by
  by_cases h0 : N = 0
  · subst h0
    decide +kernel
  · have h1 : (headB N).data.toList = headP N 8 := by
      rw [headP_K]
      unfold headB
      rw [if_neg h0]
    have h2 : numP (headB N).data.toList 8 = N := by
      rw [h1, numP_head N h 8 (by omega)]
      simp
    unfold epochI
    rw [h2, if_pos rfl]
end Go.Proofs.Ytmpfdmjbgabcdaa
