/-
  An argument that is a slice of bytes.
-/
import Derived.Test.YtfmjhamnpgcdcaaDoorZCardKit2
import Derived.Test.YtfmjhamnpgcdcaaDoorZEsLawE
import Derived.ChangeSlices
import Derived.Carry
namespace Go.Proofs.YtfmjhamnpgcdcaaDoor
open Go.ChangeShapes Go.WideShapes Go.ChangeAt Go.RowKit Go.Lib
set_option linter.unusedVariables false

theorem laidOut : laidOutB Tryd.prog = true := by kernel_rfl
theorem cells_u8b : Tryd.prog.cellsOf 5 = 1 := by kernel_rfl
theorem byte_back {z : Int} (h0 : 0 ≤ z) (h1 : z ≤ 255) : (((UInt8.ofNat z.toNat).toNat : Nat) : Int) = z := by
  have h : (UInt8.ofNat z.toNat).toNat = z.toNat % 256 := by simp
  rw [h]
  omega
set_option maxRecDepth 100000 in
theorem arg_bytes {H : Type} {enc : TypeId × Value → H} {W : World} {base : Nat} {v : Value} {d : DataW H} {p : List MemPlace} (hval : Value.okWide Tryd.prog W .any base 22 v)
    (h : DataW.Trod enc Tryd.prog W 0 (fun _ => true) true 22 v d p) (hlt : ∀ x ∈ p, x.block < W.heap.size) :
    ∃ l, BytesC W v l ∧ l.length ≤ 9223372036854775807 ∧ True := by
  obtain ⟨a0, len, cap, rfl⟩ := okWide_slice Tryd.underlying22 hval
  obtain ⟨fuel, hf⟩ := h
  rcases open_ints Tryd.underlying22 Tryd.underlying5 cells_u8b hf with ⟨hcs, hx⟩ | ⟨a, len', cap', zs, hcs, _, hl, hm, hz, hx, hcell, hwz⟩
  · simp [Value.cells] at hcs
    obtain ⟨rfl, rfl, rfl⟩ := hcs
    exact ⟨[], Or.inl ⟨rfl, _, _, rfl⟩, by simp, trivial⟩
  · simp [Value.cells] at hcs
    obtain ⟨rfl, rfl, rfl⟩ := hcs
    simp only [Prod.mk.injEq] at hx
    obtain ⟨rfl, rfl⟩ := hx
    simp only [if_true] at hz
    obtain ⟨l, hl0⟩ : ∃ l : List UInt8, l = (zs.take len).map fun z => UInt8.ofNat z.toNat := ⟨_, rfl⟩
    have hlen : l.length = len := by rw [hl0, List.length_map, List.length_take]; omega
    refine ⟨l, ?_, by rw [hlen]; unfold maxLen at hm; omega, trivial⟩
    by_cases hz0 : len = 0
    · subst hz0
      exact Or.inl ⟨List.eq_nil_of_length_eq_zero hlen, _, _, rfl⟩
    · obtain ⟨b, off, spot⟩ := a
      have hspot : spot = none := by simpa [Addr.add] using World.cell?_spot (hcell 0 (by omega))
      subst hspot
      have hbW : b < W.heap.size := hlt (.cell b off) (MemPlace.mem_row.2 ⟨0, by omega, by simp⟩)
      refine Or.inr ⟨b, off, cap, by rw [hlen], hbW, fun j hj => ?_⟩
      rw [hlen] at hj
      have hjz : j < zs.length := by omega
      have hw := hwz zs[j] (List.getElem_mem hjz)
      have hw2 : 0 ≤ zs[j] ∧ zs[j] ≤ 255 := by simpa [Lit.wf, IntKind.min, IntKind.max, IntKind.signed, IntKind.bits] using hw
      have hg : l.getD j 0 = UInt8.ofNat zs[j].toNat := by
        rw [hl0]
        simp [List.getD_eq_getElem?_getD, hj, List.getElem?_eq_getElem hjz]
      have hc := hcell j (by omega)
      rw [addr_add] at hc
      rw [hc, hg, byte_back hw2.1 hw2.2]
      simp [List.getD_eq_getElem?_getD, List.getElem?_eq_getElem hjz]
end Go.Proofs.YtfmjhamnpgcdcaaDoor
