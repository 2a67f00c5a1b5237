/-
  The seventh reference's Cut: a record's frames.
-/
import Derived.Test.YtmpfdmjbgabcdaaSeKit
import Derived.Test.YtmpfdmjbgabcdaaBankMath
import Derived.Lib.LazyBuf
import Derived.OwnWalk
import Derived.Deep.CutRange
import Derived.PlainAid
namespace Go.Proofs.Ytmpfdmjbgabcdaa
open Go.RowKit Go.Sort
set_option linter.unusedVariables false

def zb64 : Array Value := (List.replicate 64 (Value.int .u8 0)).toArray
theorem Try.infoByte7 : (Try.prog.info? 5).map (fun i => (i.zero, i.size, i.bytes)) = some (some (.int .u8 0), 1, 1) := by kernel_rfl
theorem Try.infoStr7 : (Try.prog.info? 9).map (fun i => (i.zero, i.size, i.bytes)) = some (some (.string ⟨#[]⟩), 1, 16) := by kernel_rfl
set_option maxRecDepth 100000 in
theorem made64 (W : World) : (Instr.makeSlice 86 (.int .i64 64) (.int .i64 64)).run Try.prog W = .ok (.slice (some ⟨W.heap.size, 0, none⟩) 64 64) (W.alloc (.cells zb64 5)) := by
  obtain ⟨i0, hi0, hz0, hz1, hz2⟩ := info_parts Try.infoByte7
  have := run_make (P := Try.prog) W 86 5 i0 (.int .u8 0) Try.underlying86 hi0 hz0 .i64 .i64 64 64 (by omega) (by omega) (by rw [hz2]; decide) (by omega)
  rw [hz1, show (64 : Int).toNat = 64 from rfl] at this
  rw [this]
  congr 3
  unfold madeCells zb64
  apply Array.ext'
  simp [Value.cells]
  rfl
theorem sizeByte7 (W : World) : (Go.sizeOf 5).run Try.prog W = .ok 1 W := by
  obtain ⟨i0, hi0, hz0, hz1, hz2⟩ := info_parts Try.infoByte7
  simp [sizeOf, typeInfo, hi0, hz1]
/-- Frames as texts. -/
def frV (l : List (List UInt8)) : List Value := l.map fun f => Value.string ⟨f.toArray⟩
/-- The cells of a frame. -/
theorem frame_cells (r : List UInt8) : (frameB r).map (fun b => Value.int .u8 (b.toNat : Int)) = [Value.int .u8 ((UInt8.ofNat (r.length / 256)).toNat : Int), Value.int .u8 ((UInt8.ofNat (r.length % 256)).toNat : Int)] ++ (r.take 62).map (fun b => Value.int .u8 (b.toNat : Int)) ++ List.replicate (62 - (r.take 62).length) (Value.int .u8 0) := by
  simp [frameB]
def CutPost (s : ByteArray) (w : World) (e : Ending) (w' : World) : Prop := ∃ v, e = .returned v ∧ w'.ownsRow w.heap.size 9 1 v (cutB s.data.toList).length (frV (cutB s.data.toList)) ∧ Below w.heap.size w w'
set_option maxHeartbeats 8000000 in
set_option maxRecDepth 100000 in
theorem cut7_c (s : ByteArray) (w : World) (hs : s.size ≤ 65000) : Calls Try.prog 19 #[.string s] w (CutPost s w) := by
  unfold CutPost
  obtain ⟨n, hn⟩ : ∃ n, s.size = n := ⟨_, rfl⟩
  have HN := Lib.hid hn
  have hm64 := made64
  rw [hn] at hs
  obtain ⟨i0, hi0, hz0, hz1, hz2⟩ := info_parts Try.infoStr7
  go_enter Try.func19, Try.ntmps19
  go_wp2
  go_loopw [4, 3] (fun iv ov wr => ∃ (P : Nat) (out : List (List UInt8)), P ≤ n + 61 ∧ iv = .int .i64 P ∧ out ++ cutB (s.data.toList.drop P) = cutB s.data.toList ∧ (∃ o, o = ov ∧ wr.ownsRow w.heap.size 9 1 o out.length (frV out)) ∧ Below w.heap.size w wr) (fun iv _ _ => n + 62 - (intOf iv).toNat)
  case atStart => exact ⟨0, [], by omega, rfl, by simp, ⟨_, rfl, rfl, Or.inl ⟨rfl, rfl⟩⟩, Below.refl _ _⟩
  case round =>
    obtain ⟨P, out, hP, rfl, hc, ⟨ov, rfl, hown⟩, hb⟩ := hrel
    have HC := Lib.hid hc
    have HO := Lib.hid hown
    have HB := Lib.hid hb
    clear hc hown hb
    by_cases hPn : P < n
    · have hPz : (P : Int) < (n : Int) := by omega
      obtain ⟨m, hm⟩ : ∃ m : Nat, n - P = m := ⟨_, rfl⟩
      have hsub : IntKind.i64.wrap ((n : Int) - (P : Int)) = (m : Int) := by rw [IntKind.wrap_i64]; omega
      have hA : (m : Int) / 256 = ((m / 256 : Nat) : Int) := by omega
      have hA2 : (m : Int).tdiv 256 = ((m / 256 : Nat) : Int) := by rw [Int.tdiv_eq_ediv_of_nonneg (by omega)]; exact hA
      have hB : (m : Int) % 256 = ((m % 256 : Nat) : Int) := by omega
      have hB2 : (m : Int).tmod 256 = ((m % 256 : Nat) : Int) := by rw [Int.tmod_eq_emod_of_nonneg (by omega)]; exact hB
      have hAl : m / 256 < 256 := by omega
      have hBl : m % 256 < 256 := by omega
      have HM := Lib.hid hm
      clear hm
      generalize hq1 : m / 256 = A at *
      generalize hq2 : m % 256 = C at *
      have HQ1 := Lib.hid hq1
      have HQ2 := Lib.hid hq2
      clear hq1 hq2
      have hAw : IntKind.u8.wrap (A : Int) = A := by rw [IntKind.wrap_u8]; omega
      have hBw : IntKind.u8.wrap (C : Int) = C := by rw [IntKind.wrap_u8]; omega
      have hAi : IntKind.i64.wrap (A : Int) = A := by rw [IntKind.wrap_i64]; omega
      have hz : ∀ j, j < 64 → (zb64)[j]? = some (.int .u8 0) := fun j hj => by
        unfold zb64
        rw [List.getElem?_toArray, List.getElem?_replicate, if_pos hj]
      have cz0 : (wr.alloc (.cells zb64 5)).cell? ⟨wr.heap.size, 0, none⟩ = some (.int .u8 0) := by rw [cell_of_row _ _ _ _ _ _ (heap_alloc_new _ _)]; exact hz 0 (by decide)
      have cz1 : (wr.alloc (.cells (zb64.setIfInBounds 0 (.int .u8 (A : Int))) 5)).cell? ⟨wr.heap.size, 1, none⟩ = some (.int .u8 0) := by
        rw [cell_of_row _ _ _ _ _ _ (heap_alloc_new _ _), Array.getElem?_setIfInBounds_ne (by decide)]
        exact hz 1 (by decide)
      clear hz
      obtain ⟨E, hE⟩ : ∃ E : Nat, min (P + 62) n = E := ⟨_, rfl⟩
      have hP62 : IntKind.i64.wrap ((P : Int) + 62) = (P : Int) + 62 := by rw [IntKind.wrap_i64]; omega
      have hmin : min ((P : Int) + 62) (n : Int) = (E : Int) := by omega
      have hPE : (P : Int) ≤ (E : Int) := by omega
      have hEn : (E : Int) ≤ (n : Int) := by omega
      have hP0 : (0 : Int) ≤ (P : Int) := by omega
      have HE := Lib.hid hE
      have HTB : Hid ((s.extract P E).data.toList = (s.data.toList.drop P).take 62) := Lib.hid (by
        rw [ByteArray.data_extract, Array.toList_extract]
        show (s.data.toList.drop P).take (E - P) = _
        by_cases h : P + 62 ≤ n
        · rw [show E - P = 62 by omega]
        · have hlen : (s.data.toList.drop P).length = n - P := by
            rw [List.length_drop, Array.length_toList]
            have := HN.out
            show s.size - P = _
            omega
          rw [List.take_of_length_le (by omega), List.take_of_length_le (by omega)])
      have HTS : Hid ((s.extract P E).size = ((s.data.toList.drop P).take 62).length) := Lib.hid (by rw [← HTB.out, Array.length_toList]; rfl)
      have HTL : Hid ((s.extract P E).size ≤ 62) := Lib.hid (by rw [HTS.out, List.length_take]; omega)
      have HCC : Hid (((zb64.setIfInBounds 0 (Value.int .u8 (A : Int))).setIfInBounds 1 (Value.int .u8 (C : Int))) = (Value.int .u8 (A : Int) :: Value.int .u8 (C : Int) :: List.replicate 62 (Value.int .u8 0)).toArray) := Lib.hid (by
        unfold zb64
        apply Array.ext'
        rw [Array.toList_setIfInBounds, Array.toList_setIfInBounds, List.toList_toArray, List.toList_toArray]
        rfl)
      clear hE
      go_upto_region 8 with fail
      clear cz0 cz1 hm64
      have HS1 : Hid (w.heap.size ≤ wr.heap.size) := Lib.hid HB.out.size
      have HG1 : Hid ((wr.alloc (.cells ((zb64.setIfInBounds 0 (Value.int .u8 (A : Int))).setIfInBounds 1 (Value.int .u8 (C : Int))) 5)).heap[wr.heap.size]? = some (.cells (Value.int .u8 (A : Int) :: Value.int .u8 (C : Int) :: List.replicate 62 (Value.int .u8 0)).toArray 5 (0, 0))) := Lib.hid (by rw [HCC.out]; exact heap_alloc_new _ _)
      have HB1 : Hid (Below w.heap.size w (wr.alloc (.cells ((zb64.setIfInBounds 0 (Value.int .u8 (A : Int))).setIfInBounds 1 (Value.int .u8 (C : Int))) 5))) := Lib.hid (HB.out.alloc HB.out.size _)
      have HO1 : Hid ((wr.alloc (.cells ((zb64.setIfInBounds 0 (Value.int .u8 (A : Int))).setIfInBounds 1 (Value.int .u8 (C : Int))) 5)).ownsRow w.heap.size 9 1 ov out.length (frV out)) := Lib.hid (HO.out.kept (row := none) ⟨rfl, rfl, rfl, by simp, fun k hk _ => Below.heap_alloc wr _ _ hk⟩ (by cases h : ov.ownBlock with | none => exact Or.inl rfl | some x => exact Or.inr (by simp)))
      have HGO : Hid (ov.ownBlock ≠ some wr.heap.size) := Lib.hid (fun e => by have := (HO.out.lt _ e).2; omega)
      generalize wr.alloc (.cells ((zb64.setIfInBounds 0 (Value.int .u8 (A : Int))).setIfInBounds 1 (Value.int .u8 (C : Int))) 5) = W1 at *
      generalize wr.heap.size = gb at *
      have hth : W1.there gb 2 62 := there_of_block HG1.out 2 62 (by simp)
      have HTC : Hid (∀ j, j < (s.extract P E).size → (W1.drew.cell? ⟨gb, 2 + j, none⟩).isSome = true) := Lib.hid (fun j hj => (hth j (by have := HTL.out; omega)).1)
      have HTF : Hid (∀ j, j < (s.extract P E).size → W1.drew.frozen? ⟨gb, 2 + j, none⟩ = false) := Lib.hid (fun j hj => (hth j (by have := HTL.out; omega)).2)
      clear hth
      go_region_held3 (fun _ => True) (trivial) (first | (refine step_copy_string rfl _ _ 86 9 rfl 5 Try.underlying86 sizeByte7 gb 2 62 62 rfl (s.extract P E) rfl HTL.out HTC.out HTF.out ?_))
      have HB2 : Hid (Below w.heap.size w (W1.drew.setCells gb 2 ((s.extract P E).data.toList.map fun x => Value.int .u8 (x.toNat : Int)))) := Lib.hid (Below.setCells (show Below w.heap.size w W1.drew from HB1.out.trans ⟨rfl, rfl, rfl, Nat.le_refl _, fun _ _ => rfl⟩) HS1.out 2 _)
      have HO2 : Hid ((W1.drew.setCells gb 2 ((s.extract P E).data.toList.map fun x => Value.int .u8 (x.toNat : Int))).ownsRow w.heap.size 9 1 ov out.length (frV out)) := Lib.hid ((show W1.drew.ownsRow w.heap.size 9 1 ov out.length (frV out) from HO1.out).kept (row := some gb) ⟨(Below.setCells (Below.refl 0 W1.drew) (Nat.zero_le _) 2 _).os, (Below.setCells (Below.refl 0 W1.drew) (Nat.zero_le _) 2 _).tape, (Below.setCells (Below.refl 0 W1.drew) (Nat.zero_le _) 2 _).output, by rw [size_setCells]; exact Nat.le_refl _, fun k _ hne => heap_setCells_far gb _ 2 _ k (fun e => hne (by rw [e]))⟩ (Or.inr HGO.out))
      have HC2 : Hid ((W1.drew.setCells gb 2 ((s.extract P E).data.toList.map fun x => Value.int .u8 (x.toNat : Int))).heap[gb]? = some (.cells ((frameB (s.data.toList.drop P)).map fun b => Value.int .u8 (b.toNat : Int)).toArray 5 (0, 0))) := Lib.hid (by
        have h9 := heap_setCells_at gb 5 ((s.extract P E).data.toList.map fun x => Value.int .u8 (x.toNat : Int)) 2 W1.drew _ HG1.out (by
          have := HTL.out
          have h8 : (s.extract P E).data.toList.length = (s.extract P E).size := by rw [Array.length_toList]; rfl
          simp only [List.length_map, List.length_cons, List.length_replicate, h8]
          omega)
        rw [h9, frame_cells]
        have hl : (s.data.toList.drop P).length = m := by
          rw [List.length_drop, Array.length_toList]
          have h1 := HN.out
          have h2 := HM.out
          show s.size - P = m
          rw [h1]; exact h2
        have e1 : ((UInt8.ofNat A).toNat : Int) = A := by rw [UInt8.toNat_ofNat', Nat.mod_eq_of_lt (by omega)]
        have e2 : ((UInt8.ofNat C).toNat : Int) = C := by rw [UInt8.toNat_ofNat', Nat.mod_eq_of_lt (by omega)]
        rw [hl, HQ1.out, HQ2.out, e1, e2, HTB.out]
        have h62 : ((s.data.toList.drop P).take 62).length ≤ 62 := by rw [List.length_take]; omega
        generalize (s.data.toList.drop P).take 62 = l62 at *
        generalize hR : List.replicate 62 (Value.int .u8 0) = R
        simp [Nat.add_comm 2]
        rw [← hR, List.drop_replicate])
      generalize (W1.drew.setCells gb 2 ((s.extract P E).data.toList.map fun x => Value.int .u8 (x.toNat : Int))) = W2 at *
      have hcv : (convert 86 9 (.slice (some ⟨gb, 0, none⟩) 64 64)).run Try.prog W2 = .ok (.string ⟨(frameB (s.data.toList.drop P)).toArray⟩) W2 := by
        have h9 := run_convert_bytes_back (P := Try.prog) W2 86 9 5 ⟨gb, 0, none⟩ 64 (frameB (s.data.toList.drop P)) Try.underlying86 Try.underlying5 Try.underlying9 (fun j hj => by
          rw [Addr.add_mid, Nat.zero_add, cell_of_row _ _ _ _ _ _ HC2.out]
          simp [hj])
        rw [frameB_length] at h9
        exact h9
      generalize hF : frameB (s.data.toList.drop P) = F at *
      have HF := Lib.hid hF
      clear hF
      have HA3 : Hid ((W2.alloc (.cells #[.string ⟨F.toArray⟩] 9)).ownsRow w.heap.size 9 1 ov out.length (frV out)) := Lib.hid (HO2.out.alloc _)
      have HOL : Hid (out.length ≤ 2000) := Lib.hid (by
        have h1 := congrArg List.length HC.out
        rw [List.length_append, cutB_length s.data.toList] at h1
        have h2 : s.data.toList.length = n := by rw [Array.length_toList]; exact HN.out
        rw [h2] at h1
        omega)
      go_wp2_with (at_builtin; refine wpList_append_own _ rfl _ _ 39 rfl w.heap.size 9 i0 (.string ⟨#[]⟩) 1 16 Try.underlying39 hi0 hz0 hz1 hz2 rfl (by decide) _ _ _ rfl HA3.out ⟨W2.heap.size, 0, none⟩ 1 1 [.string ⟨F.toArray⟩] rfl rfl ?c1 ?c2 ?c3 ?c4 ?c5 ?_)
      case c1 =>
        intro j u hj
        match j, hj with
        | 0, hj => simp at hj; subst hj; simp [Addr.add]
      case c2 => intro u hu; simp at hu; subst hu; rfl
      case c3 => have := HOL.out; unfold maxLen; omega
      case c4 => have := HOL.out; omega
      case c5 => have h1 := HB2.out.size; simp; omega
      intro v' w3 hown' hgrow _
      have HO3 := Lib.hid hown'
      have HG3 := Lib.hid hgrow
      clear hown' hgrow
      go_wp2
      go_roundw
      case rel =>
        refine ⟨P + 62, out ++ [F], by omega, by go_num, ?_, ⟨_, rfl, ?_⟩, ?_⟩
        · rw [← HC.out, cutB_cons (r := s.data.toList.drop P) (by
            intro h
            have h1 := congrArg List.length h
            rw [List.length_drop, Array.length_toList] at h1
            have h2 : s.data.size = n := HN.out
            simp at h1
            omega), List.drop_drop, HF.out, List.append_assoc]
          rfl
        · have := HO3.out
          simpa [frV] using this
        · exact (HB2.out.alloc HB2.out.size _).grown HG3.out (by have := HB2.out.size; simp; omega) (fun j hj => (HO2.out.lt j hj).1)
      case measure => simp [intOf]; omega
    · have hge : ¬ ((P : Int) < (n : Int)) := by omega
      have HE2 : Hid (cutB s.data.toList = out) := Lib.hid (by
        rw [← HC.out, List.drop_eq_nil_of_le (by rw [Array.length_toList]; have h2 : s.data.size = n := HN.out; omega), cutB_nil, List.append_nil])
      go_wp2
      go_ret
      exact ⟨_, rfl, by rw [HE2.out]; exact HO.out, HB.out⟩
end Go.Proofs.Ytmpfdmjbgabcdaa
