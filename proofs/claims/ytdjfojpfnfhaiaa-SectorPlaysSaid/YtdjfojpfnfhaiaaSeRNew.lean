/-
  The reference's New (stage 6); that no call is too long.
-/
import Derived.Test.YtdjfojpfnfhaiaaSeDo2
namespace Go.Proofs.Ytdjfojpfnfhaiaa
open Go.RowKit Go.Sort
set_option linter.unusedVariables false

theorem zero_conv (W : World) : (convert 58 9 (.slice (some ⟨W.heap.size, 0, none⟩) 64 64)).run Try.prog (W.alloc (.cells (fillA 0 0) 5)) = .ok (.string zero64) (W.alloc (.cells (fillA 0 0) 5)) := by
  have h9 := run_convert_bytes_back (P := Try.prog) (W.alloc (.cells (fillA 0 0) 5)) 58 9 5 ⟨W.heap.size, 0, none⟩ 64 (List.replicate 64 0) Try.underlying58 Try.underlying5 Try.underlying9 (fun j hj => by
    rw [Addr.add_mid, Nat.zero_add, cell_of_row _ _ _ _ _ _ (heap_alloc_new _ _)]
    have hj' : j < 64 := by simpa using hj
    rw [List.getElem_replicate]
    unfold fillA
    rw [List.replicate_zero, List.nil_append, List.getElem?_toArray, List.getElem?_replicate, if_pos (by omega)]
    rfl)
  rw [List.length_replicate] at h9
  rw [h9]
  congr 2
theorem zeros_one (n : Nat) : strs (List.replicate n zero64) ++ [.string zero64] = strs (List.replicate (n + 1) zero64) := by
  unfold strs
  rw [List.replicate_succ', List.map_append]
  rfl
/-- While the safe sectors are laid: nothing else is there. -/
structure Half (B : Nat) (w : World) (r : Nat) (vs : Value) (n : Nat) : Prop where
  hB : B ≤ r
  hd : w.heap[r]? = some (.cells #[vs, .slice none 0 0, .slice none 0 0, .slice none 0 0, .int .i64 (-1)] 44 (0, 0))
  sf : w.ownsRow B 9 1 vs n (strs (List.replicate n zero64))
theorem Half.below {B : Nat} {w w' : World} {r : Nat} {vs : Value} {n : Nat} (h : Half B w r vs n) (ho : Off [] w w') : Half B w' r vs n := ⟨h.hB, ho _ (by simp) _ _ _ h.hd, own_off h.sf (by simp) ho⟩
theorem Half.next {B : Nat} {w w' : World} {r : Nat} {vs : Value} {n g cap : Nat} (h : Half B w r vs n) (hg : w.grownBy w' vs.ownBlock) (ho : w'.ownsRow B 9 1 (.slice (some ⟨g, 0, none⟩) (n + 1) cap) (n + 1) (strs (List.replicate n zero64) ++ [.string zero64])) : Half B (w'.setCell ⟨r, 0, none⟩ (.slice (some ⟨g, 0, none⟩) (n + 1) cap)) r (.slice (some ⟨g, 0, none⟩) (n + 1) cap) (n + 1) := by
  have hne : vs.ownBlock ≠ some r := own_ne h.sf h.hd (by decide)
  have hr := (hg.block r (lt_of_get h.hd) (fun e => hne e.symm)).trans h.hd
  refine ⟨h.hB, ?_, ?_⟩
  · rw [heap_setCell_same w' r 0 _ _ _ hr]; rfl
  · rw [← zeros_one]
    exact own_other ho (own_ne ho hr (by decide))
theorem half_done {B : Nat} {w0 w w' : World} {r : Nat} {vs : Value} {n g cap q : Nat} (h0 : Half B w0 r vs n) (h : Half B w r vs n) (hq : w0.heap.size ≤ q) (hg : w.grownBy w' (some q)) (hat : w0.heap.size ≤ g) (ho : w'.ownsRow B 9 1 (.slice (some ⟨g, 0, none⟩) n cap) n (strs (List.replicate n zero64))) :
    Ref B (w'.setCell ⟨r, 1, none⟩ (.slice (some ⟨g, 0, none⟩) n cap)) r (stNew n) := by
  have hr : w'.heap[r]? = w.heap[r]? := hg.block r (lt_of_get h.hd) (fun e => by injection e with e; have := lt_of_get h0.hd; omega)
  have hne : vs.ownBlock ≠ some r := own_ne h.sf h.hd (by decide)
  have hlr : (List.replicate n zero64).length = n := List.length_replicate
  have hsf : w'.ownsRow B 9 1 vs n (strs (List.replicate n zero64)) := own_grown h.sf hg (fun k hk e => by injection e with e; have := own_lt h0.sf hk; omega)
  refine ⟨vs, .slice (some ⟨g, 0, none⟩) n cap, .slice none 0 0, .slice none 0 0, h.hB, ?_, ?_, ?_, ⟨rfl, Or.inl ⟨rfl, rfl⟩⟩, ⟨rfl, Or.inl ⟨rfl, rfl⟩⟩, ?_, (fun k hk e => by cases e), (fun k hk e => by cases e), ⟨g, cap, ?_⟩⟩
  · rw [heap_setCell_same w' r 1 _ _ _ (hr.trans h.hd)]; rfl
  · show World.ownsRow _ B 9 1 vs (List.replicate n zero64).length (strs (List.replicate n zero64))
    rw [hlr]; exact own_other hsf hne
  · show World.ownsRow _ B 9 1 _ (List.replicate n zero64).length (strs (List.replicate n zero64))
    rw [hlr]; exact own_other ho (own_ne ho (hr.trans h.hd) (by decide))
  · intro k hk e
    have e' : g = k := by simpa [Value.ownBlock] using e
    have := own_lt h0.sf hk; omega
  · show _ = Value.slice _ (List.replicate n zero64).length cap
    rw [hlr]
def RNewPost (n : Nat) (w : World) (e : Ending) (w' : World) : Prop := ∃ r, e = .returned (.pointer (some ⟨r, 0, none⟩)) ∧ Ref w.heap.size w' r (stNew n) ∧ Below w.heap.size w w'
set_option maxHeartbeats 8000000 in
set_option maxRecDepth 100000 in
theorem rnew_c (z : Int) (N : Nat) (hz : N = z.toNat) (hN : N ≤ 4000) (w : World) : Calls Try.prog 9 #[.int .i64 z] w (RNewPost N w) := by
  unfold RNewPost
  obtain ⟨r, hr⟩ : ∃ r, w.heap.size = r := ⟨_, rfl⟩
  have HR := Lib.hid hr
  have HZ := Lib.hid hz
  clear hz
  have HH0 : Hid (Half r (w.alloc (.cells #[.slice none 0 0, .slice none 0 0, .slice none 0 0, .slice none 0 0, .int .i64 (-1)] 44)) r (.slice none 0 0) 0) := Lib.hid ⟨Nat.le_refl _, by rw [← hr]; exact heap_alloc_new _ _, ⟨rfl, Or.inl ⟨rfl, rfl⟩⟩⟩
  have HB0 : Hid (Below r w (w.alloc (.cells #[.slice none 0 0, .slice none 0 0, .slice none 0 0, .slice none 0 0, .int .i64 (-1)] 44))) := Lib.hid ((Below.refl _ w).alloc (by omega) _)
  have hm0 := run_new_64 0
  have hcv := zero_conv
  have hcv2 : ∀ W : World, (convert 58 9 (.slice (some ⟨W.heap.size, 0, none⟩) 64 64)).run Try.prog (W.alloc (.cells (fillA 0 0) 5)).drew = .ok (.string zero64) (W.alloc (.cells (fillA 0 0) 5)).drew := fun W => zero_conv W.drew
  obtain ⟨i0, hi0, hz0, hz1, hz2⟩ := info_parts Try.infoStrZ
  go_enter Try.func9, Try.ntmps9
  go_wp2
  clear hr
  generalize w.alloc (.cells #[.slice none 0 0, .slice none 0 0, .slice none 0 0, .slice none 0 0, .int .i64 (-1)] 44) = wa at *
  go_loopw [4] (fun iv wr => ∃ (i : Nat) (vs : Value), i ≤ N ∧ iv = .int .i64 i ∧ Half r wr r vs i ∧ Below r w wr) (fun iv _ => N - (intOf iv).toNat)
  case atStart => exact ⟨0, _, by omega, rfl, HH0.out, HB0.out⟩
  case round =>
    obtain ⟨i, vs, hi, rfl, hh, hb⟩ := hrel
    have HHi := Lib.hid hh
    have HBi := Lib.hid hb
    clear hh hb HH0 HB0
    have hi4 : (i : Int) < 4096 := by omega
    have c0 : wr.cell? ⟨r, 0, none⟩ = some vs := by rw [cell_of_row wr r _ _ _ _ HHi.out.hd]; rfl
    by_cases hin : i < N
    · have hiz : (i : Int) < z := by have := HZ.out; omega
      have hiw : IntKind.i64.wrap ((i : Int) + 1) = (i : Int) + 1 := by rw [IntKind.wrap_i64]; omega
      have hrl := lt_of_get HHi.out.hd
      have s1 : (wr.alloc (.cells (fillA 0 0) 5)).heap.size = wr.heap.size + 1 := by simp
      have c1 : wr.drew.cell? ⟨r, 0, none⟩ = some vs := c0
      have c2 : (wr.alloc (.cells (fillA 0 0) 5)).cell? ⟨r, 0, none⟩ = some vs := by rw [World.cell?_alloc_lt _ _ _ hrl]; exact c0
      have c3 : (wr.alloc (.cells (fillA 0 0) 5)).drew.cell? ⟨r, 0, none⟩ = some vs := c2
      have c4 : ((wr.alloc (.cells (fillA 0 0) 5)).alloc (.cells #[.string zero64] 9)).cell? ⟨r, 0, none⟩ = some vs := by rw [World.cell?_alloc_lt _ _ _ (by rw [s1]; show r < _; omega)]; exact c2
      have c5 : ((wr.alloc (.cells (fillA 0 0) 5)).alloc (.cells #[.string zero64] 9)).drew.cell? ⟨r, 0, none⟩ = some vs := c4
      have HA : Hid (Half r (((wr.alloc (.cells (fillA 0 0) 5)).alloc (.cells #[.string zero64] 9)).drew) r vs i) := Lib.hid (HHi.out.below (((Off.refl [] wr).alloc _).alloc _))
      have HBA : Hid (Below r w (((wr.alloc (.cells (fillA 0 0) 5)).alloc (.cells #[.string zero64] 9)).drew)) := Lib.hid (((HBi.out.alloc (by omega) _).alloc (by rw [s1]; omega) _).drew)
      have HNA : Hid (∀ j u, [(.string zero64 : Value)][j]? = some u → (((wr.alloc (.cells (fillA 0 0) 5)).alloc (.cells #[.string zero64] 9)).drew).cell? ((⟨wr.heap.size + 1, 0, none⟩ : Addr).add j) = some u) := Lib.hid (fun j u hu => by
        have := World.news_of_block (heap_alloc_new (wr.alloc (.cells (fillA 0 0) 5)) (.cells #[.string zero64] 9)) j u (by simpa using hu)
        rw [s1] at this
        exact this)
      have HBS : Hid (r ≤ (((wr.alloc (.cells (fillA 0 0) 5)).alloc (.cells #[.string zero64] 9)).drew).heap.size) := Lib.hid (by show r ≤ ((wr.alloc (.cells (fillA 0 0) 5)).alloc (.cells #[.string zero64] 9)).heap.size; rw [show ((wr.alloc (.cells (fillA 0 0) 5)).alloc (.cells #[.string zero64] 9)).heap.size = (wr.alloc (.cells (fillA 0 0) 5)).heap.size + 1 by simp, s1]; omega)
      clear s1
      go_upto_region 5 with fail
      go_region_law (first | (refine step_append_lies (((wr.alloc (.cells (fillA 0 0) 5)).alloc (.cells #[.string zero64] 9)).drew) rfl _ _ 42 rfl r 9 i0 (.string ⟨#[]⟩) 1 16 Try.underlying42 hi0 hz0 hz1 hz2 rfl (by decide) vs i (strs (List.replicate i zero64)) rfl HA.out.sf ⟨wr.heap.size + 1, 0, none⟩ 1 1 [.string zero64] rfl rfl HNA.out (by intro u hu; obtain rfl := List.mem_singleton.1 hu; rfl) (by decide) (by unfold maxLen; omega) (by omega) HBS.out _ rfl ?_; intro g9 cap9 w9 hown9 hgrow9 hat9 hlt9; have hh9 := (hgrow9.block r (lt_of_get HA.out.hd) (fun e => own_ne HA.out.sf HA.out.hd (by decide) e.symm)).trans HA.out.hd; have q9 : w9.cell? ⟨r, 0, none⟩ = some vs := (by rw [cell_of_row w9 r _ _ _ _ hh9]; rfl); have f9 : w9.frozen? ⟨r, 0, none⟩ = false := frozen_of_row w9 r _ _ _ hh9))
      all_goals
        have HHE : Hid (Half r (w9.setCell ⟨r, 0, none⟩ (.slice (some ⟨g9, 0, none⟩) (i + 1) cap9)) r (.slice (some ⟨g9, 0, none⟩) (i + 1) cap9) (i + 1)) := Lib.hid (HA.out.next hgrow9 hown9)
        have HBE : Hid (Below r w (w9.setCell ⟨r, 0, none⟩ (.slice (some ⟨g9, 0, none⟩) (i + 1) cap9))) := Lib.hid ((HBA.out.grown hgrow9 HBS.out (fun j hj => (HA.out.sf.lt j hj).1)).setCell (p := ⟨r, 0, none⟩) (Nat.le_refl _) _)
        go_wp2
        go_roundw
        case rel => exact ⟨i + 1, _, by omega, by first | rfl | go_num, HHE.out, HBE.out⟩
        case measure => simp [intOf]; omega
    · have hge : ¬ ((i : Int) < z) := by have := HZ.out; omega
      obtain rfl : i = N := by omega
      have HE2 : Hid ((wr.alloc (.cells #[] 9)).heap[wr.heap.size]? = some (.cells #[] 9 (0, 0))) := Lib.hid (heap_alloc_new _ _)
      have HH2 : Hid (Half r (wr.alloc (.cells #[] 9)) r vs i) := Lib.hid (HHi.out.below ((Off.refl [] wr).alloc _))
      have HB2 : Hid (Below r w (wr.alloc (.cells #[] 9))) := Lib.hid (HBi.out.alloc (by have := lt_of_get HHi.out.hd; omega) _)
      have HSZ2 : Hid ((wr.alloc (.cells #[] 9)).heap.size = wr.heap.size + 1) := Lib.hid (by simp)
      have HRL : Hid (r < wr.heap.size) := Lib.hid (lt_of_get HHi.out.hd)
      have q0 : (wr.alloc (.cells #[] 9)).cell? ⟨r, 0, none⟩ = some vs := by rw [World.cell?_alloc_lt _ _ _ HRL.out]; exact c0
      have HI : Hid (i ≤ 100000) := Lib.hid (by omega)
      have HRB : Hid (r ≤ wr.heap.size) := Lib.hid (Nat.le_of_lt HRL.out)
      go_wp2_with (
        at_builtin
        refine appendCopy rfl _ _ rfl wr.heap.size rfl HE2.out r r _ i (strs (List.replicate i zero64)) rfl HH2.out.sf (strs_one _) HI.out HRB.out ?_
        intro g9 cap9 w9 hown9 hgrow9 hat9
        have hge9 : wr.heap.size ≤ g9 := by
          rcases hat9 with rfl | rfl
          · exact Nat.le_refl _
          · rw [HSZ2.out]; omega
        have hh9 := (hgrow9.block r (lt_of_get HH2.out.hd) (fun e => by injection e with e; have := HRL.out; omega)).trans HH2.out.hd
        have HB9 : Hid (Below r w w9) := Lib.hid (HB2.out.grown hgrow9 (by rw [HSZ2.out]; have := HRL.out; omega) (fun k hk => by injection hk with hk; have := HRL.out; omega))
        have k1 : w9.cell? ⟨r, 1, none⟩ = some (.slice none 0 0) := by rw [cell_of_row w9 r _ _ _ _ hh9]; rfl
        have hfz : ∀ j, w9.frozen? ⟨r, j, none⟩ = false := fun j => frozen_of_row w9 r j _ _ hh9
        have HF : Hid (Ref r (w9.setCell ⟨r, 1, none⟩ (.slice (some ⟨g9, 0, none⟩) i cap9)) r (stNew i)) := Lib.hid (half_done HHi.out HH2.out (Nat.le_refl _) hgrow9 hge9 hown9)
        have HBF : Hid (Below r w (w9.setCell ⟨r, 1, none⟩ (.slice (some ⟨g9, 0, none⟩) i cap9))) := Lib.hid (HB9.out.setCell (p := ⟨r, 1, none⟩) (Nat.le_refl _) _)
        clear hown9 hgrow9 hat9 hge9 hh9)
      go_ret
      exact ⟨r, rfl, by rw [HR.out]; exact HF.out, by rw [HR.out]; exact HBF.out⟩
end Go.Proofs.Ytdjfojpfnfhaiaa
