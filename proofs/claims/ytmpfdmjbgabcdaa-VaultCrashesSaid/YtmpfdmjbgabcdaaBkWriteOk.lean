/-
  A bank (stage 7): a record is written, and all its frames go.
-/
import Derived.Test.YtmpfdmjbgabcdaaBkWrite
namespace Go.Proofs.Ytmpfdmjbgabcdaa
open Go.RowKit Go.Sort
set_option linter.unusedVariables false

/-- A record's frames, as texts. -/
def framesL (s : ByteArray) : List ByteArray := (cutB s.data.toList).map fun f => (⟨f.toArray⟩ : ByteArray)
theorem framesL_length (s : ByteArray) : (framesL s).length = (s.size + 61) / 62 := by
  unfold framesL
  rw [List.length_map, cutB_length, Array.length_toList]
  rfl
theorem framesL_size (s : ByteArray) : ∀ f ∈ framesL s, f.size = 64 := fun f hf => by
  obtain ⟨g, hg, rfl⟩ := List.mem_map.1 hf
  show g.toArray.size = 64
  rw [List.size_toArray]
  exact cutB_all _ g hg
theorem framesL_bytes (s : ByteArray) : bytesL (framesL s) = cutB s.data.toList := bytesL_mk _
set_option maxHeartbeats 8000000 in
set_option maxRecDepth 100000 in
theorem write_ok (B b : Nat) (st : St) (F S A : Nat) (s : ByteArray) (w : World) (h : Dev B w b st) (hg : Good st) (hl : st.lim = false) (ho : openI st F S = 0) (hS : F + S ≤ st.now.length) (hA : 1 ≤ A) (hn1 : 1 ≤ s.size) (hn6 : s.size ≤ 60000) (hkA : A + (s.size + 61) / 62 ≤ S) (hp : st.pend.length + (s.size + 61) / 62 ≤ 1000) (hB : B ≤ w.heap.size) :
    Calls Try.prog 54 #[.pointer (some ⟨b, 0, none⟩), .int .i64 F, .int .i64 S, .int .i64 A, .string s] w fun e w' => e = .returned (.tuple #[.int .i64 ((A + (s.size + 61) / 62 : Nat) : Int), .int .i64 0]) ∧ Dev B w' b (putsSt st (F + A) (framesL s)) ∧ Below B w w' ∧ Off devTs w w' := by
  have cO := open_ok B b st F S w h hg ho
  have hf := hg.few
  have hS4 : S ≤ 4096 := by omega
  obtain ⟨n, hn⟩ : ∃ n, s.size = n := ⟨_, rfl⟩
  have hfl := framesL_length s
  have hfs := framesL_size s
  have cR : Hid (∀ W, Calls Try.prog 65 #[.string s] W fun e w' => ∃ v, e = .returned v ∧ w'.ownsRow W.heap.size 9 1 v (cutB s.data.toList).length (frV (cutB s.data.toList)) ∧ Below W.heap.size W w') := Lib.hid (fun W => frames_c s W hn6)
  have HSO : Hid (∀ (B : Nat) W v, W.ownsRow B 9 1 v (cutB s.data.toList).length (frV (cutB s.data.toList)) → StrsIs W v (framesL s)) := Lib.hid (fun B W v hv => strs_of_owns hv)
  rw [hn] at hn1 hn6 hkA hp hfl ⊢
  have HN := Lib.hid hn
  obtain ⟨k, hk⟩ : ∃ k, (n + 61) / 62 = k := ⟨_, rfl⟩
  have cF := fun W => frames_n (n : Int) W (by omega)
  rw [framesI_nat] at cF
  rw [hk] at hkA hp hfl cF ⊢
  have HCL : Hid ((cutB s.data.toList).length = k) := Lib.hid (by rw [cutB_length, Array.length_toList]; show (s.size + 61) / 62 = k; rw [hn]; exact hk)
  obtain ⟨fs, hfsd⟩ : ∃ fs, framesL s = fs := ⟨_, rfl⟩
  rw [hfsd] at hfl hfs HSO ⊢
  have HFL := Lib.hid hfl
  have HPUT : Hid (∀ (j : Nat) (f : ByteArray) W, fs[j]? = some f → Dev B W b (putsSt st (F + A) (fs.take j)) → B ≤ W.heap.size → Calls Try.prog 66 #[.agg #[.pointer (some ⟨b, 0, none⟩), .int .i64 F, .int .i64 S], .int .i64 ((A : Int) + (j : Int)), .string f] W fun e w' => e = .returned (.int .i64 0) ∧ Dev B w' b (putsSt st (F + A) (fs.take (j + 1))) ∧ Below B W w' ∧ Off devTs W w') := Lib.hid (fun j f W hj hd hBW => by
    have hjk : j < k := by have := (List.getElem?_eq_some_iff.1 hj).1; omega
    have hlt : (fs.take j).length = j := by rw [List.length_take]; omega
    obtain ⟨g1, g2, g3, g4, _⟩ := puts_good (fs.take j) st (F + A) hg hl (by omega) (fun f hf => hfs f (List.mem_of_mem_take hf))
    have h1 := bput_at B b (putsSt st (F + A) (fs.take j)) F A j S f W hd g1 g2 (by omega) hBW (by omega) (hfs f (List.mem_of_getElem? hj))
    rw [List.take_add_one, hj]
    show Calls _ _ _ W fun e w' => e = _ ∧ Dev B w' b (putsSt st (F + A) (fs.take j ++ [f])) ∧ _
    rw [putsSt_snoc, hlt]
    exact h1)
  have cH := fun W => has_c (some ⟨b, 0, none⟩) F S A k W (by omega)
  rw [decide_eq_true (by omega)] at cH
  have HDB : Hid (∀ W, Below w.heap.size w W → Dev B W b (putsSt st (F + A) (fs.take 0))) := Lib.hid (fun W hW => h.below hW)
  have h1z : ¬ ((A : Int) < 1) := by omega
  have h2z : ¬ ((n : Int) < 1) := by omega
  have hd2 : decide ((n : Int) < 1) = false := decide_eq_false h2z
  have h3z : ¬ ((60000 : Int) < (n : Int)) := by omega
  have hd3 : decide ((60000 : Int) < (n : Int)) = false := decide_eq_false h3z
  clear h hg hl ho hS hf hfs hfsd hfl
  go_enter Try.func54, Try.ntmps54
  go_wp2_with fail
  refine cO.mono ?_
  rintro e w1 ⟨rfl, hb1⟩
  have HB1 := Lib.hid hb1
  clear hb1 cO
  go_upto_region 8 with fail
  obtain ⟨W0, hW0⟩ : ∃ W0, w1.alloc (.cells #[.pointer (some ⟨b, 0, none⟩), .int .i64 F, .int .i64 S] 105) = W0 := ⟨_, rfl⟩
  have HB2 : Hid (Below w.heap.size w W0) := Lib.hid (by rw [← hW0]; exact HB1.out.alloc HB1.out.size _)
  have hC0 : W0.heap[w1.heap.size]? = some (.cells #[.pointer (some ⟨b, 0, none⟩), .int .i64 F, .int .i64 S] 105 (0, 0)) := by rw [← hW0]; exact heap_alloc_new _ _
  have hgS : w1.heap.size < W0.heap.size := lt_of_get hC0
  have HC0 := Lib.hid hC0
  have hS0 : Below W0.heap.size W0 W0 ∧ W0.cell? ⟨w1.heap.size, 0, none⟩ = some (.pointer (some ⟨b, 0, none⟩)) ∧ W0.cell? ⟨w1.heap.size, 1, none⟩ = some (.int .i64 F) ∧ W0.cell? ⟨w1.heap.size, 2, none⟩ = some (.int .i64 S) := ⟨Below.refl _ _, by rw [cell_of_row _ _ _ _ _ _ hC0]; rfl, by rw [cell_of_row _ _ _ _ _ _ hC0]; rfl, by rw [cell_of_row _ _ _ _ _ _ hC0]; rfl⟩
  have j0 := hS0.2.1
  have j1 := hS0.2.2.1
  have j2 := hS0.2.2.2
  rw [hW0]
  clear hC0 hW0
  generalize w1.heap.size = g at *
  go_region_held3 (fun W => Below W0.heap.size W0 W ∧ W.cell? ⟨g, 0, none⟩ = some (.pointer (some ⟨b, 0, none⟩)) ∧ W.cell? ⟨g, 1, none⟩ = some (.int .i64 F) ∧ W.cell? ⟨g, 2, none⟩ = some (.int .i64 S)) (first | assumption | exact box_drew ‹_› | exact box_step hgS ‹_› ‹_›) (first | (go_at_call 56; refine (cF _).mono ?_; rintro e w' ⟨rfl, rfl⟩) | (go_at_call 64; refine (cH _).mono ?_; rintro e w' ⟨rfl, hb⟩))
  rename_i hHeld
  have HH9 := Lib.hid hHeld.1
  clear hS0 j0 j1 j2 hb hHeld cH
  go_wp2_with fail
  refine (cR.out _).mono ?_
  rintro e w3 ⟨v, rfl, hown, hb3⟩
  have HB3 : Hid (Below W0.heap.size W0 w3) := Lib.hid (HH9.out.trans (hb3.mono HH9.out.size))
  have HBw : Hid (Below w.heap.size w w3) := Lib.hid (HB2.out.trans (HB3.out.mono HB2.out.size))
  have HOW := Lib.hid hown
  have HC3 : Hid (w3.heap[g]? = some (.cells #[.pointer (some ⟨b, 0, none⟩), .int .i64 F, .int .i64 S] 105 (0, 0))) := Lib.hid (by rw [HB3.out.block _ hgS]; exact HC0.out)
  obtain ⟨va, vc, rfl⟩ := (HSO.out _ _ _ hown).len
  rw [HFL.out] at HOW
  clear hown hb3
  rw [HFL.out]
  go_wp2
  go_loopw [47] (fun iv wr => ∃ j : Nat, j ≤ k ∧ iv = .int .i64 j ∧ Dev B wr b (putsSt st (F + A) (fs.take j)) ∧ Below B w3 wr ∧ Off devTs w3 wr) (fun iv _ => k - (intOf iv).toNat)
  case atStart => exact ⟨0, by omega, rfl, HDB.out _ HBw.out, Below.refl _ _, Off.refl _ _⟩
  case round =>
    obtain ⟨j, hj, rfl, hd, hb, hoff⟩ := hrel
    have HD := Lib.hid hd
    have HB := Lib.hid hb
    have HOf := Lib.hid hoff
    by_cases hjk : j < k
    · have hjz : (j : Int) < (k : Int) := by omega
      obtain ⟨f, hfj⟩ : ∃ f, fs[j]? = some f := ⟨_, List.getElem?_eq_getElem (by rw [HFL.out]; exact hjk)⟩
      have hst := HSO.out _ _ _ (own_off HOW.out (by decide) hoff)
      rw [show (Value.slice va k vc) = .slice va fs.length vc by rw [HFL.out]] at hst
      rw [HFL.out] at hst
      obtain ⟨g2, o2, rfl, _, kc⟩ := hst.at hfj
      have hbox := hoff 105 (by decide) _ _ _ HC3.out
      have k0 : wr.cell? ⟨g, 0, none⟩ = some (.pointer (some ⟨b, 0, none⟩)) := by rw [cell_of_row _ _ _ _ _ _ hbox]; rfl
      have k1 : wr.cell? ⟨g, 1, none⟩ = some (.int .i64 F) := by rw [cell_of_row _ _ _ _ _ _ hbox]; rfl
      have k2 : wr.cell? ⟨g, 2, none⟩ = some (.int .i64 S) := by rw [cell_of_row _ _ _ _ _ _ hbox]; rfl
      have hAj : IntKind.i64.wrap ((A : Int) + (j : Int)) = (A : Int) + (j : Int) := by rw [IntKind.wrap_i64]; omega
      have HFJ := Lib.hid hfj
      have HBsz : Hid (B ≤ wr.heap.size) := Lib.hid (Nat.le_trans hB (Nat.le_trans HBw.out.size HB.out.size))
      clear hst hbox hfj hd hb hoff
      go_wp2_with fail
      refine (HPUT.out j f wr HFJ.out HD.out HBsz.out).mono ?_
      rintro e w5 ⟨rfl, hd5, hb5, ho5⟩
      have HD5 := Lib.hid hd5
      have HB5 : Hid (Below B w3 w5) := Lib.hid (HB.out.trans hb5)
      have HO5 : Hid (Off devTs w3 w5) := Lib.hid (HOf.out.trans ho5)
      clear hd5 hb5 ho5 k0 k1 k2 kc
      go_wp2
      go_roundw
      case rel => exact ⟨j + 1, by omega, by first | rfl | go_num, HD5.out, HB5.out, HO5.out⟩
      case measure => simp [intOf]; omega
    · have hjz : ¬ ((j : Int) < (k : Int)) := by omega
      have HDE : Hid (Dev B wr b (putsSt st (F + A) fs)) := Lib.hid (by
        have h1 := HD.out
        rw [List.take_of_length_le (by rw [HFL.out]; omega)] at h1
        exact h1)
      have HBE : Hid (Below B w wr) := Lib.hid ((HBw.out.mono hB).trans HB.out)
      have HOE : Hid (Off devTs w wr) := Lib.hid ((Off.ofBelow HBw.out _).trans HOf.out)
      have hAk : IntKind.i64.wrap ((A : Int) + (k : Int)) = (A : Int) + (k : Int) := by rw [IntKind.wrap_i64]; omega
      have hAk2 : ((A + k : Nat) : Int) = (A : Int) + (k : Int) := by omega
      clear hd hb hoff
      go_wp2_with fail
      refine (cF _).mono ?_
      rintro e w5 ⟨rfl, rfl⟩
      go_wp2
      go_ret2
      exact ⟨by rw [hAk2]; rfl, HDE.out, HBE.out, HOE.out⟩
end Go.Proofs.Ytmpfdmjbgabcdaa
