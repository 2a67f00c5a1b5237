/-
  A reader of a deed's bytes: numbers, names, flags.
-/
import Derived.Test.YthjieagmglbonaaBuR
import Derived.Test.YthjieagmglbonaaDeWrite
import Derived.Test.YthjieagmglbonaaShelf
import Derived.Laws.Bits64
namespace Go.Proofs.Ythjieagmglbonaa
open Go.RowKit Go.Sort
set_option linter.unusedVariables false

/-- The reader at block b has these bytes before it. -/
def RdIs (b : Nat) (l : List UInt8) (w : World) : Prop := w.heap[b]? = some (.cells #[.string ⟨l.toArray⟩] 123 (0, 0))
/-- All but the reader's block (and bytes) stay. -/
def RdPost (b : Nat) (w : World) (l : List UInt8) (v : Value) (e : Ending) (w' : World) : Prop := e = .returned v ∧ RdIs b l w' ∧ Below b w w' ∧ FrB 123 w w'
theorem RdIs.set {b : Nat} {l : List UInt8} {w : World} (h : RdIs b l w) (m : List UInt8) : RdIs b m (w.setCell ⟨b, 0, none⟩ (.string ⟨m.toArray⟩)) ∧ Below b w (w.setCell ⟨b, 0, none⟩ (.string ⟨m.toArray⟩)) ∧ FrB 123 w (w.setCell ⟨b, 0, none⟩ (.string ⟨m.toArray⟩)) := by
  refine ⟨?_, (Below.refl b w).setCell (p := ⟨b, 0, none⟩) (Nat.le_refl _) _, fun T0 h1 h2 => KeptT.set h h2 _⟩
  unfold RdIs at *
  rw [heap_setCell_same _ b 0 _ _ _ h]
  rfl
theorem text_take (l : List UInt8) (k : Nat) : (⟨l.toArray⟩ : ByteArray).extract 0 (min (k : Int) (l.length : Int)).toNat = ⟨(l.take k).toArray⟩ := by
  have hm : (min (k : Int) (l.length : Int)).toNat = min k l.length := by omega
  rw [hm]
  apply ByteArray.ext
  rw [ByteArray.data_extract]
  apply Array.toList_inj.1
  rw [Array.toList_extract, List.extract_eq_take_drop]
  simp only [List.drop_zero, Nat.sub_zero]
  rw [← List.take_eq_take_min]
theorem text_drop (l : List UInt8) (k : Nat) : (⟨l.toArray⟩ : ByteArray).extract (min (k : Int) (l.length : Int)).toNat l.length = ⟨(l.drop k).toArray⟩ := by
  have hm : (min (k : Int) (l.length : Int)).toNat = min k l.length := by omega
  rw [hm]
  apply ByteArray.ext
  rw [ByteArray.data_extract]
  apply Array.toList_inj.1
  rw [Array.toList_extract, List.extract_eq_take_drop]
  by_cases h : k ≤ l.length
  · rw [Nat.min_eq_left h]
    exact List.take_of_length_le (by rw [List.length_drop]; exact Nat.le_refl _)
  · rw [Nat.min_eq_right (by omega), List.drop_of_length_le (Nat.le_refl _), List.take_nil]
    exact (List.drop_of_length_le (by omega)).symm
set_option maxHeartbeats 2000000 in
set_option maxRecDepth 100000 in
theorem takeD_c (b k : Nat) (l : List UInt8) (w : World) (h : RdIs b l w) (hk : k ≤ 255) (hl : l.length ≤ 100000) :
    Calls Try.prog 85 #[ptV b, .int .i64 (k : Int)] w (RdPost b w (l.drop k) (.string ⟨(l.take k).toArray⟩)) := by
  unfold RdPost
  have c0 : w.cell? ⟨b, 0, none⟩ = some (.string ⟨l.toArray⟩) := Lib.cell_of_heap h 0
  have f0 : w.frozen? ⟨b, 0, none⟩ = false := Lib.frozen_of_heap h 0
  have H := Lib.hid h
  clear h
  go_enter Try.func85, Try.ntmps85
  go_wp2_with fail
  go_ret
  have e1 := text_take l k
  have e2 := text_drop l k
  rw [e1, e2]
  exact ⟨rfl, H.out.set _⟩
theorem deClone_c (s : ByteArray) (w : World) (hs : s.size ≤ 281474976710656) : Calls Try.prog 78 #[.string s] w fun e w' => e = .returned (.string s) ∧ Below w.heap.size w w' := by
  have cC := Try.stringslite_Clone s w hs
  go_enter Try.func78, Try.ntmps78
  go_wp2_with fail
  refine cC.mono ?_
  rintro e w1 ⟨rfl, hb⟩
  have HB := Lib.hid hb
  clear hb cC
  go_wp2
  go_ret
  exact ⟨rfl, HB.out⟩
def foldB (n : Nat) (l : List UInt8) : Nat := l.foldl (fun n b => n * 256 + b.toNat) n
theorem foldB_lt (l : List UInt8) : ∀ n m, n < 256 ^ m → foldB n l < 256 ^ (m + l.length) := by
  unfold foldB
  induction l with
  | nil => intro n m h; exact h
  | cons x r ih =>
    intro n m h
    rw [List.foldl_cons, List.length_cons, show m + (r.length + 1) = (m + 1) + r.length by omega]
    apply ih
    have := UInt8.toNat_lt x
    rw [Nat.pow_succ]
    omega
theorem or_byte (a c : Nat) (hc : c < 256) : a * 256 ||| c = a * 256 + c := by
  have := Nat.two_pow_add_eq_or_of_lt (i := 8) (b := c) (by omega) a
  rw [Nat.mul_comm a 256]
  exact this.symm
theorem bits_or_nat (a b : Nat) (ha : a < 9223372036854775808) (hb : b < 9223372036854775808) : bits .or .i64 (a : Int) (b : Int) = ((a ||| b : Nat) : Int) := by
  have hx : a ||| b < 2 ^ 63 := Nat.or_lt_two_pow (by omega) (by omega)
  have h1 : (BitVec.ofInt 64 (a : Int)).toNat = a := by
    rw [BitVec.ofInt_natCast, BitVec.toNat_ofNat]; exact Nat.mod_eq_of_lt (by omega)
  have h2 : (BitVec.ofInt 64 (b : Int)).toNat = b := by
    rw [BitVec.ofInt_natCast, BitVec.toNat_ofNat]; exact Nat.mod_eq_of_lt (by omega)
  show IntKind.i64.wrap ((BitVec.ofInt 64 (a : Int) ||| BitVec.ofInt 64 (b : Int)).toNat : Int) = _
  rw [BitVec.toNat_or, h1, h2, IntKind.wrap_i64]
  omega
set_option maxHeartbeats 2000000 in
set_option maxRecDepth 100000 in
theorem rnumber_c (b k : Nat) (l : List UInt8) (w : World) (h : RdIs b l w) (hk : k ≤ 4) (hl : l.length ≤ 100000) :
    Calls Try.prog 56 #[ptV b, .int .i64 (k : Int)] w (RdPost b w (l.drop k) (.int .i64 (rdN k l : Int))) := by
  have cT := takeD_c b k l w h (by omega) hl
  obtain ⟨X, hX⟩ : ∃ X, rdN k l = X := ⟨_, rfl⟩
  rw [hX]
  obtain ⟨s, hs⟩ : ∃ s : ByteArray, (⟨(l.take k).toArray⟩ : ByteArray) = s := ⟨_, rfl⟩
  have hst : s.data.toList = l.take k := by rw [← hs]
  have hX2 : foldB 0 s.data.toList = X := by rw [hst]; exact hX
  obtain ⟨m, hm⟩ : ∃ m, s.size = m := ⟨_, rfl⟩
  have hm4 : m ≤ 4 := by
    have : s.data.toList.length = s.size := Array.length_toList
    rw [← hm, ← this, hst, List.length_take]
    omega
  rw [hs] at cT
  have HX := Lib.hid hX2
  have HM := Lib.hid hm
  unfold RdPost at cT ⊢
  clear h hX hX2 hst hs hl hk
  go_enter Try.func56, Try.ntmps56
  go_wp2_with (go_at_call 85; refine cT.mono ?_; rintro e w1 ⟨rfl, h1⟩; have H1 := Lib.hid h1; clear h1)
  go_loopw [5, 13] (fun nv iv wr => ∃ i a : Nat, i ≤ m ∧ iv = .int .i64 i ∧ nv = .int .i64 a ∧ a < 256 ^ i ∧ foldB a (s.data.toList.drop i) = X ∧ wr = w1) (fun _ iv _ => m - (intOf iv).toNat)
  case atStart => exact ⟨0, 0, by omega, rfl, rfl, by decide, HX.out, rfl⟩
  case round =>
    obtain ⟨i, a, hi, rfl, rfl, ha, hf, rfl⟩ := hrel
    have HF := Lib.hid hf
    have HA := Lib.hid ha
    clear hf ha
    by_cases him : i < m
    · have hiz : (i : Int) < (m : Int) := by omega
      have hi0 : (0 : Int) ≤ (i : Int) := by omega
      have hlt : i < s.size := by rw [hm]; exact him
      have hi2 : (i : Int) < (s.size : Int) := by omega
      go_wp2_with fail
      have hb8 := UInt8.toNat_lt (s[i]'hlt)
      have hp : 256 ^ i ≤ 16777216 := Nat.le_trans (Nat.pow_le_pow_right (by decide) (show i ≤ 3 by omega)) (by decide)
      have ha16 := HA.out
      have hv : bits .or .i64 (wrap64 ((a : Int) * 256)) (wrap64 ((s[i]'hlt).toNat : Int)) = ((a * 256 + (s[i]'hlt).toNat : Nat) : Int) := by
        rw [IntWalk.wrap64_in _ (by omega), IntWalk.wrap64_in _ (by omega), show ((a : Int) * 256) = ((a * 256 : Nat) : Int) by omega, bits_or_nat _ _ (by omega) (by omega), or_byte _ _ hb8]
      refine ⟨⟨i + 1, a * 256 + (s[i]'hlt).toNat, by omega, by first | rfl | (congr 1), by rw [hv], ?_, ?_, trivial⟩, ?_⟩
      · rw [Nat.pow_succ]
        omega
      · have h9 := HF.out
        have hx : s.data.toList[i]? = some (s[i]'hlt) := by
          rw [List.getElem?_eq_getElem (by rw [Array.length_toList]; exact hlt)]
          rfl
        rw [List.drop_eq_getElem_cons (by rw [Array.length_toList]; exact hlt)] at h9
        exact h9
      · simp [intOf]
        omega
    · have hiz : ¬ (i : Int) < (m : Int) := by omega
      have hE : Hid (a = X) := Lib.hid (by
        have h9 := HF.out
        rw [List.drop_of_length_le (by rw [Array.length_toList]; show s.size ≤ i; omega)] at h9
        exact h9)
      go_wp2_with fail
      go_ret
      rw [hE.out]
      exact ⟨rfl, H1.out⟩
set_option maxHeartbeats 2000000 in
set_option maxRecDepth 100000 in
theorem rname_c (b : Nat) (l : List UInt8) (w : World) (h : RdIs b l w) (hl : l.length ≤ 100000) :
    Calls Try.prog 57 #[ptV b] w (RdPost b w (nmR l) (.string (nmL l))) := by
  have cN := rnumber_c b 1 l w h (by omega) hl
  have hr : rdN 1 l ≤ 255 := by
    have h1 : rdN 1 l < 256 ^ (0 + (l.take 1).length) := foldB_lt (l.take 1) 0 0 (by decide)
    have h2 : (l.take 1).length ≤ 1 := by rw [List.length_take]; omega
    have h3 : 256 ^ (0 + (l.take 1).length) ≤ 256 ^ 1 := Nat.pow_le_pow_right (by decide) (by omega)
    omega
  have cT : Hid (∀ W, RdIs b (l.drop 1) W → Calls Try.prog 85 #[ptV b, .int .i64 (rdN 1 l : Int)] W (RdPost b W (nmR l) (.string (nmL l)))) := Lib.hid fun W hW => takeD_c b (rdN 1 l) (l.drop 1) W hW hr (by rw [List.length_drop]; omega)
  have hsz : (nmL l).size ≤ 281474976710656 := by
    show (nmL l).data.size ≤ _
    unfold nmL
    rw [← Array.length_toList]
    simp only [List.length_take, List.length_drop]
    omega
  have cC := fun W => deClone_c (nmL l) W hsz
  generalize nmL l = R at *
  generalize nmR l = M at *
  generalize rdN 1 l = K at *
  unfold RdPost at cN cT ⊢
  clear h hr hsz
  go_enter Try.func57, Try.ntmps57
  go_wp2_with (first | (go_at_call 56; refine cN.mono ?_; rintro e w1 ⟨rfl, h1, hb1, hf1⟩; have cTT := cT.out w1 h1; have HB1 := Lib.hid hb1; have HF1 := Lib.hid hf1; clear h1 hb1 hf1) | (go_at_call 85; refine cTT.mono ?_; rintro e w2 ⟨rfl, h2, hb2, hf2⟩; have H2 := Lib.hid h2; have HB2 := Lib.hid (HB1.out.trans hb2); have HF2 := Lib.hid (HF1.out.trans hf2); clear h2 hb2 hf2) | (go_at_call 78; refine (cC _).mono ?_; rintro e w3 ⟨rfl, hb3⟩; have HB3 := Lib.hid hb3; clear hb3))
  go_ret
  refine ⟨rfl, (HB3.out.block _ (lt_of_get H2.out)).trans H2.out, HB2.out.trans (HB3.out.mono (Nat.le_of_lt (lt_of_get H2.out))), HF2.out.trans fun T0 _ _ => KeptT.below HB3.out⟩
set_option maxHeartbeats 2000000 in
set_option maxRecDepth 100000 in
theorem rflag_c (b : Nat) (l : List UInt8) (w : World) (h : RdIs b l w) (hl : l.length ≤ 100000) :
    Calls Try.prog 59 #[ptV b] w (RdPost b w (l.drop 1) (.bool (decide (rdN 1 l = 1)))) := by
  have cN := rnumber_c b 1 l w h (by omega) hl
  generalize l.drop 1 = M at *
  generalize rdN 1 l = K at *
  unfold RdPost at cN ⊢
  clear h
  have hK : ((K : Int) == 1) = decide (K = 1) := by
    rw [Bool.eq_iff_iff, beq_iff_eq, decide_eq_true_eq]
    omega
  have HK := Lib.hid hK
  clear hK
  go_enter Try.func59, Try.ntmps59
  go_wp2_with (go_at_call 56; refine cN.mono ?_; rintro e w1 ⟨rfl, h1⟩; have H1 := Lib.hid h1; clear h1)
  go_ret
  exact ⟨by first | rfl | (go_simp; exact HK.out) | (simp; exact HK.out), H1.out⟩
end Go.Proofs.Ythjieagmglbonaa
