/-
  A reader of bytes: numbers, names, flags, and whether more was asked for than there was. It may be the first part of a larger thing.
-/
import Derived.Test.YtddobjhahohhhaaGreatBuR
import Derived.Test.YtddobjhahohhhaaGreatFiWrite
import Derived.Test.YtddobjhahohhhaaGreatFiMath
import Derived.Test.YtddobjhahohhhaaGreatShelf
namespace Go.Proofs.YtddobjhahohhhaaGreat
open Go.RowKit Go.Sort
set_option linter.unusedVariables false

/-- The reader at block b has these bytes before it; p: more was asked for. -/
def RdIs (T : TypeId) (b : Nat) (l : List UInt8) (p : Bool) (w : World) : Prop := w.heap[b]? = some (.cells #[.string ⟨l.toArray⟩, .bool p] T (0, 0))
theorem rd_grown_trans {a w w' : World} {row : Option Nat} (h : a.grownBy w row) (k : w.grownBy w' row) : a.grownBy w' row :=
  ⟨k.os.trans h.os, k.tape.trans h.tape, k.output.trans h.output, Nat.le_trans h.size k.size, fun j hj hn => (k.block j (Nat.lt_of_lt_of_le hj h.size) hn).trans (h.block j hj hn)⟩
theorem rd_grown_set (w : World) (b i : Nat) (v : Value) : w.grownBy (w.setCell ⟨b, i, none⟩ v) (some b) :=
  have h := (Below.refl b w).setCell (p := ⟨b, i, none⟩) (Nat.le_refl _) v
  ⟨h.os, h.tape, h.output, h.size, fun j hj hn => Below.heap_setCell w ⟨b, i, none⟩ v j fun e => hn (by rw [show j = b from e])⟩
theorem rd_grown_below {w w' : World} (h : Below w.heap.size w w') (row : Option Nat) : w.grownBy w' row := ⟨h.os, h.tape, h.output, h.size, fun j hj _ => h.block j hj⟩
theorem rd_grown_to_below {w w' : World} {b : Nat} (h : w.grownBy w' (some b)) (hb : b ≤ w.heap.size) : Below b w w' := (Below.refl b w).grown h hb fun k hk => Nat.le_of_eq (Option.some.inj hk)
/-- All but the reader's block stays; and what is new. -/
def RdPost (T : TypeId) (b : Nat) (w : World) (l : List UInt8) (p : Bool) (v : Value) (e : Ending) (w' : World) : Prop := e = .returned v ∧ RdIs T b l p w' ∧ w.grownBy w' (some b)
theorem rd_grown_fr {T : TypeId} {b : Nat} {l : List UInt8} {p : Bool} {w w' : World} (h : RdIs T b l p w) (hg : w.grownBy w' (some b)) : FrB T w w' := fun T0 _ h2 k cs fr hk => by
  rw [hg.block k (lt_of_get hk) (fun e => by
    obtain rfl := Option.some.inj e
    rw [h] at hk
    injection hk with hk
    injection hk with _ h3 _
    exact h2 h3.symm)]
  exact hk
theorem RdIs.set {T : TypeId} {b : Nat} {l : List UInt8} {p : Bool} {w : World} (h : RdIs T b l p w) (m : List UInt8) : RdIs T b m p (w.setCell ⟨b, 0, none⟩ (.string ⟨m.toArray⟩)) ∧ w.grownBy (w.setCell ⟨b, 0, none⟩ (.string ⟨m.toArray⟩)) (some b) := by
  refine ⟨?_, rd_grown_set w b 0 _⟩
  unfold RdIs at *
  rw [heap_setCell_same _ b 0 _ _ _ h]
  rfl
theorem RdIs.mark {T : TypeId} {b : Nat} {l : List UInt8} {p : Bool} {w : World} (h : RdIs T b l p w) (q : Bool) : RdIs T b l q (w.setCell ⟨b, 1, none⟩ (.bool q)) ∧ w.grownBy (w.setCell ⟨b, 1, none⟩ (.bool q)) (some b) := by
  refine ⟨?_, rd_grown_set w b 1 _⟩
  unfold RdIs at *
  rw [heap_setCell_same _ b 1 _ _ _ h]
  rfl
theorem text_take (l : List UInt8) (k : Nat) (h : k ≤ l.length) : (⟨l.toArray⟩ : ByteArray).extract 0 k = ⟨(l.take k).toArray⟩ := by
  apply ByteArray.ext
  rw [ByteArray.data_extract]
  apply Array.toList_inj.1
  rw [Array.toList_extract, List.extract_eq_take_drop]
  simp only [List.drop_zero, Nat.sub_zero]
theorem text_drop (l : List UInt8) (k : Nat) (h : k ≤ l.length) : (⟨l.toArray⟩ : ByteArray).extract k l.length = ⟨(l.drop k).toArray⟩ := by
  apply ByteArray.ext
  rw [ByteArray.data_extract]
  apply Array.toList_inj.1
  rw [Array.toList_extract, List.extract_eq_take_drop]
  exact List.take_of_length_le (by rw [List.length_drop]; exact Nat.le_refl _)
set_option maxHeartbeats 2000000 in
set_option maxRecDepth 100000 in
theorem takeD_c {T : TypeId} (b k : Nat) (l : List UInt8) (p : Bool) (w : World) (h : RdIs T b l p w) (hk : k ≤ 255) (hl : l.length ≤ 100000) :
    Calls Tryz.prog 48 #[ptV b, .int .i64 (k : Int)] w (RdPost T b w (l.drop k) (p || decide (l.length < k)) (.string ⟨(l.take k).toArray⟩)) := by
  unfold RdPost
  have c0 : w.cell? ⟨b, 0, none⟩ = some (.string ⟨l.toArray⟩) := Lib.cell_of_heap h 0
  have f0 : w.frozen? ⟨b, 0, none⟩ = false := Lib.frozen_of_heap h 0
  have f1 : w.frozen? ⟨b, 1, none⟩ = false := Lib.frozen_of_heap h 1
  have d1 : w.cell? ⟨b, 1, none⟩ = some (.bool p) := Lib.cell_of_heap h 1
  have hsz : (⟨l.toArray⟩ : ByteArray).size = l.length := rfl
  by_cases hlt : l.length < k
  · have H := Lib.hid (h.mark true)
    have hi : (l.length : Int) < (k : Int) := by omega
    have e1 := text_take l l.length (Nat.le_refl _)
    have e2 := text_drop l l.length (Nat.le_refl _)
    rw [List.take_of_length_le (Nat.le_refl _)] at e1
    rw [List.drop_of_length_le (Nat.le_refl _)] at e2
    have c1 : (w.setCell ⟨b, 1, none⟩ (.bool true)).cell? ⟨b, 0, none⟩ = some (.string ⟨l.toArray⟩) := Lib.cell_of_heap H.out.1 0
    have g0 : (w.setCell ⟨b, 1, none⟩ (.bool true)).frozen? ⟨b, 0, none⟩ = false := Lib.frozen_of_heap H.out.1 0
    have HE := Lib.hid (And.intro e1 e2)
    rw [decide_eq_true hlt, Bool.or_true, List.drop_of_length_le (show l.length ≤ k by omega), List.take_of_length_le (show l.length ≤ k by omega)]
    clear h e1 e2
    go_enter Tryz.func48, Tryz.ntmps48
    go_wp2_with fail
    go_ret
    have h9 := H.out.1.set []
    have e1 := HE.out.1
    refine ⟨by first | rfl | (rw [← e1]; rfl) | (rw [e1]; rfl), h9.1, rd_grown_trans H.out.2 h9.2⟩
  · have hi : ¬ (l.length : Int) < (k : Int) := by omega
    have e1 := text_take l k (by omega)
    have e2 := text_drop l k (by omega)
    have H := Lib.hid h
    have HE := Lib.hid (And.intro e1 e2)
    rw [decide_eq_false hlt, Bool.or_false]
    clear h e1 e2
    go_enter Tryz.func48, Tryz.ntmps48
    go_wp2_with fail
    go_ret
    have e1 := HE.out.1
    have e2 := HE.out.2
    have h9 := H.out.set (l.drop k)
    rw [e2]
    exact ⟨by first | rfl | (rw [← e1]; rfl) | (rw [e1]; rfl), h9.1, h9.2⟩
theorem deClone_c (s : ByteArray) (w : World) (hs : s.size ≤ 281474976710656) : Calls Tryz.prog 79 #[.string s] w fun e w' => e = .returned (.string s) ∧ Below w.heap.size w w' := by
  have cC := Tryz.stringslite_Clone s w hs
  go_enter Tryz.func79, Tryz.ntmps79
  go_wp2_with fail
  refine cC.mono ?_
  rintro e w1 ⟨rfl, hb⟩
  have HB := Lib.hid hb
  clear hb cC
  go_wp2
  go_ret
  exact ⟨rfl, HB.out⟩
set_option maxHeartbeats 2000000 in
set_option maxRecDepth 100000 in
theorem rnumber_c {T : TypeId} (b k : Nat) (l : List UInt8) (p : Bool) (w : World) (h : RdIs T b l p w) (hk : k ≤ 8) (hl : l.length ≤ 100000) :
    Calls Tryz.prog 24 #[ptV b, .int .i64 (k : Int)] w (RdPost T b w (l.drop k) (p || decide (l.length < k)) (.int .i64 (valI k l))) := by
  have cT := takeD_c b k l p w h (by omega) hl
  obtain ⟨X, hX⟩ : ∃ X, rdN k l = X := ⟨_, rfl⟩
  unfold valI
  rw [hX]
  obtain ⟨s, hs⟩ : ∃ s : ByteArray, (⟨(l.take k).toArray⟩ : ByteArray) = s := ⟨_, rfl⟩
  have hst : s.data.toList = l.take k := by rw [← hs]
  have hX2 : foldB 0 s.data.toList = X := by rw [hst]; exact hX
  obtain ⟨m, hm⟩ : ∃ m, s.size = m := ⟨_, rfl⟩
  have hm4 : m ≤ 8 := by
    have : s.data.toList.length = s.size := Array.length_toList
    rw [← hm, ← this, hst, List.length_take]
    omega
  rw [hs] at cT
  generalize (p || decide (l.length < k)) = P at *
  have HX := Lib.hid hX2
  have HM := Lib.hid hm
  unfold RdPost at cT ⊢
  clear h hX hX2 hst hs hl hk
  go_enter Tryz.func24, Tryz.ntmps24
  go_wp2_with (go_at_call 48; refine cT.mono ?_; rintro e w1 ⟨rfl, h1⟩; have H1 := Lib.hid h1; clear h1)
  go_loopw [5, 13] (fun nv iv wr => ∃ i a : Nat, i ≤ m ∧ iv = .int .i64 i ∧ nv = .int .i64 (wrap64 (a : Int)) ∧ a < 256 ^ i ∧ foldB a (s.data.toList.drop i) = X ∧ wr = w1) (fun _ iv _ => m - (intOf iv).toNat)
  case atStart => exact ⟨0, 0, by omega, rfl, by rw [IntWalk.wrap64_in _ (by omega)]; rfl, by decide, HX.out, rfl⟩
  case round =>
    obtain ⟨i, a, hi, rfl, rfl, ha, hf, rfl⟩ := hrel
    have HF := Lib.hid hf
    have HA := Lib.hid ha
    clear hf ha
    by_cases him : i < m
    · have hiz : (i : Int) < (m : Int) := by omega
      have hi0 : (0 : Int) ≤ (i : Int) := by omega
      have hlt : i < s.size := by rw [hm]; exact him
      have hi2 : (i : Int) < (s.size : Int) := by omega
      have hp : 256 ^ i ≤ 72057594037927936 := Nat.le_trans (Nat.pow_le_pow_right (by decide) (show i ≤ 7 by omega)) (by decide)
      have ha7 : a < 72057594037927936 := Nat.lt_of_lt_of_le HA.out hp
      have hwa : wrap64 (a : Int) = (a : Int) := IntWalk.wrap64_in _ (by omega)
      rw [hwa]
      have hb8 := UInt8.toNat_lt (s[i]'hlt)
      have hv := bits_or_byte a (s[i]'hlt).toNat ha7 hb8
      have HV := Lib.hid hv
      clear hv hwa
      go_wp2_with fail
      have hv := HV.out
      refine ⟨⟨i + 1, a * 256 + (s[i]'hlt).toNat, by omega, by first | rfl | (congr 1), by rw [hv], ?_, ?_, trivial⟩, ?_⟩
      · have ha16 := HA.out
        rw [Nat.pow_succ]
        omega
      · have h9 := HF.out
        rw [List.drop_eq_getElem_cons (by rw [Array.length_toList]; exact hlt)] at h9
        exact h9
      · simp [intOf]
        omega
    · have hiz : ¬ (i : Int) < (m : Int) := by omega
      have hE : Hid (a = X) := Lib.hid (by
        have h9 := HF.out
        rw [List.drop_of_length_le (by rw [Array.length_toList]; show s.size ≤ i; omega)] at h9
        exact h9)
      go_wp2_with fail
      go_ret
      rw [hE.out]
      exact ⟨rfl, H1.out⟩
set_option maxHeartbeats 2000000 in
set_option maxRecDepth 100000 in
theorem rname_c {T : TypeId} (b : Nat) (l : List UInt8) (p : Bool) (w : World) (h : RdIs T b l p w) (hl : l.length ≤ 100000) :
    Calls Tryz.prog 80 #[ptV b] w (RdPost T b w (nmR l) (p || nmP l) (.string (nmL l))) := by
  have cN := rnumber_c b 1 l p w h (by omega) hl
  rw [valI_small 1 l (by omega)] at cN
  have hr : rdN 1 l ≤ 255 := by have := rdN_lt 1 l; omega
  have cT : Hid (∀ W, RdIs T b (l.drop 1) (p || decide (l.length < 1)) W → Calls Tryz.prog 48 #[ptV b, .int .i64 (rdN 1 l : Int)] W (RdPost T b W (nmR l) (p || nmP l) (.string (nmL l)))) := Lib.hid fun W hW => by
    have h9 := takeD_c b (rdN 1 l) (l.drop 1) _ W hW hr (by rw [List.length_drop]; omega)
    rw [Bool.or_assoc] at h9
    exact h9
  have hsz : (nmL l).size ≤ 281474976710656 := by
    show (nmL l).data.size ≤ _
    unfold nmL
    rw [← Array.length_toList]
    simp only [List.length_take, List.length_drop]
    omega
  have cC := fun W => deClone_c (nmL l) W hsz
  generalize nmL l = R at *
  generalize nmR l = M at *
  generalize (p || nmP l) = PP at *
  generalize (p || decide (l.length < 1)) = P1 at *
  generalize rdN 1 l = K at *
  unfold RdPost at cN cT ⊢
  have hK : wrap64 (K : Int) = K := IntWalk.wrap64_in _ (by omega)
  clear h hr hsz
  go_enter Tryz.func80, Tryz.ntmps80
  go_wp2_with (first | (go_at_call 24; refine cN.mono ?_; rintro e w1 ⟨rfl, h1, hb1⟩; have cTT := cT.out w1 h1; have HB1 := Lib.hid hb1; clear h1 hb1) | (go_at_call 48; refine cTT.mono ?_; rintro e w2 ⟨rfl, h2, hb2⟩; have H2 := Lib.hid h2; have HB2 := Lib.hid (rd_grown_trans HB1.out hb2); clear h2 hb2) | (go_at_call 79; refine (cC _).mono ?_; rintro e w3 ⟨rfl, hb3⟩; have HB3 := Lib.hid hb3; clear hb3))
  go_ret
  refine ⟨rfl, (HB3.out.block _ (lt_of_get H2.out)).trans H2.out, rd_grown_trans HB2.out (rd_grown_below HB3.out _)⟩
set_option maxHeartbeats 2000000 in
set_option maxRecDepth 100000 in
theorem rflag_c {T : TypeId} (b : Nat) (l : List UInt8) (p : Bool) (w : World) (h : RdIs T b l p w) (hl : l.length ≤ 100000) :
    Calls Tryz.prog 81 #[ptV b] w (RdPost T b w (l.drop 1) (p || decide (l.length < 1)) (.bool (decide (rdN 1 l = 1)))) := by
  have cN := rnumber_c b 1 l p w h (by omega) hl
  rw [valI_small 1 l (by omega)] at cN
  generalize l.drop 1 = M at *
  generalize rdN 1 l = K at *
  generalize (p || decide (l.length < 1)) = P1 at *
  unfold RdPost at cN ⊢
  clear h
  have hK : ((K : Int) == 1) = decide (K = 1) := by
    rw [Bool.eq_iff_iff, beq_iff_eq, decide_eq_true_eq]
    omega
  have HK := Lib.hid hK
  clear hK
  go_enter Tryz.func81, Tryz.ntmps81
  go_wp2_with (go_at_call 24; refine cN.mono ?_; rintro e w1 ⟨rfl, h1⟩; have H1 := Lib.hid h1; clear h1)
  go_ret
  exact ⟨by first | rfl | (go_simp; exact HK.out) | (simp; exact HK.out), H1.out⟩
set_option maxHeartbeats 2000000 in
set_option maxRecDepth 100000 in
theorem rpast_c {T : TypeId} (b : Nat) (l : List UInt8) (p : Bool) (w : World) (h : RdIs T b l p w) :
    Calls Tryz.prog 53 #[ptV b] w fun e w' => e = .returned (.bool p) ∧ w' = w := by
  have c1 : w.cell? ⟨b, 1, none⟩ = some (.bool p) := Lib.cell_of_heap h 1
  clear h
  go_enter Tryz.func53, Tryz.ntmps53
  go_wp2_with fail
  go_ret
  exact ⟨rfl, rfl⟩
set_option maxHeartbeats 2000000 in
set_option maxRecDepth 100000 in
theorem newReader_c (s : ByteArray) (w : World) :
    Calls Tryz.prog 47 #[.string s] w fun e w' => e = .returned (.agg #[.string s, .bool false]) ∧ Below w.heap.size w w' := by
  go_enter Tryz.func47, Tryz.ntmps47
  go_wp2_with fail
  (try simp only [Exit.inBlock, Exit.then])
  exact bodyPost_ret (results_cell_row Tryz.results47 _ _ _ _ _ _ _ rfl (heap_alloc_new _ _) Tryz.underlying73 rfl (by kernel_rfl)) rfl ⟨rfl, (Below.refl _ _).alloc (Nat.le_refl _) _⟩
end Go.Proofs.YtddobjhahohhhaaGreat
