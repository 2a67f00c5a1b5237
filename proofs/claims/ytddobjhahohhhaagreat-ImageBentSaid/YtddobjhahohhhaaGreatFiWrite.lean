/-
  A writer of bytes: numbers, names, flags, and its text. It may be the first part of a larger thing.
-/
import Derived.Test.YtddobjhahohhhaaGreatBuR
import Derived.Test.YtddobjhahohhhaaGreatDeMath
import Derived.StillTailTactics
namespace Go.Proofs.YtddobjhahohhhaaGreat
open Go.RowKit Go.Sort
set_option linter.unusedVariables false

abbrev WrB (T : TypeId) := IsBld T []
def WrPost (T : TypeId) (B b : Nat) (w : World) (l : List UInt8) (e : Ending) (w' : World) : Prop := e = .returned (.tuple #[]) ∧ WrB T B b (Lib.byteCells l) w' ∧ Below B w w' ∧ FrB T w w'
theorem FrB.refl {T : TypeId} (w : World) : FrB T w w := fun _ _ _ => KeptT.refl _
theorem FrB.trans {T : TypeId} {a b c : World} (h : FrB T a b) (h' : FrB T b c) : FrB T a c := fun T0 h1 h2 => (h T0 h1 h2).trans (h' T0 h1 h2)
theorem byteCells_snoc (u : List UInt8) (x : UInt8) : Lib.byteCells u ++ [.int .u8 x.toNat] = Lib.byteCells (u ++ [x]) := by simp [Lib.byteCells]
set_option maxHeartbeats 4000000 in
set_option maxRecDepth 100000 in
theorem number_c {T : TypeId} (hT : HasBld T 0) (B b n k : Nat) (l : List UInt8) (w : World) (h : WrB T B b (Lib.byteCells l) w) (hn : n ≤ 9223372036854775807) (hk : k ≤ 8) (hl : l.length ≤ 1000000) (hBw : B ≤ w.heap.size) :
    Calls Tryz.prog 17 #[ptV b, .int .i64 (n : Int), .int .i64 (k : Int)] w (WrPost T B b w (l ++ beB n k)) := by
  unfold WrPost
  have cW : Hid (∀ (u : List UInt8) (c : Int) (W : World), WrB T B b (Lib.byteCells u) W → u.length ≤ 1000008 → B ≤ W.heap.size → Calls Tryz.prog 42 #[.pointer (some ⟨b, 0, none⟩), .int .u8 c] W fun e w' => e = .returned .nilIface ∧ (Bld T [] B b (.pointer (some ⟨b, 0, none⟩)) (Lib.byteCells u ++ [.int .u8 c]) w' ∧ Below B W w' ∧ FrB T W w')) :=
    Lib.hid fun u c W hu hul hB => wbyte_c hT B b (Lib.byteCells u) c W hu (by rw [Lib.byteCells_length]; omega) hB
  have H := Lib.hid h
  clear h hT
  go_enter Tryz.func17, Tryz.ntmps17
  go_wp2
  go_loopw [6] (fun iv wr => ∃ (z : Int) (j : Nat) (u : List UInt8), iv = .int .i64 z ∧ z + 1 = j ∧ j ≤ k ∧ WrB T B b (Lib.byteCells u) wr ∧ u ++ beB n j = l ++ beB n k ∧ Below B w wr ∧ FrB T w wr) (fun iv _ => (intOf iv + 1).toNat)
  case atStart => exact ⟨(k : Int) - 1, k, l, by first | rfl | go_num, by omega, Nat.le_refl _, H.out, rfl, Below.refl _ _, FrB.refl _⟩
  case round =>
    obtain ⟨z, j, u, rfl, hz, hj, hu, hul, hb, hf⟩ := hrel
    have HU := Lib.hid hu
    have HUL := Lib.hid hul
    have HB := Lib.hid hb
    have HF := Lib.hid hf
    have hlen := congrArg List.length hul
    rw [List.length_append, List.length_append, beB_len, beB_len] at hlen
    have hbs := hb.size
    have hu4 : u.length ≤ 1000008 := by omega
    have hBr : B ≤ wr.heap.size := by omega
    have cWW := cW.out u
    have HUL4 := Lib.hid hu4
    have HBR := Lib.hid hBr
    clear hu hul hb hf hlen hbs hu4 hBr
    cases j with
    | zero =>
      obtain rfl : z = -1 := by omega
      clear hz
      go_wp2
      go_end0
      refine ⟨rfl, ?_, HB.out, HF.out⟩
      have h9 := HUL.out
      simp only [beB, List.append_nil] at h9
      rw [← h9]
      exact HU.out
    | succ i =>
      have hcase : (i = 0 ∧ z = 0) ∨ (i = 1 ∧ z = 1) ∨ (i = 2 ∧ z = 2) ∨ (i = 3 ∧ z = 3) ∨ (i = 4 ∧ z = 4) ∨ (i = 5 ∧ z = 5) ∨ (i = 6 ∧ z = 6) ∨ (i = 7 ∧ z = 7) := by omega
      clear hz
      have hw0 : IntKind.i64.wrap 0 = 0 := by decide
      have hw8 : IntKind.i64.wrap 8 = 8 := by decide
      have hw16 : IntKind.i64.wrap 16 = 16 := by decide
      have hw24 : IntKind.i64.wrap 24 = 24 := by decide
      have hw32 : IntKind.i64.wrap 32 = 32 := by decide
      have hw40 : IntKind.i64.wrap 40 = 40 := by decide
      have hw48 : IntKind.i64.wrap 48 = 48 := by decide
      have hw56 : IntKind.i64.wrap 56 = 56 := by decide
      rcases hcase with ⟨rfl, rfl⟩ | ⟨rfl, rfl⟩ | ⟨rfl, rfl⟩ | ⟨rfl, rfl⟩ | ⟨rfl, rfl⟩ | ⟨rfl, rfl⟩ | ⟨rfl, rfl⟩ | ⟨rfl, rfl⟩
      · have hx : (n : Int) % 256 = ((UInt8.ofNat (n / 256 ^ 0)).toNat : Int) := by rw [u8_of]; omega
        have HX := Lib.hid hx
        have HU2 : Hid (u ++ [UInt8.ofNat (n / 256 ^ 0)] ++ beB n 0 = l ++ beB n k) := Lib.hid (by rw [List.append_assoc]; exact HUL.out)
        clear hx
        go_wp2_with fail
        go_still_tail 8, (by kernel_rfl)
        change wpList _ _ _ _ _ wr.drew
        have hd : Below B wr wr.drew := Below.drew (Below.refl _ _)
        have HW2 : Hid (WrB T B b (Lib.byteCells u) wr.drew) := Lib.hid (HU.out.below (Below.drew (Below.refl _ _)))
        have HB2 : Hid (Below B w wr.drew) := Lib.hid (HB.out.trans hd)
        have HF2 : Hid (FrB T w wr.drew) := Lib.hid (HF.out.trans fun T0 _ _ => KeptT.below (Below.drew (Below.refl _ _)))
        have HS2 : Hid (B ≤ wr.drew.heap.size) := Lib.hid HBR.out
        clear hd
        generalize wr.drew = w2 at *
        go_wp2_with (go_at_call 42; refine (cWW _ w2 HW2.out HUL4.out HS2.out).mono ?_; rintro e w3 ⟨rfl, hw3, hb3, hf3⟩; have HW3 := Lib.hid hw3; have HB3 := Lib.hid (HB2.out.trans hb3); have HF3 := Lib.hid (HF2.out.trans hf3); clear hw3 hb3 hf3)
        go_roundw
        case rel => exact ⟨_, 0, _, rfl, by first | rfl | decide, by omega, by have h9 := HW3.out; rw [HX.out, byteCells_snoc] at h9; exact Or.inr h9, HU2.out, HB3.out, HF3.out⟩
        case measure => simp [intOf] <;> omega
      · have hx : (n : Int) / 256 % 256 = ((UInt8.ofNat (n / 256 ^ 1)).toNat : Int) := by rw [u8_of]; omega
        have HX := Lib.hid hx
        have HU2 : Hid (u ++ [UInt8.ofNat (n / 256 ^ 1)] ++ beB n 1 = l ++ beB n k) := Lib.hid (by rw [List.append_assoc]; exact HUL.out)
        clear hx
        go_wp2_with fail
        go_still_tail 8, (by kernel_rfl)
        change wpList _ _ _ _ _ wr.drew
        have hd : Below B wr wr.drew := Below.drew (Below.refl _ _)
        have HW2 : Hid (WrB T B b (Lib.byteCells u) wr.drew) := Lib.hid (HU.out.below (Below.drew (Below.refl _ _)))
        have HB2 : Hid (Below B w wr.drew) := Lib.hid (HB.out.trans hd)
        have HF2 : Hid (FrB T w wr.drew) := Lib.hid (HF.out.trans fun T0 _ _ => KeptT.below (Below.drew (Below.refl _ _)))
        have HS2 : Hid (B ≤ wr.drew.heap.size) := Lib.hid HBR.out
        clear hd
        generalize wr.drew = w2 at *
        go_wp2_with (go_at_call 42; refine (cWW _ w2 HW2.out HUL4.out HS2.out).mono ?_; rintro e w3 ⟨rfl, hw3, hb3, hf3⟩; have HW3 := Lib.hid hw3; have HB3 := Lib.hid (HB2.out.trans hb3); have HF3 := Lib.hid (HF2.out.trans hf3); clear hw3 hb3 hf3)
        go_roundw
        case rel => exact ⟨_, 1, _, rfl, by first | rfl | decide, by omega, by have h9 := HW3.out; rw [HX.out, byteCells_snoc] at h9; exact Or.inr h9, HU2.out, HB3.out, HF3.out⟩
        case measure => simp [intOf] <;> omega
      · have hx : (n : Int) / 65536 % 256 = ((UInt8.ofNat (n / 256 ^ 2)).toNat : Int) := by rw [u8_of]; omega
        have HX := Lib.hid hx
        have HU2 : Hid (u ++ [UInt8.ofNat (n / 256 ^ 2)] ++ beB n 2 = l ++ beB n k) := Lib.hid (by rw [List.append_assoc]; exact HUL.out)
        clear hx
        go_wp2_with fail
        go_still_tail 8, (by kernel_rfl)
        change wpList _ _ _ _ _ wr.drew
        have hd : Below B wr wr.drew := Below.drew (Below.refl _ _)
        have HW2 : Hid (WrB T B b (Lib.byteCells u) wr.drew) := Lib.hid (HU.out.below (Below.drew (Below.refl _ _)))
        have HB2 : Hid (Below B w wr.drew) := Lib.hid (HB.out.trans hd)
        have HF2 : Hid (FrB T w wr.drew) := Lib.hid (HF.out.trans fun T0 _ _ => KeptT.below (Below.drew (Below.refl _ _)))
        have HS2 : Hid (B ≤ wr.drew.heap.size) := Lib.hid HBR.out
        clear hd
        generalize wr.drew = w2 at *
        go_wp2_with (go_at_call 42; refine (cWW _ w2 HW2.out HUL4.out HS2.out).mono ?_; rintro e w3 ⟨rfl, hw3, hb3, hf3⟩; have HW3 := Lib.hid hw3; have HB3 := Lib.hid (HB2.out.trans hb3); have HF3 := Lib.hid (HF2.out.trans hf3); clear hw3 hb3 hf3)
        go_roundw
        case rel => exact ⟨_, 2, _, rfl, by first | rfl | decide, by omega, by have h9 := HW3.out; rw [HX.out, byteCells_snoc] at h9; exact Or.inr h9, HU2.out, HB3.out, HF3.out⟩
        case measure => simp [intOf] <;> omega
      · have hx : (n : Int) / 16777216 % 256 = ((UInt8.ofNat (n / 256 ^ 3)).toNat : Int) := by rw [u8_of]; omega
        have HX := Lib.hid hx
        have HU2 : Hid (u ++ [UInt8.ofNat (n / 256 ^ 3)] ++ beB n 3 = l ++ beB n k) := Lib.hid (by rw [List.append_assoc]; exact HUL.out)
        clear hx
        go_wp2_with fail
        go_still_tail 8, (by kernel_rfl)
        change wpList _ _ _ _ _ wr.drew
        have hd : Below B wr wr.drew := Below.drew (Below.refl _ _)
        have HW2 : Hid (WrB T B b (Lib.byteCells u) wr.drew) := Lib.hid (HU.out.below (Below.drew (Below.refl _ _)))
        have HB2 : Hid (Below B w wr.drew) := Lib.hid (HB.out.trans hd)
        have HF2 : Hid (FrB T w wr.drew) := Lib.hid (HF.out.trans fun T0 _ _ => KeptT.below (Below.drew (Below.refl _ _)))
        have HS2 : Hid (B ≤ wr.drew.heap.size) := Lib.hid HBR.out
        clear hd
        generalize wr.drew = w2 at *
        go_wp2_with (go_at_call 42; refine (cWW _ w2 HW2.out HUL4.out HS2.out).mono ?_; rintro e w3 ⟨rfl, hw3, hb3, hf3⟩; have HW3 := Lib.hid hw3; have HB3 := Lib.hid (HB2.out.trans hb3); have HF3 := Lib.hid (HF2.out.trans hf3); clear hw3 hb3 hf3)
        go_roundw
        case rel => exact ⟨_, 3, _, rfl, by first | rfl | decide, by omega, by have h9 := HW3.out; rw [HX.out, byteCells_snoc] at h9; exact Or.inr h9, HU2.out, HB3.out, HF3.out⟩
        case measure => simp [intOf] <;> omega
      · have hx : (n : Int) / 4294967296 % 256 = ((UInt8.ofNat (n / 256 ^ 4)).toNat : Int) := by rw [u8_of]; omega
        have HX := Lib.hid hx
        have HU2 : Hid (u ++ [UInt8.ofNat (n / 256 ^ 4)] ++ beB n 4 = l ++ beB n k) := Lib.hid (by rw [List.append_assoc]; exact HUL.out)
        clear hx
        go_wp2_with fail
        go_still_tail 8, (by kernel_rfl)
        change wpList _ _ _ _ _ wr.drew
        have hd : Below B wr wr.drew := Below.drew (Below.refl _ _)
        have HW2 : Hid (WrB T B b (Lib.byteCells u) wr.drew) := Lib.hid (HU.out.below (Below.drew (Below.refl _ _)))
        have HB2 : Hid (Below B w wr.drew) := Lib.hid (HB.out.trans hd)
        have HF2 : Hid (FrB T w wr.drew) := Lib.hid (HF.out.trans fun T0 _ _ => KeptT.below (Below.drew (Below.refl _ _)))
        have HS2 : Hid (B ≤ wr.drew.heap.size) := Lib.hid HBR.out
        clear hd
        generalize wr.drew = w2 at *
        go_wp2_with (go_at_call 42; refine (cWW _ w2 HW2.out HUL4.out HS2.out).mono ?_; rintro e w3 ⟨rfl, hw3, hb3, hf3⟩; have HW3 := Lib.hid hw3; have HB3 := Lib.hid (HB2.out.trans hb3); have HF3 := Lib.hid (HF2.out.trans hf3); clear hw3 hb3 hf3)
        go_roundw
        case rel => exact ⟨_, 4, _, rfl, by first | rfl | decide, by omega, by have h9 := HW3.out; rw [HX.out, byteCells_snoc] at h9; exact Or.inr h9, HU2.out, HB3.out, HF3.out⟩
        case measure => simp [intOf] <;> omega
      · have hx : (n : Int) / 1099511627776 % 256 = ((UInt8.ofNat (n / 256 ^ 5)).toNat : Int) := by rw [u8_of]; omega
        have HX := Lib.hid hx
        have HU2 : Hid (u ++ [UInt8.ofNat (n / 256 ^ 5)] ++ beB n 5 = l ++ beB n k) := Lib.hid (by rw [List.append_assoc]; exact HUL.out)
        clear hx
        go_wp2_with fail
        go_still_tail 8, (by kernel_rfl)
        change wpList _ _ _ _ _ wr.drew
        have hd : Below B wr wr.drew := Below.drew (Below.refl _ _)
        have HW2 : Hid (WrB T B b (Lib.byteCells u) wr.drew) := Lib.hid (HU.out.below (Below.drew (Below.refl _ _)))
        have HB2 : Hid (Below B w wr.drew) := Lib.hid (HB.out.trans hd)
        have HF2 : Hid (FrB T w wr.drew) := Lib.hid (HF.out.trans fun T0 _ _ => KeptT.below (Below.drew (Below.refl _ _)))
        have HS2 : Hid (B ≤ wr.drew.heap.size) := Lib.hid HBR.out
        clear hd
        generalize wr.drew = w2 at *
        go_wp2_with (go_at_call 42; refine (cWW _ w2 HW2.out HUL4.out HS2.out).mono ?_; rintro e w3 ⟨rfl, hw3, hb3, hf3⟩; have HW3 := Lib.hid hw3; have HB3 := Lib.hid (HB2.out.trans hb3); have HF3 := Lib.hid (HF2.out.trans hf3); clear hw3 hb3 hf3)
        go_roundw
        case rel => exact ⟨_, 5, _, rfl, by first | rfl | decide, by omega, by have h9 := HW3.out; rw [HX.out, byteCells_snoc] at h9; exact Or.inr h9, HU2.out, HB3.out, HF3.out⟩
        case measure => simp [intOf] <;> omega
      · have hx : (n : Int) / 281474976710656 % 256 = ((UInt8.ofNat (n / 256 ^ 6)).toNat : Int) := by rw [u8_of]; omega
        have HX := Lib.hid hx
        have HU2 : Hid (u ++ [UInt8.ofNat (n / 256 ^ 6)] ++ beB n 6 = l ++ beB n k) := Lib.hid (by rw [List.append_assoc]; exact HUL.out)
        clear hx
        go_wp2_with fail
        go_still_tail 8, (by kernel_rfl)
        change wpList _ _ _ _ _ wr.drew
        have hd : Below B wr wr.drew := Below.drew (Below.refl _ _)
        have HW2 : Hid (WrB T B b (Lib.byteCells u) wr.drew) := Lib.hid (HU.out.below (Below.drew (Below.refl _ _)))
        have HB2 : Hid (Below B w wr.drew) := Lib.hid (HB.out.trans hd)
        have HF2 : Hid (FrB T w wr.drew) := Lib.hid (HF.out.trans fun T0 _ _ => KeptT.below (Below.drew (Below.refl _ _)))
        have HS2 : Hid (B ≤ wr.drew.heap.size) := Lib.hid HBR.out
        clear hd
        generalize wr.drew = w2 at *
        go_wp2_with (go_at_call 42; refine (cWW _ w2 HW2.out HUL4.out HS2.out).mono ?_; rintro e w3 ⟨rfl, hw3, hb3, hf3⟩; have HW3 := Lib.hid hw3; have HB3 := Lib.hid (HB2.out.trans hb3); have HF3 := Lib.hid (HF2.out.trans hf3); clear hw3 hb3 hf3)
        go_roundw
        case rel => exact ⟨_, 6, _, rfl, by first | rfl | decide, by omega, by have h9 := HW3.out; rw [HX.out, byteCells_snoc] at h9; exact Or.inr h9, HU2.out, HB3.out, HF3.out⟩
        case measure => simp [intOf] <;> omega
      · have hx : (n : Int) / 72057594037927936 = ((UInt8.ofNat (n / 256 ^ 7)).toNat : Int) := by rw [u8_of]; omega
        have HX := Lib.hid hx
        have HU2 : Hid (u ++ [UInt8.ofNat (n / 256 ^ 7)] ++ beB n 7 = l ++ beB n k) := Lib.hid (by rw [List.append_assoc]; exact HUL.out)
        clear hx
        go_wp2_with fail
        go_still_tail 8, (by kernel_rfl)
        change wpList _ _ _ _ _ wr.drew
        have hd : Below B wr wr.drew := Below.drew (Below.refl _ _)
        have HW2 : Hid (WrB T B b (Lib.byteCells u) wr.drew) := Lib.hid (HU.out.below (Below.drew (Below.refl _ _)))
        have HB2 : Hid (Below B w wr.drew) := Lib.hid (HB.out.trans hd)
        have HF2 : Hid (FrB T w wr.drew) := Lib.hid (HF.out.trans fun T0 _ _ => KeptT.below (Below.drew (Below.refl _ _)))
        have HS2 : Hid (B ≤ wr.drew.heap.size) := Lib.hid HBR.out
        clear hd
        generalize wr.drew = w2 at *
        go_wp2_with (go_at_call 42; refine (cWW _ w2 HW2.out HUL4.out HS2.out).mono ?_; rintro e w3 ⟨rfl, hw3, hb3, hf3⟩; have HW3 := Lib.hid hw3; have HB3 := Lib.hid (HB2.out.trans hb3); have HF3 := Lib.hid (HF2.out.trans hf3); clear hw3 hb3 hf3)
        go_roundw
        case rel => exact ⟨_, 7, _, rfl, by first | rfl | decide, by omega, by have h9 := HW3.out; rw [HX.out, byteCells_snoc] at h9; exact Or.inr h9, HU2.out, HB3.out, HF3.out⟩
        case measure => simp [intOf] <;> omega
set_option maxHeartbeats 2000000 in
set_option maxRecDepth 100000 in
theorem wname_c {T : TypeId} (hT : HasBld T 0) (B b : Nat) (s : ByteArray) (l : List UInt8) (w : World) (h : WrB T B b (Lib.byteCells l) w) (hs : s.size ≤ 255) (hl : l.length ≤ 999000) (hBw : B ≤ w.heap.size) :
    Calls Tryz.prog 73 #[ptV b, .string s] w (WrPost T B b w (l ++ nameB s)) := by
  unfold WrPost
  have cN := number_c hT B b s.size 1 l w h (by omega) (by omega) (by omega) hBw
  unfold WrPost at cN
  have cW : Hid (∀ (u : List UInt8) (W : World), WrB T B b (Lib.byteCells u) W → u.length ≤ 1000008 → B ≤ W.heap.size → Calls Tryz.prog 90 #[.pointer (some ⟨b, 0, none⟩), .string s] W fun e w' => e = .returned (.tuple #[.int .i64 s.size, .nilIface]) ∧ (Bld T [] B b (.pointer (some ⟨b, 0, none⟩)) (Lib.byteCells u ++ Lib.strCells s) w' ∧ Below B W w' ∧ FrB T W w')) :=
    Lib.hid fun u W hu hul hB => wstr_c hT B b (Lib.byteCells u) s W hu (by rw [Lib.byteCells_length]; omega) hB
  have hl2 : (l ++ beB s.size 1).length ≤ 1000008 := by rw [List.length_append, beB_len]; omega
  have HL2 := Lib.hid hl2
  have HBW := Lib.hid hBw
  clear h hl2 hT
  go_enter Tryz.func73, Tryz.ntmps73
  go_wp2_with (first | (go_at_call 17; refine cN.mono ?_; rintro e w1 ⟨rfl, h1, hb1, hf1⟩; have cWW := cW.out _ w1 h1 HL2.out (Nat.le_trans HBW.out hb1.size); have HB1 := Lib.hid hb1; have HF1 := Lib.hid hf1; clear h1 hb1 hf1) | (go_at_call 90; refine cWW.mono ?_; rintro e w2 ⟨rfl, h2, hb2, hf2⟩; have HW2 := Lib.hid h2; have HB2 := Lib.hid (HB1.out.trans hb2); have HF2 := Lib.hid (HF1.out.trans hf2); clear h2 hb2 hf2))
  go_end0
  refine ⟨rfl, Or.inr ?_, HB2.out, HF2.out⟩
  have h9 := HW2.out
  unfold nameB
  rw [← List.append_assoc]
  have e9 : Lib.byteCells (l ++ beB s.size 1 ++ s.data.toList) = Lib.byteCells (l ++ beB s.size 1) ++ Lib.strCells s := by simp [Lib.byteCells, Lib.strCells]
  rw [e9]
  exact h9
set_option maxHeartbeats 2000000 in
set_option maxRecDepth 100000 in
theorem wflag_c {T : TypeId} (hT : HasBld T 0) (B b : Nat) (t : Bool) (l : List UInt8) (w : World) (h : WrB T B b (Lib.byteCells l) w) (hl : l.length ≤ 999000) (hBw : B ≤ w.heap.size) :
    Calls Tryz.prog 74 #[ptV b, .bool t] w (WrPost T B b w (l ++ beB (boolN t) 1)) := by
  have cN := number_c hT B b (boolN t) 1 l w h (by unfold boolN; split <;> omega) (by omega) (by omega) hBw
  unfold WrPost at cN ⊢
  clear h hT
  cases t with
  | true =>
    go_enter Tryz.func74, Tryz.ntmps74
    go_wp2_with (go_at_call 17; refine cN.mono ?_; rintro e w1 ⟨rfl, h1⟩; have H1 := Lib.hid h1; clear h1)
    go_end0
    exact ⟨rfl, H1.out⟩
  | false =>
    go_enter Tryz.func74, Tryz.ntmps74
    go_wp2_with (go_at_call 17; refine cN.mono ?_; rintro e w1 ⟨rfl, h1⟩; have H1 := Lib.hid h1; clear h1)
    go_end0
    exact ⟨rfl, H1.out⟩
set_option maxHeartbeats 2000000 in
set_option maxRecDepth 100000 in
theorem wtext_c {T : TypeId} (B b : Nat) (l : List UInt8) (w : World) (h : WrB T B b (Lib.byteCells l) w) (hBw : B ≤ w.heap.size) :
    Calls Tryz.prog 22 #[ptV b] w fun e w' => e = .returned (.string ⟨l.toArray⟩) ∧ Below B w w' := by
  have cS := str_c B b l w h hBw
  clear h
  go_enter Tryz.func22, Tryz.ntmps22
  go_wp2_with (go_at_call 46; refine cS.mono ?_; rintro e w1 ⟨rfl, h1⟩; have H1 := Lib.hid h1; clear h1)
  go_ret
  exact ⟨rfl, H1.out⟩
end Go.Proofs.YtddobjhahohhhaaGreat
