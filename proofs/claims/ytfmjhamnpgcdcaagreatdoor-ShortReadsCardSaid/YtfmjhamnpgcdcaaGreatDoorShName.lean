/-
  The contract of Name: the n-th short name of a hash.
-/
import Derived.Test.YtfmjhamnpgcdcaaGreatDoorShFmt2
import Derived.Test.YtfmjhamnpgcdcaaGreatDoorShelf
namespace Go.Proofs.YtfmjhamnpgcdcaaGreatDoor
open Go.RowKit Go.Sort
set_option linter.unusedVariables false

theorem below_growS {w : World} (k : Nat) (os : Array Obj) : Below w.heap.size w (grow (w.drewN k) os) := by
  have hd : (w.drewN k).heap = w.heap := by
    induction k with
    | zero => rfl
    | succ k ih => exact ih
  have h1 : ∀ k : Nat, (w.drewN k).os = w.os ∧ (w.drewN k).tape = w.tape ∧ (w.drewN k).output = w.output := fun k => by
    induction k with
    | zero => exact ⟨rfl, rfl, rfl⟩
    | succ k ih => exact ih
  refine ⟨(h1 k).1, (h1 k).2.1, (h1 k).2.2, ?_, fun j hj => ?_⟩
  · show w.heap.size ≤ ((w.drewN k).heap ++ os).size
    rw [hd]; simp
  · show ((w.drewN k).heap ++ os)[j]? = _
    rw [hd, Array.getElem?_append_left hj]
/-- What Name reads of the library's tables. -/
def Base (w : World) : Prop := Zeros w ∧ Lib.TabIs Tryz.prog w "internal/strconv.uint64pow10" .u64 Lib.pow10Tab
theorem glob_pow : Tryz.prog.globalNamed "internal/strconv.uint64pow10" = some 4 := by kernel_rfl
theorem Base.step {w w' : World} (h : Base w) (hb : Below w.heap.size w w') : Base w' := by
  refine ⟨?_, ?_⟩
  · unfold Base Zeros at *
    rw [hb.cell (p := ⟨_, 15, none⟩) (lt_cell h.1)]
    exact h.1
  · have h2 := h.2
    have hlt := lt_cell (h2.cell glob_pow 0 (by decide))
    unfold Lib.TabIs World.var? at *
    rw [glob_pow] at *
    simp only [Option.bind_some] at *
    rw [hb.block _ hlt]
    exact h2
theorem name_bytes {a b c d e : ByteArray} {l : List UInt8} (h : a.data.toList ++ b.data.toList ++ c.data.toList ++ d.data.toList ++ e.data.toList = l) : a ++ b ++ c ++ d ++ e = ⟨l.toArray⟩ := by
  subst h
  apply ByteArray.ext
  apply Array.toList_inj.1
  simp

set_option maxHeartbeats 2000000 in
set_option maxRecDepth 100000 in
theorem name_c (h : Nat) (hh : h < 4294967296) (n : Int) (hn0 : -9223372036854775808 ≤ n) (hn1 : n ≤ 9223372036854775807) (w : World) (hB : Base w) :
    Calls Tryz.prog 15 #[.int .u32 h, .int .i64 n] w fun e w' => e = .returned (.string ⟨(nameL h n).toArray⟩) ∧ Below w.heap.size w w' := by
  by_cases h1 : n < 1
  · rw [nameL_no (Or.inl h1)]
    clear hB
    go_enter Tryz.func15, Tryz.ntmps15
    go_wp2
    go_ret
    exact ⟨rfl, Below.refl _ _⟩
  · by_cases h2 : 1000000 < n
    · rw [nameL_no (Or.inr h2)]
      clear hB
      go_enter Tryz.func15, Tryz.ntmps15
      go_wp2
      go_ret
      exact ⟨rfl, Below.refl _ _⟩
    · obtain ⟨hd1, hd2, hd3⟩ := hexD_pad 8 h (by decide) (by omega)
      have hdl := dec_length 7 n.toNat (by decide) (by omega)
      have cF := fmt_c h hh w hB.1
      have hS : (⟨(hexD h).toArray⟩ : ByteArray).size = (hexD h).length := by show (hexD h).toArray.size = _; simp
      have hSl : (⟨(hexD h).toArray⟩ : ByteArray).data.toList = hexD h := rfl
      obtain ⟨L, hL⟩ : ∃ L, (hexD h).length = L := ⟨_, rfl⟩
      rw [hL] at hd1 hd2 hd3 hS
      obtain ⟨c, hc⟩ : ∃ c, 8 - L = c := ⟨_, rfl⟩
      rw [hc] at hd3
      have HR : Hid (∀ w1, Calls Tryz.prog 27 #[.string ⟨#[48]⟩, .int .i64 c] w1 fun e w' => e = .returned (.string ⟨(List.replicate c 48).toArray⟩) ∧ Below w1.heap.size w1 w') := Lib.hid (fun w1 => by
        have := Tryz.strings_Repeat ⟨#[48]⟩ c w1 (by omega) (by show 1 * c ≤ _; omega)
        rw [show (⟨#[48]⟩ : ByteArray).data.toList = [48] from rfl, repeat_48] at this
        exact this)
      have HI : Hid (∀ w1, Base w1 → Calls Tryz.prog 28 #[.int .i64 n] w1 fun e w' => e = .returned (.string ⟨(Lib.decDigits n.toNat).toArray⟩) ∧ Below w1.heap.size w1 w') := Lib.hid (fun w1 hb1 => by
        refine (Tryz.strconv_Itoa n hn0 hn1 w1 hb1.2).mono ?_
        rintro e w' ⟨rfl, k, os, rfl⟩
        refine ⟨?_, below_growS k os⟩
        unfold Lib.itoa
        rw [if_neg (by omega)])
      have HX : Hid ((⟨#[37, 126]⟩ : ByteArray) ++ ⟨(List.replicate c 48).toArray⟩ ++ ⟨(hexD h).toArray⟩ ++ ⟨#[45]⟩ ++ ⟨(Lib.decDigits n.toNat).toArray⟩ = ⟨(nameL h n).toArray⟩) := Lib.hid (name_bytes (by
        rw [nameL_ok (by omega) (by omega), ← hd3]
        simp))
      have hZs : (⟨(List.replicate c (48 : UInt8)).toArray⟩ : ByteArray).size = c := by show (List.replicate c (48 : UInt8)).toArray.size = _; simp
      have hTs : (⟨(Lib.decDigits n.toNat).toArray⟩ : ByteArray).size ≤ 7 := by show (Lib.decDigits n.toNat).toArray.size ≤ _; simp; omega
      have HBB := Lib.hid hB
      have hcz : (8 : Int) - (L : Int) = (c : Int) := by omega
      have hc7 : c ≤ 7 := by omega
      have HC := Lib.hid hcz
      clear hdl hd3 hSl hL hc hB hcz
      generalize (⟨(hexD h).toArray⟩ : ByteArray) = S at *
      generalize (⟨(List.replicate c (48 : UInt8)).toArray⟩ : ByteArray) = Z at *
      generalize (⟨(Lib.decDigits n.toNat).toArray⟩ : ByteArray) = T at *
      generalize (⟨(nameL h n).toArray⟩ : ByteArray) = R at *
      go_enter Tryz.func15, Tryz.ntmps15
      go_wp2_with fail
      refine cF.mono ?_
      rintro e w1 ⟨rfl, hb1⟩
      have HB1 := Lib.hid hb1
      have HW1 := Lib.hid (HBB.out.step hb1)
      have cR := HR.out w1
      clear cF hb1
      go_wp2_with fail
      rw [HC.out]
      refine cR.mono ?_
      rintro e w2 ⟨rfl, hb2⟩
      have HB2 : Hid (Below w.heap.size w w2) := Lib.hid (HB1.out.trans (hb2.mono HB1.out.size))
      have cI := HI.out w2 (HW1.out.step hb2)
      clear cR hb2
      go_wp2_with fail
      refine cI.mono ?_
      rintro e w3 ⟨rfl, hb3⟩
      have HB3 : Hid (Below w.heap.size w w3) := Lib.hid (HB2.out.trans (hb3.mono HB2.out.size))
      clear cI hb3
      go_wp2
      go_ret
      exact ⟨by rw [← HX.out]; rfl, HB3.out⟩
end Go.Proofs.YtfmjhamnpgcdcaaGreatDoor
