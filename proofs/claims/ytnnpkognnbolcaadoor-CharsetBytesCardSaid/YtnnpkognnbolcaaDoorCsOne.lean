/-
  The contracts of readOne and writeOne: a byte's character, a character's byte; what lay in memory stays.
-/
import Derived.Test.YtnnpkognnbolcaaDoorCsAt
import Derived.Test.YtnnpkognnbolcaaDoorCsSingle
namespace Go.Proofs.YtnnpkognnbolcaaDoor
open Go.RowKit
set_option linter.unusedVariables false

theorem row_runes {l : List Int} {b : ByteArray} (hl : l.filter isR = l) (hb : b.data.toList = joinL l) : runesL b.data.toList = some l := by rw [hb, runes_join, hl]
theorem row_size {l : List Int} {b : ByteArray} (hl : l.length ≤ 200) (hb : b.data.toList = joinL l) : b.size ≤ 4000 := by
  have h1 := joinL_length l
  have h2 : b.data.toList.length = b.size := by simp
  rw [hb] at h2
  omega

/-- What is answered for a character t, or -1. -/
def readR (t : Int) : Int := if 0 ≤ t then t else 0
def readB (t : Int) : Bool := decide (0 ≤ t)
theorem readR_at {l : List Int} (hl : l.filter isR = l) (k : Int) : (atL l k).getD 0 = readR ((atL l k).getD (-1)) := by
  cases h : atL l k with
  | none => rfl
  | some r =>
    have := isR_is (atL_isR hl h)
    unfold readR
    simp only [Option.getD_some]
    rw [if_pos (by omega)]
theorem readB_at {l : List Int} (hl : l.filter isR = l) (k : Int) : (atL l k).isSome = readB ((atL l k).getD (-1)) := by
  cases h : atL l k with
  | none => rfl
  | some r =>
    have := isR_is (atL_isR hl h)
    unfold readB
    simp only [Option.getD_some, Option.isSome_some]
    rw [decide_eq_true (by omega)]

theorem atRow_c {v : Value} {f : Int} {l : List Int} (hv : RowIs v f l) (hl : l.filter isR = l) (hn : l.length ≤ 200) (hf : 0 ≤ f) (hf' : f ≤ 256) (x : Int) (hx : 0 ≤ x) (hx' : x ≤ 255) (w : World) :
    Calls Tryd.prog 29 #[v, .int .u8 x] w fun e w' => e = .returned (.tuple #[.int .i32 (readR ((atL l (x - f)).getD (-1))), .bool (readB ((atL l (x - f)).getD (-1)))]) ∧ Below w.heap.size w w' := by
  obtain ⟨b, rfl, hb⟩ := hv
  rw [← readR_at hl, ← readB_at hl]
  exact at_c f b l x (row_runes hl hb) (row_size hn hb) hf hf' hx hx' w
theorem findRow_c {v : Value} {f : Int} {l : List Int} (hv : RowIs v f l) (hl : l.filter isR = l) (hn : l.length ≤ 200) (hf : 0 ≤ f) (hf' : f + l.length ≤ 256) (x : Int) (w : World) :
    Calls Tryd.prog 19 #[v, .int .i32 x] w fun e w' => e = .returned (.tuple #[.int .u8 ((findL l x f).getD 0), .bool (findL l x f).isSome]) ∧ Below w.heap.size w w' := by
  obtain ⟨b, rfl, hb⟩ := hv
  exact find_c f b l x (row_runes hl hb) (row_size hn hb) hf hf' w

def rowV (f : Int) (l : List Int) : Value := .agg #[.int .i64 f, .string ⟨(joinL l).toArray⟩]
theorem rowV_is (f : Int) (l : List Int) : RowIs (rowV f l) f l := ⟨_, rfl, rfl⟩
theorem RowIs.eq {v : Value} {f : Int} {l : List Int} (h : RowIs v f l) : v = rowV f l := by
  obtain ⟨b, rfl, hb⟩ := h
  unfold rowV
  rw [← hb]
theorem doubleV_c (enc x : Int) (w : World) : Calls Tryd.prog 18 #[.int .i64 enc, .int .u8 x] w fun e w' => e = .returned (rowV (doubleF enc x) (doubleL enc x)) ∧ Below w.heap.size w w' :=
  (double_c enc x w).mono fun e w' ⟨v, he, hv, hb⟩ => ⟨by rw [he, hv.eq], hb⟩

set_option maxHeartbeats 1000000 in
theorem readOne_c (enc x : Int) (h0 : 0 ≤ enc) (h6 : enc ≤ 6) (hx : 0 ≤ x) (hx' : x ≤ 255) (w : World) :
    Calls Tryd.prog 30 #[.int .i64 enc, .int .u8 x] w fun e w' => e = .returned (.tuple #[.int .i32 (readR (oneI enc x)), .bool (readB (oneI enc x))]) ∧ Below w.heap.size w w' := by
  rw [← oneP_eq h0 h6 hx hx']
  have cS := single_c enc h0 h6
  have hf := single_fit enc
  have hl := singleL_ok enc
  have cA := fun (v : Value) (hv : RowIs v (singleF enc) (singleL enc)) w => atRow_c hv hl.1 hl.2 hf.1 (by omega) x hx hx' w
  obtain ⟨F, hF⟩ : ∃ F, singleF enc = F := ⟨_, rfl⟩
  by_cases hlt : x < F
  · have HX := Lib.hid (show readR (oneP enc x) = x ∧ readB (oneP enc x) = true by
      have : oneP enc x = x := by unfold oneP; rw [hF, if_pos hlt]
      rw [this]
      exact ⟨by unfold readR; rw [if_pos hx], decide_eq_true hx⟩)
    clear cA hl
    have HF := Lib.hid hF
    clear hF
    go_enter Tryd.func30, Tryd.ntmps30
    go_wp2_with fail
    refine (cS _).mono ?_
    rintro e w1 ⟨v, rfl, ⟨b, rfl, hb⟩, hb1⟩
    rw [HF.out]
    clear hb
    go_wp2
    go_ret2
    exact ⟨by rw [HX.out.1, HX.out.2]; rfl, hb1.alloc hb1.size _⟩
  · have HX := Lib.hid (show oneP enc x = (atL (singleL enc) (x - F)).getD (-1) by unfold oneP; rw [hF, if_neg hlt])
    rw [hF] at cA
    have HF := Lib.hid hF
    clear hF hl
    go_enter Tryd.func30, Tryd.ntmps30
    go_wp2_with fail
    refine (cS _).mono ?_
    rintro e w1 ⟨v, rfl, hv, hb1⟩
    rw [HF.out] at hv
    have cA' := cA v hv
    obtain ⟨b, rfl, hb⟩ := hv
    clear hb cA
    go_wp2_with (go_at_call 29; refine (cA' _).mono ?_; rintro e w2 ⟨rfl, hb2⟩)
    go_ret2
    exact ⟨by rw [HX.out]; rfl, (hb1.alloc hb1.size _).trans (hb2.mono (by have := hb1.size; simp; omega))⟩

set_option maxHeartbeats 1000000 in
theorem writeOne_c (enc r : Int) (h0 : 0 ≤ enc) (h6 : enc ≤ 6) (hlo : -2147483648 ≤ r) (hhi : r ≤ 2147483647) (w : World) :
    Calls Tryd.prog 17 #[.int .i64 enc, .int .i32 r] w fun e w' => e = .returned (.tuple #[.int .u8 ((writeP enc r).getD 0), .bool (writeP enc r).isSome]) ∧ Below w.heap.size w w' := by
  have cS := single_c enc h0 h6
  have hf := single_fit enc
  have hl := singleL_ok enc
  have cA := fun (v : Value) (hv : RowIs v (singleF enc) (singleL enc)) w => findRow_c hv hl.1 hl.2 hf.1 hf.2 r w
  obtain ⟨F, hF⟩ : ∃ F, singleF enc = F := ⟨_, rfl⟩
  by_cases hr0 : 0 ≤ r
  · by_cases hlt : r < F
    · have HX := Lib.hid (show writeP enc r = some r by unfold writeP; rw [hF, if_pos ⟨hr0, hlt⟩])
      have hwr : IntKind.u8.wrap r = r := by rw [IntKind.wrap_u8]; omega
      clear cA hl
      have HF := Lib.hid hF
      clear hF
      go_enter Tryd.func17, Tryd.ntmps17
      go_wp2_with fail
      refine (cS _).mono ?_
      rintro e w1 ⟨v, rfl, ⟨b, rfl, hb⟩, hb1⟩
      rw [HF.out]
      clear hb
      go_wp2
      go_ret2
      exact ⟨by rw [HX.out]; rfl, hb1.alloc hb1.size _⟩
    · have HX := Lib.hid (show writeP enc r = findL (singleL enc) r F by unfold writeP; rw [hF, if_neg (by omega)])
      rw [hF] at cA
      have HF := Lib.hid hF
      clear hF hl
      go_enter Tryd.func17, Tryd.ntmps17
      go_wp2_with fail
      refine (cS _).mono ?_
      rintro e w1 ⟨v, rfl, hv, hb1⟩
      rw [HF.out] at hv
      have cA' := cA v hv
      obtain ⟨b, rfl, hb⟩ := hv
      clear hb cA
      go_wp2_with (go_at_call 19; refine (cA' _).mono ?_; rintro e w2 ⟨rfl, hb2⟩)
      go_ret2
      exact ⟨by rw [HX.out]; rfl, (hb1.alloc hb1.size _).trans (hb2.mono (by have := hb1.size; simp; omega))⟩
  · have HX := Lib.hid (show writeP enc r = findL (singleL enc) r F by unfold writeP; rw [hF, if_neg (by omega)])
    rw [hF] at cA
    have HF := Lib.hid hF
    clear hF hl
    go_enter Tryd.func17, Tryd.ntmps17
    go_wp2_with fail
    refine (cS _).mono ?_
    rintro e w1 ⟨v, rfl, hv, hb1⟩
    rw [HF.out] at hv
    have cA' := cA v hv
    obtain ⟨b, rfl, hb⟩ := hv
    clear hb cA
    go_wp2_with (go_at_call 19; refine (cA' _).mono ?_; rintro e w2 ⟨rfl, hb2⟩)
    go_ret2
    exact ⟨by rw [HX.out]; rfl, (hb1.alloc hb1.size _).trans (hb2.mono (by have := hb1.size; simp; omega))⟩
end Go.Proofs.YtnnpkognnbolcaaDoor
