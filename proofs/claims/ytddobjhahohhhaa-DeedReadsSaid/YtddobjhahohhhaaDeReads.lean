/-
  The law DeedReads: whatever bytes are decoded, the deed has just them.
-/
import Derived.Test.YtddobjhahohhhaaDeWrites
namespace Go.Proofs.Ytddobjhahohhhaa
open Go.RowKit Go.Sort
set_option linter.unusedVariables false
set_option linter.unusedSimpArgs false

set_option maxHeartbeats 8000000 in
set_option maxRecDepth 100000 in
theorem deedReads_c (sb : ByteArray) (w : World) (hsz : sb.size ≤ 9223372036854775807) : Calls Try.prog 5 #[.string sb] w fun e w' => e = .returned (.bool true) ∧ Below w.heap.size w w' := by
  have cW := awake11_c
  have hB0 := Lib.hid (Below.refl w.heap.size w)
  by_cases hl : (700 : Int) < (sb.size : Int)
  · go_enter Try.func5, Try.ntmps5
    go_wp2_with (go_at_call 9; refine (cW _).mono ?_; rintro e w1 ⟨rfl, hb1⟩; have hB0 := Lib.hid (hB0.out.trans (hb1.mono hB0.out.size)); clear hb1)
    go_ret
    exact ⟨rfl, hB0.out⟩
  · obtain ⟨L, hL⟩ : ∃ L : List UInt8, sb = ⟨L.toArray⟩ := ⟨sb.data.toList, by apply ByteArray.ext; simp⟩
    have hLl : L.length ≤ 700 := by
      have h1 : sb.size = L.length := by rw [hL]; rfl
      omega
    have cD := fun W => decode_c L W (by omega)
    unfold DecPost at cD
    rw [← hL] at cD
    by_cases hc : May (decL L) ∧ bytesL (decL L) = L
    · have hA : decA L = (decL L, 0) := by unfold decA; rw [if_pos hc]
      rw [hA] at cD
      have cM := refMay_c (decL L)
      have cB := fun W => refBytes_c (decL L) W hc.1
      rw [decide_eq_true hc.1] at cM
      rw [hc.2, ← hL] at cB
      generalize decL L = x at *
      clear hA hc hL hLl
      obtain ⟨k, d, dt, s, ns, isD, sh⟩ := x
      unfold deV at *
      simp only at cD cM cB ⊢
      go_enter Try.func5, Try.ntmps5
      go_upto_region 3 with (go_at_call 9; refine (cW _).mono ?_; rintro e w1 ⟨rfl, hb1⟩; have hB0 := Lib.hid (hB0.out.trans (hb1.mono hB0.out.size)); clear hb1)
      go_upto_region 4 with (go_at_call 11; refine (cD _).mono ?_; rintro e w2 ⟨rfl, hb1⟩; have hB0 := Lib.hid (hB0.out.trans (hb1.mono hB0.out.size)); clear hb1)
      have HX : Hid (OneDe w2.heap.size w2 ⟨k, d, dt, s, ns, isD, sh⟩ (w2.alloc (.cells #[.int .i64 k, .int .i64 d, .int .i64 dt, .string s, .string ns, .bool isD, .int .i64 sh] 23))) := Lib.hid (oneDe_new w2 ⟨k, d, dt, s, ns, isD, sh⟩)
      generalize (w2.alloc (.cells #[.int .i64 k, .int .i64 d, .int .i64 dt, .string s, .string ns, .bool isD, .int .i64 sh] 23)) = W3 at *
      have HS := Lib.hid hB0.out.size
      generalize w2.heap.size = b3 at *
      obtain ⟨p0, p1, p2, p3, p4, p5, p6⟩ := de_cells HX.out.x
      clear cW cD hl
      go_wp2_with (first | (go_at_call 10; refine (cM _).mono ?_; rintro e w4 ⟨rfl, hb1⟩; have HX := Lib.hid (HX.out.below hb1); clear hb1; obtain ⟨p0, p1, p2, p3, p4, p5, p6⟩ := de_cells HX.out.x) | (go_at_call 12; refine (cB _).mono ?_; rintro e w5 ⟨rfl, hb1⟩; have HX := Lib.hid (HX.out.below hb1); clear hb1))
      go_ret
      exact ⟨rfl, hB0.out.trans (HX.out.b.mono HS.out)⟩
    · have hA : decA L = (noDe, 2) := by unfold decA; rw [if_neg hc]
      rw [hA] at cD
      clear hA hc hL hLl
      have hEQ := de_eq noDe noDe
      rw [decide_eq_true rfl] at hEQ
      have hGD := fun op p q => de_guard op p q noDe noDe
      unfold deV noDe at *
      simp only at cD hEQ hGD ⊢
      go_enter Try.func5, Try.ntmps5
      go_upto_region 3 with (go_at_call 9; refine (cW _).mono ?_; rintro e w1 ⟨rfl, hb1⟩; have hB0 := Lib.hid (hB0.out.trans (hb1.mono hB0.out.size)); clear hb1)
      go_upto_region 4 with (go_at_call 11; refine (cD _).mono ?_; rintro e w2 ⟨rfl, hb1⟩; have hB0 := Lib.hid (hB0.out.trans (hb1.mono hB0.out.size)); clear hb1)
      have HX : Hid (OneDe w2.heap.size w2 noDe (w2.alloc (.cells #[.int .i64 0, .int .i64 0, .int .i64 0, .string ⟨#[]⟩, .string ⟨#[]⟩, .bool false, .int .i64 0] 23))) := Lib.hid (oneDe_new w2 noDe)
      generalize (w2.alloc (.cells #[.int .i64 0, .int .i64 0, .int .i64 0, .string ⟨#[]⟩, .string ⟨#[]⟩, .bool false, .int .i64 0] 23)) = W3 at *
      have HS := Lib.hid hB0.out.size
      generalize w2.heap.size = b3 at *
      obtain ⟨p0, p1, p2, p3, p4, p5, p6⟩ := de_cells HX.out.x
      unfold noDe at p0 p1 p2 p3 p4 p5 p6
      simp only at p0 p1 p2 p3 p4 p5 p6
      clear cW cD hl
      go_wp2
      go_ret
      exact ⟨rfl, hB0.out.trans (HX.out.b.mono HS.out)⟩
end Go.Proofs.Ytddobjhahohhhaa
