/-
  The law DeedWrites: of all deeds the bytes are the chapter's, or there are none; the deed comes of them.
-/
import Derived.Test.YtddobjhahohhhaaDeLawKit
namespace Go.Proofs.Ytddobjhahohhhaa
open Go.RowKit Go.Sort
set_option linter.unusedVariables false
set_option linter.unusedSimpArgs false

structure OneDe (bO : Nat) (w : World) (a : De) (W : World) : Prop where
  x : W.heap[bO]? = some (.cells ⟨deC a⟩ 23 (0, 0))
  b : Below bO w W
theorem OneDe.below {bO : Nat} {w W W' : World} {a : De} (h : OneDe bO w a W) (hb : Below W.heap.size W W') : OneDe bO w a W' :=
  ⟨(hb.block _ (lt_of_get h.x)).trans h.x, h.b.trans (hb.mono (Nat.le_of_lt (lt_of_get h.x)))⟩
theorem oneDe_new (w : World) (a : De) : OneDe w.heap.size w a (w.alloc (.cells ⟨deC a⟩ 23)) :=
  ⟨heap_alloc_new _ _, (Below.refl _ _).alloc (Nat.le_refl _) _⟩
theorem decA_bytes {x : De} (h : May x) : decA (bytesL x) = (x, 0) := by
  have h1 := decL_bytes x h []
  rw [List.append_nil] at h1
  unfold decA
  rw [h1, if_pos ⟨h, rfl⟩]
set_option maxHeartbeats 8000000 in
set_option maxRecDepth 100000 in
theorem deedWrites_c (a : De) (w : World) : Calls Try.prog 4 #[deV a] w fun e w' => e = .returned (.bool true) ∧ Below w.heap.size w w' := by
  have cW := awake11_c
  have cM := refMay_c a
  have HT := Lib.hid (oneDe_new w a)
  have hEQ := de_eq a a
  rw [decide_eq_true rfl] at hEQ
  have hGD := fun op p q => de_guard op p q a a
  by_cases hm : May a
  · have cE := fun W => enc_yes a W hm
    have cB := fun W => refBytes_c a W hm
    have cD := fun W => decode_c (bytesL a) W (Nat.le_trans (bytesL_len a hm) (by decide))
    unfold EncYes at cE
    unfold DecPost at cD
    rw [decA_bytes hm] at cD
    rw [decide_eq_true hm] at cM
    generalize bytesL a = L at *
    have hs1 : a.s.size ≤ 255 := by have := hm.2.2.2.2.2.2.1; omega
    have hs2 : a.ns.size ≤ 255 := by have := hm.2.2.2.2.2.2.2.1; omega
    clear hm
    obtain ⟨k, d, dt, s, ns, isD, sh⟩ := a
    unfold deV at *
    simp only at cE cM cB cD hEQ hGD hs1 hs2 ⊢
    have g1 : ¬ (300 : Int) < (s.size : Int) := by omega
    have g2 : ¬ (300 : Int) < (ns.size : Int) := by omega
    clear hs1 hs2
    have HT1 : Hid (OneDe w.heap.size w ⟨k, d, dt, s, ns, isD, sh⟩ (w.alloc (.cells #[.int .i64 k, .int .i64 d, .int .i64 dt, .string s, .string ns, .bool isD, .int .i64 sh] 23))) := HT
    clear HT
    go_enter Try.func4, Try.ntmps4
    go_upto_region 1 with fail
    generalize (w.alloc (.cells #[.int .i64 k, .int .i64 d, .int .i64 dt, .string s, .string ns, .bool isD, .int .i64 sh] 23)) = W0 at *
    generalize hbO : w.heap.size = bO at *
    go_upto_region 3 with (go_at_call 9; refine (cW _).mono ?_; rintro e w1 ⟨rfl, hb1⟩; have HT1 := Lib.hid (HT1.out.below hb1); clear hb1; obtain ⟨p0, p1, p2, p3, p4, p5, p6⟩ := de_cells HT1.out.x)
    clear g1 g2 cW
    go_upto_region 4 with (go_at_call 8; refine (cE _).mono ?_; rintro e w2 ⟨rfl, hb1⟩; have HT1 := Lib.hid (HT1.out.below hb1); clear hb1; obtain ⟨p0, p1, p2, p3, p4, p5, p6⟩ := de_cells HT1.out.x)
    clear cE
    go_upto_region 6 with (go_at_call 10; refine (cM _).mono ?_; rintro e w3 ⟨rfl, hb1⟩; have HT1 := Lib.hid (HT1.out.below hb1); clear hb1; obtain ⟨p0, p1, p2, p3, p4, p5, p6⟩ := de_cells HT1.out.x)
    clear cM
    go_upto_region 7 with (go_at_call 11; refine (cD _).mono ?_; rintro e w4 ⟨rfl, hb1⟩; have HT1 := Lib.hid (HT1.out.below hb1); clear hb1)
    clear cD
    have hb9 : Below w4.heap.size w4 (w4.alloc (.cells #[.int .i64 k, .int .i64 d, .int .i64 dt, .string s, .string ns, .bool isD, .int .i64 sh] 23)) := (Below.refl _ _).alloc (Nat.le_refl _) _
    have HT2 := Lib.hid (HT1.out.below hb9)
    have HX2 : Hid ((w4.alloc (.cells #[.int .i64 k, .int .i64 d, .int .i64 dt, .string s, .string ns, .bool isD, .int .i64 sh] 23)).heap[w4.heap.size]? = some (.cells ⟨deC ⟨k, d, dt, s, ns, isD, sh⟩⟩ 23 (0, 0))) := Lib.hid (heap_alloc_new _ _)
    clear hb9
    generalize (w4.alloc (.cells #[.int .i64 k, .int .i64 d, .int .i64 dt, .string s, .string ns, .bool isD, .int .i64 sh] 23)) = W5 at *
    generalize w4.heap.size = b5 at *
    obtain ⟨p0, p1, p2, p3, p4, p5, p6⟩ := de_cells HT2.out.x
    go_wp2_with (go_at_call 12; refine (cB _).mono ?_; rintro e w6 ⟨rfl, hb1⟩; have HT3 := Lib.hid (HT2.out.below hb1); have HX3 := Lib.hid ((hb1.block _ (lt_of_get HX2.out)).trans HX2.out); clear hb1; obtain ⟨p0, p1, p2, p3, p4, p5, p6⟩ := de_cells HT3.out.x; obtain ⟨q0, q1, q2, q3, q4, q5, q6⟩ := de_cells HX3.out)
    go_ret
    exact ⟨rfl, by first | exact HT3.out.b | (rw [hbO]; exact HT3.out.b)⟩
  · have cE := fun W => enc_no a W hm
    unfold EncNo at cE
    rw [decide_eq_false hm] at cM
    clear hm hEQ hGD
    obtain ⟨k, d, dt, s, ns, isD, sh⟩ := a
    unfold deV at *
    simp only at cE cM ⊢
    have HT1 : Hid (OneDe w.heap.size w ⟨k, d, dt, s, ns, isD, sh⟩ (w.alloc (.cells #[.int .i64 k, .int .i64 d, .int .i64 dt, .string s, .string ns, .bool isD, .int .i64 sh] 23))) := HT
    clear HT
    go_enter Try.func4, Try.ntmps4
    go_upto_region 1 with fail
    generalize (w.alloc (.cells #[.int .i64 k, .int .i64 d, .int .i64 dt, .string s, .string ns, .bool isD, .int .i64 sh] 23)) = W0 at *
    generalize hbO : w.heap.size = bO at *
    by_cases hs : (300 : Int) < (s.size : Int) ∨ (300 : Int) < (ns.size : Int)
    · have hs2 : (300 : Int) < (s.size : Int) ∨ (¬ (300 : Int) < (s.size : Int) ∧ (300 : Int) < (ns.size : Int)) := by omega
      clear hs
      rcases hs2 with g1 | ⟨g1, g2⟩
      · go_upto_region 2 with (go_at_call 9; refine (cW _).mono ?_; rintro e w1 ⟨rfl, hb1⟩; have HT1 := Lib.hid (HT1.out.below hb1); clear hb1; obtain ⟨p0, p1, p2, p3, p4, p5, p6⟩ := de_cells HT1.out.x)
        go_wp2_with (go_at_call 9; refine (cW _).mono ?_; rintro e w2 ⟨rfl, hb1⟩; have HT2 := Lib.hid (HT1.out.below hb1); clear hb1)
        go_ret
        exact ⟨rfl, by first | exact HT2.out.b | (rw [hbO]; exact HT2.out.b)⟩
      · go_upto_region 2 with (go_at_call 9; refine (cW _).mono ?_; rintro e w1 ⟨rfl, hb1⟩; have HT1 := Lib.hid (HT1.out.below hb1); clear hb1; obtain ⟨p0, p1, p2, p3, p4, p5, p6⟩ := de_cells HT1.out.x)
        go_wp2_with (go_at_call 9; refine (cW _).mono ?_; rintro e w2 ⟨rfl, hb1⟩; have HT2 := Lib.hid (HT1.out.below hb1); clear hb1)
        go_ret
        exact ⟨rfl, by first | exact HT2.out.b | (rw [hbO]; exact HT2.out.b)⟩
    · have g1 : ¬ (300 : Int) < (s.size : Int) := by omega
      have g2 : ¬ (300 : Int) < (ns.size : Int) := by omega
      clear hs
      go_upto_region 3 with (go_at_call 9; refine (cW _).mono ?_; rintro e w1 ⟨rfl, hb1⟩; have HT1 := Lib.hid (HT1.out.below hb1); clear hb1; obtain ⟨p0, p1, p2, p3, p4, p5, p6⟩ := de_cells HT1.out.x)
      clear g1 g2 cW
      go_upto_region 4 with (go_at_call 8; refine (cE _).mono ?_; rintro e w2 ⟨rfl, hb1⟩; have HT1 := Lib.hid (HT1.out.below hb1); clear hb1; obtain ⟨p0, p1, p2, p3, p4, p5, p6⟩ := de_cells HT1.out.x)
      clear cE
      go_wp2_with (go_at_call 10; refine (cM _).mono ?_; rintro e w3 ⟨rfl, hb1⟩; have HT2 := Lib.hid (HT1.out.below hb1); clear hb1)
      go_ret
      exact ⟨rfl, by first | exact HT2.out.b | (rw [hbO]; exact HT2.out.b)⟩
end Go.Proofs.Ytddobjhahohhhaa
