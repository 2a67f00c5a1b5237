/-
  The contracts of an entry's face, and whether it fits; the reference's.
-/
import Derived.Test.YtbbgnhbkjbobgaaGreatDoorFcEnt
import Derived.Test.YtbbgnhbkjbobgaaGreatDoorFcMath
import Derived.Test.YtbbgnhbkjbobgaaGreatDoorL3
namespace Go.Proofs.YtbbgnhbkjbobgaaGreatDoor
open Go.RowKit Go.Sort
set_option linter.unusedVariables false

theorem face_plain {enc : Int} {e : Ent} (h : e.short = 0) : faceL enc e = presL enc e.name.data.toList := if_pos h
theorem face_short {enc : Int} {e : Ent} (h : ¬ e.short = 0) : faceL enc e = nameL (fnvL e.name.data.toList) e.short := if_neg h
set_option maxHeartbeats 2000000 in
theorem of_c (enc : Int) (h0 : 0 ≤ enc) (h8 : enc ≤ 8) (e : Ent) (he : EntOk e) (w : World) (hT : Tabs w) (hB : Base w) :
    Calls Tryz.prog 11 #[.int .i64 enc, entV e] w fun r w' => r = .returned (.string ⟨(faceL enc e).toArray⟩) ∧ Below w.heap.size w w' := by
  have hb0 : Below w.heap.size w (w.alloc (.cells #[.string e.name, .int .i64 e.node, .bool e.dir, .int .i64 e.cookie, .int .i64 e.short] 29)) := (Below.refl _ w).alloc (Nat.le_refl _) _
  have HQ := Lib.hid (entsBlock e w)
  have HB0 := Lib.hid hb0
  have hT0 := hT.step hb0
  have hBB := hB.step hb0
  obtain ⟨hs, hn0, hn1⟩ := he
  obtain ⟨FL, hFL⟩ : ∃ FL, faceL enc e = FL := ⟨_, rfl⟩
  unfold entV
  by_cases hsh : e.short = 0
  · have cP := present_c enc h0 h8 e.name hs _ hT0
    rw [← face_plain hsh] at cP
    rw [hFL] at cP ⊢
    generalize (⟨FL.toArray⟩ : ByteArray) = F at *
    obtain ⟨nm, nd, dr, ck, sh⟩ := e
    simp only at *
    subst hsh
    clear hT hB hT0 hBB hb0 hFL
    go_enter Tryz.func11, Tryz.ntmps11
    go_wp2_with (go_at_call 22; refine cP.mono ?_; rintro r w1 ⟨rfl, hb1⟩)
    go_ret
    exact ⟨rfl, HB0.out.trans (hb1.mono HB0.out.size)⟩
  · have cH := regr (W := w.alloc (.cells #[.string e.name, .int .i64 e.node, .bool e.dir, .int .i64 e.cookie, .int .i64 e.short] 29)) (fun w1 _ => (hash_c e.name (by omega) w1).mono fun r w2 ⟨h1, h2⟩ => ⟨h1, by rw [← h2]; exact Below.refl _ _⟩)
    have cN := regr (W := w.alloc (.cells #[.string e.name, .int .i64 e.node, .bool e.dir, .int .i64 e.cookie, .int .i64 e.short] 29)) (fun w1 h1 => name_c (fnvL e.name.data.toList) (fnvL_lt _) e.short hn0 hn1 w1 (hBB.step h1))
    rw [← face_short (enc := enc) hsh] at cN
    rw [hFL] at cN ⊢
    generalize (⟨FL.toArray⟩ : ByteArray) = F at *
    obtain ⟨k0, k1, k2, k3, k4⟩ := EntAt.of HQ.out
    obtain ⟨nm, nd, dr, ck, sh⟩ := e
    simp only at *
    have hsb : (sh == 0) = false := beq_eq_false_iff_ne.2 hsh
    obtain ⟨HH, hHH⟩ : ∃ H, fnvL nm.data.toList = H := ⟨_, rfl⟩
    rw [hHH] at cH cN
    clear hT hB hT0 hBB hb0 hFL hn0 hn1 hs hHH
    go_enter Tryz.func11, Tryz.ntmps11
    go_upto_region 3 with fail
    refine wp_region_quiet_below (by kernel_rfl) (by kernel_rfl) ?_
    repeat (quiet_step (first | exact cH _ _ | exact cN _ _))
    refine wpQuiet_nil ?_
    intro _ hw'
    obtain ⟨⟨dq, osq⟩, hw''⟩ := hw'
    subst hw''
    go_wp2
    go_ret
    exact ⟨rfl, HB0.out.trans ((below_regrown _ dq osq).mono HB0.out.size)⟩
set_option maxHeartbeats 2000000 in
theorem rof_c (enc : Int) (h0 : 0 ≤ enc) (h8 : enc ≤ 8) (e : Ent) (he : EntOk e) (w : World) :
    Calls Tryz.prog 10 #[.int .i64 enc, entV e] w fun r w' => r = .returned (.string ⟨(faceL enc e).toArray⟩) ∧ Below w.heap.size w w' := by
  have hb0 : Below w.heap.size w (w.alloc (.cells #[.string e.name, .int .i64 e.node, .bool e.dir, .int .i64 e.cookie, .int .i64 e.short] 29)) := (Below.refl _ w).alloc (Nat.le_refl _) _
  have HQ := Lib.hid (entsBlock e w)
  have HB0 := Lib.hid hb0
  obtain ⟨hs, hn0, hn1⟩ := he
  obtain ⟨FL, hFL⟩ : ∃ FL, faceL enc e = FL := ⟨_, rfl⟩
  unfold entV
  by_cases hsh : e.short = 0
  · have cP := refPres_c enc h0 h8 e.name hs (w.alloc (.cells #[.string e.name, .int .i64 e.node, .bool e.dir, .int .i64 e.cookie, .int .i64 e.short] 29))
    rw [← face_plain hsh] at cP
    rw [hFL] at cP ⊢
    generalize (⟨FL.toArray⟩ : ByteArray) = F at *
    obtain ⟨nm, nd, dr, ck, sh⟩ := e
    simp only at *
    subst hsh
    clear hb0 hFL
    go_enter Tryz.func10, Tryz.ntmps10
    go_wp2_with (go_at_call 24; refine cP.mono ?_; rintro r w1 ⟨rfl, hb1⟩)
    go_ret
    exact ⟨rfl, HB0.out.trans (hb1.mono HB0.out.size)⟩
  · have cH := regr (W := w.alloc (.cells #[.string e.name, .int .i64 e.node, .bool e.dir, .int .i64 e.cookie, .int .i64 e.short] 29)) (fun w1 _ => (rhash_c e.name (by omega) w1).mono fun r w2 ⟨h1, h2⟩ => ⟨h1, by rw [← h2]; exact Below.refl _ _⟩)
    have cN := regr (W := w.alloc (.cells #[.string e.name, .int .i64 e.node, .bool e.dir, .int .i64 e.cookie, .int .i64 e.short] 29)) (fun w1 h1 => rname_c (fnvL e.name.data.toList) (fnvL_lt _) e.short w1)
    rw [← face_short (enc := enc) hsh] at cN
    rw [hFL] at cN ⊢
    generalize (⟨FL.toArray⟩ : ByteArray) = F at *
    obtain ⟨k0, k1, k2, k3, k4⟩ := EntAt.of HQ.out
    obtain ⟨nm, nd, dr, ck, sh⟩ := e
    simp only at *
    have hsb : (sh == 0) = false := beq_eq_false_iff_ne.2 hsh
    obtain ⟨HH, hHH⟩ : ∃ H, fnvL nm.data.toList = H := ⟨_, rfl⟩
    rw [hHH] at cH cN
    clear hb0 hFL hn0 hn1 hs hHH
    go_enter Tryz.func10, Tryz.ntmps10
    go_upto_region 3 with fail
    refine wp_region_quiet_below (by kernel_rfl) (by kernel_rfl) ?_
    repeat (quiet_step (first | exact cH _ _ | exact cN _ _))
    refine wpQuiet_nil ?_
    intro _ hw'
    obtain ⟨⟨dq, osq⟩, hw''⟩ := hw'
    subst hw''
    go_wp2
    go_ret
    exact ⟨rfl, HB0.out.trans ((below_regrown _ dq osq).mono HB0.out.size)⟩
set_option maxHeartbeats 2000000 in
theorem fits_c (enc : Int) (h0 : 0 ≤ enc) (h8 : enc ≤ 8) (e : Ent) (he : EntOk e) (w : World) (hT : Tabs w) :
    Calls Tryz.prog 12 #[.int .i64 enc, entV e] w fun r w' => r = .returned (.bool (fitB enc e)) ∧ Below w.heap.size w w' := by
  have hb0 : Below w.heap.size w (w.alloc (.cells #[.string e.name, .int .i64 e.node, .bool e.dir, .int .i64 e.cookie, .int .i64 e.short] 29)) := (Below.refl _ w).alloc (Nat.le_refl _) _
  have HQ := Lib.hid (entsBlock e w)
  have HB0 := Lib.hid hb0
  have hT0 := hT.step hb0
  obtain ⟨hs, hn0, hn1⟩ := he
  have cL := regr (W := w.alloc (.cells #[.string e.name, .int .i64 e.node, .bool e.dir, .int .i64 e.cookie, .int .i64 e.short] 29)) (fun w1 h1 => long_c enc h0 h8 e.name hs w1 (hT0.step h1))
  unfold entV fitB
  generalize longB enc e.name.data.toList = L at *
  obtain ⟨k0, k1, k2, k3, k4⟩ := EntAt.of HQ.out
  obtain ⟨nm, nd, dr, ck, sh⟩ := e
  simp only at *
  obtain ⟨S, hS⟩ : ∃ S, decide (¬ sh = 0) = S := ⟨_, rfl⟩
  have hne : (sh != 0) = S := by rw [← hS]; by_cases h : sh = 0 <;> simp [h]
  have HS := Lib.hid hS
  rw [hS]
  clear hT hT0 hb0 hn0 hn1 hs hS
  go_enter Tryz.func12, Tryz.ntmps12
  go_upto_region 1 with fail
  refine wp_region_quiet_below (by kernel_rfl) (by kernel_rfl) ?_
  repeat (quiet_step (first | exact cL _ _))
  refine wpQuiet_nil ?_
  intro _ hw'
  obtain ⟨⟨dq, osq⟩, hw''⟩ := hw'
  subst hw''
  go_wp2
  go_ret
  exact ⟨by simp, HB0.out.trans ((below_regrown _ dq osq).mono HB0.out.size)⟩
end Go.Proofs.YtbbgnhbkjbobgaaGreatDoor
