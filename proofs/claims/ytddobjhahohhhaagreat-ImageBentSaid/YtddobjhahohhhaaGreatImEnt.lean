/-
  An entry's bytes, and a directory's, as the project writes them.
-/
import Derived.Test.YtddobjhahohhhaaGreatFiWrite
import Derived.Test.YtddobjhahohhhaaGreatImFit
import Derived.Test.YtddobjhahohhhaaGreatQB
import Derived.Test.YtddobjhahohhhaaGreatQ1
namespace Go.Proofs.YtddobjhahohhhaaGreat
open Go.RowKit Go.Sort
set_option linter.unusedVariables false
set_option linter.unusedSimpArgs false

abbrev IW : TypeId := 57
theorem hasIW : HasBld IW 0 := ⟨by decide, by kernel_rfl⟩
theorem FrB.drew {T : TypeId} (w : World) : FrB T w w.drew := fun T0 _ _ => KeptT.below (Below.drew (Below.refl _ _))
theorem FrB.alloc {T : TypeId} (w : World) (o : Obj) : FrB T w (w.alloc o) := fun T0 _ _ => KeptT.alloc o
theorem FrB.below {T : TypeId} {w w' : World} (h : Below w.heap.size w w') : FrB T w w' := fun T0 _ _ => KeptT.below h
/-- A row of another type stays. -/
theorem row_fr {T T0 : TypeId} {w w' : World} (hf : FrB T w w') (h8 : T0 ≠ 5) (hT : T0 ≠ T) {B c n : Nat} {v : Value} {xs : List Value} (h : w.ownsRow B T0 c v n xs) : w'.ownsRow B T0 c v n xs :=
  ownsRow_same h fun g hg => by
    obtain ⟨cur, hc⟩ := ownsRow_typ h hg
    rw [hc, hf T0 h8 hT _ _ _ hc]
/-- Within entry: the entry, what is written. -/
structure EntW (w : World) (B b q : Nat) (x : Ent) (u : List UInt8) (W : World) : Prop where
  d : W.heap[q]? = some (.cells #[.string x.name, .int .i64 x.node, .bool x.dir, .int .i64 x.cookie, .int .i64 x.short] 84 (0, 0))
  wr : WrB IW B b (Lib.byteCells u) W
  b : Below B w W
  f : FrB IW w W
  s : B ≤ W.heap.size
section
variable {w W W' : World} {B b q : Nat} {x : Ent} {u : List UInt8}
theorem EntW.step (h : EntW w B b q x u W) {u' : List UInt8} {e : Ending} (hp : WrPost IW B b W u' e W') : e = .returned (.tuple #[]) ∧ EntW w B b q x u' W' := by
  obtain ⟨he, hw, hb, hf⟩ := hp
  exact ⟨he, hf _ (by decide) (by decide) _ _ _ h.d, hw, h.b.trans hb, h.f.trans hf, Nat.le_trans h.s hb.size⟩
theorem EntW.drew (h : EntW w B b q x u W) : EntW w B b q x u W.drew :=
  ⟨h.d, h.wr.below (Below.drew (Below.refl _ _)), Below.drew h.b, h.f.trans (FrB.drew W), h.s⟩
theorem EntW.num (h : EntW w B b q x u W) (z kk : Int) (k : Nat) (hk : kk = (k : Int)) (hk8 : k ≤ 8) (hz : 0 ≤ z ∧ z ≤ 9223372036854775807) (hu : u.length ≤ 1000000) :
    Calls Tryz.prog 17 #[ptV b, .int .i64 z, .int .i64 kk] W fun e w' => e = .returned (.tuple #[]) ∧ EntW w B b q x (u ++ beB z.toNat k) w' := by
  subst hk
  have h9 := number_c hasIW B b z.toNat k u W h.wr (by omega) hk8 hu h.s
  rw [show ((z.toNat : Nat) : Int) = z by omega] at h9
  exact h9.mono fun e w' hp => h.step hp
theorem EntW.name (h : EntW w B b q x u W) (s : ByteArray) (hs : s.size ≤ 255) (hu : u.length ≤ 999000) :
    Calls Tryz.prog 73 #[ptV b, .string s] W fun e w' => e = .returned (.tuple #[]) ∧ EntW w B b q x (u ++ nameB s) w' :=
  (wname_c hasIW B b s u W h.wr hs hu h.s).mono fun e w' hp => h.step hp
theorem EntW.flag (h : EntW w B b q x u W) (t : Bool) (hu : u.length ≤ 999000) :
    Calls Tryz.prog 74 #[ptV b, .bool t] W fun e w' => e = .returned (.tuple #[]) ∧ EntW w B b q x (u ++ beB (boolN t) 1) w' :=
  (wflag_c hasIW B b t u W h.wr hu h.s).mono fun e w' hp => h.step hp
end
set_option maxHeartbeats 8000000 in
set_option maxRecDepth 100000 in
theorem wentry_c (B b : Nat) (x : Ent) (l : List UInt8) (w : World) (h : WrB IW B b (Lib.byteCells l) w) (hx : EntFit x) (hl : l.length ≤ 900000) (hB : B ≤ w.heap.size) :
    Calls Tryz.prog 45 #[ptV b, entV x] w (WrPost IW B b w (l ++ entY x)) := by
  unfold WrPost
  obtain ⟨L, hL⟩ : ∃ L, l ++ entY x = L := ⟨_, rfl⟩
  rw [hL]
  unfold entY at hL
  obtain ⟨⟨k1, ⟨k2, k3⟩, ⟨k4, k5⟩, ⟨k6, k7⟩⟩, k8⟩ := hx
  obtain ⟨s, n, d, c, q0⟩ := x
  unfold entV
  simp only at hL k1 k2 k3 k4 k5 k6 k7 k8 ⊢
  have HL := Lib.hid hL
  clear hL
  have HE : Hid (EntW w B b w.heap.size ⟨s, n, d, c, q0⟩ l (w.alloc (.cells #[.string s, .int .i64 n, .bool d, .int .i64 c, .int .i64 q0] 84))) := Lib.hid
    ⟨heap_alloc_new _ _, h.below ((Below.refl _ _).alloc (Nat.le_refl _) _), (Below.refl _ _).alloc hB _, FrB.alloc _ _, by simp; omega⟩
  clear h hB
  go_enter Tryz.func45, Tryz.ntmps45
  go_upto_region 1 with fail
  generalize (w.alloc (.cells #[.string s, .int .i64 n, .bool d, .int .i64 c, .int .i64 q0] 84)) = W0 at *
  generalize w.heap.size = q at *
  have hcs := five_cells HE.out.d
  obtain ⟨⟨c0, c1, c2, c3, c4⟩, _⟩ := hcs
  go_still_tail 5, (by kernel_rfl)
  change wpList _ _ _ _ _ W0.drew
  have HE := Lib.hid HE.out.drew
  generalize W0.drew = W1 at *
  obtain ⟨⟨c0, c1, c2, c3, c4⟩, _⟩ := five_cells HE.out.d
  go_wp2_with (go_at_call 73; (with_reducible refine (HE.out.name _ (by omega) (by omega)).mono ?_); rintro e w2 ⟨rfl, he⟩; have HE := Lib.hid he; clear he)
  clear c0 c1 c2 c3 c4
  have hcs := five_cells HE.out.d
  obtain ⟨⟨c0, c1, c2, c3, c4⟩, _⟩ := hcs
  go_still_tail 5, (by kernel_rfl)
  change wpList _ _ _ _ _ w2.drew
  have HE := Lib.hid HE.out.drew
  generalize w2.drew = W2 at *
  obtain ⟨⟨c0, c1, c2, c3, c4⟩, _⟩ := five_cells HE.out.d
  go_wp2_with (go_at_call 17; (with_reducible refine (HE.out.num _ 2 2 rfl (by omega) (by omega) (by simp only [List.length_append, beB_len, nameB_len]; omega)).mono ?_); rintro e w3 ⟨rfl, he⟩; have HE := Lib.hid he; clear he)
  clear c0 c1 c2 c3 c4
  have hcs := five_cells HE.out.d
  obtain ⟨⟨c0, c1, c2, c3, c4⟩, _⟩ := hcs
  go_still_tail 5, (by kernel_rfl)
  change wpList _ _ _ _ _ w3.drew
  have HE := Lib.hid HE.out.drew
  generalize w3.drew = W3 at *
  obtain ⟨⟨c0, c1, c2, c3, c4⟩, _⟩ := five_cells HE.out.d
  go_wp2_with (go_at_call 74; (with_reducible refine (HE.out.flag _ (by simp only [List.length_append, beB_len, nameB_len]; omega)).mono ?_); rintro e w4 ⟨rfl, he⟩; have HE := Lib.hid he; clear he)
  clear c0 c1 c2 c3 c4
  have hcs := five_cells HE.out.d
  obtain ⟨⟨c0, c1, c2, c3, c4⟩, _⟩ := hcs
  go_still_tail 5, (by kernel_rfl)
  change wpList _ _ _ _ _ w4.drew
  have HE := Lib.hid HE.out.drew
  generalize w4.drew = W4 at *
  obtain ⟨⟨c0, c1, c2, c3, c4⟩, _⟩ := five_cells HE.out.d
  go_wp2_with (go_at_call 17; (with_reducible refine (HE.out.num _ 8 8 rfl (by omega) (by omega) (by simp only [List.length_append, beB_len, nameB_len]; omega)).mono ?_); rintro e w5 ⟨rfl, he⟩; have HE := Lib.hid he; clear he)
  clear c0 c1 c2 c3 c4
  have hcs := five_cells HE.out.d
  obtain ⟨⟨c0, c1, c2, c3, c4⟩, _⟩ := hcs
  go_still_tail 5, (by kernel_rfl)
  change wpList _ _ _ _ _ w5.drew
  have HE := Lib.hid HE.out.drew
  generalize w5.drew = W5 at *
  obtain ⟨⟨c0, c1, c2, c3, c4⟩, _⟩ := five_cells HE.out.d
  go_wp2_with (go_at_call 17; (with_reducible refine (HE.out.num _ 4 4 rfl (by omega) (by omega) (by simp only [List.length_append, beB_len, nameB_len]; omega)).mono ?_); rintro e w6 ⟨rfl, he⟩; have HE := Lib.hid he; clear he)
  go_end0
  refine ⟨rfl, ?_, HE.out.b, HE.out.f⟩
  have h9 := HE.out.wr
  rw [← HL.out]
  simp only [List.append_assoc] at h9
  exact h9
end Go.Proofs.YtddobjhahohhhaaGreat
