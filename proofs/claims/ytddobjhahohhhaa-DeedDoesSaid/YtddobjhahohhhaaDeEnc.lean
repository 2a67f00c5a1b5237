/-
  What Encode answers of a deed.
-/
import Derived.Test.YtddobjhahohhhaaFiWrite
import Derived.Test.YtddobjhahohhhaaDeAsk
namespace Go.Proofs.Ytddobjhahohhhaa
open Go.RowKit Go.Sort
set_option linter.unusedVariables false
set_option linter.unusedSimpArgs false

abbrev FW : TypeId := 64
theorem hasFW : HasBld FW 0 := ⟨by decide, by kernel_rfl⟩

/-- Within Encode: the deed, its kind, what is written. -/
structure EncW (w : World) (bO b4 b6 : Nat) (x : De) (v0 v1 v2 v3 : Value) (u : List UInt8) (W : World) : Prop where
  d : W.heap[bO]? = some (.cells ⟨deC x⟩ 23 (0, 0))
  k : W.heap[b4]? = some (.cells #[v0, v1, v2, v3] 56 (0, 0))
  wr : WrB FW b6 b6 (Lib.byteCells u) W
  b : Below bO w W
  le : bO ≤ b6
section
variable {w W W' : World} {bO b4 b6 : Nat} {x : De} {v0 v1 v2 v3 : Value} {u : List UInt8}
theorem IsBld.lt {T : TypeId} {R : List Value} {B b : Nat} {bs : List Value} {w : World} (h : IsBld T R B b bs w) : b < w.heap.size := by
  rcases h with h | h
  · exact h.lt
  · exact h.lt
theorem EncW.step (h : EncW w bO b4 b6 x v0 v1 v2 v3 u W) {u' : List UInt8} {e : Ending} (hp : WrPost FW b6 b6 W u' e W') : e = .returned (.tuple #[]) ∧ EncW w bO b4 b6 x v0 v1 v2 v3 u' W' := by
  obtain ⟨he, hw, hb, hf⟩ := hp
  exact ⟨he, hf _ (by decide) (by decide) _ _ _ h.d, hf _ (by decide) (by decide) _ _ _ h.k, hw, h.b.trans (hb.mono h.le), h.le⟩
theorem EncW.num (h : EncW w bO b4 b6 x v0 v1 v2 v3 u W) (z kk : Int) (k : Nat) (hk : kk = (k : Int)) (hk4 : k ≤ 4) (hz : 0 ≤ z ∧ z ≤ 9223372036854775807) (hu : u.length ≤ 1000) :
    Calls Try.prog 24 #[ptV b6, .int .i64 z, .int .i64 kk] W fun e w' => e = .returned (.tuple #[]) ∧ EncW w bO b4 b6 x v0 v1 v2 v3 (u ++ beB z.toNat k) w' := by
  subst hk
  have h9 := number_c hasFW b6 b6 z.toNat k u W h.wr (by omega) (by omega) (by omega) (Nat.le_of_lt h.wr.lt)
  rw [show ((z.toNat : Nat) : Int) = z by omega] at h9
  exact h9.mono fun e w' hp => h.step hp
theorem EncW.name (h : EncW w bO b4 b6 x v0 v1 v2 v3 u W) (s : ByteArray) (hs : s.size ≤ 255) (hu : u.length ≤ 700) :
    Calls Try.prog 25 #[ptV b6, .string s] W fun e w' => e = .returned (.tuple #[]) ∧ EncW w bO b4 b6 x v0 v1 v2 v3 (u ++ nameB s) w' :=
  (wname_c hasFW b6 b6 s u W h.wr hs (by omega) (Nat.le_of_lt h.wr.lt)).mono fun e w' hp => h.step hp
theorem EncW.flag (h : EncW w bO b4 b6 x v0 v1 v2 v3 u W) (t : Bool) (hu : u.length ≤ 700) :
    Calls Try.prog 26 #[ptV b6, .bool t] W fun e w' => e = .returned (.tuple #[]) ∧ EncW w bO b4 b6 x v0 v1 v2 v3 (u ++ beB (boolN t) 1) w' :=
  (wflag_c hasFW b6 b6 t u W h.wr (by omega) (Nat.le_of_lt h.wr.lt)).mono fun e w' hp => h.step hp
theorem EncW.str (h : EncW w bO b4 b6 x v0 v1 v2 v3 u W) : Calls Try.prog 27 #[ptV b6] W fun e w' => e = .returned (.string ⟨u.toArray⟩) ∧ Below bO w w' :=
  (wtext_c b6 b6 u W h.wr (Nat.le_of_lt h.wr.lt)).mono fun e w' hp => ⟨hp.1, h.b.trans (hp.2.mono h.le)⟩
end
theorem wr_fresh (w : World) : WrB FW w.heap.size w.heap.size (Lib.byteCells []) (w.alloc (.cells #[.pointer none, .slice none 0 0] 64)) :=
  Or.inl ⟨Nat.le_refl _, .slice none 0 0, heap_alloc_new w _, World.ownsRow_nil _ _ _ _, by simp [Value.ownBlock]⟩
theorem encW_new {w w1 : World} {D : Obj} {x : De} (hO : (w.alloc D).heap[w.heap.size]? = some (.cells ⟨deC x⟩ 23 (0, 0))) (h0 : Below w.heap.size w (w.alloc D)) (h1 : Below (w.alloc D).heap.size (w.alloc D) w1) (v0 v1 v2 v3 : Value) :
    Hid (EncW w w.heap.size w1.heap.size (w1.heap.size + 1) x v0 v1 v2 v3 [] ((w1.alloc (.cells #[v0, v1, v2, v3] 56)).alloc (.cells #[.pointer none, .slice none 0 0] 64))) := by
  have hs0 : w.heap.size < (w.alloc D).heap.size := lt_of_get hO
  have hs1 := h1.size
  refine Lib.hid ⟨?_, ?_, ?_, ?_, by omega⟩
  · rw [Lib.alloc_old _ _ _ (by simp; omega), Lib.alloc_old _ _ _ (by omega), h1.block _ hs0]
    exact hO
  · rw [Lib.alloc_old _ _ _ (by simp)]
    exact heap_alloc_new _ _
  · have h9 := wr_fresh (w1.alloc (.cells #[v0, v1, v2, v3] 56))
    rwa [show (w1.alloc (.cells #[v0, v1, v2, v3] 56)).heap.size = w1.heap.size + 1 by simp] at h9
  · exact ((h0.trans (h1.mono (by omega))).alloc (by omega) _).alloc (by simp; omega) _
def EncNo (w : World) (e : Ending) (w' : World) : Prop := e = .returned (.tuple #[.string ⟨#[]⟩, .int .i64 1]) ∧ Below w.heap.size w w'
def EncYes (x : De) (w : World) (e : Ending) (w' : World) : Prop := e = .returned (.tuple #[.string ⟨(bytesL x).toArray⟩, .int .i64 0]) ∧ Below w.heap.size w w'
set_option maxHeartbeats 4000000 in
set_option maxRecDepth 100000 in
theorem enc_no (x : De) (w : World) (h : ¬ May x) : Calls Try.prog 8 #[deV x] w (EncNo w) := by
  unfold EncNo
  have cK := fun W => ask_no x W h
  unfold AskNo at cK
  clear h
  obtain ⟨k, d, dt, s, ns, isD, sh⟩ := x
  unfold deV at *
  simp only at cK ⊢
  have HB0 : Hid (Below w.heap.size w (w.alloc (.cells #[.int .i64 k, .int .i64 d, .int .i64 dt, .string s, .string ns, .bool isD, .int .i64 sh] 23))) := Lib.hid ((Below.refl _ _).alloc (Nat.le_refl _) _)
  go_enter Try.func8, Try.ntmps8
  go_wp2_with (go_at_call 23; refine (cK _).mono ?_; rintro e w1 ⟨rfl, hb1⟩; have HB1 := Lib.hid hb1; clear hb1)
  go_ret2
  refine ⟨rfl, ?_⟩
  have hs := HB0.out.size
  have hs1 := HB1.out.size
  exact (HB0.out.trans (HB1.out.mono hs)).alloc (by omega) _
set_option maxHeartbeats 8000000 in
set_option maxRecDepth 100000 in
theorem enc_yes (x : De) (w : World) (h : May x) : Calls Try.prog 8 #[deV x] w (EncYes x w) := by
  unfold EncYes
  have cK := fun W => ask_yes x W h
  unfold AskPost at cK
  obtain ⟨L, hL⟩ : ∃ L, bytesL x = L := ⟨_, rfl⟩
  rw [hL]
  unfold bytesL dirB toB shB at hL
  have HM := Lib.hid h
  clear h
  obtain ⟨k, d, dt, s, ns, isD, sh⟩ := x
  obtain ⟨m1, m2, m3, m4, m5, m6, m7, m8, m9⟩ := HM.out
  unfold deV kindV at *
  simp only at cK m1 m2 m3 m4 m5 m6 m7 m8 m9 hL ⊢
  have HL := Lib.hid hL
  clear hL m2 m3 m4
  have HO : Hid ((w.alloc (.cells #[.int .i64 k, .int .i64 d, .int .i64 dt, .string s, .string ns, .bool isD, .int .i64 sh] 23)).heap[w.heap.size]? = some (.cells ⟨deC ⟨k, d, dt, s, ns, isD, sh⟩⟩ 23 (0, 0))) := Lib.hid (heap_alloc_new _ _)
  have HB0 : Hid (Below w.heap.size w (w.alloc (.cells #[.int .i64 k, .int .i64 d, .int .i64 dt, .string s, .string ns, .bool isD, .int .i64 sh] 23))) := Lib.hid ((Below.refl _ _).alloc (Nat.le_refl _) _)
  rcases m1 with rfl | rfl | rfl
  · simp only [show ¬ (1 : Int) = 3 by decide, show ¬ (1 : Int) = 2 by decide, reduceIte, List.nil_append, List.append_nil] at HL
    go_enter Try.func8, Try.ntmps8
    go_upto_region 5 with (go_at_call 23; refine (cK _).mono ?_; rintro e w1 ⟨f, rfl, hd1, hb1⟩; obtain ⟨n9, g9, rfl⟩ := hd1.form; have HB1 := Lib.hid hb1; clear hb1 hd1)
    have HE := encW_new HO.out HB0.out HB1.out (.bool true) (.bool false) (.bool true) (.func n9 #[] #[ptV g9])
    generalize ((w1.alloc (.cells #[.bool true, .bool false, .bool true, .func n9 #[] #[ptV g9]] 56)).alloc (.cells #[.pointer none, .slice none 0 0] 64)) = W1 at *
    generalize w1.heap.size = b4 at *
    generalize hbO : w.heap.size = bO at *
    clear cK HO HB0 HB1
    obtain ⟨p0, p1, p2, p3, p4, p5, p6⟩ := de_cells HE.out.d
    obtain ⟨⟨q0, q1, q2, q3⟩, _⟩ := four_cells HE.out.k
    go_wp2_with (first
      | (go_at_call 24; (with_reducible refine (HE.out.num _ 1 1 rfl (by omega) (by omega) (by simp only [List.length_append, beB_len, nameB_len, List.length_nil]; omega)).mono ?_); rintro e w2 ⟨rfl, he⟩; have HE := Lib.hid he; clear he; obtain ⟨p0, p1, p2, p3, p4, p5, p6⟩ := de_cells HE.out.d; obtain ⟨⟨q0, q1, q2, q3⟩, _⟩ := four_cells HE.out.k)
      | (go_at_call 24; (with_reducible refine (HE.out.num _ 2 2 rfl (by omega) (by omega) (by simp only [List.length_append, beB_len, nameB_len, List.length_nil]; omega)).mono ?_); rintro e w2 ⟨rfl, he⟩; have HE := Lib.hid he; clear he; obtain ⟨p0, p1, p2, p3, p4, p5, p6⟩ := de_cells HE.out.d; obtain ⟨⟨q0, q1, q2, q3⟩, _⟩ := four_cells HE.out.k)
      | (go_at_call 24; (with_reducible refine (HE.out.num _ 4 4 rfl (by omega) (by omega) (by simp only [List.length_append, beB_len, nameB_len, List.length_nil]; omega)).mono ?_); rintro e w2 ⟨rfl, he⟩; have HE := Lib.hid he; clear he; obtain ⟨p0, p1, p2, p3, p4, p5, p6⟩ := de_cells HE.out.d; obtain ⟨⟨q0, q1, q2, q3⟩, _⟩ := four_cells HE.out.k)
      | (go_at_call 25; (with_reducible refine (HE.out.name _ (by omega) (by simp only [List.length_append, beB_len, nameB_len, List.length_nil]; omega)).mono ?_); rintro e w2 ⟨rfl, he⟩; have HE := Lib.hid he; clear he; obtain ⟨p0, p1, p2, p3, p4, p5, p6⟩ := de_cells HE.out.d; obtain ⟨⟨q0, q1, q2, q3⟩, _⟩ := four_cells HE.out.k)
      | (go_at_call 26; (with_reducible refine (HE.out.flag _ (by simp only [List.length_append, beB_len, nameB_len, List.length_nil]; omega)).mono ?_); rintro e w2 ⟨rfl, he⟩; have HE := Lib.hid he; clear he; obtain ⟨p0, p1, p2, p3, p4, p5, p6⟩ := de_cells HE.out.d; obtain ⟨⟨q0, q1, q2, q3⟩, _⟩ := four_cells HE.out.k)
      | (go_at_call 27; refine HE.out.str.mono ?_; rintro e w3 ⟨rfl, hb3⟩; have HB3 := Lib.hid hb3; clear hb3))
    go_ret2
    refine ⟨?_, by first | exact HB3.out | (rw [hbO]; exact HB3.out)⟩
    rw [← HL.out]
    simp only [List.nil_append, List.append_assoc]
    rfl
  · simp only [show ¬ (2 : Int) = 3 by decide, reduceIte, List.nil_append, List.append_nil] at HL
    go_enter Try.func8, Try.ntmps8
    go_upto_region 5 with (go_at_call 23; refine (cK _).mono ?_; rintro e w1 ⟨f, rfl, hd1, hb1⟩; obtain ⟨n9, g9, rfl⟩ := hd1.form; have HB1 := Lib.hid hb1; clear hb1 hd1)
    have HE := encW_new HO.out HB0.out HB1.out (.bool true) (.bool false) (.bool false) (.func n9 #[] #[ptV g9])
    generalize ((w1.alloc (.cells #[.bool true, .bool false, .bool false, .func n9 #[] #[ptV g9]] 56)).alloc (.cells #[.pointer none, .slice none 0 0] 64)) = W1 at *
    generalize w1.heap.size = b4 at *
    generalize hbO : w.heap.size = bO at *
    clear cK HO HB0 HB1
    obtain ⟨p0, p1, p2, p3, p4, p5, p6⟩ := de_cells HE.out.d
    obtain ⟨⟨q0, q1, q2, q3⟩, _⟩ := four_cells HE.out.k
    go_wp2_with (first
      | (go_at_call 24; (with_reducible refine (HE.out.num _ 1 1 rfl (by omega) (by omega) (by simp only [List.length_append, beB_len, nameB_len, List.length_nil]; omega)).mono ?_); rintro e w2 ⟨rfl, he⟩; have HE := Lib.hid he; clear he; obtain ⟨p0, p1, p2, p3, p4, p5, p6⟩ := de_cells HE.out.d; obtain ⟨⟨q0, q1, q2, q3⟩, _⟩ := four_cells HE.out.k)
      | (go_at_call 24; (with_reducible refine (HE.out.num _ 2 2 rfl (by omega) (by omega) (by simp only [List.length_append, beB_len, nameB_len, List.length_nil]; omega)).mono ?_); rintro e w2 ⟨rfl, he⟩; have HE := Lib.hid he; clear he; obtain ⟨p0, p1, p2, p3, p4, p5, p6⟩ := de_cells HE.out.d; obtain ⟨⟨q0, q1, q2, q3⟩, _⟩ := four_cells HE.out.k)
      | (go_at_call 24; (with_reducible refine (HE.out.num _ 4 4 rfl (by omega) (by omega) (by simp only [List.length_append, beB_len, nameB_len, List.length_nil]; omega)).mono ?_); rintro e w2 ⟨rfl, he⟩; have HE := Lib.hid he; clear he; obtain ⟨p0, p1, p2, p3, p4, p5, p6⟩ := de_cells HE.out.d; obtain ⟨⟨q0, q1, q2, q3⟩, _⟩ := four_cells HE.out.k)
      | (go_at_call 25; (with_reducible refine (HE.out.name _ (by omega) (by simp only [List.length_append, beB_len, nameB_len, List.length_nil]; omega)).mono ?_); rintro e w2 ⟨rfl, he⟩; have HE := Lib.hid he; clear he; obtain ⟨p0, p1, p2, p3, p4, p5, p6⟩ := de_cells HE.out.d; obtain ⟨⟨q0, q1, q2, q3⟩, _⟩ := four_cells HE.out.k)
      | (go_at_call 26; (with_reducible refine (HE.out.flag _ (by simp only [List.length_append, beB_len, nameB_len, List.length_nil]; omega)).mono ?_); rintro e w2 ⟨rfl, he⟩; have HE := Lib.hid he; clear he; obtain ⟨p0, p1, p2, p3, p4, p5, p6⟩ := de_cells HE.out.d; obtain ⟨⟨q0, q1, q2, q3⟩, _⟩ := four_cells HE.out.k)
      | (go_at_call 27; refine HE.out.str.mono ?_; rintro e w3 ⟨rfl, hb3⟩; have HB3 := Lib.hid hb3; clear hb3))
    go_ret2
    refine ⟨?_, by first | exact HB3.out | (rw [hbO]; exact HB3.out)⟩
    rw [← HL.out]
    simp only [List.nil_append, List.append_assoc]
    rfl
  · simp only [show ¬ (3 : Int) = 2 by decide, reduceIte, List.nil_append, List.append_nil] at HL
    go_enter Try.func8, Try.ntmps8
    go_upto_region 5 with (go_at_call 23; refine (cK _).mono ?_; rintro e w1 ⟨f, rfl, hd1, hb1⟩; obtain ⟨n9, g9, rfl⟩ := hd1.form; have HB1 := Lib.hid hb1; clear hb1 hd1)
    have HE := encW_new HO.out HB0.out HB1.out (.bool false) (.bool true) (.bool true) (.func n9 #[] #[ptV g9])
    generalize ((w1.alloc (.cells #[.bool false, .bool true, .bool true, .func n9 #[] #[ptV g9]] 56)).alloc (.cells #[.pointer none, .slice none 0 0] 64)) = W1 at *
    generalize w1.heap.size = b4 at *
    generalize hbO : w.heap.size = bO at *
    clear cK HO HB0 HB1
    obtain ⟨p0, p1, p2, p3, p4, p5, p6⟩ := de_cells HE.out.d
    obtain ⟨⟨q0, q1, q2, q3⟩, _⟩ := four_cells HE.out.k
    go_wp2_with (first
      | (go_at_call 24; (with_reducible refine (HE.out.num _ 1 1 rfl (by omega) (by omega) (by simp only [List.length_append, beB_len, nameB_len, List.length_nil]; omega)).mono ?_); rintro e w2 ⟨rfl, he⟩; have HE := Lib.hid he; clear he; obtain ⟨p0, p1, p2, p3, p4, p5, p6⟩ := de_cells HE.out.d; obtain ⟨⟨q0, q1, q2, q3⟩, _⟩ := four_cells HE.out.k)
      | (go_at_call 24; (with_reducible refine (HE.out.num _ 2 2 rfl (by omega) (by omega) (by simp only [List.length_append, beB_len, nameB_len, List.length_nil]; omega)).mono ?_); rintro e w2 ⟨rfl, he⟩; have HE := Lib.hid he; clear he; obtain ⟨p0, p1, p2, p3, p4, p5, p6⟩ := de_cells HE.out.d; obtain ⟨⟨q0, q1, q2, q3⟩, _⟩ := four_cells HE.out.k)
      | (go_at_call 24; (with_reducible refine (HE.out.num _ 4 4 rfl (by omega) (by omega) (by simp only [List.length_append, beB_len, nameB_len, List.length_nil]; omega)).mono ?_); rintro e w2 ⟨rfl, he⟩; have HE := Lib.hid he; clear he; obtain ⟨p0, p1, p2, p3, p4, p5, p6⟩ := de_cells HE.out.d; obtain ⟨⟨q0, q1, q2, q3⟩, _⟩ := four_cells HE.out.k)
      | (go_at_call 25; (with_reducible refine (HE.out.name _ (by omega) (by simp only [List.length_append, beB_len, nameB_len, List.length_nil]; omega)).mono ?_); rintro e w2 ⟨rfl, he⟩; have HE := Lib.hid he; clear he; obtain ⟨p0, p1, p2, p3, p4, p5, p6⟩ := de_cells HE.out.d; obtain ⟨⟨q0, q1, q2, q3⟩, _⟩ := four_cells HE.out.k)
      | (go_at_call 26; (with_reducible refine (HE.out.flag _ (by simp only [List.length_append, beB_len, nameB_len, List.length_nil]; omega)).mono ?_); rintro e w2 ⟨rfl, he⟩; have HE := Lib.hid he; clear he; obtain ⟨p0, p1, p2, p3, p4, p5, p6⟩ := de_cells HE.out.d; obtain ⟨⟨q0, q1, q2, q3⟩, _⟩ := four_cells HE.out.k)
      | (go_at_call 27; refine HE.out.str.mono ?_; rintro e w3 ⟨rfl, hb3⟩; have HB3 := Lib.hid hb3; clear hb3))
    go_ret2
    refine ⟨?_, by first | exact HB3.out | (rw [hbO]; exact HB3.out)⟩
    rw [← HL.out]
    simp only [List.nil_append, List.append_assoc]
    rfl
end Go.Proofs.Ytddobjhahohhhaa
