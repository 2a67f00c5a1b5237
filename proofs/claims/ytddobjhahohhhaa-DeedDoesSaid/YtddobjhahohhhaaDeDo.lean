/-
  A deed is done on a tree of the project's, whatever it is made of.
-/
import Derived.Test.YtddobjhahohhhaaDeAsk
import Derived.Test.YtddobjhahohhhaaQH
namespace Go.Proofs.Ytddobjhahohhhaa
open Go.RowKit Go.Sort
set_option linter.unusedVariables false
set_option linter.unusedSimpArgs false

theorem DoIs.link {w : World} {f : Value} (h : DoIs w 1 f) : ∃ g, f = .func (.func 83) #[] #[ptV g] ∧ w.heap[g]? = some (.cells #[linkF] 126 (0, 0)) := by
  obtain ⟨g, ⟨_, h⟩ | ⟨h, _⟩ | ⟨h, _⟩⟩ := h
  · exact ⟨g, h⟩
  · exact absurd h (by decide)
  · exact absurd h (by decide)
theorem DoIs.unlink {w : World} {f : Value} (h : DoIs w 2 f) : ∃ g, f = .func (.func 88) #[] #[ptV g] ∧ w.heap[g]? = some (.cells #[unlinkF] 129 (0, 0)) := by
  obtain ⟨g, ⟨h, _⟩ | ⟨_, h⟩ | ⟨h, _⟩⟩ := h
  · exact absurd h (by decide)
  · exact ⟨g, h⟩
  · exact absurd h (by decide)
theorem DoIs.move {w : World} {f : Value} (h : DoIs w 3 f) : ∃ g, f = .func (.func 92) #[] #[ptV g] ∧ w.heap[g]? = some (.cells #[moveF] 132 (0, 0)) := by
  obtain ⟨g, ⟨h, _⟩ | ⟨h, _⟩ | ⟨_, h⟩⟩ := h
  · exact absurd h (by decide)
  · exact absurd h (by decide)
  · exact ⟨g, h⟩
def opOf (x : De) : OpT := ⟨x.k - 1, x.d, x.dt, x.s, x.ns, x.isD, x.sh⟩
/-- What a deed answers, and leaves. -/
def deI (l : List Itm) (nx : Int) (x : De) : (List Itm × Int) × Int × Int := if May x then doI l nx (opOf x) else ((l, nx), 0, 1)
def DonePost (T : TreeC) (w : World) (b : Nat) (S : Nat → Prop) (R : (List Itm × Int) × Int × Int) (e : Ending) (w' : World) : Prop := ∃ S', e = .returned (.tuple #[.int .i64 R.2.1, .int .i64 R.2.2]) ∧ T.Is w' b R.1.1 R.1.2 S' ∧ Trod w w' S S'
section
variable (T : TreeC) {w : World} {b : Nat} {l : List Itm} {nx : Int} {S : Nat → Prop}
set_option maxHeartbeats 4000000 in
set_option maxRecDepth 100000 in
theorem linkBy1_c (x : De) (g : Nat) (h : T.Is w b l nx S) (hs : x.s.size ≤ 9223372036854775807) (hnx : nx + 1 ≤ 9223372036854775807) (hg : w.heap[g]? = some (.cells #[linkF] 126 (0, 0))) :
    Calls Try.prog 83 #[ptV b, deV x, ptV g] w (DonePost T w b S (linkI l nx x.d x.s x.isD x.sh)) := by
  unfold DonePost
  obtain ⟨k, d, dt, s, ns, isD, sh⟩ := x
  simp only at hs
  unfold deV
  simp only
  have hb0 : Below w.heap.size w (w.alloc (.cells #[.int .i64 k, .int .i64 d, .int .i64 dt, .string s, .string ns, .bool isD, .int .i64 sh] 23)) := (Below.refl _ w).alloc (Nat.le_refl _) _
  have hi0 := T.below h hb0
  have HTR : Hid (Trod w (w.alloc (.cells #[.int .i64 k, .int .i64 d, .int .i64 dt, .string s, .string ns, .bool isD, .int .i64 sh] 23)) S S) := Lib.hid (Trod.of_below hb0)
  have cL := T.link d s isD sh hi0 hs hnx
  have c0 : (w.alloc (.cells #[.int .i64 k, .int .i64 d, .int .i64 dt, .string s, .string ns, .bool isD, .int .i64 sh] 23)).cell? ⟨g, 0, none⟩ = some linkF := Lib.cell_of_heap ((hb0.block g (lt_of_get hg)).trans hg) 0
  have HO : Hid ((w.alloc (.cells #[.int .i64 k, .int .i64 d, .int .i64 dt, .string s, .string ns, .bool isD, .int .i64 sh] 23)).heap[w.heap.size]? = some (.cells ⟨deC ⟨k, d, dt, s, ns, isD, sh⟩⟩ 23 (0, 0))) := Lib.hid (heap_alloc_new _ _)
  generalize linkI l nx d s isD sh = R at *
  clear hb0 hi0 h hg
  go_enter Try.func83, Try.ntmps83
  go_upto_region 1 with fail
  generalize (w.alloc (.cells #[.int .i64 k, .int .i64 d, .int .i64 dt, .string s, .string ns, .bool isD, .int .i64 sh] 23)) = W0 at *
  generalize w.heap.size = bO at *
  obtain ⟨p0, p1, p2, p3, p4, p5, p6⟩ := de_cells HO.out
  go_wp2_with (go_at_call 58; refine cL.mono ?_; rintro e w1 ⟨S1, rfl, hi1, ht1⟩; have HI := Lib.hid hi1; have HT := Lib.hid ht1; clear hi1 ht1)
  go_ret2
  exact ⟨S1, rfl, HI.out, HTR.out.trans HT.out⟩
set_option maxHeartbeats 4000000 in
set_option maxRecDepth 100000 in
theorem unlinkBy1_c (x : De) (g : Nat) (h : T.Is w b l nx S) (hg : w.heap[g]? = some (.cells #[unlinkF] 129 (0, 0))) :
    Calls Try.prog 88 #[ptV b, deV x, ptV g] w (DonePost T w b S ((unlinkI l nx x.d x.s x.isD).1, 0, (unlinkI l nx x.d x.s x.isD).2)) := by
  unfold DonePost
  obtain ⟨k, d, dt, s, ns, isD, sh⟩ := x
  unfold deV
  simp only
  have hb0 : Below w.heap.size w (w.alloc (.cells #[.int .i64 k, .int .i64 d, .int .i64 dt, .string s, .string ns, .bool isD, .int .i64 sh] 23)) := (Below.refl _ w).alloc (Nat.le_refl _) _
  have hi0 := T.below h hb0
  have HTR : Hid (Trod w (w.alloc (.cells #[.int .i64 k, .int .i64 d, .int .i64 dt, .string s, .string ns, .bool isD, .int .i64 sh] 23)) S S) := Lib.hid (Trod.of_below hb0)
  have cL := T.unlink d s isD hi0
  have c0 : (w.alloc (.cells #[.int .i64 k, .int .i64 d, .int .i64 dt, .string s, .string ns, .bool isD, .int .i64 sh] 23)).cell? ⟨g, 0, none⟩ = some unlinkF := Lib.cell_of_heap ((hb0.block g (lt_of_get hg)).trans hg) 0
  have HO : Hid ((w.alloc (.cells #[.int .i64 k, .int .i64 d, .int .i64 dt, .string s, .string ns, .bool isD, .int .i64 sh] 23)).heap[w.heap.size]? = some (.cells ⟨deC ⟨k, d, dt, s, ns, isD, sh⟩⟩ 23 (0, 0))) := Lib.hid (heap_alloc_new _ _)
  generalize unlinkI l nx d s isD = R at *
  clear hb0 hi0 h hg
  go_enter Try.func88, Try.ntmps88
  go_upto_region 1 with fail
  generalize (w.alloc (.cells #[.int .i64 k, .int .i64 d, .int .i64 dt, .string s, .string ns, .bool isD, .int .i64 sh] 23)) = W0 at *
  generalize w.heap.size = bO at *
  obtain ⟨p0, p1, p2, p3, p4, p5, p6⟩ := de_cells HO.out
  go_wp2_with (go_at_call 60; refine cL.mono ?_; rintro e w1 ⟨S1, rfl, hi1, ht1⟩; have HI := Lib.hid hi1; have HT := Lib.hid ht1; clear hi1 ht1)
  go_ret2
  exact ⟨S1, rfl, HI.out, HTR.out.trans HT.out⟩
set_option maxHeartbeats 4000000 in
set_option maxRecDepth 100000 in
theorem moveBy1_c (x : De) (g : Nat) (h : T.Is w b l nx S) (hs : x.ns.size ≤ 9223372036854775807) (hnx : nx + 1 ≤ 9223372036854775807) (hg : w.heap[g]? = some (.cells #[moveF] 132 (0, 0))) :
    Calls Try.prog 92 #[ptV b, deV x, ptV g] w (DonePost T w b S ((moveI l nx x.d x.s x.dt x.ns x.sh).1, 0, (moveI l nx x.d x.s x.dt x.ns x.sh).2)) := by
  unfold DonePost
  obtain ⟨k, d, dt, s, ns, isD, sh⟩ := x
  simp only at hs
  unfold deV
  simp only
  have hb0 : Below w.heap.size w (w.alloc (.cells #[.int .i64 k, .int .i64 d, .int .i64 dt, .string s, .string ns, .bool isD, .int .i64 sh] 23)) := (Below.refl _ w).alloc (Nat.le_refl _) _
  have hi0 := T.below h hb0
  have HTR : Hid (Trod w (w.alloc (.cells #[.int .i64 k, .int .i64 d, .int .i64 dt, .string s, .string ns, .bool isD, .int .i64 sh] 23)) S S) := Lib.hid (Trod.of_below hb0)
  have cL := T.move d s dt ns sh hi0 hs hnx
  have c0 : (w.alloc (.cells #[.int .i64 k, .int .i64 d, .int .i64 dt, .string s, .string ns, .bool isD, .int .i64 sh] 23)).cell? ⟨g, 0, none⟩ = some moveF := Lib.cell_of_heap ((hb0.block g (lt_of_get hg)).trans hg) 0
  have HO : Hid ((w.alloc (.cells #[.int .i64 k, .int .i64 d, .int .i64 dt, .string s, .string ns, .bool isD, .int .i64 sh] 23)).heap[w.heap.size]? = some (.cells ⟨deC ⟨k, d, dt, s, ns, isD, sh⟩⟩ 23 (0, 0))) := Lib.hid (heap_alloc_new _ _)
  generalize moveI l nx d s dt ns sh = R at *
  clear hb0 hi0 h hg
  go_enter Try.func92, Try.ntmps92
  go_upto_region 1 with fail
  generalize (w.alloc (.cells #[.int .i64 k, .int .i64 d, .int .i64 dt, .string s, .string ns, .bool isD, .int .i64 sh] 23)) = W0 at *
  generalize w.heap.size = bO at *
  obtain ⟨p0, p1, p2, p3, p4, p5, p6⟩ := de_cells HO.out
  go_wp2_with (go_at_call 62; refine cL.mono ?_; rintro e w1 ⟨S1, rfl, hi1, ht1⟩; have HI := Lib.hid hi1; have HT := Lib.hid ht1; clear hi1 ht1)
  go_ret2
  exact ⟨S1, rfl, HI.out, HTR.out.trans HT.out⟩
theorem deI_yes {l : List Itm} {nx : Int} {x : De} (h : May x) : deI l nx x = if x.k = 1 then linkI l nx x.d x.s x.isD x.sh else if x.k = 2 then ((unlinkI l nx x.d x.s x.isD).1, 0, (unlinkI l nx x.d x.s x.isD).2) else ((moveI l nx x.d x.s x.dt x.ns x.sh).1, 0, (moveI l nx x.d x.s x.dt x.ns x.sh).2) := by
  unfold deI
  rw [if_pos h]
  unfold doI opOf
  obtain ⟨hk, _⟩ := h
  rcases hk with hk | hk | hk <;> simp [hk]
set_option maxHeartbeats 4000000 in
set_option maxRecDepth 100000 in
theorem deedDo_1 (x : De) (hk : x.k = 1) (hm : May x) (h : T.Is w b l nx S) (hnx : nx + 1 ≤ 9223372036854775807) : Calls Try.prog 16 #[ptV b, deV x] w (DonePost T w b S (deI l nx x)) := by
  rw [deI_yes hm]
  unfold DonePost
  have cK := fun W => ask_yes x W hm
  unfold AskPost kindV at cK
  have hs1 : x.s.size ≤ 9223372036854775807 := by have := hm.2.2.2.2.2.2.1; omega
  have hs2 : x.ns.size ≤ 9223372036854775807 := by have := hm.2.2.2.2.2.2.2.1; omega
  clear hm
  obtain ⟨k, d, dt, s, ns, isD, sh⟩ := x
  simp only at hk hs1 hs2
  subst hk
  have cC := fun (W : World) (g : Nat) (S0 : Nat → Prop) (hi : T.Is W b l nx S0) (hg : W.heap[g]? = some (.cells #[linkF] 126 (0, 0))) => linkBy1_c T ⟨1, d, dt, s, ns, isD, sh⟩ g hi hs1 hnx hg
  unfold DonePost at cC
  unfold deV at *
  simp only [show decide ((1 : Int) = 1 ∨ (1 : Int) = 2) = true by decide, show decide ((1 : Int) = 3) = false by decide, show decide ((1 : Int) = 1 ∨ (1 : Int) = 3) = true by decide, reduceIte] at cK cC ⊢
  generalize linkI l nx d s isD sh = R at *
  have hb0 : Below w.heap.size w (w.alloc (.cells #[.int .i64 1, .int .i64 d, .int .i64 dt, .string s, .string ns, .bool isD, .int .i64 sh] 23)) := (Below.refl _ w).alloc (Nat.le_refl _) _
  have HI0 := Lib.hid (T.below h hb0)
  have HTR : Hid (Trod w (w.alloc (.cells #[.int .i64 1, .int .i64 d, .int .i64 dt, .string s, .string ns, .bool isD, .int .i64 sh] 23)) S S) := Lib.hid (Trod.of_below hb0)
  have HO : Hid ((w.alloc (.cells #[.int .i64 1, .int .i64 d, .int .i64 dt, .string s, .string ns, .bool isD, .int .i64 sh] 23)).heap[w.heap.size]? = some (.cells ⟨deC ⟨1, d, dt, s, ns, isD, sh⟩⟩ 23 (0, 0))) := Lib.hid (heap_alloc_new _ _)
  clear hb0 h
  go_enter Try.func16, Try.ntmps16
  go_upto_region 1 with fail
  generalize (w.alloc (.cells #[.int .i64 1, .int .i64 d, .int .i64 dt, .string s, .string ns, .bool isD, .int .i64 sh] 23)) = W0 at *
  generalize w.heap.size = bO at *
  obtain ⟨p0, p1, p2, p3, p4, p5, p6⟩ := de_cells HO.out
  go_upto_region 2 with (go_at_call 23; refine (cK _).mono ?_; rintro e w1 ⟨f, rfl, hd1, hb1⟩; obtain ⟨g9, rfl, hg9⟩ := hd1.link; have HB1 := Lib.hid hb1; have HG1 := Lib.hid hg9; clear hb1 hd1 hg9)
  have hb2 : Below w1.heap.size w1 (w1.alloc (.cells #[.bool true, .bool false, .bool true, .func (.func 83) #[] #[ptV g9]] 56)) := (Below.refl _ w1).alloc (Nat.le_refl _) _
  have hb3 : Below W0.heap.size W0 (w1.alloc (.cells #[.bool true, .bool false, .bool true, .func (.func 83) #[] #[ptV g9]] 56)) := HB1.out.trans (hb2.mono HB1.out.size)
  have HI2 := Lib.hid (T.below HI0.out hb3)
  have HT2 := Lib.hid (HTR.out.trans (Trod.of_below (S := S) hb3))
  have HO2 := Lib.hid ((hb3.block _ (lt_of_get HO.out)).trans HO.out)
  have HG2 := Lib.hid ((hb2.block _ (lt_of_get HG1.out)).trans HG1.out)
  have HK2 : Hid ((w1.alloc (.cells #[.bool true, .bool false, .bool true, .func (.func 83) #[] #[ptV g9]] 56)).heap[w1.heap.size]? = some (.cells #[.bool true, .bool false, .bool true, .func (.func 83) #[] #[ptV g9]] 56 (0, 0))) := Lib.hid (heap_alloc_new _ _)
  clear hb2 hb3 HB1 HI0 HTR HO HG1 p0 p1 p2 p3 p4 p5 p6 cK
  generalize (w1.alloc (.cells #[.bool true, .bool false, .bool true, .func (.func 83) #[] #[ptV g9]] 56)) = W2 at *
  generalize w1.heap.size = b6 at *
  obtain ⟨p0, p1, p2, p3, p4, p5, p6⟩ := de_cells HO2.out
  obtain ⟨⟨q0, q1, q2, q3⟩, _⟩ := four_cells HK2.out
  have cCC := cC W2 g9 S HI2.out HG2.out
  go_wp2_with (go_at_call 83; refine cCC.mono ?_; rintro e w3 ⟨S3, rfl, hi3, ht3⟩; have HI3 := Lib.hid hi3; have HT3 := Lib.hid ht3; clear hi3 ht3)
  go_ret2
  exact ⟨S3, rfl, HI3.out, HT2.out.trans HT3.out⟩
set_option maxHeartbeats 4000000 in
set_option maxRecDepth 100000 in
theorem deedDo_2 (x : De) (hk : x.k = 2) (hm : May x) (h : T.Is w b l nx S) (hnx : nx + 1 ≤ 9223372036854775807) : Calls Try.prog 16 #[ptV b, deV x] w (DonePost T w b S (deI l nx x)) := by
  rw [deI_yes hm]
  unfold DonePost
  have cK := fun W => ask_yes x W hm
  unfold AskPost kindV at cK
  have hs1 : x.s.size ≤ 9223372036854775807 := by have := hm.2.2.2.2.2.2.1; omega
  have hs2 : x.ns.size ≤ 9223372036854775807 := by have := hm.2.2.2.2.2.2.2.1; omega
  clear hm
  obtain ⟨k, d, dt, s, ns, isD, sh⟩ := x
  simp only at hk hs1 hs2
  subst hk
  have cC := fun (W : World) (g : Nat) (S0 : Nat → Prop) (hi : T.Is W b l nx S0) (hg : W.heap[g]? = some (.cells #[unlinkF] 129 (0, 0))) => unlinkBy1_c T ⟨2, d, dt, s, ns, isD, sh⟩ g hi hg
  unfold DonePost at cC
  unfold deV at *
  simp only [show decide ((2 : Int) = 1 ∨ (2 : Int) = 2) = true by decide, show decide ((2 : Int) = 3) = false by decide, show decide ((2 : Int) = 1 ∨ (2 : Int) = 3) = false by decide, reduceIte, show ¬ (2 : Int) = 1 by decide] at cK cC ⊢
  generalize unlinkI l nx d s isD = R at *
  have hb0 : Below w.heap.size w (w.alloc (.cells #[.int .i64 2, .int .i64 d, .int .i64 dt, .string s, .string ns, .bool isD, .int .i64 sh] 23)) := (Below.refl _ w).alloc (Nat.le_refl _) _
  have HI0 := Lib.hid (T.below h hb0)
  have HTR : Hid (Trod w (w.alloc (.cells #[.int .i64 2, .int .i64 d, .int .i64 dt, .string s, .string ns, .bool isD, .int .i64 sh] 23)) S S) := Lib.hid (Trod.of_below hb0)
  have HO : Hid ((w.alloc (.cells #[.int .i64 2, .int .i64 d, .int .i64 dt, .string s, .string ns, .bool isD, .int .i64 sh] 23)).heap[w.heap.size]? = some (.cells ⟨deC ⟨2, d, dt, s, ns, isD, sh⟩⟩ 23 (0, 0))) := Lib.hid (heap_alloc_new _ _)
  clear hb0 h
  go_enter Try.func16, Try.ntmps16
  go_upto_region 1 with fail
  generalize (w.alloc (.cells #[.int .i64 2, .int .i64 d, .int .i64 dt, .string s, .string ns, .bool isD, .int .i64 sh] 23)) = W0 at *
  generalize w.heap.size = bO at *
  obtain ⟨p0, p1, p2, p3, p4, p5, p6⟩ := de_cells HO.out
  go_upto_region 2 with (go_at_call 23; refine (cK _).mono ?_; rintro e w1 ⟨f, rfl, hd1, hb1⟩; obtain ⟨g9, rfl, hg9⟩ := hd1.unlink; have HB1 := Lib.hid hb1; have HG1 := Lib.hid hg9; clear hb1 hd1 hg9)
  have hb2 : Below w1.heap.size w1 (w1.alloc (.cells #[.bool true, .bool false, .bool false, .func (.func 88) #[] #[ptV g9]] 56)) := (Below.refl _ w1).alloc (Nat.le_refl _) _
  have hb3 : Below W0.heap.size W0 (w1.alloc (.cells #[.bool true, .bool false, .bool false, .func (.func 88) #[] #[ptV g9]] 56)) := HB1.out.trans (hb2.mono HB1.out.size)
  have HI2 := Lib.hid (T.below HI0.out hb3)
  have HT2 := Lib.hid (HTR.out.trans (Trod.of_below (S := S) hb3))
  have HO2 := Lib.hid ((hb3.block _ (lt_of_get HO.out)).trans HO.out)
  have HG2 := Lib.hid ((hb2.block _ (lt_of_get HG1.out)).trans HG1.out)
  have HK2 : Hid ((w1.alloc (.cells #[.bool true, .bool false, .bool false, .func (.func 88) #[] #[ptV g9]] 56)).heap[w1.heap.size]? = some (.cells #[.bool true, .bool false, .bool false, .func (.func 88) #[] #[ptV g9]] 56 (0, 0))) := Lib.hid (heap_alloc_new _ _)
  clear hb2 hb3 HB1 HI0 HTR HO HG1 p0 p1 p2 p3 p4 p5 p6 cK
  generalize (w1.alloc (.cells #[.bool true, .bool false, .bool false, .func (.func 88) #[] #[ptV g9]] 56)) = W2 at *
  generalize w1.heap.size = b6 at *
  obtain ⟨p0, p1, p2, p3, p4, p5, p6⟩ := de_cells HO2.out
  obtain ⟨⟨q0, q1, q2, q3⟩, _⟩ := four_cells HK2.out
  have cCC := cC W2 g9 S HI2.out HG2.out
  go_wp2_with (go_at_call 88; refine cCC.mono ?_; rintro e w3 ⟨S3, rfl, hi3, ht3⟩; have HI3 := Lib.hid hi3; have HT3 := Lib.hid ht3; clear hi3 ht3)
  go_ret2
  exact ⟨S3, rfl, HI3.out, HT2.out.trans HT3.out⟩
set_option maxHeartbeats 4000000 in
set_option maxRecDepth 100000 in
theorem deedDo_3 (x : De) (hk : x.k = 3) (hm : May x) (h : T.Is w b l nx S) (hnx : nx + 1 ≤ 9223372036854775807) : Calls Try.prog 16 #[ptV b, deV x] w (DonePost T w b S (deI l nx x)) := by
  rw [deI_yes hm]
  unfold DonePost
  have cK := fun W => ask_yes x W hm
  unfold AskPost kindV at cK
  have hs1 : x.s.size ≤ 9223372036854775807 := by have := hm.2.2.2.2.2.2.1; omega
  have hs2 : x.ns.size ≤ 9223372036854775807 := by have := hm.2.2.2.2.2.2.2.1; omega
  clear hm
  obtain ⟨k, d, dt, s, ns, isD, sh⟩ := x
  simp only at hk hs1 hs2
  subst hk
  have cC := fun (W : World) (g : Nat) (S0 : Nat → Prop) (hi : T.Is W b l nx S0) (hg : W.heap[g]? = some (.cells #[moveF] 132 (0, 0))) => moveBy1_c T ⟨3, d, dt, s, ns, isD, sh⟩ g hi hs2 hnx hg
  unfold DonePost at cC
  unfold deV at *
  simp only [show decide ((3 : Int) = 1 ∨ (3 : Int) = 2) = false by decide, show decide ((3 : Int) = 3) = true by decide, show decide ((3 : Int) = 1 ∨ (3 : Int) = 3) = true by decide, reduceIte, show ¬ (3 : Int) = 1 by decide, show ¬ (3 : Int) = 2 by decide] at cK cC ⊢
  generalize moveI l nx d s dt ns sh = R at *
  have hb0 : Below w.heap.size w (w.alloc (.cells #[.int .i64 3, .int .i64 d, .int .i64 dt, .string s, .string ns, .bool isD, .int .i64 sh] 23)) := (Below.refl _ w).alloc (Nat.le_refl _) _
  have HI0 := Lib.hid (T.below h hb0)
  have HTR : Hid (Trod w (w.alloc (.cells #[.int .i64 3, .int .i64 d, .int .i64 dt, .string s, .string ns, .bool isD, .int .i64 sh] 23)) S S) := Lib.hid (Trod.of_below hb0)
  have HO : Hid ((w.alloc (.cells #[.int .i64 3, .int .i64 d, .int .i64 dt, .string s, .string ns, .bool isD, .int .i64 sh] 23)).heap[w.heap.size]? = some (.cells ⟨deC ⟨3, d, dt, s, ns, isD, sh⟩⟩ 23 (0, 0))) := Lib.hid (heap_alloc_new _ _)
  clear hb0 h
  go_enter Try.func16, Try.ntmps16
  go_upto_region 1 with fail
  generalize (w.alloc (.cells #[.int .i64 3, .int .i64 d, .int .i64 dt, .string s, .string ns, .bool isD, .int .i64 sh] 23)) = W0 at *
  generalize w.heap.size = bO at *
  obtain ⟨p0, p1, p2, p3, p4, p5, p6⟩ := de_cells HO.out
  go_upto_region 2 with (go_at_call 23; refine (cK _).mono ?_; rintro e w1 ⟨f, rfl, hd1, hb1⟩; obtain ⟨g9, rfl, hg9⟩ := hd1.move; have HB1 := Lib.hid hb1; have HG1 := Lib.hid hg9; clear hb1 hd1 hg9)
  have hb2 : Below w1.heap.size w1 (w1.alloc (.cells #[.bool false, .bool true, .bool true, .func (.func 92) #[] #[ptV g9]] 56)) := (Below.refl _ w1).alloc (Nat.le_refl _) _
  have hb3 : Below W0.heap.size W0 (w1.alloc (.cells #[.bool false, .bool true, .bool true, .func (.func 92) #[] #[ptV g9]] 56)) := HB1.out.trans (hb2.mono HB1.out.size)
  have HI2 := Lib.hid (T.below HI0.out hb3)
  have HT2 := Lib.hid (HTR.out.trans (Trod.of_below (S := S) hb3))
  have HO2 := Lib.hid ((hb3.block _ (lt_of_get HO.out)).trans HO.out)
  have HG2 := Lib.hid ((hb2.block _ (lt_of_get HG1.out)).trans HG1.out)
  have HK2 : Hid ((w1.alloc (.cells #[.bool false, .bool true, .bool true, .func (.func 92) #[] #[ptV g9]] 56)).heap[w1.heap.size]? = some (.cells #[.bool false, .bool true, .bool true, .func (.func 92) #[] #[ptV g9]] 56 (0, 0))) := Lib.hid (heap_alloc_new _ _)
  clear hb2 hb3 HB1 HI0 HTR HO HG1 p0 p1 p2 p3 p4 p5 p6 cK
  generalize (w1.alloc (.cells #[.bool false, .bool true, .bool true, .func (.func 92) #[] #[ptV g9]] 56)) = W2 at *
  generalize w1.heap.size = b6 at *
  obtain ⟨p0, p1, p2, p3, p4, p5, p6⟩ := de_cells HO2.out
  obtain ⟨⟨q0, q1, q2, q3⟩, _⟩ := four_cells HK2.out
  have cCC := cC W2 g9 S HI2.out HG2.out
  go_wp2_with (go_at_call 92; refine cCC.mono ?_; rintro e w3 ⟨S3, rfl, hi3, ht3⟩; have HI3 := Lib.hid hi3; have HT3 := Lib.hid ht3; clear hi3 ht3)
  go_ret2
  exact ⟨S3, rfl, HI3.out, HT2.out.trans HT3.out⟩
set_option maxHeartbeats 4000000 in
set_option maxRecDepth 100000 in
theorem deedDo_no (x : De) (hm : ¬ May x) (h : T.Is w b l nx S) : Calls Try.prog 16 #[ptV b, deV x] w (DonePost T w b S (deI l nx x)) := by
  unfold DonePost deI
  rw [if_neg hm]
  have cK := fun W => ask_no x W hm
  unfold AskNo at cK
  clear hm
  obtain ⟨k, d, dt, s, ns, isD, sh⟩ := x
  unfold deV at *
  simp only at cK ⊢
  have hb0 : Below w.heap.size w (w.alloc (.cells #[.int .i64 k, .int .i64 d, .int .i64 dt, .string s, .string ns, .bool isD, .int .i64 sh] 23)) := (Below.refl _ w).alloc (Nat.le_refl _) _
  have HB0 := Lib.hid hb0
  have HI := Lib.hid h
  clear hb0 h
  go_enter Try.func16, Try.ntmps16
  go_wp2_with (go_at_call 23; refine (cK _).mono ?_; rintro e w1 ⟨rfl, hb1⟩; have HB1 := Lib.hid hb1; clear hb1)
  go_ret2
  have hs := HB0.out.size
  have hs1 := HB1.out.size
  have hb9 := (HB0.out.trans (HB1.out.mono hs)).alloc (show w.heap.size ≤ w1.heap.size by omega) (.cells #[.bool false, .bool false, .bool false, .nilFunc] 56)
  exact ⟨S, rfl, T.below HI.out hb9, Trod.of_below hb9⟩
theorem deedDo_c (x : De) (h : T.Is w b l nx S) (hnx : nx + 1 ≤ 9223372036854775807) : Calls Try.prog 16 #[ptV b, deV x] w (DonePost T w b S (deI l nx x)) := by
  by_cases hm : May x
  · rcases hm.1 with hk | hk | hk
    · exact deedDo_1 T x hk hm h hnx
    · exact deedDo_2 T x hk hm h hnx
    · exact deedDo_3 T x hk hm h hnx
  · exact deedDo_no T x hm h
end
end Go.Proofs.Ytddobjhahohhhaa
