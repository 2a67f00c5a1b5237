/-
  What Decode answers of bytes.
-/
import Derived.Test.YtddobjhahohhhaaDeEnc
import Derived.Test.YtddobjhahohhhaaFiRead
namespace Go.Proofs.Ytddobjhahohhhaa
open Go.RowKit Go.Sort
set_option linter.unusedVariables false
set_option linter.unusedSimpArgs false

abbrev zDe : Obj := .cells #[.int .i64 0, .int .i64 0, .int .i64 0, .string ⟨#[]⟩, .string ⟨#[]⟩, .bool false, .int .i64 0] 23
abbrev FR : TypeId := 70
/-- Within Decode: the result (zero), the reader, the deed so far, its kind, once it is known. -/
structure DecW (w : World) (b2 rb : Nat) (kb : List (Nat × Array Value)) (x : De) (l : List UInt8) (W : World) : Prop where
  z : W.heap[b2]? = some zDe
  r : ∃ p, RdIs FR rb l p W
  d : W.heap[rb + 1]? = some (.cells ⟨deC x⟩ 23 (0, 0))
  k : ∀ p ∈ kb, rb + 1 < p.1 ∧ W.heap[p.1]? = some (.cells p.2 56 (0, 0))
  b : Below b2 w W
  lt : b2 < rb
  len : l.length ≤ 100000
section
variable {w W W' : World} {b2 rb : Nat} {kb : List (Nat × Array Value)} {x : De} {l : List UInt8}
theorem DecW.below (h : DecW w b2 rb kb x l W) (hb : Below W.heap.size W W') : DecW w b2 rb kb x l W' := by
  obtain ⟨p, hr⟩ := h.r
  exact ⟨(hb.block _ (lt_of_get h.z)).trans h.z, ⟨p, (hb.block _ (lt_of_get hr)).trans hr⟩, (hb.block _ (lt_of_get h.d)).trans h.d, fun p hp => ⟨(h.k p hp).1, (hb.block _ (lt_of_get (h.k p hp).2)).trans (h.k p hp).2⟩, h.b.trans (hb.mono (Nat.le_of_lt (lt_of_get h.z))), h.lt, h.len⟩
theorem DecW.step (h : DecW w b2 rb kb x l W) {l' : List UInt8} {p p' : Bool} {v : Value} {e : Ending} (hr : RdIs FR rb l p W) (hl : l'.length ≤ l.length) (hp : RdPost FR rb W l' p' v e W') : e = .returned v ∧ DecW w b2 rb kb x l' W' := by
  obtain ⟨he, hw, hg⟩ := hp
  have hf := rd_grown_fr hr hg
  have hb := rd_grown_to_below hg (Nat.le_of_lt (lt_of_get hr))
  exact ⟨he, hf _ (by decide) (by decide) _ _ _ h.z, ⟨p', hw⟩, hf _ (by decide) (by decide) _ _ _ h.d, fun p hp => ⟨(h.k p hp).1, hf _ (by decide) (by decide) _ _ _ (h.k p hp).2⟩, h.b.trans (hb.mono (Nat.le_of_lt h.lt)), h.lt, Nat.le_trans hl h.len⟩
theorem DecW.num (h : DecW w b2 rb kb x l W) (kk : Int) (k : Nat) (hk : kk = (k : Int)) (hk4 : k ≤ 4) {n : Nat} {l' : List UInt8} (hn : Hid (rdN k l = n)) (hl : Hid (l.drop k = l')) :
    Calls Try.prog 29 #[ptV rb, .int .i64 kk] W fun e w' => e = .returned (.int .i64 (n : Int)) ∧ DecW w b2 rb kb x l' w' := by
  subst hk
  obtain rfl := hn.out
  obtain rfl := hl.out
  obtain ⟨p, hr⟩ := h.r
  have h9 := rnumber_c rb k l p W hr (by omega) h.len
  rw [valI_small k l (by omega)] at h9
  exact h9.mono fun e w' hp => h.step hr (by rw [List.length_drop]; omega) hp
theorem DecW.name (h : DecW w b2 rb kb x l W) {s : ByteArray} {l' : List UInt8} (hn : Hid (nmL l = s)) (hl : Hid (nmR l = l')) : Calls Try.prog 30 #[ptV rb] W fun e w' => e = .returned (.string s) ∧ DecW w b2 rb kb x l' w' := by
  obtain rfl := hn.out
  obtain rfl := hl.out
  obtain ⟨p, hr⟩ := h.r
  exact (rname_c rb l p W hr h.len).mono fun e w' hp => h.step hr (by unfold nmR; rw [List.length_drop, List.length_drop]; omega) hp
theorem DecW.flag (h : DecW w b2 rb kb x l W) {t : Bool} {l' : List UInt8} (hn : Hid (decide (rdN 1 l = 1) = t)) (hl : Hid (l.drop 1 = l')) : Calls Try.prog 32 #[ptV rb] W fun e w' => e = .returned (.bool t) ∧ DecW w b2 rb kb x l' w' := by
  obtain rfl := hn.out
  obtain rfl := hl.out
  obtain ⟨p, hr⟩ := h.r
  exact (rflag_c rb l p W hr h.len).mono fun e w' hp => h.step hr (by rw [List.length_drop]; omega) hp
/-- A field of the deed is stored. -/
theorem DecW.put (h : DecW w b2 rb kb x l W) (j : Nat) (v : Value) {x' : De} (hx : (⟨deC x⟩ : Array Value).setIfInBounds j v = ⟨deC x'⟩) : DecW w b2 rb kb x' l (W.setCell ⟨rb + 1, j, none⟩ v) := by
  have hne : ∀ g, g ≠ rb + 1 → (W.setCell ⟨rb + 1, j, none⟩ v).heap[g]? = W.heap[g]? := fun g hg => Below.heap_setCell _ _ _ _ hg
  have hlt := h.lt
  obtain ⟨p, hr⟩ := h.r
  refine ⟨by rw [hne _ (by omega)]; exact h.z, ⟨p, by unfold RdIs; rw [hne _ (by omega)]; exact hr⟩, ?_, fun p hp => ⟨(h.k p hp).1, by rw [hne _ (by have := (h.k p hp).1; omega)]; exact (h.k p hp).2⟩, h.b.setCell (p := ⟨rb + 1, j, none⟩) (by show b2 ≤ rb + 1; omega) _, h.lt, h.len⟩
  rw [heap_setCell_same _ (rb + 1) j _ _ _ h.d, hx]
theorem DecW.kind (h : DecW w b2 rb [] x l W) (cs : Array Value) : DecW w b2 rb [(W.heap.size, cs)] x l (W.alloc (.cells cs 56)) := by
  have h9 := h.below (W' := W.alloc (.cells cs 56)) ((Below.refl _ _).alloc (Nat.le_refl _) _)
  refine ⟨h9.z, h9.r, h9.d, fun p hp => ?_, h9.b, h9.lt, h9.len⟩
  rw [List.mem_singleton] at hp
  subst hp
  exact ⟨lt_of_get h.d, heap_alloc_new _ _⟩
theorem DecW.kcells {b6 : Nat} {v0 v1 v2 v3 : Value} (h : DecW w b2 rb [(b6, #[v0, v1, v2, v3])] x l W) : W.cell? ⟨b6, 0, none⟩ = some v0 ∧ W.cell? ⟨b6, 1, none⟩ = some v1 ∧ W.cell? ⟨b6, 2, none⟩ = some v2 :=
  ⟨Lib.cell_of_heap (h.k (b6, #[v0, v1, v2, v3]) (List.mem_singleton.2 rfl)).2 0, Lib.cell_of_heap (h.k (b6, #[v0, v1, v2, v3]) (List.mem_singleton.2 rfl)).2 1, Lib.cell_of_heap (h.k (b6, #[v0, v1, v2, v3]) (List.mem_singleton.2 rfl)).2 2⟩
theorem DecW.cells (h : DecW w b2 rb kb x l W) : (W.cell? ⟨rb + 1, 0, none⟩ = some (.int .i64 x.k) ∧ W.cell? ⟨rb + 1, 1, none⟩ = some (.int .i64 x.d) ∧ W.cell? ⟨rb + 1, 2, none⟩ = some (.int .i64 x.dt) ∧ W.cell? ⟨rb + 1, 3, none⟩ = some (.string x.s) ∧ W.cell? ⟨rb + 1, 4, none⟩ = some (.string x.ns) ∧ W.cell? ⟨rb + 1, 5, none⟩ = some (.bool x.isD) ∧ W.cell? ⟨rb + 1, 6, none⟩ = some (.int .i64 x.sh)) ∧
    (W.frozen? ⟨rb + 1, 0, none⟩ = false ∧ W.frozen? ⟨rb + 1, 1, none⟩ = false ∧ W.frozen? ⟨rb + 1, 2, none⟩ = false ∧ W.frozen? ⟨rb + 1, 3, none⟩ = false ∧ W.frozen? ⟨rb + 1, 4, none⟩ = false ∧ W.frozen? ⟨rb + 1, 5, none⟩ = false ∧ W.frozen? ⟨rb + 1, 6, none⟩ = false) :=
  ⟨de_cells h.d, Lib.frozen_of_heap h.d 0, Lib.frozen_of_heap h.d 1, Lib.frozen_of_heap h.d 2, Lib.frozen_of_heap h.d 3, Lib.frozen_of_heap h.d 4, Lib.frozen_of_heap h.d 5, Lib.frozen_of_heap h.d 6⟩
theorem DecW.res (h : DecW w b2 rb kb x l W) : (W.cell? ⟨b2, 0, none⟩ = some (.int .i64 0) ∧ W.cell? ⟨b2, 1, none⟩ = some (.int .i64 0) ∧ W.cell? ⟨b2, 2, none⟩ = some (.int .i64 0) ∧ W.cell? ⟨b2, 3, none⟩ = some (.string ⟨#[]⟩) ∧ W.cell? ⟨b2, 4, none⟩ = some (.string ⟨#[]⟩) ∧ W.cell? ⟨b2, 5, none⟩ = some (.bool false) ∧ W.cell? ⟨b2, 6, none⟩ = some (.int .i64 0)) ∧
    (W.frozen? ⟨b2, 0, none⟩ = false ∧ W.frozen? ⟨b2, 1, none⟩ = false ∧ W.frozen? ⟨b2, 2, none⟩ = false ∧ W.frozen? ⟨b2, 3, none⟩ = false ∧ W.frozen? ⟨b2, 4, none⟩ = false ∧ W.frozen? ⟨b2, 5, none⟩ = false ∧ W.frozen? ⟨b2, 6, none⟩ = false) :=
  ⟨de_cells (x := noDe) h.z, Lib.frozen_of_heap h.z 0, Lib.frozen_of_heap h.z 1, Lib.frozen_of_heap h.z 2, Lib.frozen_of_heap h.z 3, Lib.frozen_of_heap h.z 4, Lib.frozen_of_heap h.z 5, Lib.frozen_of_heap h.z 6⟩
end
theorem decW_new {w w1 : World} (l : List UInt8) (hl : l.length ≤ 100000) (h1 : Below (w.alloc zDe).heap.size (w.alloc zDe) w1) : DecW w w.heap.size w1.heap.size [] noDe l ((w1.alloc (.cells #[.string ⟨l.toArray⟩, .bool false] 70)).alloc zDe) := by
  have hs := h1.size
  have hz : w.heap.size < (w.alloc zDe).heap.size := by simp
  refine ⟨?_, ⟨false, ?_⟩, ?_, (fun p hp => nomatch hp), ((((Below.refl _ w).alloc (Nat.le_refl _) _).trans (h1.mono (Nat.le_of_lt hz))).alloc (by omega) _).alloc (by simp; omega) _, by omega, hl⟩
  · rw [Lib.alloc_old _ _ _ (by simp; omega), Lib.alloc_old _ _ _ (by omega), h1.block _ hz]
    exact heap_alloc_new _ _
  · unfold RdIs
    rw [Lib.alloc_old _ _ _ (by simp)]
    exact heap_alloc_new _ _
  · have h := heap_alloc_new (w1.alloc (.cells #[.string ⟨l.toArray⟩, .bool false] 70)) zDe
    rwa [show (w1.alloc (.cells #[.string ⟨l.toArray⟩, .bool false] 70)).heap.size = w1.heap.size + 1 by simp] at h
theorem de_put {W : World} {q : Nat} (h : W.heap[q]? = some zDe) (x0 x1 x2 x3 x4 x5 x6 : Value) : (((((((W.setCell ⟨q, 0, none⟩ x0).setCell ⟨q, 1, none⟩ x1).setCell ⟨q, 2, none⟩ x2).setCell ⟨q, 3, none⟩ x3).setCell ⟨q, 4, none⟩ x4).setCell ⟨q, 5, none⟩ x5).setCell ⟨q, 6, none⟩ x6).heap[q]? = some (.cells #[x0, x1, x2, x3, x4, x5, x6] 23 (0, 0)) := by
  rw [heap_setCell_same _ q 6 _ _ _ (heap_setCell_same _ q 5 _ _ _ (heap_setCell_same _ q 4 _ _ _ (heap_setCell_same _ q 3 _ _ _ (heap_setCell_same _ q 2 _ _ _ (heap_setCell_same _ q 1 _ _ _ (heap_setCell_same _ q 0 _ _ _ h))))))]
  rfl
theorem below_seven {B q : Nat} {W0 W : World} {x0 x1 x2 x3 x4 x5 x6 : Value} (h : Below B W0 W) (hq : B ≤ q) : Below B W0 (((((((W.setCell ⟨q, 0, none⟩ x0).setCell ⟨q, 1, none⟩ x1).setCell ⟨q, 2, none⟩ x2).setCell ⟨q, 3, none⟩ x3).setCell ⟨q, 4, none⟩ x4).setCell ⟨q, 5, none⟩ x5).setCell ⟨q, 6, none⟩ x6) :=
  ((((((h.setCell (p := ⟨q, 0, none⟩) hq _).setCell (p := ⟨q, 1, none⟩) hq _).setCell (p := ⟨q, 2, none⟩) hq _).setCell (p := ⟨q, 3, none⟩) hq _).setCell (p := ⟨q, 4, none⟩) hq _).setCell (p := ⟨q, 5, none⟩) hq _).setCell (p := ⟨q, 6, none⟩) hq _
theorem list_ne {a b : List UInt8} (h : a ≠ b) : ((⟨a.toArray⟩ : ByteArray).toList == (⟨b.toArray⟩ : ByteArray).toList) = false := by
  rw [beq_eq_false_iff_ne, ByteArray.toList_eq, ByteArray.toList_eq]
  exact h
/-- What Decode answers. -/
def decA (l : List UInt8) : De × Int := if May (decL l) ∧ bytesL (decL l) = l then (decL l, 0) else (noDe, 2)
def DecPost (l : List UInt8) (w : World) (e : Ending) (w' : World) : Prop := e = .returned (.tuple #[deV (decA l).1, .int .i64 (decA l).2]) ∧ Below w.heap.size w w'
set_option maxHeartbeats 8000000 in
set_option maxRecDepth 100000 in
theorem decode_0 (l0 : List UInt8) (w : World) (hl : l0.length ≤ 100000) (hKm : ¬ (rdN 1 l0 = 1 ∨ rdN 1 l0 = 2 ∨ rdN 1 l0 = 3)) : Calls Try.prog 11 #[.string ⟨l0.toArray⟩] w (DecPost l0 w) := by
    unfold DecPost
    have hK : ¬ ((rdN 1 l0 : Int) = 1 ∨ (rdN 1 l0 : Int) = 2 ∨ (rdN 1 l0 : Int) = 3) := by omega
    have cR := fun W => newReader_c ⟨l0.toArray⟩ W
    go_enter Try.func11, Try.ntmps11
    go_upto_region 3 with (go_at_call 28; refine (cR _).mono ?_; rintro e w0 ⟨rfl, hb0⟩; have HB0 := Lib.hid hb0; clear hb0)
    have HD := Lib.hid (decW_new (w := w) (w1 := w0) l0 hl HB0.out)
    unfold zDe at HD
    generalize ((w0.alloc (.cells #[.string ⟨l0.toArray⟩, .bool false] 70)).alloc (.cells #[.int .i64 0, .int .i64 0, .int .i64 0, .string ⟨#[]⟩, .string ⟨#[]⟩, .bool false, .int .i64 0] 23)) = W0 at *
    generalize w0.heap.size = rb at *
    clear HB0 cR
    generalize hb2 : w.heap.size = b2 at *
    obtain ⟨_, f0, f1, f2, f3, f4, f5, f6⟩ := HD.out.cells
    obtain ⟨n1, hn1⟩ : ∃ n1, rdN 1 l0 = n1 := ⟨_, rfl⟩
    have Hn1 := Lib.hid hn1
    clear hn1
    rw [Hn1.out] at hK hKm
    obtain ⟨l1, hl1⟩ : ∃ l1, l0.drop 1 = l1 := ⟨_, rfl⟩
    have Hl1 := Lib.hid hl1
    clear hl1
    obtain ⟨d1, hd1⟩ : ∃ d1, rdN 2 l1 = d1 := ⟨_, rfl⟩
    have Hd1 := Lib.hid hd1
    clear hd1
    obtain ⟨l2, hl2⟩ : ∃ l2, l1.drop 2 = l2 := ⟨_, rfl⟩
    have Hl2 := Lib.hid hl2
    clear hl2
    obtain ⟨s1, hs1⟩ : ∃ s1, nmL l2 = s1 := ⟨_, rfl⟩
    have Hs1 := Lib.hid hs1
    clear hs1
    obtain ⟨l3, hl3⟩ : ∃ l3, nmR l2 = l3 := ⟨_, rfl⟩
    have Hl3 := Lib.hid hl3
    clear hl3
    go_upto_region 4 with (go_at_call 29; refine (HD.out.num 1 1 rfl (by omega) Hn1 Hl1).mono ?_; rintro e w1 ⟨rfl, hd⟩; have HD := Lib.hid hd; clear hd; obtain ⟨_, f0, f1, f2, f3, f4, f5, f6⟩ := HD.out.cells)
    have HD := Lib.hid (HD.out.put 0 (.int .i64 ((n1 : Int))) (x' := ⟨(n1 : Int), 0, 0, ⟨#[]⟩, ⟨#[]⟩, false, 0⟩) rfl)
    generalize (w1.setCell ⟨rb + 1, 0, none⟩ (.int .i64 ((n1 : Int)))) = W1 at *
    clear f0 f1 f2 f3 f4 f5 f6
    go_upto_region 5 with (go_at_call 29; refine (HD.out.num 2 2 rfl (by omega) Hd1 Hl2).mono ?_; rintro e w2 ⟨rfl, hd⟩; have HD := Lib.hid hd; clear hd; obtain ⟨_, f0, f1, f2, f3, f4, f5, f6⟩ := HD.out.cells)
    have HD := Lib.hid (HD.out.put 1 (.int .i64 ((d1 : Int))) (x' := ⟨(n1 : Int), (d1 : Int), 0, ⟨#[]⟩, ⟨#[]⟩, false, 0⟩) rfl)
    generalize (w2.setCell ⟨rb + 1, 1, none⟩ (.int .i64 ((d1 : Int)))) = W2 at *
    clear f0 f1 f2 f3 f4 f5 f6
    go_upto_region 6 with (go_at_call 30; refine (HD.out.name Hs1 Hl3).mono ?_; rintro e w3 ⟨rfl, hd⟩; have HD := Lib.hid hd; clear hd; obtain ⟨_, f0, f1, f2, f3, f4, f5, f6⟩ := HD.out.cells)
    have HD := Lib.hid (HD.out.put 3 (.string (s1)) (x' := ⟨(n1 : Int), (d1 : Int), 0, s1, ⟨#[]⟩, false, 0⟩) rfl)
    generalize (w3.setCell ⟨rb + 1, 3, none⟩ (.string (s1))) = W3 at *
    clear f0 f1 f2 f3 f4 f5 f6
    have k0 := HD.out.cells.1.1
    have cK := fun W => kindOf_no (n1 : Int) W hK
    go_upto_region 14 with (go_at_call 31; refine (cK _).mono ?_; rintro e w4 ⟨rfl, hb1⟩; have HD := Lib.hid (HD.out.below hb1); clear hb1; have HD := Lib.hid (HD.out.kind #[.bool false, .bool false, .bool false, .nilFunc]))
    generalize (w4.alloc (.cells #[.bool false, .bool false, .bool false, .nilFunc] 56)) = W5 at *
    generalize w4.heap.size = b6 at *
    clear cK k0
    obtain ⟨_, f0, f1, f2, f3, f4, f5, f6⟩ := HD.out.cells
    obtain ⟨q0, q1, q2⟩ := HD.out.kcells
    clear f0 f1 f2 f3 f4 f5 f6
    have hx : decL l0 = ⟨(n1 : Int), (d1 : Int), 0, s1, ⟨#[]⟩, false, 0⟩ := by
      obtain rfl := Hn1.out; obtain rfl := Hl1.out; obtain rfl := Hd1.out; obtain rfl := Hl2.out; obtain rfl := Hs1.out; obtain rfl := Hl3.out
      unfold decL
      rw [if_neg (by omega), if_neg (by omega), if_neg (by omega)]
    obtain ⟨⟨p0, p1, p2, p3, p4, p5, p6⟩, _⟩ := HD.out.cells
    have hM : ¬ May ⟨(n1 : Int), (d1 : Int), 0, s1, ⟨#[]⟩, false, 0⟩ := fun h => hK h.1
    have cE := fun W => enc_no ⟨(n1 : Int), (d1 : Int), 0, s1, ⟨#[]⟩, false, 0⟩ W hM
    unfold EncNo deV at cE
    simp only at cE
    have HA : Hid (decA l0 = (noDe, 2)) := Lib.hid (by unfold decA; rw [hx]; exact if_neg (fun h => hM h.1))
    clear hx
    go_upto_region 16 with (go_at_call 8; refine (cE _).mono ?_; rintro e w9 ⟨rfl, hb9⟩; have HDE := Lib.hid (HD.out.below hb9); clear hb9)
    clear cE p0 p1 p2 p3 p4 p5 p6
    obtain ⟨⟨z0, z1, z2, z3, z4, z5, z6⟩, y0, y1, y2, y3, y4, y5, y6⟩ := HDE.out.res
    obtain ⟨⟨p0, p1, p2, p3, p4, p5, p6⟩, _⟩ := HDE.out.cells
    go_wp2
    (try simp only [Exit.inBlock, Exit.then])
    have HF : Hid _ := Lib.hid (de_put HDE.out.z (.int .i64 0) (.int .i64 0) (.int .i64 0) (.string ⟨#[]⟩) (.string ⟨#[]⟩) (.bool false) (.int .i64 0))
    have HF3 : Hid _ := Lib.hid (below_seven (x0 := .int .i64 0) (x1 := .int .i64 0) (x2 := .int .i64 0) (x3 := .string ⟨#[]⟩) (x4 := .string ⟨#[]⟩) (x5 := .bool false) (x6 := .int .i64 0) HDE.out.b (Nat.le_refl b2))
    generalize (((((((w9.setCell ⟨b2, 0, none⟩ (.int .i64 0)).setCell ⟨b2, 1, none⟩ (.int .i64 0)).setCell ⟨b2, 2, none⟩ (.int .i64 0)).setCell ⟨b2, 3, none⟩ (.string ⟨#[]⟩)).setCell ⟨b2, 4, none⟩ (.string ⟨#[]⟩)).setCell ⟨b2, 5, none⟩ (.bool false)).setCell ⟨b2, 6, none⟩ (.int .i64 0)) = W9 at *
    clear z0 z1 z2 z3 z4 z5 z6 y0 y1 y2 y3 y4 y5 y6 p0 p1 p2 p3 p4 p5 p6
    have z0 := Lib.cell_of_heap HF.out 0
    have z1 := Lib.cell_of_heap HF.out 1
    have z2 := Lib.cell_of_heap HF.out 2
    have z3 := Lib.cell_of_heap HF.out 3
    have z4 := Lib.cell_of_heap HF.out 4
    have z5 := Lib.cell_of_heap HF.out 5
    have z6 := Lib.cell_of_heap HF.out 6
    refine bodyPost_ret (v := .tuple #[.agg #[.int .i64 0, .int .i64 0, .int .i64 0, .string ⟨#[]⟩, .string ⟨#[]⟩, .bool false, .int .i64 0], .int .i64 2]) ?_ rfl ⟨by rw [HA.out]; rfl, by first | exact HF3.out | (rw [hb2]; exact HF3.out)⟩
    rw [results_cell_tmp rfl]
    go_simp
set_option maxHeartbeats 8000000 in
set_option maxRecDepth 100000 in
theorem decode_1 (l0 : List UInt8) (w : World) (hl : l0.length ≤ 100000) (hKn : rdN 1 l0 = 1) : Calls Try.prog 11 #[.string ⟨l0.toArray⟩] w (DecPost l0 w) := by
    unfold DecPost
    have hK : ((rdN 1 l0 : Nat) : Int) = 1 := by rw [hKn]; rfl
    have cR := fun W => newReader_c ⟨l0.toArray⟩ W
    go_enter Try.func11, Try.ntmps11
    go_upto_region 3 with (go_at_call 28; refine (cR _).mono ?_; rintro e w0 ⟨rfl, hb0⟩; have HB0 := Lib.hid hb0; clear hb0)
    have HD := Lib.hid (decW_new (w := w) (w1 := w0) l0 hl HB0.out)
    unfold zDe at HD
    generalize ((w0.alloc (.cells #[.string ⟨l0.toArray⟩, .bool false] 70)).alloc (.cells #[.int .i64 0, .int .i64 0, .int .i64 0, .string ⟨#[]⟩, .string ⟨#[]⟩, .bool false, .int .i64 0] 23)) = W0 at *
    generalize w0.heap.size = rb at *
    clear HB0 cR
    generalize hb2 : w.heap.size = b2 at *
    obtain ⟨_, f0, f1, f2, f3, f4, f5, f6⟩ := HD.out.cells
    have Hn1 : Hid (rdN 1 l0 = 1) := Lib.hid hKn
    clear hK
    obtain ⟨l1, hl1⟩ : ∃ l1, l0.drop 1 = l1 := ⟨_, rfl⟩
    have Hl1 := Lib.hid hl1
    clear hl1
    obtain ⟨d1, hd1⟩ : ∃ d1, rdN 2 l1 = d1 := ⟨_, rfl⟩
    have Hd1 := Lib.hid hd1
    clear hd1
    obtain ⟨l2, hl2⟩ : ∃ l2, l1.drop 2 = l2 := ⟨_, rfl⟩
    have Hl2 := Lib.hid hl2
    clear hl2
    obtain ⟨s1, hs1⟩ : ∃ s1, nmL l2 = s1 := ⟨_, rfl⟩
    have Hs1 := Lib.hid hs1
    clear hs1
    obtain ⟨l3, hl3⟩ : ∃ l3, nmR l2 = l3 := ⟨_, rfl⟩
    have Hl3 := Lib.hid hl3
    clear hl3
    obtain ⟨t1, ht1⟩ : ∃ t1, decide (rdN 1 l3 = 1) = t1 := ⟨_, rfl⟩
    have Ht1 := Lib.hid ht1
    clear ht1
    obtain ⟨l4, hl4⟩ : ∃ l4, l3.drop 1 = l4 := ⟨_, rfl⟩
    have Hl4 := Lib.hid hl4
    clear hl4
    obtain ⟨h1, hh1⟩ : ∃ h1, rdN 4 l4 = h1 := ⟨_, rfl⟩
    have Hh1 := Lib.hid hh1
    clear hh1
    obtain ⟨l5, hl5⟩ : ∃ l5, l4.drop 4 = l5 := ⟨_, rfl⟩
    have Hl5 := Lib.hid hl5
    clear hl5
    go_upto_region 4 with (go_at_call 29; refine (HD.out.num 1 1 rfl (by omega) Hn1 Hl1).mono ?_; rintro e w1 ⟨rfl, hd⟩; have HD := Lib.hid hd; clear hd; obtain ⟨_, f0, f1, f2, f3, f4, f5, f6⟩ := HD.out.cells)
    have HD := Lib.hid (HD.out.put 0 (.int .i64 (1)) (x' := ⟨1, 0, 0, ⟨#[]⟩, ⟨#[]⟩, false, 0⟩) rfl)
    generalize (w1.setCell ⟨rb + 1, 0, none⟩ (.int .i64 (1))) = W1 at *
    clear f0 f1 f2 f3 f4 f5 f6
    go_upto_region 5 with (go_at_call 29; refine (HD.out.num 2 2 rfl (by omega) Hd1 Hl2).mono ?_; rintro e w2 ⟨rfl, hd⟩; have HD := Lib.hid hd; clear hd; obtain ⟨_, f0, f1, f2, f3, f4, f5, f6⟩ := HD.out.cells)
    have HD := Lib.hid (HD.out.put 1 (.int .i64 ((d1 : Int))) (x' := ⟨1, (d1 : Int), 0, ⟨#[]⟩, ⟨#[]⟩, false, 0⟩) rfl)
    generalize (w2.setCell ⟨rb + 1, 1, none⟩ (.int .i64 ((d1 : Int)))) = W2 at *
    clear f0 f1 f2 f3 f4 f5 f6
    go_upto_region 6 with (go_at_call 30; refine (HD.out.name Hs1 Hl3).mono ?_; rintro e w3 ⟨rfl, hd⟩; have HD := Lib.hid hd; clear hd; obtain ⟨_, f0, f1, f2, f3, f4, f5, f6⟩ := HD.out.cells)
    have HD := Lib.hid (HD.out.put 3 (.string (s1)) (x' := ⟨1, (d1 : Int), 0, s1, ⟨#[]⟩, false, 0⟩) rfl)
    generalize (w3.setCell ⟨rb + 1, 3, none⟩ (.string (s1))) = W3 at *
    clear f0 f1 f2 f3 f4 f5 f6
    have k0 := HD.out.cells.1.1
    have cK := fun W => kindOf_yes 1 W (by omega)
    unfold kindV at cK
    simp only [show decide ((1 : Int) = 1 ∨ (1 : Int) = 2) = true by decide, show decide ((1 : Int) = 3) = false by decide, show decide ((1 : Int) = 1 ∨ (1 : Int) = 3) = true by decide] at cK
    go_upto_region 8 with (go_at_call 31; refine (cK _).mono ?_; rintro e w4 ⟨f, rfl, hd1, hb1⟩; obtain ⟨n9, g9, rfl⟩ := hd1.form; have HD := Lib.hid (HD.out.below hb1); clear hb1 hd1; have HD := Lib.hid (HD.out.kind #[.bool true, .bool false, .bool true, .func n9 #[] #[ptV g9]]))
    generalize (w4.alloc (.cells #[.bool true, .bool false, .bool true, .func n9 #[] #[ptV g9]] 56)) = W5 at *
    generalize w4.heap.size = b6 at *
    clear cK k0
    obtain ⟨_, f0, f1, f2, f3, f4, f5, f6⟩ := HD.out.cells
    obtain ⟨q0, q1, q2⟩ := HD.out.kcells
    go_upto_region 9 with (go_at_call 32; refine (HD.out.flag Ht1 Hl4).mono ?_; rintro e w5 ⟨rfl, hd⟩; have HD := Lib.hid hd; clear hd; obtain ⟨_, f0, f1, f2, f3, f4, f5, f6⟩ := HD.out.cells)
    have HD := Lib.hid (HD.out.put 5 (.bool (t1)) (x' := ⟨1, (d1 : Int), 0, s1, ⟨#[]⟩, t1, 0⟩) rfl)
    generalize (w5.setCell ⟨rb + 1, 5, none⟩ (.bool (t1))) = W5 at *
    clear f0 f1 f2 f3 f4 f5 f6
    obtain ⟨q0, q1, q2⟩ := HD.out.kcells
    obtain ⟨_, f0, f1, f2, f3, f4, f5, f6⟩ := HD.out.cells
    go_upto_region 14 with (go_at_call 29; refine (HD.out.num 4 4 rfl (by omega) Hh1 Hl5).mono ?_; rintro e w6 ⟨rfl, hd⟩; have HD := Lib.hid hd; clear hd; obtain ⟨_, f0, f1, f2, f3, f4, f5, f6⟩ := HD.out.cells)
    have HD := Lib.hid (HD.out.put 6 (.int .i64 ((h1 : Int))) (x' := ⟨1, (d1 : Int), 0, s1, ⟨#[]⟩, t1, (h1 : Int)⟩) rfl)
    generalize (w6.setCell ⟨rb + 1, 6, none⟩ (.int .i64 ((h1 : Int)))) = W6 at *
    clear f0 f1 f2 f3 f4 f5 f6
    skip
    have hx : decL l0 = ⟨1, (d1 : Int), 0, s1, ⟨#[]⟩, t1, (h1 : Int)⟩ := by
      obtain rfl := Hl1.out; obtain rfl := Hd1.out; obtain rfl := Hl2.out; obtain rfl := Hs1.out; obtain rfl := Hl3.out; obtain rfl := Ht1.out; obtain rfl := Hl4.out; obtain rfl := Hh1.out; obtain rfl := Hl5.out
      unfold decL
      simp only [Hn1.out, reduceIte]
      rfl
    obtain ⟨⟨p0, p1, p2, p3, p4, p5, p6⟩, _⟩ := HD.out.cells
    by_cases hM : May ⟨1, (d1 : Int), 0, s1, ⟨#[]⟩, t1, (h1 : Int)⟩
    · by_cases hB : bytesL ⟨1, (d1 : Int), 0, s1, ⟨#[]⟩, t1, (h1 : Int)⟩ = l0
      · have cE := fun W => enc_yes ⟨1, (d1 : Int), 0, s1, ⟨#[]⟩, t1, (h1 : Int)⟩ W hM
        unfold EncYes deV at cE
        rw [hB] at cE
        simp only at cE
        have HA : Hid (decA l0 = (⟨1, (d1 : Int), 0, s1, ⟨#[]⟩, t1, (h1 : Int)⟩, 0)) := Lib.hid (by unfold decA; rw [hx]; exact if_pos ⟨hM, hB⟩)
        clear hx
        go_upto_region 17 with (go_at_call 8; refine (cE _).mono ?_; rintro e w9 ⟨rfl, hb9⟩; have HDE := Lib.hid (HD.out.below hb9); clear hb9)
        clear cE p0 p1 p2 p3 p4 p5 p6
        obtain ⟨⟨z0, z1, z2, z3, z4, z5, z6⟩, y0, y1, y2, y3, y4, y5, y6⟩ := HDE.out.res
        obtain ⟨⟨p0, p1, p2, p3, p4, p5, p6⟩, _⟩ := HDE.out.cells
        go_wp2
        (try simp only [Exit.inBlock, Exit.then])
        have HF : Hid _ := Lib.hid (de_put HDE.out.z (.int .i64 (1)) (.int .i64 ((d1 : Int))) (.int .i64 0) (.string (s1)) (.string ⟨#[]⟩) (.bool (t1)) (.int .i64 ((h1 : Int))))
        have HF3 : Hid _ := Lib.hid (below_seven (x0 := .int .i64 (1)) (x1 := .int .i64 ((d1 : Int))) (x2 := .int .i64 0) (x3 := .string (s1)) (x4 := .string ⟨#[]⟩) (x5 := .bool (t1)) (x6 := .int .i64 ((h1 : Int))) HDE.out.b (Nat.le_refl b2))
        generalize (((((((w9.setCell ⟨b2, 0, none⟩ (.int .i64 (1))).setCell ⟨b2, 1, none⟩ (.int .i64 ((d1 : Int)))).setCell ⟨b2, 2, none⟩ (.int .i64 0)).setCell ⟨b2, 3, none⟩ (.string (s1))).setCell ⟨b2, 4, none⟩ (.string ⟨#[]⟩)).setCell ⟨b2, 5, none⟩ (.bool (t1))).setCell ⟨b2, 6, none⟩ (.int .i64 ((h1 : Int)))) = W9 at *
        clear z0 z1 z2 z3 z4 z5 z6 y0 y1 y2 y3 y4 y5 y6 p0 p1 p2 p3 p4 p5 p6
        have z0 := Lib.cell_of_heap HF.out 0
        have z1 := Lib.cell_of_heap HF.out 1
        have z2 := Lib.cell_of_heap HF.out 2
        have z3 := Lib.cell_of_heap HF.out 3
        have z4 := Lib.cell_of_heap HF.out 4
        have z5 := Lib.cell_of_heap HF.out 5
        have z6 := Lib.cell_of_heap HF.out 6
        refine bodyPost_ret (v := .tuple #[.agg #[.int .i64 (1), .int .i64 ((d1 : Int)), .int .i64 0, .string (s1), .string ⟨#[]⟩, .bool (t1), .int .i64 ((h1 : Int))], .int .i64 0]) ?_ rfl ⟨by rw [HA.out]; rfl, by first | exact HF3.out | (rw [hb2]; exact HF3.out)⟩
        rw [results_cell_tmp rfl]
        go_simp
      · have HAN : Hid (decA l0 = (noDe, 2)) := Lib.hid (by unfold decA; rw [hx]; exact if_neg (fun h => hB h.2))
        have cE := fun W => enc_yes ⟨1, (d1 : Int), 0, s1, ⟨#[]⟩, t1, (h1 : Int)⟩ W hM
        unfold EncYes deV at cE
        simp only at cE
        have hne := list_ne hB
        have hne2 : (bytesL ⟨1, (d1 : Int), 0, s1, ⟨#[]⟩, t1, (h1 : Int)⟩ == l0) = false := beq_eq_false_iff_ne.2 hB
        have hB2 : ¬ bytesL ⟨1, (d1 : Int), 0, s1, ⟨#[]⟩, t1, (h1 : Int)⟩ = l0 := hB
        generalize bytesL ⟨1, (d1 : Int), 0, s1, ⟨#[]⟩, t1, (h1 : Int)⟩ = BL at *
        have HA : Hid (decA l0 = (noDe, 2)) := HAN
        clear hx
        go_upto_region 16 with (go_at_call 8; refine (cE _).mono ?_; rintro e w9 ⟨rfl, hb9⟩; have HDE := Lib.hid (HD.out.below hb9); clear hb9)
        clear cE p0 p1 p2 p3 p4 p5 p6
        obtain ⟨⟨z0, z1, z2, z3, z4, z5, z6⟩, y0, y1, y2, y3, y4, y5, y6⟩ := HDE.out.res
        obtain ⟨⟨p0, p1, p2, p3, p4, p5, p6⟩, _⟩ := HDE.out.cells
        go_wp2
        (try simp only [Exit.inBlock, Exit.then])
        have HF : Hid _ := Lib.hid (de_put HDE.out.z (.int .i64 0) (.int .i64 0) (.int .i64 0) (.string ⟨#[]⟩) (.string ⟨#[]⟩) (.bool false) (.int .i64 0))
        have HF3 : Hid _ := Lib.hid (below_seven (x0 := .int .i64 0) (x1 := .int .i64 0) (x2 := .int .i64 0) (x3 := .string ⟨#[]⟩) (x4 := .string ⟨#[]⟩) (x5 := .bool false) (x6 := .int .i64 0) HDE.out.b (Nat.le_refl b2))
        generalize (((((((w9.setCell ⟨b2, 0, none⟩ (.int .i64 0)).setCell ⟨b2, 1, none⟩ (.int .i64 0)).setCell ⟨b2, 2, none⟩ (.int .i64 0)).setCell ⟨b2, 3, none⟩ (.string ⟨#[]⟩)).setCell ⟨b2, 4, none⟩ (.string ⟨#[]⟩)).setCell ⟨b2, 5, none⟩ (.bool false)).setCell ⟨b2, 6, none⟩ (.int .i64 0)) = W9 at *
        clear z0 z1 z2 z3 z4 z5 z6 y0 y1 y2 y3 y4 y5 y6 p0 p1 p2 p3 p4 p5 p6
        have z0 := Lib.cell_of_heap HF.out 0
        have z1 := Lib.cell_of_heap HF.out 1
        have z2 := Lib.cell_of_heap HF.out 2
        have z3 := Lib.cell_of_heap HF.out 3
        have z4 := Lib.cell_of_heap HF.out 4
        have z5 := Lib.cell_of_heap HF.out 5
        have z6 := Lib.cell_of_heap HF.out 6
        refine bodyPost_ret (v := .tuple #[.agg #[.int .i64 0, .int .i64 0, .int .i64 0, .string ⟨#[]⟩, .string ⟨#[]⟩, .bool false, .int .i64 0], .int .i64 2]) ?_ rfl ⟨by rw [HA.out]; rfl, by first | exact HF3.out | (rw [hb2]; exact HF3.out)⟩
        rw [results_cell_tmp rfl]
        go_simp
    · have cE := fun W => enc_no ⟨1, (d1 : Int), 0, s1, ⟨#[]⟩, t1, (h1 : Int)⟩ W hM
      unfold EncNo deV at cE
      simp only at cE
      have HA : Hid (decA l0 = (noDe, 2)) := Lib.hid (by unfold decA; rw [hx]; exact if_neg (fun h => hM h.1))
      clear hx
      go_upto_region 16 with (go_at_call 8; refine (cE _).mono ?_; rintro e w9 ⟨rfl, hb9⟩; have HDE := Lib.hid (HD.out.below hb9); clear hb9)
      clear cE p0 p1 p2 p3 p4 p5 p6
      obtain ⟨⟨z0, z1, z2, z3, z4, z5, z6⟩, y0, y1, y2, y3, y4, y5, y6⟩ := HDE.out.res
      obtain ⟨⟨p0, p1, p2, p3, p4, p5, p6⟩, _⟩ := HDE.out.cells
      go_wp2
      (try simp only [Exit.inBlock, Exit.then])
      have HF : Hid _ := Lib.hid (de_put HDE.out.z (.int .i64 0) (.int .i64 0) (.int .i64 0) (.string ⟨#[]⟩) (.string ⟨#[]⟩) (.bool false) (.int .i64 0))
      have HF3 : Hid _ := Lib.hid (below_seven (x0 := .int .i64 0) (x1 := .int .i64 0) (x2 := .int .i64 0) (x3 := .string ⟨#[]⟩) (x4 := .string ⟨#[]⟩) (x5 := .bool false) (x6 := .int .i64 0) HDE.out.b (Nat.le_refl b2))
      generalize (((((((w9.setCell ⟨b2, 0, none⟩ (.int .i64 0)).setCell ⟨b2, 1, none⟩ (.int .i64 0)).setCell ⟨b2, 2, none⟩ (.int .i64 0)).setCell ⟨b2, 3, none⟩ (.string ⟨#[]⟩)).setCell ⟨b2, 4, none⟩ (.string ⟨#[]⟩)).setCell ⟨b2, 5, none⟩ (.bool false)).setCell ⟨b2, 6, none⟩ (.int .i64 0)) = W9 at *
      clear z0 z1 z2 z3 z4 z5 z6 y0 y1 y2 y3 y4 y5 y6 p0 p1 p2 p3 p4 p5 p6
      have z0 := Lib.cell_of_heap HF.out 0
      have z1 := Lib.cell_of_heap HF.out 1
      have z2 := Lib.cell_of_heap HF.out 2
      have z3 := Lib.cell_of_heap HF.out 3
      have z4 := Lib.cell_of_heap HF.out 4
      have z5 := Lib.cell_of_heap HF.out 5
      have z6 := Lib.cell_of_heap HF.out 6
      refine bodyPost_ret (v := .tuple #[.agg #[.int .i64 0, .int .i64 0, .int .i64 0, .string ⟨#[]⟩, .string ⟨#[]⟩, .bool false, .int .i64 0], .int .i64 2]) ?_ rfl ⟨by rw [HA.out]; rfl, by first | exact HF3.out | (rw [hb2]; exact HF3.out)⟩
      rw [results_cell_tmp rfl]
      go_simp
set_option maxHeartbeats 8000000 in
set_option maxRecDepth 100000 in
theorem decode_2 (l0 : List UInt8) (w : World) (hl : l0.length ≤ 100000) (hKn : rdN 1 l0 = 2) : Calls Try.prog 11 #[.string ⟨l0.toArray⟩] w (DecPost l0 w) := by
    unfold DecPost
    have hK : ((rdN 1 l0 : Nat) : Int) = 2 := by rw [hKn]; rfl
    have cR := fun W => newReader_c ⟨l0.toArray⟩ W
    go_enter Try.func11, Try.ntmps11
    go_upto_region 3 with (go_at_call 28; refine (cR _).mono ?_; rintro e w0 ⟨rfl, hb0⟩; have HB0 := Lib.hid hb0; clear hb0)
    have HD := Lib.hid (decW_new (w := w) (w1 := w0) l0 hl HB0.out)
    unfold zDe at HD
    generalize ((w0.alloc (.cells #[.string ⟨l0.toArray⟩, .bool false] 70)).alloc (.cells #[.int .i64 0, .int .i64 0, .int .i64 0, .string ⟨#[]⟩, .string ⟨#[]⟩, .bool false, .int .i64 0] 23)) = W0 at *
    generalize w0.heap.size = rb at *
    clear HB0 cR
    generalize hb2 : w.heap.size = b2 at *
    obtain ⟨_, f0, f1, f2, f3, f4, f5, f6⟩ := HD.out.cells
    have Hn1 : Hid (rdN 1 l0 = 2) := Lib.hid hKn
    clear hK
    obtain ⟨l1, hl1⟩ : ∃ l1, l0.drop 1 = l1 := ⟨_, rfl⟩
    have Hl1 := Lib.hid hl1
    clear hl1
    obtain ⟨d1, hd1⟩ : ∃ d1, rdN 2 l1 = d1 := ⟨_, rfl⟩
    have Hd1 := Lib.hid hd1
    clear hd1
    obtain ⟨l2, hl2⟩ : ∃ l2, l1.drop 2 = l2 := ⟨_, rfl⟩
    have Hl2 := Lib.hid hl2
    clear hl2
    obtain ⟨s1, hs1⟩ : ∃ s1, nmL l2 = s1 := ⟨_, rfl⟩
    have Hs1 := Lib.hid hs1
    clear hs1
    obtain ⟨l3, hl3⟩ : ∃ l3, nmR l2 = l3 := ⟨_, rfl⟩
    have Hl3 := Lib.hid hl3
    clear hl3
    obtain ⟨t1, ht1⟩ : ∃ t1, decide (rdN 1 l3 = 1) = t1 := ⟨_, rfl⟩
    have Ht1 := Lib.hid ht1
    clear ht1
    obtain ⟨l4, hl4⟩ : ∃ l4, l3.drop 1 = l4 := ⟨_, rfl⟩
    have Hl4 := Lib.hid hl4
    clear hl4
    go_upto_region 4 with (go_at_call 29; refine (HD.out.num 1 1 rfl (by omega) Hn1 Hl1).mono ?_; rintro e w1 ⟨rfl, hd⟩; have HD := Lib.hid hd; clear hd; obtain ⟨_, f0, f1, f2, f3, f4, f5, f6⟩ := HD.out.cells)
    have HD := Lib.hid (HD.out.put 0 (.int .i64 (2)) (x' := ⟨2, 0, 0, ⟨#[]⟩, ⟨#[]⟩, false, 0⟩) rfl)
    generalize (w1.setCell ⟨rb + 1, 0, none⟩ (.int .i64 (2))) = W1 at *
    clear f0 f1 f2 f3 f4 f5 f6
    go_upto_region 5 with (go_at_call 29; refine (HD.out.num 2 2 rfl (by omega) Hd1 Hl2).mono ?_; rintro e w2 ⟨rfl, hd⟩; have HD := Lib.hid hd; clear hd; obtain ⟨_, f0, f1, f2, f3, f4, f5, f6⟩ := HD.out.cells)
    have HD := Lib.hid (HD.out.put 1 (.int .i64 ((d1 : Int))) (x' := ⟨2, (d1 : Int), 0, ⟨#[]⟩, ⟨#[]⟩, false, 0⟩) rfl)
    generalize (w2.setCell ⟨rb + 1, 1, none⟩ (.int .i64 ((d1 : Int)))) = W2 at *
    clear f0 f1 f2 f3 f4 f5 f6
    go_upto_region 6 with (go_at_call 30; refine (HD.out.name Hs1 Hl3).mono ?_; rintro e w3 ⟨rfl, hd⟩; have HD := Lib.hid hd; clear hd; obtain ⟨_, f0, f1, f2, f3, f4, f5, f6⟩ := HD.out.cells)
    have HD := Lib.hid (HD.out.put 3 (.string (s1)) (x' := ⟨2, (d1 : Int), 0, s1, ⟨#[]⟩, false, 0⟩) rfl)
    generalize (w3.setCell ⟨rb + 1, 3, none⟩ (.string (s1))) = W3 at *
    clear f0 f1 f2 f3 f4 f5 f6
    have k0 := HD.out.cells.1.1
    have cK := fun W => kindOf_yes 2 W (by omega)
    unfold kindV at cK
    simp only [show decide ((2 : Int) = 1 ∨ (2 : Int) = 2) = true by decide, show decide ((2 : Int) = 3) = false by decide, show decide ((2 : Int) = 1 ∨ (2 : Int) = 3) = false by decide] at cK
    go_upto_region 8 with (go_at_call 31; refine (cK _).mono ?_; rintro e w4 ⟨f, rfl, hd1, hb1⟩; obtain ⟨n9, g9, rfl⟩ := hd1.form; have HD := Lib.hid (HD.out.below hb1); clear hb1 hd1; have HD := Lib.hid (HD.out.kind #[.bool true, .bool false, .bool false, .func n9 #[] #[ptV g9]]))
    generalize (w4.alloc (.cells #[.bool true, .bool false, .bool false, .func n9 #[] #[ptV g9]] 56)) = W5 at *
    generalize w4.heap.size = b6 at *
    clear cK k0
    obtain ⟨_, f0, f1, f2, f3, f4, f5, f6⟩ := HD.out.cells
    obtain ⟨q0, q1, q2⟩ := HD.out.kcells
    go_upto_region 9 with (go_at_call 32; refine (HD.out.flag Ht1 Hl4).mono ?_; rintro e w5 ⟨rfl, hd⟩; have HD := Lib.hid hd; clear hd; obtain ⟨_, f0, f1, f2, f3, f4, f5, f6⟩ := HD.out.cells)
    have HD := Lib.hid (HD.out.put 5 (.bool (t1)) (x' := ⟨2, (d1 : Int), 0, s1, ⟨#[]⟩, t1, 0⟩) rfl)
    generalize (w5.setCell ⟨rb + 1, 5, none⟩ (.bool (t1))) = W5 at *
    clear f0 f1 f2 f3 f4 f5 f6
    obtain ⟨q0, q1, q2⟩ := HD.out.kcells
    skip
    have hx : decL l0 = ⟨2, (d1 : Int), 0, s1, ⟨#[]⟩, t1, 0⟩ := by
      obtain rfl := Hl1.out; obtain rfl := Hd1.out; obtain rfl := Hl2.out; obtain rfl := Hs1.out; obtain rfl := Hl3.out; obtain rfl := Ht1.out; obtain rfl := Hl4.out
      unfold decL
      simp only [Hn1.out, reduceIte, show ¬ (2 : Nat) = 1 by decide]
      rfl
    obtain ⟨⟨p0, p1, p2, p3, p4, p5, p6⟩, _⟩ := HD.out.cells
    by_cases hM : May ⟨2, (d1 : Int), 0, s1, ⟨#[]⟩, t1, 0⟩
    · by_cases hB : bytesL ⟨2, (d1 : Int), 0, s1, ⟨#[]⟩, t1, 0⟩ = l0
      · have cE := fun W => enc_yes ⟨2, (d1 : Int), 0, s1, ⟨#[]⟩, t1, 0⟩ W hM
        unfold EncYes deV at cE
        rw [hB] at cE
        simp only at cE
        have HA : Hid (decA l0 = (⟨2, (d1 : Int), 0, s1, ⟨#[]⟩, t1, 0⟩, 0)) := Lib.hid (by unfold decA; rw [hx]; exact if_pos ⟨hM, hB⟩)
        clear hx
        go_upto_region 17 with (go_at_call 8; refine (cE _).mono ?_; rintro e w9 ⟨rfl, hb9⟩; have HDE := Lib.hid (HD.out.below hb9); clear hb9)
        clear cE p0 p1 p2 p3 p4 p5 p6
        obtain ⟨⟨z0, z1, z2, z3, z4, z5, z6⟩, y0, y1, y2, y3, y4, y5, y6⟩ := HDE.out.res
        obtain ⟨⟨p0, p1, p2, p3, p4, p5, p6⟩, _⟩ := HDE.out.cells
        go_wp2
        (try simp only [Exit.inBlock, Exit.then])
        have HF : Hid _ := Lib.hid (de_put HDE.out.z (.int .i64 (2)) (.int .i64 ((d1 : Int))) (.int .i64 0) (.string (s1)) (.string ⟨#[]⟩) (.bool (t1)) (.int .i64 0))
        have HF3 : Hid _ := Lib.hid (below_seven (x0 := .int .i64 (2)) (x1 := .int .i64 ((d1 : Int))) (x2 := .int .i64 0) (x3 := .string (s1)) (x4 := .string ⟨#[]⟩) (x5 := .bool (t1)) (x6 := .int .i64 0) HDE.out.b (Nat.le_refl b2))
        generalize (((((((w9.setCell ⟨b2, 0, none⟩ (.int .i64 (2))).setCell ⟨b2, 1, none⟩ (.int .i64 ((d1 : Int)))).setCell ⟨b2, 2, none⟩ (.int .i64 0)).setCell ⟨b2, 3, none⟩ (.string (s1))).setCell ⟨b2, 4, none⟩ (.string ⟨#[]⟩)).setCell ⟨b2, 5, none⟩ (.bool (t1))).setCell ⟨b2, 6, none⟩ (.int .i64 0)) = W9 at *
        clear z0 z1 z2 z3 z4 z5 z6 y0 y1 y2 y3 y4 y5 y6 p0 p1 p2 p3 p4 p5 p6
        have z0 := Lib.cell_of_heap HF.out 0
        have z1 := Lib.cell_of_heap HF.out 1
        have z2 := Lib.cell_of_heap HF.out 2
        have z3 := Lib.cell_of_heap HF.out 3
        have z4 := Lib.cell_of_heap HF.out 4
        have z5 := Lib.cell_of_heap HF.out 5
        have z6 := Lib.cell_of_heap HF.out 6
        refine bodyPost_ret (v := .tuple #[.agg #[.int .i64 (2), .int .i64 ((d1 : Int)), .int .i64 0, .string (s1), .string ⟨#[]⟩, .bool (t1), .int .i64 0], .int .i64 0]) ?_ rfl ⟨by rw [HA.out]; rfl, by first | exact HF3.out | (rw [hb2]; exact HF3.out)⟩
        rw [results_cell_tmp rfl]
        go_simp
      · have HAN : Hid (decA l0 = (noDe, 2)) := Lib.hid (by unfold decA; rw [hx]; exact if_neg (fun h => hB h.2))
        have cE := fun W => enc_yes ⟨2, (d1 : Int), 0, s1, ⟨#[]⟩, t1, 0⟩ W hM
        unfold EncYes deV at cE
        simp only at cE
        have hne := list_ne hB
        have hne2 : (bytesL ⟨2, (d1 : Int), 0, s1, ⟨#[]⟩, t1, 0⟩ == l0) = false := beq_eq_false_iff_ne.2 hB
        have hB2 : ¬ bytesL ⟨2, (d1 : Int), 0, s1, ⟨#[]⟩, t1, 0⟩ = l0 := hB
        generalize bytesL ⟨2, (d1 : Int), 0, s1, ⟨#[]⟩, t1, 0⟩ = BL at *
        have HA : Hid (decA l0 = (noDe, 2)) := HAN
        clear hx
        go_upto_region 16 with (go_at_call 8; refine (cE _).mono ?_; rintro e w9 ⟨rfl, hb9⟩; have HDE := Lib.hid (HD.out.below hb9); clear hb9)
        clear cE p0 p1 p2 p3 p4 p5 p6
        obtain ⟨⟨z0, z1, z2, z3, z4, z5, z6⟩, y0, y1, y2, y3, y4, y5, y6⟩ := HDE.out.res
        obtain ⟨⟨p0, p1, p2, p3, p4, p5, p6⟩, _⟩ := HDE.out.cells
        go_wp2
        (try simp only [Exit.inBlock, Exit.then])
        have HF : Hid _ := Lib.hid (de_put HDE.out.z (.int .i64 0) (.int .i64 0) (.int .i64 0) (.string ⟨#[]⟩) (.string ⟨#[]⟩) (.bool false) (.int .i64 0))
        have HF3 : Hid _ := Lib.hid (below_seven (x0 := .int .i64 0) (x1 := .int .i64 0) (x2 := .int .i64 0) (x3 := .string ⟨#[]⟩) (x4 := .string ⟨#[]⟩) (x5 := .bool false) (x6 := .int .i64 0) HDE.out.b (Nat.le_refl b2))
        generalize (((((((w9.setCell ⟨b2, 0, none⟩ (.int .i64 0)).setCell ⟨b2, 1, none⟩ (.int .i64 0)).setCell ⟨b2, 2, none⟩ (.int .i64 0)).setCell ⟨b2, 3, none⟩ (.string ⟨#[]⟩)).setCell ⟨b2, 4, none⟩ (.string ⟨#[]⟩)).setCell ⟨b2, 5, none⟩ (.bool false)).setCell ⟨b2, 6, none⟩ (.int .i64 0)) = W9 at *
        clear z0 z1 z2 z3 z4 z5 z6 y0 y1 y2 y3 y4 y5 y6 p0 p1 p2 p3 p4 p5 p6
        have z0 := Lib.cell_of_heap HF.out 0
        have z1 := Lib.cell_of_heap HF.out 1
        have z2 := Lib.cell_of_heap HF.out 2
        have z3 := Lib.cell_of_heap HF.out 3
        have z4 := Lib.cell_of_heap HF.out 4
        have z5 := Lib.cell_of_heap HF.out 5
        have z6 := Lib.cell_of_heap HF.out 6
        refine bodyPost_ret (v := .tuple #[.agg #[.int .i64 0, .int .i64 0, .int .i64 0, .string ⟨#[]⟩, .string ⟨#[]⟩, .bool false, .int .i64 0], .int .i64 2]) ?_ rfl ⟨by rw [HA.out]; rfl, by first | exact HF3.out | (rw [hb2]; exact HF3.out)⟩
        rw [results_cell_tmp rfl]
        go_simp
    · have cE := fun W => enc_no ⟨2, (d1 : Int), 0, s1, ⟨#[]⟩, t1, 0⟩ W hM
      unfold EncNo deV at cE
      simp only at cE
      have HA : Hid (decA l0 = (noDe, 2)) := Lib.hid (by unfold decA; rw [hx]; exact if_neg (fun h => hM h.1))
      clear hx
      go_upto_region 16 with (go_at_call 8; refine (cE _).mono ?_; rintro e w9 ⟨rfl, hb9⟩; have HDE := Lib.hid (HD.out.below hb9); clear hb9)
      clear cE p0 p1 p2 p3 p4 p5 p6
      obtain ⟨⟨z0, z1, z2, z3, z4, z5, z6⟩, y0, y1, y2, y3, y4, y5, y6⟩ := HDE.out.res
      obtain ⟨⟨p0, p1, p2, p3, p4, p5, p6⟩, _⟩ := HDE.out.cells
      go_wp2
      (try simp only [Exit.inBlock, Exit.then])
      have HF : Hid _ := Lib.hid (de_put HDE.out.z (.int .i64 0) (.int .i64 0) (.int .i64 0) (.string ⟨#[]⟩) (.string ⟨#[]⟩) (.bool false) (.int .i64 0))
      have HF3 : Hid _ := Lib.hid (below_seven (x0 := .int .i64 0) (x1 := .int .i64 0) (x2 := .int .i64 0) (x3 := .string ⟨#[]⟩) (x4 := .string ⟨#[]⟩) (x5 := .bool false) (x6 := .int .i64 0) HDE.out.b (Nat.le_refl b2))
      generalize (((((((w9.setCell ⟨b2, 0, none⟩ (.int .i64 0)).setCell ⟨b2, 1, none⟩ (.int .i64 0)).setCell ⟨b2, 2, none⟩ (.int .i64 0)).setCell ⟨b2, 3, none⟩ (.string ⟨#[]⟩)).setCell ⟨b2, 4, none⟩ (.string ⟨#[]⟩)).setCell ⟨b2, 5, none⟩ (.bool false)).setCell ⟨b2, 6, none⟩ (.int .i64 0)) = W9 at *
      clear z0 z1 z2 z3 z4 z5 z6 y0 y1 y2 y3 y4 y5 y6 p0 p1 p2 p3 p4 p5 p6
      have z0 := Lib.cell_of_heap HF.out 0
      have z1 := Lib.cell_of_heap HF.out 1
      have z2 := Lib.cell_of_heap HF.out 2
      have z3 := Lib.cell_of_heap HF.out 3
      have z4 := Lib.cell_of_heap HF.out 4
      have z5 := Lib.cell_of_heap HF.out 5
      have z6 := Lib.cell_of_heap HF.out 6
      refine bodyPost_ret (v := .tuple #[.agg #[.int .i64 0, .int .i64 0, .int .i64 0, .string ⟨#[]⟩, .string ⟨#[]⟩, .bool false, .int .i64 0], .int .i64 2]) ?_ rfl ⟨by rw [HA.out]; rfl, by first | exact HF3.out | (rw [hb2]; exact HF3.out)⟩
      rw [results_cell_tmp rfl]
      go_simp
set_option maxHeartbeats 8000000 in
set_option maxRecDepth 100000 in
theorem decode_3 (l0 : List UInt8) (w : World) (hl : l0.length ≤ 100000) (hKn : rdN 1 l0 = 3) : Calls Try.prog 11 #[.string ⟨l0.toArray⟩] w (DecPost l0 w) := by
    unfold DecPost
    have hK : ((rdN 1 l0 : Nat) : Int) = 3 := by rw [hKn]; rfl
    have cR := fun W => newReader_c ⟨l0.toArray⟩ W
    go_enter Try.func11, Try.ntmps11
    go_upto_region 3 with (go_at_call 28; refine (cR _).mono ?_; rintro e w0 ⟨rfl, hb0⟩; have HB0 := Lib.hid hb0; clear hb0)
    have HD := Lib.hid (decW_new (w := w) (w1 := w0) l0 hl HB0.out)
    unfold zDe at HD
    generalize ((w0.alloc (.cells #[.string ⟨l0.toArray⟩, .bool false] 70)).alloc (.cells #[.int .i64 0, .int .i64 0, .int .i64 0, .string ⟨#[]⟩, .string ⟨#[]⟩, .bool false, .int .i64 0] 23)) = W0 at *
    generalize w0.heap.size = rb at *
    clear HB0 cR
    generalize hb2 : w.heap.size = b2 at *
    obtain ⟨_, f0, f1, f2, f3, f4, f5, f6⟩ := HD.out.cells
    have Hn1 : Hid (rdN 1 l0 = 3) := Lib.hid hKn
    clear hK
    obtain ⟨l1, hl1⟩ : ∃ l1, l0.drop 1 = l1 := ⟨_, rfl⟩
    have Hl1 := Lib.hid hl1
    clear hl1
    obtain ⟨d1, hd1⟩ : ∃ d1, rdN 2 l1 = d1 := ⟨_, rfl⟩
    have Hd1 := Lib.hid hd1
    clear hd1
    obtain ⟨l2, hl2⟩ : ∃ l2, l1.drop 2 = l2 := ⟨_, rfl⟩
    have Hl2 := Lib.hid hl2
    clear hl2
    obtain ⟨s1, hs1⟩ : ∃ s1, nmL l2 = s1 := ⟨_, rfl⟩
    have Hs1 := Lib.hid hs1
    clear hs1
    obtain ⟨l3, hl3⟩ : ∃ l3, nmR l2 = l3 := ⟨_, rfl⟩
    have Hl3 := Lib.hid hl3
    clear hl3
    obtain ⟨o1, ho1⟩ : ∃ o1, rdN 2 l3 = o1 := ⟨_, rfl⟩
    have Ho1 := Lib.hid ho1
    clear ho1
    obtain ⟨l4, hl4⟩ : ∃ l4, l3.drop 2 = l4 := ⟨_, rfl⟩
    have Hl4 := Lib.hid hl4
    clear hl4
    obtain ⟨s2, hs2⟩ : ∃ s2, nmL l4 = s2 := ⟨_, rfl⟩
    have Hs2 := Lib.hid hs2
    clear hs2
    obtain ⟨l5, hl5⟩ : ∃ l5, nmR l4 = l5 := ⟨_, rfl⟩
    have Hl5 := Lib.hid hl5
    clear hl5
    obtain ⟨h1, hh1⟩ : ∃ h1, rdN 4 l5 = h1 := ⟨_, rfl⟩
    have Hh1 := Lib.hid hh1
    clear hh1
    obtain ⟨l6, hl6⟩ : ∃ l6, l5.drop 4 = l6 := ⟨_, rfl⟩
    have Hl6 := Lib.hid hl6
    clear hl6
    go_upto_region 4 with (go_at_call 29; refine (HD.out.num 1 1 rfl (by omega) Hn1 Hl1).mono ?_; rintro e w1 ⟨rfl, hd⟩; have HD := Lib.hid hd; clear hd; obtain ⟨_, f0, f1, f2, f3, f4, f5, f6⟩ := HD.out.cells)
    have HD := Lib.hid (HD.out.put 0 (.int .i64 (3)) (x' := ⟨3, 0, 0, ⟨#[]⟩, ⟨#[]⟩, false, 0⟩) rfl)
    generalize (w1.setCell ⟨rb + 1, 0, none⟩ (.int .i64 (3))) = W1 at *
    clear f0 f1 f2 f3 f4 f5 f6
    go_upto_region 5 with (go_at_call 29; refine (HD.out.num 2 2 rfl (by omega) Hd1 Hl2).mono ?_; rintro e w2 ⟨rfl, hd⟩; have HD := Lib.hid hd; clear hd; obtain ⟨_, f0, f1, f2, f3, f4, f5, f6⟩ := HD.out.cells)
    have HD := Lib.hid (HD.out.put 1 (.int .i64 ((d1 : Int))) (x' := ⟨3, (d1 : Int), 0, ⟨#[]⟩, ⟨#[]⟩, false, 0⟩) rfl)
    generalize (w2.setCell ⟨rb + 1, 1, none⟩ (.int .i64 ((d1 : Int)))) = W2 at *
    clear f0 f1 f2 f3 f4 f5 f6
    go_upto_region 6 with (go_at_call 30; refine (HD.out.name Hs1 Hl3).mono ?_; rintro e w3 ⟨rfl, hd⟩; have HD := Lib.hid hd; clear hd; obtain ⟨_, f0, f1, f2, f3, f4, f5, f6⟩ := HD.out.cells)
    have HD := Lib.hid (HD.out.put 3 (.string (s1)) (x' := ⟨3, (d1 : Int), 0, s1, ⟨#[]⟩, false, 0⟩) rfl)
    generalize (w3.setCell ⟨rb + 1, 3, none⟩ (.string (s1))) = W3 at *
    clear f0 f1 f2 f3 f4 f5 f6
    have k0 := HD.out.cells.1.1
    have cK := fun W => kindOf_yes 3 W (by omega)
    unfold kindV at cK
    simp only [show decide ((3 : Int) = 1 ∨ (3 : Int) = 2) = false by decide, show decide ((3 : Int) = 3) = true by decide, show decide ((3 : Int) = 1 ∨ (3 : Int) = 3) = true by decide] at cK
    go_upto_region 10 with (go_at_call 31; refine (cK _).mono ?_; rintro e w4 ⟨f, rfl, hd1, hb1⟩; obtain ⟨n9, g9, rfl⟩ := hd1.form; have HD := Lib.hid (HD.out.below hb1); clear hb1 hd1; have HD := Lib.hid (HD.out.kind #[.bool false, .bool true, .bool true, .func n9 #[] #[ptV g9]]))
    generalize (w4.alloc (.cells #[.bool false, .bool true, .bool true, .func n9 #[] #[ptV g9]] 56)) = W5 at *
    generalize w4.heap.size = b6 at *
    clear cK k0
    obtain ⟨_, f0, f1, f2, f3, f4, f5, f6⟩ := HD.out.cells
    obtain ⟨q0, q1, q2⟩ := HD.out.kcells
    go_upto_region 11 with (go_at_call 29; refine (HD.out.num 2 2 rfl (by omega) Ho1 Hl4).mono ?_; rintro e w5 ⟨rfl, hd⟩; have HD := Lib.hid hd; clear hd; obtain ⟨_, f0, f1, f2, f3, f4, f5, f6⟩ := HD.out.cells)
    have HD := Lib.hid (HD.out.put 2 (.int .i64 ((o1 : Int))) (x' := ⟨3, (d1 : Int), (o1 : Int), s1, ⟨#[]⟩, false, 0⟩) rfl)
    generalize (w5.setCell ⟨rb + 1, 2, none⟩ (.int .i64 ((o1 : Int)))) = W5 at *
    clear f0 f1 f2 f3 f4 f5 f6
    obtain ⟨q0, q1, q2⟩ := HD.out.kcells
    obtain ⟨_, f0, f1, f2, f3, f4, f5, f6⟩ := HD.out.cells
    go_upto_region 12 with (go_at_call 30; refine (HD.out.name Hs2 Hl5).mono ?_; rintro e w6 ⟨rfl, hd⟩; have HD := Lib.hid hd; clear hd; obtain ⟨_, f0, f1, f2, f3, f4, f5, f6⟩ := HD.out.cells)
    have HD := Lib.hid (HD.out.put 4 (.string (s2)) (x' := ⟨3, (d1 : Int), (o1 : Int), s1, s2, false, 0⟩) rfl)
    generalize (w6.setCell ⟨rb + 1, 4, none⟩ (.string (s2))) = W6 at *
    clear f0 f1 f2 f3 f4 f5 f6
    obtain ⟨q0, q1, q2⟩ := HD.out.kcells
    obtain ⟨_, f0, f1, f2, f3, f4, f5, f6⟩ := HD.out.cells
    go_upto_region 14 with (go_at_call 29; refine (HD.out.num 4 4 rfl (by omega) Hh1 Hl6).mono ?_; rintro e w7 ⟨rfl, hd⟩; have HD := Lib.hid hd; clear hd; obtain ⟨_, f0, f1, f2, f3, f4, f5, f6⟩ := HD.out.cells)
    have HD := Lib.hid (HD.out.put 6 (.int .i64 ((h1 : Int))) (x' := ⟨3, (d1 : Int), (o1 : Int), s1, s2, false, (h1 : Int)⟩) rfl)
    generalize (w7.setCell ⟨rb + 1, 6, none⟩ (.int .i64 ((h1 : Int)))) = W7 at *
    clear f0 f1 f2 f3 f4 f5 f6
    skip
    have hx : decL l0 = ⟨3, (d1 : Int), (o1 : Int), s1, s2, false, (h1 : Int)⟩ := by
      obtain rfl := Hl1.out; obtain rfl := Hd1.out; obtain rfl := Hl2.out; obtain rfl := Hs1.out; obtain rfl := Hl3.out; obtain rfl := Ho1.out; obtain rfl := Hl4.out; obtain rfl := Hs2.out; obtain rfl := Hl5.out; obtain rfl := Hh1.out; obtain rfl := Hl6.out
      unfold decL
      simp only [Hn1.out, reduceIte, show ¬ (3 : Nat) = 1 by decide, show ¬ (3 : Nat) = 2 by decide]
      rfl
    obtain ⟨⟨p0, p1, p2, p3, p4, p5, p6⟩, _⟩ := HD.out.cells
    by_cases hM : May ⟨3, (d1 : Int), (o1 : Int), s1, s2, false, (h1 : Int)⟩
    · by_cases hB : bytesL ⟨3, (d1 : Int), (o1 : Int), s1, s2, false, (h1 : Int)⟩ = l0
      · have cE := fun W => enc_yes ⟨3, (d1 : Int), (o1 : Int), s1, s2, false, (h1 : Int)⟩ W hM
        unfold EncYes deV at cE
        rw [hB] at cE
        simp only at cE
        have HA : Hid (decA l0 = (⟨3, (d1 : Int), (o1 : Int), s1, s2, false, (h1 : Int)⟩, 0)) := Lib.hid (by unfold decA; rw [hx]; exact if_pos ⟨hM, hB⟩)
        clear hx
        go_upto_region 17 with (go_at_call 8; refine (cE _).mono ?_; rintro e w9 ⟨rfl, hb9⟩; have HDE := Lib.hid (HD.out.below hb9); clear hb9)
        clear cE p0 p1 p2 p3 p4 p5 p6
        obtain ⟨⟨z0, z1, z2, z3, z4, z5, z6⟩, y0, y1, y2, y3, y4, y5, y6⟩ := HDE.out.res
        obtain ⟨⟨p0, p1, p2, p3, p4, p5, p6⟩, _⟩ := HDE.out.cells
        go_wp2
        (try simp only [Exit.inBlock, Exit.then])
        have HF : Hid _ := Lib.hid (de_put HDE.out.z (.int .i64 (3)) (.int .i64 ((d1 : Int))) (.int .i64 ((o1 : Int))) (.string (s1)) (.string (s2)) (.bool false) (.int .i64 ((h1 : Int))))
        have HF3 : Hid _ := Lib.hid (below_seven (x0 := .int .i64 (3)) (x1 := .int .i64 ((d1 : Int))) (x2 := .int .i64 ((o1 : Int))) (x3 := .string (s1)) (x4 := .string (s2)) (x5 := .bool false) (x6 := .int .i64 ((h1 : Int))) HDE.out.b (Nat.le_refl b2))
        generalize (((((((w9.setCell ⟨b2, 0, none⟩ (.int .i64 (3))).setCell ⟨b2, 1, none⟩ (.int .i64 ((d1 : Int)))).setCell ⟨b2, 2, none⟩ (.int .i64 ((o1 : Int)))).setCell ⟨b2, 3, none⟩ (.string (s1))).setCell ⟨b2, 4, none⟩ (.string (s2))).setCell ⟨b2, 5, none⟩ (.bool false)).setCell ⟨b2, 6, none⟩ (.int .i64 ((h1 : Int)))) = W9 at *
        clear z0 z1 z2 z3 z4 z5 z6 y0 y1 y2 y3 y4 y5 y6 p0 p1 p2 p3 p4 p5 p6
        have z0 := Lib.cell_of_heap HF.out 0
        have z1 := Lib.cell_of_heap HF.out 1
        have z2 := Lib.cell_of_heap HF.out 2
        have z3 := Lib.cell_of_heap HF.out 3
        have z4 := Lib.cell_of_heap HF.out 4
        have z5 := Lib.cell_of_heap HF.out 5
        have z6 := Lib.cell_of_heap HF.out 6
        refine bodyPost_ret (v := .tuple #[.agg #[.int .i64 (3), .int .i64 ((d1 : Int)), .int .i64 ((o1 : Int)), .string (s1), .string (s2), .bool false, .int .i64 ((h1 : Int))], .int .i64 0]) ?_ rfl ⟨by rw [HA.out]; rfl, by first | exact HF3.out | (rw [hb2]; exact HF3.out)⟩
        rw [results_cell_tmp rfl]
        go_simp
      · have HAN : Hid (decA l0 = (noDe, 2)) := Lib.hid (by unfold decA; rw [hx]; exact if_neg (fun h => hB h.2))
        have cE := fun W => enc_yes ⟨3, (d1 : Int), (o1 : Int), s1, s2, false, (h1 : Int)⟩ W hM
        unfold EncYes deV at cE
        simp only at cE
        have hne := list_ne hB
        have hne2 : (bytesL ⟨3, (d1 : Int), (o1 : Int), s1, s2, false, (h1 : Int)⟩ == l0) = false := beq_eq_false_iff_ne.2 hB
        have hB2 : ¬ bytesL ⟨3, (d1 : Int), (o1 : Int), s1, s2, false, (h1 : Int)⟩ = l0 := hB
        generalize bytesL ⟨3, (d1 : Int), (o1 : Int), s1, s2, false, (h1 : Int)⟩ = BL at *
        have HA : Hid (decA l0 = (noDe, 2)) := HAN
        clear hx
        go_upto_region 16 with (go_at_call 8; refine (cE _).mono ?_; rintro e w9 ⟨rfl, hb9⟩; have HDE := Lib.hid (HD.out.below hb9); clear hb9)
        clear cE p0 p1 p2 p3 p4 p5 p6
        obtain ⟨⟨z0, z1, z2, z3, z4, z5, z6⟩, y0, y1, y2, y3, y4, y5, y6⟩ := HDE.out.res
        obtain ⟨⟨p0, p1, p2, p3, p4, p5, p6⟩, _⟩ := HDE.out.cells
        go_wp2
        (try simp only [Exit.inBlock, Exit.then])
        have HF : Hid _ := Lib.hid (de_put HDE.out.z (.int .i64 0) (.int .i64 0) (.int .i64 0) (.string ⟨#[]⟩) (.string ⟨#[]⟩) (.bool false) (.int .i64 0))
        have HF3 : Hid _ := Lib.hid (below_seven (x0 := .int .i64 0) (x1 := .int .i64 0) (x2 := .int .i64 0) (x3 := .string ⟨#[]⟩) (x4 := .string ⟨#[]⟩) (x5 := .bool false) (x6 := .int .i64 0) HDE.out.b (Nat.le_refl b2))
        generalize (((((((w9.setCell ⟨b2, 0, none⟩ (.int .i64 0)).setCell ⟨b2, 1, none⟩ (.int .i64 0)).setCell ⟨b2, 2, none⟩ (.int .i64 0)).setCell ⟨b2, 3, none⟩ (.string ⟨#[]⟩)).setCell ⟨b2, 4, none⟩ (.string ⟨#[]⟩)).setCell ⟨b2, 5, none⟩ (.bool false)).setCell ⟨b2, 6, none⟩ (.int .i64 0)) = W9 at *
        clear z0 z1 z2 z3 z4 z5 z6 y0 y1 y2 y3 y4 y5 y6 p0 p1 p2 p3 p4 p5 p6
        have z0 := Lib.cell_of_heap HF.out 0
        have z1 := Lib.cell_of_heap HF.out 1
        have z2 := Lib.cell_of_heap HF.out 2
        have z3 := Lib.cell_of_heap HF.out 3
        have z4 := Lib.cell_of_heap HF.out 4
        have z5 := Lib.cell_of_heap HF.out 5
        have z6 := Lib.cell_of_heap HF.out 6
        refine bodyPost_ret (v := .tuple #[.agg #[.int .i64 0, .int .i64 0, .int .i64 0, .string ⟨#[]⟩, .string ⟨#[]⟩, .bool false, .int .i64 0], .int .i64 2]) ?_ rfl ⟨by rw [HA.out]; rfl, by first | exact HF3.out | (rw [hb2]; exact HF3.out)⟩
        rw [results_cell_tmp rfl]
        go_simp
    · have cE := fun W => enc_no ⟨3, (d1 : Int), (o1 : Int), s1, s2, false, (h1 : Int)⟩ W hM
      unfold EncNo deV at cE
      simp only at cE
      have HA : Hid (decA l0 = (noDe, 2)) := Lib.hid (by unfold decA; rw [hx]; exact if_neg (fun h => hM h.1))
      clear hx
      go_upto_region 16 with (go_at_call 8; refine (cE _).mono ?_; rintro e w9 ⟨rfl, hb9⟩; have HDE := Lib.hid (HD.out.below hb9); clear hb9)
      clear cE p0 p1 p2 p3 p4 p5 p6
      obtain ⟨⟨z0, z1, z2, z3, z4, z5, z6⟩, y0, y1, y2, y3, y4, y5, y6⟩ := HDE.out.res
      obtain ⟨⟨p0, p1, p2, p3, p4, p5, p6⟩, _⟩ := HDE.out.cells
      go_wp2
      (try simp only [Exit.inBlock, Exit.then])
      have HF : Hid _ := Lib.hid (de_put HDE.out.z (.int .i64 0) (.int .i64 0) (.int .i64 0) (.string ⟨#[]⟩) (.string ⟨#[]⟩) (.bool false) (.int .i64 0))
      have HF3 : Hid _ := Lib.hid (below_seven (x0 := .int .i64 0) (x1 := .int .i64 0) (x2 := .int .i64 0) (x3 := .string ⟨#[]⟩) (x4 := .string ⟨#[]⟩) (x5 := .bool false) (x6 := .int .i64 0) HDE.out.b (Nat.le_refl b2))
      generalize (((((((w9.setCell ⟨b2, 0, none⟩ (.int .i64 0)).setCell ⟨b2, 1, none⟩ (.int .i64 0)).setCell ⟨b2, 2, none⟩ (.int .i64 0)).setCell ⟨b2, 3, none⟩ (.string ⟨#[]⟩)).setCell ⟨b2, 4, none⟩ (.string ⟨#[]⟩)).setCell ⟨b2, 5, none⟩ (.bool false)).setCell ⟨b2, 6, none⟩ (.int .i64 0)) = W9 at *
      clear z0 z1 z2 z3 z4 z5 z6 y0 y1 y2 y3 y4 y5 y6 p0 p1 p2 p3 p4 p5 p6
      have z0 := Lib.cell_of_heap HF.out 0
      have z1 := Lib.cell_of_heap HF.out 1
      have z2 := Lib.cell_of_heap HF.out 2
      have z3 := Lib.cell_of_heap HF.out 3
      have z4 := Lib.cell_of_heap HF.out 4
      have z5 := Lib.cell_of_heap HF.out 5
      have z6 := Lib.cell_of_heap HF.out 6
      refine bodyPost_ret (v := .tuple #[.agg #[.int .i64 0, .int .i64 0, .int .i64 0, .string ⟨#[]⟩, .string ⟨#[]⟩, .bool false, .int .i64 0], .int .i64 2]) ?_ rfl ⟨by rw [HA.out]; rfl, by first | exact HF3.out | (rw [hb2]; exact HF3.out)⟩
      rw [results_cell_tmp rfl]
      go_simp
theorem decode_c (l0 : List UInt8) (w : World) (hl : l0.length ≤ 100000) : Calls Try.prog 11 #[.string ⟨l0.toArray⟩] w (DecPost l0 w) := by
  by_cases h1 : rdN 1 l0 = 1
  · exact decode_1 l0 w hl h1
  · by_cases h2 : rdN 1 l0 = 2
    · exact decode_2 l0 w hl h2
    · by_cases h3 : rdN 1 l0 = 3
      · exact decode_3 l0 w hl h3
      · exact decode_0 l0 w hl (by omega)
end Go.Proofs.Ytddobjhahohhhaa
