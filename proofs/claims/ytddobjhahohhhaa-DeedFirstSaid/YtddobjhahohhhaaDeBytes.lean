/-
  The reference's Bytes.
-/
import Derived.Test.YtddobjhahohhhaaDeRef
import Derived.Deep.Upon
import Derived.Maps.AppendAt
import Derived.WalkKit
namespace Go.Proofs.Ytddobjhahohhhaa
open Go.RowKit Go.Sort
set_option linter.unusedVariables false
set_option linter.unusedSimpArgs false

abbrev OwnD (B : Nat) (w : World) (v : Value) (l : List UInt8) : Prop := w.ownsRow B 5 1 v l.length (Lib.byteCells l)
theorem infoByteDe : (Try.prog.info? 5).map (fun i => (i.zero, i.size, i.bytes)) = some (some (.int .u8 0), 1, 1) := by kernel_rfl
theorem addr_addD (g off j : Nat) : (⟨g, off, none⟩ : Addr).add j = ⟨g, off + j, none⟩ := by
  simp [Addr.add]
theorem OwnD.cell {B g n cap : Nat} {w : World} {xs : List UInt8} (h : OwnD B w (.slice (some ⟨g, 0, none⟩) n cap) xs) {j : Nat} (hj : j < xs.length) : w.cell? ⟨g, j, none⟩ = some (.int .u8 ((xs.getD j 0).toNat : Int)) := by
  rcases h.2 with ⟨hv, _⟩ | ⟨g', cap', cur, hv, hg, hb, h1, h2, h3, h4⟩
  · cases hv
  · injection hv with hv _ _
    injection hv with hv
    injection hv with hv _ _
    subst hv
    rw [Lib.cell_of_heap hb, ← Array.getElem?_toList]
    have := congrArg (·[j]?) h4
    simp only [Nat.mul_one, List.getElem?_take, if_pos hj] at this
    rw [this]
    simp [Lib.byteCells, List.getElem?_eq_getElem hj, List.getD_eq_getElem?_getD]
theorem OwnD.text {B g n cap : Nat} {w : World} {xs : List UInt8} (h : OwnD B w (.slice (some ⟨g, 0, none⟩) n cap) xs) (hn : xs.length = n) : (convert 60 9 (.slice (some ⟨g, 0, none⟩) n cap)).run Try.prog w = .ok (.string ⟨xs.toArray⟩) w := by
  subst hn
  refine run_convert_bytes_back (P := Try.prog) w 60 9 5 ⟨g, 0, none⟩ cap xs Try.underlying60 Try.underlying5 Try.underlying9 (fun j hj => ?_)
  rw [addr_addD, Nat.zero_add, h.cell hj]
  simp [List.getD_eq_getElem?_getD, List.getElem?_eq_getElem hj]
theorem OwnD.form {B : Nat} {w : World} {v : Value} {l : List UInt8} (h : OwnD B w v l) (hn : l ≠ []) : ∃ g cap, v = .slice (some ⟨g, 0, none⟩) l.length cap := by
  rcases h.2 with ⟨_, h0⟩ | ⟨g, cap, cur, hv, _⟩
  · exact absurd (List.eq_nil_of_length_eq_zero h0) hn
  · exact ⟨g, cap, hv⟩
/-- Within Bytes: the deed and what was appended. -/
structure ByW (w : World) (bO : Nat) (x : De) (l : List UInt8) (v : Value) (W : World) : Prop where
  d : W.heap[bO]? = some (.cells ⟨deC x⟩ 23 (0, 0))
  own : OwnD (bO + 1) W v l
  b : Below bO w W
  lt : bO + 1 ≤ W.heap.size
section
variable {w W W' : World} {bO : Nat} {x : De} {l : List UInt8} {v : Value}
theorem ByW.alloc (h : ByW w bO x l v W) (o : Obj) : ByW w bO x l v (W.alloc o) :=
  ⟨by rw [Lib.alloc_old _ _ _ (by have := h.lt; omega)]; exact h.d, World.ownsRow.alloc h.own o, h.b.alloc (by have := h.lt; omega) _, by have := h.lt; simp; omega⟩
theorem ByW.grow (h : ByW w bO x l v W) {v' : Value} {l' : List UInt8} (ho : OwnD (bO + 1) W' v' l') (hg : W.grownBy W' v.ownBlock) : ByW w bO x l' v' W' := by
  have hlt := h.lt
  refine ⟨?_, ho, h.b.grown hg (by omega) (fun k hk => by have := (h.own.lt k hk).1; omega), Nat.le_trans h.lt hg.size⟩
  rw [hg.block _ (by omega) (fun e => by have := (h.own.lt bO e.symm).1; omega)]
  exact h.d
end
theorem byW_new (w : World) (D : Obj) {x : De} (hD : D = .cells ⟨deC x⟩ 23) (cs : List Value) (l : List UInt8) (hl : cs = Lib.byteCells l) (h0 : l.length ≤ 1000) : ByW w w.heap.size x l (.slice (some ⟨w.heap.size + 1, 0, none⟩) l.length l.length) ((w.alloc D).alloc (.cells cs.toArray 5)) := by
  subst hD
  subst hl
  refine ⟨?_, ⟨by rw [Lib.byteCells_length, Nat.mul_one], Or.inr ⟨w.heap.size + 1, l.length, (Lib.byteCells l).toArray, rfl, Nat.le_refl _, alloc_two _ _ _, Nat.le_refl _, by unfold maxLen; omega, by rw [List.size_toArray, Lib.byteCells_length, Nat.mul_one], ?_⟩⟩, belowTwoD _ _ _, by simp⟩
  · rw [Lib.alloc_old _ _ _ (by simp)]
    exact heap_alloc_new _ _
  · exact List.take_of_length_le (by rw [Lib.byteCells_length]; omega)
theorem head_cells (k : Nat) (hk : k < 256) (d : Int) (s : ByteArray) (hd : 0 ≤ d ∧ d < 65536) (hs : s.size < 256) : ([.int .u8 (k : Int), .int .u8 (d / 256), .int .u8 (d % 256), .int .u8 (s.size : Int)] : List Value) = Lib.byteCells (beB k 1 ++ (beB d.toNat 2 ++ beB s.size 1)) := by
  simp [Lib.byteCells, beB]
  omega
theorem to_cells (d : Int) (s : ByteArray) (hd : 0 ≤ d ∧ d < 65536) (hs : s.size < 256) : ([.int .u8 (d / 256), .int .u8 (d % 256), .int .u8 (s.size : Int)] : List Value) = Lib.byteCells (beB d.toNat 2 ++ beB s.size 1) := by
  simp [Lib.byteCells, beB]
  omega
theorem sh_cells (d : Int) (hd : 0 ≤ d ∧ d ≤ 1000000) : ([.int .u8 0, .int .u8 (d / 65536), .int .u8 (d / 256 % 256), .int .u8 (d % 256)] : List Value) = Lib.byteCells (beB d.toNat 4) := by
  simp [Lib.byteCells, beB]
  omega
theorem flag_true : ([.int .u8 1] : List Value) = Lib.byteCells (beB (boolN true) 1) := by simp [Lib.byteCells, beB, boolN]
theorem flag_false : ([.int .u8 0] : List Value) = Lib.byteCells (beB (boolN false) 1) := by simp [Lib.byteCells, beB, boolN]
theorem byteCells_app (a b : List UInt8) : Lib.byteCells (a ++ b) = Lib.byteCells a ++ Lib.byteCells b := by simp [Lib.byteCells]
theorem strCells_is (s : ByteArray) : Lib.strCells s = Lib.byteCells s.data.toList := rfl
theorem cells_at (W : World) (cs : List Value) (T : TypeId) (j : Nat) (u : Value) (h : cs[j]? = some u) : (W.alloc (.cells cs.toArray T)).cell? ((⟨W.heap.size, 0, none⟩ : Addr).add j) = some u := by
  rw [addr_addD, Nat.zero_add, Lib.cell_of_heap (heap_alloc_new _ _)]
  rw [List.getElem?_toArray]
  exact h
set_option maxHeartbeats 8000000 in
set_option maxRecDepth 100000 in
theorem refBytes_c (x : De) (w : World) (h : May x) : Calls Try.prog 12 #[deV x] w fun e w' => e = .returned (.string ⟨(bytesL x).toArray⟩) ∧ Below w.heap.size w w' := by
  obtain ⟨i0, hi, hz0, hz1, hz2⟩ := info_parts infoByteDe
  obtain ⟨L, hL⟩ : ∃ L, bytesL x = L := ⟨_, rfl⟩
  rw [hL]
  unfold bytesL dirB toB shB at hL
  have HM := Lib.hid h
  clear h
  obtain ⟨k, d, dt, s, ns, isD, sh⟩ := x
  obtain ⟨m1, m2, m3, m4, m5, m6, m7, m8, m9⟩ := HM.out
  unfold deV at *
  simp only at m1 m2 m3 m4 m5 m6 m7 m8 m9 hL ⊢
  have HL := Lib.hid hL
  clear hL m2 m3 m4
  rcases m1 with rfl | rfl | rfl
  · simp only [show ¬ (1 : Int) = 3 by decide, show ¬ (1 : Int) = 2 by decide, reduceIte, List.nil_append, List.append_nil] at HL
    go_enter Try.func12, Try.ntmps12
    go_upto_region 2 with fail
    have HY := Lib.hid (byW_new w (.cells #[.int .i64 1, .int .i64 d, .int .i64 dt, .string s, .string ns, .bool isD, .int .i64 sh] 23) (x := ⟨1, d, dt, s, ns, isD, sh⟩) rfl [.int .u8 1, .int .u8 (d / 256), .int .u8 (d % 256), .int .u8 (s.size : Int)] _ (head_cells 1 (by decide) d s m5 m7) (by simp [beB_len]))
    obtain ⟨l, hl⟩ : ∃ l, beB 1 1 ++ (beB d.toNat 2 ++ beB s.size 1) = l := ⟨_, rfl⟩
    have HLEN : Hid (l.length = 4) := Lib.hid (by rw [← hl]; simp [beB_len])
    have HLE := Lib.hid hl
    rw [hl, HLEN.out] at HY
    clear hl
    generalize hW : ((w.alloc (.cells #[.int .i64 1, .int .i64 d, .int .i64 dt, .string s, .string ns, .bool isD, .int .i64 sh] 23)).alloc (.cells [.int .u8 1, .int .u8 (d / 256), .int .u8 (d % 256), .int .u8 (s.size : Int)].toArray 5)) = W at *
    obtain ⟨p0, p1, p2, p3, p4, p5, p6⟩ := de_cells HY.out.d
    clear hW
    generalize hv : (Value.slice (some ⟨w.heap.size + 1, 0, none⟩) 4 4) = v at *
    clear hv
    generalize hbO : w.heap.size = bO at *
    go_upto_region 3 with (at_builtin; refine Lib.wpList_append_own_string _ rfl _ _ 60 9 rfl (bO + 1) 5 i0 Try.underlying60 Try.underlying9 hi hz0 hz1 hz2 _ _ _ rfl HY.out.own s rfl (by unfold maxLen; have := HLEN.out; omega) (by have := HLEN.out; omega) HY.out.lt ?_; intro v1 W1 ho8 hg8 hr8; have HY8 := Lib.hid (HY.out.grow (W' := W1) (v' := v1) (l' := l ++ s.data.toList) (by unfold OwnD; rw [byteCells_app, List.length_append, Array.length_toList]; exact ho8) hg8); clear ho8 hg8 hr8)
    obtain ⟨l1, hl1⟩ : ∃ r, l ++ (s.data.toList) = r := ⟨_, rfl⟩
    rw [hl1] at HY8
    have HLE1 := Lib.hid hl1
    have HLEN8 : Hid (l1.length ≤ 259) := Lib.hid (by rw [← hl1]; have := HLEN.out; simp only [List.length_append, Array.length_toList, beB_len]; first | omega | (show _ + s.size ≤ _; omega) | (show _ + ns.size ≤ _; omega))
    clear hl1 HY HLEN
    have HY := HY8
    have HLEN := HLEN8
    clear HY8 HLEN8
    obtain ⟨p0, p1, p2, p3, p4, p5, p6⟩ := de_cells HY.out.d
    cases isD with
    | true =>
      go_upto_region 9 with (at_builtin; refine wpList_append_own _ rfl _ _ 60 rfl (bO + 1) 5 i0 (.int .u8 0) 1 1 Try.underlying60 hi hz0 hz1 hz2 rfl (by decide) _ _ _ rfl (HY.out.alloc (.cells [.int .u8 1].toArray 5)).own ⟨W1.heap.size, 0, none⟩ 1 1 [.int .u8 1] rfl rfl (fun j u hj => cells_at W1 _ _ j u hj) (by intro u hu; simp at hu; subst hu; rfl) (by unfold maxLen; have := HLEN.out; omega) (by have := HLEN.out; omega) (by have := HY.out.lt; simp; omega) ?_; intro v2 W2 ho8 hg8 hr8; have HY8 := Lib.hid ((HY.out.alloc (.cells [.int .u8 1].toArray 5)).grow (W' := W2) (v' := v2) (l' := l1 ++ (beB (boolN true) 1)) (by unfold OwnD; rw [byteCells_app, List.length_append, ← flag_true]; exact ho8) hg8); clear ho8 hg8 hr8)
      obtain ⟨l2, hl2⟩ : ∃ r, l1 ++ (beB (boolN true) 1) = r := ⟨_, rfl⟩
      rw [hl2] at HY8
      have HLE2 := Lib.hid hl2
      have HLEN8 : Hid (l2.length ≤ 260) := Lib.hid (by rw [← hl2]; have := HLEN.out; simp only [List.length_append, Array.length_toList, beB_len]; first | omega | (show _ + s.size ≤ _; omega) | (show _ + ns.size ≤ _; omega))
      clear hl2 HY HLEN
      have HY := HY8
      have HLEN := HLEN8
      clear HY8 HLEN8
      obtain ⟨p0, p1, p2, p3, p4, p5, p6⟩ := de_cells HY.out.d
      go_upto_region 11 with (at_builtin; refine wpList_append_own _ rfl _ _ 60 rfl (bO + 1) 5 i0 (.int .u8 0) 1 1 Try.underlying60 hi hz0 hz1 hz2 rfl (by decide) _ _ _ rfl (HY.out.alloc (.cells [.int .u8 0, .int .u8 (sh / 65536), .int .u8 (sh / 256 % 256), .int .u8 (sh % 256)].toArray 5)).own ⟨W2.heap.size, 0, none⟩ 4 4 [.int .u8 0, .int .u8 (sh / 65536), .int .u8 (sh / 256 % 256), .int .u8 (sh % 256)] rfl rfl (fun j u hj => cells_at W2 _ _ j u hj) (by intro u hu; simp at hu; rcases hu with rfl | rfl | rfl | rfl <;> rfl) (by unfold maxLen; have := HLEN.out; omega) (by have := HLEN.out; omega) (by have := HY.out.lt; simp; omega) ?_; intro v3 W3 ho8 hg8 hr8; have HY8 := Lib.hid ((HY.out.alloc (.cells [.int .u8 0, .int .u8 (sh / 65536), .int .u8 (sh / 256 % 256), .int .u8 (sh % 256)].toArray 5)).grow (W' := W3) (v' := v3) (l' := l2 ++ (beB sh.toNat 4)) (by unfold OwnD; rw [byteCells_app, List.length_append, ← sh_cells sh m9]; exact ho8) hg8); clear ho8 hg8 hr8)
      obtain ⟨l3, hl3⟩ : ∃ r, l2 ++ (beB sh.toNat 4) = r := ⟨_, rfl⟩
      rw [hl3] at HY8
      have HLE3 := Lib.hid hl3
      have HLEN8 : Hid (l3.length ≤ 264) := Lib.hid (by rw [← hl3]; have := HLEN.out; simp only [List.length_append, Array.length_toList, beB_len]; first | omega | (show _ + s.size ≤ _; omega) | (show _ + ns.size ≤ _; omega))
      clear hl3 HY HLEN
      have HY := HY8
      have HLEN := HLEN8
      clear HY8 HLEN8
      obtain ⟨p0, p1, p2, p3, p4, p5, p6⟩ := de_cells HY.out.d
      go_upto_region 11 with fail
      obtain ⟨g9, cap9, rfl⟩ := HY.out.own.form (by intro e; have h9 := HLE3.out; rw [e] at h9; simp [beB] at h9)
      have hcv := OwnD.text HY.out.own rfl
      generalize l3.length = m9 at *
      go_wp2
      go_ret
      refine ⟨?_, by first | exact HY.out.b | (rw [hbO]; exact HY.out.b)⟩
      rw [← HL.out]
      have h0 := HLE.out
      have h1 := HLE1.out
      have h2 := HLE2.out
      have h3 := HLE3.out
      subst h0 h1 h2 h3
      simp only [nameB, List.append_assoc]
      rfl
    | false =>
      go_upto_region 9 with (at_builtin; refine wpList_append_own _ rfl _ _ 60 rfl (bO + 1) 5 i0 (.int .u8 0) 1 1 Try.underlying60 hi hz0 hz1 hz2 rfl (by decide) _ _ _ rfl (HY.out.alloc (.cells [.int .u8 0].toArray 5)).own ⟨W1.heap.size, 0, none⟩ 1 1 [.int .u8 0] rfl rfl (fun j u hj => cells_at W1 _ _ j u hj) (by intro u hu; simp at hu; subst hu; rfl) (by unfold maxLen; have := HLEN.out; omega) (by have := HLEN.out; omega) (by have := HY.out.lt; simp; omega) ?_; intro v2 W2 ho8 hg8 hr8; have HY8 := Lib.hid ((HY.out.alloc (.cells [.int .u8 0].toArray 5)).grow (W' := W2) (v' := v2) (l' := l1 ++ (beB (boolN false) 1)) (by unfold OwnD; rw [byteCells_app, List.length_append, ← flag_false]; exact ho8) hg8); clear ho8 hg8 hr8)
      obtain ⟨l2, hl2⟩ : ∃ r, l1 ++ (beB (boolN false) 1) = r := ⟨_, rfl⟩
      rw [hl2] at HY8
      have HLE2 := Lib.hid hl2
      have HLEN8 : Hid (l2.length ≤ 260) := Lib.hid (by rw [← hl2]; have := HLEN.out; simp only [List.length_append, Array.length_toList, beB_len]; first | omega | (show _ + s.size ≤ _; omega) | (show _ + ns.size ≤ _; omega))
      clear hl2 HY HLEN
      have HY := HY8
      have HLEN := HLEN8
      clear HY8 HLEN8
      obtain ⟨p0, p1, p2, p3, p4, p5, p6⟩ := de_cells HY.out.d
      go_upto_region 11 with (at_builtin; refine wpList_append_own _ rfl _ _ 60 rfl (bO + 1) 5 i0 (.int .u8 0) 1 1 Try.underlying60 hi hz0 hz1 hz2 rfl (by decide) _ _ _ rfl (HY.out.alloc (.cells [.int .u8 0, .int .u8 (sh / 65536), .int .u8 (sh / 256 % 256), .int .u8 (sh % 256)].toArray 5)).own ⟨W2.heap.size, 0, none⟩ 4 4 [.int .u8 0, .int .u8 (sh / 65536), .int .u8 (sh / 256 % 256), .int .u8 (sh % 256)] rfl rfl (fun j u hj => cells_at W2 _ _ j u hj) (by intro u hu; simp at hu; rcases hu with rfl | rfl | rfl | rfl <;> rfl) (by unfold maxLen; have := HLEN.out; omega) (by have := HLEN.out; omega) (by have := HY.out.lt; simp; omega) ?_; intro v3 W3 ho8 hg8 hr8; have HY8 := Lib.hid ((HY.out.alloc (.cells [.int .u8 0, .int .u8 (sh / 65536), .int .u8 (sh / 256 % 256), .int .u8 (sh % 256)].toArray 5)).grow (W' := W3) (v' := v3) (l' := l2 ++ (beB sh.toNat 4)) (by unfold OwnD; rw [byteCells_app, List.length_append, ← sh_cells sh m9]; exact ho8) hg8); clear ho8 hg8 hr8)
      obtain ⟨l3, hl3⟩ : ∃ r, l2 ++ (beB sh.toNat 4) = r := ⟨_, rfl⟩
      rw [hl3] at HY8
      have HLE3 := Lib.hid hl3
      have HLEN8 : Hid (l3.length ≤ 264) := Lib.hid (by rw [← hl3]; have := HLEN.out; simp only [List.length_append, Array.length_toList, beB_len]; first | omega | (show _ + s.size ≤ _; omega) | (show _ + ns.size ≤ _; omega))
      clear hl3 HY HLEN
      have HY := HY8
      have HLEN := HLEN8
      clear HY8 HLEN8
      obtain ⟨p0, p1, p2, p3, p4, p5, p6⟩ := de_cells HY.out.d
      go_upto_region 11 with fail
      obtain ⟨g9, cap9, rfl⟩ := HY.out.own.form (by intro e; have h9 := HLE3.out; rw [e] at h9; simp [beB] at h9)
      have hcv := OwnD.text HY.out.own rfl
      generalize l3.length = m9 at *
      go_wp2
      go_ret
      refine ⟨?_, by first | exact HY.out.b | (rw [hbO]; exact HY.out.b)⟩
      rw [← HL.out]
      have h0 := HLE.out
      have h1 := HLE1.out
      have h2 := HLE2.out
      have h3 := HLE3.out
      subst h0 h1 h2 h3
      simp only [nameB, List.append_assoc]
      rfl
  · simp only [show ¬ (2 : Int) = 3 by decide, reduceIte, List.nil_append, List.append_nil] at HL
    go_enter Try.func12, Try.ntmps12
    go_upto_region 2 with fail
    have HY := Lib.hid (byW_new w (.cells #[.int .i64 2, .int .i64 d, .int .i64 dt, .string s, .string ns, .bool isD, .int .i64 sh] 23) (x := ⟨2, d, dt, s, ns, isD, sh⟩) rfl [.int .u8 2, .int .u8 (d / 256), .int .u8 (d % 256), .int .u8 (s.size : Int)] _ (head_cells 2 (by decide) d s m5 m7) (by simp [beB_len]))
    obtain ⟨l, hl⟩ : ∃ l, beB 2 1 ++ (beB d.toNat 2 ++ beB s.size 1) = l := ⟨_, rfl⟩
    have HLEN : Hid (l.length = 4) := Lib.hid (by rw [← hl]; simp [beB_len])
    have HLE := Lib.hid hl
    rw [hl, HLEN.out] at HY
    clear hl
    generalize hW : ((w.alloc (.cells #[.int .i64 2, .int .i64 d, .int .i64 dt, .string s, .string ns, .bool isD, .int .i64 sh] 23)).alloc (.cells [.int .u8 2, .int .u8 (d / 256), .int .u8 (d % 256), .int .u8 (s.size : Int)].toArray 5)) = W at *
    obtain ⟨p0, p1, p2, p3, p4, p5, p6⟩ := de_cells HY.out.d
    clear hW
    generalize hv : (Value.slice (some ⟨w.heap.size + 1, 0, none⟩) 4 4) = v at *
    clear hv
    generalize hbO : w.heap.size = bO at *
    go_upto_region 3 with (at_builtin; refine Lib.wpList_append_own_string _ rfl _ _ 60 9 rfl (bO + 1) 5 i0 Try.underlying60 Try.underlying9 hi hz0 hz1 hz2 _ _ _ rfl HY.out.own s rfl (by unfold maxLen; have := HLEN.out; omega) (by have := HLEN.out; omega) HY.out.lt ?_; intro v1 W1 ho8 hg8 hr8; have HY8 := Lib.hid (HY.out.grow (W' := W1) (v' := v1) (l' := l ++ s.data.toList) (by unfold OwnD; rw [byteCells_app, List.length_append, Array.length_toList]; exact ho8) hg8); clear ho8 hg8 hr8)
    obtain ⟨l1, hl1⟩ : ∃ r, l ++ (s.data.toList) = r := ⟨_, rfl⟩
    rw [hl1] at HY8
    have HLE1 := Lib.hid hl1
    have HLEN8 : Hid (l1.length ≤ 259) := Lib.hid (by rw [← hl1]; have := HLEN.out; simp only [List.length_append, Array.length_toList, beB_len]; first | omega | (show _ + s.size ≤ _; omega) | (show _ + ns.size ≤ _; omega))
    clear hl1 HY HLEN
    have HY := HY8
    have HLEN := HLEN8
    clear HY8 HLEN8
    obtain ⟨p0, p1, p2, p3, p4, p5, p6⟩ := de_cells HY.out.d
    cases isD with
    | true =>
      go_upto_region 9 with (at_builtin; refine wpList_append_own _ rfl _ _ 60 rfl (bO + 1) 5 i0 (.int .u8 0) 1 1 Try.underlying60 hi hz0 hz1 hz2 rfl (by decide) _ _ _ rfl (HY.out.alloc (.cells [.int .u8 1].toArray 5)).own ⟨W1.heap.size, 0, none⟩ 1 1 [.int .u8 1] rfl rfl (fun j u hj => cells_at W1 _ _ j u hj) (by intro u hu; simp at hu; subst hu; rfl) (by unfold maxLen; have := HLEN.out; omega) (by have := HLEN.out; omega) (by have := HY.out.lt; simp; omega) ?_; intro v2 W2 ho8 hg8 hr8; have HY8 := Lib.hid ((HY.out.alloc (.cells [.int .u8 1].toArray 5)).grow (W' := W2) (v' := v2) (l' := l1 ++ (beB (boolN true) 1)) (by unfold OwnD; rw [byteCells_app, List.length_append, ← flag_true]; exact ho8) hg8); clear ho8 hg8 hr8)
      obtain ⟨l2, hl2⟩ : ∃ r, l1 ++ (beB (boolN true) 1) = r := ⟨_, rfl⟩
      rw [hl2] at HY8
      have HLE2 := Lib.hid hl2
      have HLEN8 : Hid (l2.length ≤ 260) := Lib.hid (by rw [← hl2]; have := HLEN.out; simp only [List.length_append, Array.length_toList, beB_len]; first | omega | (show _ + s.size ≤ _; omega) | (show _ + ns.size ≤ _; omega))
      clear hl2 HY HLEN
      have HY := HY8
      have HLEN := HLEN8
      clear HY8 HLEN8
      obtain ⟨p0, p1, p2, p3, p4, p5, p6⟩ := de_cells HY.out.d
      go_upto_region 11 with fail
      obtain ⟨g9, cap9, rfl⟩ := HY.out.own.form (by intro e; have h9 := HLE2.out; rw [e] at h9; simp [beB] at h9)
      have hcv := OwnD.text HY.out.own rfl
      generalize l2.length = m9 at *
      go_wp2
      go_ret
      refine ⟨?_, by first | exact HY.out.b | (rw [hbO]; exact HY.out.b)⟩
      rw [← HL.out]
      have h0 := HLE.out
      have h1 := HLE1.out
      have h2 := HLE2.out
      subst h0 h1 h2
      simp only [nameB, List.append_assoc]
      rfl
    | false =>
      go_upto_region 9 with (at_builtin; refine wpList_append_own _ rfl _ _ 60 rfl (bO + 1) 5 i0 (.int .u8 0) 1 1 Try.underlying60 hi hz0 hz1 hz2 rfl (by decide) _ _ _ rfl (HY.out.alloc (.cells [.int .u8 0].toArray 5)).own ⟨W1.heap.size, 0, none⟩ 1 1 [.int .u8 0] rfl rfl (fun j u hj => cells_at W1 _ _ j u hj) (by intro u hu; simp at hu; subst hu; rfl) (by unfold maxLen; have := HLEN.out; omega) (by have := HLEN.out; omega) (by have := HY.out.lt; simp; omega) ?_; intro v2 W2 ho8 hg8 hr8; have HY8 := Lib.hid ((HY.out.alloc (.cells [.int .u8 0].toArray 5)).grow (W' := W2) (v' := v2) (l' := l1 ++ (beB (boolN false) 1)) (by unfold OwnD; rw [byteCells_app, List.length_append, ← flag_false]; exact ho8) hg8); clear ho8 hg8 hr8)
      obtain ⟨l2, hl2⟩ : ∃ r, l1 ++ (beB (boolN false) 1) = r := ⟨_, rfl⟩
      rw [hl2] at HY8
      have HLE2 := Lib.hid hl2
      have HLEN8 : Hid (l2.length ≤ 260) := Lib.hid (by rw [← hl2]; have := HLEN.out; simp only [List.length_append, Array.length_toList, beB_len]; first | omega | (show _ + s.size ≤ _; omega) | (show _ + ns.size ≤ _; omega))
      clear hl2 HY HLEN
      have HY := HY8
      have HLEN := HLEN8
      clear HY8 HLEN8
      obtain ⟨p0, p1, p2, p3, p4, p5, p6⟩ := de_cells HY.out.d
      go_upto_region 11 with fail
      obtain ⟨g9, cap9, rfl⟩ := HY.out.own.form (by intro e; have h9 := HLE2.out; rw [e] at h9; simp [beB] at h9)
      have hcv := OwnD.text HY.out.own rfl
      generalize l2.length = m9 at *
      go_wp2
      go_ret
      refine ⟨?_, by first | exact HY.out.b | (rw [hbO]; exact HY.out.b)⟩
      rw [← HL.out]
      have h0 := HLE.out
      have h1 := HLE1.out
      have h2 := HLE2.out
      subst h0 h1 h2
      simp only [nameB, List.append_assoc]
      rfl
  · simp only [show ¬ (3 : Int) = 2 by decide, reduceIte, List.nil_append, List.append_nil] at HL
    go_enter Try.func12, Try.ntmps12
    go_upto_region 2 with fail
    have HY := Lib.hid (byW_new w (.cells #[.int .i64 3, .int .i64 d, .int .i64 dt, .string s, .string ns, .bool isD, .int .i64 sh] 23) (x := ⟨3, d, dt, s, ns, isD, sh⟩) rfl [.int .u8 3, .int .u8 (d / 256), .int .u8 (d % 256), .int .u8 (s.size : Int)] _ (head_cells 3 (by decide) d s m5 m7) (by simp [beB_len]))
    obtain ⟨l, hl⟩ : ∃ l, beB 3 1 ++ (beB d.toNat 2 ++ beB s.size 1) = l := ⟨_, rfl⟩
    have HLEN : Hid (l.length = 4) := Lib.hid (by rw [← hl]; simp [beB_len])
    have HLE := Lib.hid hl
    rw [hl, HLEN.out] at HY
    clear hl
    generalize hW : ((w.alloc (.cells #[.int .i64 3, .int .i64 d, .int .i64 dt, .string s, .string ns, .bool isD, .int .i64 sh] 23)).alloc (.cells [.int .u8 3, .int .u8 (d / 256), .int .u8 (d % 256), .int .u8 (s.size : Int)].toArray 5)) = W at *
    obtain ⟨p0, p1, p2, p3, p4, p5, p6⟩ := de_cells HY.out.d
    clear hW
    generalize hv : (Value.slice (some ⟨w.heap.size + 1, 0, none⟩) 4 4) = v at *
    clear hv
    generalize hbO : w.heap.size = bO at *
    go_upto_region 3 with (at_builtin; refine Lib.wpList_append_own_string _ rfl _ _ 60 9 rfl (bO + 1) 5 i0 Try.underlying60 Try.underlying9 hi hz0 hz1 hz2 _ _ _ rfl HY.out.own s rfl (by unfold maxLen; have := HLEN.out; omega) (by have := HLEN.out; omega) HY.out.lt ?_; intro v1 W1 ho8 hg8 hr8; have HY8 := Lib.hid (HY.out.grow (W' := W1) (v' := v1) (l' := l ++ s.data.toList) (by unfold OwnD; rw [byteCells_app, List.length_append, Array.length_toList]; exact ho8) hg8); clear ho8 hg8 hr8)
    obtain ⟨l1, hl1⟩ : ∃ r, l ++ (s.data.toList) = r := ⟨_, rfl⟩
    rw [hl1] at HY8
    have HLE1 := Lib.hid hl1
    have HLEN8 : Hid (l1.length ≤ 259) := Lib.hid (by rw [← hl1]; have := HLEN.out; simp only [List.length_append, Array.length_toList, beB_len]; first | omega | (show _ + s.size ≤ _; omega) | (show _ + ns.size ≤ _; omega))
    clear hl1 HY HLEN
    have HY := HY8
    have HLEN := HLEN8
    clear HY8 HLEN8
    obtain ⟨p0, p1, p2, p3, p4, p5, p6⟩ := de_cells HY.out.d
    go_upto_region 5 with (at_builtin; refine wpList_append_own _ rfl _ _ 60 rfl (bO + 1) 5 i0 (.int .u8 0) 1 1 Try.underlying60 hi hz0 hz1 hz2 rfl (by decide) _ _ _ rfl (HY.out.alloc (.cells [.int .u8 (dt / 256), .int .u8 (dt % 256), .int .u8 (ns.size : Int)].toArray 5)).own ⟨W1.heap.size, 0, none⟩ 3 3 [.int .u8 (dt / 256), .int .u8 (dt % 256), .int .u8 (ns.size : Int)] rfl rfl (fun j u hj => cells_at W1 _ _ j u hj) (by intro u hu; simp at hu; rcases hu with rfl | rfl | rfl <;> rfl) (by unfold maxLen; have := HLEN.out; omega) (by have := HLEN.out; omega) (by have := HY.out.lt; simp; omega) ?_; intro v2 W2 ho8 hg8 hr8; have HY8 := Lib.hid ((HY.out.alloc (.cells [.int .u8 (dt / 256), .int .u8 (dt % 256), .int .u8 (ns.size : Int)].toArray 5)).grow (W' := W2) (v' := v2) (l' := l1 ++ (beB dt.toNat 2 ++ beB ns.size 1)) (by unfold OwnD; rw [byteCells_app, List.length_append, ← to_cells dt ns m6 m8]; exact ho8) hg8); clear ho8 hg8 hr8)
    obtain ⟨l2, hl2⟩ : ∃ r, l1 ++ (beB dt.toNat 2 ++ beB ns.size 1) = r := ⟨_, rfl⟩
    rw [hl2] at HY8
    have HLE2 := Lib.hid hl2
    have HLEN8 : Hid (l2.length ≤ 262) := Lib.hid (by rw [← hl2]; have := HLEN.out; simp only [List.length_append, Array.length_toList, beB_len]; first | omega | (show _ + s.size ≤ _; omega) | (show _ + ns.size ≤ _; omega))
    clear hl2 HY HLEN
    have HY := HY8
    have HLEN := HLEN8
    clear HY8 HLEN8
    obtain ⟨p0, p1, p2, p3, p4, p5, p6⟩ := de_cells HY.out.d
    go_upto_region 9 with (at_builtin; refine Lib.wpList_append_own_string _ rfl _ _ 60 9 rfl (bO + 1) 5 i0 Try.underlying60 Try.underlying9 hi hz0 hz1 hz2 _ _ _ rfl HY.out.own ns rfl (by unfold maxLen; have := HLEN.out; omega) (by have := HLEN.out; omega) HY.out.lt ?_; intro v3 W3 ho8 hg8 hr8; have HY8 := Lib.hid (HY.out.grow (W' := W3) (v' := v3) (l' := l2 ++ ns.data.toList) (by unfold OwnD; rw [byteCells_app, List.length_append, Array.length_toList]; exact ho8) hg8); clear ho8 hg8 hr8)
    obtain ⟨l3, hl3⟩ : ∃ r, l2 ++ (ns.data.toList) = r := ⟨_, rfl⟩
    rw [hl3] at HY8
    have HLE3 := Lib.hid hl3
    have HLEN8 : Hid (l3.length ≤ 517) := Lib.hid (by rw [← hl3]; have := HLEN.out; simp only [List.length_append, Array.length_toList, beB_len]; first | omega | (show _ + s.size ≤ _; omega) | (show _ + ns.size ≤ _; omega))
    clear hl3 HY HLEN
    have HY := HY8
    have HLEN := HLEN8
    clear HY8 HLEN8
    obtain ⟨p0, p1, p2, p3, p4, p5, p6⟩ := de_cells HY.out.d
    go_upto_region 11 with (at_builtin; refine wpList_append_own _ rfl _ _ 60 rfl (bO + 1) 5 i0 (.int .u8 0) 1 1 Try.underlying60 hi hz0 hz1 hz2 rfl (by decide) _ _ _ rfl (HY.out.alloc (.cells [.int .u8 0, .int .u8 (sh / 65536), .int .u8 (sh / 256 % 256), .int .u8 (sh % 256)].toArray 5)).own ⟨W3.heap.size, 0, none⟩ 4 4 [.int .u8 0, .int .u8 (sh / 65536), .int .u8 (sh / 256 % 256), .int .u8 (sh % 256)] rfl rfl (fun j u hj => cells_at W3 _ _ j u hj) (by intro u hu; simp at hu; rcases hu with rfl | rfl | rfl | rfl <;> rfl) (by unfold maxLen; have := HLEN.out; omega) (by have := HLEN.out; omega) (by have := HY.out.lt; simp; omega) ?_; intro v4 W4 ho8 hg8 hr8; have HY8 := Lib.hid ((HY.out.alloc (.cells [.int .u8 0, .int .u8 (sh / 65536), .int .u8 (sh / 256 % 256), .int .u8 (sh % 256)].toArray 5)).grow (W' := W4) (v' := v4) (l' := l3 ++ (beB sh.toNat 4)) (by unfold OwnD; rw [byteCells_app, List.length_append, ← sh_cells sh m9]; exact ho8) hg8); clear ho8 hg8 hr8)
    obtain ⟨l4, hl4⟩ : ∃ r, l3 ++ (beB sh.toNat 4) = r := ⟨_, rfl⟩
    rw [hl4] at HY8
    have HLE4 := Lib.hid hl4
    have HLEN8 : Hid (l4.length ≤ 521) := Lib.hid (by rw [← hl4]; have := HLEN.out; simp only [List.length_append, Array.length_toList, beB_len]; first | omega | (show _ + s.size ≤ _; omega) | (show _ + ns.size ≤ _; omega))
    clear hl4 HY HLEN
    have HY := HY8
    have HLEN := HLEN8
    clear HY8 HLEN8
    obtain ⟨p0, p1, p2, p3, p4, p5, p6⟩ := de_cells HY.out.d
    go_upto_region 11 with fail
    obtain ⟨g9, cap9, rfl⟩ := HY.out.own.form (by intro e; have h9 := HLE4.out; rw [e] at h9; simp [beB] at h9)
    have hcv := OwnD.text HY.out.own rfl
    generalize l4.length = m9 at *
    go_wp2
    go_ret
    refine ⟨?_, by first | exact HY.out.b | (rw [hbO]; exact HY.out.b)⟩
    rw [← HL.out]
    have h0 := HLE.out
    have h1 := HLE1.out
    have h2 := HLE2.out
    have h3 := HLE3.out
    have h4 := HLE4.out
    subst h0 h1 h2 h3 h4
    simp only [nameB, List.append_assoc]
    rfl
end Go.Proofs.Ytddobjhahohhhaa
