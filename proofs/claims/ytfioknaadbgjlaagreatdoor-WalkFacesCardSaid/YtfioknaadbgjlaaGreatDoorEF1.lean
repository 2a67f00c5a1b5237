/- Kit. -/
import Derived.Test.YtfioknaadbgjlaaGreatDoorEQ1
import Derived.Laws.StructEq
import Derived.Lib.QuietBelow
import Derived.Test.YtfioknaadbgjlaaGreatDoorEL3
import Derived.Test.YtfioknaadbgjlaaGreatDoorEL4
import Derived.Lib.SlicesCompact
import Derived.Test.YtfioknaadbgjlaaGreatDoorEL2
set_option maxRecDepth 100000
set_option linter.unusedVariables false
set_option linter.unusedSimpArgs false
namespace Go.Proofs.YtfioknaadbgjlaaGreatDoor.F
open Go.RowKit Go.Sort
/-- A contract for all later worlds, in a region that only reads. -/
theorem regr {f : FuncId} {args : Array Value} {W : World} {v : Value} (h : ∀ w1, Below W.heap.size W w1 → Calls Tryz.prog f args w1 fun e w' => e = .returned v ∧ Below w1.heap.size w1 w') (d : Nat) (os : Array Obj) :
    Calls Tryz.prog f args (Go.Sort.grow (redrawn W d) os) fun e w'' => e = .returned v ∧ ∃ p : Regrown, w'' = Go.Sort.grow (redrawn W p.d) p.os := Calls.regrown_of (h _ (below_regrown W d os))
theorem entsBlock (e : Ent) (w : World) : (w.alloc (.cells #[.string e.name, .int .i64 e.node, .bool e.dir, .int .i64 e.cookie, .int .i64 e.short] 47)).heap[w.heap.size]? = some (.cells #[.string e.name, .int .i64 e.node, .bool e.dir, .int .i64 e.cookie, .int .i64 e.short] 47 (0, 0)) := heap_alloc_new _ _
/-- An entry in a block: its cells, in all later worlds of a region. -/
structure EntAt (e : Ent) (b : Nat) (w : World) : Prop where
  c0 : ∀ d os, (Go.Sort.grow (redrawn w d) os).cell? ⟨b, 0, none⟩ = some (.string e.name)
  c1 : ∀ d os, (Go.Sort.grow (redrawn w d) os).cell? ⟨b, 1, none⟩ = some (.int .i64 e.node)
  c2 : ∀ d os, (Go.Sort.grow (redrawn w d) os).cell? ⟨b, 2, none⟩ = some (.bool e.dir)
  c3 : ∀ d os, (Go.Sort.grow (redrawn w d) os).cell? ⟨b, 3, none⟩ = some (.int .i64 e.cookie)
  c4 : ∀ d os, (Go.Sort.grow (redrawn w d) os).cell? ⟨b, 4, none⟩ = some (.int .i64 e.short)
theorem EntAt.of {e : Ent} {b : Nat} {w : World} (h : w.heap[b]? = some (.cells #[.string e.name, .int .i64 e.node, .bool e.dir, .int .i64 e.cookie, .int .i64 e.short] 47 (0, 0))) : EntAt e b w := by
  obtain ⟨⟨q0, q1, q2, q3, q4⟩, _⟩ := five_cells h
  exact ⟨cell_regrown q0, cell_regrown q1, cell_regrown q2, cell_regrown q3, cell_regrown q4⟩
theorem text_is (F s : ByteArray) (t : Bool) (h : decide (F.data.toList = s.data.toList) = t) : (F.toList == s.toList) = t := by
  rw [← h, ByteArray.toList_eq, ByteArray.toList_eq]
  by_cases e : F.data.toList = s.data.toList
  · rw [e]; simp
  · rw [decide_eq_false e]; exact beq_eq_false_iff_ne.2 e
end Go.Proofs.YtfioknaadbgjlaaGreatDoor.F
namespace Go.Proofs.YtfioknaadbgjlaaGreatDoor.F
open Go.RowKit Go.Sort
def faceL (enc : Int) (e : Ent) : List UInt8 := if e.short = 0 then presL enc e.name.data.toList else nameL (fnvL e.name.data.toList) e.short
def fitB (enc : Int) (e : Ent) : Bool := decide (¬ e.short = 0) == longB enc e.name.data.toList
def faced (enc : Int) (l : List Ent) (s : List UInt8) : Option Ent := l.find? fun e => decide (faceL enc e = s)
def cleanB (enc : Int) (l : List Ent) : Bool := l.all (fitB enc) && decide ((l.map (faceL enc)).Nodup)
/-- An entry that a statement looks at. -/
def EntOk (e : Ent) : Prop := e.name.size ≤ 300 ∧ -9223372036854775808 ≤ e.short ∧ e.short ≤ 9223372036854775807
theorem faced_hit {enc : Int} {l t : List Ent} {x : Ent} {s : List UInt8} (h : faced enc l s = none) (hx : faceL enc x = s) : faced enc (l ++ x :: t) s = some x := by
  unfold faced at *
  rw [List.find?_append, h, Option.none_or, List.find?_cons, decide_eq_true hx]
theorem leL_trans : ∀ a b c : List UInt8, decide (a ≤ b) = true → decide (b ≤ c) = true → decide (a ≤ c) = true := fun a b c h1 h2 => decide_eq_true (List.le_trans (of_decide_eq_true h1) (of_decide_eq_true h2))
theorem leL_total : ∀ a b : List UInt8, (decide (a ≤ b) || decide (b ≤ a)) = true := fun a b => by
  rcases List.le_total a b with h | h <;> simp [h]
theorem keeps_strict {s : List (List UInt8)} (hs : s.Pairwise fun a b => decide (a ≤ b) = true) : (∀ j, j < s.length → Lib.keeps s.toArray j = true) ↔ s.Nodup := by
  have getD : ∀ j (hj : j < s.length), s.toArray[j]! = s[j] := fun j hj => by simp [hj]
  constructor
  · intro h
    rw [List.nodup_iff_pairwise_ne, List.pairwise_iff_getElem]
    intro i j hi hj hij e
    have hk := h j hj
    unfold Lib.keeps at hk
    have hk := of_decide_eq_true hk
    rcases hk with hk | hk
    · omega
    · rw [getD j hj, getD (j - 1) (by omega)] at hk
      have h1 : s[j - 1] ≤ s[j] := of_decide_eq_true (List.pairwise_iff_getElem.1 hs (j - 1) j (by omega) hj (by omega))
      have h2 : s[i] ≤ s[j - 1] := by
        by_cases hij2 : i = j - 1
        · subst hij2; exact List.le_refl _
        · exact of_decide_eq_true (List.pairwise_iff_getElem.1 hs i (j - 1) hi (by omega) (by omega))
      rw [e] at h2
      exact hk (List.le_antisymm h2 h1)
  · intro h j hj
    unfold Lib.keeps
    refine decide_eq_true ?_
    by_cases h0 : j = 0
    · exact Or.inl h0
    · right
      rw [getD j hj, getD (j - 1) (by omega)]
      intro e
      rw [List.nodup_iff_pairwise_ne, List.pairwise_iff_getElem] at h
      exact h (j - 1) j (by omega) hj (by omega) e.symm
theorem compact_len {s : List (List UInt8)} : (Lib.compact s).length = s.length ↔ ∀ j, j < s.length → Lib.keeps s.toArray j = true := by
  unfold Lib.compact Lib.compactUpTo
  rw [List.length_map]
  constructor
  · intro h j hj
    have h2 : ((List.range s.length).filter (Lib.keeps s.toArray)).length = (List.range s.length).length := by rw [h, List.length_range]
    rw [List.length_filter_eq_length_iff] at h2
    exact h2 j (List.mem_range.2 hj)
  · intro h
    rw [List.filter_eq_self.2 (fun j hj => h j (List.mem_range.1 hj)), List.length_range]
theorem compact_le (s : List (List UInt8)) : (Lib.compact s).length ≤ s.length := by
  unfold Lib.compact Lib.compactUpTo
  rw [List.length_map]
  have := List.length_filter_le (Lib.keeps s.toArray) (List.range s.length)
  rw [List.length_range] at this
  exact this
/-- Sorted, and without neighbours alike, it is as long just if no two are alike. -/
theorem compact_nodup (l : List (List UInt8)) : (Lib.compact (l.mergeSort fun x y => decide (x ≤ y))).length = l.length ↔ l.Nodup := by
  have hp := List.mergeSort_perm l (fun x y => decide (x ≤ y))
  have hs := List.pairwise_mergeSort (le := fun x y : List UInt8 => decide (x ≤ y)) leL_trans leL_total l
  rw [← hp.length_eq, compact_len, keeps_strict hs]
  exact hp.nodup_iff
end Go.Proofs.YtfioknaadbgjlaaGreatDoor.F
namespace Go.Proofs.YtfioknaadbgjlaaGreatDoor.F
open Go.RowKit Go.Sort
end Go.Proofs.YtfioknaadbgjlaaGreatDoor.F
namespace Go.Proofs.YtfioknaadbgjlaaGreatDoor.F
open Go.RowKit Go.Sort
theorem face_plain {enc : Int} {e : Ent} (h : e.short = 0) : faceL enc e = presL enc e.name.data.toList := if_pos h
theorem face_short {enc : Int} {e : Ent} (h : ¬ e.short = 0) : faceL enc e = nameL (fnvL e.name.data.toList) e.short := if_neg h
set_option maxHeartbeats 2000000 in
theorem of_c (enc : Int) (h0 : 0 ≤ enc) (h8 : enc ≤ 8) (e : Ent) (he : EntOk e) (w : World) (hT : Tabs w) (hB : Base w) :
    Calls Tryz.prog 14 #[.int .i64 enc, entV e] w fun r w' => r = .returned (.string ⟨(faceL enc e).toArray⟩) ∧ Below w.heap.size w w' := by
  have hb0 : Below w.heap.size w (w.alloc (.cells #[.string e.name, .int .i64 e.node, .bool e.dir, .int .i64 e.cookie, .int .i64 e.short] 47)) := (Below.refl _ w).alloc (Nat.le_refl _) _
  have HQ := Lib.hid (entsBlock e w)
  have HB0 := Lib.hid hb0
  have hT0 := hT.step hb0
  have hBB := hB.step hb0
  obtain ⟨hs, hn0, hn1⟩ := he
  obtain ⟨FL, hFL⟩ : ∃ FL, faceL enc e = FL := ⟨_, rfl⟩
  unfold entV
  by_cases hsh : e.short = 0
  · have cP := present_c enc h0 h8 e.name hs _ hT0
    rw [← face_plain hsh] at cP
    rw [hFL] at cP ⊢
    generalize (⟨FL.toArray⟩ : ByteArray) = F at *
    obtain ⟨nm, nd, dr, ck, sh⟩ := e
    simp only at *
    subst hsh
    clear hT hB hT0 hBB hb0 hFL
    go_enter Tryz.func14, Tryz.ntmps14
    go_wp2_with (go_at_call 30; refine cP.mono ?_; rintro r w1 ⟨rfl, hb1⟩)
    go_ret
    exact ⟨rfl, HB0.out.trans (hb1.mono HB0.out.size)⟩
  · have cH := regr (W := w.alloc (.cells #[.string e.name, .int .i64 e.node, .bool e.dir, .int .i64 e.cookie, .int .i64 e.short] 47)) (fun w1 _ => (hash_c e.name (by omega) w1).mono fun r w2 ⟨h1, h2⟩ => ⟨h1, by rw [← h2]; exact Below.refl _ _⟩)
    have cN := regr (W := w.alloc (.cells #[.string e.name, .int .i64 e.node, .bool e.dir, .int .i64 e.cookie, .int .i64 e.short] 47)) (fun w1 h1 => name_c (fnvL e.name.data.toList) (fnvL_lt _) e.short hn0 hn1 w1 (hBB.step h1))
    rw [← face_short (enc := enc) hsh] at cN
    rw [hFL] at cN ⊢
    generalize (⟨FL.toArray⟩ : ByteArray) = F at *
    obtain ⟨k0, k1, k2, k3, k4⟩ := EntAt.of HQ.out
    obtain ⟨nm, nd, dr, ck, sh⟩ := e
    simp only at *
    have hsb : (sh == 0) = false := beq_eq_false_iff_ne.2 hsh
    obtain ⟨HH, hHH⟩ : ∃ H, fnvL nm.data.toList = H := ⟨_, rfl⟩
    rw [hHH] at cH cN
    clear hT hB hT0 hBB hb0 hFL hn0 hn1 hs hHH
    go_enter Tryz.func14, Tryz.ntmps14
    go_upto_region 3 with fail
    refine wp_region_quiet_below (by kernel_rfl) (by kernel_rfl) ?_
    repeat (quiet_step (first | exact cH _ _ | exact cN _ _))
    refine wpQuiet_nil ?_
    intro _ hw'
    obtain ⟨⟨dq, osq⟩, hw''⟩ := hw'
    subst hw''
    go_wp2
    go_ret
    exact ⟨rfl, HB0.out.trans ((below_regrown _ dq osq).mono HB0.out.size)⟩
set_option maxHeartbeats 2000000 in
theorem fits_c (enc : Int) (h0 : 0 ≤ enc) (h8 : enc ≤ 8) (e : Ent) (he : EntOk e) (w : World) (hT : Tabs w) :
    Calls Tryz.prog 26 #[.int .i64 enc, entV e] w fun r w' => r = .returned (.bool (fitB enc e)) ∧ Below w.heap.size w w' := by
  have hb0 : Below w.heap.size w (w.alloc (.cells #[.string e.name, .int .i64 e.node, .bool e.dir, .int .i64 e.cookie, .int .i64 e.short] 47)) := (Below.refl _ w).alloc (Nat.le_refl _) _
  have HQ := Lib.hid (entsBlock e w)
  have HB0 := Lib.hid hb0
  have hT0 := hT.step hb0
  obtain ⟨hs, hn0, hn1⟩ := he
  have cL := regr (W := w.alloc (.cells #[.string e.name, .int .i64 e.node, .bool e.dir, .int .i64 e.cookie, .int .i64 e.short] 47)) (fun w1 h1 => long_c enc h0 h8 e.name hs w1 (hT0.step h1))
  unfold entV fitB
  generalize longB enc e.name.data.toList = L at *
  obtain ⟨k0, k1, k2, k3, k4⟩ := EntAt.of HQ.out
  obtain ⟨nm, nd, dr, ck, sh⟩ := e
  simp only at *
  obtain ⟨S, hS⟩ : ∃ S, decide (¬ sh = 0) = S := ⟨_, rfl⟩
  have hne : (sh != 0) = S := by rw [← hS]; by_cases h : sh = 0 <;> simp [h]
  have HS := Lib.hid hS
  rw [hS]
  clear hT hT0 hb0 hn0 hn1 hs hS
  go_enter Tryz.func26, Tryz.ntmps26
  go_upto_region 1 with fail
  refine wp_region_quiet_below (by kernel_rfl) (by kernel_rfl) ?_
  repeat (quiet_step (first | exact cL _ _))
  refine wpQuiet_nil ?_
  intro _ hw'
  obtain ⟨⟨dq, osq⟩, hw''⟩ := hw'
  subst hw''
  go_wp2
  go_ret
  exact ⟨by simp, HB0.out.trans ((below_regrown _ dq osq).mono HB0.out.size)⟩
end Go.Proofs.YtfioknaadbgjlaaGreatDoor.F
