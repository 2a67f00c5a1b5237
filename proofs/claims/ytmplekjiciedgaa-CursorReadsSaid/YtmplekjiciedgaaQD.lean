/-
  The tree's small functions: where a name stands among a node's entries, whether a node can be listed, whether an entry may be.
  The library's Delete of one entry out of an own row; a node's entry taken away.   A node's entry taken away; an entry put behind a node's others; an entry with the next cookie.
  What is below a node: a closure that calls itself.
-/
import Derived.Test.YtmplekjiciedgaaQB
import Derived.Test.YtmplekjiciedgaaQC
import Derived.Test.YtmplekjiciedgaaQ2
import Derived.Deep.RegionLaw
import Derived.Lib.SliceRun
import Derived.Shelf.RegionOpenPlain
import Derived.Shelf.Strconv.Clone
import Derived.Laws.EntriesVeiled
namespace Go.Proofs.Ytmplekjiciedgaa
open Go.RowKit Go.Sort
set_option linter.unusedVariables false

abbrev ptrV (b : Nat) : Value := .pointer (some ⟨b, 0, none⟩)
def placeGo (s : ByteArray) : List Ent → Nat → Int
  | [], _ => -1
  | x :: l, k => if x.name = s then (k : Int) else placeGo s l (k + 1)
/-- The first entry of a name: its place, or -1. -/
def placeI (l : List Ent) (s : ByteArray) : Int := placeGo s l 0
theorem placeGo_spec (s : ByteArray) : ∀ (l : List Ent) (k : Nat), (placeGo s l k = -1 ∧ named l s = none ∧ ∀ x ∈ l, x.name ≠ s) ∨ ∃ (i : Nat) (x : Ent), placeGo s l k = ((k + i : Nat) : Int) ∧ l[i]? = some x ∧ x.name = s ∧ named l s = some x ∧ ∀ y ∈ l.take i, y.name ≠ s
  | [], k => Or.inl ⟨rfl, rfl, fun x hx => by cases hx⟩
  | x :: l, k => by
    unfold placeGo
    by_cases h : x.name = s
    · rw [if_pos h]
      refine Or.inr ⟨0, x, rfl, rfl, h, ?_, fun y hy => by cases hy⟩
      unfold named
      rw [List.find?_cons, decide_eq_true h]
    · rw [if_neg h]
      have hn : named (x :: l) s = named l s := by
        unfold named
        rw [List.find?_cons, decide_eq_false h]
      rcases placeGo_spec s l (k + 1) with ⟨h1, h2, h3⟩ | ⟨i, y, h1, h2, h3, h4, h5⟩
      · exact Or.inl ⟨h1, hn.trans h2, fun y hy => by
          rcases List.mem_cons.1 hy with rfl | hy
          · exact h
          · exact h3 y hy⟩
      · refine Or.inr ⟨i + 1, y, by rw [h1]; omega, by rw [List.getElem?_cons_succ]; exact h2, h3, hn.trans h4, fun z hz => ?_⟩
        rw [List.take_succ_cons] at hz
        rcases List.mem_cons.1 hz with rfl | hz
        · exact h
        · exact h5 z hz
theorem placeI_spec (l : List Ent) (s : ByteArray) : (placeI l s = -1 ∧ named l s = none ∧ ∀ x ∈ l, x.name ≠ s) ∨ ∃ (i : Nat) (x : Ent), placeI l s = (i : Int) ∧ l[i]? = some x ∧ x.name = s ∧ named l s = some x ∧ ∀ y ∈ l.take i, y.name ≠ s := by
  rcases placeGo_spec s l 0 with h | ⟨i, x, h1, h⟩
  · exact Or.inl h
  · exact Or.inr ⟨i, x, by rw [placeI, h1, Nat.zero_add], h⟩
/-- The closure: has an entry this name? -/
theorem sameName_c (e : Ent) (s : ByteArray) (q : Nat) (w : World) (hq : w.heap[q]? = some (.cells #[.string s] 9 (0, 0))) (t : Bool) (ht : decide (e.name = s) = t) :
    Calls Try.prog 51 #[entV e, .pointer (some ⟨q, 0, none⟩)] w fun r w' => r = .returned (.bool t) ∧ Below w.heap.size w w' := by
  obtain ⟨nm, nd, dr, ck, sh⟩ := e
  have c0 : (w.alloc (.cells #[.string nm, .int .i64 nd, .bool dr, .int .i64 ck, .int .i64 sh] 46)).cell? ⟨q, 0, none⟩ = some (.string s) := by
    rw [World.cell?_of_block (w := w) (Below.heap_alloc w _ q (lt_of_get hq)), Lib.cell_of_heap hq]
    rfl
  have HB : Hid (Below w.heap.size w (w.alloc (.cells #[.string nm, .int .i64 nd, .bool dr, .int .i64 ck, .int .i64 sh] 46))) := Lib.hid ((Below.refl _ _).alloc (Nat.le_refl _) _)
  have he : (nm.toList == s.toList) = t := by
    rw [← ht]
    by_cases h : nm = s
    · rw [decide_eq_true h, h]; simp
    · rw [decide_eq_false h]; exact text_ne h
  clear hq ht
  unfold entV
  go_enter Try.func51, Try.ntmps51
  go_wp2
  go_ret
  first | exact ⟨by rw [← he]; rfl, HB.out⟩ | exact ⟨rfl, HB.out⟩
set_option maxHeartbeats 2000000 in
theorem idxPlace_c (v : Value) (l : List Ent) (q : Nat) (s : ByteArray) (w : World) (hv : EntsIs w v l) (hl : l.length ≤ 1000) (hq : w.heap[q]? = some (.cells #[.string s] 9 (0, 0))) :
    Calls Try.prog 50 #[v, .func (.func 51) #[] #[.pointer (some ⟨q, 0, none⟩)]] w fun e w' => e = .returned (.int .i64 (placeI l s)) ∧ Below w.heap.size w w' := by
  obtain ⟨a, cap, rfl⟩ := hv.len
  obtain ⟨n, hn⟩ : ∃ n, l.length = n := ⟨_, rfl⟩
  rw [hn] at hl hv ⊢
  have HV := Lib.hid hv
  have HN := Lib.hid hn
  have HQ := Lib.hid hq
  have cC := fun W e t (h : W.heap[q]? = some (.cells #[.string s] 9 (0, 0))) (ht : decide (e.name = s) = t) => sameName_c e s q W h t ht
  unfold entV at cC
  obtain ⟨X, hX⟩ : ∃ X, placeI l s = X := ⟨_, rfl⟩
  have HX := Lib.hid hX
  rw [hX]
  clear hv hn hq hX
  go_enter Try.func50, Try.ntmps50
  go_wp2
  go_loopw [8] (fun iv wr => ∃ i : Nat, i ≤ n ∧ iv = .int .i64 i ∧ placeGo s (l.drop i) i = X ∧ Below w.heap.size w wr) (fun iv _ => n - (intOf iv).toNat)
  case atStart => exact ⟨0, by omega, rfl, HX.out, Below.refl _ _⟩
  case round =>
    obtain ⟨i, hi, rfl, hgo, hb⟩ := hrel
    have HGO := Lib.hid hgo
    have HB := Lib.hid hb
    clear hgo
    by_cases hin : i < n
    · have hiz : (i : Int) < (n : Int) := by omega
      obtain ⟨x, hx⟩ : ∃ x, l[i]? = some x := ⟨_, List.getElem?_eq_getElem (by rw [HN.out]; omega)⟩
      obtain ⟨g, off, rfl, hg, hr⟩ := HV.out.at hx
      obtain ⟨d0, d1, d2, d3, d4⟩ := ent_at (rangeAt_below hr hg hb)
      have HG : Hid (placeGo s (l.drop i) i = if x.name = s then (i : Int) else placeGo s (l.drop (i + 1)) (i + 1)) := Lib.hid (by rw [drop_eq_cons hx]; rfl)
      obtain ⟨t, ht⟩ : ∃ t, decide (x.name = s) = t := ⟨_, rfl⟩
      have HT := Lib.hid ht
      have cC1 := cC wr x t ((hb.block q (lt_of_get HQ.out)).trans HQ.out) ht
      clear hr hx hg cC hb ht
      cases t with
      | true =>
        have HE : Hid ((i : Int) = X) := Lib.hid (by rw [← HGO.out, HG.out, if_pos (of_decide_eq_true HT.out)])
        go_wp2_with (go_at_call 51; refine cC1.mono ?_; rintro e w2 ⟨rfl, hb2⟩)
        go_ret
        exact ⟨by rw [HE.out]; rfl, HB.out.trans (hb2.mono HB.out.size)⟩
      | false =>
        have HE : Hid (placeGo s (l.drop (i + 1)) (i + 1) = X) := Lib.hid (by rw [← HGO.out, HG.out, if_neg (of_decide_eq_false HT.out)])
        go_wp2_with (go_at_call 51; refine cC1.mono ?_; rintro e w2 ⟨rfl, hb2⟩)
        go_roundw
        case rel => exact ⟨i + 1, by omega, by first | rfl | go_num, HE.out, HB.out.trans (hb2.mono HB.out.size)⟩
        case measure => simp [intOf]; omega
    · have hiz : ¬ (i : Int) < (n : Int) := by omega
      have HE : Hid (X = -1) := Lib.hid (by rw [← HGO.out, List.drop_of_length_le (by rw [HN.out]; omega)]; rfl)
      clear hb cC
      go_wp2
      go_ret
      exact ⟨by rw [HE.out]; rfl, HB.out⟩
section
variable {w : World} {b : Nat} {K : Nat → Int} {E : Nat → List Ent} {R : Nat → Value} {u : Nat} {v : Value} {ys : List Int} {c : Int}
set_option maxHeartbeats 2000000 in
theorem place_c (h : TM w b K E R u v ys c) {d : Nat} (hd : d ≤ 200) (hl : (E d).length ≤ 1000) (s : ByteArray) :
    Calls Try.prog 40 #[ptrV b, .int .i64 (d : Int), .string s] w fun e w' => e = .returned (.int .i64 (placeI (E d) s)) ∧ Below w.heap.size w w' := by
  have hb0 : Below w.heap.size w (w.alloc (.cells #[.string s] 9)) := (Below.refl _ w).alloc (Nat.le_refl _) _
  have HB := Lib.hid hb0
  have c1 := ((h.below hb0).rcell hd).1
  have cI := idxPlace_c (R d) (E d) w.heap.size s (w.alloc (.cells #[.string s] 9)) ((h.below hb0).ents hd) hl (heap_alloc_new _ _)
  obtain ⟨a, cap, hr⟩ := (h.ents hd).len
  generalize placeI (E d) s = X at *
  rw [hr] at c1 cI
  have hd0 : (0 : Int) ≤ (d : Int) := by omega
  have hd1 : (d : Int) < 201 := by omega
  generalize (E d).length = n at *
  clear h hb0 hr
  go_enter Try.func40, Try.ntmps40
  go_wp2_with (go_at_call 50; refine cI.mono ?_; rintro e w2 ⟨rfl, hb2⟩)
  go_ret
  exact ⟨rfl, HB.out.trans (hb2.mono HB.out.size)⟩
def openI (K : Nat → Int) (d : Int) : Int := if d < 0 ∨ 200 < d then 5 else if K d.toNat = 2 then 0 else if K d.toNat = 1 then 8 else 5
theorem openI_ok {d : Int} (h : openI K d = 0) : ∃ n : Nat, d = n ∧ n ≤ 200 ∧ K n = 2 := by
  unfold openI at h
  split at h
  · omega
  · split at h
    · exact ⟨d.toNat, by omega, by omega, by assumption⟩
    · split at h <;> omega
set_option maxHeartbeats 2000000 in
theorem open_c (h : TM w b K E R u v ys c) (d : Int) : Calls Try.prog 22 #[ptrV b, .int .i64 d] w fun e w' => e = .returned (.int .i64 (openI K d)) ∧ w' = w := by
  obtain ⟨X, hX⟩ : ∃ X, openI K d = X := ⟨_, rfl⟩
  rw [hX]
  unfold openI at hX
  by_cases h0 : d < 0
  · have HX : Hid (X = 5) := Lib.hid (by rw [← hX, if_pos (Or.inl h0)])
    clear hX
    go_enter Try.func22, Try.ntmps22
    go_wp2
    go_ret
    exact ⟨by rw [HX.out]; rfl, rfl⟩
  · by_cases h1 : 200 < d
    · have HX : Hid (X = 5) := Lib.hid (by rw [← hX, if_pos (Or.inr h1)])
      clear hX
      go_enter Try.func22, Try.ntmps22
      go_wp2
      go_ret
      exact ⟨by rw [HX.out]; rfl, rfl⟩
    · obtain ⟨n, rfl⟩ : ∃ n : Nat, d = n := ⟨d.toNat, by omega⟩
      have hn : n ≤ 200 := by omega
      have hn1 : (n : Int) < 201 := by omega
      have c1 := (h.kcell hn).1
      rw [if_neg (by omega), Int.toNat_natCast] at hX
      generalize K n = k at *
      by_cases h2 : k = 2
      · have HX : Hid (X = 0) := Lib.hid (by rw [← hX, if_pos h2])
        subst h2
        clear hX h
        go_enter Try.func22, Try.ntmps22
        go_wp2
        go_ret
        exact ⟨by rw [HX.out]; rfl, rfl⟩
      · by_cases h3 : k = 1
        · have HX : Hid (X = 8) := Lib.hid (by rw [← hX, if_neg h2, if_pos h3])
          subst h3
          clear hX h h2
          go_enter Try.func22, Try.ntmps22
          go_wp2
          go_ret
          exact ⟨by rw [HX.out]; rfl, rfl⟩
        · have HX : Hid (X = 5) := Lib.hid (by rw [← hX, if_neg h2, if_neg h3])
          have h2b : (k == 2) = false := beq_eq_false_iff_ne.2 h2
          have h3b : (k == 1) = false := beq_eq_false_iff_ne.2 h3
          clear hX h h2 h3
          go_enter Try.func22, Try.ntmps22
          go_wp2
          go_ret
          exact ⟨by rw [HX.out]; rfl, rfl⟩
theorem askEntry_c (s : ByteArray) (hs : s.size ≤ 9223372036854775807) (sh : Int) (w : World) : Calls Try.prog 39 #[.string s, .int .i64 sh] w fun e w' => e = .returned (.int .i64 (badE s sh)) ∧ Below w.heap.size w w' := by
  have cG := esGood_c s hs w
  obtain ⟨X, hX⟩ : ∃ X, badE s sh = X := ⟨_, rfl⟩
  rw [hX]
  unfold badE at hX
  cases hg : goodB s with
  | false =>
    have HX : Hid (X = 3) := Lib.hid (by rw [← hX, hg]; rfl)
    rw [hg] at cG
    clear hX hg
    go_enter Try.func39, Try.ntmps39
    go_wp2_with (go_at_call 49; refine cG.mono ?_; rintro e w2 ⟨rfl, hb2⟩)
    go_ret
    exact ⟨by rw [HX.out]; rfl, hb2⟩
  | true =>
    rw [hg] at cG hX
    by_cases h0 : sh < 0
    · have HX : Hid (X = 1) := Lib.hid (by rw [← hX, if_pos rfl, if_pos (Or.inl h0)])
      clear hX hg
      go_enter Try.func39, Try.ntmps39
      go_wp2_with (go_at_call 49; refine cG.mono ?_; rintro e w2 ⟨rfl, hb2⟩)
      go_ret
      exact ⟨by rw [HX.out]; rfl, hb2⟩
    · by_cases h1 : 1000000 < sh
      · have HX : Hid (X = 1) := Lib.hid (by rw [← hX, if_pos rfl, if_pos (Or.inr h1)])
        clear hX hg
        go_enter Try.func39, Try.ntmps39
        go_wp2_with (go_at_call 49; refine cG.mono ?_; rintro e w2 ⟨rfl, hb2⟩)
        go_ret
        exact ⟨by rw [HX.out]; rfl, hb2⟩
      · have HX : Hid (X = 0) := Lib.hid (by rw [← hX, if_pos rfl, if_neg (by omega)])
        clear hX hg
        go_enter Try.func39, Try.ntmps39
        go_wp2_with (go_at_call 49; refine cG.mono ?_; rintro e w2 ⟨rfl, hb2⟩)
        go_ret
        exact ⟨by rw [HX.out]; rfl, hb2⟩
def admitsI (K : Nat → Int) (d : Int) (s : ByteArray) (sh : Int) : Int := if openI K d = 0 then badE s sh else openI K d
theorem admits_c (h : TM w b K E R u v ys c) (d : Int) (s : ByteArray) (hs : s.size ≤ 9223372036854775807) (sh : Int) :
    Calls Try.prog 27 #[ptrV b, .int .i64 d, .string s, .int .i64 sh] w fun e w' => e = .returned (.int .i64 (admitsI K d s sh)) ∧ Below w.heap.size w w' := by
  have cO := open_c h d
  have cA := askEntry_c s hs sh w
  obtain ⟨X, hX⟩ : ∃ X, admitsI K d s sh = X := ⟨_, rfl⟩
  rw [hX]
  unfold admitsI at hX
  generalize openI K d = o at *
  generalize badE s sh = a at *
  by_cases h0 : o = 0
  · subst h0
    have HX : Hid (X = a) := Lib.hid (by rw [← hX, if_pos rfl])
    clear hX h
    go_enter Try.func27, Try.ntmps27
    go_wp2_with (first
      | (go_at_call 22; refine cO.mono ?_; rintro e w1 ⟨rfl, rfl⟩)
      | (go_at_call 39; refine cA.mono ?_; rintro e w2 ⟨rfl, hb2⟩))
    go_ret
    exact ⟨by rw [HX.out]; rfl, hb2⟩
  · have HX : Hid (X = o) := Lib.hid (by rw [← hX, if_neg h0])
    have h0b : (o == 0) = false := beq_eq_false_iff_ne.2 h0
    clear hX h h0
    go_enter Try.func27, Try.ntmps27
    go_wp2_with (go_at_call 22; refine cO.mono ?_; rintro e w1 ⟨rfl, rfl⟩)
    go_ret
    exact ⟨by rw [HX.out]; rfl, Below.refl _ _⟩
def hasPlaceI (l : List Ent) (s : ByteArray) (c : Int) : Int := if 0 ≤ placeI l s then 6 else if c < 1 then 12 else 0
theorem hasPlace_c (h : TM w b K E R u v ys c) {d : Nat} (hd : d ≤ 200) (hl : (E d).length ≤ 1000) (s : ByteArray) :
    Calls Try.prog 28 #[ptrV b, .int .i64 (d : Int), .string s] w fun e w' => e = .returned (.int .i64 (hasPlaceI (E d) s c)) ∧ Below w.heap.size w w' := by
  have cP := place_c h hd hl s
  have HC : Hid (∀ W, Below w.heap.size w W → W.cell? ⟨b, 405, none⟩ = some (.int .i64 c)) := Lib.hid (fun W hW => (h.below hW).ccell.1)
  obtain ⟨X, hX⟩ : ∃ X, hasPlaceI (E d) s c = X := ⟨_, rfl⟩
  rw [hX]
  unfold hasPlaceI at hX
  generalize placeI (E d) s = p at *
  clear h
  by_cases h0 : 0 ≤ p
  · have HX : Hid (X = 6) := Lib.hid (by rw [← hX, if_pos h0])
    clear hX
    go_enter Try.func28, Try.ntmps28
    go_wp2_with (go_at_call 40; refine cP.mono ?_; rintro e w1 ⟨rfl, hb1⟩; have c1 := HC.out w1 hb1)
    go_ret
    exact ⟨by rw [HX.out]; rfl, hb1⟩
  · by_cases h1 : c < 1
    · have HX : Hid (X = 12) := Lib.hid (by rw [← hX, if_neg h0, if_pos h1])
      clear hX
      go_enter Try.func28, Try.ntmps28
      go_wp2_with (go_at_call 40; refine cP.mono ?_; rintro e w1 ⟨rfl, hb1⟩; have c1 := HC.out w1 hb1)
      go_ret
      exact ⟨by rw [HX.out]; rfl, hb1⟩
    · have HX : Hid (X = 0) := Lib.hid (by rw [← hX, if_neg h0, if_neg h1])
      clear hX
      go_enter Try.func28, Try.ntmps28
      go_wp2_with (go_at_call 40; refine cP.mono ?_; rintro e w1 ⟨rfl, hb1⟩; have c1 := HC.out w1 hb1)
      go_ret
      exact ⟨by rw [HX.out]; rfl, hb1⟩
end
end Go.Proofs.Ytmplekjiciedgaa

namespace Go.Proofs.Ytmplekjiciedgaa
open Go.RowKit Go.Sort
set_option linter.unusedVariables false

def zEntC : List Value := [.string ⟨#[]⟩, .int .i64 0, .bool false, .int .i64 0, .int .i64 0]
theorem zero_ent (W : World) : (zeroValue 46).run Try.prog W = .ok (.agg zEntC.toArray) W := (zero_of_info (P := Try.prog) (t := 46) (v := .agg zEntC.toArray) (n := 5) (by kernel_rfl)).1 W
theorem run_clear_ent (w : World) (ty : TypeId) (b o c : Nat) (hc : ∀ j, j < 5 → (w.cell? ⟨b, o + j, none⟩).isSome = true) (hf : ∀ j, j < 5 → w.frozen? ⟨b, o + j, none⟩ = false) :
    (Builtin.clear_ #[32] ty #[.slice (some ⟨b, o, none⟩) 1 c]).run Try.prog w = .ok (.tuple #[]) (w.setCells b o zEntC) := by
  have hst := run_storeCells_cells (P := Try.prog) b o zEntC 0 w (by simpa [zEntC] using hc) (by simpa [zEntC] using hf) (by intro v hv; simp [zEntC] at hv; rcases hv with rfl | rfl | rfl | rfl | rfl <;> rfl)
  have hz : (Builtin.zeroCells (Value.agg zEntC.toArray).cells 1).toList = zEntC := by simp [Builtin.zeroCells, zEntC, Value.cells, List.range_succ]
  simp only [Nat.add_zero] at hst
  have hv := zero_ent
  simp [Builtin.clear_, run_underlying Try.underlying32, hv, hz, hst]
theorem erase_flat {l : List Ent} {i : Nat} (hi : i < l.length) : (l.eraseIdx i).flatMap entC = (l.flatMap entC).take (i * 5) ++ (l.drop (i + 1)).flatMap entC := by
  rw [List.eraseIdx_eq_take_drop_succ, List.flatMap_append, flat_take entC 5 l i (entC_len l)]
theorem take_front {α : Type} (C Z D : List α) {k : Nat} (h : k ≤ C.length) : (C.take k ++ Z ++ D).take k = C.take k := by
  rw [List.append_assoc, List.take_append_of_le_length (by rw [List.length_take]; omega), List.take_take, Nat.min_self]
theorem take_exact {α : Type} (C D : List α) {k : Nat} (h : C.length = k) : (C ++ D).take k = C := by
  subst h
  rw [List.take_append_of_le_length (Nat.le_refl _), List.take_length]
def DelPost (B g n cap : Nat) (l : List Ent) (i : Nat) (w : World) (e : Ending) (w' : World) : Prop :=
  e = .returned (.slice (some ⟨g, 0, none⟩) (n - 1) cap) ∧ w'.ownsRow B 46 5 (.slice (some ⟨g, 0, none⟩) (n - 1) cap) (l.eraseIdx i).length ((l.eraseIdx i).flatMap entC) ∧ w.grownBy w' (some g)
set_option maxHeartbeats 4000000 in
set_option maxRecDepth 100000 in
theorem delete_c (B g n cap : Nat) (l : List Ent) (i : Nat) (w : World) (h : w.ownsRow B 46 5 (.slice (some ⟨g, 0, none⟩) n cap) l.length (l.flatMap entC)) (hn : l.length = n) (hi : i < n) (hl : n ≤ 1000) :
    Calls Try.prog 44 #[.slice (some ⟨g, 0, none⟩) n cap, .int .i64 (i : Int), .int .i64 ((i : Int) + 1)] w (DelPost B g n cap l i w) := by
  unfold DelPost
  obtain ⟨i0, hi0, hz0, hz1, hz2⟩ := info_parts Try.infoEnt10
  have htk : l.take l.length = l := List.take_length
  rcases h.2 with ⟨hv, _⟩ | ⟨g', cap', cur, hv, hg, hb, h1, h2, h3, h4⟩
  · cases hv
  injection hv with e1 e2 e3
  injection e1 with e1
  injection e1 with e1 _ _
  subst e1
  subst e3
  have hgl := lt_of_get hb
  have hz5 : zEntC.length = 5 := rfl
  have hfl := flat_len entC 5 l (entC_len l)
  have hdl := flat_len entC 5 (l.drop (i + 1)) (fun x hx => rfl)
  rw [List.length_drop] at hdl
  have hcs : cur.toList.length = cap * 5 := by rw [Array.length_toList]; exact h3
  rw [hn] at hfl hdl h1 h4
  have hcap5 : n * 5 ≤ cap * 5 := Nat.mul_le_mul_right 5 h1
  obtain ⟨news, hnews⟩ : ∃ news, news = (l.drop (i + 1)).flatMap entC := ⟨_, rfl⟩
  rw [← hnews] at hdl
  have hw0 : w.drew.heap[g]? = some (.cells cur.toList.toArray 46 (0, 0)) := by rw [Array.toArray_toList]; exact hb
  have hW1 := heap_setCells_at g 46 news (i * 5) w.drew cur.toList hw0 (by omega)
  have hC1l : (cur.toList.take (i * 5) ++ news ++ cur.toList.drop (i * 5 + news.length)).length = cap * 5 := by
    simp only [List.length_append, List.length_take, List.length_drop]
    omega
  have hW2 := heap_setCells_at g 46 zEntC ((n - 1) * 5) _ _ hW1 (by rw [hC1l, hz5]; omega)
  have h6 : cur.toList.take (i * 5) = (l.flatMap entC).take (i * 5) := by rw [← h4, List.take_take, Nat.min_eq_left (by omega)]
  have HO : Hid (((w.drew.setCells g (i * 5) news).setCells g ((n - 1) * 5) zEntC).ownsRow B 46 5 (.slice (some ⟨g, 0, none⟩) (n - 1) cap) (l.eraseIdx i).length ((l.eraseIdx i).flatMap entC)) := Lib.hid (by
    have hel : (l.eraseIdx i).length = n - 1 := by rw [List.length_eraseIdx, if_pos (by omega), hn]
    have hefl := flat_len entC 5 (l.eraseIdx i) (fun x hx => rfl)
    rw [hel] at hefl ⊢
    refine ⟨hefl, Or.inr ⟨g, cap, _, rfl, hg, hW2, by omega, h2, ?_, ?_⟩⟩
    · rw [List.size_toArray]
      simp only [List.length_append, List.length_take, List.length_drop, hC1l, hz5]
      omega
    · have hp : (cur.toList.take (i * 5) ++ news).length = (n - 1) * 5 := by
        rw [List.length_append, List.length_take]
        omega
      rw [List.toList_toArray, take_front _ _ _ (by rw [hC1l]; omega), take_exact _ _ hp, erase_flat (by omega), hnews, h6])
  have HG : Hid (w.grownBy ((w.drew.setCells g (i * 5) news).setCells g ((n - 1) * 5) zEntC) (some g)) := Lib.hid (by
    have hb1 : Below w.heap.size w w.drew := (Below.refl _ _).drew
    have hs : ((w.drew.setCells g (i * 5) news).setCells g ((n - 1) * 5) zEntC).heap.size = w.heap.size := by rw [size_setCells, size_setCells]; rfl
    refine ⟨?_, ?_, ?_, by rw [hs]; exact Nat.le_refl _, fun k hk hne => ?_⟩
    · exact (Below.setCells (Below.setCells (b := g) (B := g) (Below.refl _ w.drew) (Nat.le_refl _) _ _) (Nat.le_refl _) _ _).os
    · exact (Below.setCells (Below.setCells (b := g) (B := g) (Below.refl _ w.drew) (Nat.le_refl _) _ _) (Nat.le_refl _) _ _).tape
    · exact (Below.setCells (Below.setCells (b := g) (B := g) (Below.refl _ w.drew) (Nat.le_refl _) _ _) (Nat.le_refl _) _ _).output
    · rw [heap_setCells_far g _ _ _ k (fun e => hne (by rw [e])), heap_setCells_far g _ _ _ k (fun e => hne (by rw [e]))]
      rfl)
  have hthere := there_of_block hb
  have s2 : Hid (∀ u ∈ news, u.oneCell' = true) := Lib.hid (by
    intro x hx
    rw [hnews] at hx
    obtain ⟨y, _, hx⟩ := List.mem_flatMap.1 hx
    exact entC_one y x hx)
  have s3 : Hid (∀ t, t < news.length → (w.drew.cell? ⟨g, 0 + i * 5 + t, none⟩).isSome = true ∧ w.drew.frozen? ⟨g, 0 + i * 5 + t, none⟩ = false) := Lib.hid (fun t ht => by
    have := hthere (i * 5) (n * 5 - i * 5) (by omega) t (by omega)
    rw [Nat.zero_add]
    exact this)
  have hread : ∀ t x, news[t]? = some x → w.drew.cell? ⟨g, (i + 1) * 5 + t, none⟩ = some x := fun t x hx => by
    have htl : t < news.length := (List.getElem?_eq_some_iff.1 hx).1
    show w.cell? _ = _
    rw [cell_of_row _ _ _ _ _ _ hb, ← Array.getElem?_toList]
    have h5 : (cur.toList.take (n * 5))[(i + 1) * 5 + t]? = some x := by
      rw [h4, ← hx, hnews, ← flat_drop entC 5 l (i + 1) (entC_len l), List.getElem?_drop]
    rw [List.getElem?_take, if_pos (by omega)] at h5
    exact h5
  obtain ⟨A, hA, hsrc⟩ : ∃ A : Addr, (if cap = i + 1 then some (⟨g, 0, none⟩ : Addr) else some ⟨g, (i + 1) * 5, none⟩) = some A ∧ Hid (∀ t x, news[t]? = some x → w.drew.cell? (A.add t) = some x) := by
    by_cases hci : cap = i + 1
    · refine ⟨⟨g, 0, none⟩, by simp [hci], Lib.hid (fun t x hx => ?_)⟩
      have : news.length = 0 := by omega
      rw [List.eq_nil_of_length_eq_zero this] at hx
      cases hx
    · refine ⟨⟨g, (i + 1) * 5, none⟩, by simp [hci], Lib.hid (fun t x hx => ?_)⟩
      rw [Addr.add_mid]
      exact hread t x hx
  have s1 : Hid (news.length = (n - (i + 1)) * 5) := Lib.hid hdl
  have hcl : ∀ ty, (Builtin.clear_ #[32] ty #[.slice (some ⟨g, (n - 1) * 5, none⟩) 1 (cap - (n - 1))]).run Try.prog (w.drew.setCells g (i * 5) news) = .ok (.tuple #[]) ((w.drew.setCells g (i * 5) news).setCells g ((n - 1) * 5) zEntC) := fun ty =>
    run_clear_ent _ ty g ((n - 1) * 5) (cap - (n - 1)) (fun j hj => by
      have := there_of_block hW1 ((n - 1) * 5) 5 (by rw [List.size_toArray, hC1l]; omega) j hj
      exact this.1) (fun j hj => by
      have := there_of_block hW1 ((n - 1) * 5) 5 (by rw [List.size_toArray, hC1l]; omega) j hj
      exact this.2)
  have hic : i ≤ cap := by omega
  have hjc : i + 1 ≤ cap := by omega
  have hjc2 : (i : Int) + 1 ≤ (n : Int) := by omega
  obtain ⟨m, hm⟩ : ∃ m, n = m + 1 := ⟨n - 1, by omega⟩
  have HX : Hid (n - 1 = m) := Lib.hid (by omega)
  have HI0 := Lib.hid hi0
  have HZ1 := Lib.hid hz1
  have hcm : ¬ (cap = m) := by omega
  have hmc : m ≤ cap := by omega
  have HIM : Hid (i + (m - i) = m) := Lib.hid (by omega)
  have him : i ≤ m := by omega
  have hiz : (0 : Int) ≤ (i : Int) + 1 := by omega
  rw [HX.out] at HO HG hcl ⊢
  have s1 : Hid (news.length = (m - i) * 5) := Lib.hid (by rw [s1.out, hm, show m + 1 - (i + 1) = m - i by omega])
  rw [hm] at h1 hcap5 hi hjc2 ⊢
  clear hread hthere hW1 hW2 hC1l hw0 hb h4 h3 hcs hfl hdl hnews h htk hn hm hi0 h6 hz0 hz1 hz2 hz5 hgl
  go_enter Try.func44, Try.ntmps44
  go_upto_region 5 with fail
  go_region_law (first | (refine step_append_room rfl (.tmp 22) (.tmp 25) 32 rfl 46 i0 5 Try.underlying32 HI0.out HZ1.out g 0 i cap (by simp [Act.eval, Act.put]) A (m - i) (cap - (i + 1)) news (by simp [Act.eval, Act.put]) s1.out hsrc.out s2.out (by omega) s3.out ?_; rw [show (0 + i * 5) = i * 5 from Nat.zero_add _, HIM.out]))
  all_goals
    go_wp2
    go_ret
    exact ⟨rfl, HO.out, HG.out⟩
end Go.Proofs.Ytmplekjiciedgaa

namespace Go.Proofs.Ytmplekjiciedgaa
open Go.RowKit Go.Sort
set_option linter.unusedVariables false

set_option maxHeartbeats 1000000 in
theorem strClone_c (s : ByteArray) (w : World) (hs : s.size ≤ 281474976710656) : Calls Try.prog 37 #[.string s] w fun e w' => e = .returned (.string s) ∧ Below w.heap.size w w' := by
  have cC := Try.stringslite_Clone s w hs
  go_enter Try.func37, Try.ntmps37
  go_wp2_with fail
  refine cC.mono ?_
  rintro e w1 ⟨rfl, hb⟩
  have HB := Lib.hid hb
  clear hb cC
  go_wp2
  go_ret
  exact ⟨rfl, HB.out⟩
theorem ownsRow_form {w : World} {B : Nat} {T : TypeId} {c : Nat} {v : Value} {n : Nat} {xs : List Value} (h : w.ownsRow B T c v n xs) (hn : n ≠ 0) : ∃ g cap, v = .slice (some ⟨g, 0, none⟩) n cap := by
  rcases h.2 with ⟨_, h0⟩ | ⟨g, cap, cur, hv, _⟩
  · exact absurd h0 hn
  · exact ⟨g, cap, hv⟩
theorem ownsRow_slice {w : World} {B : Nat} {T : TypeId} {c : Nat} {v : Value} {n : Nat} {xs : List Value} (h : w.ownsRow B T c v n xs) : ∃ a cap, v = .slice a n cap := by
  rcases h.2 with ⟨hv, h0⟩ | ⟨g, cap, cur, hv, _⟩
  · exact ⟨none, 0, by rw [hv, h0]⟩
  · exact ⟨_, cap, hv⟩
theorem grown_of_below {w0 w w' : World} {r : Option Nat} (hb : Below w0.heap.size w0 w) (hg : w.grownBy w' r) : w0.grownBy w' r :=
  ⟨hg.os.trans hb.os, hg.tape.trans hb.tape, hg.output.trans hb.output, Nat.le_trans hb.size hg.size, fun k hk hne => (hg.block k (by have := hb.size; omega) hne).trans (hb.block k hk)⟩
section
variable {w : World} {b : Nat} {K : Nat → Int} {E : Nat → List Ent} {R : Nat → Value} {u : Nat} {v : Value} {ys : List Int} {c : Int}
set_option maxHeartbeats 4000000 in
set_option maxRecDepth 100000 in
theorem remove_c (h : TM w b K E R u v ys c) {d : Nat} (hd : d ≤ 200) (hl : (E d).length ≤ 1000) (s : ByteArray) {i : Nat} (hp : placeI (E d) s = (i : Int)) (hi : i < (E d).length) :
    Calls Try.prog 32 #[ptrV b, .int .i64 (d : Int), .string s] w fun e w' => ∃ R', e = .returned (.tuple #[]) ∧ TM w' b K (upd E d ((E d).eraseIdx i)) R' u v ys c ∧ Trod w w' (Foot b R v) (Foot b R' v) := by
  have cP := place_c h hd hl s
  rw [hp] at cP
  obtain ⟨g, cap, hr⟩ := ownsRow_form (h.rows d hd) (by omega)
  have HT := Lib.hid h
  have HI := Lib.hid hi
  have HL := Lib.hid hl
  have HR := Lib.hid hr
  have hd0 : (0 : Int) ≤ (d : Int) := by omega
  have hd1 : (d : Int) < 201 := by omega
  have hi2 : (i : Int) ≤ 1000 := by omega
  have hwi : IntKind.i64.wrap ((i : Int) + 1) = (i : Int) + 1 := by rw [IntKind.wrap_i64]; omega
  clear h hi hl hr hp
  go_enter Try.func32, Try.ntmps32
  go_upto_region 1 with (go_at_call 40; refine cP.mono ?_; rintro e w1 ⟨rfl, hb1⟩)
  have hT1 := HT.out.below (hb1.drew)
  have HB1 := Lib.hid hb1
  have HT1 := Lib.hid hT1
  have c1 := (hT1.rcell hd).1
  rw [HR.out] at c1
  have cD : Calls Try.prog 44 #[.slice (some ⟨g, 0, none⟩) (E d).length cap, .int .i64 (i : Int), .int .i64 ((i : Int) + 1)] w1.drew (DelPost (b + 1) g (E d).length cap (E d) i w1.drew) := delete_c (b + 1) g (E d).length cap (E d) i w1.drew (by have := hT1.rows d hd; rw [HR.out] at this; exact this) rfl HI.out HL.out
  unfold DelPost at cD
  have HK : Hid (∀ w2, w1.drew.grownBy w2 (some g) → w2.cell? ⟨b, d * 2 + 1, none⟩ = some (.slice (some ⟨g, 0, none⟩) (E d).length cap) ∧ w2.frozen? ⟨b, d * 2 + 1, none⟩ = false) := Lib.hid (fun w2 hg => by
    obtain ⟨cs, hc, ho⟩ := HT1.out.cells
    have hne : some b ≠ some g := fun e => by
      have := ((HT1.out.rows d hd).lt g (by rw [HR.out]; rfl)).1
      injection e with e
      omega
    have hc2 := (hg.block b (lt_of_get hc) hne).trans hc
    exact ⟨by rw [cell_of_row _ _ _ _ _ _ hc2, ho.row d hd, HR.out], Lib.frozen_of_heap hc2 _⟩)
  clear hT1 hb1 cP
  generalize (E d).length = n at *
  go_region_with (first
    | (go_at_call 44; refine cD.mono ?_; rintro e w2 ⟨rfl, ho2, hg2⟩; obtain ⟨q1, q2⟩ := HK.out w2 hg2))
  all_goals
    go_end0
    have hgg : w1.drew.grownBy w2 (R d).ownBlock := by rw [HR.out]; exact hg2
    obtain ⟨h1, h2⟩ := HT1.out.setRow hd hgg ho2 (fun k hk => Or.inl (by rw [HR.out]; exact hk))
    exact ⟨_, rfl, h1, (Trod.of_below HB1.out.drew).trans h2⟩
end
section
variable {w : World} {b : Nat} {K : Nat → Int} {E : Nat → List Ent} {R : Nat → Value} {u : Nat} {v : Value} {ys : List Int} {c : Int}
def kindOf (t : Bool) : Int := if t = true then 2 else 1
theorem upd_upd {α : Type} (f : Nat → α) (k : Nat) (x y : α) : upd (upd f k x) k y = upd f k y := by
  funext n
  unfold upd
  split <;> rfl
def PutPost (b : Nat) (K : Nat → Int) (E : Nat → List Ent) (R : Nat → Value) (u : Nat) (v : Value) (ys : List Int) (c : Int) (d : Nat) (x : Ent) (nd : Nat) (w : World) (e : Ending) (w' : World) : Prop :=
  ∃ R', e = .returned (.tuple #[]) ∧ TM w' b (upd K nd (kindOf x.dir)) (upd E d (E d ++ [x])) R' u v ys c ∧ Trod w w' (Foot b R v) (Foot b R' v)
set_option maxHeartbeats 8000000 in
set_option maxRecDepth 100000 in
theorem put_c (h : TM w b K E R u v ys c) {d : Nat} (hd : d ≤ 200) (hl : (E d).length ≤ 1000) (x : Ent) {nd : Nat} (hx : x.node = nd) (hnd : nd ≤ 200) (hs : x.name.size ≤ 281474976710656) :
    Calls Try.prog 43 #[ptrV b, .int .i64 (d : Int), entV x] w (PutPost b K E R u v ys c d x nd w) := by
  unfold PutPost
  obtain ⟨nm, n0, dr, ck, sh⟩ := x
  simp only at hx hs ⊢
  subst hx
  have HXE := Lib.hid (rfl : entC ⟨nm, (nd : Int), dr, ck, sh⟩ = [.string nm, .int .i64 (nd : Int), .bool dr, .int .i64 ck, .int .i64 sh])
  have hb0 : Below w.heap.size w (w.alloc (.cells #[.string nm, .int .i64 (nd : Int), .bool dr, .int .i64 ck, .int .i64 sh] 46)) := (Below.refl _ w).alloc (Nat.le_refl _) _
  have HQ0 : Hid ((w.alloc (.cells #[.string nm, .int .i64 (nd : Int), .bool dr, .int .i64 ck, .int .i64 sh] 46)).heap[w.heap.size]? = some (.cells #[.string nm, .int .i64 (nd : Int), .bool dr, .int .i64 ck, .int .i64 sh] 46 (0, 0))) := Lib.hid (heap_alloc_new _ _)
  have HB0 := Lib.hid hb0
  have HT := Lib.hid h
  have HL := Lib.hid hl
  have hd0 : (0 : Int) ≤ (d : Int) := by omega
  have hd1 : (d : Int) < 201 := by omega
  have hn0 : (0 : Int) ≤ (nd : Int) := by omega
  have hn1 : (nd : Int) < 201 := by omega
  have cS := fun W => strClone_c nm W hs
  obtain ⟨q, hq⟩ : ∃ q, w.heap.size = q := ⟨_, rfl⟩
  unfold entV
  clear h hl hb0
  go_enter Try.func43, Try.ntmps43
  go_upto_region 1 with fail
  generalize (w.alloc (.cells #[.string nm, .int .i64 (nd : Int), .bool dr, .int .i64 ck, .int .i64 sh] 46)) = W0 at *
  have HQ := Lib.hid hq
  (try rw [hq] at HQ0)
  (try rw [hq] at HB0)
  have hqb : b < q := by rw [← hq]; exact HT.out.blt
  have p0 : W0.cell? ⟨q, 0, none⟩ = some (.string nm) := Lib.cell_of_heap HQ0.out 0
  clear hq
  have HW1 : Hid (∀ w1, Below W0.heap.size W0 w1 → w1.heap[q]? = some (.cells #[.string nm, .int .i64 (nd : Int), .bool dr, .int .i64 ck, .int .i64 sh] 46 (0, 0)) ∧ (w1.setCell ⟨q, 0, none⟩ (.string nm)).heap[q]? = some (.cells #[.string nm, .int .i64 (nd : Int), .bool dr, .int .i64 ck, .int .i64 sh] 46 (0, 0)) ∧ Below q w (w1.setCell ⟨q, 0, none⟩ (.string nm))) := Lib.hid (fun w1 hb => by
    have h1 := (hb.block q (lt_of_get HQ0.out)).trans HQ0.out
    refine ⟨h1, ?_, ?_⟩
    · rw [heap_setCell_same w1 q 0 _ _ _ h1]
      rfl
    · exact (HB0.out.trans (hb.mono (by have := HB0.out.size; have := HQ.out; omega))).setCell (p := ⟨q, 0, none⟩) (Nat.le_refl _) _)
  go_upto_region 2 with (go_at_call 37; refine (cS _).mono ?_; rintro e w1 ⟨rfl, hb1⟩; obtain ⟨e1, e2, e3⟩ := HW1.out w1 hb1; have k0 : w1.cell? ⟨q, 0, none⟩ = some (.string nm) := Lib.cell_of_heap e1 0; have k1 : w1.frozen? ⟨q, 0, none⟩ = false := Lib.frozen_of_heap e1 0)
  have HE2 := Lib.hid e2
  have HE3 := Lib.hid e3
  clear HW1 p0 k0 k1 e1 e2 e3 hb1 cS HQ0 HB0
  generalize w1.setCell ⟨q, 0, none⟩ (.string nm) = W1 at *
  have HT1 : Hid (TM W1 b K E R u v ys c) := Lib.hid (HT.out.below (by rw [HQ.out]; exact HE3.out))
  obtain ⟨⟨a0, a1, a2, a3, a4⟩, _⟩ := five_cells (W := W1.drew) HE2.out
  obtain ⟨k0, k1⟩ := HT1.out.kcell hnd
  have k2 : W1.drew.cell? ⟨b, nd * 2, none⟩ = some (.int .i64 (K nd)) := k0
  have k3 : W1.drew.frozen? ⟨b, nd * 2, none⟩ = false := k1
  cases dr with
  | false =>
    go_big_region
    have HE3' := Lib.hid (by rw [← HQ.out] at HE3; exact HE3.out : Below w.heap.size w W1)
    obtain ⟨W3, hW3⟩ : ∃ W3, (W1.setCell ⟨b, nd * 2, none⟩ (.int .i64 1)).drew = W3 := ⟨_, rfl⟩
    have HT3 : Hid (TM W3 b (upd K nd (kindOf false)) E R u v ys c) := Lib.hid (by rw [← hW3]; exact (HT1.out.setKind hnd 1).below (Below.refl _ _).drew)
    have HQ3 : Hid (W3.heap[q]? = some (.cells #[.string nm, .int .i64 (nd : Int), .bool false, .int .i64 ck, .int .i64 sh] 46 (0, 0))) := Lib.hid (by rw [← hW3]; show (W1.setCell _ _).heap[q]? = _; rw [Below.heap_setCell _ _ _ _ (by show q ≠ b; omega)]; exact HE2.out)
    have HR3 : Hid (Trod w W3 (Foot b R v) (Foot b R v)) := Lib.hid (by rw [← hW3]; exact ((Trod.of_below HE3'.out).trans (HT1.out.trod_cell _ _ R v (fun k hk => Or.inl hk))).trans (Trod.of_below (Below.refl _ _).drew))
    obtain ⟨⟨d0, d1, d2, d3, d4⟩, _⟩ := five_cells (W := W3) HQ3.out
    go_upto_region 5 with fail
    clear a0 a1 a2 a3 a4 k0 k1 k2 k3 d0 d1 d2 d3 d4
    (try rw [hW3])
    clear hW3
    have hba : Below W3.heap.size W3 (W3.alloc (.cells #[.string nm, .int .i64 (nd : Int), .bool false, .int .i64 ck, .int .i64 sh] 46)).drew := ((Below.refl _ _).alloc (Nat.le_refl _) _).drew
    have hbb : Below W3.heap.size W3 (W3.drew.alloc (.cells #[.string nm, .int .i64 (nd : Int), .bool false, .int .i64 ck, .int .i64 sh] 46)) := ((Below.refl _ _).drew).alloc (Nat.le_refl _) _
    have HBA := Lib.hid hba
    have HTA := Lib.hid (HT3.out.below hba)
    have HTB := Lib.hid (HT3.out.below hbb)
    have HSA : Hid (b + 1 ≤ (W3.alloc (.cells #[.string nm, .int .i64 (nd : Int), .bool false, .int .i64 ck, .int .i64 sh] 46)).drew.heap.size) := Lib.hid HTA.out.blt
    have HLA : Hid (EntsIs (W3.alloc (.cells #[.string nm, .int .i64 (nd : Int), .bool false, .int .i64 ck, .int .i64 sh] 46)).drew (.slice (some ⟨W3.heap.size, 0, none⟩) 1 1) [⟨nm, (nd : Int), false, ck, sh⟩]) := Lib.hid (LstIs.block (T := 46) (fr := (0, 0)) (entC_len _) (heap_alloc_new _ _))
    obtain ⟨⟨a0, a1, a2, a3, a4⟩, _⟩ := five_cells (W := W3.drew) HQ3.out
    have r1 : W3.drew.cell? ⟨b, d * 2 + 1, none⟩ = some (R d) := (HT3.out.rcell hd).1
    have r2 : (W3.alloc (.cells #[.string nm, .int .i64 (nd : Int), .bool false, .int .i64 ck, .int .i64 sh] 46)).drew.cell? ⟨b, d * 2 + 1, none⟩ = some (R d) := (HTA.out.rcell hd).1
    have HK : Hid (∀ w9, (W3.alloc (.cells #[.string nm, .int .i64 (nd : Int), .bool false, .int .i64 ck, .int .i64 sh] 46)).drew.grownBy w9 (R d).ownBlock → w9.cell? ⟨b, d * 2 + 1, none⟩ = some (R d) ∧ w9.frozen? ⟨b, d * 2 + 1, none⟩ = false) := Lib.hid (fun w9 hg => by
      obtain ⟨cs, hc, ho⟩ := HTA.out.cells
      have hne : some b ≠ (R d).ownBlock := fun e => by
        have := ((HTA.out.rows d hd).lt b e.symm).1
        omega
      have hc2 := (hg.block b (lt_of_get hc) hne).trans hc
      exact ⟨by rw [cell_of_row _ _ _ _ _ _ hc2, ho.row d hd], Lib.frozen_of_heap hc2 _⟩)
    clear hba hbb
    obtain ⟨ad, cap, hrd⟩ := (HT3.out.ents hd).len
    have HRD := Lib.hid hrd
    obtain ⟨n, hn⟩ : ∃ n, (E d).length = n := ⟨_, rfl⟩
    have HN := Lib.hid hn
    rw [hn] at hrd
    rw [hrd] at r1 r2
    have HKR : Hid (R d = .slice ad n cap) := Lib.hid hrd
    clear hrd hn
    go_region_law (first | (refine step_append_lst entElem rfl _ _ rfl (b + 1) (.slice ad n cap) n ((E d).flatMap entC) rfl (by have := HTA.out.rows d hd; rw [HKR.out, HN.out] at this; exact this) (.slice (some ⟨W3.heap.size, 0, none⟩) 1 1) [⟨nm, (nd : Int), false, ck, sh⟩] (entC_len _) (fun y _ => entC_one y) rfl HLA.out (by have := HL.out; have := HN.out; simp only [List.length_singleton]; omega) HSA.out ?_; intro v9 w9 hown9 hgrow9 hat9; obtain ⟨q9, f9⟩ := HK.out w9 (by rw [HKR.out]; exact hgrow9); obtain ⟨av9, cv9, hv9⟩ := ownsRow_slice hown9; subst hv9))
    all_goals
      go_end0
      have hgg : W3.grownBy w9 (R d).ownBlock := by rw [HKR.out]; exact grown_of_below HBA.out hgrow9
      obtain ⟨g1, g2⟩ := HT3.out.setRow hd (l := E d ++ [⟨nm, (nd : Int), false, ck, sh⟩]) hgg (r := .slice av9 _ cv9) (by rw [List.length_append, List.flatMap_append, HN.out]; simpa using hown9) (fun k hk => by
        rcases hat9 with h9 | h9
        · exact Or.inl (by rw [HKR.out, ← h9]; exact hk)
        · right
          rw [show (Value.slice av9 (n + 1) cv9).ownBlock = some _ from h9] at hk
          have := Option.some.inj hk
          have := HBA.out.size
          omega)
      exact ⟨_, rfl, g1, HR3.out.trans g2⟩
  | true =>
    go_big_region
    obtain ⟨W2, hW2⟩ : ∃ W2, (W1.setCell ⟨b, nd * 2, none⟩ (.int .i64 1)).drew = W2 := ⟨_, rfl⟩
    have HT2 : Hid (TM W2 b (upd K nd 1) E R u v ys c) := Lib.hid (by rw [← hW2]; exact (HT1.out.setKind hnd 1).below (Below.refl _ _).drew)
    have HQ2 : Hid (W2.heap[q]? = some (.cells #[.string nm, .int .i64 (nd : Int), .bool true, .int .i64 ck, .int .i64 sh] 46 (0, 0))) := Lib.hid (by rw [← hW2]; show (W1.setCell _ _).heap[q]? = _; rw [Below.heap_setCell _ _ _ _ (by show q ≠ b; omega)]; exact HE2.out)
    have HR2 : Hid (Trod W1 W2 (Foot b R v) (Foot b R v)) := Lib.hid (by rw [← hW2]; exact (HT1.out.trod_cell _ _ R v (fun k hk => Or.inl hk)).trans (Trod.of_below (Below.refl _ _).drew))
    obtain ⟨⟨d0, d1, d2, d3, d4⟩, _⟩ := five_cells (W := W2) HQ2.out
    go_upto_region 4 with fail
    clear a0 a1 a2 a3 a4 k0 k1 k2 k3 d0 d1 d2 d3 d4
    clear hW2
    obtain ⟨⟨a0, a1, a2, a3, a4⟩, _⟩ := five_cells (W := W2.drew) HQ2.out
    obtain ⟨k0, k1⟩ := HT2.out.kcell hnd
    have k2 : W2.drew.cell? ⟨b, nd * 2, none⟩ = some (.int .i64 (upd K nd 1 nd)) := k0
    have k3 : W2.drew.frozen? ⟨b, nd * 2, none⟩ = false := k1
    go_big_region
    have HE3' := Lib.hid (by rw [← HQ.out] at HE3; exact HE3.out : Below w.heap.size w W1)
    obtain ⟨W3, hW3⟩ : ∃ W3, (W2.setCell ⟨b, nd * 2, none⟩ (.int .i64 2)).drew = W3 := ⟨_, rfl⟩
    have HT3 : Hid (TM W3 b (upd K nd (kindOf true)) E R u v ys c) := Lib.hid (by rw [← hW3]; have := (HT2.out.setKind hnd 2).below (Below.refl _ _).drew; rw [upd_upd] at this; exact this)
    have HQ3 : Hid (W3.heap[q]? = some (.cells #[.string nm, .int .i64 (nd : Int), .bool true, .int .i64 ck, .int .i64 sh] 46 (0, 0))) := Lib.hid (by rw [← hW3]; show (W2.setCell _ _).heap[q]? = _; rw [Below.heap_setCell _ _ _ _ (by show q ≠ b; omega)]; exact HQ2.out)
    have HR3 : Hid (Trod w W3 (Foot b R v) (Foot b R v)) := Lib.hid (by rw [← hW3]; exact (((Trod.of_below HE3'.out).trans HR2.out).trans (HT2.out.trod_cell _ _ R v (fun k hk => Or.inl hk))).trans (Trod.of_below (Below.refl _ _).drew))
    obtain ⟨⟨d0, d1, d2, d3, d4⟩, _⟩ := five_cells (W := W3) HQ3.out
    go_upto_region 5 with fail
    clear a0 a1 a2 a3 a4 k0 k1 k2 k3 d0 d1 d2 d3 d4
    (try rw [hW3])
    clear hW3
    have hba : Below W3.heap.size W3 (W3.alloc (.cells #[.string nm, .int .i64 (nd : Int), .bool true, .int .i64 ck, .int .i64 sh] 46)).drew := ((Below.refl _ _).alloc (Nat.le_refl _) _).drew
    have hbb : Below W3.heap.size W3 (W3.drew.alloc (.cells #[.string nm, .int .i64 (nd : Int), .bool true, .int .i64 ck, .int .i64 sh] 46)) := ((Below.refl _ _).drew).alloc (Nat.le_refl _) _
    have HBA := Lib.hid hba
    have HTA := Lib.hid (HT3.out.below hba)
    have HTB := Lib.hid (HT3.out.below hbb)
    have HSA : Hid (b + 1 ≤ (W3.alloc (.cells #[.string nm, .int .i64 (nd : Int), .bool true, .int .i64 ck, .int .i64 sh] 46)).drew.heap.size) := Lib.hid HTA.out.blt
    have HLA : Hid (EntsIs (W3.alloc (.cells #[.string nm, .int .i64 (nd : Int), .bool true, .int .i64 ck, .int .i64 sh] 46)).drew (.slice (some ⟨W3.heap.size, 0, none⟩) 1 1) [⟨nm, (nd : Int), true, ck, sh⟩]) := Lib.hid (LstIs.block (T := 46) (fr := (0, 0)) (entC_len _) (heap_alloc_new _ _))
    obtain ⟨⟨a0, a1, a2, a3, a4⟩, _⟩ := five_cells (W := W3.drew) HQ3.out
    have r1 : W3.drew.cell? ⟨b, d * 2 + 1, none⟩ = some (R d) := (HT3.out.rcell hd).1
    have r2 : (W3.alloc (.cells #[.string nm, .int .i64 (nd : Int), .bool true, .int .i64 ck, .int .i64 sh] 46)).drew.cell? ⟨b, d * 2 + 1, none⟩ = some (R d) := (HTA.out.rcell hd).1
    have HK : Hid (∀ w9, (W3.alloc (.cells #[.string nm, .int .i64 (nd : Int), .bool true, .int .i64 ck, .int .i64 sh] 46)).drew.grownBy w9 (R d).ownBlock → w9.cell? ⟨b, d * 2 + 1, none⟩ = some (R d) ∧ w9.frozen? ⟨b, d * 2 + 1, none⟩ = false) := Lib.hid (fun w9 hg => by
      obtain ⟨cs, hc, ho⟩ := HTA.out.cells
      have hne : some b ≠ (R d).ownBlock := fun e => by
        have := ((HTA.out.rows d hd).lt b e.symm).1
        omega
      have hc2 := (hg.block b (lt_of_get hc) hne).trans hc
      exact ⟨by rw [cell_of_row _ _ _ _ _ _ hc2, ho.row d hd], Lib.frozen_of_heap hc2 _⟩)
    clear hba hbb
    obtain ⟨ad, cap, hrd⟩ := (HT3.out.ents hd).len
    have HRD := Lib.hid hrd
    obtain ⟨n, hn⟩ : ∃ n, (E d).length = n := ⟨_, rfl⟩
    have HN := Lib.hid hn
    rw [hn] at hrd
    rw [hrd] at r1 r2
    have HKR : Hid (R d = .slice ad n cap) := Lib.hid hrd
    clear hrd hn
    go_region_law (first | (refine step_append_lst entElem rfl _ _ rfl (b + 1) (.slice ad n cap) n ((E d).flatMap entC) rfl (by have := HTA.out.rows d hd; rw [HKR.out, HN.out] at this; exact this) (.slice (some ⟨W3.heap.size, 0, none⟩) 1 1) [⟨nm, (nd : Int), true, ck, sh⟩] (entC_len _) (fun y _ => entC_one y) rfl HLA.out (by have := HL.out; have := HN.out; simp only [List.length_singleton]; omega) HSA.out ?_; intro v9 w9 hown9 hgrow9 hat9; obtain ⟨q9, f9⟩ := HK.out w9 (by rw [HKR.out]; exact hgrow9); obtain ⟨av9, cv9, hv9⟩ := ownsRow_slice hown9; subst hv9))
    all_goals
      go_end0
      have hgg : W3.grownBy w9 (R d).ownBlock := by rw [HKR.out]; exact grown_of_below HBA.out hgrow9
      obtain ⟨g1, g2⟩ := HT3.out.setRow hd (l := E d ++ [⟨nm, (nd : Int), true, ck, sh⟩]) hgg (r := .slice av9 _ cv9) (by rw [List.length_append, List.flatMap_append, HN.out]; simpa using hown9) (fun k hk => by
        rcases hat9 with h9 | h9
        · exact Or.inl (by rw [HKR.out, ← h9]; exact hk)
        · right
          rw [show (Value.slice av9 (n + 1) cv9).ownBlock = some _ from h9] at hk
          have := Option.some.inj hk
          have := HBA.out.size
          omega)
      exact ⟨_, rfl, g1, HR3.out.trans g2⟩
set_option maxHeartbeats 2000000 in
/-- Behind the others, with the next cookie. -/
theorem treeAdd_c (h : TM w b K E R u v ys c) {d : Nat} (hd : d ≤ 200) (hl : (E d).length ≤ 1000) (x : Ent) {nd : Nat} (hx : x.node = nd) (hnd : nd ≤ 200) (hs : x.name.size ≤ 281474976710656) (hc0 : 0 ≤ c) (hc : c + 1 ≤ 9223372036854775807) :
    Calls Try.prog 30 #[ptrV b, .int .i64 (d : Int), entV x] w (PutPost b K E R u v ys (c + 1) d { x with cookie := c } nd w) := by
  obtain ⟨nm, n0, dr, ck, sh⟩ := x
  simp only at hx hs ⊢
  subst hx
  have hb0 : Below w.heap.size w (w.alloc (.cells #[.string nm, .int .i64 (nd : Int), .bool dr, .int .i64 ck, .int .i64 sh] 46)) := (Below.refl _ w).alloc (Nat.le_refl _) _
  have HQ0 : Hid ((w.alloc (.cells #[.string nm, .int .i64 (nd : Int), .bool dr, .int .i64 ck, .int .i64 sh] 46)).heap[w.heap.size]? = some (.cells #[.string nm, .int .i64 (nd : Int), .bool dr, .int .i64 ck, .int .i64 sh] 46 (0, 0))) := Lib.hid (heap_alloc_new _ _)
  have HB0 := Lib.hid hb0
  have HT0 := Lib.hid h
  have HT := Lib.hid (h.below hb0)
  have HL := Lib.hid hl
  have hbl := h.blt
  obtain ⟨q, hq⟩ : ∃ q, w.heap.size = q := ⟨_, rfl⟩
  have HQ := Lib.hid hq
  unfold entV
  clear h hl hb0
  go_enter Try.func30, Try.ntmps30
  go_upto_region 1 with fail
  generalize (w.alloc (.cells #[.string nm, .int .i64 (nd : Int), .bool dr, .int .i64 ck, .int .i64 sh] 46)) = W0 at *
  (try rw [hq] at HQ0)
  (try rw [hq] at hbl)
  clear hq
  have HQ1 : Hid ((W0.setCell ⟨q, 3, none⟩ (.int .i64 c)).heap[q]? = some (.cells #[.string nm, .int .i64 (nd : Int), .bool dr, .int .i64 c, .int .i64 sh] 46 (0, 0))) := Lib.hid (by
    rw [heap_setCell_same W0 q 3 _ _ _ HQ0.out]
    rfl)
  have HB1 : Hid (Below w.heap.size w (W0.setCell ⟨q, 3, none⟩ (.int .i64 c))) := Lib.hid (HB0.out.setCell (p := ⟨q, 3, none⟩) (by rw [HQ.out]; exact Nat.le_refl _) _)
  have HT1 : Hid (TM (W0.setCell ⟨q, 3, none⟩ (.int .i64 c)) b K E R u v ys c) := Lib.hid (by
    have h0 := HT0.out
    exact h0.kept fun k hk => (HB1.out.block k (h0.lt k hk).2))
  have p0 : W0.cell? ⟨b, 405, none⟩ = some (.int .i64 c) := HT.out.ccell.1
  have p1 : W0.cell? ⟨q, 3, none⟩ = some (.int .i64 ck) := Lib.cell_of_heap HQ0.out 3
  have p2 : W0.frozen? ⟨q, 3, none⟩ = false := Lib.frozen_of_heap HQ0.out 3
  have HQP : Hid (0 = 0) := Lib.hid rfl
  have hwc : IntKind.i64.wrap (c + 1) = c + 1 := by rw [IntKind.wrap_i64]; omega
  go_upto_region 2 with fail
  clear p0 p1 p2
  generalize W0.setCell ⟨q, 3, none⟩ (.int .i64 c) = W1 at *
  have p0 : W1.cell? ⟨b, 405, none⟩ = some (.int .i64 c) := HT1.out.ccell.1
  have p1 : W1.frozen? ⟨b, 405, none⟩ = false := HT1.out.ccell.2
  have HT2 := Lib.hid (HT1.out.setCook (c + 1))
  have HR2 : Hid (Trod w (W1.setCell ⟨b, 405, none⟩ (.int .i64 (c + 1))) (Foot b R v) (Foot b R v)) := Lib.hid ((Trod.of_below HB1.out).trans (HT1.out.trod_cell _ _ R v (fun k hk => Or.inl hk)))
  have HQ2 : Hid ((W1.setCell ⟨b, 405, none⟩ (.int .i64 (c + 1))).heap[q]? = some (.cells #[.string nm, .int .i64 (nd : Int), .bool dr, .int .i64 c, .int .i64 sh] 46 (0, 0))) := Lib.hid (by
    rw [Below.heap_setCell _ _ _ _ (by show q ≠ b; omega)]
    exact HQ1.out)
  obtain ⟨W2, hW2⟩ : ∃ W2, W1.setCell ⟨b, 405, none⟩ (.int .i64 (c + 1)) = W2 := ⟨_, rfl⟩
  rw [hW2] at HT2 HR2 HQ2
  obtain ⟨⟨d0, d1, d2, d3, d4⟩, _⟩ := five_cells (W := W2) HQ2.out
  have cP := put_c HT2.out hd HL.out ⟨nm, (nd : Int), dr, c, sh⟩ rfl hnd hs
  unfold PutPost entV at cP
  go_wp2_with (go_at_call 43; refine cP.mono ?_; rintro e w3 ⟨R3, rfl, h3, hr3⟩; have H3 := Lib.hid h3; have HR3 := Lib.hid hr3; clear h3 hr3)
  go_end0
  exact ⟨R3, rfl, H3.out, HR2.out.trans HR3.out⟩
end
end Go.Proofs.Ytmplekjiciedgaa

namespace Go.Proofs.Ytmplekjiciedgaa
open Go.RowKit Go.Sort
set_option linter.unusedVariables false

/-- Is n below d, at most k steps? -/
def belowG (E : Nat → List Ent) (n : Int) : Nat → Nat → Bool
  | 0, _ => false
  | k + 1, d => (E d).any fun x => decide (x.node = n) || belowG E n k x.node.toNat
/-- A forest: below a node all is lower. -/
structure Lower (E : Nat → List Ent) (H : Nat → Nat) : Prop where
  at' : ∀ d, d ≤ 200 → ∀ x ∈ E d, ∃ nd : Nat, x.node = (nd : Int) ∧ nd ≤ 200 ∧ H nd < H d
  len : ∀ d, d ≤ 200 → (E d).length ≤ 1000
/-- What the closure captured. -/
structure Srch (W : World) (b A B C : Nat) (n : Int) (K : Nat → Int) (E : Nat → List Ent) (R : Nat → Value) (u : Nat) (v : Value) (ys : List Int) (c : Int) : Prop where
  tm : TM W b K E R u v ys c
  a : W.heap[A]? = some (.cells #[ptrV b] 25 (0, 0))
  n : W.heap[B]? = some (.cells #[.int .i64 n] 3 (0, 0))
  f : W.heap[C]? = some (.cells #[.func (.func 46) #[] #[ptrV A, ptrV B, ptrV C]] 78 (0, 0))
theorem Srch.below {W W' : World} {b A B C : Nat} {n : Int} {K : Nat → Int} {E : Nat → List Ent} {R : Nat → Value} {u : Nat} {v : Value} {ys : List Int} {c : Int} (h : Srch W b A B C n K E R u v ys c) (hb : Below W.heap.size W W') : Srch W' b A B C n K E R u v ys c :=
  ⟨h.tm.below hb, (hb.block _ (lt_of_get h.a)).trans h.a, (hb.block _ (lt_of_get h.n)).trans h.n, (hb.block _ (lt_of_get h.f)).trans h.f⟩
set_option maxHeartbeats 4000000 in
set_option maxRecDepth 100000 in
theorem search_c (b A B C : Nat) (n : Int) (K : Nat → Int) (E : Nat → List Ent) (R : Nat → Value) (u : Nat) (v : Value) (ys : List Int) (c : Int) (H : Nat → Nat) (hl : Lower E H) : ∀ (k d : Nat) (W : World), d ≤ 200 → H d < k → Srch W b A B C n K E R u v ys c →
    Calls Try.prog 46 #[.int .i64 (d : Int), ptrV A, ptrV B, ptrV C] W fun e w' => e = .returned (.bool (belowG E n k d)) ∧ Below W.heap.size W w'
  | 0, d, W, hd, hk, hs => absurd hk (Nat.not_lt_zero _)
  | k + 1, d, W, hd, hk, hs => by
    have IH := fun nd W h1 h2 h3 => search_c b A B C n K E R u v ys c H hl k nd W h1 h2 h3
    have HL := Lib.hid hl
    have HS := Lib.hid hs
    obtain ⟨X, hX⟩ : ∃ X, belowG E n (k + 1) d = X := ⟨_, rfl⟩
    have HX : Hid ((E d).any (fun x => decide (x.node = n) || belowG E n k x.node.toNat) = X) := Lib.hid hX
    rw [hX]
    have c0 : W.cell? ⟨A, 0, none⟩ = some (ptrV b) := Lib.cell_of_heap hs.a 0
    have c1 := (hs.tm.rcell hd).1
    have he := hs.tm.ents hd
    obtain ⟨a, cap, hr⟩ := he.len
    obtain ⟨m, hm⟩ : ∃ m, (E d).length = m := ⟨_, rfl⟩
    have HM := Lib.hid hm
    rw [hm] at hr
    rw [hr] at c1 he
    have HE := Lib.hid he
    have hm1 : m ≤ 1000 := by rw [← hm]; exact hl.len d hd
    have hd0 : (0 : Int) ≤ (d : Int) := by omega
    have hd1 : (d : Int) < 201 := by omega
    have HK := Lib.hid hk
    have HD := Lib.hid hd
    clear hX hm hr he hs hl
    go_enter Try.func46, Try.ntmps46
    go_wp2
    clear c0 c1
    go_loopw [16] (fun iv wr => ∃ i : Nat, i ≤ m ∧ iv = .int .i64 i ∧ (((E d).drop i).any fun x => decide (x.node = n) || belowG E n k x.node.toNat) = X ∧ Below W.heap.size W wr) (fun iv _ => m - (intOf iv).toNat)
    case atStart => exact ⟨0, by omega, rfl, HX.out, Below.refl _ _⟩
    case round =>
      obtain ⟨i, hi, rfl, hgo, hb⟩ := hrel
      have HGO := Lib.hid hgo
      have HB := Lib.hid hb
      clear hgo
      by_cases him : i < m
      · have hiz : (i : Int) < (m : Int) := by omega
        obtain ⟨x, hx⟩ : ∃ x, (E d)[i]? = some x := ⟨_, List.getElem?_eq_getElem (by rw [HM.out]; omega)⟩
        obtain ⟨g, off, rfl, hg, hrr⟩ := HE.out.at hx
        obtain ⟨d0, d1, d2, d3, d4⟩ := ent_at (rangeAt_below hrr hg hb)
        have HG : Hid ((((E d).drop i).any fun x => decide (x.node = n) || belowG E n k x.node.toNat) = ((decide (x.node = n) || belowG E n k x.node.toNat) || ((E d).drop (i + 1)).any fun x => decide (x.node = n) || belowG E n k x.node.toNat)) := Lib.hid (by rw [drop_eq_cons hx, List.any_cons])
        obtain ⟨nd, hnd, hnd2, hnd3⟩ := HL.out.at' d HD.out x (List.mem_of_getElem? hx)
        obtain ⟨nm, x1, dr, ck, sh⟩ := x
        simp only at hnd d0 d1 d2 d3 d4 HG
        subst hnd
        rw [Int.toNat_natCast] at HG
        have hbw : Below wr.heap.size wr (wr.alloc (.cells #[.string nm, .int .i64 (nd : Int), .bool dr, .int .i64 ck, .int .i64 sh] 46)) := (Below.refl _ _).alloc (Nat.le_refl _) _
        have hs2 := (HS.out.below hb).below hbw
        have HBW := Lib.hid (hb.trans (hbw.mono hb.size))
        have q1 : (wr.alloc (.cells #[.string nm, .int .i64 (nd : Int), .bool dr, .int .i64 ck, .int .i64 sh] 46)).cell? ⟨B, 0, none⟩ = some (.int .i64 n) := Lib.cell_of_heap hs2.n 0
        have q2 : (wr.alloc (.cells #[.string nm, .int .i64 (nd : Int), .bool dr, .int .i64 ck, .int .i64 sh] 46)).cell? ⟨C, 0, none⟩ = some (.func (.func 46) #[] #[ptrV A, ptrV B, ptrV C]) := Lib.cell_of_heap hs2.f 0
        have cI := IH nd _ hnd2 (by have := HK.out; omega) hs2
        clear IH hrr hg hx hs2 hbw hb
        by_cases hnn : (nd : Int) = n
        · have HE1 : Hid (X = true) := Lib.hid (by rw [← HGO.out, HG.out, decide_eq_true hnn]; rfl)
          have hnb : ((nd : Int) == n) = true := by rw [hnn]; simp
          clear cI hnn
          go_wp2
          go_ret
          exact ⟨by rw [HE1.out]; rfl, HBW.out⟩
        · have hnb : ((nd : Int) == n) = false := beq_eq_false_iff_ne.2 hnn
          cases ht : belowG E n k nd with
          | true =>
            have HE1 : Hid (X = true) := Lib.hid (by rw [← HGO.out, HG.out, ht, Bool.or_true, Bool.true_or])
            rw [ht] at cI
            clear ht hnn
            go_wp2_with (go_at_call 46; refine cI.mono ?_; rintro e w2 ⟨rfl, hb2⟩)
            go_ret
            exact ⟨by rw [HE1.out]; rfl, HBW.out.trans (hb2.mono HBW.out.size)⟩
          | false =>
            have HE1 : Hid ((((E d).drop (i + 1)).any fun x => decide (x.node = n) || belowG E n k x.node.toNat) = X) := Lib.hid (by rw [← HGO.out, HG.out, ht, decide_eq_false hnn]; rfl)
            rw [ht] at cI
            clear ht hnn
            go_wp2_with (go_at_call 46; refine cI.mono ?_; rintro e w2 ⟨rfl, hb2⟩)
            go_roundw
            case rel => exact ⟨i + 1, by omega, by first | rfl | go_num, HE1.out, HBW.out.trans (hb2.mono HBW.out.size)⟩
            case measure => simp [intOf]; omega
      · have hiz : ¬ (i : Int) < (m : Int) := by omega
        have HE1 : Hid (X = false) := Lib.hid (by rw [← HGO.out, List.drop_of_length_le (by rw [HM.out]; omega)]; rfl)
        clear hb IH
        go_wp2
        go_ret
        exact ⟨by rw [HE1.out]; rfl, HB.out⟩
set_option maxHeartbeats 4000000 in
set_option maxRecDepth 100000 in
theorem isBelow_c {w : World} {b : Nat} {K : Nat → Int} {E : Nat → List Ent} {R : Nat → Value} {u : Nat} {v : Value} {ys : List Int} {c : Int} (h : TM w b K E R u v ys c) (H : Nat → Nat) (hl : Lower E H) {d : Nat} (hd : d ≤ 200) (n : Int) :
    Calls Try.prog 34 #[ptrV b, .int .i64 (d : Int), .int .i64 n] w fun e w' => e = .returned (.bool (belowG E n (H d + 1) d)) ∧ Below w.heap.size w w' := by
  have cS := fun W A B C h => search_c b A B C n K E R u v ys c H hl (H d + 1) d W hd (Nat.lt_succ_self _) h
  obtain ⟨X, hX⟩ : ∃ X, belowG E n (H d + 1) d = X := ⟨_, rfl⟩
  rw [hX]
  simp only [hX] at cS
  clear hX
  obtain ⟨A, hA⟩ : ∃ A, w.heap.size = A := ⟨_, rfl⟩
  have HA := Lib.hid hA
  have HT := Lib.hid h
  have s1 : (w.alloc (.cells #[ptrV b] 25)).heap.size = w.heap.size + 1 := by simp
  have s2 : ((w.alloc (.cells #[ptrV b] 25)).alloc (.cells #[.int .i64 n] 3)).heap.size = w.heap.size + 1 + 1 := by simp
  have b1 : Below w.heap.size w (((w.alloc (.cells #[ptrV b] 25)).alloc (.cells #[.int .i64 n] 3)).alloc (.cells #[.nilFunc] 78)) := (((Below.refl _ w).alloc (Nat.le_refl _) _).alloc (by simp) _).alloc (by simp; omega) _
  have e0 : (((w.alloc (.cells #[ptrV b] 25)).alloc (.cells #[.int .i64 n] 3)).alloc (.cells #[.nilFunc] 78)).heap[w.heap.size]? = some (.cells #[ptrV b] 25 (0, 0)) := by
    rw [Below.heap_alloc _ _ _ (by rw [s2]; omega), Below.heap_alloc _ _ _ (by rw [s1]; omega)]
    exact heap_alloc_new _ _
  have e1 : (((w.alloc (.cells #[ptrV b] 25)).alloc (.cells #[.int .i64 n] 3)).alloc (.cells #[.nilFunc] 78)).heap[w.heap.size + 1]? = some (.cells #[.int .i64 n] 3 (0, 0)) := by
    rw [Below.heap_alloc _ _ _ (by rw [s2]; omega), ← s1]
    exact heap_alloc_new _ _
  have e2 : (((w.alloc (.cells #[ptrV b] 25)).alloc (.cells #[.int .i64 n] 3)).alloc (.cells #[.nilFunc] 78)).heap[w.heap.size + 1 + 1]? = some (.cells #[.nilFunc] 78 (0, 0)) := by
    rw [← s2]
    exact heap_alloc_new _ _
  have E0 := Lib.hid e0
  have E1 := Lib.hid e1
  have E2 := Lib.hid e2
  have B1 := Lib.hid b1
  have hd0 : (0 : Int) ≤ (d : Int) := by omega
  clear hl h e0 e1 e2 b1 hA s1 s2
  go_enter Try.func34, Try.ntmps34
  go_upto_region 2 with fail
  generalize ((w.alloc (.cells #[ptrV b] 25)).alloc (.cells #[.int .i64 n] 3)).alloc (.cells #[.nilFunc] 78) = W0 at *
  rw [HA.out] at E0 E1 E2 B1
  (try rw [HA.out])
  have q1 : W0.cell? ⟨A + 1 + 1, 0, none⟩ = some .nilFunc := Lib.cell_of_heap E2.out 0
  have q2 : W0.frozen? ⟨A + 1 + 1, 0, none⟩ = false := Lib.frozen_of_heap E2.out 0
  have HX : Hid (Srch (W0.setCell ⟨A + 1 + 1, 0, none⟩ (.func (.func 46) #[] #[ptrV A, ptrV (A + 1), ptrV (A + 1 + 1)])) b A (A + 1) (A + 1 + 1) n K E R u v ys c) := Lib.hid (by
    have hb2 : Below w.heap.size w (W0.setCell ⟨A + 1 + 1, 0, none⟩ (.func (.func 46) #[] #[ptrV A, ptrV (A + 1), ptrV (A + 1 + 1)])) := by
      rw [HA.out]
      exact B1.out.setCell (p := ⟨A + 1 + 1, 0, none⟩) (by show A ≤ A + 1 + 1; omega) _
    refine ⟨HT.out.below hb2, ?_, ?_, ?_⟩
    · rw [Below.heap_setCell _ _ _ _ (by show A ≠ A + 1 + 1; omega)]
      exact E0.out
    · rw [Below.heap_setCell _ _ _ _ (by show A + 1 ≠ A + 1 + 1; omega)]
      exact E1.out
    · rw [heap_setCell_same W0 (A + 1 + 1) 0 _ _ _ E2.out]
      rfl)
  have HB2 : Hid (Below A w (W0.setCell ⟨A + 1 + 1, 0, none⟩ (.func (.func 46) #[] #[ptrV A, ptrV (A + 1), ptrV (A + 1 + 1)]))) := Lib.hid (B1.out.setCell (p := ⟨A + 1 + 1, 0, none⟩) (by show A ≤ A + 1 + 1; omega) _)
  go_upto_region 3 with fail
  generalize (W0.setCell ⟨A + 1 + 1, 0, none⟩ (.func (.func 46) #[] #[ptrV A, ptrV (A + 1), ptrV (A + 1 + 1)])) = W1 at *
  have q3 : W1.cell? ⟨A + 1 + 1, 0, none⟩ = some (.func (.func 46) #[] #[ptrV A, ptrV (A + 1), ptrV (A + 1 + 1)]) := Lib.cell_of_heap HX.out.f 0
  have cS1 := cS W1 A (A + 1) (A + 1 + 1) HX.out
  clear cS q1 q2
  go_wp2_with (go_at_call 46; refine cS1.mono ?_; rintro e w2 ⟨rfl, hb2⟩)
  go_ret
  exact ⟨rfl, by rw [HA.out]; exact HB2.out.trans (hb2.mono (by have := HB2.out.size; have := HA.out; omega))⟩
end Go.Proofs.Ytmplekjiciedgaa
