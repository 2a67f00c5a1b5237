/-
  The tree's small functions: where a name stands among a node's entries, whether a node can be listed, whether an entry may be.
-/
import Derived.Test.YthaghhleidopeaaTrKit
import Derived.Test.YthaghhleidopeaaTrGood
import Derived.Test.YthaghhleidopeaaR10Put
namespace Go.Proofs.Ythaghhleidopeaa
open Go.RowKit Go.Sort
set_option linter.unusedVariables false

abbrev ptrV (b : Nat) : Value := .pointer (some ⟨b, 0, none⟩)
def placeGo (s : ByteArray) : List Ent → Nat → Int
  | [], _ => -1
  | x :: l, k => if x.name = s then (k : Int) else placeGo s l (k + 1)
/-- The first entry of a name: its place, or -1. -/
def placeI (l : List Ent) (s : ByteArray) : Int := placeGo s l 0
theorem placeGo_spec (s : ByteArray) : ∀ (l : List Ent) (k : Nat), (placeGo s l k = -1 ∧ named l s = none ∧ ∀ x ∈ l, x.name ≠ s) ∨ ∃ (i : Nat) (x : Ent), placeGo s l k = ((k + i : Nat) : Int) ∧ l[i]? = some x ∧ x.name = s ∧ named l s = some x ∧ ∀ y ∈ l.take i, y.name ≠ s
  | [], k => Or.inl ⟨rfl, rfl, fun x hx => by cases hx⟩
  | x :: l, k => by
    unfold placeGo
    by_cases h : x.name = s
    · rw [if_pos h]
      refine Or.inr ⟨0, x, rfl, rfl, h, ?_, fun y hy => by cases hy⟩
      unfold named
      rw [List.find?_cons, decide_eq_true h]
    · rw [if_neg h]
      have hn : named (x :: l) s = named l s := by
        unfold named
        rw [List.find?_cons, decide_eq_false h]
      rcases placeGo_spec s l (k + 1) with ⟨h1, h2, h3⟩ | ⟨i, y, h1, h2, h3, h4, h5⟩
      · exact Or.inl ⟨h1, hn.trans h2, fun y hy => by
          rcases List.mem_cons.1 hy with rfl | hy
          · exact h
          · exact h3 y hy⟩
      · refine Or.inr ⟨i + 1, y, by rw [h1]; omega, by rw [List.getElem?_cons_succ]; exact h2, h3, hn.trans h4, fun z hz => ?_⟩
        rw [List.take_succ_cons] at hz
        rcases List.mem_cons.1 hz with rfl | hz
        · exact h
        · exact h5 z hz
theorem placeI_spec (l : List Ent) (s : ByteArray) : (placeI l s = -1 ∧ named l s = none ∧ ∀ x ∈ l, x.name ≠ s) ∨ ∃ (i : Nat) (x : Ent), placeI l s = (i : Int) ∧ l[i]? = some x ∧ x.name = s ∧ named l s = some x ∧ ∀ y ∈ l.take i, y.name ≠ s := by
  rcases placeGo_spec s l 0 with h | ⟨i, x, h1, h⟩
  · exact Or.inl h
  · exact Or.inr ⟨i, x, by rw [placeI, h1, Nat.zero_add], h⟩
/-- The closure: has an entry this name? -/
theorem sameName_c (e : Ent) (s : ByteArray) (q : Nat) (w : World) (hq : w.heap[q]? = some (.cells #[.string s] 9 (0, 0))) (t : Bool) (ht : decide (e.name = s) = t) :
    Calls Try.prog 65 #[entV e, .pointer (some ⟨q, 0, none⟩)] w fun r w' => r = .returned (.bool t) ∧ Below w.heap.size w w' := by
  obtain ⟨nm, nd, dr, ck, sh⟩ := e
  have c0 : (w.alloc (.cells #[.string nm, .int .i64 nd, .bool dr, .int .i64 ck, .int .i64 sh] 40)).cell? ⟨q, 0, none⟩ = some (.string s) := by
    rw [World.cell?_of_block (w := w) (Below.heap_alloc w _ q (lt_of_get hq)), Lib.cell_of_heap hq]
    rfl
  have HB : Hid (Below w.heap.size w (w.alloc (.cells #[.string nm, .int .i64 nd, .bool dr, .int .i64 ck, .int .i64 sh] 40))) := Lib.hid ((Below.refl _ _).alloc (Nat.le_refl _) _)
  have he : (nm.toList == s.toList) = t := by
    rw [← ht]
    by_cases h : nm = s
    · rw [decide_eq_true h, h]; simp
    · rw [decide_eq_false h]; exact text_ne h
  clear hq ht
  unfold entV
  go_enter Try.func65, Try.ntmps65
  go_wp2
  go_ret
  first | exact ⟨by rw [← he]; rfl, HB.out⟩ | exact ⟨rfl, HB.out⟩
set_option maxHeartbeats 2000000 in
theorem idxPlace_c (v : Value) (l : List Ent) (q : Nat) (s : ByteArray) (w : World) (hv : EntsIs w v l) (hl : l.length ≤ 1000) (hq : w.heap[q]? = some (.cells #[.string s] 9 (0, 0))) :
    Calls Try.prog 64 #[v, .func (.func 65) #[] #[.pointer (some ⟨q, 0, none⟩)]] w fun e w' => e = .returned (.int .i64 (placeI l s)) ∧ Below w.heap.size w w' := by
  obtain ⟨a, cap, rfl⟩ := hv.len
  obtain ⟨n, hn⟩ : ∃ n, l.length = n := ⟨_, rfl⟩
  rw [hn] at hl hv ⊢
  have HV := Lib.hid hv
  have HN := Lib.hid hn
  have HQ := Lib.hid hq
  have cC := fun W e t (h : W.heap[q]? = some (.cells #[.string s] 9 (0, 0))) (ht : decide (e.name = s) = t) => sameName_c e s q W h t ht
  unfold entV at cC
  obtain ⟨X, hX⟩ : ∃ X, placeI l s = X := ⟨_, rfl⟩
  have HX := Lib.hid hX
  rw [hX]
  clear hv hn hq hX
  go_enter Try.func64, Try.ntmps64
  go_wp2
  go_loopw [8] (fun iv wr => ∃ i : Nat, i ≤ n ∧ iv = .int .i64 i ∧ placeGo s (l.drop i) i = X ∧ Below w.heap.size w wr) (fun iv _ => n - (intOf iv).toNat)
  case atStart => exact ⟨0, by omega, rfl, HX.out, Below.refl _ _⟩
  case round =>
    obtain ⟨i, hi, rfl, hgo, hb⟩ := hrel
    have HGO := Lib.hid hgo
    have HB := Lib.hid hb
    clear hgo
    by_cases hin : i < n
    · have hiz : (i : Int) < (n : Int) := by omega
      obtain ⟨x, hx⟩ : ∃ x, l[i]? = some x := ⟨_, List.getElem?_eq_getElem (by rw [HN.out]; omega)⟩
      obtain ⟨g, off, rfl, hg, hr⟩ := HV.out.at hx
      obtain ⟨d0, d1, d2, d3, d4⟩ := ent_at (rangeAt_below hr hg hb)
      have HG : Hid (placeGo s (l.drop i) i = if x.name = s then (i : Int) else placeGo s (l.drop (i + 1)) (i + 1)) := Lib.hid (by rw [drop_eq_cons hx]; rfl)
      obtain ⟨t, ht⟩ : ∃ t, decide (x.name = s) = t := ⟨_, rfl⟩
      have HT := Lib.hid ht
      have cC1 := cC wr x t ((hb.block q (lt_of_get HQ.out)).trans HQ.out) ht
      clear hr hx hg cC hb ht
      cases t with
      | true =>
        have HE : Hid ((i : Int) = X) := Lib.hid (by rw [← HGO.out, HG.out, if_pos (of_decide_eq_true HT.out)])
        go_wp2_with (go_at_call 65; refine cC1.mono ?_; rintro e w2 ⟨rfl, hb2⟩)
        go_ret
        exact ⟨by rw [HE.out]; rfl, HB.out.trans (hb2.mono HB.out.size)⟩
      | false =>
        have HE : Hid (placeGo s (l.drop (i + 1)) (i + 1) = X) := Lib.hid (by rw [← HGO.out, HG.out, if_neg (of_decide_eq_false HT.out)])
        go_wp2_with (go_at_call 65; refine cC1.mono ?_; rintro e w2 ⟨rfl, hb2⟩)
        go_roundw
        case rel => exact ⟨i + 1, by omega, by first | rfl | go_num, HE.out, HB.out.trans (hb2.mono HB.out.size)⟩
        case measure => simp [intOf]; omega
    · have hiz : ¬ (i : Int) < (n : Int) := by omega
      have HE : Hid (X = -1) := Lib.hid (by rw [← HGO.out, List.drop_of_length_le (by rw [HN.out]; omega)]; rfl)
      clear hb cC
      go_wp2
      go_ret
      exact ⟨by rw [HE.out]; rfl, HB.out⟩
section
variable {w : World} {b : Nat} {K : Nat → Int} {E : Nat → List Ent} {R : Nat → Value} {u : Nat} {v : Value} {ys : List Int} {c : Int}
set_option maxHeartbeats 2000000 in
theorem place_c (h : TM w b K E R u v ys c) {d : Nat} (hd : d ≤ 200) (hl : (E d).length ≤ 1000) (s : ByteArray) :
    Calls Try.prog 41 #[ptrV b, .int .i64 (d : Int), .string s] w fun e w' => e = .returned (.int .i64 (placeI (E d) s)) ∧ Below w.heap.size w w' := by
  have hb0 : Below w.heap.size w (w.alloc (.cells #[.string s] 9)) := (Below.refl _ w).alloc (Nat.le_refl _) _
  have HB := Lib.hid hb0
  have c1 := ((h.below hb0).rcell hd).1
  have cI := idxPlace_c (R d) (E d) w.heap.size s (w.alloc (.cells #[.string s] 9)) ((h.below hb0).ents hd) hl (heap_alloc_new _ _)
  obtain ⟨a, cap, hr⟩ := (h.ents hd).len
  generalize placeI (E d) s = X at *
  rw [hr] at c1 cI
  have hd0 : (0 : Int) ≤ (d : Int) := by omega
  have hd1 : (d : Int) < 201 := by omega
  generalize (E d).length = n at *
  clear h hb0 hr
  go_enter Try.func41, Try.ntmps41
  go_wp2_with (go_at_call 64; refine cI.mono ?_; rintro e w2 ⟨rfl, hb2⟩)
  go_ret
  exact ⟨rfl, HB.out.trans (hb2.mono HB.out.size)⟩
def openI (K : Nat → Int) (d : Int) : Int := if d < 0 ∨ 200 < d then 5 else if K d.toNat = 2 then 0 else if K d.toNat = 1 then 8 else 5
theorem openI_ok {d : Int} (h : openI K d = 0) : ∃ n : Nat, d = n ∧ n ≤ 200 ∧ K n = 2 := by
  unfold openI at h
  split at h
  · omega
  · split at h
    · exact ⟨d.toNat, by omega, by omega, by assumption⟩
    · split at h <;> omega
set_option maxHeartbeats 2000000 in
theorem open_c (h : TM w b K E R u v ys c) (d : Int) : Calls Try.prog 33 #[ptrV b, .int .i64 d] w fun e w' => e = .returned (.int .i64 (openI K d)) ∧ w' = w := by
  obtain ⟨X, hX⟩ : ∃ X, openI K d = X := ⟨_, rfl⟩
  rw [hX]
  unfold openI at hX
  by_cases h0 : d < 0
  · have HX : Hid (X = 5) := Lib.hid (by rw [← hX, if_pos (Or.inl h0)])
    clear hX
    go_enter Try.func33, Try.ntmps33
    go_wp2
    go_ret
    exact ⟨by rw [HX.out]; rfl, rfl⟩
  · by_cases h1 : 200 < d
    · have HX : Hid (X = 5) := Lib.hid (by rw [← hX, if_pos (Or.inr h1)])
      clear hX
      go_enter Try.func33, Try.ntmps33
      go_wp2
      go_ret
      exact ⟨by rw [HX.out]; rfl, rfl⟩
    · obtain ⟨n, rfl⟩ : ∃ n : Nat, d = n := ⟨d.toNat, by omega⟩
      have hn : n ≤ 200 := by omega
      have hn1 : (n : Int) < 201 := by omega
      have c1 := (h.kcell hn).1
      rw [if_neg (by omega), Int.toNat_natCast] at hX
      generalize K n = k at *
      by_cases h2 : k = 2
      · have HX : Hid (X = 0) := Lib.hid (by rw [← hX, if_pos h2])
        subst h2
        clear hX h
        go_enter Try.func33, Try.ntmps33
        go_wp2
        go_ret
        exact ⟨by rw [HX.out]; rfl, rfl⟩
      · by_cases h3 : k = 1
        · have HX : Hid (X = 8) := Lib.hid (by rw [← hX, if_neg h2, if_pos h3])
          subst h3
          clear hX h h2
          go_enter Try.func33, Try.ntmps33
          go_wp2
          go_ret
          exact ⟨by rw [HX.out]; rfl, rfl⟩
        · have HX : Hid (X = 5) := Lib.hid (by rw [← hX, if_neg h2, if_neg h3])
          have h2b : (k == 2) = false := beq_eq_false_iff_ne.2 h2
          have h3b : (k == 1) = false := beq_eq_false_iff_ne.2 h3
          clear hX h h2 h3
          go_enter Try.func33, Try.ntmps33
          go_wp2
          go_ret
          exact ⟨by rw [HX.out]; rfl, rfl⟩
theorem askEntry_c (s : ByteArray) (hs : s.size ≤ 9223372036854775807) (sh : Int) (w : World) : Calls Try.prog 59 #[.string s, .int .i64 sh] w fun e w' => e = .returned (.int .i64 (badE s sh)) ∧ Below w.heap.size w w' := by
  have cG := esGood_c s hs w
  obtain ⟨X, hX⟩ : ∃ X, badE s sh = X := ⟨_, rfl⟩
  rw [hX]
  unfold badE at hX
  cases hg : goodB s with
  | false =>
    have HX : Hid (X = 3) := Lib.hid (by rw [← hX, hg]; rfl)
    rw [hg] at cG
    clear hX hg
    go_enter Try.func59, Try.ntmps59
    go_wp2_with (go_at_call 74; refine cG.mono ?_; rintro e w2 ⟨rfl, hb2⟩)
    go_ret
    exact ⟨by rw [HX.out]; rfl, hb2⟩
  | true =>
    rw [hg] at cG hX
    by_cases h0 : sh < 0
    · have HX : Hid (X = 1) := Lib.hid (by rw [← hX, if_pos rfl, if_pos (Or.inl h0)])
      clear hX hg
      go_enter Try.func59, Try.ntmps59
      go_wp2_with (go_at_call 74; refine cG.mono ?_; rintro e w2 ⟨rfl, hb2⟩)
      go_ret
      exact ⟨by rw [HX.out]; rfl, hb2⟩
    · by_cases h1 : 1000000 < sh
      · have HX : Hid (X = 1) := Lib.hid (by rw [← hX, if_pos rfl, if_pos (Or.inr h1)])
        clear hX hg
        go_enter Try.func59, Try.ntmps59
        go_wp2_with (go_at_call 74; refine cG.mono ?_; rintro e w2 ⟨rfl, hb2⟩)
        go_ret
        exact ⟨by rw [HX.out]; rfl, hb2⟩
      · have HX : Hid (X = 0) := Lib.hid (by rw [← hX, if_pos rfl, if_neg (by omega)])
        clear hX hg
        go_enter Try.func59, Try.ntmps59
        go_wp2_with (go_at_call 74; refine cG.mono ?_; rintro e w2 ⟨rfl, hb2⟩)
        go_ret
        exact ⟨by rw [HX.out]; rfl, hb2⟩
def admitsI (K : Nat → Int) (d : Int) (s : ByteArray) (sh : Int) : Int := if openI K d = 0 then badE s sh else openI K d
theorem admits_c (h : TM w b K E R u v ys c) (d : Int) (s : ByteArray) (hs : s.size ≤ 9223372036854775807) (sh : Int) :
    Calls Try.prog 35 #[ptrV b, .int .i64 d, .string s, .int .i64 sh] w fun e w' => e = .returned (.int .i64 (admitsI K d s sh)) ∧ Below w.heap.size w w' := by
  have cO := open_c h d
  have cA := askEntry_c s hs sh w
  obtain ⟨X, hX⟩ : ∃ X, admitsI K d s sh = X := ⟨_, rfl⟩
  rw [hX]
  unfold admitsI at hX
  generalize openI K d = o at *
  generalize badE s sh = a at *
  by_cases h0 : o = 0
  · subst h0
    have HX : Hid (X = a) := Lib.hid (by rw [← hX, if_pos rfl])
    clear hX h
    go_enter Try.func35, Try.ntmps35
    go_wp2_with (first
      | (go_at_call 33; refine cO.mono ?_; rintro e w1 ⟨rfl, rfl⟩)
      | (go_at_call 59; refine cA.mono ?_; rintro e w2 ⟨rfl, hb2⟩))
    go_ret
    exact ⟨by rw [HX.out]; rfl, hb2⟩
  · have HX : Hid (X = o) := Lib.hid (by rw [← hX, if_neg h0])
    have h0b : (o == 0) = false := beq_eq_false_iff_ne.2 h0
    clear hX h h0
    go_enter Try.func35, Try.ntmps35
    go_wp2_with (go_at_call 33; refine cO.mono ?_; rintro e w1 ⟨rfl, rfl⟩)
    go_ret
    exact ⟨by rw [HX.out]; rfl, Below.refl _ _⟩
def hasPlaceI (l : List Ent) (s : ByteArray) (c : Int) : Int := if 0 ≤ placeI l s then 6 else if c < 1 then 12 else 0
theorem hasPlace_c (h : TM w b K E R u v ys c) {d : Nat} (hd : d ≤ 200) (hl : (E d).length ≤ 1000) (s : ByteArray) :
    Calls Try.prog 36 #[ptrV b, .int .i64 (d : Int), .string s] w fun e w' => e = .returned (.int .i64 (hasPlaceI (E d) s c)) ∧ Below w.heap.size w w' := by
  have cP := place_c h hd hl s
  have HC : Hid (∀ W, Below w.heap.size w W → W.cell? ⟨b, 405, none⟩ = some (.int .i64 c)) := Lib.hid (fun W hW => (h.below hW).ccell.1)
  obtain ⟨X, hX⟩ : ∃ X, hasPlaceI (E d) s c = X := ⟨_, rfl⟩
  rw [hX]
  unfold hasPlaceI at hX
  generalize placeI (E d) s = p at *
  clear h
  by_cases h0 : 0 ≤ p
  · have HX : Hid (X = 6) := Lib.hid (by rw [← hX, if_pos h0])
    clear hX
    go_enter Try.func36, Try.ntmps36
    go_wp2_with (go_at_call 41; refine cP.mono ?_; rintro e w1 ⟨rfl, hb1⟩; have c1 := HC.out w1 hb1)
    go_ret
    exact ⟨by rw [HX.out]; rfl, hb1⟩
  · by_cases h1 : c < 1
    · have HX : Hid (X = 12) := Lib.hid (by rw [← hX, if_neg h0, if_pos h1])
      clear hX
      go_enter Try.func36, Try.ntmps36
      go_wp2_with (go_at_call 41; refine cP.mono ?_; rintro e w1 ⟨rfl, hb1⟩; have c1 := HC.out w1 hb1)
      go_ret
      exact ⟨by rw [HX.out]; rfl, hb1⟩
    · have HX : Hid (X = 0) := Lib.hid (by rw [← hX, if_neg h0, if_neg h1])
      clear hX
      go_enter Try.func36, Try.ntmps36
      go_wp2_with (go_at_call 41; refine cP.mono ?_; rintro e w1 ⟨rfl, hb1⟩; have c1 := HC.out w1 hb1)
      go_ret
      exact ⟨by rw [HX.out]; rfl, hb1⟩
theorem cookie_c (h : TM w b K E R u v ys c) : Calls Try.prog 18 #[ptrV b] w fun e w' => e = .returned (.int .i64 c) ∧ w' = w := by
  have c1 := h.ccell.1
  clear h
  go_enter Try.func18, Try.ntmps18
  go_wp2
  go_ret
  exact ⟨rfl, rfl⟩
theorem nodes_c (h : TM w b K E R u v ys c) : Calls Try.prog 30 #[ptrV b] w fun e w' => e = .returned (.int .i64 (countN 200 (outRow u ys) : Nat)) ∧ ∃ q, w' = w.drewN q := by
  have cO := Emb.out_c w v.ownBlock 200 b v (outRow u ys) w h.poolIs
  clear h
  go_enter Try.func30, Try.ntmps30
  go_wp2_with (go_at_call 55; refine cO.mono ?_; rintro e w1 ⟨rfl, q, rfl⟩)
  go_ret
  exact ⟨rfl, q, rfl⟩
end
end Go.Proofs.Ythaghhleidopeaa
