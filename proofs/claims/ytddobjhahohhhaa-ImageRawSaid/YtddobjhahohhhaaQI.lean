/-
  The tree's Clone; Same of two trees that have the same.
  Prepared for TreeMakes: the last cookie of a directory; whether a tree has a cookie; the numbers that are used.
-/
import Derived.Test.YtddobjhahohhhaaQH
import Derived.Test.YtddobjhahohhhaaQ4
import Derived.Deep.WholeRow
import Derived.Deep.MidRow
import Derived.Laws.EntriesVeiled
namespace Go.Proofs.Ytddobjhahohhhaa
open Go.RowKit Go.Sort
set_option linter.unusedVariables false

def zTree : Array Value := (nilNodes 201 ++ ([.int .i64 0, .int .i64 0, .slice none 0 0, .int .i64 0] : List Value)).toArray
theorem zTree_size : zTree.size = 406 := by
  unfold zTree
  rw [List.size_toArray, List.length_append, nilNodes_len]
  rfl
theorem zero_tree (W : World) : (zeroValue 89).run Try.prog W = .ok (.agg zTree) W := (zero_of_info (P := Try.prog) (t := 89) (v := .agg zTree) (n := 406) (by kernel_rfl)).1 W
theorem Try.infoTreeS : (Try.prog.info? 89).map (·.size) = some 406 := (zero_of_info (P := Try.prog) (t := 89) (v := .agg zTree) (n := 406) (by kernel_rfl)).2
section
variable {w : World} {b : Nat} {K : Nat → Int} {E : Nat → List Ent} {R : Nat → Value} {u : Nat} {v : Value} {ys : List Int} {c : Int}
theorem one_slice {v : Value} (h : ∃ a n cap, v = .slice a n cap) : v.oneCell' = true := by
  obtain ⟨a, n, cap, rfl⟩ := h
  rfl
theorem treeO_one {cs : Array Value} (h : TreeO cs K R u v c) (hr : ∀ n, n ≤ 200 → ∃ a m cap, R n = .slice a m cap) (hv : ∃ a m cap, v = .slice a m cap) : cs.all (·.oneCell') = true := by
  rw [Array.all_eq_true]
  intro k hk
  have hs := h.size
  have key : ∃ x, cs[k]? = some x ∧ x.oneCell' = true := by
    by_cases h1 : k < 402
    · rcases Nat.mod_two_eq_zero_or_one k with h2 | h2
      · exact ⟨_, (by have := h.kind (k / 2) (by omega); rw [show k / 2 * 2 = k by omega] at this; exact this), rfl⟩
      · exact ⟨_, (by have := h.row (k / 2) (by omega); rw [show k / 2 * 2 + 1 = k by omega] at this; exact this), one_slice (hr _ (by omega))⟩
    · have : k = 402 ∨ k = 403 ∨ k = 404 ∨ k = 405 := by omega
      rcases this with rfl | rfl | rfl | rfl
      · exact ⟨_, h.most, rfl⟩
      · exact ⟨_, h.used, rfl⟩
      · exact ⟨_, h.wait, one_slice hv⟩
      · exact ⟨_, h.cook, rfl⟩
  obtain ⟨x, h1, h2⟩ := key
  rw [Array.getElem?_eq_getElem hk] at h1
  rw [Option.some.inj h1]
  exact h2
/-- What a clone has come to: the nodes below n have rows of their own. -/
structure ClI (w0 : World) (W : World) (b2 n : Nat) (K : Nat → Int) (E : Nat → List Ent) (R R' : Nat → Value) (u : Nat) (v : Value) (ys : List Int) (c : Int) : Prop where
  cells : ∃ cs, W.heap[b2]? = some (.cells cs 89 (0, 0)) ∧ TreeO cs K R' u v c
  rows : ∀ j, j < n → W.ownsRow (b2 + 1) 138 5 (R' j) (E j).length ((E j).flatMap entC)
  apart : ∀ i j g, i < n → j < n → (R' i).ownBlock = some g → (R' j).ownBlock = some g → i = j
  rest : ∀ j, n ≤ j → j ≤ 200 → R' j = R j
  own : OwnN (b2 + 1) W v ys
  below : Below w0.heap.size w0 W
  at' : w0.heap.size ≤ b2
end
end Go.Proofs.Ytddobjhahohhhaa

namespace Go.Proofs.Ytddobjhahohhhaa
open Go.RowKit Go.Sort
set_option linter.unusedVariables false

def lastI (l : List Ent) : Int := match l.getLast? with
  | some x => x.cookie
  | none => 0
section
variable {w : World} {b : Nat} {K : Nat → Int} {E : Nat → List Ent} {R : Nat → Value} {u : Nat} {v : Value} {ys : List Int} {c : Int}
set_option maxHeartbeats 2000000 in
theorem lastCookie_c (h : TM w b K E R u v ys c) {d : Nat} (hd : d ≤ 200) (hl : (E d).length ≤ 1000) : Calls Try.prog 99 #[ptrV b, .int .i64 (d : Int)] w fun e w' => e = .returned (.int .i64 (lastI (E d))) ∧ w' = w := by
  have c1 := (h.rcell hd).1
  have he := h.ents hd
  obtain ⟨a, cap, hr⟩ := he.len
  obtain ⟨X, hX⟩ : ∃ X, lastI (E d) = X := ⟨_, rfl⟩
  rw [hX]
  rw [hr] at c1 he
  have hd0 : (0 : Int) ≤ (d : Int) := by omega
  have hd1 : (d : Int) < 201 := by omega
  cases hm : (E d).length with
  | zero =>
    have HX : Hid (X = 0) := Lib.hid (by rw [← hX, List.eq_nil_of_length_eq_zero hm]; rfl)
    rw [hm] at c1
    clear h he hr hX hl hm
    go_enter Try.func99, Try.ntmps99
    go_wp2
    go_ret
    exact ⟨by rw [HX.out]; rfl, rfl⟩
  | succ m =>
    obtain ⟨x, hx⟩ : ∃ x, (E d)[m]? = some x := ⟨_, List.getElem?_eq_getElem (by omega)⟩
    have HX : Hid (X = x.cookie) := Lib.hid (by
      rw [← hX]
      unfold lastI
      rw [List.getLast?_eq_getElem?, hm, Nat.add_sub_cancel, hx])
    obtain ⟨g, off, rfl, hg, hrg⟩ := he.at hx
    obtain ⟨d0, d1, d2, d3, d4⟩ := ent_at hrg
    rw [hm] at c1
    have hz : ((m : Int) + 1 == 0) = false := by rw [beq_eq_false_iff_ne]; omega
    have hz1 : (m : Int) + 1 - 1 = (m : Int) := by omega
    have hz2 : (m : Int) < (m : Int) + 1 := by omega
    have hz3 : ¬ (m : Int) + 1 = 0 := by omega
    have hw : IntKind.i64.wrap ((m : Int) + 1 - 1) = (m : Int) := by rw [IntKind.wrap_i64]; omega
    have hw2 : IntKind.i64.wrap (m : Int) = (m : Int) := by rw [IntKind.wrap_i64]; omega
    clear h he hr hX hl hm hx hg hrg
    go_enter Try.func99, Try.ntmps99
    go_wp2
    go_ret
    exact ⟨by rw [HX.out]; rfl, rfl⟩
/-- The closure: has an entry this cookie? -/
theorem sameCook_c (e : Ent) (ck : Int) (q : Nat) (w : World) (hq : w.heap[q]? = some (.cells #[.int .i64 ck] 2 (0, 0))) (t : Bool) (ht : decide (e.cookie = ck) = t) :
    Calls Try.prog 113 #[entV e, .pointer (some ⟨q, 0, none⟩)] w fun r w' => r = .returned (.bool t) ∧ Below w.heap.size w w' := by
  obtain ⟨nm, nd, dr, c0, sh⟩ := e
  have p0 : (w.alloc (.cells #[.string nm, .int .i64 nd, .bool dr, .int .i64 c0, .int .i64 sh] 138)).cell? ⟨q, 0, none⟩ = some (.int .i64 ck) := by
    rw [World.cell?_of_block (w := w) (Below.heap_alloc w _ q (lt_of_get hq)), Lib.cell_of_heap hq]
    rfl
  have HB : Hid (Below w.heap.size w (w.alloc (.cells #[.string nm, .int .i64 nd, .bool dr, .int .i64 c0, .int .i64 sh] 138))) := Lib.hid ((Below.refl _ _).alloc (Nat.le_refl _) _)
  have he : (c0 == ck) = t := by rw [← ht]; rfl
  clear hq ht
  unfold entV
  go_enter Try.func113, Try.ntmps113
  go_wp2
  go_ret
  first | exact ⟨by rw [← he]; rfl, HB.out⟩ | exact ⟨rfl, HB.out⟩
def posC (ck : Int) : List Ent → Nat → Int
  | [], _ => -1
  | x :: l, k => if x.cookie = ck then (k : Int) else posC ck l (k + 1)
theorem posC_any (ck : Int) : ∀ (l : List Ent) (k : Nat), -1 ≤ posC ck l k ∧ (0 ≤ posC ck l k ↔ l.any (fun x => decide (x.cookie = ck)) = true)
  | [], k => by unfold posC; simp
  | x :: l, k => by
    unfold posC
    rw [List.any_cons]
    by_cases h : x.cookie = ck
    · rw [if_pos h]; simp [h] <;> omega
    · rw [if_neg h]
      have := posC_any ck l (k + 1)
      simp only [decide_eq_false h, Bool.false_or]
      exact this
set_option maxHeartbeats 2000000 in
theorem idxCook_c (v : Value) (l : List Ent) (q : Nat) (s : Int) (w : World) (hv : EntsIs w v l) (hl : l.length ≤ 1000) (hq : w.heap[q]? = some (.cells #[.int .i64 s] 2 (0, 0))) :
    Calls Try.prog 108 #[v, .func (.func 113) #[] #[.pointer (some ⟨q, 0, none⟩)]] w fun e w' => e = .returned (.int .i64 (posC s l 0)) ∧ Below w.heap.size w w' := by
  obtain ⟨a, cap, rfl⟩ := hv.len
  obtain ⟨n, hn⟩ : ∃ n, l.length = n := ⟨_, rfl⟩
  rw [hn] at hl hv ⊢
  have HV := Lib.hid hv
  have HN := Lib.hid hn
  have HQ := Lib.hid hq
  have cC := fun W e t (h : W.heap[q]? = some (.cells #[.int .i64 s] 2 (0, 0))) (ht : decide (e.cookie = s) = t) => sameCook_c e s q W h t ht
  unfold entV at cC
  obtain ⟨X, hX⟩ : ∃ X, posC s l 0 = X := ⟨_, rfl⟩
  have HX := Lib.hid hX
  rw [hX]
  clear hv hn hq hX
  go_enter Try.func108, Try.ntmps108
  go_wp2
  go_loopw [8] (fun iv wr => ∃ i : Nat, i ≤ n ∧ iv = .int .i64 i ∧ posC s (l.drop i) i = X ∧ Below w.heap.size w wr) (fun iv _ => n - (intOf iv).toNat)
  case atStart => exact ⟨0, by omega, rfl, HX.out, Below.refl _ _⟩
  case round =>
    obtain ⟨i, hi, rfl, hgo, hb⟩ := hrel
    have HGO := Lib.hid hgo
    have HB := Lib.hid hb
    clear hgo
    by_cases hin : i < n
    · have hiz : (i : Int) < (n : Int) := by omega
      obtain ⟨x, hx⟩ : ∃ x, l[i]? = some x := ⟨_, List.getElem?_eq_getElem (by rw [HN.out]; omega)⟩
      obtain ⟨g, off, rfl, hg, hr⟩ := HV.out.at hx
      obtain ⟨d0, d1, d2, d3, d4⟩ := ent_at (rangeAt_below hr hg hb)
      have HG : Hid (posC s (l.drop i) i = if x.cookie = s then (i : Int) else posC s (l.drop (i + 1)) (i + 1)) := Lib.hid (by rw [drop_eq_cons hx]; rfl)
      obtain ⟨t, ht⟩ : ∃ t, decide (x.cookie = s) = t := ⟨_, rfl⟩
      have HT := Lib.hid ht
      have cC1 := cC wr x t ((hb.block q (lt_of_get HQ.out)).trans HQ.out) ht
      clear hr hx hg cC hb ht
      cases t with
      | true =>
        have HE : Hid ((i : Int) = X) := Lib.hid (by rw [← HGO.out, HG.out, if_pos (of_decide_eq_true HT.out)])
        go_wp2_with (go_at_call 113; refine cC1.mono ?_; rintro e w2 ⟨rfl, hb2⟩)
        go_ret
        exact ⟨by rw [HE.out]; rfl, HB.out.trans (hb2.mono HB.out.size)⟩
      | false =>
        have HE : Hid (posC s (l.drop (i + 1)) (i + 1) = X) := Lib.hid (by rw [← HGO.out, HG.out, if_neg (of_decide_eq_false HT.out)])
        go_wp2_with (go_at_call 113; refine cC1.mono ?_; rintro e w2 ⟨rfl, hb2⟩)
        go_roundw
        case rel => exact ⟨i + 1, by omega, by first | rfl | go_num, HE.out, HB.out.trans (hb2.mono HB.out.size)⟩
        case measure => simp [intOf]; omega
    · have hiz : ¬ (i : Int) < (n : Int) := by omega
      have HE : Hid (X = -1) := Lib.hid (by rw [← HGO.out, List.drop_of_length_le (by rw [HN.out]; omega)]; rfl)
      clear hb cC
      go_wp2
      go_ret
      exact ⟨by rw [HE.out]; rfl, HB.out⟩
theorem conCook_c (v : Value) (l : List Ent) (q : Nat) (s : Int) (w : World) (hv : EntsIs w v l) (hl : l.length ≤ 1000) (hq : w.heap[q]? = some (.cells #[.int .i64 s] 2 (0, 0))) (t : Bool) (ht : l.any (fun x => decide (x.cookie = s)) = t) :
    Calls Try.prog 112 #[v, .func (.func 113) #[] #[.pointer (some ⟨q, 0, none⟩)]] w fun e w' => e = .returned (.bool t) ∧ Below w.heap.size w w' := by
  have cI := idxCook_c v l q s w hv hl hq
  have hp := posC_any s l 0
  rw [ht] at hp
  generalize posC s l 0 = p at *
  obtain ⟨a, cap, rfl⟩ := hv.len
  have HT : Hid (decide (0 ≤ p) = t) := Lib.hid (by
    cases t with
    | true => exact decide_eq_true (hp.2.2 rfl)
    | false => exact decide_eq_false (fun h => by simpa using hp.2.1 h))
  clear hv hq ht hp
  go_enter Try.func112, Try.ntmps112
  go_wp2_with (go_at_call 108; refine cI.mono ?_; rintro e w1 ⟨rfl, hb1⟩)
  go_ret
  exact ⟨by rw [← HT.out]; rfl, hb1⟩
/-- The closure: has a node an entry of this cookie? -/
theorem nodeHas_c (k : Int) (v : Value) (l : List Ent) (q : Nat) (s : Int) (w : World) (hv : EntsIs w v l) (hl : l.length ≤ 1000) (hq : w.heap[q]? = some (.cells #[.int .i64 s] 2 (0, 0))) (t : Bool) (ht : l.any (fun x => decide (x.cookie = s)) = t) :
    Calls Try.prog 111 #[.agg #[.int .i64 k, v], .pointer (some ⟨q, 0, none⟩)] w fun e w' => e = .returned (.bool t) ∧ Below w.heap.size w w' := by
  obtain ⟨a, cap, rfl⟩ := hv.len
  have hb0 : Below w.heap.size w (w.alloc (.cells #[.int .i64 k, .slice a l.length cap] 86)) := (Below.refl _ _).alloc (Nat.le_refl _) _
  have HB := Lib.hid hb0
  have cC := conCook_c (.slice a l.length cap) l q s _ (LstIs.kept hv hb0) hl ((hb0.block q (lt_of_get hq)).trans hq) t ht
  clear hv hq ht hb0
  go_enter Try.func111, Try.ntmps111
  go_wp2_with (go_at_call 112; refine cC.mono ?_; rintro e w1 ⟨rfl, hb1⟩)
  go_ret
  exact ⟨rfl, HB.out.trans (hb1.mono HB.out.size)⟩
/-- The first node from k on, among f, that has an entry of this cookie. -/
def posN (E : Nat → List Ent) (ck : Int) : Nat → Nat → Int
  | 0, _ => -1
  | f + 1, k => if (E k).any (fun x => decide (x.cookie = ck)) = true then (k : Int) else posN E ck f (k + 1)
theorem posN_any (E : Nat → List Ent) (ck : Int) : ∀ (f k : Nat), (0 ≤ posN E ck f k ↔ ∃ n, k ≤ n ∧ n < k + f ∧ (E n).any (fun x => decide (x.cookie = ck)) = true)
  | 0, k => by
    unfold posN
    constructor
    · intro h; omega
    · rintro ⟨n, h1, h2, _⟩; omega
  | f + 1, k => by
    unfold posN
    by_cases h : (E k).any (fun x => decide (x.cookie = ck)) = true
    · rw [if_pos h]
      exact ⟨fun _ => ⟨k, Nat.le_refl _, by omega, h⟩, fun _ => by omega⟩
    · rw [if_neg h, posN_any E ck f (k + 1)]
      constructor
      · rintro ⟨n, h1, h2, h3⟩; exact ⟨n, by omega, by omega, h3⟩
      · rintro ⟨n, h1, h2, h3⟩
        have : n ≠ k := fun e => h (e ▸ h3)
        exact ⟨n, by omega, by omega, h3⟩
set_option maxHeartbeats 2000000 in
theorem idxNode_c (h : TM w b K E R u v ys c) (hE : ∀ n, n ≤ 200 → (E n).length ≤ 1000) (q : Nat) (s : Int) (hq : w.heap[q]? = some (.cells #[.int .i64 s] 2 (0, 0))) :
    Calls Try.prog 117 #[.slice (some ⟨b, 0, none⟩) 201 201, .func (.func 111) #[] #[.pointer (some ⟨q, 0, none⟩)]] w fun e w' => e = .returned (.int .i64 (posN E s 201 0)) ∧ Below w.heap.size w w' := by
  have HV := Lib.hid h
  have HQ := Lib.hid hq
  have HL := Lib.hid hE
  have cC := fun (W : World) k x l t (h1 : EntsIs W x l) h2 h3 ht => nodeHas_c k x l q s W h1 h2 h3 t ht
  obtain ⟨X, hX⟩ : ∃ X, posN E s 201 0 = X := ⟨_, rfl⟩
  have HX := Lib.hid hX
  rw [hX]
  clear h hq hX hE
  go_enter Try.func117, Try.ntmps117
  go_wp2
  go_loopw [8] (fun iv wr => ∃ i : Nat, i ≤ 201 ∧ iv = .int .i64 i ∧ posN E s (201 - i) i = X ∧ Below w.heap.size w wr) (fun iv _ => 201 - (intOf iv).toNat)
  case atStart => exact ⟨0, by omega, rfl, HX.out, Below.refl _ _⟩
  case round =>
    obtain ⟨i, hi, rfl, hgo, hb⟩ := hrel
    have HGO := Lib.hid hgo
    have HB := Lib.hid hb
    clear hgo
    by_cases hin : i < 201
    · have hiz : (i : Int) < 201 := by omega
      have d0 := ((HV.out.below hb).kcell (n := i) (by omega)).1
      have d1 := ((HV.out.below hb).rcell (n := i) (by omega)).1
      have HG : Hid (posN E s (201 - i) i = if (E i).any (fun x => decide (x.cookie = s)) = true then (i : Int) else posN E s (201 - (i + 1)) (i + 1)) := Lib.hid (by rw [show 201 - i = (201 - (i + 1)) + 1 by omega]; rfl)
      obtain ⟨t, ht⟩ : ∃ t, (E i).any (fun x => decide (x.cookie = s)) = t := ⟨_, rfl⟩
      have HT := Lib.hid ht
      have cC1 := cC wr (K i) (R i) (E i) t ((HV.out.below hb).ents (by omega)) (HL.out i (by omega)) ((hb.block q (lt_of_get HQ.out)).trans HQ.out) ht
      clear cC hb ht
      cases t with
      | true =>
        have HE : Hid ((i : Int) = X) := Lib.hid (by rw [← HGO.out, HG.out, if_pos HT.out])
        go_wp2_with (go_at_call 111; refine cC1.mono ?_; rintro e w2 ⟨rfl, hb2⟩)
        go_ret
        exact ⟨by rw [HE.out]; rfl, HB.out.trans (hb2.mono HB.out.size)⟩
      | false =>
        have HE : Hid (posN E s (201 - (i + 1)) (i + 1) = X) := Lib.hid (by rw [← HGO.out, HG.out, if_neg (by rw [HT.out]; decide)])
        go_wp2_with (go_at_call 111; refine cC1.mono ?_; rintro e w2 ⟨rfl, hb2⟩)
        go_roundw
        case rel => exact ⟨i + 1, by omega, by first | rfl | go_num, HE.out, HB.out.trans (hb2.mono HB.out.size)⟩
        case measure => simp [intOf]; omega
    · have hiz : ¬ (i : Int) < 201 := by omega
      have HE : Hid (X = -1) := Lib.hid (by rw [← HGO.out, show 201 - i = 0 by omega]; rfl)
      clear hb cC
      go_wp2
      go_ret
      exact ⟨by rw [HE.out]; rfl, HB.out⟩
def hasCk (E : Nat → List Ent) (s : Int) : Prop := ∃ n, n ≤ 200 ∧ (E n).any (fun x => decide (x.cookie = s)) = true
theorem conNode_c (h : TM w b K E R u v ys c) (hE : ∀ n, n ≤ 200 → (E n).length ≤ 1000) (q : Nat) (s : Int) (hq : w.heap[q]? = some (.cells #[.int .i64 s] 2 (0, 0))) (t : Bool) (ht : t = true ↔ hasCk E s) :
    Calls Try.prog 110 #[.slice (some ⟨b, 0, none⟩) 201 201, .func (.func 111) #[] #[.pointer (some ⟨q, 0, none⟩)]] w fun e w' => e = .returned (.bool t) ∧ Below w.heap.size w w' := by
  have cI := idxNode_c h hE q s hq
  have hp := posN_any E s 201 0
  generalize posN E s 201 0 = p at *
  have HT : Hid (decide (0 ≤ p) = t) := Lib.hid (by
    cases t with
    | true =>
      obtain ⟨n, h1, h2⟩ := ht.1 rfl
      exact decide_eq_true (hp.2 ⟨n, by omega, by omega, h2⟩)
    | false => exact decide_eq_false (fun h => by
        obtain ⟨n, h1, h2, h3⟩ := hp.1 h
        exact absurd (ht.2 ⟨n, by omega, h3⟩) (by decide)))
  clear h hE hq ht hp
  go_enter Try.func110, Try.ntmps110
  go_wp2_with (go_at_call 117; refine cI.mono ?_; rintro e w1 ⟨rfl, hb1⟩)
  go_ret
  exact ⟨by rw [← HT.out]; rfl, hb1⟩
theorem hasCookie_c (h : TM w b K E R u v ys c) (hE : ∀ n, n ≤ 200 → (E n).length ≤ 1000) (s : Int) (t : Bool) (ht : t = true ↔ hasCk E s) :
    Calls Try.prog 100 #[ptrV b, .int .i64 s] w fun e w' => e = .returned (.bool t) ∧ Below w.heap.size w w' := by
  have hb0 : Below w.heap.size w (w.alloc (.cells #[.int .i64 s] 2)) := (Below.refl _ _).alloc (Nat.le_refl _) _
  have HB := Lib.hid hb0
  have cC := conNode_c (h.below hb0) hE w.heap.size s (heap_alloc_new _ _) t ht
  clear h hE ht hb0
  go_enter Try.func100, Try.ntmps100
  go_wp2_with (go_at_call 110; refine cC.mono ?_; rintro e w1 ⟨rfl, hb1⟩)
  go_ret
  exact ⟨rfl, HB.out.trans (hb1.mono HB.out.size)⟩
end
end Go.Proofs.Ytddobjhahohhhaa
