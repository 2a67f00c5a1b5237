/-
  The tree's Clone; Same of two trees that have the same.
  Prepared for TreeMakes: the last cookie of a directory; whether a tree has a cookie; the numbers that are used.
-/
import Derived.Test.YtddobjhahohhhaaGreatQH
import Derived.Test.YtddobjhahohhhaaGreatQ4
import Derived.Deep.WholeRow
import Derived.Deep.MidRow
import Derived.Laws.EntriesVeiled
namespace Go.Proofs.YtddobjhahohhhaaGreat
open Go.RowKit Go.Sort
set_option linter.unusedVariables false

def zTree : Array Value := (nilNodes 201 ++ ([.int .i64 0, .int .i64 0, .slice none 0 0, .int .i64 0] : List Value)).toArray
theorem zTree_size : zTree.size = 406 := by
  unfold zTree
  rw [List.size_toArray, List.length_append, nilNodes_len]
  rfl
theorem zero_tree (W : World) : (zeroValue 96).run Tryz.prog W = .ok (.agg zTree) W := (zero_of_info (P := Tryz.prog) (t := 96) (v := .agg zTree) (n := 406) (by kernel_rfl)).1 W
theorem Tryz.infoTreeS : (Tryz.prog.info? 96).map (·.size) = some 406 := (zero_of_info (P := Tryz.prog) (t := 96) (v := .agg zTree) (n := 406) (by kernel_rfl)).2
section
variable {w : World} {b : Nat} {K : Nat → Int} {E : Nat → List Ent} {R : Nat → Value} {u : Nat} {v : Value} {ys : List Int} {c : Int}
theorem one_slice {v : Value} (h : ∃ a n cap, v = .slice a n cap) : v.oneCell' = true := by
  obtain ⟨a, n, cap, rfl⟩ := h
  rfl
theorem treeO_one {cs : Array Value} (h : TreeO cs K R u v c) (hr : ∀ n, n ≤ 200 → ∃ a m cap, R n = .slice a m cap) (hv : ∃ a m cap, v = .slice a m cap) : cs.all (·.oneCell') = true := by
  rw [Array.all_eq_true]
  intro k hk
  have hs := h.size
  have key : ∃ x, cs[k]? = some x ∧ x.oneCell' = true := by
    by_cases h1 : k < 402
    · rcases Nat.mod_two_eq_zero_or_one k with h2 | h2
      · exact ⟨_, (by have := h.kind (k / 2) (by omega); rw [show k / 2 * 2 = k by omega] at this; exact this), rfl⟩
      · exact ⟨_, (by have := h.row (k / 2) (by omega); rw [show k / 2 * 2 + 1 = k by omega] at this; exact this), one_slice (hr _ (by omega))⟩
    · have : k = 402 ∨ k = 403 ∨ k = 404 ∨ k = 405 := by omega
      rcases this with rfl | rfl | rfl | rfl
      · exact ⟨_, h.most, rfl⟩
      · exact ⟨_, h.used, rfl⟩
      · exact ⟨_, h.wait, one_slice hv⟩
      · exact ⟨_, h.cook, rfl⟩
  obtain ⟨x, h1, h2⟩ := key
  rw [Array.getElem?_eq_getElem hk] at h1
  rw [Option.some.inj h1]
  exact h2
/-- What a clone has come to: the nodes below n have rows of their own. -/
structure ClI (w0 : World) (W : World) (b2 n : Nat) (K : Nat → Int) (E : Nat → List Ent) (R R' : Nat → Value) (u : Nat) (v : Value) (ys : List Int) (c : Int) : Prop where
  cells : ∃ cs, W.heap[b2]? = some (.cells cs 96 (0, 0)) ∧ TreeO cs K R' u v c
  rows : ∀ j, j < n → W.ownsRow (b2 + 1) 84 5 (R' j) (E j).length ((E j).flatMap entC)
  apart : ∀ i j g, i < n → j < n → (R' i).ownBlock = some g → (R' j).ownBlock = some g → i = j
  rest : ∀ j, n ≤ j → j ≤ 200 → R' j = R j
  own : OwnN (b2 + 1) W v ys
  below : Below w0.heap.size w0 W
  at' : w0.heap.size ≤ b2
set_option maxHeartbeats 4000000 in
/-- The library's Equal of two rows of the same entries. -/
theorem eequal_c (v1 v2 : Value) (l : List Ent) (w : World) (h1 : EntsIs w v1 l) (h2 : EntsIs w v2 l) (hl : l.length ≤ 100000) :
    Calls Tryz.prog 32 #[v1, v2] w fun e w' => e = .returned (.bool true) ∧ ∃ q, w' = w.drewN q := by
  obtain ⟨a1, cap1, rfl⟩ := h1.len
  obtain ⟨a2, cap2, rfl⟩ := h2.len
  have H1 := Lib.hid h1
  have H2 := Lib.hid h2
  obtain ⟨n1, hn1⟩ : ∃ n, l.length = n := ⟨_, rfl⟩
  have HN1 := Lib.hid hn1
  rw [hn1] at hl ⊢
  clear h1 h2 hn1
  go_enter Tryz.func32, Tryz.ntmps32
  go_wp2
  go_loopw [13] (fun iv wr => ∃ i : Nat, i ≤ n1 ∧ iv = .int .i64 i ∧ ∃ q, wr = w.drewN q) (fun iv _ => n1 - (intOf iv).toNat)
  case atStart => exact ⟨0, by omega, rfl, 0, rfl⟩
  case round =>
    obtain ⟨i, hi, rfl, q, hq⟩ := hrel
    have HQ := Lib.hid hq
    clear hq
    by_cases hin : i < n1
    · have hiz : (i : Int) < (n1 : Int) := by omega
      obtain ⟨x, hx⟩ : ∃ x, l[i]? = some x := ⟨_, List.getElem?_eq_getElem (by rw [HN1.out]; omega)⟩
      have hb : Below w.heap.size w wr := by rw [HQ.out]; exact below_drewN1 (Below.refl _ _) q
      obtain ⟨g1, o1, rfl, hg1, r1⟩ := (LstIs.kept H1.out hb).at hx
      obtain ⟨g2, o2, rfl, hg2, r2⟩ := (LstIs.kept H2.out hb).at hx
      obtain ⟨d0, d1, d2, d3, d4⟩ := ent_at r1
      obtain ⟨e0, e1, e2, e3, e4⟩ := ent_at r2
      have hcmp := ent_neq x x
      rw [decide_eq_true rfl] at hcmp
      have hgd := fun op a b => ent_guard op a b x x
      clear hx r1 r2 hg1 hg2 hb
      obtain ⟨xn, xa, xb, xc, xd⟩ := x
      simp only at d0 d1 d2 d3 d4 e0 e1 e2 e3 e4
      unfold entV at hcmp hgd
      go_wp2
      go_quiet (fail)
      go_wp2
      go_roundw
      case rel => exact ⟨i + 1, by omega, by first | rfl | go_num, _, by rw [HQ.out, World.drewN_drewN]⟩
      case measure => simp [intOf]; omega
    · have hge : ¬ ((i : Int) < (n1 : Int)) := by omega
      go_wp2
      go_ret
      exact ⟨rfl, q, HQ.out⟩
set_option maxHeartbeats 4000000 in
set_option maxRecDepth 100000 in
/-- Two trees of the same entries, and the same next cookie. -/
theorem treeSame_c {b' : Nat} {K' : Nat → Int} {E' : Nat → List Ent} {R' : Nat → Value} {u' : Nat} {v' : Value} {ys' : List Int} (h : TM w b K E R u v ys c) (h' : TM w b' K' E' R' u' v' ys' c) (hE : ∀ n, n ≤ 200 → E' n = E n) (hl : ∀ n, n ≤ 200 → (E n).length ≤ 1000) :
    Calls Tryz.prog 11 #[ptrV b, ptrV b'] w fun e w' => e = .returned (.bool true) ∧ ∃ q, w' = w.drewN q := by
  have HT := Lib.hid h
  have HT' := Lib.hid h'
  have HE := Lib.hid hE
  have HL := Lib.hid hl
  clear h h' hE hl
  go_enter Tryz.func11, Tryz.ntmps11
  go_wp2
  go_loopw [6] (fun iv wr => ∃ i : Nat, i ≤ 201 ∧ iv = .int .i64 i ∧ ∃ q, wr = w.drewN q) (fun iv _ => 201 - (intOf iv).toNat)
  case atStart => exact ⟨0, by omega, rfl, 0, rfl⟩
  case round =>
    obtain ⟨i, hi, rfl, q, hq⟩ := hrel
    have HQ := Lib.hid hq
    have hb : Below w.heap.size w wr := by rw [hq]; exact below_drewN1 (Below.refl _ _) q
    have ht := HT.out.below hb
    have ht' := HT'.out.below hb
    clear hq hb
    by_cases hin : i ≤ 200
    · have hiz : (i : Int) < 201 := by omega
      have hi0 : (0 : Int) ≤ (i : Int) := by omega
      have c1 := (ht.rcell hin).1
      have c2 := (ht'.rcell hin).1
      have he2 := ht'.ents hin
      rw [HE.out i hin] at he2
      have cS : ∀ p, Calls Tryz.prog 32 #[R i, R' i] (wr.drewN p) fun e w' => e = .returned (.bool true) ∧ ∃ q, w' = (wr.drewN p).drewN q := fun p => eequal_c (R i) (R' i) (E i) (wr.drewN p) (LstIs.kept (ht.ents hin) (below_drewN1 (Below.refl _ _) p)) (LstIs.kept he2 (below_drewN1 (Below.refl _ _) p)) (by have := HL.out i hin; omega)
      obtain ⟨a1, cap1, e1⟩ := (ht.ents hin).len
      obtain ⟨a2, cap2, e2⟩ := he2.len
      rw [e1] at c1 cS
      rw [e2] at c2 cS
      clear ht ht' he2 e1 e2
      go_wp2
      go_quiet ((go_at_call 32; exact Calls.quiet_of (cS _)))
      go_wp2
      go_roundw
      case rel => exact ⟨i + 1, by omega, by first | rfl | go_num, _, by rw [HQ.out, World.drewN_drewN]⟩
      case measure => simp [intOf]; omega
    · have hiz : ¬ (i : Int) < 201 := by omega
      have c1 := ht.ccell.1
      have c2 := ht'.ccell.1
      have hcc : (c == c) = true := by simp
      clear ht ht'
      go_wp2
      go_quiet (fail)
      go_wp2
      go_ret
      exact ⟨rfl, _, by rw [HQ.out, World.drewN_drewN]⟩
end
theorem theSame {w : World} {b b' : Nat} {l : List Itm} {nx : Int} {S S' : Nat → Prop} (h : theTree.Is w b l nx S) (h' : theTree.Is w b' l nx S') : Calls Tryz.prog 11 #[ptrV b, ptrV b'] w fun e w' => e = .returned (.bool true) ∧ Below w.heap.size w w' := by
  obtain ⟨R, u, v, ys, hm, ho, hg, _⟩ := h
  obtain ⟨R', u', v', ys', hm', ho', hg', _⟩ := h'
  refine (treeSame_c hm hm' (fun _ _ => rfl) (fun n hn => Nat.le_trans (hg.elen n) (by omega))).mono ?_
  rintro e w' ⟨rfl, q, rfl⟩
  exact ⟨rfl, below_drewN1 (Below.refl _ _) q⟩
end Go.Proofs.YtddobjhahohhhaaGreat

namespace Go.Proofs.YtddobjhahohhhaaGreat
open Go.RowKit Go.Sort
set_option linter.unusedVariables false

def lastI (l : List Ent) : Int := match l.getLast? with
  | some x => x.cookie
  | none => 0
section
variable {w : World} {b : Nat} {K : Nat → Int} {E : Nat → List Ent} {R : Nat → Value} {u : Nat} {v : Value} {ys : List Int} {c : Int}
set_option maxHeartbeats 2000000 in
theorem lastCookie_c (h : TM w b K E R u v ys c) {d : Nat} (hd : d ≤ 200) (hl : (E d).length ≤ 1000) : Calls Tryz.prog 77 #[ptrV b, .int .i64 (d : Int)] w fun e w' => e = .returned (.int .i64 (lastI (E d))) ∧ w' = w := by
  have c1 := (h.rcell hd).1
  have he := h.ents hd
  obtain ⟨a, cap, hr⟩ := he.len
  obtain ⟨X, hX⟩ : ∃ X, lastI (E d) = X := ⟨_, rfl⟩
  rw [hX]
  rw [hr] at c1 he
  have hd0 : (0 : Int) ≤ (d : Int) := by omega
  have hd1 : (d : Int) < 201 := by omega
  cases hm : (E d).length with
  | zero =>
    have HX : Hid (X = 0) := Lib.hid (by rw [← hX, List.eq_nil_of_length_eq_zero hm]; rfl)
    rw [hm] at c1
    clear h he hr hX hl hm
    go_enter Tryz.func77, Tryz.ntmps77
    go_wp2
    go_ret
    exact ⟨by rw [HX.out]; rfl, rfl⟩
  | succ m =>
    obtain ⟨x, hx⟩ : ∃ x, (E d)[m]? = some x := ⟨_, List.getElem?_eq_getElem (by omega)⟩
    have HX : Hid (X = x.cookie) := Lib.hid (by
      rw [← hX]
      unfold lastI
      rw [List.getLast?_eq_getElem?, hm, Nat.add_sub_cancel, hx])
    obtain ⟨g, off, rfl, hg, hrg⟩ := he.at hx
    obtain ⟨d0, d1, d2, d3, d4⟩ := ent_at hrg
    rw [hm] at c1
    have hz : ((m : Int) + 1 == 0) = false := by rw [beq_eq_false_iff_ne]; omega
    have hz1 : (m : Int) + 1 - 1 = (m : Int) := by omega
    have hz2 : (m : Int) < (m : Int) + 1 := by omega
    have hz3 : ¬ (m : Int) + 1 = 0 := by omega
    have hw : IntKind.i64.wrap ((m : Int) + 1 - 1) = (m : Int) := by rw [IntKind.wrap_i64]; omega
    have hw2 : IntKind.i64.wrap (m : Int) = (m : Int) := by rw [IntKind.wrap_i64]; omega
    clear h he hr hX hl hm hx hg hrg
    go_enter Tryz.func77, Tryz.ntmps77
    go_wp2
    go_ret
    exact ⟨by rw [HX.out]; rfl, rfl⟩
/-- The closure: has an entry this cookie? -/
theorem sameCook_c (e : Ent) (ck : Int) (q : Nat) (w : World) (hq : w.heap[q]? = some (.cells #[.int .i64 ck] 2 (0, 0))) (t : Bool) (ht : decide (e.cookie = ck) = t) :
    Calls Tryz.prog 97 #[entV e, .pointer (some ⟨q, 0, none⟩)] w fun r w' => r = .returned (.bool t) ∧ Below w.heap.size w w' := by
  obtain ⟨nm, nd, dr, c0, sh⟩ := e
  have p0 : (w.alloc (.cells #[.string nm, .int .i64 nd, .bool dr, .int .i64 c0, .int .i64 sh] 84)).cell? ⟨q, 0, none⟩ = some (.int .i64 ck) := by
    rw [World.cell?_of_block (w := w) (Below.heap_alloc w _ q (lt_of_get hq)), Lib.cell_of_heap hq]
    rfl
  have HB : Hid (Below w.heap.size w (w.alloc (.cells #[.string nm, .int .i64 nd, .bool dr, .int .i64 c0, .int .i64 sh] 84))) := Lib.hid ((Below.refl _ _).alloc (Nat.le_refl _) _)
  have he : (c0 == ck) = t := by rw [← ht]; rfl
  clear hq ht
  unfold entV
  go_enter Tryz.func97, Tryz.ntmps97
  go_wp2
  go_ret
  first | exact ⟨by rw [← he]; rfl, HB.out⟩ | exact ⟨rfl, HB.out⟩
def posC (ck : Int) : List Ent → Nat → Int
  | [], _ => -1
  | x :: l, k => if x.cookie = ck then (k : Int) else posC ck l (k + 1)
theorem posC_any (ck : Int) : ∀ (l : List Ent) (k : Nat), -1 ≤ posC ck l k ∧ (0 ≤ posC ck l k ↔ l.any (fun x => decide (x.cookie = ck)) = true)
  | [], k => by unfold posC; simp
  | x :: l, k => by
    unfold posC
    rw [List.any_cons]
    by_cases h : x.cookie = ck
    · rw [if_pos h]; simp [h] <;> omega
    · rw [if_neg h]
      have := posC_any ck l (k + 1)
      simp only [decide_eq_false h, Bool.false_or]
      exact this
set_option maxHeartbeats 2000000 in
theorem idxCook_c (v : Value) (l : List Ent) (q : Nat) (s : Int) (w : World) (hv : EntsIs w v l) (hl : l.length ≤ 1000) (hq : w.heap[q]? = some (.cells #[.int .i64 s] 2 (0, 0))) :
    Calls Tryz.prog 92 #[v, .func (.func 97) #[] #[.pointer (some ⟨q, 0, none⟩)]] w fun e w' => e = .returned (.int .i64 (posC s l 0)) ∧ Below w.heap.size w w' := by
  obtain ⟨a, cap, rfl⟩ := hv.len
  obtain ⟨n, hn⟩ : ∃ n, l.length = n := ⟨_, rfl⟩
  rw [hn] at hl hv ⊢
  have HV := Lib.hid hv
  have HN := Lib.hid hn
  have HQ := Lib.hid hq
  have cC := fun W e t (h : W.heap[q]? = some (.cells #[.int .i64 s] 2 (0, 0))) (ht : decide (e.cookie = s) = t) => sameCook_c e s q W h t ht
  unfold entV at cC
  obtain ⟨X, hX⟩ : ∃ X, posC s l 0 = X := ⟨_, rfl⟩
  have HX := Lib.hid hX
  rw [hX]
  clear hv hn hq hX
  go_enter Tryz.func92, Tryz.ntmps92
  go_wp2
  go_loopw [8] (fun iv wr => ∃ i : Nat, i ≤ n ∧ iv = .int .i64 i ∧ posC s (l.drop i) i = X ∧ Below w.heap.size w wr) (fun iv _ => n - (intOf iv).toNat)
  case atStart => exact ⟨0, by omega, rfl, HX.out, Below.refl _ _⟩
  case round =>
    obtain ⟨i, hi, rfl, hgo, hb⟩ := hrel
    have HGO := Lib.hid hgo
    have HB := Lib.hid hb
    clear hgo
    by_cases hin : i < n
    · have hiz : (i : Int) < (n : Int) := by omega
      obtain ⟨x, hx⟩ : ∃ x, l[i]? = some x := ⟨_, List.getElem?_eq_getElem (by rw [HN.out]; omega)⟩
      obtain ⟨g, off, rfl, hg, hr⟩ := HV.out.at hx
      obtain ⟨d0, d1, d2, d3, d4⟩ := ent_at (rangeAt_below hr hg hb)
      have HG : Hid (posC s (l.drop i) i = if x.cookie = s then (i : Int) else posC s (l.drop (i + 1)) (i + 1)) := Lib.hid (by rw [drop_eq_cons hx]; rfl)
      obtain ⟨t, ht⟩ : ∃ t, decide (x.cookie = s) = t := ⟨_, rfl⟩
      have HT := Lib.hid ht
      have cC1 := cC wr x t ((hb.block q (lt_of_get HQ.out)).trans HQ.out) ht
      clear hr hx hg cC hb ht
      cases t with
      | true =>
        have HE : Hid ((i : Int) = X) := Lib.hid (by rw [← HGO.out, HG.out, if_pos (of_decide_eq_true HT.out)])
        go_wp2_with (go_at_call 97; refine cC1.mono ?_; rintro e w2 ⟨rfl, hb2⟩)
        go_ret
        exact ⟨by rw [HE.out]; rfl, HB.out.trans (hb2.mono HB.out.size)⟩
      | false =>
        have HE : Hid (posC s (l.drop (i + 1)) (i + 1) = X) := Lib.hid (by rw [← HGO.out, HG.out, if_neg (of_decide_eq_false HT.out)])
        go_wp2_with (go_at_call 97; refine cC1.mono ?_; rintro e w2 ⟨rfl, hb2⟩)
        go_roundw
        case rel => exact ⟨i + 1, by omega, by first | rfl | go_num, HE.out, HB.out.trans (hb2.mono HB.out.size)⟩
        case measure => simp [intOf]; omega
    · have hiz : ¬ (i : Int) < (n : Int) := by omega
      have HE : Hid (X = -1) := Lib.hid (by rw [← HGO.out, List.drop_of_length_le (by rw [HN.out]; omega)]; rfl)
      clear hb cC
      go_wp2
      go_ret
      exact ⟨by rw [HE.out]; rfl, HB.out⟩
theorem conCook_c (v : Value) (l : List Ent) (q : Nat) (s : Int) (w : World) (hv : EntsIs w v l) (hl : l.length ≤ 1000) (hq : w.heap[q]? = some (.cells #[.int .i64 s] 2 (0, 0))) (t : Bool) (ht : l.any (fun x => decide (x.cookie = s)) = t) :
    Calls Tryz.prog 96 #[v, .func (.func 97) #[] #[.pointer (some ⟨q, 0, none⟩)]] w fun e w' => e = .returned (.bool t) ∧ Below w.heap.size w w' := by
  have cI := idxCook_c v l q s w hv hl hq
  have hp := posC_any s l 0
  rw [ht] at hp
  generalize posC s l 0 = p at *
  obtain ⟨a, cap, rfl⟩ := hv.len
  have HT : Hid (decide (0 ≤ p) = t) := Lib.hid (by
    cases t with
    | true => exact decide_eq_true (hp.2.2 rfl)
    | false => exact decide_eq_false (fun h => by simpa using hp.2.1 h))
  clear hv hq ht hp
  go_enter Tryz.func96, Tryz.ntmps96
  go_wp2_with (go_at_call 92; refine cI.mono ?_; rintro e w1 ⟨rfl, hb1⟩)
  go_ret
  exact ⟨by rw [← HT.out]; rfl, hb1⟩
/-- The closure: has a node an entry of this cookie? -/
theorem nodeHas_c (k : Int) (v : Value) (l : List Ent) (q : Nat) (s : Int) (w : World) (hv : EntsIs w v l) (hl : l.length ≤ 1000) (hq : w.heap[q]? = some (.cells #[.int .i64 s] 2 (0, 0))) (t : Bool) (ht : l.any (fun x => decide (x.cookie = s)) = t) :
    Calls Tryz.prog 95 #[.agg #[.int .i64 k, v], .pointer (some ⟨q, 0, none⟩)] w fun e w' => e = .returned (.bool t) ∧ Below w.heap.size w w' := by
  obtain ⟨a, cap, rfl⟩ := hv.len
  have hb0 : Below w.heap.size w (w.alloc (.cells #[.int .i64 k, .slice a l.length cap] 87)) := (Below.refl _ _).alloc (Nat.le_refl _) _
  have HB := Lib.hid hb0
  have cC := conCook_c (.slice a l.length cap) l q s _ (LstIs.kept hv hb0) hl ((hb0.block q (lt_of_get hq)).trans hq) t ht
  clear hv hq ht hb0
  go_enter Tryz.func95, Tryz.ntmps95
  go_wp2_with (go_at_call 96; refine cC.mono ?_; rintro e w1 ⟨rfl, hb1⟩)
  go_ret
  exact ⟨rfl, HB.out.trans (hb1.mono HB.out.size)⟩
/-- The first node from k on, among f, that has an entry of this cookie. -/
def posN (E : Nat → List Ent) (ck : Int) : Nat → Nat → Int
  | 0, _ => -1
  | f + 1, k => if (E k).any (fun x => decide (x.cookie = ck)) = true then (k : Int) else posN E ck f (k + 1)
theorem posN_any (E : Nat → List Ent) (ck : Int) : ∀ (f k : Nat), (0 ≤ posN E ck f k ↔ ∃ n, k ≤ n ∧ n < k + f ∧ (E n).any (fun x => decide (x.cookie = ck)) = true)
  | 0, k => by
    unfold posN
    constructor
    · intro h; omega
    · rintro ⟨n, h1, h2, _⟩; omega
  | f + 1, k => by
    unfold posN
    by_cases h : (E k).any (fun x => decide (x.cookie = ck)) = true
    · rw [if_pos h]
      exact ⟨fun _ => ⟨k, Nat.le_refl _, by omega, h⟩, fun _ => by omega⟩
    · rw [if_neg h, posN_any E ck f (k + 1)]
      constructor
      · rintro ⟨n, h1, h2, h3⟩; exact ⟨n, by omega, by omega, h3⟩
      · rintro ⟨n, h1, h2, h3⟩
        have : n ≠ k := fun e => h (e ▸ h3)
        exact ⟨n, by omega, by omega, h3⟩
set_option maxHeartbeats 2000000 in
theorem idxNode_c (h : TM w b K E R u v ys c) (hE : ∀ n, n ≤ 200 → (E n).length ≤ 1000) (q : Nat) (s : Int) (hq : w.heap[q]? = some (.cells #[.int .i64 s] 2 (0, 0))) :
    Calls Tryz.prog 103 #[.slice (some ⟨b, 0, none⟩) 201 201, .func (.func 95) #[] #[.pointer (some ⟨q, 0, none⟩)]] w fun e w' => e = .returned (.int .i64 (posN E s 201 0)) ∧ Below w.heap.size w w' := by
  have HV := Lib.hid h
  have HQ := Lib.hid hq
  have HL := Lib.hid hE
  have cC := fun (W : World) k x l t (h1 : EntsIs W x l) h2 h3 ht => nodeHas_c k x l q s W h1 h2 h3 t ht
  obtain ⟨X, hX⟩ : ∃ X, posN E s 201 0 = X := ⟨_, rfl⟩
  have HX := Lib.hid hX
  rw [hX]
  clear h hq hX hE
  go_enter Tryz.func103, Tryz.ntmps103
  go_wp2
  go_loopw [8] (fun iv wr => ∃ i : Nat, i ≤ 201 ∧ iv = .int .i64 i ∧ posN E s (201 - i) i = X ∧ Below w.heap.size w wr) (fun iv _ => 201 - (intOf iv).toNat)
  case atStart => exact ⟨0, by omega, rfl, HX.out, Below.refl _ _⟩
  case round =>
    obtain ⟨i, hi, rfl, hgo, hb⟩ := hrel
    have HGO := Lib.hid hgo
    have HB := Lib.hid hb
    clear hgo
    by_cases hin : i < 201
    · have hiz : (i : Int) < 201 := by omega
      have d0 := ((HV.out.below hb).kcell (n := i) (by omega)).1
      have d1 := ((HV.out.below hb).rcell (n := i) (by omega)).1
      have HG : Hid (posN E s (201 - i) i = if (E i).any (fun x => decide (x.cookie = s)) = true then (i : Int) else posN E s (201 - (i + 1)) (i + 1)) := Lib.hid (by rw [show 201 - i = (201 - (i + 1)) + 1 by omega]; rfl)
      obtain ⟨t, ht⟩ : ∃ t, (E i).any (fun x => decide (x.cookie = s)) = t := ⟨_, rfl⟩
      have HT := Lib.hid ht
      have cC1 := cC wr (K i) (R i) (E i) t ((HV.out.below hb).ents (by omega)) (HL.out i (by omega)) ((hb.block q (lt_of_get HQ.out)).trans HQ.out) ht
      clear cC hb ht
      cases t with
      | true =>
        have HE : Hid ((i : Int) = X) := Lib.hid (by rw [← HGO.out, HG.out, if_pos HT.out])
        go_wp2_with (go_at_call 95; refine cC1.mono ?_; rintro e w2 ⟨rfl, hb2⟩)
        go_ret
        exact ⟨by rw [HE.out]; rfl, HB.out.trans (hb2.mono HB.out.size)⟩
      | false =>
        have HE : Hid (posN E s (201 - (i + 1)) (i + 1) = X) := Lib.hid (by rw [← HGO.out, HG.out, if_neg (by rw [HT.out]; decide)])
        go_wp2_with (go_at_call 95; refine cC1.mono ?_; rintro e w2 ⟨rfl, hb2⟩)
        go_roundw
        case rel => exact ⟨i + 1, by omega, by first | rfl | go_num, HE.out, HB.out.trans (hb2.mono HB.out.size)⟩
        case measure => simp [intOf]; omega
    · have hiz : ¬ (i : Int) < 201 := by omega
      have HE : Hid (X = -1) := Lib.hid (by rw [← HGO.out, show 201 - i = 0 by omega]; rfl)
      clear hb cC
      go_wp2
      go_ret
      exact ⟨by rw [HE.out]; rfl, HB.out⟩
def hasCk (E : Nat → List Ent) (s : Int) : Prop := ∃ n, n ≤ 200 ∧ (E n).any (fun x => decide (x.cookie = s)) = true
theorem conNode_c (h : TM w b K E R u v ys c) (hE : ∀ n, n ≤ 200 → (E n).length ≤ 1000) (q : Nat) (s : Int) (hq : w.heap[q]? = some (.cells #[.int .i64 s] 2 (0, 0))) (t : Bool) (ht : t = true ↔ hasCk E s) :
    Calls Tryz.prog 94 #[.slice (some ⟨b, 0, none⟩) 201 201, .func (.func 95) #[] #[.pointer (some ⟨q, 0, none⟩)]] w fun e w' => e = .returned (.bool t) ∧ Below w.heap.size w w' := by
  have cI := idxNode_c h hE q s hq
  have hp := posN_any E s 201 0
  generalize posN E s 201 0 = p at *
  have HT : Hid (decide (0 ≤ p) = t) := Lib.hid (by
    cases t with
    | true =>
      obtain ⟨n, h1, h2⟩ := ht.1 rfl
      exact decide_eq_true (hp.2 ⟨n, by omega, by omega, h2⟩)
    | false => exact decide_eq_false (fun h => by
        obtain ⟨n, h1, h2, h3⟩ := hp.1 h
        exact absurd (ht.2 ⟨n, by omega, h3⟩) (by decide)))
  clear h hE hq ht hp
  go_enter Tryz.func94, Tryz.ntmps94
  go_wp2_with (go_at_call 103; refine cI.mono ?_; rintro e w1 ⟨rfl, hb1⟩)
  go_ret
  exact ⟨by rw [← HT.out]; rfl, hb1⟩
theorem hasCookie_c (h : TM w b K E R u v ys c) (hE : ∀ n, n ≤ 200 → (E n).length ≤ 1000) (s : Int) (t : Bool) (ht : t = true ↔ hasCk E s) :
    Calls Tryz.prog 78 #[ptrV b, .int .i64 s] w fun e w' => e = .returned (.bool t) ∧ Below w.heap.size w w' := by
  have hb0 : Below w.heap.size w (w.alloc (.cells #[.int .i64 s] 2)) := (Below.refl _ _).alloc (Nat.le_refl _) _
  have HB := Lib.hid hb0
  have cC := conNode_c (h.below hb0) hE w.heap.size s (heap_alloc_new _ _) t ht
  clear h hE ht hb0
  go_enter Tryz.func78, Tryz.ntmps78
  go_wp2_with (go_at_call 94; refine cC.mono ?_; rintro e w1 ⟨rfl, hb1⟩)
  go_ret
  exact ⟨rfl, HB.out.trans (hb1.mono HB.out.size)⟩
end
end Go.Proofs.YtddobjhahohhhaaGreat
