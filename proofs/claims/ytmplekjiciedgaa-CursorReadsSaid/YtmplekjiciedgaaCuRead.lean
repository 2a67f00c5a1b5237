/-
  The program's Read and Valid keep what the laws of stage 16 ask of them.
-/
import Derived.Test.YtmplekjiciedgaaCuSearch
import Derived.Deep.QuietTactic
import Derived.BigQuiet
namespace Go.Proofs.Ytmplekjiciedgaa
open Go.RowKit Go.Sort
set_option linter.unusedVariables false

/-- The end of a list. -/
theorem LstIs.post {α : Type} {f : α → List Value} {c : Nat} {w : World} {a : Option Addr} {n cap : Nat} {l : List α} (h : LstIs f c w (.slice a n cap) l) {k : Nat} (hk : k ≤ l.length) (cap' : Nat) : LstIs f c w (.slice (a.map fun x => x.add (k * c)) (n - k) cap') (l.drop k) := by
  rcases h with ⟨rfl, a', cap'', hv⟩ | ⟨g, off, cap'', hg, hv, hc⟩
  · injection hv with h1 h2 h3
    subst h2
    exact Or.inl ⟨by simp, a.map fun x => x.add (k * c), cap', by rw [Nat.zero_sub]⟩
  · injection hv with h1 h2 h3
    subst h1
    subst h2
    refine Or.inr ⟨g, off + k * c, cap', hg, ?_, fun j x hj => ?_⟩
    · rw [List.length_drop, Option.map_some, Addr.add_mid]
    · rw [List.getElem?_drop] at hj
      have := hc (k + j) x hj
      rw [Nat.add_mul, ← Nat.add_assoc] at this
      exact this
/-- .. and its beginning. -/
theorem LstIs.pre {α : Type} {f : α → List Value} {c : Nat} {w : World} {a : Option Addr} {n cap : Nat} {l : List α} (h : LstIs f c w (.slice a n cap) l) {k : Nat} (hk : k ≤ l.length) (cap' : Nat) : LstIs f c w (.slice a k cap') (l.take k) := by
  rcases h with ⟨rfl, a', cap'', hv⟩ | ⟨g, off, cap'', hg, hv, hc⟩
  · refine Or.inl ⟨by simp, a, cap', ?_⟩
    have : k = 0 := by simpa using hk
    rw [this]
  · injection hv with h1 h2 h3
    subst h1
    refine Or.inr ⟨g, off, cap', hg, by rw [List.length_take, Nat.min_eq_left hk], fun j x hj => hc j x ?_⟩
    rw [List.getElem?_take] at hj
    split at hj
    · exact hj
    · cases hj
theorem theValid : ValidC := by
  intro c w hc
  by_cases h : 0 ≤ c
  · rw [decide_eq_true h]
    go_enter Try.func15, Try.ntmps15
    go_wp2
    go_ret
    exact ⟨rfl, Below.refl _ _⟩
  · rw [decide_eq_false h]
    go_enter Try.func15, Try.ntmps15
    go_wp2
    go_ret
    exact ⟨rfl, Below.refl _ _⟩
set_option maxHeartbeats 1000000 in
/-- The closure: is the entry's cookie above the cursor? -/
theorem above1_c (p q h : Nat) (a : Option Addr) (cap : Nat) (l : List Ent) (c : Int) (x : Ent) (W : World) (hx : l[h]? = some x) (hl : l.length ≤ 1000) (he : EntsIs W (.slice a l.length cap) l) (hp : W.cell? ⟨p, 0, none⟩ = some (.slice a l.length cap)) (hq : W.cell? ⟨q, 0, none⟩ = some (.int .i64 c)) :
    Calls Try.prog 36 #[.int .i64 (h : Int), ptB p, ptB q] W fun e w' => e = .returned (.bool (decide (c < x.cookie))) ∧ Below W.heap.size W w' := by
  have hlt : h < l.length := (List.getElem?_eq_some_iff.1 hx).1
  obtain ⟨m, hm⟩ : ∃ m, l.length = m := ⟨_, rfl⟩
  rw [hm] at hl he hp hlt
  obtain ⟨g, off, rfl, hg, hr⟩ := he.at hx
  obtain ⟨d0, d1, d2, d3, d4⟩ := ent_at hr
  have h0 : (0 : Int) ≤ (h : Int) := by omega
  have h1 : (h : Int) < (m : Int) := by omega
  clear he hr hx hm d0 d1 d2 d4
  go_enter Try.func36, Try.ntmps36
  go_wp2
  go_quiet (fail)
  go_wp2
  go_ret
  exact ⟨rfl, below_drewN1 (Below.refl _ _) _⟩
set_option maxHeartbeats 4000000 in
set_option maxRecDepth 100000 in
/-- All whose cookie is above the cursor: the list's own end. -/
theorem above_c (a : Option Addr) (cap : Nat) (l : List Ent) (c : Int) (w : World) (he : EntsIs w (.slice a l.length cap) l) (hrm : l.length ≤ cap) (hr : Rises l) (hl : l.length ≤ 1000) :
    Calls Try.prog 24 #[.slice a l.length cap, .int .i64 c] w fun e w' => ∃ v', e = .returned v' ∧ EntsIs w' v' (aboveC c l) ∧ RoomV v' ∧ Below w.heap.size w w' := by
  obtain ⟨hsp, hdr⟩ := below_split hr c
  have hK0 := below_le c l
  obtain ⟨K, hK⟩ : ∃ K, belowN c l = K := ⟨_, rfl⟩
  rw [hdr, hK]
  rw [hK] at hsp hK0
  have hb0 : Below w.heap.size w ((w.alloc (.cells #[.slice a l.length cap] 32)).alloc (.cells #[.int .i64 c] 2)) := by
    have h1 : Below w.heap.size w (w.alloc (.cells #[.slice a l.length cap] 32)) := (Below.refl _ _).alloc (Nat.le_refl _) _
    exact h1.alloc h1.size _
  obtain ⟨p, hp⟩ : ∃ p, w.heap.size = p := ⟨_, rfl⟩
  have hsz : (w.alloc (.cells #[.slice a l.length cap] 32)).heap.size = p + 1 := by rw [← hp]; show (w.heap.push _).size = _; rw [Array.size_push]
  have hp0 : ((w.alloc (.cells #[.slice a l.length cap] 32)).alloc (.cells #[.int .i64 c] 2)).heap[p]? = some (.cells #[.slice a l.length cap] 32 (0, 0)) := by
    have h1 : (w.alloc (.cells #[.slice a l.length cap] 32)).heap[p]? = some (.cells #[.slice a l.length cap] 32 (0, 0)) := by rw [← hp]; exact heap_alloc_new _ _
    exact (((Below.refl (p + 1) _).alloc (by rw [hsz]; exact Nat.le_refl _) _).block p (by omega)).trans h1
  have hq0 : ((w.alloc (.cells #[.slice a l.length cap] 32)).alloc (.cells #[.int .i64 c] 2)).heap[p + 1]? = some (.cells #[.int .i64 c] 2 (0, 0)) := by rw [← hsz]; exact heap_alloc_new _ _
  have hC : ∀ (h : Nat) (W : World), Below ((w.alloc (.cells #[.slice a l.length cap] 32)).alloc (.cells #[.int .i64 c] 2)).heap.size ((w.alloc (.cells #[.slice a l.length cap] 32)).alloc (.cells #[.int .i64 c] 2)) W → h < l.length → Calls Try.prog 36 #[.int .i64 h, ptB p, ptB (p + 1)] W fun e w' => e = .returned (.bool (decide (K ≤ h))) ∧ Below W.heap.size W w' := by
    intro h W hW hlt
    obtain ⟨x, hx⟩ : ∃ x, l[h]? = some x := ⟨_, List.getElem?_eq_getElem hlt⟩
    refine (above1_c p (p + 1) h a cap l c x W hx hl (LstIs.kept (LstIs.kept he (hp ▸ hb0)) hW) (Lib.cell_of_heap ((hW.block p (lt_of_get hp0)).trans hp0) 0) (Lib.cell_of_heap ((hW.block (p + 1) (lt_of_get hq0)).trans hq0) 0)).mono ?_
    rintro e w' ⟨rfl, hb⟩
    exact ⟨by rw [decide_eq_decide.2 (hsp h x hx)], hb⟩
  have cS := srch_c l.length K hK0 hl p (p + 1) _ hC
  have HP := Lib.hid hp0
  have HE := Lib.hid he
  have HB0 := Lib.hid hb0
  have HRM := Lib.hid hrm
  obtain ⟨m, hm⟩ : ∃ m, l.length = m := ⟨_, rfl⟩
  have HM := Lib.hid hm
  rw [hm] at cS HP HE HB0 HRM hK0 hl hrm hsz ⊢
  have hKz : (K : Int) ≤ (m : Int) := by omega
  have hK1 : (0 : Int) ≤ (K : Int) := by omega
  have hmz : (m : Int) ≤ (cap : Int) := by omega
  clear hC hp0 hq0 hb0 he hsp hr hm
  go_enter Try.func24, Try.ntmps24
  go_upto_region 1 with fail
  have c0 : ((w.alloc (.cells #[.slice a m cap] 32)).alloc (.cells #[.int .i64 c] 2)).cell? ⟨p, 0, none⟩ = some (.slice a m cap) := Lib.cell_of_heap HP.out 0
  go_upto_region 2 with (go_at_call 35; refine cS.mono ?_; rintro e w2 ⟨rfl, hb2⟩; have hc2 := (hb2.block p (lt_of_get HP.out)).trans HP.out; have c2 : w2.cell? ⟨p, 0, none⟩ = some (.slice a m cap) := Lib.cell_of_heap hc2 0; have HE2 := Lib.hid (LstIs.kept HE.out (HB0.out.trans (hb2.mono HB0.out.size))); have HB2 := Lib.hid (HB0.out.trans (hb2.mono HB0.out.size)); clear hb2 hc2)
  clear cS c0
  go_wp2
  · go_ret
    obtain rfl : m = K := by have := HRM.out; omega
    refine ⟨.slice a (m - m) 0, rfl, ?_, ?_, hp ▸ HB2.out⟩
    · rw [List.drop_of_length_le (by rw [HM.out]; exact Nat.le_refl _), Nat.sub_self]
      exact Or.inl ⟨rfl, _, _, rfl⟩
    · show m - m ≤ 0
      omega
  · go_ret
    refine ⟨.slice (a.map fun x => x.add (K * 5)) (m - K) (cap - K), rfl, LstIs.post HE2.out (by rw [HM.out]; exact hK0) _, ?_, hp ▸ HB2.out⟩
    show m - K ≤ cap - K
    omega
theorem own_setC {g cap i B n c : Nat} {T : TypeId} {w : World} {xs : List Value} (x : Value) (h : w.ownsRow B T c (.slice (some ⟨g, 0, none⟩) n cap) n xs) : (w.setCell ⟨g, i, none⟩ x).ownsRow B T c (.slice (some ⟨g, 0, none⟩) n cap) n (xs.set i x) := by
  refine ⟨by rw [List.length_set]; exact h.1, ?_⟩
  rcases h.2 with ⟨hv, _⟩ | ⟨g', cap', cur, hv, hg, hb, hn, hm, hs, ht⟩
  · cases hv
  · cases hv
    refine Or.inr ⟨g, cap, cur.setIfInBounds i x, rfl, hg, heap_setCell_same w g i cur T x hb, hn, hm, by simpa using hs, ?_⟩
    rw [Array.toList_setIfInBounds, List.take_set, ht]
theorem own_frozen {g cap B n c : Nat} {T : TypeId} {w : World} {xs : List Value} (h : w.ownsRow B T c (.slice (some ⟨g, 0, none⟩) n cap) n xs) (i : Nat) : w.frozen? ⟨g, i, none⟩ = false := by
  rcases h.2 with ⟨hv, _⟩ | ⟨g', cap', cur, hv, hg, hb, hn, hm, hs, ht⟩
  · cases hv
  · cases hv
    exact frozen_of_row w g i cur T hb
/-- What stood there is written again. -/
theorem own_again {g cap i B n c : Nat} {T : TypeId} {w : World} {xs : List Value} {x : Value} (h : w.ownsRow B T c (.slice (some ⟨g, 0, none⟩) n cap) n xs) (hx : xs[i]? = some x) : (w.setCell ⟨g, i, none⟩ x).ownsRow B T c (.slice (some ⟨g, 0, none⟩) n cap) n xs := by
  obtain ⟨hi, rfl⟩ := List.getElem?_eq_some_iff.1 hx
  have h1 := own_setC (i := i) xs[i] h
  rwa [List.set_getElem_self] at h1
/-- A cell of an own row of entries. -/
theorem own_name {B n cap i : Nat} {a : Option Addr} {w : World} {l : List Ent} (h : w.ownsRow B 46 5 (.slice a n cap) n (l.flatMap entC)) (hl : l.length = n) {x : Ent} (hx : l[i]? = some x) : ∃ g, a = some ⟨g, 0, none⟩ ∧ B ≤ g ∧ g < w.heap.size ∧ w.cell? ⟨g, i * 5, none⟩ = some (.string x.name) ∧ w.frozen? ⟨g, i * 5, none⟩ = false ∧ (l.flatMap entC)[i * 5]? = some (.string x.name) := by
  have hi : i < l.length := (List.getElem?_eq_some_iff.1 hx).1
  have hfx : (l.flatMap entC)[i * 5]? = some (.string x.name) := by
    have hp := flat_part entC 5 l i x (entC_len l) hx
    have h0 : (entC x)[0]? = some (.string x.name) := rfl
    rw [← hp, List.getElem?_take, if_pos (by omega), List.getElem?_drop, Nat.add_zero] at h0
    exact h0
  rcases h.2 with ⟨hv, hn0⟩ | ⟨g', cap', cur, hv, hg, hb, hn, hm, hs, ht⟩
  · omega
  · injection hv with h1 h2 h3
    subst h1
    refine ⟨g', rfl, hg, lt_of_get hb, ?_, frozen_of_row w g' (i * 5) cur _ hb, hfx⟩
    rw [cell_of_row w g' (i * 5) cur _ (0, 0) hb, ← hfx, ← ht, List.getElem?_take, if_pos (by omega), Array.getElem?_toList]
set_option maxHeartbeats 4000000 in
set_option maxRecDepth 100000 in
/-- Copies, with names of their own. -/
theorem copied_c (v : Value) (l : List Ent) (w : World) (h : EntsIs w v l) (hl : l.length ≤ 1000) (hnm : ∀ e ∈ l, e.name.size ≤ 100000) : Calls Try.prog 25 #[v] w (ECPost l w) := by
  have cE := eclone_c v l w h hl
  unfold ECPost at cE ⊢
  have HNM := Lib.hid hnm
  obtain ⟨n, hn⟩ : ∃ n, l.length = n := ⟨_, rfl⟩
  have HN := Lib.hid hn
  rw [hn] at cE hl ⊢
  clear h hnm hn
  go_enter Try.func25, Try.ntmps25
  go_upto_region 2 with (go_at_call 23; refine cE.mono ?_; rintro e w1 ⟨v1, rfl, ho1, hb1⟩; obtain ⟨a1, c1, hv1⟩ := ownsRow_slice ho1; subst hv1; have HO1 := Lib.hid ho1; have HB1 := Lib.hid hb1; clear ho1 hb1)
  clear cE
  go_wp2
  go_loopw [9] (fun iv wr => ∃ i : Nat, iv = .int .i64 i ∧ i ≤ n ∧ wr.ownsRow w.heap.size 46 5 (.slice a1 n c1) n (l.flatMap entC) ∧ Below w.heap.size w wr) (fun iv _ => n - (intOf iv).toNat)
  case atStart => exact ⟨0, rfl, by omega, HO1.out, HB1.out⟩
  case round =>
    obtain ⟨i, rfl, hi, ho, hb⟩ := hrel
    have HO := Lib.hid ho
    have HB := Lib.hid hb
    clear ho hb
    by_cases him : i < n
    · have hiz : (i : Int) < (n : Int) := by omega
      have hi0 : (0 : Int) ≤ (i : Int) := by omega
      obtain ⟨x, hx⟩ : ∃ x, l[i]? = some x := ⟨_, List.getElem?_eq_getElem (by rw [HN.out]; exact him)⟩
      obtain ⟨g, rfl, hg, hgw, hc, hf, hfx⟩ := own_name HO.out HN.out hx
      have cC := strClone_c x.name wr (by have := HNM.out x (List.mem_of_getElem? hx); omega)
      have HFX := Lib.hid hfx
      clear hx hfx
      go_wp2_with (go_at_call 37; refine cC.mono ?_; rintro e w2 ⟨rfl, hb2⟩; have HO2 := Lib.hid (own_below HO.out hb2); have HB2 := Lib.hid (HB.out.trans (hb2.mono HB.out.size)); have k0 : w2.cell? ⟨g, i * 5, none⟩ = some (.string x.name) := (hb2.cell (p := ⟨g, i * 5, none⟩) hgw).trans hc; have k1 : w2.frozen? ⟨g, i * 5, none⟩ = false := own_frozen HO2.out _; clear hb2)
      go_roundw
      case rel => exact ⟨i + 1, by first | rfl | go_num, by omega, own_again HO2.out HFX.out, HB2.out.setCell (p := ⟨g, i * 5, none⟩) hg _⟩
      case measure => simp [intOf]; omega
    · have hiz : ¬ (i : Int) < (n : Int) := by omega
      go_wp2
      go_ret
      exact ⟨_, rfl, HO.out, HB.out⟩
set_option maxHeartbeats 4000000 in
set_option maxRecDepth 100000 in
theorem theRead : ReadC := by
  intro v l c n w hv hrm hr hl hck hnm hc hn
  have cV := theValid c w hc
  unfold ReadPost
  by_cases h1 : n < 1
  · rw [show readI l c n = ([], 0, 1) by unfold readI; rw [if_pos (Or.inl h1)]]
    clear hv hrm hr hl hck hnm cV
    go_enter Try.func11, Try.ntmps11
    go_wp2
    go_ret3
    exact ⟨_, rfl, LstIs.nil _ _ _, Below.refl _ _⟩
  · by_cases h2 : 64 < n
    · rw [show readI l c n = ([], 0, 1) by unfold readI; rw [if_pos (Or.inr h2)]]
      clear hv hrm hr hl hck hnm cV
      go_enter Try.func11, Try.ntmps11
      go_wp2
      go_ret3
      exact ⟨_, rfl, LstIs.nil _ _ _, Below.refl _ _⟩
    · by_cases h3 : c < 0
      · rw [show readI l c n = ([], 0, 14) by unfold readI; rw [if_neg (by omega), if_pos h3]]
        rw [decide_eq_false (show ¬ (0 : Int) ≤ c by omega)] at cV
        clear hv hrm hr hl hck hnm
        go_enter Try.func11, Try.ntmps11
        go_wp2_with (go_at_call 15; refine cV.mono ?_; rintro e w1 ⟨rfl, hb1⟩)
        go_ret3
        exact ⟨_, rfl, LstIs.nil _ _ _, hb1⟩
      · rw [readI_ok (by omega) (by omega) (by omega)]
        rw [decide_eq_true (show (0 : Int) ≤ c by omega)] at cV
        obtain ⟨N, hN⟩ : ∃ N : Nat, n = (N : Int) := ⟨n.toNat, by omega⟩
        subst hN
        rw [Int.toNat_natCast]
        have hN1 : 1 ≤ N := by omega
        have hN2 : N ≤ 64 := by omega
        obtain ⟨a, cap, rfl⟩ := hv.len
        have hlc : l.length ≤ cap := hrm
        have HA := Lib.hid (fun W (hb : Below w.heap.size w W) => above_c a cap l c W (LstIs.kept hv hb) hlc hr hl)
        obtain ⟨X, hX⟩ : ∃ X, aboveC c l = X := ⟨_, rfl⟩
        have hXl : X.length ≤ l.length := by rw [← hX]; exact List.length_filter_le _ _
        have HXN : Hid (∀ e ∈ X, e.name.size ≤ 100000) := Lib.hid (fun e he => hnm e (mem_above.1 (by rw [hX]; exact he)).1)
        rw [hX] at HA ⊢
        obtain ⟨M, hM⟩ : ∃ M, X.length = M := ⟨_, rfl⟩
        have HM := Lib.hid hM
        obtain ⟨m, hm⟩ : ∃ m, l.length = m := ⟨_, rfl⟩
        rw [hm] at HA hXl hl ⊢
        obtain ⟨k, hk⟩ : ∃ k, min N M = k := ⟨_, rfl⟩
        have HK : Hid (k ≤ X.length ∧ X.take N = X.take k ∧ (X.take k).length = k) := Lib.hid ⟨by omega, by rw [← hk, ← hM, ← List.take_eq_take_min], by rw [List.length_take]; omega⟩
        have hkz : min (N : Int) (M : Int) = (k : Int) := by omega
        have hk0 : (0 : Int) ≤ (k : Int) := by omega
        rw [HK.out.2.1]
        have HC : Hid (∀ v W, EntsIs W v (X.take k) → Calls Try.prog 25 #[v] W (ECPost (X.take k) W)) := Lib.hid (fun v W h => copied_c v _ W h (by rw [HK.out.2.2]; omega) (fun e he => HXN.out e (List.mem_of_mem_take he)))
        simp only
        clear hv hrm hr hck hnm hX hlc hM hm
        go_enter Try.func11, Try.ntmps11
        go_upto_region 4 with (go_at_call 15; refine cV.mono ?_; rintro e w1 ⟨rfl, hb1⟩; have HB1 := Lib.hid hb1; have cA := HA.out w1 hb1; clear hb1)
        clear cV
        go_upto_region 6 with (go_at_call 24; refine cA.mono ?_; rintro e w2 ⟨v2, rfl, he2, hr2, hb2⟩; have HB2 := Lib.hid (HB1.out.trans (hb2.mono HB1.out.size)); obtain ⟨a2, c2, hv2⟩ := he2.len; rw [HM.out] at hv2; subst hv2; have HE2 := Lib.hid he2; have hM2 : M ≤ c2 := hr2; clear he2 hr2 hb2)
        clear cA
        have hkc : (k : Int) ≤ (c2 : Int) := by omega
        have HP2 : Hid (EntsIs w2 (.slice a2 k c2) (X.take k)) := Lib.hid (LstIs.pre HE2.out HK.out.1 _)
        have cC := HC.out _ _ HP2.out
        unfold ECPost at cC
        go_upto_region 7 with (go_at_call 25; refine cC.mono ?_; rintro e w3 ⟨v3, rfl, ho3, hb3⟩; have HB3 := Lib.hid (HB2.out.trans (hb3.mono HB2.out.size)); obtain ⟨a3, c3, hv3⟩ := ownsRow_slice ho3; rw [HK.out.2.2] at hv3; subst hv3; have HO3 := Lib.hid ho3; clear ho3 hb3)
        clear cC HA HC HP2 HE2
        rcases last_cases (X.take k) with h0 | ⟨A, y, h0⟩
        · have hkk : k = 0 := by have := HK.out.2.2; rw [h0] at this; exact this.symm
          subst hkk
          go_wp2
          go_ret3
          exact ⟨_, by rw [h0]; rfl, by rw [h0]; exact LstIs.nil _ _ _, HB3.out⟩
        · have hlen : A.length + 1 = k := by have := HK.out.2.2; rw [h0] at this; simpa using this
          have hy : (X.take k)[k - 1]? = some y := by
            rw [h0, ← hlen, Nat.add_sub_cancel, List.getElem?_append_right (Nat.le_refl _), Nat.sub_self]
            rfl
          have HEN := Lib.hid (LstIs.own (f := entC) (entC_len _) HO3.out rfl)
          have he3 : EntsIs w3 (.slice a3 k c3) (X.take k) := HEN.out
          obtain ⟨g, off, hg, hgw, hr⟩ := he3.at hy
          subst hg
          obtain ⟨d0, d1, d2, d3, d4⟩ := ent_at hr
          have HLC : Hid (lastC c (X.take k) = y.cookie) := Lib.hid (by rw [h0]; exact lastC_snoc _ _ _)
          obtain ⟨j, hj⟩ : ∃ j, k = j + 1 := ⟨A.length, hlen.symm⟩
          subst hj
          rw [Nat.add_sub_cancel] at d3
          have hj0 : (0 : Int) ≤ (j : Int) := by omega
          have hj1 : (j : Int) < ((j + 1 : Nat) : Int) := by omega
          have hj3 : (j : Int) < (j : Int) + 1 := by omega
          have hjb : (j : Int) ≤ 1000 := by have := HK.out.1; omega
          have hjw : IntKind.i64.wrap (j : Int) = (j : Int) := by rw [IntKind.wrap_i64]; omega
          have hj2 : ((j + 1 : Nat) : Int) - 1 = (j : Int) := by omega
          have hne : (((j + 1 : Nat) : Int) == 0) = false := beq_eq_false_iff_ne.2 (by omega)
          clear he3 hr hy h0 d0 d1 d2 d4 hk hkz
          go_wp2
          go_quiet (fail)
          go_wp2
          go_ret3
          exact ⟨_, by rw [HLC.out]; rfl, HEN.out, below_drewN1 HB3.out _⟩
end Go.Proofs.Ytmplekjiciedgaa
