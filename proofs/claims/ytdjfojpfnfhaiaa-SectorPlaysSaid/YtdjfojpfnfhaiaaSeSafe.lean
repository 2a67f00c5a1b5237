/-
  The law SectorSafe of stage 6, walked: it answers true; what lay in memory stays.
-/
import Derived.Test.YtdjfojpfnfhaiaaSeCuts
import Derived.PlainAid
namespace Go.Proofs.Ytdjfojpfnfhaiaa
open Go.RowKit Go.Sort
set_option linter.unusedVariables false

/-- The slice v holds these pairs of bytes. -/
def PairsIs (w : World) (v : Value) (l : List (Int × Int)) : Prop :=
  (l = [] ∧ ∃ a cap, v = .slice a 0 cap) ∨
  (∃ g off cap, g < w.heap.size ∧ v = .slice (some ⟨g, off, none⟩) l.length cap ∧ ∀ j, j < l.length → w.cell? ⟨g, off + j * 2, none⟩ = some (.int .u8 (l.getD j (0, 0)).1) ∧ w.cell? ⟨g, off + j * 2 + 1, none⟩ = some (.int .u8 (l.getD j (0, 0)).2))
def PairOk (p : Int × Int) : Prop := 0 ≤ p.1 ∧ p.1 ≤ 255 ∧ 0 ≤ p.2 ∧ p.2 ≤ 255
theorem PairsIs.kept {w w' : World} {v : Value} {l : List (Int × Int)} (h : PairsIs w v l) (hb : Below w.heap.size w w') : PairsIs w' v l := by
  rcases h with h | ⟨g, off, cap, hg, hv, hc⟩
  · exact Or.inl h
  · exact Or.inr ⟨g, off, cap, by have := hb.size; omega, hv, fun j hj => by rw [hb.cell (p := ⟨g, off + j * 2, none⟩) hg, hb.cell (p := ⟨g, off + j * 2 + 1, none⟩) hg]; exact hc j hj⟩
theorem PairsIs.len {w : World} {v : Value} {l : List (Int × Int)} (h : PairsIs w v l) : ∃ a cap, v = .slice a l.length cap := by
  rcases h with ⟨rfl, a, cap, hv⟩ | ⟨g, off, cap, hg, hv, hc⟩
  · exact ⟨a, cap, hv⟩
  · exact ⟨_, cap, hv⟩
theorem PairsIs.at {w : World} {a : Option Addr} {n cap : Nat} {l : List (Int × Int)} (h : PairsIs w (.slice a n cap) l) {j : Nat} (hj : j < l.length) : ∃ g off, a = some ⟨g, off, none⟩ ∧ g < w.heap.size ∧ w.cell? ⟨g, off + j * 2, none⟩ = some (.int .u8 (l.getD j (0, 0)).1) ∧ w.cell? ⟨g, off + j * 2 + 1, none⟩ = some (.int .u8 (l.getD j (0, 0)).2) := by
  rcases h with ⟨rfl, _⟩ | ⟨g, off, cap', hg, hv, hc⟩
  · exact absurd hj (by simp)
  · injection hv with h1 h2 h3
    exact ⟨g, off, h1, hg, hc j hj⟩
def intRow (l : List Int) : Array Value := (l.map (Value.int .i64)).toArray
theorem intRow_set (l : List Int) (i : Nat) (x : Int) : (intRow l).setIfInBounds i (.int .i64 x) = intRow (l.set i x) := by
  unfold intRow
  apply Array.ext'
  rw [Array.toList_setIfInBounds, List.toList_toArray, List.toList_toArray, List.map_set]
theorem intRow_get {l : List Int} {i : Nat} (h : i < l.length) : (intRow l)[i]? = some (.int .i64 (l.getD i 0)) := by
  unfold intRow
  rw [List.getElem?_toArray, List.getElem?_map, List.getElem?_eq_getElem h, List.getD_eq_getElem?_getD, List.getElem?_eq_getElem h]
  rfl

theorem Below.drewQ {B : Nat} {a w : World} (h : Below B a w) (q : Nat) : Below B a (w.drewN q) := by
  induction q with
  | zero => exact h
  | succ q ih => exact ih.drew
theorem full_bt (c : UInt8) : Go.PlainAid.bt (fullB c) 3 = (c.toNat : Int) := by
  unfold Go.PlainAid.bt
  rw [dif_pos (by rw [fullB_size]; decide)]
  rfl
/-- What was written first: each sector has the byte that is wanted. -/
structure WantSt (st : St) (wl : List Int) (few : Nat) : Prop where
  good : Good st
  len : st.now.length = 20
  lim : st.lim = false
  wlen : wl.length = 20
  same : ∀ j, j < 20 → st.now[j]? = some (fullB (UInt8.ofNat (wl.getD j 0).toNat))
  ok : ∀ j, j < 20 → 0 ≤ wl.getD j 0 ∧ wl.getD j 0 ≤ 255
  pend : st.pend.length ≤ few
theorem zero_full : zero64 = fullB 0 := by unfold zero64 fullB; rw [List.toArray_replicate]
theorem want_start : WantSt (stNew 20) (List.replicate 20 0) 0 := by
  refine ⟨goodNew 20 (by decide), rfl, rfl, rfl, fun j hj => ?_, fun j hj => ?_, Nat.le_refl _⟩
  · rw [List.getD_eq_getElem?_getD, List.getElem?_replicate, if_pos hj]
    show (List.replicate 20 zero64)[j]? = _
    rw [List.getElem?_replicate, if_pos hj, zero_full]
    rfl
  · rw [List.getD_eq_getElem?_getD, List.getElem?_replicate, if_pos hj]
    exact ⟨Int.le_refl _, by decide⟩
theorem ask_ok {st : St} {n k : Nat} (hl : st.now.length = n) (h : st.lim = false) (hk : k < n) : askI st.now.length st.lim st.left k = 0 := by
  unfold askI
  rw [hl, h, if_neg (by simp), if_neg (by omega)]
theorem want_put {st : St} {wl : List Int} {few k : Nat} {y : Int} (h : WantSt st wl few) (hk : k < 20) (h0 : 0 ≤ y) (h1 : y ≤ 255) : putI st k (fullB (UInt8.ofNat y.toNat)) = 0 ∧ WantSt (putSt st k (fullB (UInt8.ofNat y.toNat))) (wl.set k y) (few + 1) := by
  have ha := ask_ok h.len h.lim hk
  refine ⟨by unfold putI; rw [if_pos ha, if_pos (fullB_size _)], good_put h.good ha (fullB_size _), by simp [putSt, h.len], by simp [putSt, h.lim], by simp [h.wlen], fun j hj => ?_, fun j hj => ?_, by simp [putSt, h.pend]⟩
  · show (st.now.set k _)[j]? = _
    by_cases e : k = j
    · subst e
      rw [List.getElem?_set_self (by rw [h.len]; exact hj), List.getD_eq_getElem?_getD, List.getElem?_set_self (by rw [h.wlen]; exact hj)]
      rfl
    · rw [List.getElem?_set_ne e, h.same j hj, List.getD_eq_getElem?_getD, List.getD_eq_getElem?_getD, List.getElem?_set_ne e]
  · by_cases e : k = j
    · subst e
      rw [List.getD_eq_getElem?_getD, List.getElem?_set_self (by rw [h.wlen]; exact hj)]
      exact ⟨h0, h1⟩
    · rw [List.getD_eq_getElem?_getD, List.getElem?_set_ne e, ← List.getD_eq_getElem?_getD]
      exact h.ok j hj
/-- What was written behind the flush: what wasn't touched is safe. -/
structure SafeSt (st : St) (wl tl : List Int) (few : Nat) : Prop where
  good : Good st
  len : st.now.length = 20
  lim : st.lim = false
  wlen : wl.length = 20
  tlen : tl.length = 20
  same : ∀ j, j < 20 → st.safe[j]? = some (fullB (UInt8.ofNat (wl.getD j 0).toNat))
  ok : ∀ j, j < 20 → 0 ≤ wl.getD j 0 ∧ wl.getD j 0 ≤ 255
  tok : ∀ j, j < 20 → tl.getD j 0 = 0 ∨ tl.getD j 0 = 1
  touch : ∀ p ∈ st.pend, tl.getD p.1 0 = 1
  pend : st.pend.length ≤ few
theorem safe_start {st : St} {wl : List Int} {few : Nat} (h : WantSt st wl few) : SafeSt (flushSt st) wl (List.replicate 20 0) 0 :=
  ⟨good_flush h.good, h.len, h.lim, h.wlen, rfl, h.same, h.ok, fun j hj => Or.inl (by rw [List.getD_eq_getElem?_getD, List.getElem?_replicate, if_pos hj]; rfl), (fun p hp => by cases hp), Nat.le_refl _⟩
theorem safe_put {st : St} {wl tl : List Int} {few k : Nat} {y : Int} (h : SafeSt st wl tl few) (hk : k < 20) : putI st k (fullB (UInt8.ofNat y.toNat)) = 0 ∧ SafeSt (putSt st k (fullB (UInt8.ofNat y.toNat))) wl (tl.set k 1) (few + 1) := by
  have ha := ask_ok h.len h.lim hk
  have ht : ∀ j, j < 20 → (tl.set k 1).getD j 0 = if k = j then 1 else tl.getD j 0 := fun j hj => by
    rw [List.getD_eq_getElem?_getD, List.getD_eq_getElem?_getD]
    by_cases e : k = j
    · subst e
      rw [List.getElem?_set_self (by rw [h.tlen]; exact hj), if_pos rfl]
      rfl
    · rw [List.getElem?_set_ne e, if_neg e]
  refine ⟨by unfold putI; rw [if_pos ha, if_pos (fullB_size _)], good_put h.good ha (fullB_size _), by simp [putSt, h.len], by simp [putSt, h.lim], h.wlen, by simp [h.tlen], h.same, h.ok, fun j hj => ?_, fun p hp => ?_, by simp [putSt, h.pend]⟩
  · rw [ht j hj]
    split
    · exact Or.inr rfl
    · exact h.tok j hj
  · rcases List.mem_append.1 hp with hp | hp
    · have := (h.good.pnd p hp).1
      rw [ht p.1 (by rw [← h.len]; exact this)]
      split
      · rfl
      · exact h.touch p hp
    · rw [List.mem_singleton.1 hp, ht k hk, if_pos rfl]
/-- Behind the restart. -/
structure EndSt (st : St) (wl tl : List Int) : Prop where
  good : Good st
  len : st.now.length = 20
  lim : st.lim = false
  pend : st.pend = []
  wlen : wl.length = 20
  tlen : tl.length = 20
  ok : ∀ j, j < 20 → 0 ≤ wl.getD j 0 ∧ wl.getD j 0 ≤ 255
  same : ∀ j, j < 20 → tl.getD j 0 = 0 → st.now[j]? = some (fullB (UInt8.ofNat (wl.getD j 0).toNat))
theorem end_of {st : St} {wl tl : List Int} {few : Nat} (h : SafeSt st wl tl few) (l : List Int) : EndSt (restartSt st l) wl tl :=
  ⟨good_restart h.good l, by rw [restart_length st h.good, h.len], rfl, rfl, h.wlen, h.tlen, h.ok, fun j hj h0 => by
    show (applyKept _ st.pend st.safe)[j]? = _
    rw [applyKept_other (fun p hp e => by have := h.touch p hp; rw [e, h0] at this; cases this)]
    exact h.same j hj⟩

set_option maxHeartbeats 8000000 in
set_option maxRecDepth 100000 in
theorem safe6_walk (v1 v2 v3 : Value) (l1 l2 : List (Int × Int)) (l3 : List Int) (w : World) (h1 : PairsIs w v1 l1) (h2 : PairsIs w v2 l2) (h3 : NumsIs w v3 l3) (p1 : ∀ p ∈ l1, PairOk p) (p2 : ∀ p ∈ l2, PairOk p)
    (m1 : l1.length ≤ 9223372036854775807) (m2 : l2.length ≤ 9223372036854775807) (m3 : l3.length ≤ 9223372036854775807) :
    Calls Try.prog 4 #[v1, v2, v3] w fun e w' => e = .returned (.bool true) ∧ Below w.heap.size w w' := by
  have cA := awake6_c w
  obtain ⟨a1, cap1, rfl⟩ := h1.len
  obtain ⟨a2, cap2, rfl⟩ := h2.len
  obtain ⟨a3, cap3, rfl⟩ := h3.len
  obtain ⟨n1, hn1⟩ : ∃ n, l1.length = n := ⟨_, rfl⟩
  obtain ⟨n2, hn2⟩ : ∃ n, l2.length = n := ⟨_, rfl⟩
  obtain ⟨n3, hn3⟩ : ∃ n, l3.length = n := ⟨_, rfl⟩
  have HV1 := Lib.hid h1
  have HV2 := Lib.hid h2
  have HV3 := Lib.hid h3
  have HN1 := Lib.hid hn1
  have HN2 := Lib.hid hn2
  have HN3 := Lib.hid hn3
  have HP1 := Lib.hid p1
  have HP2 := Lib.hid p2
  rw [hn1] at m1 ⊢
  rw [hn2] at m2 ⊢
  rw [hn3] at m3 ⊢
  clear h1 h2 h3 hn1 hn2 hn3 p1 p2
  by_cases hbig : n1 ≤ 40 ∧ n2 ≤ 40 ∧ n3 ≤ 60
  · obtain ⟨b1, b2, b3⟩ := hbig
    have z1 : ¬ ((40 : Int) < (n1 : Int)) := by omega
    have z2 : ¬ ((40 : Int) < (n2 : Int)) := by omega
    have z3 : ¬ ((60 : Int) < (n3 : Int)) := by omega
    go_enter Try.func4, Try.ntmps4
    go_wp2_with fail
    refine cA.mono ?_
    rintro e w1 ⟨rfl, hb1⟩
    have HB1 := Lib.hid hb1
    have cN := new_c 20 w1
    unfold NewPost at cN
    rw [show sizeI 20 = 20 from rfl] at cN
    clear cA hb1
    go_wp2_with fail
    refine cN.mono ?_
    rintro e w2 ⟨b, rfl, hd, hb, ho⟩
    have HD2 := Lib.hid (hd.base HB1.out.size)
    have HB2 := Lib.hid (HB1.out.trans (hb.mono HB1.out.size))
    clear cN hd hb ho
    have s2 : (w2.alloc (.cells #[.int .i64 0, .int .i64 0, .int .i64 0, .int .i64 0, .int .i64 0, .int .i64 0, .int .i64 0, .int .i64 0, .int .i64 0, .int .i64 0, .int .i64 0, .int .i64 0, .int .i64 0, .int .i64 0, .int .i64 0, .int .i64 0, .int .i64 0, .int .i64 0, .int .i64 0, .int .i64 0] 47)).heap.size = w2.heap.size + 1 := by simp
    have HB3 : Hid (Below w.heap.size w ((w2.alloc (.cells #[.int .i64 0, .int .i64 0, .int .i64 0, .int .i64 0, .int .i64 0, .int .i64 0, .int .i64 0, .int .i64 0, .int .i64 0, .int .i64 0, .int .i64 0, .int .i64 0, .int .i64 0, .int .i64 0, .int .i64 0, .int .i64 0, .int .i64 0, .int .i64 0, .int .i64 0, .int .i64 0] 47)).alloc (.cells #[.int .i64 0, .int .i64 0, .int .i64 0, .int .i64 0, .int .i64 0, .int .i64 0, .int .i64 0, .int .i64 0, .int .i64 0, .int .i64 0, .int .i64 0, .int .i64 0, .int .i64 0, .int .i64 0, .int .i64 0, .int .i64 0, .int .i64 0, .int .i64 0, .int .i64 0, .int .i64 0] 47))) := Lib.hid ((HB2.out.alloc HB2.out.size _).alloc (by rw [s2]; have := HB2.out.size; omega) _)
    have HGW : Hid (((w2.alloc (.cells #[.int .i64 0, .int .i64 0, .int .i64 0, .int .i64 0, .int .i64 0, .int .i64 0, .int .i64 0, .int .i64 0, .int .i64 0, .int .i64 0, .int .i64 0, .int .i64 0, .int .i64 0, .int .i64 0, .int .i64 0, .int .i64 0, .int .i64 0, .int .i64 0, .int .i64 0, .int .i64 0] 47)).alloc (.cells #[.int .i64 0, .int .i64 0, .int .i64 0, .int .i64 0, .int .i64 0, .int .i64 0, .int .i64 0, .int .i64 0, .int .i64 0, .int .i64 0, .int .i64 0, .int .i64 0, .int .i64 0, .int .i64 0, .int .i64 0, .int .i64 0, .int .i64 0, .int .i64 0, .int .i64 0, .int .i64 0] 47)).heap[w2.heap.size]? = some (.cells (intRow (List.replicate 20 0)) 47 (0, 0))) := Lib.hid (by
      rw [Below.heap_alloc _ _ _ (by rw [s2]; omega)]
      exact heap_alloc_new _ _)
    have HGT : Hid (((w2.alloc (.cells #[.int .i64 0, .int .i64 0, .int .i64 0, .int .i64 0, .int .i64 0, .int .i64 0, .int .i64 0, .int .i64 0, .int .i64 0, .int .i64 0, .int .i64 0, .int .i64 0, .int .i64 0, .int .i64 0, .int .i64 0, .int .i64 0, .int .i64 0, .int .i64 0, .int .i64 0, .int .i64 0] 47)).alloc (.cells #[.int .i64 0, .int .i64 0, .int .i64 0, .int .i64 0, .int .i64 0, .int .i64 0, .int .i64 0, .int .i64 0, .int .i64 0, .int .i64 0, .int .i64 0, .int .i64 0, .int .i64 0, .int .i64 0, .int .i64 0, .int .i64 0, .int .i64 0, .int .i64 0, .int .i64 0, .int .i64 0] 47)).heap[w2.heap.size + 1]? = some (.cells (intRow (List.replicate 20 0)) 47 (0, 0))) := Lib.hid (by
      rw [← s2]
      exact heap_alloc_new _ _)
    have HD3 : Hid (Dev w.heap.size ((w2.alloc (.cells #[.int .i64 0, .int .i64 0, .int .i64 0, .int .i64 0, .int .i64 0, .int .i64 0, .int .i64 0, .int .i64 0, .int .i64 0, .int .i64 0, .int .i64 0, .int .i64 0, .int .i64 0, .int .i64 0, .int .i64 0, .int .i64 0, .int .i64 0, .int .i64 0, .int .i64 0, .int .i64 0] 47)).alloc (.cells #[.int .i64 0, .int .i64 0, .int .i64 0, .int .i64 0, .int .i64 0, .int .i64 0, .int .i64 0, .int .i64 0, .int .i64 0, .int .i64 0, .int .i64 0, .int .i64 0, .int .i64 0, .int .i64 0, .int .i64 0, .int .i64 0, .int .i64 0, .int .i64 0, .int .i64 0, .int .i64 0] 47)) b (stNew 20)) := Lib.hid (HD2.out.off (ex := []) (((Off.refl _ w2).alloc _).alloc _) (by simp) (by simp) (by simp))
    have HNE : Hid (w2.heap.size ≠ w2.heap.size + 1) := Lib.hid (by omega)
    have HLE : Hid (w.heap.size ≤ w2.heap.size ∧ w.heap.size ≤ w2.heap.size + 1) := Lib.hid (by have := HB2.out.size; omega)
    clear HD2 HB2
    go_wp2_with fail
    generalize ((w2.alloc (.cells #[.int .i64 0, .int .i64 0, .int .i64 0, .int .i64 0, .int .i64 0, .int .i64 0, .int .i64 0, .int .i64 0, .int .i64 0, .int .i64 0, .int .i64 0, .int .i64 0, .int .i64 0, .int .i64 0, .int .i64 0, .int .i64 0, .int .i64 0, .int .i64 0, .int .i64 0, .int .i64 0] 47)).alloc (.cells #[.int .i64 0, .int .i64 0, .int .i64 0, .int .i64 0, .int .i64 0, .int .i64 0, .int .i64 0, .int .i64 0, .int .i64 0, .int .i64 0, .int .i64 0, .int .i64 0, .int .i64 0, .int .i64 0, .int .i64 0, .int .i64 0, .int .i64 0, .int .i64 0, .int .i64 0, .int .i64 0] 47)) = w3 at *
    generalize w2.heap.size + 1 = gt at *
    generalize w2.heap.size = gw at *
    clear s2
    go_loopw [10] (fun iv wr => ∃ (i : Nat) (st : St) (wl : List Int), i ≤ n1 ∧ iv = .int .i64 i ∧ Dev w.heap.size wr b st ∧ WantSt st wl i ∧ wr.heap[gw]? = some (.cells (intRow wl) 47 (0, 0)) ∧ wr.heap[gt]? = some (.cells (intRow (List.replicate 20 0)) 47 (0, 0)) ∧ Below w.heap.size w wr) (fun iv _ => n1 - (intOf iv).toNat)
    case atStart => exact ⟨0, _, _, by omega, rfl, HD3.out, want_start, HGW.out, HGT.out, HB3.out⟩
    case round =>
      obtain ⟨i, st, wl, hi, rfl, hd, hs, hgw, hgt, hb⟩ := hrel
      have HDi := Lib.hid hd
      have HSi := Lib.hid hs
      have HWi := Lib.hid hgw
      have HTi := Lib.hid hgt
      have HBi := Lib.hid hb
      clear HD3 HGW HGT HB3 hd hs hgw hgt hb
      by_cases hin : i < n1
      · have hiz : (i : Int) < (n1 : Int) := by omega
        obtain ⟨g, off, rfl, hg, hc0, hc1⟩ := HV1.out.at (j := i) (by rw [HN1.out]; exact hin)
        have hpo : PairOk (l1.getD i (0, 0)) := HP1.out _ (by
          have hl : i < l1.length := by rw [HN1.out]; exact hin
          rw [List.getD_eq_getElem?_getD, List.getElem?_eq_getElem hl]
          exact List.getElem_mem hl)
        obtain ⟨hX0, hX1, hY0, hY1⟩ := hpo
        generalize (l1.getD i (0, 0)).1 = X at *
        generalize (l1.getD i (0, 0)).2 = Y at *
        obtain ⟨K, hXK⟩ : ∃ K : Nat, X % 20 = (K : Int) := ⟨(X % 20).toNat, by omega⟩
        have hXT : X.tmod 20 = (K : Int) := by rw [Int.tmod_eq_emod_of_nonneg hX0]; exact hXK
        have hK : K < 20 := by omega
        have hKz : (K : Int) < 20 := by omega
        have hK0 : (0 : Int) ≤ (K : Int) := by omega
        have hwK : IntKind.i64.wrap (K : Int) = K := by rw [IntKind.wrap_i64]; omega
        have hwY : IntKind.i64.wrap Y = Y := by rw [IntKind.wrap_i64]; omega
        have HSK : Hid (∀ W : World, Below w.heap.size w W → W.cell? ⟨g, off + i * 2, none⟩ = some (.int .u8 X) ∧ W.cell? ⟨g, off + i * 2 + 1, none⟩ = some (.int .u8 Y)) := Lib.hid (fun W hW => ⟨by rw [hW.cell (p := ⟨g, off + i * 2, none⟩) hg]; exact hc0, by rw [hW.cell (p := ⟨g, off + i * 2 + 1, none⟩) hg]; exact hc1⟩)
        obtain ⟨d0, d1⟩ := HSK.out wr HBi.out
        obtain ⟨hq, hsp⟩ := want_put HSi.out hK hY0 hY1
        have HQ := Lib.hid hq
        have HSP := Lib.hid hsp
        have HGl := Lib.hid hg
        have cF := full_c Y hY0 hY1 wr.drew
        unfold FullPost at cF
        clear hc0 hc1 hq hsp hg
        go_upto_region 8 with fail
        go_region_held3 (fun w' => w'.cell? ⟨g, off + i * 2, none⟩ = some (.int .u8 X) ∧ w'.cell? ⟨g, off + i * 2 + 1, none⟩ = some (.int .u8 Y)) (first | assumption | exact ⟨d0, d1⟩ | exact HSK.out _ HB5.out | exact HSK.out _ HB4w.out) (first | (go_at_call 18; refine cF.mono ?_; rintro e w4 ⟨rfl, hw4⟩; have HB4 : Hid (Below wr.heap.size wr w4) := Lib.hid (by rw [hw4]; exact ((Below.refl _ wr).drew).alloc (Nat.le_refl _) _); have HB4w : Hid (Below w.heap.size w w4) := Lib.hid (HBi.out.trans (HB4.out.mono HBi.out.size)); have HD4 := Lib.hid (HDi.out.below HB4.out); clear hw4) | (go_at_call 10; (with_reducible refine (put_c w.heap.size b st K (fullB (UInt8.ofNat Y.toNat)) w4 HD4.out HSi.out.good (by have := HSi.out.pend; omega) HB4w.out.size).mono ?_); rintro e w5 hpost; unfold PutPost at hpost; rw [HQ.out, if_pos rfl] at hpost; obtain ⟨rfl, hd5, hb5, ho5⟩ := hpost; have HD5 := Lib.hid hd5; have HB5 := Lib.hid (HB4w.out.trans hb5); have HO5 : Hid (Off devTs wr w5) := Lib.hid ((Off.ofBelow HB4.out _).trans ho5); clear hd5 hb5 ho5))
        have HG5 : Hid (w5.heap[gw]? = some (.cells (intRow wl) 47 (0, 0))) := Lib.hid (HO5.out _ (by decide) _ _ _ HWi.out)
        have HT5 : Hid (w5.heap[gt]? = some (.cells (intRow (List.replicate 20 0)) 47 (0, 0))) := Lib.hid (HO5.out _ (by decide) _ _ _ HTi.out)
        obtain ⟨e0, e1⟩ := HSK.out w5 HB5.out
        have cg : w5.cell? ⟨gw, K, none⟩ = some (.int .i64 (wl.getD K 0)) := by rw [cell_of_row w5 gw K _ _ _ HG5.out]; exact intRow_get (by rw [HSi.out.wlen]; exact hK)
        have fg : w5.frozen? ⟨gw, K, none⟩ = false := frozen_of_row w5 gw K _ _ HG5.out
        have hgw : g ≠ gw := by have := HGl.out; have := HLE.out.1; omega
        have HSS : Hid (∀ W : World, (W.cell? ⟨g, off + i * 2, none⟩ = some (.int .u8 X) ∧ W.cell? ⟨g, off + i * 2 + 1, none⟩ = some (.int .u8 Y)) → ((W.setCell ⟨gw, K, none⟩ (.int .i64 Y)).cell? ⟨g, off + i * 2, none⟩ = some (.int .u8 X) ∧ (W.setCell ⟨gw, K, none⟩ (.int .i64 Y)).cell? ⟨g, off + i * 2 + 1, none⟩ = some (.int .u8 Y))) := Lib.hid (fun W hW => ⟨by rw [World.cell?_setCell_other _ _ _ _ (fun e => hgw (by injection e with e1 _ _; exact e1.symm))]; exact hW.1, by rw [World.cell?_setCell_other _ _ _ _ (fun e => hgw (by injection e with e1 _ _; exact e1.symm))]; exact hW.2⟩)
        have HBE : Hid (Below w.heap.size w (w5.drew.setCell ⟨gw, K, none⟩ (.int .i64 Y))) := Lib.hid ((HB5.out.drew).setCell (p := ⟨gw, K, none⟩) HLE.out.1 _)
        have HOE : Hid (Off [47] w5 (w5.drew.setCell ⟨gw, K, none⟩ (.int .i64 Y))) := Lib.hid (Off.setCell ((Off.refl [47] w5).drew) HG5.out (by simp) _)
        have HDE : Hid (Dev w.heap.size (w5.drew.setCell ⟨gw, K, none⟩ (.int .i64 Y)) b (putSt st K (fullB (UInt8.ofNat Y.toNat)))) := Lib.hid (HD5.out.off HOE.out (by decide) (by decide) (by decide))
        have HWE : Hid ((w5.drew.setCell ⟨gw, K, none⟩ (.int .i64 Y)).heap[gw]? = some (.cells (intRow (wl.set K Y)) 47 (0, 0))) := Lib.hid (by
          rw [heap_setCell_same w5.drew gw K _ _ _ HG5.out, intRow_set])
        have HTE : Hid ((w5.drew.setCell ⟨gw, K, none⟩ (.int .i64 Y)).heap[gt]? = some (.cells (intRow (List.replicate 20 0)) 47 (0, 0))) := Lib.hid (by
          rw [heap_setCell_other w5.drew ⟨gw, K, none⟩ gt _ (Ne.symm HNE.out)]; exact HT5.out)
        clear d0 d1 cF
        rename_i hHeld
        clear hHeld
        go_upto_region 9 with fail
        go_region_held3 (fun w' => w'.cell? ⟨g, off + i * 2, none⟩ = some (.int .u8 X) ∧ w'.cell? ⟨g, off + i * 2 + 1, none⟩ = some (.int .u8 Y)) (first | assumption | exact ⟨e0, e1⟩ | exact HSS.out _ (by assumption)) (fail)
        rename_i hHeld
        clear hHeld HSS e0 e1 cg fg hgw
        go_wp2
        go_roundw
        case rel => exact ⟨i + 1, _, _, by omega, by first | rfl | go_num, HDE.out, HSP.out, HWE.out, HTE.out, HBE.out⟩
        case measure => simp [intOf]; omega
      · have hge : ¬ ((i : Int) < (n1 : Int)) := by omega
        have cL := flush_c w.heap.size b st wr HDi.out HSi.out.good (by have := HSi.out.pend; omega) HBi.out.size
        unfold FlushPost at cL
        rw [show goneB st = false by unfold goneB; rw [HSi.out.lim]; rfl, if_neg (by decide), if_neg (by decide)] at cL
        have HSF := Lib.hid (safe_start HSi.out)
        go_wp2_with fail
        refine cL.mono ?_
        rintro e w4 ⟨rfl, hd4, hb4, ho4⟩
        have HD4 := Lib.hid hd4
        have HB4 := Lib.hid (HBi.out.trans hb4)
        have HW4 : Hid (w4.heap[gw]? = some (.cells (intRow wl) 47 (0, 0))) := Lib.hid (ho4 _ (by decide) _ _ _ HWi.out)
        have HT4 : Hid (w4.heap[gt]? = some (.cells (intRow (List.replicate 20 0)) 47 (0, 0))) := Lib.hid (ho4 _ (by decide) _ _ _ HTi.out)
        obtain ⟨aq, cq, hq⟩ := hd4.pendCell
        have cQ := pending_c b 0 cq aq w4 hq
        clear cL hd4 hb4 ho4 hq HDi HSi HWi HTi HBi hge hi hin
        go_wp2_with fail
        refine cQ.mono ?_
        rintro e w5 ⟨rfl, hw5⟩
        subst hw5
        clear cQ
        go_wp2_with fail
        go_loopw [11] (fun iv wr => ∃ (i : Nat) (st : St) (tl : List Int), i ≤ n2 ∧ iv = .int .i64 i ∧ Dev w.heap.size wr b st ∧ SafeSt st wl tl i ∧ wr.heap[gw]? = some (.cells (intRow wl) 47 (0, 0)) ∧ wr.heap[gt]? = some (.cells (intRow tl) 47 (0, 0)) ∧ Below w.heap.size w wr) (fun iv _ => n2 - (intOf iv).toNat)
        case atStart => exact ⟨0, _, _, by omega, rfl, HD4.out, HSF.out, HW4.out, HT4.out, HB4.out⟩
        case round =>
          obtain ⟨i, st, tl, hi, rfl, hd, hs, hgw, hgt, hb⟩ := hrel
          have HDi := Lib.hid hd
          have HSi := Lib.hid hs
          have HWi := Lib.hid hgw
          have HTi := Lib.hid hgt
          have HBi := Lib.hid hb
          clear HD4 HSF HW4 HT4 HB4 hd hs hgw hgt hb
          by_cases hin : i < n2
          · have hiz : (i : Int) < (n2 : Int) := by omega
            obtain ⟨g, off, rfl, hg, hc0, hc1⟩ := HV2.out.at (j := i) (by rw [HN2.out]; exact hin)
            have hpo : PairOk (l2.getD i (0, 0)) := HP2.out _ (by
              have hl : i < l2.length := by rw [HN2.out]; exact hin
              rw [List.getD_eq_getElem?_getD, List.getElem?_eq_getElem hl]
              exact List.getElem_mem hl)
            obtain ⟨hX0, hX1, hY0, hY1⟩ := hpo
            generalize (l2.getD i (0, 0)).1 = X at *
            generalize (l2.getD i (0, 0)).2 = Y at *
            obtain ⟨K, hXK⟩ : ∃ K : Nat, X % 20 = (K : Int) := ⟨(X % 20).toNat, by omega⟩
            have hXT : X.tmod 20 = (K : Int) := by rw [Int.tmod_eq_emod_of_nonneg hX0]; exact hXK
            have hK : K < 20 := by omega
            have hKz : (K : Int) < 20 := by omega
            have hK0 : (0 : Int) ≤ (K : Int) := by omega
            have hwK : IntKind.i64.wrap (K : Int) = K := by rw [IntKind.wrap_i64]; omega
            have HSK : Hid (∀ W : World, Below w.heap.size w W → W.cell? ⟨g, off + i * 2, none⟩ = some (.int .u8 X) ∧ W.cell? ⟨g, off + i * 2 + 1, none⟩ = some (.int .u8 Y)) := Lib.hid (fun W hW => ⟨by rw [hW.cell (p := ⟨g, off + i * 2, none⟩) hg]; exact hc0, by rw [hW.cell (p := ⟨g, off + i * 2 + 1, none⟩) hg]; exact hc1⟩)
            obtain ⟨d0, d1⟩ := HSK.out wr HBi.out
            obtain ⟨hq, hsp⟩ := safe_put (y := Y) HSi.out hK
            have HQ := Lib.hid hq
            have HSP := Lib.hid hsp
            have cg : wr.cell? ⟨gt, K, none⟩ = some (.int .i64 (tl.getD K 0)) := by rw [cell_of_row wr gt K _ _ _ HTi.out]; exact intRow_get (by rw [HSi.out.tlen]; exact hK)
            have fg : wr.frozen? ⟨gt, K, none⟩ = false := frozen_of_row wr gt K _ _ HTi.out
            have HBT : Hid (Below w.heap.size w (wr.setCell ⟨gt, K, none⟩ (.int .i64 1))) := Lib.hid (HBi.out.setCell (p := ⟨gt, K, none⟩) HLE.out.2 _)
            have HOT : Hid (Off [47] wr (wr.setCell ⟨gt, K, none⟩ (.int .i64 1))) := Lib.hid (Off.setCell (Off.refl [47] wr) HTi.out (by simp) _)
            have HDT : Hid (Dev w.heap.size (wr.setCell ⟨gt, K, none⟩ (.int .i64 1)) b st) := Lib.hid (HDi.out.off HOT.out (by decide) (by decide) (by decide))
            have HTT : Hid ((wr.setCell ⟨gt, K, none⟩ (.int .i64 1)).heap[gt]? = some (.cells (intRow (tl.set K 1)) 47 (0, 0))) := Lib.hid (by
              rw [heap_setCell_same wr gt K _ _ _ HTi.out, intRow_set])
            have HWT : Hid ((wr.setCell ⟨gt, K, none⟩ (.int .i64 1)).heap[gw]? = some (.cells (intRow wl) 47 (0, 0))) := Lib.hid (by
              rw [heap_setCell_other wr ⟨gt, K, none⟩ gw _ HNE.out]; exact HWi.out)
            clear hc0 hc1 hq hsp hg
            go_upto_region 16 with fail
            clear d0 d1 cg fg
            generalize wr.setCell ⟨gt, K, none⟩ (.int .i64 1) = wt at *
            obtain ⟨d0, d1⟩ := HSK.out wt HBT.out
            have cF := full_c Y hY0 hY1 wt.drew
            unfold FullPost at cF
            go_region_held3 (fun w' => w'.cell? ⟨g, off + i * 2, none⟩ = some (.int .u8 X) ∧ w'.cell? ⟨g, off + i * 2 + 1, none⟩ = some (.int .u8 Y)) (first | assumption | exact ⟨d0, d1⟩ | exact HSK.out _ HB5.out | exact HSK.out _ HB4w.out) (first | (go_at_call 18; refine cF.mono ?_; rintro e w4 ⟨rfl, hw4⟩; have HB4 : Hid (Below wt.heap.size wt w4) := Lib.hid (by rw [hw4]; exact ((Below.refl _ wt).drew).alloc (Nat.le_refl _) _); have HB4w : Hid (Below w.heap.size w w4) := Lib.hid (HBT.out.trans (HB4.out.mono HBT.out.size)); have HD4 := Lib.hid (HDT.out.below HB4.out); clear hw4) | (go_at_call 10; (with_reducible refine (put_c w.heap.size b st K (fullB (UInt8.ofNat Y.toNat)) w4 HD4.out HSi.out.good (by have := HSi.out.pend; omega) HB4w.out.size).mono ?_); rintro e w5 hpost; unfold PutPost at hpost; rw [HQ.out, if_pos rfl] at hpost; obtain ⟨rfl, hd5, hb5, ho5⟩ := hpost; have HD5 := Lib.hid hd5; have HB5 := Lib.hid (HB4w.out.trans hb5); have HO5 : Hid (Off devTs wt w5) := Lib.hid ((Off.ofBelow HB4.out _).trans ho5); clear hd5 hb5 ho5))
            have HG5 : Hid (w5.heap[gw]? = some (.cells (intRow wl) 47 (0, 0))) := Lib.hid (HO5.out _ (by decide) _ _ _ HWT.out)
            have HT5 : Hid (w5.heap[gt]? = some (.cells (intRow (tl.set K 1)) 47 (0, 0))) := Lib.hid (HO5.out _ (by decide) _ _ _ HTT.out)
            clear d0 d1 cF
            rename_i hHeld
            clear hHeld
            go_wp2
            go_roundw
            case rel => exact ⟨i + 1, _, _, by omega, by first | rfl | go_num, HD5.out, HSP.out, HG5.out, HT5.out, HB5.out⟩
            case measure => simp [intOf]; omega
          · have hge : ¬ ((i : Int) < (n2 : Int)) := by omega
            have cR := restart_c w.heap.size b st _ l3 wr HDi.out HSi.out.good (by have := HSi.out.pend; omega) (HV3.out.kept HBi.out) (by rw [HN3.out]; exact m3) HBi.out.size
            rw [HN3.out] at cR
            have HES := Lib.hid (end_of HSi.out l3)
            go_wp2_with fail
            refine cR.mono ?_
            rintro e w4 ⟨rfl, hd4, hb4, ho4⟩
            have HD4 := Lib.hid hd4
            have HB4 := Lib.hid (HBi.out.trans hb4)
            have HW4 : Hid (w4.heap[gw]? = some (.cells (intRow wl) 47 (0, 0))) := Lib.hid (ho4 _ (by decide) _ _ _ HWi.out)
            have HT4 : Hid (w4.heap[gt]? = some (.cells (intRow tl) 47 (0, 0))) := Lib.hid (ho4 _ (by decide) _ _ _ HTi.out)
            clear cR hd4 hb4 ho4 HDi HSi HWi HTi HBi hge hi hin
            generalize restartSt st l3 = se at *
            go_wp2_with fail
            go_loopw [12] (fun iv wr => ∃ i : Nat, i ≤ 20 ∧ iv = .int .i64 i ∧ wr.heap = w4.heap ∧ Below w.heap.size w wr) (fun iv _ => 20 - (intOf iv).toNat)
            case atStart => exact ⟨0, by omega, rfl, rfl, HB4.out⟩
            case round =>
              obtain ⟨q, hq, rfl, hh, hb⟩ := hrel
              have HDi : Hid (Dev w.heap.size wr b se) := Lib.hid (HD4.out.off (ex := []) (fun T hT k cs fr hk => by rw [hh]; exact hk) (by simp) (by simp) (by simp))
              have HWi : Hid (wr.heap[gw]? = some (.cells (intRow wl) 47 (0, 0))) := Lib.hid (by rw [hh]; exact HW4.out)
              have HTi : Hid (wr.heap[gt]? = some (.cells (intRow tl) 47 (0, 0))) := Lib.hid (by rw [hh]; exact HT4.out)
              have HHi := Lib.hid hh
              have HBi := Lib.hid hb
              clear hh hb
              by_cases hq20 : q < 20
              · have hqz : (q : Int) < 20 := by omega
                have hq0 : (0 : Int) ≤ (q : Int) := by omega
                have cG := get_c w.heap.size b se q wr HDi.out HES.out.good
                unfold GetPost at cG
                rw [ask_ok HES.out.len HES.out.lim hq20, if_pos rfl, Int.toNat_natCast] at cG
                obtain ⟨x, hx⟩ : ∃ x, se.now[q]? = some x := ⟨_, List.getElem?_eq_getElem (by rw [HES.out.len]; exact hq20)⟩
                have hxd : se.now.getD q ⟨#[]⟩ = x := by rw [List.getD_eq_getElem?_getD, hx]; rfl
                rw [hxd] at cG
                have hxs : x.size = 64 := HES.out.good.szn x (List.mem_of_getElem? hx)
                have hB := Go.PlainAid.get_bt x
                have ct : wr.cell? ⟨gt, q, none⟩ = some (.int .i64 (tl.getD q 0)) := by rw [cell_of_row wr gt q _ _ _ HTi.out]; exact intRow_get (by rw [HES.out.tlen]; exact hq20)
                have cw : wr.cell? ⟨gw, q, none⟩ = some (.int .i64 (wl.getD q 0)) := by rw [cell_of_row wr gw q _ _ _ HWi.out]; exact intRow_get (by rw [HES.out.wlen]; exact hq20)
                have dt : wr.drew.cell? ⟨gt, q, none⟩ = some (.int .i64 (tl.getD q 0)) := ct
                have dw : wr.drew.cell? ⟨gw, q, none⟩ = some (.int .i64 (wl.getD q 0)) := cw
                have hVr := HES.out.ok q hq20
                have HSM : Hid (tl.getD q 0 = 0 → Go.PlainAid.bt x 3 = wl.getD q 0) := Lib.hid (fun h0 => by
                  have h9 := HES.out.same q hq20 h0
                  rw [hx] at h9
                  injection h9 with h9
                  rw [h9, full_bt, UInt8.toNat_ofNat', Nat.mod_eq_of_lt (by omega)]
                  omega)
                clear hx hxd
                generalize tl.getD q 0 = T at *
                generalize wl.getD q 0 = V at *
                obtain ⟨hV0, hV1⟩ := hVr
                have hVw : IntKind.i64.wrap V = V := by rw [IntKind.wrap_i64]; omega
                have hbw : IntKind.i64.wrap (Go.PlainAid.bt x 3) = Go.PlainAid.bt x 3 := by have := Go.PlainAid.bt_nonneg x 3; have := Go.PlainAid.bt_le x 3; rw [IntKind.wrap_i64]; omega
                by_cases hT0 : T = 0
                · have hbV := HSM.out hT0
                  subst hT0
                  go_wp2_with fail
                  refine cG.mono ?_
                  rintro e w5 ⟨hw5, rfl⟩
                  subst hw5
                  clear cG
                  go_wp2
                  go_quiet (fail)
                  go_wp2
                  go_roundw
                  case rel => exact ⟨q + 1, by omega, by first | rfl | go_num, by first | exact HHi.out | (simp; exact HHi.out), by first | exact HBi.out | exact HBi.out.drew | exact Below.drewQ HBi.out _⟩
                  case measure => simp [intOf]; omega
                · have hTn : (T == 0) = false := by rw [beq_eq_false_iff_ne]; exact hT0
                  go_wp2_with fail
                  refine cG.mono ?_
                  rintro e w5 ⟨hw5, rfl⟩
                  subst hw5
                  clear cG
                  go_wp2
                  go_quiet (fail)
                  go_wp2
                  go_roundw
                  case rel => exact ⟨q + 1, by omega, by first | rfl | go_num, by first | exact HHi.out | (simp; exact HHi.out), by first | exact HBi.out | exact HBi.out.drew | exact Below.drewQ HBi.out _⟩
                  case measure => simp [intOf]; omega
              · have hge : ¬ ((q : Int) < 20) := by omega
                obtain ⟨aq, cq, hpc⟩ := HDi.out.pendCell
                rw [HES.out.pend] at hpc
                have cQ := pending_c b 0 cq aq wr hpc
                clear hpc
                go_wp2_with fail
                refine cQ.mono ?_
                rintro e w5 ⟨rfl, hw5⟩
                subst hw5
                go_wp2
                go_ret
                exact ⟨rfl, HBi.out⟩
  · have hcase : ((40 : Int) < (n1 : Int)) ∨ (¬ ((40 : Int) < (n1 : Int)) ∧ ((40 : Int) < (n2 : Int))) ∨ (¬ ((40 : Int) < (n1 : Int)) ∧ ¬ ((40 : Int) < (n2 : Int)) ∧ ((60 : Int) < (n3 : Int))) := by omega
    clear hbig
    rcases hcase with z1 | ⟨z1, z2⟩ | ⟨z1, z2, z3⟩
    · go_enter Try.func4, Try.ntmps4
      go_wp2_with fail
      refine cA.mono ?_
      rintro e w1 ⟨rfl, hb1⟩
      have HB1 := Lib.hid hb1
      have cA2 := awake6_c w1
      clear cA hb1
      go_wp2_with fail
      refine cA2.mono ?_
      rintro e w2 ⟨rfl, hb2⟩
      have HB2 := Lib.hid (HB1.out.trans (hb2.mono HB1.out.size))
      clear cA2 hb2
      go_wp2
      go_ret
      exact ⟨rfl, HB2.out⟩
    · go_enter Try.func4, Try.ntmps4
      go_wp2_with fail
      refine cA.mono ?_
      rintro e w1 ⟨rfl, hb1⟩
      have HB1 := Lib.hid hb1
      have cA2 := awake6_c w1
      clear cA hb1
      go_wp2_with fail
      refine cA2.mono ?_
      rintro e w2 ⟨rfl, hb2⟩
      have HB2 := Lib.hid (HB1.out.trans (hb2.mono HB1.out.size))
      clear cA2 hb2
      go_wp2
      go_ret
      exact ⟨rfl, HB2.out⟩
    · go_enter Try.func4, Try.ntmps4
      go_wp2_with fail
      refine cA.mono ?_
      rintro e w1 ⟨rfl, hb1⟩
      have HB1 := Lib.hid hb1
      have cA2 := awake6_c w1
      clear cA hb1
      go_wp2_with fail
      refine cA2.mono ?_
      rintro e w2 ⟨rfl, hb2⟩
      have HB2 := Lib.hid (HB1.out.trans (hb2.mono HB1.out.size))
      clear cA2 hb2
      go_wp2
      go_ret
      exact ⟨rfl, HB2.out⟩
end Go.Proofs.Ytdjfojpfnfhaiaa
