/-
  A bank (stage 7): the record that stands at a frame.
-/
import Derived.Test.YtmpfdmjbgabcdaaBkGetAll
namespace Go.Proofs.Ytmpfdmjbgabcdaa
open Go.RowKit Go.Sort
set_option linter.unusedVariables false

theorem oneB_nil : oneB [] = [] := by
  unfold oneB
  rw [if_neg (by decide +kernel), if_pos (by rw [show (gatherB []).take (saysB (List.headD [] [])) = [] by decide +kernel, cutB_nil]; exact List.nil_prefix)]
  decide +kernel
theorem oneB_none {l : List (List UInt8)} {n k : Nat} (hl : ∀ f ∈ l, f.length = 64) (hn : saysB (l.headD []) = n) (hk : (n + 61) / 62 = k) (h : n = 0 ∨ 60000 < n ∨ l.length < k) : oneB l = [] := by
  unfold oneB
  rw [hn, gatherB_length hl]
  by_cases h0 : n = 0
  · subst h0
    split
    · rfl
    · rw [List.take_zero, cutB_nil, if_pos List.nil_prefix]
  · rw [if_pos (by omega)]
theorem oneB_there {l : List (List UInt8)} {n k : Nat} {r : List UInt8} (hl : ∀ f ∈ l, f.length = 64) (hn : saysB (l.headD []) = n) (hk : (n + 61) / 62 = k) (h6 : n ≤ 60000) (hkl : k ≤ l.length) (hr : (gatherB (l.take k)).take n = r) :
    r.length = n ∧ oneB l = if l.take k = cutB r then r else [] := by
  have hg : gatherB l = gatherB (l.take k) ++ gatherB (l.drop k) := by
    conv => lhs; rw [← List.take_append_drop k l]
    unfold gatherB
    rw [List.flatMap_append]
  have hgl : (gatherB (l.take k)).length = 62 * k := by
    rw [gatherB_length (fun f hf => hl f (List.mem_of_mem_take hf)), List.length_take]
    omega
  have hrl : r.length = n := by rw [← hr, List.length_take, hgl]; omega
  have hr2 : (gatherB l).take n = r := by rw [hg, List.take_append_of_le_length (by omega), hr]
  refine ⟨hrl, ?_⟩
  unfold oneB
  rw [hn, gatherB_length hl, if_neg (by omega), hr2]
  have hc : (cutB r).length = k := by rw [cutB_length, hrl, hk]
  by_cases he : l.take k = cutB r
  · rw [if_pos he, if_pos ⟨l.drop k, by rw [← he, List.take_append_drop]⟩]
  · rw [if_neg he, if_neg]
    rintro ⟨t, ht⟩
    apply he
    rw [← ht, ← hc, List.take_left]
theorem box_step {w0 W W' : World} {g : Nat} {x y z : Value} (hg : g < w0.heap.size) (h : Below w0.heap.size w0 W ∧ W.cell? ⟨g, 0, none⟩ = some x ∧ W.cell? ⟨g, 1, none⟩ = some y ∧ W.cell? ⟨g, 2, none⟩ = some z) (hb : Below W.heap.size W W') :
    Below w0.heap.size w0 W' ∧ W'.cell? ⟨g, 0, none⟩ = some x ∧ W'.cell? ⟨g, 1, none⟩ = some y ∧ W'.cell? ⟨g, 2, none⟩ = some z := by
  have hgW : g < W.heap.size := Nat.lt_of_lt_of_le hg h.1.size
  exact ⟨h.1.trans (hb.mono h.1.size), by rw [hb.cell (p := ⟨g, 0, none⟩) hgW]; exact h.2.1, by rw [hb.cell (p := ⟨g, 1, none⟩) hgW]; exact h.2.2.1, by rw [hb.cell (p := ⟨g, 2, none⟩) hgW]; exact h.2.2.2⟩
theorem box_drew {w0 W : World} {g : Nat} {x y z : Value} (h : Below w0.heap.size w0 W ∧ W.cell? ⟨g, 0, none⟩ = some x ∧ W.cell? ⟨g, 1, none⟩ = some y ∧ W.cell? ⟨g, 2, none⟩ = some z) :
    Below w0.heap.size w0 W.drew ∧ W.drew.cell? ⟨g, 0, none⟩ = some x ∧ W.drew.cell? ⟨g, 1, none⟩ = some y ∧ W.drew.cell? ⟨g, 2, none⟩ = some z := ⟨h.1.drew, h.2.1, h.2.2.1, h.2.2.2⟩
theorem bytesL_take (l : List ByteArray) (p : Nat) : bytesL (l.take p) = (bytesL l).take p := by
  unfold bytesL
  rw [List.map_take]
theorem bytesL_inj {a b : List ByteArray} (h : bytesL a = bytesL b) : a = b := by
  induction a generalizing b with
  | nil => cases b with
    | nil => rfl
    | cons y b => cases h
  | cons x a ih => cases b with
    | nil => cases h
    | cons y b =>
      injection h with h1 h2
      congr 1
      · cases x; cases y; congr 1; exact Array.ext' h1
      · exact ih h2
theorem bytesL_mk (L : List (List UInt8)) : bytesL (L.map fun f => (⟨f.toArray⟩ : ByteArray)) = L := by
  unfold bytesL
  rw [List.map_map]
  exact (List.map_congr_left fun f _ => by simp).trans (List.map_id _)
set_option maxHeartbeats 8000000 in
set_option maxRecDepth 100000 in
theorem record_c (B b : Nat) (st : St) (F S A : Nat) (w : World) (h : Dev B w b st) (hg : Good st) (hgo : goneB st = false) (hS : F + S ≤ st.now.length) (hA4 : A ≤ 100000) :
    Calls Try.prog 74 #[.agg #[.pointer (some ⟨b, 0, none⟩), .int .i64 F, .int .i64 S], .int .i64 A] w fun e w' => e = .returned (.tuple #[.string ⟨(oneB (bytesL (((st.now.drop F).take S).drop A))).toArray⟩, .int .i64 0]) ∧ Below w.heap.size w w' := by
  obtain ⟨W0, hW0⟩ : ∃ W0, w.alloc (.cells #[.pointer (some ⟨b, 0, none⟩), .int .i64 F, .int .i64 S] 105) = W0 := ⟨_, rfl⟩
  have HB0 : Hid (Below w.heap.size w W0) := Lib.hid (by rw [← hW0]; exact (Below.refl _ _).alloc (Nat.le_refl _) _)
  have HS0 : Hid (W0.heap.size = w.heap.size + 1) := Lib.hid (by rw [← hW0]; simp)
  have HC0 : Hid (W0.heap[w.heap.size]? = some (.cells #[.pointer (some ⟨b, 0, none⟩), .int .i64 F, .int .i64 S] 105 (0, 0))) := Lib.hid (by rw [← hW0]; exact heap_alloc_new _ _)
  have HBX : Hid (Below W0.heap.size W0 W0 ∧ W0.cell? ⟨w.heap.size, 0, none⟩ = some (.pointer (some ⟨b, 0, none⟩)) ∧ W0.cell? ⟨w.heap.size, 1, none⟩ = some (.int .i64 F) ∧ W0.cell? ⟨w.heap.size, 2, none⟩ = some (.int .i64 S)) := Lib.hid ⟨Below.refl _ _, by rw [cell_of_row _ _ _ _ _ _ HC0.out]; rfl, by rw [cell_of_row _ _ _ _ _ _ HC0.out]; rfl, by rw [cell_of_row _ _ _ _ _ _ HC0.out]; rfl⟩
  have hgS : w.heap.size < W0.heap.size := by rw [HS0.out]; omega
  have HBW : Hid (∀ W, Below W0.heap.size W0 W → Below w.heap.size w W) := Lib.hid (fun W hW => HB0.out.trans (hW.mono (by rw [HS0.out]; omega)))
  have hf := hg.few
  have cH := fun (c : Int) W => has_c (some ⟨b, 0, none⟩) F S A c W (by omega)
  by_cases hAS : A < S
  · have hlen : ((st.now.drop F).take S).length = S := by rw [List.length_take, List.length_drop]; omega
    obtain ⟨L, hL⟩ : ∃ L, ((st.now.drop F).take S).drop A = L := ⟨_, rfl⟩
    rw [hL]
    have hLl : L.length = S - A := by rw [← hL, List.length_drop, hlen]
    have hLt : ∀ k, k ≤ S - A → (st.now.drop (F + A)).take k = L.take k := fun k hk => by
      rw [← hL, List.drop_take, List.drop_drop, List.take_take, Nat.min_eq_left hk]
    have hLs : ∀ x ∈ L, x.size = 64 := fun x hx => hg.szn x (by rw [← hL] at hx; exact List.mem_of_mem_drop (List.mem_of_mem_take (List.mem_of_mem_drop hx)))
    obtain ⟨x, hx⟩ : ∃ x, L[0]? = some x := ⟨_, List.getElem?_eq_getElem (by omega)⟩
    have hxs := hLs x (List.mem_of_getElem? hx)
    have hgx : st.now.getD (F + A) ⟨#[]⟩ = x := by
      have h1 := hLt 1 (by omega)
      have h2 : (L.take 1)[0]? = some x := by rw [List.getElem?_take, if_pos (by omega)]; exact hx
      rw [← h1, List.getElem?_take, if_pos (by omega), List.getElem?_drop, Nat.add_zero] at h2
      rw [List.getD_eq_getElem?_getD, h2]; rfl
    have cG : Hid (∀ W, Below w.heap.size w W → Calls Try.prog 73 #[.agg #[.pointer (some ⟨b, 0, none⟩), .int .i64 F, .int .i64 S], .int .i64 A] W fun e w' => e = .returned (.tuple #[.string x, .int .i64 0]) ∧ Below W.heap.size W w') := Lib.hid (fun W hW => by
      have h1 := bget_c B b st F S A ((F + A : Nat) : Int) W (h.below hW) hg (by omega) (by omega)
      rw [ask_ok hgo (by omega), if_pos rfl, Int.toNat_natCast, hgx] at h1
      exact h1)
    obtain ⟨n, hn⟩ : ∃ n, saysB x.data.toList = n := ⟨_, rfl⟩
    have hn2 : saysB ((bytesL L).headD []) = n := by
      cases L with
      | nil => cases hx
      | cons y l => injection hx with hx; subst hx; exact hn
    have hn6 : n < 65536 := by
      rw [← hn]
      unfold saysB
      have h1 := UInt8.toNat_lt (x.data.toList.getD 0 0)
      have h2 := UInt8.toNat_lt (x.data.toList.getD 1 0)
      omega
    obtain ⟨k, hk⟩ : ∃ k, (n + 61) / 62 = k := ⟨_, rfl⟩
    have cL := fun W => left_c x W hxs
    rw [hn] at cL
    have cF := fun W => frames_n n W (by omega)
    rw [framesI_nat, hk] at cF
    have cA : Hid (k ≤ S - A → ∀ W, Below w.heap.size w W → Calls Try.prog 77 #[.agg #[.pointer (some ⟨b, 0, none⟩), .int .i64 F, .int .i64 S], .int .i64 A, .int .i64 k] W fun e w' => ∃ v, e = .returned (.tuple #[v, .int .i64 0]) ∧ StrsIs w' v (L.take k) ∧ Below W.heap.size W w') := Lib.hid (fun hkS W hW => by
      have h1 := getAll_c B b st F A k S W (h.below hW) hg hgo (by omega)
      rw [hLt k hkS] at h1
      exact h1)
    have HALL := Lib.hid (bytesL_all hLs)
    have HLS := Lib.hid hLs
    have HLL : Hid ((bytesL L).length = S - A) := Lib.hid (by unfold bytesL; rw [List.length_map]; exact hLl)
    have HNONE : Hid (n = 0 ∨ 60000 < n ∨ S - A < k → oneB (bytesL L) = []) := Lib.hid (fun hh => oneB_none HALL.out hn2 hk (by rw [HLL.out]; exact hh))
    have HTHERE : Hid (∀ r, n ≤ 60000 → k ≤ S - A → (gatherB ((bytesL L).take k)).take n = r → r.length = n ∧ oneB (bytesL L) = if (bytesL L).take k = cutB r then r else []) := Lib.hid (fun r h6 hkS hr => oneB_there HALL.out hn2 hk h6 (by rw [HLL.out]; exact hkS) hr)
    have hAz : (1 : Int) ≤ (S : Int) - (A : Int) := by omega
    have cH1 := cH 1
    rw [decide_eq_true hAz] at cH1
    have HCH := Lib.hid cH
    have hk4 : k ≤ 1060 := by omega
    clear h hg hgo hS hL hLl hLt hLs hx hxs hgx hn hn2 hlen cH
    obtain ⟨_, k0, k1, k2⟩ := HBX.out
    have hAi : (0 : Int) ≤ 0 := by omega
    by_cases hn0 : n = 0
    · have HR : Hid (oneB (bytesL L) = []) := Lib.hid (HNONE.out (Or.inl hn0))
      subst hn0
      clear cF HCH
      go_enter Try.func74, Try.ntmps74
      go_wp2_with fail
      refine (cH1 _).mono ?_
      rintro e w1 ⟨rfl, hb1⟩
      have hS1 := box_step hgS HBX.out hb1
      have HS1 := Lib.hid hS1
      obtain ⟨_, j0, j1, j2⟩ := hS1
      clear k0 k1 k2 hb1 cH1
      go_wp2_with fail
      refine (cG.out _ (HBW.out _ HS1.out.1)).mono ?_
      rintro e w2 ⟨rfl, hb2⟩
      have HS2 := Lib.hid (box_step hgS HS1.out hb2)
      clear j0 j1 j2 hb2
      go_wp2_with fail
      refine (cL _).mono ?_
      rintro e w3 ⟨rfl, hb3⟩
      have HS3 := Lib.hid (box_step hgS HS2.out hb3)
      clear hb3 cL
      go_wp2
      go_quiet (fail)
      have HB9 : Hid (Below w.heap.size w (w3.drewN nq)) := Lib.hid (Below.drewS (HBW.out _ HS3.out.1) nq)
      go_wp2
      go_ret2
      exact ⟨by rw [HR.out]; rfl, HB9.out⟩
    · by_cases hn60 : 60000 < n
      · have HR : Hid (oneB (bytesL L) = []) := Lib.hid (HNONE.out (Or.inr (Or.inl hn60)))
        have hz1 : ((n : Int) == 0) = false := by rw [beq_eq_false_iff_ne]; omega
        have hz2 : (60000 : Int) < (n : Int) := by omega
        clear cF HCH
        go_enter Try.func74, Try.ntmps74
        go_wp2_with fail
        refine (cH1 _).mono ?_
        rintro e w1 ⟨rfl, hb1⟩
        have hS1 := box_step hgS HBX.out hb1
        have HS1 := Lib.hid hS1
        obtain ⟨_, j0, j1, j2⟩ := hS1
        clear k0 k1 k2 hb1 cH1
        go_wp2_with fail
        refine (cG.out _ (HBW.out _ HS1.out.1)).mono ?_
        rintro e w2 ⟨rfl, hb2⟩
        have HS2 := Lib.hid (box_step hgS HS1.out hb2)
        clear j0 j1 j2 hb2
        go_wp2_with fail
        refine (cL _).mono ?_
        rintro e w3 ⟨rfl, hb3⟩
        have HS3 := Lib.hid (box_step hgS HS2.out hb3)
        clear hb3 cL
        go_wp2
        go_quiet (fail)
        have HB9 : Hid (Below w.heap.size w (w3.drewN nq)) := Lib.hid (Below.drewS (HBW.out _ HS3.out.1) nq)
        go_wp2
        go_ret2
        exact ⟨by rw [HR.out]; rfl, HB9.out⟩
      · have hz1 : ((n : Int) == 0) = false := by rw [beq_eq_false_iff_ne]; omega
        have hz2 : ¬ ((60000 : Int) < (n : Int)) := by omega
        have hz3 : decide ((60000 : Int) < (n : Int)) = false := decide_eq_false hz2
        have cHk := HCH.out k
        by_cases hkS : S - A < k
        · have HR : Hid (oneB (bytesL L) = []) := Lib.hid (HNONE.out (Or.inr (Or.inr hkS)))
          have hkz : ¬ ((k : Int) ≤ (S : Int) - (A : Int)) := by omega
          rw [decide_eq_false hkz] at cHk
          clear HCH
          go_enter Try.func74, Try.ntmps74
          go_wp2_with fail
          refine (cH1 _).mono ?_
          rintro e w1 ⟨rfl, hb1⟩
          have hS1 := box_step hgS HBX.out hb1
          have HS1 := Lib.hid hS1
          obtain ⟨_, j0, j1, j2⟩ := hS1
          clear k0 k1 k2 hb1 cH1
          go_wp2_with fail
          refine (cG.out _ (HBW.out _ HS1.out.1)).mono ?_
          rintro e w2 ⟨rfl, hb2⟩
          have HS2 := Lib.hid (box_step hgS HS1.out hb2)
          clear j0 j1 j2 hb2
          go_wp2_with fail
          refine (cL _).mono ?_
          rintro e w3 ⟨rfl, hb3⟩
          have hS3 := box_step hgS HS2.out hb3
          have j0 := hS3.2.1
          have j1 := hS3.2.2.1
          have j2 := hS3.2.2.2
          clear hb3 cL
          go_wp2
          go_region_held3 (fun W => Below W0.heap.size W0 W ∧ W.cell? ⟨w.heap.size, 0, none⟩ = some (.pointer (some ⟨b, 0, none⟩)) ∧ W.cell? ⟨w.heap.size, 1, none⟩ = some (.int .i64 F) ∧ W.cell? ⟨w.heap.size, 2, none⟩ = some (.int .i64 S)) (first | assumption | exact box_drew ‹_› | exact box_step hgS ‹_› ‹_›) (first | (go_at_call 56; refine (cF _).mono ?_; rintro e w' ⟨rfl, rfl⟩) | (go_at_call 64; refine (cHk _).mono ?_; rintro e w' ⟨rfl, hb⟩))
          rename_i hHeld
          have HB9 : Hid (Below w.heap.size w _) := Lib.hid (HBW.out _ hHeld.1)
          clear hS3 j0 j1 j2 hb hHeld
          go_wp2
          go_ret2
          exact ⟨by rw [HR.out]; rfl, HB9.out⟩
        · have hkz : (k : Int) ≤ (S : Int) - (A : Int) := by omega
          rw [decide_eq_true hkz] at cHk
          have hkn : k ≤ S - A := by omega
          have HAk : Hid (∀ W, (Below W0.heap.size W0 W ∧ W.cell? ⟨w.heap.size, 0, none⟩ = some (.pointer (some ⟨b, 0, none⟩)) ∧ W.cell? ⟨w.heap.size, 1, none⟩ = some (.int .i64 F) ∧ W.cell? ⟨w.heap.size, 2, none⟩ = some (.int .i64 S)) → Calls Try.prog 77 #[.agg #[.pointer (some ⟨b, 0, none⟩), .int .i64 F, .int .i64 S], .int .i64 A, .int .i64 k] W fun e w' => ∃ v, e = .returned (.tuple #[v, .int .i64 0]) ∧ StrsIs w' v (L.take k) ∧ Below W.heap.size W w') := Lib.hid (fun W hW => cA.out hkn W (HBW.out _ hW.1))
          obtain ⟨M, hM⟩ : ∃ M, L.take k = M := ⟨_, rfl⟩
          rw [hM] at HAk
          have hMs : ∀ y ∈ M, y.size = 64 := fun y hy => HLS.out y (by rw [← hM] at hy; exact List.mem_of_mem_take hy)
          have hLk : L.length = S - A := by have := HLL.out; unfold bytesL at this; rwa [List.length_map] at this
          have hMl : M.length = k := by rw [← hM, List.length_take, hLk]; omega
          have hMb : (bytesL L).take k = bytesL M := by rw [← hM, bytesL_take]
          obtain ⟨G, hG⟩ : ∃ G : ByteArray, G = ⟨(gatherB (bytesL M)).toArray⟩ := ⟨_, rfl⟩
          obtain ⟨q, hq⟩ : ∃ q, G.size = q := ⟨_, rfl⟩
          have hqk : q = 62 * k := by
            rw [← hq, hG]
            show (gatherB (bytesL M)).toArray.size = _
            rw [List.size_toArray, gatherB_length (bytesL_all hMs)]
            unfold bytesL
            rw [List.length_map, hMl]
          obtain ⟨R, hR⟩ : ∃ R : ByteArray, G.extract 0 n = R := ⟨_, rfl⟩
          have hRr : R.data.toList = (gatherB (bytesL M)).take n := by
            rw [← hR, ByteArray.data_extract, Array.toList_extract, hG]
            show (((gatherB (bytesL M)).toArray.toList).drop 0).take (n - 0) = _
            rw [List.drop_zero, Nat.sub_zero]
          obtain ⟨r, hr⟩ : ∃ r, (gatherB (bytesL M)).take n = r := ⟨_, rfl⟩
          rw [hr] at hRr
          obtain ⟨hrl, hone⟩ := HTHERE.out r (by omega) hkn (by rw [hMb]; exact hr)
          rw [hMb] at hone
          have hRs : R.size = n := by rw [← hrl, ← hRr, Array.length_toList]; rfl
          have hRe : R = ⟨r.toArray⟩ := by
            cases R
            congr 1
            exact Array.ext' (by rw [hRr])
          have cJ : Hid (∀ v W, StrsIs W v M → Calls Try.prog 78 #[v] W fun e w' => e = .returned (.string G) ∧ Below W.heap.size W w') := Lib.hid (fun v W hv => by
            rw [hG]
            exact joined_c v M W hv hMs (by rw [hMl]; omega))
          have cR : Hid (∀ W, Calls Try.prog 65 #[.string R] W fun e w' => ∃ v, e = .returned v ∧ StrsIs w' v ((cutB r).map fun f => (⟨f.toArray⟩ : ByteArray)) ∧ Below W.heap.size W w') := Lib.hid (fun W => by
            refine (frames_c R W (by omega)).mono ?_
            rintro e w' ⟨v, rfl, hown, hb⟩
            rw [hRr] at hown
            exact ⟨v, rfl, strs_of_owns hown, hb⟩)
          have cE : Hid (∀ (u v : Value) W (t : Bool), StrsIs W u M → StrsIs W v ((cutB r).map fun f => (⟨f.toArray⟩ : ByteArray)) → (t = true ↔ bytesL M = cutB r) → Calls Try.prog 79 #[u, v] W fun e w' => e = .returned (.bool t) ∧ Below W.heap.size W w') := Lib.hid (fun u v W t hu hv ht => by
            refine equal_c u v M _ W hu hv (by omega) (by rw [List.length_map, cutB_length, hrl]; omega) t (ht.trans ⟨fun e => ?_, fun e => ?_⟩)
            · exact bytesL_inj (by rw [e, bytesL_mk])
            · rw [e, bytesL_mk])
          have HGX : Hid (G.extract 0 n = R) := Lib.hid hR
          have hn0z : (0 : Int) ≤ (n : Int) := by omega
          have hnq : (n : Int) ≤ (q : Int) := by omega
          have HRE := Lib.hid hRe
          have HONE := Lib.hid hone
          clear HCH cA hM hMs hLk hMl hMb hG hqk hR hRr hr hrl hone hRs hRe
          go_enter Try.func74, Try.ntmps74
          go_wp2_with fail
          refine (cH1 _).mono ?_
          rintro e w1 ⟨rfl, hb1⟩
          have hS1 := box_step hgS HBX.out hb1
          have HS1 := Lib.hid hS1
          obtain ⟨_, j0, j1, j2⟩ := hS1
          clear k0 k1 k2 hb1 cH1
          go_wp2_with fail
          refine (cG.out _ (HBW.out _ HS1.out.1)).mono ?_
          rintro e w2 ⟨rfl, hb2⟩
          have HS2 := Lib.hid (box_step hgS HS1.out hb2)
          clear j0 j1 j2 hb2
          go_wp2_with fail
          refine (cL _).mono ?_
          rintro e w3 ⟨rfl, hb3⟩
          have hS3 := box_step hgS HS2.out hb3
          have j0 := hS3.2.1
          have j1 := hS3.2.2.1
          have j2 := hS3.2.2.2
          clear hb3 cL
          go_wp2
          go_region_held3 (fun W => Below W0.heap.size W0 W ∧ W.cell? ⟨w.heap.size, 0, none⟩ = some (.pointer (some ⟨b, 0, none⟩)) ∧ W.cell? ⟨w.heap.size, 1, none⟩ = some (.int .i64 F) ∧ W.cell? ⟨w.heap.size, 2, none⟩ = some (.int .i64 S)) (first | assumption | exact box_drew ‹_› | exact box_step hgS ‹_› ‹_›) (first | (go_at_call 56; refine (cF _).mono ?_; rintro e w' ⟨rfl, rfl⟩) | (go_at_call 64; refine (cHk _).mono ?_; rintro e w' ⟨rfl, hb⟩))
          rename_i hHeld
          have hS4 := hHeld
          have j0 := hS4.2.1
          have j1 := hS4.2.2.1
          have j2 := hS4.2.2.2
          clear hS3 hb hHeld
          go_wp2
          go_region_held3 (fun W => Below W0.heap.size W0 W ∧ W.cell? ⟨w.heap.size, 0, none⟩ = some (.pointer (some ⟨b, 0, none⟩)) ∧ W.cell? ⟨w.heap.size, 1, none⟩ = some (.int .i64 F) ∧ W.cell? ⟨w.heap.size, 2, none⟩ = some (.int .i64 S)) (first | assumption | exact box_drew ‹_› | exact box_step hgS ‹_› ‹_›) (first | (go_at_call 56; refine (cF _).mono ?_; rintro e w' ⟨rfl, rfl⟩) | (go_at_call 77; refine (HAk.out _ ?_).mono ?_; (first | assumption | exact box_drew ‹_›); rintro e w' ⟨v, rfl, hv, hb⟩))
          rename_i hHeld
          have HB9 : Hid (Below w.heap.size w _) := Lib.hid (HBW.out _ hHeld.1)
          have HV9 := Lib.hid hv
          clear hS4 j0 j1 j2 hb hHeld hv
          go_wp2_with fail
          refine (cJ.out _ _ HV9.out).mono ?_
          rintro e w5 ⟨rfl, hb5⟩
          have HB5 : Hid (Below w.heap.size w w5) := Lib.hid (HB9.out.trans (hb5.mono HB9.out.size))
          have HV5 := Lib.hid (HV9.out.kept hb5)
          clear hb5
          go_wp2_with fail
          rw [HGX.out]
          refine (cR.out _).mono ?_
          rintro e w6 ⟨v2, rfl, hv2, hb6⟩
          have HB6 : Hid (Below w.heap.size w w6) := Lib.hid (HB5.out.trans (hb6.mono HB5.out.size))
          have HV6 := Lib.hid (HV5.out.kept hb6)
          have HW6 := Lib.hid hv2
          clear hb6 hv2
          by_cases hE : bytesL M = cutB r
          · have HOE : Hid ((⟨(oneB (bytesL L)).toArray⟩ : ByteArray) = R) := Lib.hid (by rw [HONE.out, if_pos hE, HRE.out])
            have HEE := Lib.hid hE
            clear hE
            go_wp2_with fail
            refine (cE.out _ _ _ true HV6.out HW6.out ⟨fun _ => HEE.out, fun _ => rfl⟩).mono ?_
            rintro e w7 ⟨rfl, hb7⟩
            have HB7 : Hid (Below w.heap.size w w7) := Lib.hid (HB6.out.trans (hb7.mono HB6.out.size))
            clear hb7
            go_wp2
            go_ret2
            exact ⟨by rw [HOE.out]; rfl, HB7.out⟩
          · have HOE : Hid ((oneB (bytesL L)) = []) := Lib.hid (by rw [HONE.out, if_neg hE])
            have HEE := Lib.hid hE
            clear hE
            go_wp2_with fail
            refine (cE.out _ _ _ false HV6.out HW6.out ⟨(fun e => by cases e), fun e => absurd e HEE.out⟩).mono ?_
            rintro e w7 ⟨rfl, hb7⟩
            have HB7 : Hid (Below w.heap.size w w7) := Lib.hid (HB6.out.trans (hb7.mono HB6.out.size))
            clear hb7
            go_wp2
            go_ret2
            exact ⟨by rw [HOE.out]; rfl, HB7.out⟩
  · have hAz : ¬ ((1 : Int) ≤ (S : Int) - (A : Int)) := by omega
    have cH1 := cH 1
    rw [decide_eq_false hAz] at cH1
    have HR : Hid (oneB (bytesL (((st.now.drop F).take S).drop A)) = []) := Lib.hid (by
      rw [List.drop_eq_nil_of_le (by rw [List.length_take, List.length_drop]; omega)]
      exact oneB_nil)
    obtain ⟨_, k0, k1, k2⟩ := HBX.out
    clear h hg hgo hS cH
    go_enter Try.func74, Try.ntmps74
    go_wp2_with fail
    refine (cH1 _).mono ?_
    rintro e w1 ⟨rfl, hb1⟩
    have HB1 : Hid (Below w.heap.size w w1) := Lib.hid (HBW.out _ (box_step hgS HBX.out hb1).1)
    clear hb1 cH1
    go_wp2
    go_ret2
    exact ⟨by rw [HR.out]; rfl, HB1.out⟩
end Go.Proofs.Ytmpfdmjbgabcdaa
