/-
  What is below a node: a closure that calls itself.
-/
import Derived.Test.YthaghhleidopeaaTrFun
import Derived.Laws.EntriesVeiled
namespace Go.Proofs.Ythaghhleidopeaa
open Go.RowKit Go.Sort
set_option linter.unusedVariables false

/-- Is n below d, at most k steps? -/
def belowG (E : Nat → List Ent) (n : Int) : Nat → Nat → Bool
  | 0, _ => false
  | k + 1, d => (E d).any fun x => decide (x.node = n) || belowG E n k x.node.toNat
/-- A forest: below a node all is lower. -/
structure Lower (E : Nat → List Ent) (H : Nat → Nat) : Prop where
  at' : ∀ d, d ≤ 200 → ∀ x ∈ E d, ∃ nd : Nat, x.node = (nd : Int) ∧ nd ≤ 200 ∧ H nd < H d
  len : ∀ d, d ≤ 200 → (E d).length ≤ 1000
/-- What the closure captured. -/
structure Srch (W : World) (b A B C : Nat) (n : Int) (K : Nat → Int) (E : Nat → List Ent) (R : Nat → Value) (u : Nat) (v : Value) (ys : List Int) (c : Int) : Prop where
  tm : TM W b K E R u v ys c
  a : W.heap[A]? = some (.cells #[ptrV b] 26 (0, 0))
  n : W.heap[B]? = some (.cells #[.int .i64 n] 3 (0, 0))
  f : W.heap[C]? = some (.cells #[.func (.func 66) #[] #[ptrV A, ptrV B, ptrV C]] 93 (0, 0))
theorem Srch.below {W W' : World} {b A B C : Nat} {n : Int} {K : Nat → Int} {E : Nat → List Ent} {R : Nat → Value} {u : Nat} {v : Value} {ys : List Int} {c : Int} (h : Srch W b A B C n K E R u v ys c) (hb : Below W.heap.size W W') : Srch W' b A B C n K E R u v ys c :=
  ⟨h.tm.below hb, (hb.block _ (lt_of_get h.a)).trans h.a, (hb.block _ (lt_of_get h.n)).trans h.n, (hb.block _ (lt_of_get h.f)).trans h.f⟩
set_option maxHeartbeats 4000000 in
set_option maxRecDepth 100000 in
theorem search_c (b A B C : Nat) (n : Int) (K : Nat → Int) (E : Nat → List Ent) (R : Nat → Value) (u : Nat) (v : Value) (ys : List Int) (c : Int) (H : Nat → Nat) (hl : Lower E H) : ∀ (k d : Nat) (W : World), d ≤ 200 → H d < k → Srch W b A B C n K E R u v ys c →
    Calls Try.prog 66 #[.int .i64 (d : Int), ptrV A, ptrV B, ptrV C] W fun e w' => e = .returned (.bool (belowG E n k d)) ∧ Below W.heap.size W w'
  | 0, d, W, hd, hk, hs => absurd hk (Nat.not_lt_zero _)
  | k + 1, d, W, hd, hk, hs => by
    have IH := fun nd W h1 h2 h3 => search_c b A B C n K E R u v ys c H hl k nd W h1 h2 h3
    have HL := Lib.hid hl
    have HS := Lib.hid hs
    obtain ⟨X, hX⟩ : ∃ X, belowG E n (k + 1) d = X := ⟨_, rfl⟩
    have HX : Hid ((E d).any (fun x => decide (x.node = n) || belowG E n k x.node.toNat) = X) := Lib.hid hX
    rw [hX]
    have c0 : W.cell? ⟨A, 0, none⟩ = some (ptrV b) := Lib.cell_of_heap hs.a 0
    have c1 := (hs.tm.rcell hd).1
    have he := hs.tm.ents hd
    obtain ⟨a, cap, hr⟩ := he.len
    obtain ⟨m, hm⟩ : ∃ m, (E d).length = m := ⟨_, rfl⟩
    have HM := Lib.hid hm
    rw [hm] at hr
    rw [hr] at c1 he
    have HE := Lib.hid he
    have hm1 : m ≤ 1000 := by rw [← hm]; exact hl.len d hd
    have hd0 : (0 : Int) ≤ (d : Int) := by omega
    have hd1 : (d : Int) < 201 := by omega
    have HK := Lib.hid hk
    have HD := Lib.hid hd
    clear hX hm hr he hs hl
    go_enter Try.func66, Try.ntmps66
    go_wp2
    clear c0 c1
    go_loopw [16] (fun iv wr => ∃ i : Nat, i ≤ m ∧ iv = .int .i64 i ∧ (((E d).drop i).any fun x => decide (x.node = n) || belowG E n k x.node.toNat) = X ∧ Below W.heap.size W wr) (fun iv _ => m - (intOf iv).toNat)
    case atStart => exact ⟨0, by omega, rfl, HX.out, Below.refl _ _⟩
    case round =>
      obtain ⟨i, hi, rfl, hgo, hb⟩ := hrel
      have HGO := Lib.hid hgo
      have HB := Lib.hid hb
      clear hgo
      by_cases him : i < m
      · have hiz : (i : Int) < (m : Int) := by omega
        obtain ⟨x, hx⟩ : ∃ x, (E d)[i]? = some x := ⟨_, List.getElem?_eq_getElem (by rw [HM.out]; omega)⟩
        obtain ⟨g, off, rfl, hg, hrr⟩ := HE.out.at hx
        obtain ⟨d0, d1, d2, d3, d4⟩ := ent_at (rangeAt_below hrr hg hb)
        have HG : Hid ((((E d).drop i).any fun x => decide (x.node = n) || belowG E n k x.node.toNat) = ((decide (x.node = n) || belowG E n k x.node.toNat) || ((E d).drop (i + 1)).any fun x => decide (x.node = n) || belowG E n k x.node.toNat)) := Lib.hid (by rw [drop_eq_cons hx, List.any_cons])
        obtain ⟨nd, hnd, hnd2, hnd3⟩ := HL.out.at' d HD.out x (List.mem_of_getElem? hx)
        obtain ⟨nm, x1, dr, ck, sh⟩ := x
        simp only at hnd d0 d1 d2 d3 d4 HG
        subst hnd
        rw [Int.toNat_natCast] at HG
        have hbw : Below wr.heap.size wr (wr.alloc (.cells #[.string nm, .int .i64 (nd : Int), .bool dr, .int .i64 ck, .int .i64 sh] 40)) := (Below.refl _ _).alloc (Nat.le_refl _) _
        have hs2 := (HS.out.below hb).below hbw
        have HBW := Lib.hid (hb.trans (hbw.mono hb.size))
        have q1 : (wr.alloc (.cells #[.string nm, .int .i64 (nd : Int), .bool dr, .int .i64 ck, .int .i64 sh] 40)).cell? ⟨B, 0, none⟩ = some (.int .i64 n) := Lib.cell_of_heap hs2.n 0
        have q2 : (wr.alloc (.cells #[.string nm, .int .i64 (nd : Int), .bool dr, .int .i64 ck, .int .i64 sh] 40)).cell? ⟨C, 0, none⟩ = some (.func (.func 66) #[] #[ptrV A, ptrV B, ptrV C]) := Lib.cell_of_heap hs2.f 0
        have cI := IH nd _ hnd2 (by have := HK.out; omega) hs2
        clear IH hrr hg hx hs2 hbw hb
        by_cases hnn : (nd : Int) = n
        · have HE1 : Hid (X = true) := Lib.hid (by rw [← HGO.out, HG.out, decide_eq_true hnn]; rfl)
          have hnb : ((nd : Int) == n) = true := by rw [hnn]; simp
          clear cI hnn
          go_wp2
          go_ret
          exact ⟨by rw [HE1.out]; rfl, HBW.out⟩
        · have hnb : ((nd : Int) == n) = false := beq_eq_false_iff_ne.2 hnn
          cases ht : belowG E n k nd with
          | true =>
            have HE1 : Hid (X = true) := Lib.hid (by rw [← HGO.out, HG.out, ht, Bool.or_true, Bool.true_or])
            rw [ht] at cI
            clear ht hnn
            go_wp2_with (go_at_call 66; refine cI.mono ?_; rintro e w2 ⟨rfl, hb2⟩)
            go_ret
            exact ⟨by rw [HE1.out]; rfl, HBW.out.trans (hb2.mono HBW.out.size)⟩
          | false =>
            have HE1 : Hid ((((E d).drop (i + 1)).any fun x => decide (x.node = n) || belowG E n k x.node.toNat) = X) := Lib.hid (by rw [← HGO.out, HG.out, ht, decide_eq_false hnn]; rfl)
            rw [ht] at cI
            clear ht hnn
            go_wp2_with (go_at_call 66; refine cI.mono ?_; rintro e w2 ⟨rfl, hb2⟩)
            go_roundw
            case rel => exact ⟨i + 1, by omega, by first | rfl | go_num, HE1.out, HBW.out.trans (hb2.mono HBW.out.size)⟩
            case measure => simp [intOf]; omega
      · have hiz : ¬ (i : Int) < (m : Int) := by omega
        have HE1 : Hid (X = false) := Lib.hid (by rw [← HGO.out, List.drop_of_length_le (by rw [HM.out]; omega)]; rfl)
        clear hb IH
        go_wp2
        go_ret
        exact ⟨by rw [HE1.out]; rfl, HB.out⟩
set_option maxHeartbeats 4000000 in
set_option maxRecDepth 100000 in
theorem isBelow_c {w : World} {b : Nat} {K : Nat → Int} {E : Nat → List Ent} {R : Nat → Value} {u : Nat} {v : Value} {ys : List Int} {c : Int} (h : TM w b K E R u v ys c) (H : Nat → Nat) (hl : Lower E H) {d : Nat} (hd : d ≤ 200) (n : Int) :
    Calls Try.prog 42 #[ptrV b, .int .i64 (d : Int), .int .i64 n] w fun e w' => e = .returned (.bool (belowG E n (H d + 1) d)) ∧ Below w.heap.size w w' := by
  have cS := fun W A B C h => search_c b A B C n K E R u v ys c H hl (H d + 1) d W hd (Nat.lt_succ_self _) h
  obtain ⟨X, hX⟩ : ∃ X, belowG E n (H d + 1) d = X := ⟨_, rfl⟩
  rw [hX]
  simp only [hX] at cS
  clear hX
  obtain ⟨A, hA⟩ : ∃ A, w.heap.size = A := ⟨_, rfl⟩
  have HA := Lib.hid hA
  have HT := Lib.hid h
  have s1 : (w.alloc (.cells #[ptrV b] 26)).heap.size = w.heap.size + 1 := by simp
  have s2 : ((w.alloc (.cells #[ptrV b] 26)).alloc (.cells #[.int .i64 n] 3)).heap.size = w.heap.size + 1 + 1 := by simp
  have b1 : Below w.heap.size w (((w.alloc (.cells #[ptrV b] 26)).alloc (.cells #[.int .i64 n] 3)).alloc (.cells #[.nilFunc] 93)) := (((Below.refl _ w).alloc (Nat.le_refl _) _).alloc (by simp) _).alloc (by simp; omega) _
  have e0 : (((w.alloc (.cells #[ptrV b] 26)).alloc (.cells #[.int .i64 n] 3)).alloc (.cells #[.nilFunc] 93)).heap[w.heap.size]? = some (.cells #[ptrV b] 26 (0, 0)) := by
    rw [Below.heap_alloc _ _ _ (by rw [s2]; omega), Below.heap_alloc _ _ _ (by rw [s1]; omega)]
    exact heap_alloc_new _ _
  have e1 : (((w.alloc (.cells #[ptrV b] 26)).alloc (.cells #[.int .i64 n] 3)).alloc (.cells #[.nilFunc] 93)).heap[w.heap.size + 1]? = some (.cells #[.int .i64 n] 3 (0, 0)) := by
    rw [Below.heap_alloc _ _ _ (by rw [s2]; omega), ← s1]
    exact heap_alloc_new _ _
  have e2 : (((w.alloc (.cells #[ptrV b] 26)).alloc (.cells #[.int .i64 n] 3)).alloc (.cells #[.nilFunc] 93)).heap[w.heap.size + 1 + 1]? = some (.cells #[.nilFunc] 93 (0, 0)) := by
    rw [← s2]
    exact heap_alloc_new _ _
  have E0 := Lib.hid e0
  have E1 := Lib.hid e1
  have E2 := Lib.hid e2
  have B1 := Lib.hid b1
  have hd0 : (0 : Int) ≤ (d : Int) := by omega
  clear hl h e0 e1 e2 b1 hA s1 s2
  go_enter Try.func42, Try.ntmps42
  go_upto_region 2 with fail
  generalize ((w.alloc (.cells #[ptrV b] 26)).alloc (.cells #[.int .i64 n] 3)).alloc (.cells #[.nilFunc] 93) = W0 at *
  rw [HA.out] at E0 E1 E2 B1
  (try rw [HA.out])
  have q1 : W0.cell? ⟨A + 1 + 1, 0, none⟩ = some .nilFunc := Lib.cell_of_heap E2.out 0
  have q2 : W0.frozen? ⟨A + 1 + 1, 0, none⟩ = false := Lib.frozen_of_heap E2.out 0
  have HX : Hid (Srch (W0.setCell ⟨A + 1 + 1, 0, none⟩ (.func (.func 66) #[] #[ptrV A, ptrV (A + 1), ptrV (A + 1 + 1)])) b A (A + 1) (A + 1 + 1) n K E R u v ys c) := Lib.hid (by
    have hb2 : Below w.heap.size w (W0.setCell ⟨A + 1 + 1, 0, none⟩ (.func (.func 66) #[] #[ptrV A, ptrV (A + 1), ptrV (A + 1 + 1)])) := by
      rw [HA.out]
      exact B1.out.setCell (p := ⟨A + 1 + 1, 0, none⟩) (by show A ≤ A + 1 + 1; omega) _
    refine ⟨HT.out.below hb2, ?_, ?_, ?_⟩
    · rw [Below.heap_setCell _ _ _ _ (by show A ≠ A + 1 + 1; omega)]
      exact E0.out
    · rw [Below.heap_setCell _ _ _ _ (by show A + 1 ≠ A + 1 + 1; omega)]
      exact E1.out
    · rw [heap_setCell_same W0 (A + 1 + 1) 0 _ _ _ E2.out]
      rfl)
  have HB2 : Hid (Below A w (W0.setCell ⟨A + 1 + 1, 0, none⟩ (.func (.func 66) #[] #[ptrV A, ptrV (A + 1), ptrV (A + 1 + 1)]))) := Lib.hid (B1.out.setCell (p := ⟨A + 1 + 1, 0, none⟩) (by show A ≤ A + 1 + 1; omega) _)
  go_upto_region 3 with fail
  generalize (W0.setCell ⟨A + 1 + 1, 0, none⟩ (.func (.func 66) #[] #[ptrV A, ptrV (A + 1), ptrV (A + 1 + 1)])) = W1 at *
  have q3 : W1.cell? ⟨A + 1 + 1, 0, none⟩ = some (.func (.func 66) #[] #[ptrV A, ptrV (A + 1), ptrV (A + 1 + 1)]) := Lib.cell_of_heap HX.out.f 0
  have cS1 := cS W1 A (A + 1) (A + 1 + 1) HX.out
  clear cS q1 q2
  go_wp2_with (go_at_call 66; refine cS1.mono ?_; rintro e w2 ⟨rfl, hb2⟩)
  go_ret
  exact ⟨rfl, by rw [HA.out]; exact HB2.out.trans (hb2.mono (by have := HB2.out.size; have := HA.out; omega))⟩
end Go.Proofs.Ythaghhleidopeaa
