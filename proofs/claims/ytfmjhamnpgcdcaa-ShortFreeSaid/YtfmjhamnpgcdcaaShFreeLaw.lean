/-
  The law ShortFree of stage 5, walked: it answers true; what lay in memory stays.
-/
import Derived.Test.YtfmjhamnpgcdcaaShAwake
import Derived.Test.YtfmjhamnpgcdcaaHpRef
import Derived.Laws.AppendOwnNone
import Derived.Laws.NewBlocks
namespace Go.Proofs.Ytfmjhamnpgcdcaa
open Go.RowKit Go.Sort
set_option linter.unusedVariables false

/-- The slice v holds l; nil has no room. -/
def SliceNOk (w : World) (v : Value) (l : List Int) : Prop := SliceN w v l ∧ (v = .slice none 0 0 ∨ ∃ ad cap, v = .slice (some ad) l.length cap)
theorem SliceNOk.kept {w w' : World} {v : Value} {l : List Int} (h : SliceNOk w v l) (hb : Below w.heap.size w w') : SliceNOk w' v l := ⟨h.1.kept hb, h.2⟩
theorem ownN_empty (B : Nat) (w : World) (hB : B ≤ w.heap.size) : OwnN B (w.alloc (.cells #[] 3)) (.slice (some ⟨w.heap.size, 0, none⟩) 0 0) [] :=
  ⟨rfl, Or.inr ⟨w.heap.size, 0, #[], rfl, hB, heap_alloc_new _ _, Nat.le_refl _, by unfold maxLen; omega, rfl, rfl⟩⟩
theorem addN (g off j : Nat) : (⟨g, off, none⟩ : Addr).add j = ⟨g, off + j, none⟩ := by
  unfold Addr.add
  split
  · rename_i h; subst h; rfl
  · rfl
theorem appendN {ops : Array Oper} {rest : List Oper} {o : Oper} {a : Act} {Q : Exit → Act → World → Prop} {w : World} (hgd : o.guard = none) (s x : Operand)
    (ho : o.op = .call { callee := .builtin .append, args := #[s, x], argTypes := #[22, 22] }) (B : Nat) (v : Value) (xs : List Int) (hs : a.eval s = v) (hown : OwnN B w v xs)
    (vx : Value) (L : List Int) (hx : a.eval x = vx) (hsrc : SliceNOk w vx L) (hlen : xs.length + L.length ≤ 100000) (hB : B ≤ w.heap.size)
    (h : ∀ v' w', OwnN B w' v' (xs ++ L) → Below B w w' → wpList Try.prog ops Q rest (a.put o.dst v') w') : wpList Try.prog ops Q (o :: rest) a w := by
  obtain ⟨i0, hi0, hz0, hz1, hz2⟩ := info_parts Try.infoInt
  have key : ∀ ad c, vx = .slice (some ad) L.length c → (∀ j, j < L.length → w.cell? (ad.add j) = some (.int .i64 (L.getD j 0))) → wpList Try.prog ops Q (o :: rest) a w := fun ad c hv hc => by
    refine wpList_append_own _ hgd s x 22 ho B 3 i0 (.int .i64 0) 1 8 Try.underlying22 hi0 hz0 hz1 hz2 rfl (by decide) v xs.length (xs.map (Value.int .i64)) hs hown ad L.length c (L.map (Value.int .i64)) (hx.trans hv) (by simp) ?_ ?_ (by unfold maxLen; omega) (by omega) hB ?_
    · intro j u hj
      by_cases hjl : j < L.length
      · rw [hc j hjl]
        simp [hjl, List.getD_eq_getElem?_getD] at hj ⊢
        exact hj
      · rw [List.getElem?_eq_none (by simpa using hjl)] at hj; cases hj
    · intro u hu
      obtain ⟨y, _, rfl⟩ := List.mem_map.1 hu
      rfl
    · intro v' w' h1 h2 h3
      refine h v' w' ?_ ((Below.refl B w).grown h2 hB (fun k hk => (hown.lt k hk).1))
      unfold OwnN
      rw [List.length_append, List.map_append]
      exact h1
  rcases hsrc.1 with ⟨hl0, a', cap', hv⟩ | ⟨g, off, cap, hg, hv, hc⟩
  · subst hl0
    rcases hsrc.2 with h0 | ⟨ad, cp, h0⟩
    · refine wpList_append_own_none hgd s x 22 ho B 3 i0 1 Try.underlying22 hi0 v xs.length (xs.map (Value.int .i64)) hs hown (hx.trans h0) ?_
      exact h v w (by rw [List.append_nil]; exact hown) (Below.refl B w)
    · exact key ad cp h0 (fun j hj => by simp at hj)
  · exact key _ cap hv (fun j hj => by rw [addN]; exact hc j hj)

set_option maxHeartbeats 4000000 in
theorem free5_walk (v : Value) (l : List Int) (w : World) (hv : SliceNOk w v l) (hlm : l.length ≤ 9223372036854775807) :
    Calls Try.prog 3 #[v] w fun e w' => e = .returned (.bool true) ∧ Below w.heap.size w w' := by
  have cA := awake5_c w
  obtain ⟨n, hn⟩ : ∃ n, l.length = n := ⟨_, rfl⟩
  have HV := Lib.hid hv
  have HN := Lib.hid hn
  obtain ⟨a, cap, rfl⟩ := hv.1.len
  rw [hn] at hlm
  by_cases hbig : 200 < n
  · have hz : (200 : Int) < (n : Int) := by omega
    rw [hn]
    clear hv hn
    go_enter Try.func3, Try.ntmps3
    go_wp2_with fail
    refine cA.mono ?_
    rintro e w1 ⟨rfl, hb1⟩
    have cA2 := awake5_c w1
    go_wp2_with fail
    refine cA2.mono ?_
    rintro e w2 ⟨rfl, hb2⟩
    have HB : Hid (Below w.heap.size w w2) := Lib.hid (hb1.trans (hb2.mono hb1.size))
    clear hb1 hb2 cA cA2
    go_wp2
    go_ret
    exact ⟨rfl, HB.out⟩
  · have hz : ¬ ((200 : Int) < (n : Int)) := by omega
    have hn2 : n ≤ 200 := by omega
    rw [hn]
    clear hv hn
    go_enter Try.func3, Try.ntmps3
    go_wp2_with fail
    refine cA.mono ?_
    rintro e w1 ⟨rfl, hb1⟩
    have HB1 := Lib.hid hb1
    have HV1 : Hid (SliceNOk w1 (.slice a n cap) l) := Lib.hid (by have := HV.out.kept hb1; rw [HN.out] at this; exact this)
    have HVA : Hid (SliceNOk (w1.alloc (.cells #[] 3)) (.slice a n cap) l) := Lib.hid (HV1.out.kept ((Below.refl _ w1).alloc (Nat.le_refl _) _))
    have HBA : Hid (Below w1.heap.size w1 (w1.alloc (.cells #[] 3))) := Lib.hid ((Below.refl _ w1).alloc (Nat.le_refl _) _)
    have HOA := Lib.hid (ownN_empty w1.heap.size w1 (Nat.le_refl _))
    clear hb1 cA
    go_wp2_with (at_builtin; refine appendN rfl _ _ rfl w1.heap.size _ [] rfl HOA.out _ l rfl HVA.out (by rw [HN.out]; simp; omega) (by show _ ≤ (w1.heap.push _).size; simp) ?_; intro v3 w3 hown3 hb3)
    rw [List.nil_append] at hown3
    have HW3 : Hid (Below w1.heap.size w1 w3) := Lib.hid (HBA.out.trans hb3)
    have HV3 := Lib.hid (HV1.out.kept HW3.out)
    have HO3 := Lib.hid hown3
    obtain ⟨a3, cap3, hv3⟩ := hown3.len
    rw [HN.out] at hv3
    subst hv3
    have cF := free_c _ l w3 HV3.out.1 (by rw [HN.out]; omega)
    unfold FreePost at cF
    clear hown3 hb3
    go_wp2_with fail
    refine cF.mono ?_
    rintro e w4 ⟨f, hf, hf1, rfl, hb4⟩
    have HF := Lib.hid hf
    have HB4 := Lib.hid hb4
    have HV4 := Lib.hid (HV3.out.kept hb4)
    have HO4 := Lib.hid (HO3.out.below hb4)
    clear cF hf hb4
    go_wp2
    go_loopw [5] (fun iv wr => ∃ k : Nat, k ≤ n ∧ iv = .int .i64 k ∧ Below w4.heap.size w4 wr) (fun iv _ => n - (intOf iv).toNat)
    case atStart => exact ⟨0, by omega, rfl, Below.refl _ _⟩
    case round =>
      obtain ⟨k, hk, rfl, hbq⟩ := hrel
      have HBQ0 := Lib.hid hbq
      by_cases hkn : k < n
      · have hkz : (k : Int) < (n : Int) := by omega
        obtain ⟨g, off, rfl, hg, c1⟩ := (HV4.out.1.kept hbq).at (j := k) (by rw [HN.out]; exact hkn)
        obtain ⟨g3, off3, rfl, hg3, c3⟩ := (SliceN.own (HO4.out.below hbq)).at (j := k) (by rw [HN.out]; exact hkn)
        have d1 : wr.drew.cell? ⟨g, off + k, none⟩ = some (.int .i64 (l.getD k 0)) := c1
        have d3 : wr.drew.cell? ⟨g3, off3 + k, none⟩ = some (.int .i64 (l.getD k 0)) := c3
        clear hbq hg hg3
        generalize l.getD k 0 = x at *
        go_wp2
        go_quiet (fail)
        go_wp2
        go_roundw
        case rel => exact ⟨k + 1, by omega, by first | rfl | go_num, by first | exact below_drewN2 HBQ0.out _ | exact HBQ0.out.drew⟩
        case measure => simp [intOf]; omega
      · have hge : ¬ ((k : Int) < (n : Int)) := by omega
        have HBQ : Hid (Below w.heap.size w wr) := Lib.hid ((HB1.out.trans ((HW3.out.trans (HB4.out.mono HW3.out.size)).mono HB1.out.size)).trans (hbq.mono (by have := HB1.out.size; have := HW3.out.size; have := HB4.out.size; omega)))
        have cR := rfree_c _ l wr (HV4.out.1.kept hbq) (by rw [HN.out]; omega)
        unfold RFreePost at cR
        clear hbq
        go_wp2_with fail
        refine cR.mono ?_
        rintro e w5 ⟨f2, hf2, rfl, hw5⟩
        subst hw5
        obtain rfl := freeOf_one HF.out hf2
        clear cR hf2
        go_wp2
        go_ret
        exact ⟨rfl, HBQ.out⟩
end Go.Proofs.Ytfmjhamnpgcdcaa
