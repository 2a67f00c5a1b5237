/-
  The contract of the sixteenth reference's Read.
-/
import Derived.Test.YtmplekjiciedgaaCuMath
import Derived.Test.YtmplekjiciedgaaQ1
import Derived.Handy
namespace Go.Proofs.Ytmplekjiciedgaa
open Go.RowKit Go.Sort
set_option linter.unusedVariables false

def ReadPost (R : List Ent × Int × Int) (w : World) (e : Ending) (w' : World) : Prop :=
  ∃ v', e = .returned (.tuple #[v', .int .i64 R.2.1, .int .i64 R.2.2]) ∧ EntsIs w' v' R.1 ∧ Below w.heap.size w w'
theorem take_one {l : List Ent} {i : Nat} {x : Ent} (h : l[i]? = some x) : l.take (i + 1) = l.take i ++ [x] := by
  rw [List.take_add_one, h]
  rfl
theorem above_one {c : Int} {l : List Ent} {i : Nat} {x : Ent} (h : l[i]? = some x) : aboveC c (l.take (i + 1)) = if c < x.cookie then aboveC c (l.take i) ++ [x] else aboveC c (l.take i) := by
  rw [take_one h]
  unfold aboveC
  rw [List.filter_append]
  by_cases hx : c < x.cookie <;> simp [hx]
theorem above_pre {c : Int} (l : List Ent) (i : Nat) : aboveC c l = aboveC c (l.take i) ++ aboveC c (l.drop i) := by
  unfold aboveC
  rw [← List.filter_append, List.take_append_drop]
/-- Before entry i: what came so far is below it. -/
theorem came_low {c : Int} {l : List Ent} (hr : Rises l) {i : Nat} {x : Ent} (h : l[i]? = some x) (N : Nat) (hx : c < x.cookie) : lastC c ((aboveC c (l.take i)).take N) < x.cookie := by
  rcases last_cases ((aboveC c (l.take i)).take N) with h0 | ⟨a, y, h0⟩
  · rw [h0]; exact hx
  · rw [h0, lastC_snoc]
    have hy : y ∈ l.take i := (mem_above.1 (List.mem_of_mem_take (by rw [h0]; simp : y ∈ (aboveC c (l.take i)).take N))).1
    have hp := hr
    unfold Rises at hp
    rw [← List.take_append_drop i l] at hp
    exact (List.pairwise_append.1 hp).2.2 y hy x (by rw [drop_eq_cons h]; simp)
theorem last_ge {c : Int} {l : List Ent} (i N : Nat) : c ≤ lastC c ((aboveC c (l.take i)).take N) := last_le fun e he => (mem_above.1 (List.mem_of_mem_take he)).2
set_option maxHeartbeats 4000000 in
set_option maxRecDepth 100000 in
theorem rread_c (v : Value) (l : List Ent) (c n : Int) (w : World) (hv : EntsIs w v l) (hr : Rises l) (hl : l.length ≤ 1000) :
    Calls Try.prog 14 #[v, .int .i64 c, .int .i64 n] w (ReadPost (readI l c n) w) := by
  unfold ReadPost
  by_cases h1 : n < 1
  · rw [show readI l c n = ([], 0, 1) by unfold readI; rw [if_pos (Or.inl h1)]]
    clear hv hr hl
    go_enter Try.func14, Try.ntmps14
    go_wp2
    go_ret3
    exact ⟨_, rfl, LstIs.nil _ _ _, Below.refl _ _⟩
  · by_cases h2 : 64 < n
    · rw [show readI l c n = ([], 0, 1) by unfold readI; rw [if_pos (Or.inr h2)]]
      clear hv hr hl
      go_enter Try.func14, Try.ntmps14
      go_wp2
      go_ret3
      exact ⟨_, rfl, LstIs.nil _ _ _, Below.refl _ _⟩
    · by_cases h3 : c < 0
      · rw [show readI l c n = ([], 0, 14) by unfold readI; rw [if_neg (by omega), if_pos h3]]
        clear hv hr hl
        go_enter Try.func14, Try.ntmps14
        go_wp2
        go_ret3
        exact ⟨_, rfl, LstIs.nil _ _ _, Below.refl _ _⟩
      · rw [readI_ok (by omega) (by omega) (by omega)]
        obtain ⟨N, hN⟩ : ∃ N : Nat, n = (N : Int) := ⟨n.toNat, by omega⟩
        subst hN
        rw [Int.toNat_natCast]
        have hN1 : 1 ≤ N := by omega
        have hN2 : N ≤ 64 := by omega
        obtain ⟨a, cap, rfl⟩ := hv.len
        obtain ⟨m, hm⟩ : ∃ m, l.length = m := ⟨_, rfl⟩
        have HM := Lib.hid hm
        have HV := Lib.hid hv
        have HR := Lib.hid hr
        rw [hm] at hl HV ⊢
        simp only
        clear hv hm hr
        go_enter Try.func14, Try.ntmps14
        go_wp2
        go_loopw [1, 9, 10] (fun cv ov iv wr => ∃ (o : Value) (i k : Nat) (out : List Ent), o = ov ∧ iv = .int .i64 i ∧ i ≤ m ∧ cv = .int .i64 (lastC c out) ∧ out = (aboveC c (l.take i)).take N ∧ out.length = k ∧ wr.ownsRow w.heap.size 46 5 o out.length (out.flatMap entC) ∧ Below w.heap.size w wr) (fun _ _ iv _ => m - (intOf iv).toNat)
        case atStart => exact ⟨_, 0, 0, [], rfl, rfl, by omega, rfl, by simp [aboveC], rfl, World.ownsRow_nil _ _ _ _, Below.refl _ _⟩
        case round =>
          obtain ⟨o, i, k, out, rfl, rfl, hi, rfl, hout, hk, hown, hb⟩ := hrel
          obtain ⟨a2, c2, hov⟩ := (LstIs.own (f := entC) (entC_len _) hown rfl).len
          rw [hk] at hov
          subst hov
          have hkN : k ≤ N := by rw [← hk, hout, List.length_take]; omega
          have hkN' : k ≤ i := by
            rw [← hk, hout, List.length_take]
            have h9 : (aboveC c (l.take i)).length ≤ (l.take i).length := List.length_filter_le _ _
            rw [List.length_take] at h9
            omega
          have HOUT := Lib.hid hout
          have HK := Lib.hid hk
          have HO := Lib.hid hown
          have HB := Lib.hid hb
          have HGE : Hid (c ≤ lastC c out) := Lib.hid (by rw [hout]; exact last_ge i N)
          clear hout hk hown
          by_cases him : i < m
          · have hiz : (i : Int) < (m : Int) := by omega
            obtain ⟨x, hx⟩ : ∃ x, l[i]? = some x := ⟨_, List.getElem?_eq_getElem (by rw [HM.out]; omega)⟩
            obtain ⟨g, off, rfl, hg, hrr⟩ := HV.out.at hx
            obtain ⟨d0, d1, d2, d3, d4⟩ := ent_at (rangeAt_below hrr hg hb)
            have HX := Lib.hid hx
            have HA1 := Lib.hid (above_one (c := c) hx)
            by_cases hc : c < x.cookie
            · have hlow : lastC c out < x.cookie := by rw [HOUT.out]; exact came_low HR.out hx N hc
              by_cases hkn : k < N
              · have hknz : (k : Int) < (N : Int) := by omega
                have hkne : ((k : Int) + 1 == (N : Int)) = decide (k + 1 = N) := by
                  by_cases e : k + 1 = N
                  · rw [decide_eq_true e]; exact beq_iff_eq.2 (by omega)
                  · rw [decide_eq_false e]; exact beq_eq_false_iff_ne.2 (by omega)
                have HNX : Hid ((aboveC c (l.take (i + 1))).take N = out ++ [x]) := Lib.hid (by
                  have h4 : (aboveC c (l.take i)).length < N := by
                    have := HK.out
                    rw [HOUT.out, List.length_take] at this
                    omega
                  have h5 : out = aboveC c (l.take i) := by rw [HOUT.out]; exact List.take_of_length_le (by omega)
                  rw [HA1.out, if_pos hc, h5]
                  exact List.take_of_length_le (by simp; omega))
                have HLC : Hid (lastC c (out ++ [x]) = x.cookie) := Lib.hid (lastC_snoc _ _ _)
                have HDN : Hid (∀ W, Below w.heap.size w W → W.cell? ⟨g, off + i * 5 + 3, none⟩ = some (.int .i64 x.cookie)) := Lib.hid (fun W hW => (ent_at (rangeAt_below hrr hg hW)).2.2.2.1)
                generalize lastC c out = lc at *
                obtain ⟨nm, nd, dr, ck, sh⟩ := x
                simp only at d0 d1 d2 d3 d4 hlow HLC HDN
                have hbA : Below wr.heap.size wr (wr.alloc (.cells #[.string nm, .int .i64 nd, .bool dr, .int .i64 ck, .int .i64 sh] 46)) := (Below.refl _ _).alloc (Nat.le_refl _) _
                have HBA : Hid (Below w.heap.size w (wr.alloc (.cells #[.string nm, .int .i64 nd, .bool dr, .int .i64 ck, .int .i64 sh] 46))) := Lib.hid (hb.alloc hb.size _)
                have HOA : Hid (World.ownsRow (wr.alloc (.cells #[.string nm, .int .i64 nd, .bool dr, .int .i64 ck, .int .i64 sh] 46)) w.heap.size 46 5 (.slice a2 k c2) out.length (out.flatMap entC)) := Lib.hid (HO.out.alloc _)
                have HIA : Hid (EntsIs (wr.alloc (.cells #[.string nm, .int .i64 nd, .bool dr, .int .i64 ck, .int .i64 sh] 46)) (.slice (some ⟨wr.heap.size, 0, none⟩) 1 1) [⟨nm, nd, dr, ck, sh⟩]) := Lib.hid (LstIs.block (entC_len _) (heap_alloc_new _ _))
                have HSA : Hid (w.heap.size ≤ (wr.alloc (.cells #[.string nm, .int .i64 nd, .bool dr, .int .i64 ck, .int .i64 sh] 46)).heap.size) := Lib.hid (Nat.le_trans hb.size hbA.size)
                have hlen : out.length + [(⟨nm, nd, dr, ck, sh⟩ : Ent)].length ≤ 100000 := by have := HK.out; simp; omega
                clear hx hrr hg hb hbA hc
                go_upto_region 11 with (at_builtin; refine wpList_append_lst (c := 5) (f := entC) entElem rfl (.tmp 38) (.tmp 43) rfl w.heap.size (.slice a2 k c2) out.length (out.flatMap entC) rfl HOA.out _ ([⟨nm, nd, dr, ck, sh⟩] : List Ent) (entC_len _) (fun y _ => entC_one y) rfl HIA.out hlen HSA.out ?_; intro v8 w8 ho8 hg8 hr8; have HB8 := Lib.hid (HBA.out.grown hg8 HSA.out (fun j hj => (HOA.out.lt j hj).1)); have HO8 : Hid (World.ownsRow w8 w.heap.size 46 5 v8 (out ++ [(⟨nm, nd, dr, ck, sh⟩ : Ent)]).length ((out ++ [(⟨nm, nd, dr, ck, sh⟩ : Ent)]).flatMap entC)) := Lib.hid (by rw [List.length_append, List.flatMap_append]; exact ho8); clear ho8 hg8 hr8)
                have q3 := HDN.out w8 HB8.out
                clear d0 d1 d2 d3 d4
                obtain ⟨a3, c3, hv3⟩ := (LstIs.own (f := entC) (entC_len _) HO8.out rfl).len
                rw [List.length_append, HK.out] at hv3
                subst hv3
                go_wp2
                go_roundw
                case rel => exact ⟨_, i + 1, k + 1, out ++ [(⟨nm, nd, dr, ck, sh⟩ : Ent)], rfl, by first | rfl | go_num, by omega, by rw [HLC.out], HNX.out.symm, by rw [List.length_append, HK.out]; rfl, HO8.out, HB8.out⟩
                case measure => simp [intOf]; omega
              · have hkN2 : k = N := by omega
                subst hkN2
                have HE : Hid ((aboveC c l).take k = out) := Lib.hid (by
                  rw [above_pre l i, List.take_append_of_le_length (by
                    have := HK.out
                    rw [HOUT.out, List.length_take] at this
                    omega)]
                  exact HOUT.out.symm)
                have HEN := Lib.hid (LstIs.own (f := entC) (entC_len _) HO.out rfl)
                clear hx hrr hg hb
                obtain ⟨lc, hlc⟩ : ∃ z, lastC c out = z := ⟨_, rfl⟩
                have HLC := Lib.hid hlc
                rw [hlc] at hlow
                (try rw [hlc])
                clear hlc
                go_wp2
                go_ret3
                exact ⟨_, by rw [HE.out, HLC.out]; rfl, by rw [HE.out]; exact HEN.out, HB.out⟩
            · have hlow : ¬ lastC c out < x.cookie := by have := HGE.out; omega
              have HNX : Hid ((aboveC c (l.take (i + 1))).take N = out) := Lib.hid (by rw [HA1.out, if_neg hc]; exact HOUT.out.symm)
              by_cases hkn : k = N
              · subst hkn
                have HE : Hid ((aboveC c l).take k = out) := Lib.hid (by
                  rw [above_pre l i, List.take_append_of_le_length (by
                    have := HK.out
                    rw [HOUT.out, List.length_take] at this
                    omega)]
                  exact HOUT.out.symm)
                have HEN := Lib.hid (LstIs.own (f := entC) (entC_len _) HO.out rfl)
                clear hx hrr hg hb hc
                obtain ⟨lc, hlc⟩ : ∃ z, lastC c out = z := ⟨_, rfl⟩
                have HLC := Lib.hid hlc
                rw [hlc] at hlow
                (try rw [hlc])
                clear hlc
                go_wp2
                go_ret3
                exact ⟨_, by rw [HE.out, HLC.out]; rfl, by rw [HE.out]; exact HEN.out, HB.out⟩
              · have hkne : ((k : Int) == (N : Int)) = false := beq_eq_false_iff_ne.2 (by omega)
                clear hx hrr hg hb hc
                obtain ⟨lc, hlc⟩ : ∃ z, lastC c out = z := ⟨_, rfl⟩
                have HLC := Lib.hid hlc
                rw [hlc] at hlow
                (try rw [hlc])
                clear hlc
                go_wp2
                go_roundw
                case rel => exact ⟨_, i + 1, k, out, rfl, by first | rfl | go_num, by omega, by rw [HLC.out], HNX.out.symm, HK.out, HO.out, HB.out⟩
                case measure => simp [intOf]; omega
          · have hiz : ¬ (i : Int) < (m : Int) := by omega
            have HE : Hid ((aboveC c l).take N = out) := Lib.hid (by
              have e1 : l.take i = l := List.take_of_length_le (by rw [HM.out]; omega)
              rw [HOUT.out, e1])
            have HEN := Lib.hid (LstIs.own (f := entC) (entC_len _) HO.out rfl)
            go_wp2
            go_ret3
            exact ⟨_, by rw [HE.out]; rfl, by rw [HE.out]; exact HEN.out, HB.out⟩
end Go.Proofs.Ytmplekjiciedgaa
