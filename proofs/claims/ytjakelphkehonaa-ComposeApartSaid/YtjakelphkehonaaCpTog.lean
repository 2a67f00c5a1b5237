/-
  The contract of compose's Together: characters put together, in a list of its own; what lay in memory stays. (wip/gen_tog.py writes this text.)
-/
import Derived.Test.YtjakelphkehonaaCpReach
namespace Go.Proofs.Ytjakelphkehonaa
open Go.RowKit Go.Sort
set_option linter.unusedVariables false

def baseOf (out : List Int) : Int := match lastBase out with
  | some (p, _, _) => (p.length : Int)
  | none => -1
theorem base_close {out : List Int} {x : Int} (h : classI x = 0) : baseOf (out ++ [x]) = (out.length : Int) := by
  unfold baseOf; rw [lastBase_at out h (fun y hy => by cases hy)]
theorem base_mark {out : List Int} {x : Int} (h : ¬ classI x = 0) : baseOf (out ++ [x]) = baseOf out := by
  have hx : 0 < classI x := by have := classI_nn x; omega
  unfold baseOf
  cases hb : lastBase out with
  | none =>
    have := lastBase_none hb
    rw [lastBase_pos (fun y hy => by
      rcases List.mem_append.1 hy with hy | hy
      · exact this y hy
      · simp at hy; subst hy; exact hx)]
  | some q =>
    obtain ⟨p, b, ms⟩ := q
    obtain ⟨ho, hb0, hms⟩ := lastBase_some hb
    have e : out ++ [x] = p ++ b :: (ms ++ [x]) := by rw [ho]; simp
    rw [e, lastBase_at p hb0 (fun y hy => by
      rcases List.mem_append.1 hy with hy | hy
      · exact hms y hy
      · simp at hy; subst hy; exact hx)]
theorem base_made {p ms : List Int} {b r : Int} (h : 0 < pairI b r) (hms : PosL ms) : baseOf (p ++ pairI b r :: ms) = (p.length : Int) := by
  unfold baseOf; rw [lastBase_at p (class_made h) hms]
theorem set_at {p ms : List Int} {b x : Int} : (p ++ b :: ms).set p.length x = p ++ x :: ms := by simp
theorem tog_take {l : List Int} {i : Nat} (h : i < l.length) : togI (l.take (i + 1)) = togStep (togI (l.take i)) (l.getD i 0) := by
  rw [List.take_add_one, show l[i]?.toList = [l.getD i 0] by simp [List.getD_eq_getElem?_getD, List.getElem?_eq_getElem h], togI_snoc]

/-- What has been put together of the first i. -/
def TogRel (w0 : World) (l : List Int) (ov bv iv : Value) (wr : World) : Prop :=
  ∃ i, i ≤ l.length ∧ iv = .int .i64 (i : Nat) ∧ OwnI w0.heap.size wr ov (togI (l.take i)) ∧ bv = .int .i64 (baseOf (togI (l.take i))) ∧ Below w0.heap.size w0 wr
def TogPost (l : List Int) (w : World) (e : Ending) (w' : World) : Prop := ∃ v', e = .returned v' ∧ SliceIs w' v' (togI l) ∧ Below w.heap.size w w'

set_option maxHeartbeats 3000000 in
set_option maxRecDepth 100000 in
theorem together_c (l : List Int) (v : Value) (w : World) (hv : SliceIs w v l) (hs : l.length ≤ 1000) : Calls Try.prog 10 #[v] w (TogPost l w) := by
  obtain ⟨i0, hi0, hz0, hz1, hz2⟩ := info_parts infoInt32
  obtain ⟨a, cap, hva⟩ := hv.len
  have HV := Lib.hid hv
  obtain ⟨n, hn⟩ : ∃ n, l.length = n := ⟨_, rfl⟩
  have HN := Lib.hid hn
  subst hva
  rw [hn] at HV ⊢
  rw [hn] at hs
  clear hv hn
  go_enter Try.func10, Try.ntmps10
  go_wp2
  go_loopw [3, 4, 11] (fun ov bv iv wr => TogRel w l ov bv iv wr) (fun _ _ iv _ => n - (intOf iv).toNat)
  case atStart => exact ⟨0, by omega, rfl, by simpa [togI] using OwnI.nil _ _, rfl, Below.refl _ _⟩
  case round =>
    obtain ⟨i, hi, rfl, hown, rfl, hbel⟩ := hrel
    rw [HN.out] at hi
    by_cases hlt : i < n
    · have hltz : (i : Int) < (n : Int) := by omega
      obtain ⟨x, hx⟩ : ∃ x, l.getD i 0 = x := ⟨_, rfl⟩
      have HST := Lib.hid (tog_take (l := l) (i := i) (by rw [HN.out]; exact hlt))
      rw [hx] at HST
      obtain ⟨g, off, cp, hg, hvv, hc⟩ : ∃ g off cp, g < w.heap.size ∧ Value.slice a n cap = .slice (some ⟨g, off, none⟩) n cp ∧ w.cell? ⟨g, off + i, none⟩ = some (.int .i32 x) := by
        rcases HV.out with ⟨h0, _⟩ | ⟨g, off, cp, hg, hvv, hc⟩
        · have := HN.out; rw [h0] at this; simp at this; omega
        · exact ⟨g, off, cp, hg, by rw [hvv, HN.out], by rw [hc i (by rw [HN.out]; exact hlt), hx]⟩
      cases hvv
      have c1 : wr.cell? ⟨g, off + i, none⟩ = some (.int .i32 x) := by rw [hbel.cell (p := ⟨g, off + i, none⟩) hg]; exact hc
      have hol := togI_length (l.take i)
      rw [List.length_take, HN.out] at hol
      have hol : (togI (l.take i)).length ≤ i := by omega
      obtain ⟨out, hout⟩ : ∃ out, togI (l.take i) = out := ⟨_, rfl⟩
      rw [hout] at HST hown hol ⊢
      have cC := fun w => cls_c x w
      have wi : IntKind.i64.wrap ((i : Int) + 1) = ((i + 1 : Nat) : Int) := by rw [IntKind.wrap_i64]; omega
      -- the two ways in which x goes behind the others
      have HA0 : Hid (classI x = 0 → togStep out x = out ++ [x] → ∀ ov w', OwnI w.heap.size w' ov (out ++ [x]) → Below w.heap.size w w' → TogRel w l ov (.int .i64 (out.length : Nat)) (.int .i64 ((i + 1 : Nat) : Int)) w') := Lib.hid fun h0 hst ov w' ho hb =>
        ⟨i + 1, by rw [HN.out]; omega, rfl, by rw [HST.out, hst]; exact ho, by rw [HST.out, hst, base_close h0], hb⟩
      have HA1 : Hid (¬ classI x = 0 → togStep out x = out ++ [x] → ∀ ov w', OwnI w.heap.size w' ov (out ++ [x]) → Below w.heap.size w w' → TogRel w l ov (.int .i64 (baseOf out)) (.int .i64 ((i + 1 : Nat) : Int)) w') := Lib.hid fun h0 hst ov w' ho hb =>
        ⟨i + 1, by rw [HN.out]; omega, rfl, by rw [HST.out, hst]; exact ho, by rw [HST.out, hst, base_mark h0], hb⟩
      have HMP : Hid (∀ p b ms, togStep out x = p ++ pairI b x :: ms → 0 < pairI b x → PosL ms → ∀ ov w', OwnI w.heap.size w' ov (p ++ pairI b x :: ms) → Below w.heap.size w w' → TogRel w l ov (.int .i64 (p.length : Nat)) (.int .i64 ((i + 1 : Nat) : Int)) w') := Lib.hid fun p b ms hst h0 hms ov w' ho hb =>
        ⟨i + 1, by rw [HN.out]; omega, rfl, by rw [HST.out, hst]; exact ho, by rw [HST.out, hst, base_made h0 hms], hb⟩
      have HO := Lib.hid hown
      have HBEL := Lib.hid hbel
      have hwB := hbel.size
      have HXL : Hid (out.length ≤ i) := Lib.hid hol
      have hol : (out.length : Int) ≤ 1000 := by omega
      have hol' : out.length ≤ 1000 := by omega
      clear hx hc hown hbel hout HST
      cases hb : lastBase out with
      | none =>
        have hst : togStep out x = out ++ [x] := by unfold togStep; rw [hb]
        have hbo : baseOf out = -1 := by unfold baseOf; rw [hb]
        rw [hbo] at HA1 ⊢
        clear hb hbo
        obtain ⟨ao, co, hov⟩ := (SliceIs.own HO.out).len
        subst hov
        by_cases h0 : classI x = 0
        · have HE := Lib.hid (HA0.out h0 hst)
          rw [h0] at cC
          clear h0 HA0 HA1 HMP
          go_wp2_with fail
          refine (cC _).mono ?_
          rintro e w' ⟨rfl, hweq⟩
          rw [hweq]
          clear hweq w'
          have hown1 := HO.out
          have hbl1 := HBEL.out
          go_wp2_with (at_builtin; refine wpList_append_own _ rfl _ _ 22 rfl w.heap.size 21 i0 (.int .i32 0) 1 4 Try.underlying22 hi0 hz0 hz1 hz2 rfl (by decide) _ _ _ rfl (hown1.alloc _) ⟨wr.heap.size, 0, none⟩ 1 1 [.int .i32 x] rfl rfl ?c1 ?c2 ?c3 ?c4 ?c5 ?_)
          case c1 =>
            intro j u hj
            match j, hj with
            | 0, hj => simp at hj; subst hj; simp [Addr.add]
          case c2 => intro u hu; simp at hu; subst hu; rfl
          case c3 => unfold maxLen; omega
          case c4 => omega
          case c5 => have := hbl1.size; simp; omega
          intro v' w9 hown' hgrow _
          have HR := Lib.hid (HE.out v' w9 (OwnI.more (ys := [x]) hown' (by simp) (by simp)) ((hbl1.alloc hbl1.size _).grown hgrow (by have := hbl1.size; simp; omega) (fun j hj => (hown1.lt j hj).1)))
          clear hown' hgrow hown1 hbl1 HE
          go_wp2
          go_roundw
          case rel => exact HR.out
          case measure => simp [intOf]; omega
        · have HE := Lib.hid (HA1.out h0 hst)
          have h0' : (classI x == 0) = false := by rw [beq_eq_false_iff_ne]; exact h0
          clear h0 HA0 HA1 HMP
          generalize classI x = cx at *
          go_wp2_with fail
          refine (cC _).mono ?_
          rintro e w' ⟨rfl, hweq⟩
          rw [hweq]
          clear hweq w'
          have hown1 := HO.out
          have hbl1 := HBEL.out
          go_wp2_with (at_builtin; refine wpList_append_own _ rfl _ _ 22 rfl w.heap.size 21 i0 (.int .i32 0) 1 4 Try.underlying22 hi0 hz0 hz1 hz2 rfl (by decide) _ _ _ rfl (hown1.alloc _) ⟨wr.heap.size, 0, none⟩ 1 1 [.int .i32 x] rfl rfl ?c1 ?c2 ?c3 ?c4 ?c5 ?_)
          case c1 =>
            intro j u hj
            match j, hj with
            | 0, hj => simp at hj; subst hj; simp [Addr.add]
          case c2 => intro u hu; simp at hu; subst hu; rfl
          case c3 => unfold maxLen; omega
          case c4 => omega
          case c5 => have := hbl1.size; simp; omega
          intro v' w9 hown' hgrow _
          have HR := Lib.hid (HE.out v' w9 (OwnI.more (ys := [x]) hown' (by simp) (by simp)) ((hbl1.alloc hbl1.size _).grown hgrow (by have := hbl1.size; simp; omega) (fun j hj => (hown1.lt j hj).1)))
          clear hown' hgrow hown1 hbl1 HE
          go_wp2
          go_roundw
          case rel => exact HR.out
          case measure => simp [intOf]; omega
      | some q =>
        obtain ⟨p, b, ms⟩ := q
        obtain ⟨ho, hb0, hms⟩ := lastBase_some hb
        have hbo : baseOf out = (p.length : Int) := by unfold baseOf; rw [hb]
        have hne : out ≠ [] := by rw [ho]; simp
        obtain ⟨G, cpo, hov⟩ := OwnI.form HO.out hne
        subst hov
        obtain ⟨hH, hcp, hgB, hgw⟩ := OwnI.holds HO.out
        obtain ⟨k, hk⟩ : ∃ k, p.length = k := ⟨_, rfl⟩
        obtain ⟨o, hoo⟩ : ∃ o, out.length = o := ⟨_, rfl⟩
        have hlen := congrArg List.length ho
        rw [List.length_append, List.length_cons, hk, hoo] at hlen
        rw [hoo] at hcp HO HXL hol' HA0 ⊢
        have kc := RW_cell (m := 0) (i := k) hH rfl (by rw [hoo]; omega)
        rw [RW_start hH, Nat.zero_add, ho, ← hk, getD_mid, hk] at kc
        obtain ⟨cb, fb⟩ := kc
        rw [hbo, hk] at HA1 ⊢
        have hko : k < o := by omega
        -- reaches is asked of what stands behind the base
        have CR : Hid (∀ (ad : Option Addr) (cq : Nat), (ad = some ⟨G, k + 1, none⟩ ∨ o - (k + 1) = 0) → Calls Try.prog 23 #[.slice ad (o - (k + 1)) cq, .int .i32 x] wr (ReachPost ms x wr)) := Lib.hid fun ad cq h => by
          refine reach_c _ ms x wr ?_ (by omega)
          rcases h with rfl | h
          · by_cases hm0 : ms = []
            · exact Or.inl ⟨hm0, _, cq, by rw [show o - (k + 1) = 0 by rw [hm0] at hlen; simp at hlen; omega]⟩
            · refine Or.inr ⟨G, k + 1, cq, hgw, by rw [show o - (k + 1) = ms.length by omega], fun j hj => ?_⟩
              have := RW_cell (m := 0) (i := k + 1 + j) hH rfl (by rw [hoo]; omega)
              rw [RW_start hH, Nat.zero_add, ho] at this
              have e := getD_three p [b] ms (k + 1 + j)
              rw [hk, if_neg (by omega), List.length_singleton, if_neg (by omega), show k + 1 + j - k - 1 = j by omega] at e
              rw [show p ++ b :: ms = p ++ ([b] ++ ms) from rfl, e] at this
              exact this.1
          · exact Or.inl ⟨List.eq_nil_of_length_eq_zero (by omega), ad, cq, by rw [h]⟩
        have wk : IntKind.i64.wrap ((k : Int) + 1) = ((k + 1 : Nat) : Int) := by rw [IntKind.wrap_i64]; omega
        have wk' : IntKind.i64.wrap ((k : Int) + 1) = (k : Int) + 1 := by rw [IntKind.wrap_i64]; omega
        have hkn : ((k : Int) + 1).toNat = k + 1 := by omega
        have k0 : (0 : Int) ≤ (k : Int) := by omega
        have k1 : (k : Int) + 1 ≤ (o : Int) := by omega
        have k1' : (0 : Int) ≤ (k : Int) + 1 := by omega
        have k2 : (o : Int) ≤ (cpo : Int) := by omega
        have kz : (k : Int) < (o : Int) := by omega
        by_cases hmay : mayB ms x = true
        · have cP := fun w => paircp_c b x w
          unfold PairPost at cP
          by_cases hp : 0 < pairI b x
          · have hst : togStep out x = p ++ pairI b x :: ms := by unfold togStep; rw [hb]; simp only; rw [if_pos ⟨hmay, hp⟩]
            have HE := Lib.hid (HMP.out p b ms hst hp hms)
            rw [hk] at HE
            have hdp : decide (0 < pairI b x) = true := decide_eq_true hp
            rw [hdp] at cP
            have HSET : Hid (∀ y : Int, out.set k y = p ++ y :: ms) := Lib.hid fun y => by rw [ho, ← hk]; exact set_at
            obtain ⟨made, hmade⟩ : ∃ made, pairI b x = made := ⟨_, rfl⟩
            rw [hmade] at HE cP
            clear hmade hp hst hdp HA0 HA1 HMP hlen hk hoo ho hb hb0 hms hH hne hbo cC
            have CB := Lib.hid cb
            have FB := Lib.hid fb
            clear cb fb
            go_wp2_with fail
            all_goals by_cases hcq : cpo = k + 1
            all_goals try (exfalso; omega)
            all_goals
              try rw [hcq] at HO
              refine (CR.out _ _ (by first | exact Or.inl rfl | exact Or.inr (by omega))).mono ?_
              unfold ReachPost
              rw [hmay]
              rintro e w1 ⟨rfl, hb1⟩
              have cb1 : w1.cell? ⟨G, k, none⟩ = some (.int .i32 b) := by rw [hb1.cell (p := ⟨G, k, none⟩) hgw]; exact CB.out
              go_wp2_with fail
              refine (cP _).mono ?_
              rintro e w2 ⟨rfl, hb2⟩
              have hb12 := below_step hb1 hb2
              have HOW := Lib.hid ((HO.out.below hb12).set (i := k) made)
              have cb2 : w2.cell? ⟨G, k, none⟩ = some (.int .i32 b) := by rw [hb12.cell (p := ⟨G, k, none⟩) hgw]; exact CB.out
              have fb2 : w2.frozen? ⟨G, k, none⟩ = false := by
                have := FB.out
                simp only [World.frozen?, hb12.block G hgw] at this ⊢
                exact this
              have HB3 := Lib.hid ((HBEL.out.trans (hb12.mono hwB)).trans (below_set w2 k (.int .i32 made) hgB))
              clear hb1 hb2 hb12 cb1
              go_wp2
              go_roundw
              case rel => exact HE.out _ _ (by rw [← HSET.out made]; exact HOW.out) HB3.out
              case measure => simp [intOf]; omega
          · have hst : togStep out x = out ++ [x] := by unfold togStep; rw [hb]; simp only; rw [if_neg fun hh => hp hh.2]
            have hdp : decide (0 < pairI b x) = false := decide_eq_false hp
            rw [hdp] at cP
            generalize pairI b x = made at cP
            clear hdp hlen hk hoo ho hb hb0 hms hH hne hbo fb HMP
            have CB := Lib.hid cb
            clear cb
            go_wp2_with fail
            all_goals by_cases hcq : cpo = k + 1
            all_goals try (exfalso; omega)
            all_goals
              try rw [hcq] at HO
              refine (CR.out _ _ (by first | exact Or.inl rfl | exact Or.inr (by omega))).mono ?_
              unfold ReachPost
              rw [hmay]
              rintro e w1 ⟨rfl, hb1⟩
              have cb1 : w1.cell? ⟨G, k, none⟩ = some (.int .i32 b) := by rw [hb1.cell (p := ⟨G, k, none⟩) hgw]; exact CB.out
              go_wp2_with fail
              refine (cP _).mono ?_
              rintro e w2 ⟨rfl, hb2⟩
              have hb12 := below_step hb1 hb2
              have HOW := Lib.hid (HO.out.below hb12)
              have HB3 := Lib.hid (HBEL.out.trans (hb12.mono hwB))
              clear hb1 hb2 hb12 cb1
              by_cases h0 : classI x = 0
              · have HE := Lib.hid (HA0.out h0 hst)
                rw [h0] at cC
                clear h0 HA0 HA1
                go_wp2_with fail
                refine (cC _).mono ?_
                rintro e w' ⟨rfl, hweq⟩
                rw [hweq]
                clear hweq w'
                have hown1 := HOW.out
                have hbl1 := HB3.out
                go_wp2_with (at_builtin; refine wpList_append_own _ rfl _ _ 22 rfl w.heap.size 21 i0 (.int .i32 0) 1 4 Try.underlying22 hi0 hz0 hz1 hz2 rfl (by decide) _ _ _ rfl (hown1.alloc _) ⟨w2.heap.size, 0, none⟩ 1 1 [.int .i32 x] rfl rfl ?c1 ?c2 ?c3 ?c4 ?c5 ?_)
                case c1 =>
                  intro j u hj
                  match j, hj with
                  | 0, hj => simp at hj; subst hj; simp [Addr.add]
                case c2 => intro u hu; simp at hu; subst hu; rfl
                case c3 => unfold maxLen; omega
                case c4 => omega
                case c5 => have := hbl1.size; simp; omega
                intro v' w9 hown' hgrow _
                have HR := Lib.hid (HE.out v' w9 (OwnI.more (ys := [x]) hown' (by simp) (by simp)) ((hbl1.alloc hbl1.size _).grown hgrow (by have := hbl1.size; simp; omega) (fun j hj => (hown1.lt j hj).1)))
                clear hown' hgrow hown1 hbl1 HE
                go_wp2
                go_roundw
                case rel => exact HR.out
                case measure => simp [intOf]; omega
              · have HE := Lib.hid (HA1.out h0 hst)
                have h0' : (classI x == 0) = false := by rw [beq_eq_false_iff_ne]; exact h0
                clear h0 HA0 HA1
                generalize classI x = cx at *
                go_wp2_with fail
                refine (cC _).mono ?_
                rintro e w' ⟨rfl, hweq⟩
                rw [hweq]
                clear hweq w'
                have hown1 := HOW.out
                have hbl1 := HB3.out
                go_wp2_with (at_builtin; refine wpList_append_own _ rfl _ _ 22 rfl w.heap.size 21 i0 (.int .i32 0) 1 4 Try.underlying22 hi0 hz0 hz1 hz2 rfl (by decide) _ _ _ rfl (hown1.alloc _) ⟨w2.heap.size, 0, none⟩ 1 1 [.int .i32 x] rfl rfl ?c1 ?c2 ?c3 ?c4 ?c5 ?_)
                case c1 =>
                  intro j u hj
                  match j, hj with
                  | 0, hj => simp at hj; subst hj; simp [Addr.add]
                case c2 => intro u hu; simp at hu; subst hu; rfl
                case c3 => unfold maxLen; omega
                case c4 => omega
                case c5 => have := hbl1.size; simp; omega
                intro v' w9 hown' hgrow _
                have HR := Lib.hid (HE.out v' w9 (OwnI.more (ys := [x]) hown' (by simp) (by simp)) ((hbl1.alloc hbl1.size _).grown hgrow (by have := hbl1.size; simp; omega) (fun j hj => (hown1.lt j hj).1)))
                clear hown' hgrow hown1 hbl1 HE
                go_wp2
                go_roundw
                case rel => exact HR.out
                case measure => simp [intOf]; omega
        · have hst : togStep out x = out ++ [x] := by unfold togStep; rw [hb]; simp only; rw [if_neg fun hh => hmay hh.1]
          have hmf : mayB ms x = false := by simpa using hmay
          clear hlen hk hoo ho hb hb0 hms hH hne hbo cb fb hmay HMP
          go_wp2_with fail
          all_goals by_cases hcq : cpo = k + 1
          all_goals try (exfalso; omega)
          all_goals
            try rw [hcq] at HO
            refine (CR.out _ _ (by first | exact Or.inl rfl | exact Or.inr (by omega))).mono ?_
            unfold ReachPost
            rw [hmf]
            rintro e w1 ⟨rfl, hb1⟩
            have HOW := Lib.hid (HO.out.below hb1)
            have HB3 := Lib.hid (HBEL.out.trans (hb1.mono hwB))
            clear hb1
            by_cases h0 : classI x = 0
            · have HE := Lib.hid (HA0.out h0 hst)
              rw [h0] at cC
              clear h0 HA0 HA1
              go_wp2_with fail
              refine (cC _).mono ?_
              rintro e w' ⟨rfl, hweq⟩
              rw [hweq]
              clear hweq w'
              have hown1 := HOW.out
              have hbl1 := HB3.out
              go_wp2_with (at_builtin; refine wpList_append_own _ rfl _ _ 22 rfl w.heap.size 21 i0 (.int .i32 0) 1 4 Try.underlying22 hi0 hz0 hz1 hz2 rfl (by decide) _ _ _ rfl (hown1.alloc _) ⟨w1.heap.size, 0, none⟩ 1 1 [.int .i32 x] rfl rfl ?c1 ?c2 ?c3 ?c4 ?c5 ?_)
              case c1 =>
                intro j u hj
                match j, hj with
                | 0, hj => simp at hj; subst hj; simp [Addr.add]
              case c2 => intro u hu; simp at hu; subst hu; rfl
              case c3 => unfold maxLen; omega
              case c4 => omega
              case c5 => have := hbl1.size; simp; omega
              intro v' w9 hown' hgrow _
              have HR := Lib.hid (HE.out v' w9 (OwnI.more (ys := [x]) hown' (by simp) (by simp)) ((hbl1.alloc hbl1.size _).grown hgrow (by have := hbl1.size; simp; omega) (fun j hj => (hown1.lt j hj).1)))
              clear hown' hgrow hown1 hbl1 HE
              go_wp2
              go_roundw
              case rel => exact HR.out
              case measure => simp [intOf]; omega
            · have HE := Lib.hid (HA1.out h0 hst)
              have h0' : (classI x == 0) = false := by rw [beq_eq_false_iff_ne]; exact h0
              clear h0 HA0 HA1
              generalize classI x = cx at *
              go_wp2_with fail
              refine (cC _).mono ?_
              rintro e w' ⟨rfl, hweq⟩
              rw [hweq]
              clear hweq w'
              have hown1 := HOW.out
              have hbl1 := HB3.out
              go_wp2_with (at_builtin; refine wpList_append_own _ rfl _ _ 22 rfl w.heap.size 21 i0 (.int .i32 0) 1 4 Try.underlying22 hi0 hz0 hz1 hz2 rfl (by decide) _ _ _ rfl (hown1.alloc _) ⟨w1.heap.size, 0, none⟩ 1 1 [.int .i32 x] rfl rfl ?c1 ?c2 ?c3 ?c4 ?c5 ?_)
              case c1 =>
                intro j u hj
                match j, hj with
                | 0, hj => simp at hj; subst hj; simp [Addr.add]
              case c2 => intro u hu; simp at hu; subst hu; rfl
              case c3 => unfold maxLen; omega
              case c4 => omega
              case c5 => have := hbl1.size; simp; omega
              intro v' w9 hown' hgrow _
              have HR := Lib.hid (HE.out v' w9 (OwnI.more (ys := [x]) hown' (by simp) (by simp)) ((hbl1.alloc hbl1.size _).grown hgrow (by have := hbl1.size; simp; omega) (fun j hj => (hown1.lt j hj).1)))
              clear hown' hgrow hown1 hbl1 HE
              go_wp2
              go_roundw
              case rel => exact HR.out
              case measure => simp [intOf]; omega
    · have hin : i = n := by omega
      subst hin
      have HT : Hid (l.take i = l) := Lib.hid (List.take_of_length_le (by rw [HN.out]; omega))
      rw [HT.out] at hown ⊢
      have hge : ¬ ((i : Int) < (i : Int)) := by omega
      have HX := Lib.hid (show SliceIs wr u3 (togI l) from SliceIs.own hown)
      clear hown
      go_wp2
      go_ret
      exact ⟨_, rfl, HX.out, hbel⟩
end Go.Proofs.Ytjakelphkehonaa
