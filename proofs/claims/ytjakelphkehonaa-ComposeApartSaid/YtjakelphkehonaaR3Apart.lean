/-
  The contract of the third reference's Apart: split as long as can be, then bubbles.
-/
import Derived.Test.YtjakelphkehonaaCpKit
namespace Go.Proofs.Ytjakelphkehonaa
open Go.RowKit Go.Sort
set_option linter.unusedVariables false

def lenOf : Value → Nat
  | .slice _ n _ => n
  | _ => 0
def Fits (l : List Int) : Prop := ∀ x ∈ l, -2147483648 ≤ x ∧ x ≤ 2147483647
theorem full_longer : ∀ l : List Int, l.length ≤ (fullL l).length
  | [] => by simp
  | r :: l => by
    have h1 := full1_pos r
    have h2 := full_longer l
    rw [fullL_cons, List.length_append, List.length_cons]; omega
theorem OwnI.cell {B g n cap j : Nat} {w : World} {xs : List Int} (h : OwnI B w (.slice (some ⟨g, 0, none⟩) n cap) xs) (hn : xs.length = n) (hj : j < n) :
    w.cell? ⟨g, j, none⟩ = some (.int .i32 (xs.getD j 0)) ∧ w.frozen? ⟨g, j, none⟩ = false := by
  subst hn
  have := h.holds.1 j (by simpa using hj)
  rw [toArray_at, Nat.zero_add] at this
  exact this
/-- A part of an own slice. -/
theorem OwnI.part {B g n cap : Nat} {w : World} {xs ys zs : List Int} (h : OwnI B w (.slice (some ⟨g, 0, none⟩) n cap) (xs ++ (ys ++ zs))) (hn : (xs ++ (ys ++ zs)).length = n) (cp : Nat) :
    SliceOk w (.slice (some ⟨g, xs.length, none⟩) ys.length cp) ys := by
  have hb := h
  subst hn
  refine ⟨Or.inr ⟨g, xs.length, cp, hb.holds.2.2.2, rfl, fun j hj => ?_⟩, Or.inr ⟨_, cp, rfl⟩⟩
  have := (h.cell (j := xs.length + j) rfl (by simp; omega)).1
  rw [getD_three, if_neg (by omega), if_pos (by omega), Nat.add_sub_cancel_left] at this
  exact this

theorem OwnI.mono {B B' : Nat} {w : World} {v : Value} {xs : List Int} (h : OwnI B' w v xs) (hB : B ≤ B') : OwnI B w v xs := by
  refine ⟨h.1, ?_⟩
  rcases h.2 with h0 | ⟨g, cap, cur, hv, hg, rest⟩
  · exact Or.inl h0
  · exact Or.inr ⟨g, cap, cur, hv, Nat.le_trans hB hg, rest⟩
theorem passes_next (c : Int → Int) : ∀ (k : Nat) (l : List Int), passes c (k + 1) l = passM c (passes c k l)
  | 0, l => rfl
  | k + 1, l => passes_next c k (passM c l)
def BubOut (w0 : World) (B g n co : Nat) (F : List Int) (kv : Value) (wr : World) : Prop :=
  ∃ k, k ≤ n ∧ kv = .int .i64 (k : Nat) ∧ OwnI B wr (.slice (some ⟨g, 0, none⟩) n co) (passes classI k F) ∧ Below B w0 wr
def BubIn (w0 : World) (B g n co : Nat) (cur : List Int) (iv : Value) (wr : World) : Prop :=
  ∃ (P : List Int) (x : Int) (T : List Int), iv = .int .i64 ((P.length + 1 : Nat) : Int) ∧ P.length + 1 + T.length = n ∧ passM classI cur = P ++ passM classI (x :: T) ∧ OwnI B wr (.slice (some ⟨g, 0, none⟩) n co) (P ++ x :: T) ∧ Below B w0 wr
theorem OwnI.drewN {B : Nat} {w : World} {v : Value} {xs : List Int} (h : OwnI B w v xs) (q : Nat) : OwnI B (w.drewN q) v xs := h.below (below_drewN' (Below.refl _ _) q)
theorem cell_two (w : World) (cur : Array Value) (e : TypeId) (k : Nat) : (w.alloc (.cells cur e)).cell? ⟨w.heap.size, k, none⟩ = cur[k]? := by
  simp only [World.cell?, heap_alloc_new]
  rfl
def R3Rel (w0 : World) (l : List Int) (ov iv : Value) (wr : World) : Prop :=
  ∃ D R : List Int, OwnI w0.heap.size wr ov (D ++ R) ∧ iv = .int .i64 (D.length : Nat) ∧ (∀ x ∈ D, splitI x = none) ∧ D ++ fullL R = fullL l ∧ Fits R ∧ Below w0.heap.size w0 wr

set_option maxHeartbeats 4000000 in
set_option maxRecDepth 100000 in
theorem refApart_c (l : List Int) (v : Value) (w : World) (hv : SliceOk w v l) (hs : l.length ≤ 300) (hf : Fits l) : Calls Try.prog 21 #[v] w (ApartPost l w) := by
  obtain ⟨a, cap, hva⟩ := hv.1.len
  have HV := Lib.hid hv
  have HF := Lib.hid hf
  obtain ⟨T, hT⟩ : ∃ T, (fullL l).length = T := ⟨_, rfl⟩
  have HT := Lib.hid hT
  have hT9 : T ≤ 900 := by have := fullL_length l; omega
  have HLL := Lib.hid hs
  obtain ⟨nl, hnl⟩ : ∃ n, l.length = n := ⟨_, rfl⟩
  have HNL := Lib.hid hnl
  subst hva
  rw [hnl] at HV ⊢
  clear hv hf hT hs hnl
  have own0 := own_empty w.heap.size w (Nat.le_refl _)
  have hb0 : Below w.heap.size w (w.alloc (.cells #[] 21)) := (Below.refl _ _).alloc (Nat.le_refl _) _
  have HS0 := Lib.hid (HV.out.kept hb0)
  have hl0 : ([] : List Int).length + l.length ≤ 100000 := by have := HLL.out; rw [List.length_nil]; omega
  have hs0 := hb0.size
  go_enter Try.func21, Try.ntmps21
  go_wp2_with (at_builtin; refine append_ok rfl _ _ rfl w.heap.size _ [] rfl own0 _ l rfl HS0.out hl0 hs0 ?_)
  intro v1 w1 own1 hb1
  try rw [List.nil_append] at own1
  have HST : Hid (R3Rel w l v1 (.int .i64 0) w1) := Lib.hid ⟨[], l, own1, rfl, (fun x hx => nomatch hx), rfl, HF.out, hb0.trans hb1⟩
  clear own0 hb0 HS0 hl0 hs0 own1 hb1
  go_wp2
  go_loopw [3, 4] (fun ov iv wr => R3Rel w l ov iv wr) (fun ov iv _ => (T - lenOf ov) + (T - (intOf iv).toNat))
  case atStart => exact HST.out
  case round =>
    obtain ⟨D, R, hown, rfl, hD, hDR, hfit, hbel⟩ := hrel
    obtain ⟨i, hi⟩ : ∃ i, D.length = i := ⟨_, rfl⟩
    have hlen := congrArg List.length hDR
    rw [List.length_append, HT.out, hi] at hlen
    have hR9 := full_longer R
    obtain ⟨n, hn⟩ : ∃ n, (D ++ R).length = n := ⟨_, rfl⟩
    have hn' := hn
    rw [List.length_append, hi] at hn'
    rw [hi]
    cases R with
    | nil =>
      have hDF : D = fullL l := by rw [← hDR]; simp [fullL]
      rw [List.append_nil] at hown hn
      have hnT : n = T := by rw [← HT.out, ← hDF, hn]
      have hin : i = n := by rw [← hi, hn]
      rw [hin]
      have HO := Lib.hid hown
      have OK := Lib.hid (SliceOk.own hown)
      obtain ⟨ao, co, hov⟩ := (SliceIs.own hown).len
      rw [hn] at hov
      by_cases hn0 : n = 0
      · have hD0 : D = [] := List.eq_nil_of_length_eq_zero (by omega)
        have hA0 : apartI l = [] := by unfold apartI; rw [← hDF, hD0]; rfl
        have HX : Hid (ApartPost l w (.returned u3) wr) := Lib.hid ⟨u3, rfl, by rw [hA0]; rw [hD0] at OK; exact OK.out.1, by
          rw [hA0]; rw [hD0] at OK; exact OK.out.2, hbel⟩
        subst hn0
        subst hov
        clear hown hDR hD hfit hbel hDF hnT hin hi hn hn' hlen hR9
        go_wp2
        refine wp_loop_rounds 1 ?_
        rw [rounds_succ]
        go_wp2
        go_ret
        exact HX.out
      · obtain ⟨g, co', hov'⟩ := OwnI.form hown (by intro h; rw [h] at hn; simp at hn; omega)
        rw [hn] at hov'
        rw [hov] at hov'
        cases hov'
        subst hov
        have HFn : Hid ((fullL l).length = n) := Lib.hid (by rw [← hDF, hn])
        have HS1 : Hid (BubOut w w.heap.size g n co (fullL l) (.int .i64 ((0 : Nat) : Int)) wr) := Lib.hid ⟨0, by omega, rfl, by rw [← hDF]; exact hown, hbel⟩
        have hnn : ¬ ((n : Int) < (n : Int)) := by omega
        have hn9 : n ≤ 900 := by omega
        have n1 : 1 ≤ n := by omega
        have HC : Hid (n ≤ co ∧ w.heap.size ≤ g ∧ g < wr.heap.size) := Lib.hid (by
          have := OwnI.holds (by rw [hn]; exact hown)
          rw [hn] at this
          exact this.2)
        clear hown hDR hD hfit hbel hDF hnT hin hi hn hn' hlen hR9 HO OK
        go_wp2
        go_loopw [9] (fun kv wr => BubOut w w.heap.size g n co (fullL l) kv wr) (fun kv _ => n - (intOf kv).toNat)
        case atStart => exact HS1.out
        case round =>
          obtain ⟨k, hk, rfl, hown, hbel⟩ := hrel
          by_cases hkn : k < n
          · have hkz : (k : Int) < (n : Int) := by omega
            obtain ⟨cur, hcur⟩ : ∃ cur, passes classI k (fullL l) = cur := ⟨_, rfl⟩
            have hcl : cur.length = n := by rw [← hcur, passes_length, HFn.out]
            have HNX : Hid (passes classI (k + 1) (fullL l) = passM classI cur) := Lib.hid (by rw [passes_next, hcur])
            rw [hcur] at hown
            have HS2 : Hid (BubIn w w.heap.size g n co cur (.int .i64 ((0 + 1 : Nat) : Int)) wr) := by
              cases cur with
              | nil => simp at hcl; omega
              | cons x T => exact Lib.hid ⟨[], x, T, rfl, by simp at hcl ⊢; omega, rfl, hown, hbel⟩
            have wk : IntKind.i64.wrap ((k : Int) + 1) = ((k + 1 : Nat) : Int) := by rw [IntKind.wrap_i64]; omega
            clear hown hbel hcur hcl
            go_wp2
            go_loopw [10] (fun iv wr => BubIn w w.heap.size g n co cur iv wr) (fun iv _ => n - (intOf iv).toNat)
            case atStart => exact HS2.out
            case round =>
              obtain ⟨P, x, L, rfl, hlen, hpass, hown, hbel⟩ := hrel
              obtain ⟨ip, hip⟩ : ∃ ip, P.length = ip := ⟨_, rfl⟩
              rw [hip] at hlen ⊢
              cases L with
              | nil =>
                have hin : ip + 1 = n := by simpa using hlen
                have HE : Hid (BubOut w w.heap.size g n co (fullL l) (.int .i64 ((k + 1 : Nat) : Int)) wr) := Lib.hid ⟨k + 1, by omega, rfl, by rw [HNX.out, hpass, passM_one]; exact hown, hbel⟩
                rw [hin]
                have hge : ¬ ((n : Int) < (n : Int)) := by omega
                clear hown hbel hpass hlen hip hin
                go_wp2
                go_roundw
                case rel => exact HE.out
                case measure => simp [intOf]; omega
              | cons y L =>
                simp only [List.length_cons] at hlen
                have hll : (P ++ x :: y :: L).length = n := by simp; omega
                have k1 := hown.cell (j := ip) hll (by omega)
                have k2 := hown.cell (j := ip + 1) hll (by omega)
                rw [← hip, getD_mid, hip] at k1
                have v2 : (P ++ x :: y :: L).getD (ip + 1) 0 = y := by rw [← hip]; exact getD_two P [] L x y
                rw [v2] at k2
                obtain ⟨c1, f1⟩ := k1
                obtain ⟨c2, f2⟩ := k2
                have cC := fun z w => class_c z w
                have bx := class_bounds x
                have b_y := class_bounds y
                have iz : ((ip + 1 : Nat) : Int) < (n : Int) := by omega
                have iz' : (ip : Int) + 1 < (n : Int) := by omega
                have iz0 : (ip : Int) < (n : Int) := by omega
                have e0 : ((ip : Int) + 1).toNat = ip + 1 := by omega
                have wj : IntKind.i64.wrap (((ip + 1 : Nat) : Int) - 1) = (ip : Int) := by rw [IntKind.wrap_i64]; omega
                have wj' : IntKind.i64.wrap ((ip : Int)) = (ip : Int) := by rw [IntKind.wrap_i64]; omega
                have wn : IntKind.i64.wrap ((ip : Int) + 1 + 1) = ((ip + 2 : Nat) : Int) := by rw [IntKind.wrap_i64]; omega
                have wn' : IntKind.i64.wrap (((ip + 1 : Nat) : Int) + 1) = ((ip + 2 : Nat) : Int) := by rw [IntKind.wrap_i64]; omega
                have p0 : (0 : Int) ≤ (ip : Int) + 1 := by omega
                have HOW := Lib.hid hown
                have HBL := Lib.hid hbel
                have HSTAY : Hid (¬ (0 < classI y ∧ classI y < classI x) → ∀ q, BubIn w w.heap.size g n co cur (.int .i64 ((ip + 2 : Nat) : Int)) (wr.drewN q)) := Lib.hid fun hw q =>
                  ⟨P ++ [x], y, L, by rw [List.length_append, hip]; rfl, by rw [List.length_append, hip]; simp; omega, by rw [hpass, passM_not classI L (wrong_no classI hw)]; simp, by have := HOW.out.drewN q; simpa using this, below_drewN' HBL.out q⟩
                by_cases hy0 : 0 < classI y
                · by_cases hyx : classI y < classI x
                  · have HE : Hid (∀ q, BubIn w w.heap.size g n co cur (.int .i64 ((ip + 2 : Nat) : Int)) (((wr.drewN q).setCell ⟨g, ip + 1, none⟩ (.int .i32 x)).setCell ⟨g, ip, none⟩ (.int .i32 y))) := Lib.hid fun q => by
                      have o2 := ((HOW.out.drewN q).set (i := ip + 1) x).set (i := ip) y
                      have e : ((P ++ x :: y :: L).set (ip + 1) x).set ip y = (P ++ [y]) ++ x :: L := by
                        rw [← hip]
                        have e1 : (P ++ x :: y :: L).set (P.length + 1) x = P ++ x :: x :: L := by
                          simp
                        rw [e1, set_mid]; simp
                      rw [e] at o2
                      have hgB := HC.out.2.1
                      exact ⟨P ++ [y], x, L, by rw [List.length_append, hip]; rfl, by rw [List.length_append, hip]; simp; omega, by rw [hpass, passM_yes classI L (wrong_yes classI ⟨hy0, hyx⟩)]; simp, o2, ((below_drewN' HBL.out q).trans (below_set _ _ _ hgB)).trans (below_set _ _ _ hgB)⟩
                    have hyx' : classI x > classI y := hyx
                    clear hown hbel hpass hlen hip hll v2 HSTAY bx b_y
                    go_wp2_with fail
                    go_quiet ((go_at_call 20; exact Calls.quiet_of_same ((cC _ _).mono fun _ _ h => ⟨h.1, h.2.symm⟩)))
                    have HEQ := Lib.hid (HE.out nq)
                    have c1' : (wr.drewN nq).cell? ⟨g, ip, none⟩ = some (.int .i32 x) := c1
                    have c2' : (wr.drewN nq).cell? ⟨g, ip + 1, none⟩ = some (.int .i32 y) := c2
                    have f1' : (wr.drewN nq).frozen? ⟨g, ip, none⟩ = false := f1
                    have f2' : (wr.drewN nq).frozen? ⟨g, ip + 1, none⟩ = false := f2
                    clear c1 c2 f1 f2 HE cC HOW HBL
                    generalize wr.drewN nq = wr3 at *
                    go_wp2
                    go_roundw
                    case rel => exact HEQ.out
                    case measure => simp [intOf]; omega
                  · have HE := Lib.hid (HSTAY.out (fun h => hyx h.2))
                    have hyx' : ¬ (classI x > classI y) := hyx
                    clear hown hbel hpass hlen hip hll v2 HSTAY bx b_y
                    go_wp2_with fail
                    go_quiet ((go_at_call 20; exact Calls.quiet_of_same ((cC _ _).mono fun _ _ h => ⟨h.1, h.2.symm⟩)))
                    go_wp2
                    go_roundw
                    case rel => exact HE.out _
                    case measure => simp [intOf]; omega
                · have HE := Lib.hid (HSTAY.out (fun h => hy0 h.1))
                  have cY := fun w => class_c y w
                  rw [show classI y = 0 by omega] at cY
                  clear hown hbel hpass hlen hip hll v2 HSTAY bx b_y cC hy0
                  go_wp2_with fail
                  go_quiet ((go_at_call 20; exact Calls.quiet_of_same ((cY _).mono fun _ _ h => ⟨h.1, h.2.symm⟩)))
                  go_wp2
                  go_roundw
                  case rel => exact HE.out _
                  case measure => simp [intOf]; omega
          · have hkn' : k = n := by omega
            subst hkn'
            have hp : passes classI k (fullL l) = apartI l := by unfold apartI; rw [← passes_all, HFn.out]
            rw [hp] at hown
            have hal : (apartI l).length = k := by unfold apartI; rw [(sortM_perm classI (fullL l)).length_eq, HFn.out]
            have HX : Hid (ApartPost l w (.returned (.slice (some ⟨g, 0, none⟩) k co)) wr) := Lib.hid ⟨_, rfl, SliceIs.own hown, Or.inr ⟨_, co, by rw [hal]⟩, hbel⟩
            have hge : ¬ ((k : Int) < (k : Int)) := by omega
            clear hown hbel hp hal
            go_wp2
            go_ret
            exact HX.out
    | cons x R =>
      obtain ⟨g, co, hov⟩ := OwnI.form hown (by simp)
      rw [hn] at hov
      subst hov
      simp only [List.length_cons] at hn' hR9
      have hx := hfit x (by simp)
      have cS := fun w => split_c x hx.1 hx.2 w
      have hco : n ≤ co := by have := (OwnI.holds (by rw [hn]; exact hown)).2.1; rw [hn] at this; exact this
      have hgB : w.heap.size ≤ g ∧ g < wr.heap.size := (OwnI.holds (by rw [hn]; exact hown)).2.2
      have c1 := (hown.cell (j := i) hn (by omega)).1
      rw [← hi, getD_mid, hi] at c1
      have iz : (i : Int) < (n : Int) := by omega
      have HO := Lib.hid hown
      have HBEL := Lib.hid hbel
      have HI := Lib.hid hi
      have HNN := Lib.hid hn
      cases hsp : splitI x with
      | none =>
        rw [splitR_of_none hsp] at cS
        have HR : Hid (∀ w', Below wr.heap.size wr w' → R3Rel w l (.slice (some ⟨g, 0, none⟩) n co) (.int .i64 ((i + 1 : Nat) : Int)) w') := Lib.hid fun w' hb =>
          ⟨D ++ [x], R, by have := HO.out.below hb; simpa using this, by rw [List.length_append, hi]; rfl, fun y hy => by
            rcases List.mem_append.1 hy with hy | hy
            · exact hD y hy
            · simp at hy; subst hy; exact hsp, by rw [← hDR, fullL_cons, full1_none hsp]; simp, fun y hy => hfit y (by simp [hy]), HBEL.out.trans (hb.mono HBEL.out.size)⟩
        have wi : IntKind.i64.wrap ((i : Int) + 1) = ((i + 1 : Nat) : Int) := by rw [IntKind.wrap_i64]; omega
        have hTi : i < T := by omega
        clear hown hi hlen hn hn' hDR hD hfit hbel hsp hx hR9
        go_wp2_with fail
        refine (cS _).mono ?_
        rintro e w2 ⟨rfl, hb2⟩
        have HE := Lib.hid (HR.out w2 hb2)
        clear hb2 HR
        go_wp2
        go_roundw
        case rel => exact HE.out
        case measure => simp [intOf, lenOf]; omega
      | some pq =>
        rw [splitR_of_some hsp] at cS
        obtain ⟨p, q⟩ := pq
        simp only at cS
        have hc := splitI_cases hsp
        simp only at hc
        have hl1 := full1_length x
        have h1p := full1_pos p
        have h1q := full1_pos q
        have hfx : full1 x = full1 p ++ full1 q := full1_some hsp
        have hfl : (fullL (x :: R)).length = (full1 p).length + (full1 q).length + (fullL R).length := by rw [fullL_cons, hfx, List.length_append, List.length_append]
        have hRR := full_longer R
        have HR : Hid (∀ v' w', OwnI w.heap.size w' v' ((D ++ [p, q]) ++ R) → Below w.heap.size w w' → R3Rel w l v' (.int .i64 i) w') := Lib.hid fun v' w' ho hb =>
          ⟨D, p :: q :: R, by simpa using ho, by rw [hi], hD, by rw [← hDR, fullL_cons, fullL_cons, fullL_cons, hfx]; simp, fun y hy => by
            simp at hy
            rcases hy with rfl | rfl | hy
            · omega
            · omega
            · exact hfit y (by simp [hy]), hb⟩
        have hTn : n < T := by omega
        have HLR : Hid (R.length = n - (i + 1)) := Lib.hid (by omega)
        have S1 : Hid (∀ w', Below wr.heap.size wr w' → SliceOk w' (.slice (some ⟨g, 0, none⟩) i co) D) := Lib.hid fun w' hb => by
          have := OwnI.part (xs := []) (ys := D) (zs := x :: R) (HO.out.below hb) (by simpa using hn) co
          rw [hi] at this
          exact this
        have S3 : Hid (∀ w', Below wr.heap.size wr w' → ∀ (ad : Addr) (cp : Nat), ad = ⟨g, i + 1, none⟩ ∨ n - (i + 1) = 0 → SliceOk w' (.slice (some ad) (n - (i + 1)) cp) R) := Lib.hid fun w' hb ad cp had => by
          rcases had with rfl | h0
          · have ho : OwnI w.heap.size w' (.slice (some ⟨g, 0, none⟩) n co) ((D ++ [x]) ++ (R ++ [])) := by have := HO.out.below hb; simpa using this
            have := OwnI.part ho (by simpa using hn) cp
            rw [List.length_append, hi, List.length_singleton, HLR.out] at this
            exact this
          · exact ⟨Or.inl ⟨List.eq_nil_of_length_eq_zero (by rw [HLR.out]; exact h0), some ad, cp, by rw [h0]⟩, Or.inr ⟨ad, cp, by rw [HLR.out]⟩⟩
        have HB0 : Hid (w.heap.size ≤ wr.heap.size) := Lib.hid (by omega)
        have wi : IntKind.i64.wrap ((i : Int) + 1) = ((i + 1 : Nat) : Int) := by rw [IntKind.wrap_i64]; omega
        have i0 : (0 : Int) ≤ (i : Int) := by omega
        have i1 : (i : Int) + 1 ≤ (n : Int) := by omega
        have inc : (i : Int) ≤ (co : Int) := by omega
        have hi9 : i ≤ 900 := by omega
        have hn9 : n ≤ 900 := by omega
        clear hown hi hlen hn hn' hDR hD hfit hbel hsp hx hR9 hc hl1 h1p h1q hfx hfl hRR
        go_wp2_with fail
        refine (cS _).mono ?_
        rintro e w2 ⟨rfl, hb2⟩
        have hsz2 := hb2.size
        have own0 := own_empty w2.heap.size w2 (Nat.le_refl _)
        have hx3 := hb2.alloc hb2.size (.cells #[] 21)
        have HS1 := Lib.hid (S1.out _ hx3)
        have hl1 : ([] : List Int).length + D.length ≤ 100000 := by rw [HI.out, List.length_nil]; omega
        have hs1 : w2.heap.size ≤ (w2.alloc (.cells #[] 21)).heap.size := by simp
        clear hb2 c1
        go_wp2_with (at_builtin; refine append_ok rfl _ _ rfl w2.heap.size _ [] rfl own0 _ D rfl HS1.out hl1 hs1 ?_)
        intro v3 w3 own3 hb3
        try rw [List.nil_append] at own3
        have hx3' := hx3.trans (hb3.mono hsz2)
        have hs3 : w2.heap.size ≤ w3.heap.size := by have := hb3.size; simp at this; omega
        have own3' : OwnI w2.heap.size (w3.alloc (.cells #[.int .i32 p, .int .i32 q] 21)) v3 D := World.ownsRow.alloc own3 _
        have hx4 := hx3'.alloc hx3'.size (.cells #[.int .i32 p, .int .i32 q] 21)
        have HS2 : Hid (SliceOk (w3.alloc (.cells #[.int .i32 p, .int .i32 q] 21)) (.slice (some ⟨w3.heap.size, 0, none⟩) 2 2) [p, q]) := Lib.hid (by
          refine ⟨Or.inr ⟨w3.heap.size, 0, 2, by simp, rfl, fun j hj => ?_⟩, Or.inr ⟨_, 2, rfl⟩⟩
          match j, hj with
          | 0, _ => exact cell_two _ _ _ _
          | 1, _ => exact cell_two _ _ _ _)
        have hl2 : D.length + [p, q].length ≤ 100000 := by rw [HI.out]; simp; omega
        have hs2 : w2.heap.size ≤ (w3.alloc (.cells #[.int .i32 p, .int .i32 q] 21)).heap.size := by simp; omega
        clear own0 HS1 hl1 hs1 own3 hb3 hx3 hx3'
        go_wp2_with (at_builtin; refine append_ok rfl _ _ rfl w2.heap.size _ D rfl own3' _ [p, q] rfl HS2.out hl2 hs2 ?_)
        intro v5 w5 own5 hb5
        have hx5 := hx4.trans (hb5.mono hsz2)
        have HS3 := Lib.hid (S3.out _ hx5)
        have hl3 : (D ++ [p, q]).length + R.length ≤ 100000 := by rw [List.length_append, HI.out, HLR.out]; simp; omega
        have hs5 : w2.heap.size ≤ w5.heap.size := by have := hb5.size; simp at this; omega
        have HX5 := Lib.hid (HBEL.out.trans (hx5.mono HBEL.out.size))
        have HSW : Hid (w.heap.size ≤ w2.heap.size) := Lib.hid (by have := HB0.out; omega)
        clear own3' HS2 hl2 hs2 hb5 hx4 hx5 hs3
        rcases (show co = i + 1 ∨ i + 1 < co by omega) with hcq | hcq
        have hcq' : co ≤ i + 1 := by omega
        rotate_left
        have hcq' : ¬ (co ≤ i + 1) := by omega
        have hcq2 : ¬ (co = i + 1) := by omega
        all_goals
          go_wp2_with (at_builtin; refine append_ok rfl _ _ rfl w2.heap.size _ (D ++ [p, q]) rfl own5 _ R rfl (HS3.out _ _ (by first | exact Or.inl rfl | exact Or.inr (by omega))) hl3 hs5 ?_)
          intro v6 w6 own6 hb6
          have own6' : OwnI w.heap.size w6 v6 ((D ++ [p, q]) ++ R) := OwnI.mono (by simpa using own6) HSW.out
          have HE := Lib.hid (HR.out v6 w6 own6' (HX5.out.trans (hb6.mono HSW.out)))
          obtain ⟨a6, c6, hv6⟩ := (SliceIs.own own6').len
          have hl6 : ((D ++ [p, q]) ++ R).length = n + 1 := by rw [List.length_append, List.length_append, HI.out, HLR.out]; simp; omega
          rw [hl6] at hv6
          subst hv6
          clear own6 own6' hb6 own5 HS3 hl3 hs5 HX5 hl6
          go_wp2
          go_roundw
          case rel => exact HE.out
          case measure => simp [intOf, lenOf]; omega
end Go.Proofs.Ytjakelphkehonaa
