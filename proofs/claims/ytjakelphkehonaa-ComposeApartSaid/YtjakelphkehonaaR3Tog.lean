/-
  The contract of the third reference's Together: characters put together, one by one.
-/
import Derived.Test.YtjakelphkehonaaR3Apart
import Derived.Deep.RegionHeld3
namespace Go.Proofs.Ytjakelphkehonaa
open Go.RowKit Go.Sort
set_option linter.unusedVariables false

/-- The base is where no mark stands any more. -/
theorem base_found {out : List Int} {b : Int} (hb : -1 ≤ b) (hn : b < out.length) (hpos : ∀ j : Nat, b < j → j < out.length → 0 < classI (out.getD j 0)) (hst : b = -1 ∨ classI (out.getD b.toNat 0) = 0) :
    baseOf out = b := by
  unfold baseOf
  rcases hst with h | h
  · subst h
    rw [lastBase_pos fun x hx => by
      obtain ⟨t, ht, rfl⟩ := mem_getD hx
      exact hpos t (by omega) ht]
  · by_cases h0 : b = -1
    · subst h0
      rw [lastBase_pos fun x hx => by
        obtain ⟨t, ht, rfl⟩ := mem_getD hx
        exact hpos t (by omega) ht]
    · obtain ⟨k, rfl⟩ : ∃ k : Nat, b = (k : Int) := ⟨b.toNat, by omega⟩
      have hk : k < out.length := by omega
      have e : out = out.take k ++ out.getD k 0 :: out.drop (k + 1) := by
        rw [show out.getD k 0 = out[k] by simp [List.getD_eq_getElem?_getD, List.getElem?_eq_getElem hk], ← List.drop_eq_getElem_cons hk, List.take_append_drop]
      have hl : (out.take k).length = k := by rw [List.length_take]; omega
      rw [Int.toNat_natCast] at h
      rw [e, lastBase_at (out.take k) h (fun x hx => by
        obtain ⟨t, h1, h2, rfl⟩ := mem_drop_getD hx
        exact hpos t (by omega) h2)]
      simp only
      rw [hl]
theorem keep_drew {w5 w' : World} {G k g o : Nat} {z x : Value} (h : Below w5.heap.size w5 w' ∧ w'.cell? ⟨G, k, none⟩ = some z ∧ w'.cell? ⟨g, o, none⟩ = some x) :
    Below w5.heap.size w5 w'.drew ∧ w'.drew.cell? ⟨G, k, none⟩ = some z ∧ w'.drew.cell? ⟨g, o, none⟩ = some x := ⟨h.1.drew, h.2.1, h.2.2⟩
theorem keep_step {w5 wx w' : World} {G k g o : Nat} {z x : Value} (hG : G < w5.heap.size) (hg : g < w5.heap.size) (h : Below w5.heap.size w5 wx ∧ wx.cell? ⟨G, k, none⟩ = some z ∧ wx.cell? ⟨g, o, none⟩ = some x) (hb : Below wx.heap.size wx w') :
    Below w5.heap.size w5 w' ∧ w'.cell? ⟨G, k, none⟩ = some z ∧ w'.cell? ⟨g, o, none⟩ = some x :=
  ⟨below_step h.1 hb, by rw [hb.cell (p := ⟨G, k, none⟩) (by have := h.1.size; show G < _; omega)]; exact h.2.1, by rw [hb.cell (p := ⟨g, o, none⟩) (by have := h.1.size; show g < _; omega)]; exact h.2.2⟩
def RTRel (w0 : World) (l : List Int) (ov iv : Value) (wr : World) : Prop :=
  ∃ i, i ≤ l.length ∧ iv = .int .i64 (i : Nat) ∧ OwnI w0.heap.size wr ov (togI (l.take i)) ∧ Below w0.heap.size w0 wr
def BaseRel (out : List Int) (w0 : World) (bv : Value) (wr : World) : Prop :=
  ∃ b : Int, bv = .int .i64 b ∧ -1 ≤ b ∧ b < out.length ∧ (∀ j : Nat, b < j → j < out.length → 0 < classI (out.getD j 0)) ∧ wr = w0
/-- All that is put together are characters of the list, or made. -/
theorem fits_step {out : List Int} {r : Int} (h : Fits out) (hr : -2147483648 ≤ r ∧ r ≤ 2147483647) : Fits (togStep out r) := by
  have happ : Fits (out ++ [r]) := fun x hx => by
    rcases List.mem_append.1 hx with hx | hx
    · exact h x hx
    · simp at hx; subst hx; exact hr
  unfold togStep
  cases hb : lastBase out with
  | none => exact happ
  | some q =>
    obtain ⟨p, b, ms⟩ := q
    simp only
    by_cases hc : mayB ms r = true ∧ 0 < pairI b r
    · rw [if_pos hc]
      have ho := (lastBase_some hb).1
      intro x hx
      rcases List.mem_append.1 hx with hx | hx
      · exact h x (by rw [ho]; simp [hx])
      · rcases List.mem_cons.1 hx with rfl | hx
        · rcases pair_kinds hc.2 with hk | hk | hk <;> omega
        · exact h x (by rw [ho]; simp [hx])
    · rw [if_neg hc]; exact happ
theorem fits_tog : ∀ (l out : List Int), Fits out → Fits l → Fits (l.foldl togStep out)
  | [], out, h, _ => h
  | r :: l, out, h, hl => fits_tog l (togStep out r) (fits_step h (hl r (by simp))) (fun x hx => hl x (by simp [hx]))
theorem fits_togI {l : List Int} (h : Fits l) : Fits (togI l) := fits_tog l [] (fun x hx => by cases hx) h

set_option maxHeartbeats 4000000 in
set_option maxRecDepth 100000 in
theorem refTog_c (l : List Int) (v : Value) (w : World) (hv : SliceIs w v l) (hs : l.length ≤ 300) (hf : Fits l) : Calls Try.prog 22 #[v] w (TogPost l w) := by
  obtain ⟨a, cap, hva⟩ := hv.len
  have HV := Lib.hid hv
  have HF := Lib.hid hf
  obtain ⟨n, hn⟩ : ∃ n, l.length = n := ⟨_, rfl⟩
  have HN := Lib.hid hn
  subst hva
  rw [hn] at HV ⊢
  rw [hn] at hs
  clear hv hf hn
  go_enter Try.func22, Try.ntmps22
  go_wp2
  go_loopw [3, 4] (fun ov iv wr => RTRel w l ov iv wr) (fun _ iv _ => n - (intOf iv).toNat)
  case atStart => exact ⟨0, by omega, rfl, by simpa [togI] using OwnI.nil _ _, Below.refl _ _⟩
  case round =>
    obtain ⟨i, hi, rfl, hown, hbel⟩ := hrel
    rw [HN.out] at hi
    by_cases hlt : i < n
    · have hltz : (i : Int) < (n : Int) := by omega
      obtain ⟨x, hx⟩ : ∃ x, l.getD i 0 = x := ⟨_, rfl⟩
      have HST := Lib.hid (tog_take (l := l) (i := i) (by rw [HN.out]; exact hlt))
      rw [hx] at HST
      obtain ⟨g, off, cp, hg, hvv, hc⟩ : ∃ g off cp, g < w.heap.size ∧ Value.slice a n cap = .slice (some ⟨g, off, none⟩) n cp ∧ w.cell? ⟨g, off + i, none⟩ = some (.int .i32 x) := by
        rcases HV.out with ⟨h0, _⟩ | ⟨g, off, cp, hg, hvv, hc⟩
        · have := HN.out; rw [h0] at this; simp at this; omega
        · exact ⟨g, off, cp, hg, by rw [hvv, HN.out], by rw [hc i (by rw [HN.out]; exact hlt), hx]⟩
      cases hvv
      have c1 : wr.cell? ⟨g, off + i, none⟩ = some (.int .i32 x) := by rw [hbel.cell (p := ⟨g, off + i, none⟩) hg]; exact hc
      have hxr : -2147483648 ≤ x ∧ x ≤ 2147483647 := HF.out x (by rw [← hx]; simp [List.getD_eq_getElem?_getD, List.getElem?_eq_getElem (show i < l.length by rw [HN.out]; exact hlt)])
      have HXR := Lib.hid hxr
      have hol := togI_length (l.take i)
      rw [List.length_take, HN.out] at hol
      have hol : (togI (l.take i)).length ≤ i := by omega
      have HFO : Hid (Fits (togI (l.take i))) := Lib.hid (fits_togI fun y hy => HF.out y (List.mem_of_mem_take hy))
      obtain ⟨out, hout⟩ : ∃ out, togI (l.take i) = out := ⟨_, rfl⟩
      rw [hout] at HST hown hol HFO
      have wi : IntKind.i64.wrap ((i : Int) + 1) = ((i + 1 : Nat) : Int) := by rw [IntKind.wrap_i64]; omega
      have HAP : Hid (togStep out x = out ++ [x] → ∀ ov w', OwnI w.heap.size w' ov (out ++ [x]) → Below w.heap.size w w' → RTRel w l ov (.int .i64 ((i + 1 : Nat) : Int)) w') := Lib.hid fun hst ov w' ho hb =>
        ⟨i + 1, by rw [HN.out]; omega, rfl, by rw [HST.out, hst]; exact ho, hb⟩
      have HMP : Hid (∀ p b ms, togStep out x = p ++ pairI b x :: ms → ∀ ov w', OwnI w.heap.size w' ov (p ++ pairI b x :: ms) → Below w.heap.size w w' → RTRel w l ov (.int .i64 ((i + 1 : Nat) : Int)) w') := Lib.hid fun p b ms hst ov w' ho hb =>
        ⟨i + 1, by rw [HN.out]; omega, rfl, by rw [HST.out, hst]; exact ho, hb⟩
      have HO := Lib.hid hown
      have HBEL := Lib.hid hbel
      have hwB := hbel.size
      obtain ⟨o, hoo⟩ : ∃ o, out.length = o := ⟨_, rfl⟩
      have HOO := Lib.hid hoo
      obtain ⟨ao, co, hov⟩ := (SliceIs.own hown).len
      rw [hoo] at hov hol
      subst hov
      have ho9 : o ≤ 300 := by omega
      have wo : IntKind.i64.wrap ((o : Int) - 1) = (o : Int) - 1 := by rw [IntKind.wrap_i64]; omega
      have HBS : Hid (BaseRel out wr (.int .i64 ((o : Int) - 1)) wr) := Lib.hid ⟨(o : Int) - 1, rfl, by omega, by omega, fun j h1 h2 => by omega, rfl⟩
      clear hx hc hown hbel hout HST hxr hoo
      rename World => wv
      by_cases hne : out = []
      · subst hne
        have ho0 : o = 0 := by rw [← HOO.out]; rfl
        subst ho0
        have hst : togStep [] x = [] ++ [x] := rfl
        have HBW : Hid (∀ q, Below w.heap.size w (wv.drewN q)) := Lib.hid fun q => below_drewN' HBEL.out q
        have HC1 := Lib.hid c1
        go_wp2
        refine wp_loop_rounds 1 ?_
        rw [rounds_succ]
        go_wp2
        go_quiet (fail)
        have hownq := HO.out.drewN nq
        have hbq := HBW.out nq
        have hcq : (wv.drewN nq).cell? ⟨g, off + i, none⟩ = some (.int .i32 x) := HC1.out
        clear c1 hwB HBS
        generalize wv.drewN nq = w5 at *
        have ownA : OwnI w.heap.size (w5.alloc (.cells #[.int .i32 x] 21)) _ ([] : List Int) := World.ownsRow.alloc hownq _
        have belA := (hbq).alloc (hbq).size (.cells #[.int .i32 x] 21)
        have HSX : Hid (SliceOk (w5.alloc (.cells #[.int .i32 x] 21)) (.slice (some ⟨w5.heap.size, 0, none⟩) 1 1) [x]) := Lib.hid (by
          refine ⟨Or.inr ⟨w5.heap.size, 0, 1, by simp, rfl, fun j hj => ?_⟩, Or.inr ⟨_, 1, rfl⟩⟩
          match j, hj with
          | 0, _ => exact cell_two _ _ _ _)
        have hlA : ([] : List Int).length + [x].length ≤ 100000 := by simp
        have hsA : w.heap.size ≤ (w5.alloc (.cells #[.int .i32 x] 21)).heap.size := belA.size
        have cx1 : w5.cell? ⟨g, off + i, none⟩ = some (.int .i32 x) := hcq
        go_wp2_with (at_builtin; refine append_ok rfl _ _ rfl w.heap.size _ ([] : List Int) rfl ownA _ [x] rfl HSX.out hlA hsA ?_)
        intro v9 w9 own9 hb9
        have HE := Lib.hid (HAP.out hst v9 w9 own9 (belA.trans hb9))
        clear ownA belA HSX hlA hsA cx1 own9 hb9
        go_wp2
        go_roundw
        case rel => exact HE.out
        case measure => simp [intOf]; omega
      · obtain ⟨G, co', hov'⟩ := OwnI.form HO.out hne
        rw [HOO.out] at hov'
        cases hov'
        have o1 : 1 ≤ o := by have := List.length_pos_iff.2 hne; rw [HOO.out] at this; omega
        have hGG : Hid (w.heap.size ≤ G ∧ G < wv.heap.size) := Lib.hid (by have := OwnI.holds (by rw [HOO.out]; exact HO.out); exact this.2.2)
        go_wp2
        go_loopw [5] (fun bv w' => BaseRel out wv bv w') (fun bv _ => (intOf bv + 1).toNat)
        case atStart => exact HBS.out
        case round =>
          obtain ⟨b, rfl, hb1, hbo, hpos, hweq⟩ := hrel
          rw [hweq]
          clear hweq
          rw [HOO.out] at hbo
          have HPOS := Lib.hid hpos
          clear hpos
          by_cases hb0 : 0 ≤ b
          · obtain ⟨k, rfl⟩ : ∃ k : Nat, b = (k : Int) := ⟨b.toNat, by omega⟩
            have hko : k < o := by omega
            obtain ⟨z, hz⟩ : ∃ z, out.getD k 0 = z := ⟨_, rfl⟩
            have kc := HO.out.cell (j := k) HOO.out hko
            rw [hz] at kc
            obtain ⟨cz, fz⟩ := kc
            have cC := fun y w => class_c y w
            have cZ := fun w => class_c z w
            have bz := class_bounds z
            have wk : IntKind.i64.wrap ((k : Int) - 1) = (k : Int) - 1 := by rw [IntKind.wrap_i64]; omega
            by_cases hcz : 0 < classI z
            · have HE : Hid (BaseRel out wv (.int .i64 ((k : Int) - 1)) wv) := Lib.hid ⟨(k : Int) - 1, rfl, by omega, by rw [HOO.out]; omega, fun j h1 h2 => by
                by_cases hj : j = k
                · subst hj; rw [hz]; exact hcz
                · exact HPOS.out j (by omega) h2, rfl⟩
              clear HBS hz bz cC
              generalize classI z = cz0 at *
              go_wp2_with fail
              refine (cZ _).mono ?_
              rintro e w' ⟨rfl, hw'⟩
              rw [← hw']
              clear hw' w'
              go_wp2
              go_roundw
              case rel => exact HE.out
              case measure => first | (simp [intOf]; done) | (simp [intOf]; omega)
            · have hz0 : classI z = 0 := by omega
              have hbase : baseOf out = (k : Int) := base_found (by omega) (by rw [HOO.out]; omega) HPOS.out (Or.inr (by rw [Int.toNat_natCast, hz]; exact hz0))
              rw [hz0] at cZ
              have hq : ∃ p ms, lastBase out = some (p, z, ms) ∧ p.length = k ∧ out = p ++ z :: ms := by
                unfold baseOf at hbase
                cases hb : lastBase out with
                | none => rw [hb] at hbase; exfalso; revert hbase; simp; try omega
                | some q =>
                  obtain ⟨p, b', ms⟩ := q
                  rw [hb] at hbase
                  simp only at hbase
                  have hpk : p.length = k := by omega
                  have ho := (lastBase_some hb).1
                  have : b' = z := by rw [← hz, ho, ← hpk, getD_mid]
                  subst this
                  exact ⟨p, ms, rfl, hpk, ho⟩
              obtain ⟨p, ms, hlb, hpk, hout⟩ := hq
              have hlen := congrArg List.length hout
              rw [HOO.out, List.length_append, List.length_cons, hpk] at hlen
              have hzr : -2147483648 ≤ z ∧ z ≤ 2147483647 := HFO.out z (by rw [hout]; simp)
              have cP := fun w => pair_c z x hzr.1 hzr.2 HXR.out.1 HXR.out.2 w
              have HMK : Hid (mayB ms x = true → 0 < pairI z x → ∀ ov w', OwnI w.heap.size w' ov (p ++ pairI z x :: ms) → Below w.heap.size w w' → RTRel w l ov (.int .i64 ((i + 1 : Nat) : Int)) w') := Lib.hid fun h1 h2 => HMP.out p z ms (by unfold togStep; rw [hlb]; simp only; rw [if_pos ⟨h1, h2⟩])
              have HNO : Hid ((mayB ms x = false ∨ ¬ 0 < pairI z x) → togStep out x = out ++ [x]) := Lib.hid fun h => by
                unfold togStep; rw [hlb]; simp only
                rw [if_neg fun hh => by
                  rcases h with h | h
                  · rw [h] at hh; exact absurd hh.1 (by decide)
                  · exact h hh.2]
              have HSET : Hid (∀ y : Int, out.set k y = p ++ y :: ms) := Lib.hid fun y => by rw [hout, ← hpk]; exact set_at
              have HOUT := Lib.hid hout
              clear hout
              have HZ := Lib.hid (show out.getD k 0 = z from hz)
              have kz : (k : Int) < (o : Int) := by omega
              have kz0 : (0 : Int) ≤ (k : Int) := by omega
              have HC1 := Lib.hid c1
              have HCZ := Lib.hid cz
              clear hbase hz hzr hz0 bz hcz hlb HBS HPOS
              by_cases hms : k = o - 1
              · have hm0 : ms = [] := List.eq_nil_of_length_eq_zero (by omega)
                have hmay : mayB ms x = true := by rw [hm0]; rfl
                obtain rfl : o = k + 1 := by omega
                clear hlen hms hm0 wo hbo hb1
                have wo2 : IntKind.i64.wrap (((k + 1 : Nat) : Int) - 1) = (k : Int) := by rw [IntKind.wrap_i64]; omega
                go_wp2_with fail
                refine (cZ _).mono ?_
                rintro e w' ⟨rfl, hw'⟩
                rw [← hw']
                clear hw' w'
                go_wp2
                go_quiet (fail)
                have cz5 : (wv.drewN nq).cell? ⟨G, k, none⟩ = some (.int .i32 z) := HCZ.out
                have cx5 : (wv.drewN nq).cell? ⟨g, off + i, none⟩ = some (.int .i32 x) := HC1.out
                have HO5 := Lib.hid (HO.out.drewN nq)
                have HB5 := Lib.hid (below_drewN' HBEL.out nq)
                have HG5 : Hid (G < (wv.drewN nq).heap.size ∧ g < (wv.drewN nq).heap.size) := Lib.hid ⟨by have h1 := hGG.out.2; have h2 := (below_drewN' (Below.refl 0 wv) nq).size; omega, by have h2 := (below_drewN' (Below.refl 0 wv) nq).size; omega⟩
                clear c1 cz hwB cC cZ HBEL HO
                generalize wv.drewN nq = w5 at *
                have hS : Below w5.heap.size w5 w5 := Below.refl _ _
                obtain ⟨made, hmade⟩ : ∃ made, pairI z x = made := ⟨_, rfl⟩
                rw [hmade] at cP HMK HNO
                clear hmade
                go_wp2
                have HGG := HG5.out
                obtain ⟨hG5, hg5⟩ := HGG
                have hS0 : Below w5.heap.size w5 w5 ∧ w5.cell? ⟨G, k, none⟩ = some (.int .i32 z) ∧ w5.cell? ⟨g, off + i, none⟩ = some (.int .i32 x) := ⟨Below.refl _ _, cz5, cx5⟩
                have ki : (i : Int) < (n : Int) := hltz
                have ki0 : (0 : Int) ≤ (i : Int) := by omega
                have kz9 : (k : Int) < ((k + 1 : Nat) : Int) := by omega
                have kz8 : (k : Int) < (k : Int) + 1 := by omega
                go_region_held3 (fun w' => Below w5.heap.size w5 w' ∧ w'.cell? ⟨G, k, none⟩ = some (.int .i32 z) ∧ w'.cell? ⟨g, off + i, none⟩ = some (.int .i32 x)) (first | assumption | exact keep_drew ‹_› | exact keep_step hG5 hg5 ‹_› ‹_›) (first | (go_at_call 18; refine (cP _).mono ?_; rintro e w' ⟨rfl, hb⟩))
                have hSw : Below w5.heap.size w5 w' ∧ w'.cell? ⟨G, k, none⟩ = some (.int .i32 z) ∧ w'.cell? ⟨g, off + i, none⟩ = some (.int .i32 x) := by first | assumption | exact keep_step hG5 hg5 ‹_› ‹_›
                have ownW := HO5.out.below hSw.1
                have belW := HB5.out.trans (hSw.1.mono HB5.out.size)
                have cxW := hSw.2.2
                clear hSw hS0 hS cz5 cx5
                by_cases hmd : 0 < made
                · have own0 := own_empty w'.heap.size w' (Nat.le_refl _)
                  have belA := belW.alloc belW.size (.cells #[] 21)
                  have hbA : Below w'.heap.size w' (w'.alloc (.cells #[] 21)) := (Below.refl _ _).alloc (Nat.le_refl _) _
                  have HSX := Lib.hid ((SliceOk.own ownW).kept hbA)
                  have hlA : ([] : List Int).length + out.length ≤ 100000 := by rw [HOO.out, List.length_nil]; omega
                  have hsA := hbA.size
                  have HWS : Hid (w.heap.size ≤ w'.heap.size) := Lib.hid belW.size
                  clear hbA belW cxW
                  go_wp2_with (at_builtin; refine append_ok rfl _ _ rfl w'.heap.size _ [] rfl own0 _ out rfl HSX.out hlA hsA ?_)
                  intro v9 w9 own9 hb9
                  try rw [List.nil_append] at own9
                  obtain ⟨G9, co9, hv9⟩ := OwnI.form own9 hne
                  rw [HOO.out] at hv9
                  subst hv9
                  obtain ⟨cc9, ff9⟩ := own9.cell (j := k) HOO.out (by omega)
                  have hg9 : w'.heap.size ≤ G9 := (OwnI.holds (by rw [HOO.out]; exact own9)).2.2.1
                  have own9' := own9.set (i := k) made
                  rw [HSET.out made] at own9'
                  have HE := Lib.hid (HMK.out hmay hmd _ _ (OwnI.mono own9' HWS.out) ((belA.trans (hb9.mono HWS.out)).trans (below_set w9 k (.int .i32 made) (Nat.le_trans HWS.out hg9))))
                  have hmz : made > 0 := hmd
                  clear own0 belA HSX hlA hsA own9 own9' hb9 hg9 ownW
                  go_wp2
                  go_roundw
                  case rel => exact HE.out
                  case measure => simp [intOf]; omega
                · have hst := HNO.out (Or.inr (by omega))
                  have hmz : ¬ (made > 0) := hmd
                  clear HMK
                  have ownA : OwnI w.heap.size (w'.alloc (.cells #[.int .i32 x] 21)) _ out := World.ownsRow.alloc ownW _
                  have belA := (belW).alloc (belW).size (.cells #[.int .i32 x] 21)
                  have HSX : Hid (SliceOk (w'.alloc (.cells #[.int .i32 x] 21)) (.slice (some ⟨w'.heap.size, 0, none⟩) 1 1) [x]) := Lib.hid (by
                    refine ⟨Or.inr ⟨w'.heap.size, 0, 1, by simp, rfl, fun j hj => ?_⟩, Or.inr ⟨_, 1, rfl⟩⟩
                    match j, hj with
                    | 0, _ => exact cell_two _ _ _ _)
                  have hlA : out.length + [x].length ≤ 100000 := by rw [HOO.out]; simp; omega
                  have hsA : w.heap.size ≤ (w'.alloc (.cells #[.int .i32 x] 21)).heap.size := belA.size
                  have cx1 : w'.cell? ⟨g, off + i, none⟩ = some (.int .i32 x) := cxW
                  go_wp2_with (at_builtin; refine append_ok rfl _ _ rfl w.heap.size _ out rfl ownA _ [x] rfl HSX.out hlA hsA ?_)
                  intro v9 w9 own9 hb9
                  have HE := Lib.hid (HAP.out hst v9 w9 own9 (belA.trans hb9))
                  clear ownA belA HSX hlA hsA cx1 own9 hb9
                  go_wp2
                  go_roundw
                  case rel => exact HE.out
                  case measure => simp [intOf]; omega
              · have hmne : ms ≠ [] := by intro h; rw [h] at hlen; simp at hlen; omega
                obtain ⟨om, rfl⟩ : ∃ om, o = om + 1 := ⟨o - 1, by omega⟩
                obtain ⟨ms', zl, hml⟩ : ∃ ms' zl, ms = ms' ++ [zl] := by
                  rcases List.eq_nil_or_concat ms with h | ⟨ms', zl, h⟩
                  · exact absurd h hmne
                  · exact ⟨ms', zl, by rw [h, List.concat_eq_append]⟩
                have hzl : out.getD om 0 = zl := by
                  have e1 : out = (p ++ z :: ms') ++ zl :: [] := by rw [HOUT.out, hml]; simp
                  have e2 : (p ++ z :: ms').length = om := by
                    have := congrArg List.length e1
                    rw [HOO.out, List.length_append] at this
                    simp at this
                    simp; omega
                  rw [e1, ← e2, getD_mid]
                have kl := HO.out.cell (j := om) HOO.out (by omega)
                rw [hzl] at kl
                obtain ⟨cl, fl⟩ := kl
                have hmb : mayB ms x = decide (classI zl < classI x) := by unfold mayB; rw [hml]; simp
                have hkm : ((k : Int) == (om : Int)) = false := by rw [beq_eq_false_iff_ne]; omega
                have hkm' : ¬ ((k : Int) = (om : Int)) := by omega
                have wo2 : IntKind.i64.wrap (((om + 1 : Nat) : Int) - 1) = (om : Int) := by rw [IntKind.wrap_i64]; omega
                have wo3 : IntKind.i64.wrap ((om : Int)) = (om : Int) := by rw [IntKind.wrap_i64]; omega
                have lz : (om : Int) < ((om + 1 : Nat) : Int) := by omega
                have lz0 : (om : Int) < (om : Int) + 1 := by omega
                have lz1 : (0 : Int) ≤ (om : Int) := by omega
                have kz7 : (k : Int) < (om : Int) + 1 := by omega
                have cCC := fun y w => class_c y w
                clear hlen hms hmne hml hzl wo hbo hb1
                by_cases hcl : classI zl < classI x
                · have hmay : mayB ms x = true := by rw [hmb]; exact decide_eq_true hcl
                  clear hmb
                  go_wp2_with fail
                  refine (cZ _).mono ?_
                  rintro e w' ⟨rfl, hw'⟩
                  rw [← hw']
                  clear hw' w'
                  go_wp2
                  go_quiet ((go_at_call 20; exact Calls.quiet_of_same ((cCC _ _).mono fun _ _ h => ⟨h.1, h.2.symm⟩)))
                  clear cCC cl fl
                  have cz5 : (wv.drewN nq).cell? ⟨G, k, none⟩ = some (.int .i32 z) := HCZ.out
                  have cx5 : (wv.drewN nq).cell? ⟨g, off + i, none⟩ = some (.int .i32 x) := HC1.out
                  have HO5 := Lib.hid (HO.out.drewN nq)
                  have HB5 := Lib.hid (below_drewN' HBEL.out nq)
                  have HG5 : Hid (G < (wv.drewN nq).heap.size ∧ g < (wv.drewN nq).heap.size) := Lib.hid ⟨by have h1 := hGG.out.2; have h2 := (below_drewN' (Below.refl 0 wv) nq).size; omega, by have h2 := (below_drewN' (Below.refl 0 wv) nq).size; omega⟩
                  clear c1 cz hwB cC cZ HBEL HO
                  generalize wv.drewN nq = w5 at *
                  have hS : Below w5.heap.size w5 w5 := Below.refl _ _
                  obtain ⟨made, hmade⟩ : ∃ made, pairI z x = made := ⟨_, rfl⟩
                  rw [hmade] at cP HMK HNO
                  clear hmade
                  go_wp2
                  have HGG := HG5.out
                  obtain ⟨hG5, hg5⟩ := HGG
                  have hS0 : Below w5.heap.size w5 w5 ∧ w5.cell? ⟨G, k, none⟩ = some (.int .i32 z) ∧ w5.cell? ⟨g, off + i, none⟩ = some (.int .i32 x) := ⟨Below.refl _ _, cz5, cx5⟩
                  have ki : (i : Int) < (n : Int) := hltz
                  have ki0 : (0 : Int) ≤ (i : Int) := by omega
                  go_region_held3 (fun w' => Below w5.heap.size w5 w' ∧ w'.cell? ⟨G, k, none⟩ = some (.int .i32 z) ∧ w'.cell? ⟨g, off + i, none⟩ = some (.int .i32 x)) (first | assumption | exact keep_drew ‹_› | exact keep_step hG5 hg5 ‹_› ‹_›) (first | (go_at_call 18; refine (cP _).mono ?_; rintro e w' ⟨rfl, hb⟩))
                  have hSw : Below w5.heap.size w5 w' ∧ w'.cell? ⟨G, k, none⟩ = some (.int .i32 z) ∧ w'.cell? ⟨g, off + i, none⟩ = some (.int .i32 x) := by first | assumption | exact keep_step hG5 hg5 ‹_› ‹_›
                  have ownW := HO5.out.below hSw.1
                  have belW := HB5.out.trans (hSw.1.mono HB5.out.size)
                  have cxW := hSw.2.2
                  clear hSw hS0 hS cz5 cx5
                  by_cases hmd : 0 < made
                  · have own0 := own_empty w'.heap.size w' (Nat.le_refl _)
                    have belA := belW.alloc belW.size (.cells #[] 21)
                    have hbA : Below w'.heap.size w' (w'.alloc (.cells #[] 21)) := (Below.refl _ _).alloc (Nat.le_refl _) _
                    have HSX := Lib.hid ((SliceOk.own ownW).kept hbA)
                    have hlA : ([] : List Int).length + out.length ≤ 100000 := by rw [HOO.out, List.length_nil]; omega
                    have hsA := hbA.size
                    have HWS : Hid (w.heap.size ≤ w'.heap.size) := Lib.hid belW.size
                    clear hbA belW cxW
                    go_wp2_with (at_builtin; refine append_ok rfl _ _ rfl w'.heap.size _ [] rfl own0 _ out rfl HSX.out hlA hsA ?_)
                    intro v9 w9 own9 hb9
                    try rw [List.nil_append] at own9
                    obtain ⟨G9, co9, hv9⟩ := OwnI.form own9 hne
                    rw [HOO.out] at hv9
                    subst hv9
                    obtain ⟨cc9, ff9⟩ := own9.cell (j := k) HOO.out (by omega)
                    have hg9 : w'.heap.size ≤ G9 := (OwnI.holds (by rw [HOO.out]; exact own9)).2.2.1
                    have own9' := own9.set (i := k) made
                    rw [HSET.out made] at own9'
                    have HE := Lib.hid (HMK.out hmay hmd _ _ (OwnI.mono own9' HWS.out) ((belA.trans (hb9.mono HWS.out)).trans (below_set w9 k (.int .i32 made) (Nat.le_trans HWS.out hg9))))
                    have hmz : made > 0 := hmd
                    clear own0 belA HSX hlA hsA own9 own9' hb9 hg9 ownW
                    go_wp2
                    go_roundw
                    case rel => exact HE.out
                    case measure => simp [intOf]; omega
                  · have hst := HNO.out (Or.inr (by omega))
                    have hmz : ¬ (made > 0) := hmd
                    clear HMK
                    have ownA : OwnI w.heap.size (w'.alloc (.cells #[.int .i32 x] 21)) _ out := World.ownsRow.alloc ownW _
                    have belA := (belW).alloc (belW).size (.cells #[.int .i32 x] 21)
                    have HSX : Hid (SliceOk (w'.alloc (.cells #[.int .i32 x] 21)) (.slice (some ⟨w'.heap.size, 0, none⟩) 1 1) [x]) := Lib.hid (by
                      refine ⟨Or.inr ⟨w'.heap.size, 0, 1, by simp, rfl, fun j hj => ?_⟩, Or.inr ⟨_, 1, rfl⟩⟩
                      match j, hj with
                      | 0, _ => exact cell_two _ _ _ _)
                    have hlA : out.length + [x].length ≤ 100000 := by rw [HOO.out]; simp; omega
                    have hsA : w.heap.size ≤ (w'.alloc (.cells #[.int .i32 x] 21)).heap.size := belA.size
                    have cx1 : w'.cell? ⟨g, off + i, none⟩ = some (.int .i32 x) := cxW
                    go_wp2_with (at_builtin; refine append_ok rfl _ _ rfl w.heap.size _ out rfl ownA _ [x] rfl HSX.out hlA hsA ?_)
                    intro v9 w9 own9 hb9
                    have HE := Lib.hid (HAP.out hst v9 w9 own9 (belA.trans hb9))
                    clear ownA belA HSX hlA hsA cx1 own9 hb9
                    go_wp2
                    go_roundw
                    case rel => exact HE.out
                    case measure => simp [intOf]; omega
                · have hst := HNO.out (Or.inl (by rw [hmb]; exact decide_eq_false hcl))
                  have hcl' : ¬ (classI x > classI zl) := hcl
                  clear hmb HMK HNO
                  go_wp2_with fail
                  refine (cZ _).mono ?_
                  rintro e w' ⟨rfl, hw'⟩
                  rw [← hw']
                  clear hw' w'
                  go_wp2
                  go_quiet ((go_at_call 20; exact Calls.quiet_of_same ((cCC _ _).mono fun _ _ h => ⟨h.1, h.2.symm⟩)))
                  have hcq : (wv.drewN nq).cell? ⟨g, off + i, none⟩ = some (.int .i32 x) := HC1.out
                  have hownq := HO.out.drewN nq
                  have hbq := below_drewN' HBEL.out nq
                  clear c1 cz hwB cC cZ cCC cl fl
                  generalize wv.drewN nq = w5 at *
                  have ownA : OwnI w.heap.size (w5.alloc (.cells #[.int .i32 x] 21)) _ out := World.ownsRow.alloc hownq _
                  have belA := (hbq).alloc (hbq).size (.cells #[.int .i32 x] 21)
                  have HSX : Hid (SliceOk (w5.alloc (.cells #[.int .i32 x] 21)) (.slice (some ⟨w5.heap.size, 0, none⟩) 1 1) [x]) := Lib.hid (by
                    refine ⟨Or.inr ⟨w5.heap.size, 0, 1, by simp, rfl, fun j hj => ?_⟩, Or.inr ⟨_, 1, rfl⟩⟩
                    match j, hj with
                    | 0, _ => exact cell_two _ _ _ _)
                  have hlA : out.length + [x].length ≤ 100000 := by rw [HOO.out]; simp; omega
                  have hsA : w.heap.size ≤ (w5.alloc (.cells #[.int .i32 x] 21)).heap.size := belA.size
                  have cx1 : w5.cell? ⟨g, off + i, none⟩ = some (.int .i32 x) := hcq
                  go_wp2_with (at_builtin; refine append_ok rfl _ _ rfl w.heap.size _ out rfl ownA _ [x] rfl HSX.out hlA hsA ?_)
                  intro v9 w9 own9 hb9
                  have HE := Lib.hid (HAP.out hst v9 w9 own9 (belA.trans hb9))
                  clear ownA belA HSX hlA hsA cx1 own9 hb9
                  go_wp2
                  go_roundw
                  case rel => exact HE.out
                  case measure => simp [intOf]; omega
          · have hbm : b = -1 := by omega
            subst hbm
            have hbase : baseOf out = -1 := base_found (by omega) (by rw [HOO.out]; omega) HPOS.out (Or.inl rfl)
            have hst : togStep out x = out ++ [x] := by
              unfold togStep
              cases hb : lastBase out with
              | none => rfl
              | some q =>
                obtain ⟨p, b', ms⟩ := q
                unfold baseOf at hbase
                rw [hb] at hbase
                simp only at hbase
                omega
            have HC1 := Lib.hid c1
            clear hbase HBS HPOS hb0
            go_wp2
            go_quiet (fail)
            have hcq : (wv.drewN nq).cell? ⟨g, off + i, none⟩ = some (.int .i32 x) := HC1.out
            have hownq := HO.out.drewN nq
            have hbq := below_drewN' HBEL.out nq
            clear c1 hwB
            generalize wv.drewN nq = w5 at *
            have ownA : OwnI w.heap.size (w5.alloc (.cells #[.int .i32 x] 21)) _ out := World.ownsRow.alloc hownq _
            have belA := (hbq).alloc (hbq).size (.cells #[.int .i32 x] 21)
            have HSX : Hid (SliceOk (w5.alloc (.cells #[.int .i32 x] 21)) (.slice (some ⟨w5.heap.size, 0, none⟩) 1 1) [x]) := Lib.hid (by
              refine ⟨Or.inr ⟨w5.heap.size, 0, 1, by simp, rfl, fun j hj => ?_⟩, Or.inr ⟨_, 1, rfl⟩⟩
              match j, hj with
              | 0, _ => exact cell_two _ _ _ _)
            have hlA : out.length + [x].length ≤ 100000 := by rw [HOO.out]; simp; omega
            have hsA : w.heap.size ≤ (w5.alloc (.cells #[.int .i32 x] 21)).heap.size := belA.size
            have cx1 : w5.cell? ⟨g, off + i, none⟩ = some (.int .i32 x) := hcq
            go_wp2_with (at_builtin; refine append_ok rfl _ _ rfl w.heap.size _ out rfl ownA _ [x] rfl HSX.out hlA hsA ?_)
            intro v9 w9 own9 hb9
            have HE := Lib.hid (HAP.out hst v9 w9 own9 (belA.trans hb9))
            clear ownA belA HSX hlA hsA cx1 own9 hb9
            go_wp2
            go_roundw
            case rel => exact HE.out
            case measure => simp [intOf]; omega
    · have hin : i = n := by omega
      subst hin
      have HT : Hid (l.take i = l) := Lib.hid (List.take_of_length_le (by rw [HN.out]; omega))
      rw [HT.out] at hown
      have hge : ¬ ((i : Int) < (i : Int)) := by omega
      have HX := Lib.hid (show SliceIs wr u3 (togI l) from SliceIs.own hown)
      clear hown
      go_wp2
      go_ret
      exact ⟨_, rfl, HX.out, hbel⟩
end Go.Proofs.Ytjakelphkehonaa
