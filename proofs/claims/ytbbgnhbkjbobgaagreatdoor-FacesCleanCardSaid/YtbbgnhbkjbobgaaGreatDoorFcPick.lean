/-
  The contracts of Pick: the project's, the reference's.
-/
import Derived.Test.YtbbgnhbkjbobgaaGreatDoorFcPickM
import Derived.Test.YtbbgnhbkjbobgaaGreatDoorFcOf
namespace Go.Proofs.YtbbgnhbkjbobgaaGreatDoor
open Go.RowKit Go.Sort
set_option linter.unusedVariables false

theorem infoInt14 : (Tryz.prog.info? 3).map (fun i => (i.zero, i.size, i.bytes)) = some (some (.int .i64 0), 1, 8) := by kernel_rfl
set_option maxHeartbeats 4000000 in
set_option maxRecDepth 100000 in
theorem pick_c (enc : Int) (h0 : 0 ≤ enc) (h8 : enc ≤ 8) (v : Value) (l : List Ent) (r : ByteArray) (w : World) (hv : EntsIs w v l) (hl : l.length ≤ 200) (hok : ∀ e ∈ l, EntOk e) (hr : r.size ≤ 300) (hT : Tabs w) :
    Calls Tryz.prog 18 #[.int .i64 enc, v, .string r] w fun e w' => e = .returned (.int .i64 (pickI enc l r.data.toList)) ∧ Below w.heap.size w w' := by
  have cL := long_c enc h0 h8 r hr w hT
  cases hL : longB enc r.data.toList with
  | false =>
    rw [hL] at cL
    rw [pick_short hL]
    clear h0 h8 hv hl hok hr hT hL
    go_enter Tryz.func18, Tryz.ntmps18
    go_wp2_with (go_at_call 29; refine cL.mono ?_; rintro e w1 ⟨rfl, hb1⟩)
    go_ret
    exact ⟨rfl, hb1⟩
  | true =>
    rw [hL] at cL
    obtain ⟨i0, hi0, hz0, hz1, hz2⟩ := info_parts infoInt14
    obtain ⟨a, cap, rfl⟩ := hv.len
    obtain ⟨n, hn⟩ : ∃ n, l.length = n := ⟨_, rfl⟩
    rw [hn] at hl hv ⊢
    have HV := Lib.hid hv
    have HN := Lib.hid hn
    have HOK := Lib.hid hok
    have hfr := pick_free (l := l) hL
    obtain ⟨K, hK⟩ : ∃ K, pickI enc l r.data.toList = K := ⟨_, rfl⟩
    obtain ⟨H, hH⟩ : ∃ H, fnvL r.data.toList = H := ⟨_, rfl⟩
    rw [hK, hH] at hfr
    have HFR := Lib.hid hfr
    have HC : Hid (∀ w1, Calls Tryz.prog 28 #[.string r] w1 fun e w' => e = .returned (.int .u32 (H : Int)) ∧ w1 = w') := Lib.hid (fun w1 => by rw [← hH]; exact hash_c r (by omega) w1)
    have HE : Hid (∀ e ∈ l, ∀ w1, Calls Tryz.prog 28 #[.string e.name] w1 fun r w' => r = .returned (.int .u32 (fnvL e.name.data.toList : Int)) ∧ w1 = w') := Lib.hid (fun e he w1 => hash_c e.name (by have := (hok e he).1; omega) w1)
    rw [hK]
    clear h0 h8 hv hok hr hT hL hn hK hH hfr
    go_enter Tryz.func18, Tryz.ntmps18
    go_wp2_with fail
    refine cL.mono ?_
    rintro e w1 ⟨rfl, hb1⟩
    have HB1 := Lib.hid hb1
    have cH := HC.out w1
    clear cL hb1
    go_wp2_with fail
    refine cH.mono ?_
    rintro e w2 ⟨rfl, rfl⟩
    clear cH
    go_wp2
    go_loopw [19, 8] (fun iv ov wr => ∃ i : Nat, iv = .int .i64 i ∧ i ≤ n ∧ (∃ o, o = ov ∧ OwnN w.heap.size wr o (shortsOf H (l.take i))) ∧ Below w.heap.size w wr) (fun iv _ _ => n - (intOf iv).toNat)
    case atStart => exact ⟨0, rfl, by omega, ⟨_, rfl, World.ownsRow_nil _ _ _ _⟩, HB1.out⟩
    case round =>
      obtain ⟨i, rfl, hi, ⟨ov, rfl, hown⟩, hb⟩ := hrel
      have HO := Lib.hid hown
      have HB := Lib.hid hb
      clear hown
      by_cases hin : i < n
      · have hiz : (i : Int) < (n : Int) := by omega
        obtain ⟨x, hx⟩ : ∃ x, l[i]? = some x := ⟨_, List.getElem?_eq_getElem (by rw [HN.out]; omega)⟩
        obtain ⟨g, off, rfl, hg, hrr⟩ := HV.out.at hx
        obtain ⟨d0, d1, d2, d3, d4⟩ := ent_at (rangeAt_below hrr hg hb)
        have hS := shortsOf_snoc H (l.take i) x
        rw [← take_snocE hx] at hS
        have hSl : (shortsOf H (l.take i)).length ≤ 200 := by
          have := shortsOf_len H (l.take i)
          rw [List.length_take] at this
          omega
        have HQ := Lib.hid (entsBlock x wr)
        have hbA : Below w.heap.size w (wr.alloc (.cells #[.string x.name, .int .i64 x.node, .bool x.dir, .int .i64 x.cookie, .int .i64 x.short] 29)) := hb.alloc hb.size _
        have HBA := Lib.hid hbA
        have hOA : OwnN w.heap.size (wr.alloc (.cells #[.string x.name, .int .i64 x.node, .bool x.dir, .int .i64 x.cookie, .int .i64 x.short] 29)) ov (shortsOf H (l.take i)) := HO.out.below ((Below.refl wr.heap.size wr).alloc (Nat.le_refl _) _)
        have HOA := Lib.hid hOA
        have cE := HE.out x (List.mem_of_getElem? hx)
        obtain ⟨F, hF⟩ : ∃ F, fnvL x.name.data.toList = F := ⟨_, rfl⟩
        rw [hF] at hS cE
        obtain ⟨nm, nd, dr, ck, sh⟩ := x
        simp only at *
        clear hx hrr hg hb hF hbA hOA
        go_upto_region 8 with fail
        generalize wr.alloc (.cells #[.string nm, .int .i64 nd, .bool dr, .int .i64 ck, .int .i64 sh] 29) = W0 at *
        obtain ⟨⟨q0, q1, q2, q3, q4⟩, _⟩ := five_cells HQ.out
        have cE0 := cE W0
        clear cE
        by_cases hFH : F = H
        · have hFz : ((F : Int) == (H : Int)) = true := by rw [hFH]; simp
          rw [if_pos hFH] at hS
          have HS := Lib.hid hS
          have HSL := Lib.hid hSl
          clear hFH hS hSl
          have HO1 : Hid (OwnN w.heap.size (W0.alloc (.cells #[.int .i64 sh] 3)) ov (shortsOf H (l.take i))) := Lib.hid (HOA.out.below ((Below.refl W0.heap.size W0).alloc (Nat.le_refl _) _))
          obtain ⟨m, hm⟩ : ∃ m, (shortsOf H (l.take i)).length = m := ⟨_, rfl⟩
          have HM := Lib.hid hm
          obtain ⟨a2, cap2, hv2⟩ := HOA.out.len
          rw [hm] at hv2
          subst hv2
          clear hm
          go_wp2_with (first | (go_at_call 28; refine cE0.mono ?_; rintro e w3 ⟨rfl, rfl⟩) | (at_builtin; refine wpList_append_own _ rfl _ _ 52 rfl w.heap.size 3 i0 (.int .i64 0) 1 8 Tryz.underlying52 hi0 hz0 hz1 hz2 rfl (by decide) _ _ _ rfl (by have := HO1.out; unfold OwnN at this; rw [HM.out] at this; exact this) ⟨W0.heap.size, 0, none⟩ 1 1 [.int .i64 sh] rfl rfl ?c1 ?c2 ?c3 ?c4 ?c5 ?_))
          case c1 =>
            intro j u hj
            match j, hj with
            | 0, hj => simp at hj; subst hj; simp [Addr.add]
          case c2 => intro u hu; simp at hu; subst hu; rfl
          case c3 => have := HSL.out; have := HM.out; unfold maxLen; omega
          case c4 => have := HSL.out; have := HM.out; omega
          case c5 => have h1 := HBA.out.size; simp; omega
          intro v' w3 hown' hgrow _
          have HO3 : Hid (OwnN w.heap.size w3 v' (shortsOf H (l.take (i + 1)))) := Lib.hid (by
            rw [HS.out]
            unfold OwnN
            rw [List.length_append, List.length_singleton, List.map_append, HM.out]
            exact hown')
          have HB3 : Hid (Below w.heap.size w w3) := Lib.hid ((HBA.out.alloc HBA.out.size _).grown hgrow (by have := HBA.out.size; simp; omega) (fun j hj => (HO1.out.lt j hj).1))
          clear hown' hgrow
          go_wp2
          go_roundw
          case rel => exact ⟨i + 1, by first | rfl | go_num, by omega, ⟨_, rfl, HO3.out⟩, HB3.out⟩
          case measure => simp [intOf]; omega
        · have hFz : ((F : Int) == (H : Int)) = false := beq_eq_false_iff_ne.2 (fun e => hFH (by omega))
          rw [if_neg hFH] at hS
          have HS := Lib.hid hS
          clear hFH hS hSl
          go_wp2_with (go_at_call 28; refine cE0.mono ?_; rintro e w3 ⟨rfl, rfl⟩)
          go_roundw
          case rel => exact ⟨i + 1, by first | rfl | go_num, by omega, ⟨_, rfl, by rw [HS.out]; exact HOA.out⟩, HBA.out⟩
          case measure => simp [intOf]; omega
      · have hiz : ¬ ((i : Int) < (n : Int)) := by omega
        have hin2 : i = n := by omega
        have htk : l.take i = l := List.take_of_length_le (by rw [HN.out]; omega)
        rw [htk] at HO
        have cF := free_c ov (shortsOf H l) wr (SliceN.own HO.out) (by have := shortsOf_len H l; have := HN.out; omega)
        unfold FreePost at cF
        clear hin2 htk hb
        go_wp2_with fail
        refine cF.mono ?_
        rintro e w3 ⟨f, hf, _, rfl, hb3⟩
        obtain rfl := freeOf_one hf HFR.out
        go_wp2
        go_ret
        exact ⟨rfl, HB.out.trans (hb3.mono HB.out.size)⟩
set_option maxHeartbeats 4000000 in
set_option maxRecDepth 100000 in
theorem rpick_c (enc : Int) (h0 : 0 ≤ enc) (h8 : enc ≤ 8) (v : Value) (l : List Ent) (r : ByteArray) (w : World) (hv : EntsIs w v l) (hl : l.length ≤ 200) (hok : ∀ e ∈ l, EntOk e) (hr : r.size ≤ 300) :
    Calls Tryz.prog 19 #[.int .i64 enc, v, .string r] w fun e w' => e = .returned (.int .i64 (pickI enc l r.data.toList)) ∧ Below w.heap.size w w' := by
  have cL := rlong_c enc h0 h8 r hr w
  cases hL : longB enc r.data.toList with
  | false =>
    rw [hL] at cL
    rw [pick_short hL]
    clear h0 h8 hv hl hok hr hL
    go_enter Tryz.func19, Tryz.ntmps19
    go_wp2_with (go_at_call 13; refine cL.mono ?_; rintro e w1 ⟨rfl, hb1⟩)
    go_ret
    exact ⟨rfl, hb1⟩
  | true =>
    rw [hL] at cL
    obtain ⟨a, cap, rfl⟩ := hv.len
    obtain ⟨n, hn⟩ : ∃ n, l.length = n := ⟨_, rfl⟩
    rw [hn] at hl hv ⊢
    have HV := Lib.hid hv
    have HN := Lib.hid hn
    have hfr := pick_free (l := l) hL
    obtain ⟨K, hK⟩ : ∃ K, pickI enc l r.data.toList = K := ⟨_, rfl⟩
    obtain ⟨H, hH⟩ : ∃ H, fnvL r.data.toList = H := ⟨_, rfl⟩
    rw [hK, hH] at hfr
    have HFR := Lib.hid hfr
    have hle := freeOf_le hfr
    have hsl := shortsOf_len H l
    rw [hn] at hsl
    have HKL : Hid (K ≤ (n : Int) + 1) := Lib.hid (by omega)
    have HC : Hid (∀ w1, Calls Tryz.prog 26 #[.string r] w1 fun e w' => e = .returned (.int .u32 (H : Int)) ∧ w1 = w') := Lib.hid (fun w1 => by rw [← hH]; exact rhash_c r (by omega) w1)
    have HE : Hid (∀ e ∈ l, ∀ w1, Calls Tryz.prog 26 #[.string e.name] w1 fun r w' => r = .returned (.int .u32 (fnvL e.name.data.toList : Int)) ∧ w1 = w') := Lib.hid (fun e he w1 => rhash_c e.name (by have := (hok e he).1; omega) w1)
    rw [hK]
    clear h0 h8 hv hok hr hL hn hK hH hfr hle hsl
    go_enter Tryz.func19, Tryz.ntmps19
    go_wp2_with fail
    refine cL.mono ?_
    rintro e w1 ⟨rfl, hb1⟩
    have HV1 := Lib.hid (LstIs.kept HV.out hb1)
    have HB1 := Lib.hid hb1
    clear cL hb1
    go_wp2
    go_loop [7] (fun nv => ∃ m : Nat, 1 ≤ m ∧ m ≤ n + 2 ∧ nv = .int .i64 m ∧ ∀ x : Int, 1 ≤ x → x < m → x ∈ shortsOf H l) (fun nv => n + 2 - (intOf nv).toNat)
    case atStart => exact ⟨1, by omega, by omega, rfl, fun x h1 h2 => by omega⟩
    case round =>
      obtain ⟨m, hm1, hm2, rfl, hall⟩ := hrel
      have HA := Lib.hid hall
      clear hall
      have hw1 : IntKind.i64.wrap ((n : Int) + 1) = (n : Int) + 1 := by rw [IntKind.wrap_i64]; omega
      by_cases hmn : m ≤ n + 1
      · have hmz : (m : Int) ≤ (n : Int) + 1 := by omega
        go_wp2
        go_loop [8, 9] (fun fv iv => ∃ k : Nat, k ≤ n ∧ iv = .int .i64 k ∧ fv = .bool (decide ((m : Int) ∈ shortsOf H (l.take k)))) (fun _ iv => n - (intOf iv).toNat)
        case atStart => exact ⟨0, by omega, rfl, by simp [shortsOf]⟩
        case round =>
          obtain ⟨k, hk, rfl, rfl⟩ := hrel
          by_cases hkn : k < n
          · have hkz : (k : Int) < (n : Int) := by omega
            obtain ⟨x, hx⟩ : ∃ x, l[k]? = some x := ⟨_, List.getElem?_eq_getElem (by rw [HN.out]; omega)⟩
            obtain ⟨g, off, rfl, hg, hrr⟩ := HV1.out.at hx
            obtain ⟨d0, d1, d2, d3, d4⟩ := ent_at hrr
            have hS := shortsOf_snoc H (l.take k) x
            rw [← take_snocE hx] at hS
            have cE := HE.out x (List.mem_of_getElem? hx) w1
            have cH := HC.out w1
            obtain ⟨F, hF⟩ : ∃ F, fnvL x.name.data.toList = F := ⟨_, rfl⟩
            rw [hF] at hS cE
            obtain ⟨nm, nd, dr, ck, sh⟩ := x
            simp only at *
            clear hx hrr hg hF
            have HT : Hid (decide ((m : Int) ∈ shortsOf H (l.take (k + 1))) = (decide ((m : Int) ∈ shortsOf H (l.take k)) || (sh == (m : Int)) && ((F : Int) == (H : Int)))) := Lib.hid (by
              rw [Bool.eq_iff_iff]
              simp only [Bool.or_eq_true, Bool.and_eq_true, decide_eq_true_eq, beq_iff_eq]
              rw [hS]
              by_cases e : F = H
              · rw [if_pos e]
                simp only [List.mem_append, List.mem_singleton]
                exact ⟨fun h => h.elim Or.inl (fun h => Or.inr ⟨h.symm, by omega⟩), fun h => h.elim Or.inl (fun h => Or.inr h.1.symm)⟩
              · rw [if_neg e]
                exact ⟨Or.inl, fun h => h.elim id (fun h => absurd (by omega) e)⟩)
            clear hS
            cases ht : decide ((m : Int) ∈ shortsOf H (l.take k)) with
            | true =>
              rw [ht] at HT
              clear ht cE cH
              go_wp2
              go_round
              case rel => exact ⟨k + 1, by omega, by first | rfl | go_num, by rw [HT.out]; rfl⟩
              case measure => simp [intOf]; omega
            | false =>
              rw [ht] at HT
              clear ht
              cases hx : (sh == (m : Int)) with
              | false =>
                rw [hx] at HT
                clear cE cH
                go_wp2
                go_round
                case rel => exact ⟨k + 1, by omega, by first | rfl | go_num, by rw [HT.out]; rfl⟩
                case measure => simp [intOf]; omega
              | true =>
                rw [hx] at HT
                obtain ⟨t, ht⟩ : ∃ t, ((F : Int) == (H : Int)) = t := ⟨_, rfl⟩
                rw [ht] at HT
                go_wp2_with fail
                refine cE.mono ?_
                rintro e w3 ⟨rfl, rfl⟩
                go_wp2_with fail
                refine cH.mono ?_
                rintro e w3 ⟨rfl, rfl⟩
                clear cE cH
                go_wp2
                go_round
                case rel => exact ⟨k + 1, by omega, by first | rfl | go_num, by rw [HT.out]; simp⟩
                case measure => simp [intOf]; omega
          · have hge : ¬ ((k : Int) < (n : Int)) := by omega
            have ht : l.take k = l := List.take_of_length_le (by rw [HN.out]; omega)
            rw [ht]
            cases hd : decide ((m : Int) ∈ shortsOf H l) with
            | true =>
              have HD := Lib.hid (of_decide_eq_true hd)
              clear hd ht
              go_wp2
              go_round
              case rel =>
                refine ⟨m + 1, by omega, by omega, by first | rfl | go_num, fun x h1 h2 => ?_⟩
                by_cases e : x = m
                · rw [e]; exact HD.out
                · exact HA.out x h1 (by omega)
              case measure => simp [intOf]; omega
            | false =>
              have HD : Hid ((m : Int) = K) := Lib.hid (freeOf_one ⟨by omega, of_decide_eq_false hd, HA.out⟩ HFR.out)
              clear hd ht
              go_wp2
              go_ret
              exact ⟨by rw [HD.out]; rfl, HB1.out⟩
      · exact absurd (HA.out K HFR.out.1 (by have := HKL.out; omega)) HFR.out.2.1
end Go.Proofs.YtbbgnhbkjbobgaaGreatDoor
