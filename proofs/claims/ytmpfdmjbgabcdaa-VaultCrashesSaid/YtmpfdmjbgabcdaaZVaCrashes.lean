/-
  The law VaultCrashes.
-/
import Derived.Test.YtmpfdmjbgabcdaaZVaCrOp
import Derived.Test.YtmpfdmjbgabcdaaZVaRow2
import Derived.Deep.CutBlock
namespace Go.Proofs.Ytmpfdmjbgabcdaa
open Go.RowKit Go.Sort
set_option linter.unusedVariables false

theorem str_ne9 {s : ByteArray} (h : s.size ≠ 0) : s.toList.isEmpty = false := by
  rw [ByteArray.toList_eq]
  have h1 : s.data.toList.length = s.size := Array.length_toList
  cases h2 : s.data.toList with
  | nil => rw [h2] at h1; simp at h1; omega
  | cons a t => rfl
theorem str_emp9 {s : ByteArray} (h : s.size = 0) : s.toList.isEmpty = true := by
  rw [ByteArray.toList_eq]
  have h1 : s.data.toList.length = s.size := Array.length_toList
  cases h2 : s.data.toList with
  | nil => rfl
  | cons a t => rw [h2] at h1; simp at h1; omega
theorem str_nil9 {s : ByteArray} (h : s.size = 0) : s = ⟨#[]⟩ := by
  obtain ⟨⟨a⟩⟩ := s
  cases a with
  | nil => rfl
  | cons x y => have h9 : (x :: y).length = 0 := h; simp at h9
set_option maxHeartbeats 32000000 in
set_option maxRecDepth 100000 in
theorem crashes_walk (s : ByteArray) (hs : s.size ≤ 9223372036854775807) (v : Value) (l : List OpV) (w : World) (hv : OpsIs w v l) (hl : l.length ≤ 9223372036854775807) (hok : ∀ o ∈ l, OpOk o) :
    Calls Try.prog 5 #[.string s, v] w fun e w' => e = .returned (.bool true) ∧ Below w.heap.size w w' := by
  have cA := awake8_c w
  obtain ⟨av, cv, rfl⟩ := hv.len
  obtain ⟨L, hL⟩ : ∃ L, l.length = L := ⟨_, rfl⟩
  obtain ⟨z, hz⟩ : ∃ z, s.size = z := ⟨_, rfl⟩
  have HFW : Hid (∀ b W, (b = true ↔ Few l 30) → Below w.heap.size w W → Calls Try.prog 8 #[.slice av L cv, .int .i64 30] W fun e w' => e = .returned (.bool b) ∧ W = w') := Lib.hid (fun b W hb hW => by
    have h1 := few8_c (.slice av l.length cv) l 30 W (hv.kept hW) hl (by decide) b hb
    rw [hL] at h1
    exact h1)
  rw [hL] at hv ⊢
  have HV := Lib.hid hv
  have HL := Lib.hid hL
  have HZ := Lib.hid hz
  have HOK := Lib.hid hok
  rw [hL] at hl
  clear hv hok
  by_cases hF : Few l 30
  · have HFEW := Lib.hid hF
    clear hF
    by_cases h5 : 500 < z
    · have h5z : (500 : Int) < (z : Int) := by omega
      go_enter Try.func5, Try.ntmps5
      go_wp2_with fail
      refine cA.mono ?_
      rintro e w1 ⟨rfl, hb1⟩
      have HB1 := Lib.hid hb1
      have cF := HFW.out true w1 ⟨fun _ => HFEW.out, fun _ => rfl⟩ hb1
      clear cA hb1
      go_wp2_with fail
      refine cF.mono ?_
      rintro e w2 ⟨rfl, hw2⟩
      subst hw2
      clear cF
      have cA2 := awake8_c w1
      go_wp2_with fail
      refine cA2.mono ?_
      rintro e w3 ⟨rfl, hb3⟩
      have HB3 := Lib.hid (HB1.out.trans (hb3.mono HB1.out.size))
      clear cA2 hb3
      go_wp2
      go_ret
      exact ⟨rfl, HB3.out⟩
    · have h5z : ¬ (500 : Int) < (z : Int) := by omega
      have h5d : decide ((500 : Int) < (z : Int)) = false := decide_eq_false h5z
      by_cases h0 : z = 0
      · have hs0 : s = ⟨#[]⟩ := str_nil9 (by rw [hz]; exact h0)
        clear h5 h0
        subst hs0
        go_enter Try.func5, Try.ntmps5
        go_wp2_with fail
        refine cA.mono ?_
        rintro e w1 ⟨rfl, hb1⟩
        have HB1 := Lib.hid hb1
        have cF := HFW.out true w1 ⟨fun _ => HFEW.out, fun _ => rfl⟩ hb1
        clear cA hb1
        go_wp2_with fail
        refine cF.mono ?_
        rintro e w2 ⟨rfl, hw2⟩
        subst hw2
        clear cF
        have cA2 := awake8_c w1
        go_wp2_with fail
        refine cA2.mono ?_
        rintro e w3 ⟨rfl, hb3⟩
        have HB3 := Lib.hid (HB1.out.trans (hb3.mono HB1.out.size))
        clear cA2 hb3
        go_wp2
        go_ret
        exact ⟨rfl, HB3.out⟩
      · have hse := str_ne9 (s := s) (by rw [hz]; exact h0)
        go_enter Try.func5, Try.ntmps5
        go_wp2_with fail
        refine cA.mono ?_
        rintro e w1 ⟨rfl, hb1⟩
        have HB1 := Lib.hid hb1
        have cF := HFW.out true w1 ⟨fun _ => HFEW.out, fun _ => rfl⟩ hb1
        clear cA hb1
        go_wp2_with fail
        refine cF.mono ?_
        rintro e w2 ⟨rfl, hw2⟩
        subst hw2
        clear cF
        have hN := new_c 60 w1
        unfold NewPost at hN
        rw [show sizeI 60 = 60 from rfl] at hN
        go_wp2_with fail
        refine hN.mono ?_
        rintro e w3 ⟨b, rfl, hd, hb3, ho3⟩
        have HB3 : Hid (Below w.heap.size w w3) := Lib.hid (HB1.out.trans (hb3.mono HB1.out.size))
        have HD3 := Lib.hid (hd.base HB1.out.size)
        clear hd hb3 ho3 hN
        have HBE : Hid (Calls Try.prog 10 #[.pointer (some ⟨b, 0, none⟩), .string s] w3 fun e w' => ∃ vb, e = .returned (.pointer (some ⟨vb, 0, none⟩)) ∧ Below w.heap.size w w' ∧ CrL w.heap.size b vb 0 w' s (.slice none 0 0) 0 ⟨#[]⟩) := Lib.hid (by
          have hzz := HZ.out
          refine (begun_c (n := 60) (h := 30) s HD3.out rfl (by decide) (by decide) (by omega) (fits_small (by omega) (by omega) (by decide)) HB3.out.size).mono ?_
          rintro e w' ⟨vb, rv, st', he, hb, hL, _⟩
          exact ⟨vb, he, HB3.out.trans hb, Or.inl ⟨_, _, _, [], [s], [], _, _, rv, hL, rfl, Nat.le_refl _, by omega, Or.inl ⟨rfl, rfl⟩, Or.inl rfl⟩⟩)
        go_wp2_with fail
        refine HBE.out.mono ?_
        rintro e w4 ⟨vb, rfl, hb4, hc4⟩
        have HB4 := Lib.hid hb4
        have HC4 := Lib.hid hc4
        clear hb4 hc4
        go_wp2
        go_loopw [0, 6, 7, 8, 9, 10] (fun sv vv lvv nv fv iv wr => ∃ (i : Nat) (img : ByteArray) (vb : Nat) (lv : Value) (syn : Nat) (fr : ByteArray), i ≤ L ∧ sv = .string img ∧ vv = .pointer (some ⟨vb, 0, none⟩) ∧ lv = lvv ∧ nv = .int .i64 syn ∧ fv = .string fr ∧ iv = .int .i64 i ∧ CrL w.heap.size b vb (2 * i) wr img lv syn fr ∧ Below w.heap.size w wr) (fun _ _ _ _ _ iv _ => L - (intOf iv).toNat)
        case atStart => exact ⟨0, s, vb, _, 0, ⟨#[]⟩, by omega, rfl, rfl, rfl, rfl, rfl, rfl, HC4.out, HB4.out⟩
        case round =>
          clear HC4 HB4
          obtain ⟨i, img, vb, lv, syn, fr, hi, rfl, rfl, rfl, rfl, rfl, rfl, hc, hb⟩ := hrel
          have HC := Lib.hid hc
          have HB := Lib.hid hb
          clear hc hb
          have hL30 : L ≤ 30 := by have := HFEW.out.1; have := HL.out; omega
          by_cases hiL : i < L
          · have hiz : (i : Int) < (L : Int) := by omega
            obtain ⟨o, ho⟩ : ∃ o, l[i]? = some o := ⟨_, List.getElem?_eq_getElem (by rw [HL.out]; exact hiL)⟩
            obtain ⟨g, off, rfl, hg, hop0⟩ := HV.out.at ho
            have hop := hop0.kept hg HB.out
            have hnk : NumsIs w o.kv o.l := hop0.nums
            have hoo := HOK.out o (List.mem_of_getElem? ho)
            have hfo := HFEW.out.2 o (List.mem_of_getElem? ho)
            clear ho hg hop0
            rcases o with ⟨X, os, cb, N, xb, kv, kl⟩
            obtain ⟨ak, ck, hkv⟩ := hnk.len
            simp only at hkv
            obtain ⟨kn, hkn⟩ : ∃ kn, kl.length = kn := ⟨_, rfl⟩
            rw [hkn] at hkv
            subst hkv
            obtain ⟨c0, c1, c2, c3, c4, c5, _⟩ := hop
            simp only at c0 c1 c2 c3 c4 c5
            have HNK : Hid (NumsIs w (.slice ak kn ck) kl) := Lib.hid hnk
            have HKL : Hid (kl.length ≤ 100) := Lib.hid hfo.2
            have HOS : Hid (os.size ≤ 400) := Lib.hid hfo.1
            have HXX : Hid (0 ≤ X ∧ X ≤ 255 ∧ -9223372036854775808 ≤ N ∧ N ≤ 9223372036854775807) := Lib.hid ⟨hoo.x0, hoo.x1, hoo.n0, hoo.n1⟩
            clear hkn hnk hoo hfo
            obtain ⟨OC, hOC⟩ : ∃ OC : Array Value, OC = #[.int .u8 X, .string os, .bool cb, .int .i64 N, .bool xb, .slice ak kn ck] := ⟨_, rfl⟩
            have HBA : Hid (Below wr.heap.size wr (wr.alloc (.cells #[.int .u8 X, .string os, .bool cb, .int .i64 N, .bool xb, .slice ak kn ck] 33))) := Lib.hid ((Below.refl _ _).alloc (Nat.le_refl _) _)
            have HT4 : Hid ((wr.alloc (.cells #[.int .u8 X, .string os, .bool cb, .int .i64 N, .bool xb, .slice ak kn ck] 33)).heap[wr.heap.size]? = some (.cells #[.int .u8 X, .string os, .bool cb, .int .i64 N, .bool xb, .slice ak kn ck] 33 (0, 0))) := Lib.hid (heap_alloc_new _ _)
            have HB4 : Hid (Below w.heap.size w (wr.alloc (.cells #[.int .u8 X, .string os, .bool cb, .int .i64 N, .bool xb, .slice ak kn ck] 33))) := Lib.hid (HB.out.trans (HBA.out.mono HB.out.size))
            have HC4 : Hid (CrL w.heap.size b vb (2 * i) (wr.alloc (.cells #[.int .u8 X, .string os, .bool cb, .int .i64 N, .bool xb, .slice ak kn ck] 33)) img lv syn fr) := Lib.hid (HC.out.below HBA.out)
            clear HBA HC HB hOC
            go_upto_region 14 with fail
            clear c0 c1 c2 c3 c4 c5
            generalize wr.heap.size = ob at *
            generalize wr.alloc (.cells #[.int .u8 X, .string os, .bool cb, .int .i64 N, .bool xb, .slice ak kn ck] 33) = w4 at *
            have HQ : Hid (∀ W : World, W.heap[ob]? = some (.cells #[.int .u8 X, .string os, .bool cb, .int .i64 N, .bool xb, .slice ak kn ck] 33 (0, 0)) → W.cell? ⟨ob, 0, none⟩ = some (.int .u8 X) ∧ W.cell? ⟨ob, 1, none⟩ = some (.string os) ∧ W.cell? ⟨ob, 2, none⟩ = some (.bool cb) ∧ W.cell? ⟨ob, 3, none⟩ = some (.int .i64 N) ∧ W.cell? ⟨ob, 4, none⟩ = some (.bool xb) ∧ W.cell? ⟨ob, 5, none⟩ = some (.slice ak kn ck)) := Lib.hid (fun W h => by refine ⟨?_, ?_, ?_, ?_, ?_, ?_⟩ <;> (rw [cell_of_row W ob _ _ _ _ h]; rfl))
            have HKO : Hid (∀ W W' : World, KeepO W W' → W.heap[ob]? = some (.cells #[.int .u8 X, .string os, .bool cb, .int .i64 N, .bool xb, .slice ak kn ck] 33 (0, 0)) → W'.heap[ob]? = some (.cells #[.int .u8 X, .string os, .bool cb, .int .i64 N, .bool xb, .slice ak kn ck] 33 (0, 0))) := Lib.hid (fun W W' h hk => h _ _ _ hk)
            obtain ⟨q0, q1, q2, q3, q4, q5⟩ := HQ.out w4 HT4.out
            go_upto_if 52 with fail
            go_cut [10] from 41 to 174 (fun c wx => c = .int .i64 i ∧ CrL w.heap.size b vb (2 * i) wx img lv syn fr ∧ Below w.heap.size w wx ∧ wx.heap[ob]? = some (.cells #[.int .u8 X, .string os, .bool cb, .int .i64 N, .bool xb, .slice ak kn ck] 33 (0, 0)))
            case first =>
              as_aux_lemma =>
                cases cb with
                | false =>
                  go_wp2
                  go_meet
                  exact ⟨rfl, HC4.out, HB4.out, HT4.out⟩
                | true =>
                  have cC := cr_cut (N := N) HC4.out HXX.out.2.2.1 HXX.out.2.2.2
                  go_wp2_with fail
                  refine cC.mono ?_
                  rintro e w5 ⟨rfl, hb5, hk5, hc5⟩
                  have HB5 := Lib.hid (HB4.out.trans hb5)
                  have HK5 := Lib.hid (HKO.out _ _ hk5 HT4.out)
                  have HC5 := Lib.hid hc5
                  clear hb5 hk5 hc5 cC
                  go_wp2
                  go_meet
                  exact ⟨rfl, HC5.out, HB5.out, HK5.out⟩
            case rest =>
              obtain ⟨rfl, hc5, hb5, ht5⟩ := hcut
              have HC5 := Lib.hid hc5
              have HB5 := Lib.hid hb5
              have HT5 := Lib.hid ht5
              clear hc5 hb5 ht5 q0 q1 q2 q3 q4 q5 HC4 HB4 HT4
              generalize wc = w5 at *
              go_upto_region 16 with fail
              go_cut [12] from 41 to 174 (fun c wx => ∃ wb : Bool, c = .bool wb ∧ wx = w5 ∧ ((wb = false ∧ CrA w.heap.size b vb (2 * i) w5 img lv syn) ∨ (wb = true ∧ CrD w.heap.size b vb (2 * i) w5 img lv syn fr)))
              case first =>
                as_aux_lemma =>
                  rcases HC5.out with hA | hD
                  · have HA := Lib.hid hA
                    have cO := cr_overA hA
                    clear hA
                    go_wp2_with fail
                    refine cO.mono ?_
                    rintro e w6 ⟨rfl, rfl⟩
                    clear cO
                    go_wp2
                    go_meet
                    exact ⟨false, rfl, rfl, Or.inl ⟨rfl, HA.out⟩⟩
                  · have HD := Lib.hid hD
                    have cO := cr_overD hD
                    clear hD
                    go_wp2_with fail
                    refine cO.mono ?_
                    rintro e w6 ⟨rfl, rfl⟩
                    clear cO
                    go_wp2
                    go_meet
                    exact ⟨true, rfl, rfl, Or.inr ⟨rfl, HD.out⟩⟩
              case rest =>
                obtain ⟨wb, rfl, rfl, hw5⟩ := hcut
                have HW5 := Lib.hid hw5
                clear hw5
                obtain ⟨q0, q1, q2, q3, q4, q5⟩ := HQ.out _ HT5.out
                obtain ⟨m, hm⟩ : ∃ m, X % 4 = m := ⟨_, rfl⟩
                have hX0 := HXX.out.1
                have hmt : X.tmod 4 = m := by rw [Int.tmod_eq_emod_of_nonneg hX0]; exact hm
                have hm0 : 0 ≤ m := by omega
                have hm3 : m ≤ 3 := by omega
                go_upto_block 2 with fail
                go_cut [0, 7, 8, 9, 13, 14] from 41 to 174 (fun sv lvv nv fv _ _ wx => ∃ (img2 : ByteArray) (lv2 : Value) (syn2 : Nat) (fr2 : ByteArray), sv = .string img2 ∧ lv2 = lvv ∧ nv = .int .i64 syn2 ∧ fv = .string fr2 ∧ CrL w.heap.size b vb (2 * i + 1) wx img2 lv2 syn2 fr2 ∧ Below w.heap.size w wx ∧ wx.heap[ob]? = some (.cells #[.int .u8 X, .string os, .bool cb, .int .i64 N, .bool xb, .slice ak kn ck] 33 (0, 0)))
                case first =>
                  rcases HW5.out with ⟨hwb, hA⟩ | ⟨hwb, hD⟩
                  · subst hwb
                    have HA := Lib.hid hA
                    clear hA
                    by_cases hm2 : m = 2
                    · subst hm2
                      as_aux_lemma =>
                        obtain ⟨a9, n9, c9, hlv⟩ := CrL.form (fresh := fr) (Or.inl HA.out)
                        subst hlv
                        have cS := cr_syncA HA.out HB5.out.size
                        go_wp2_with fail
                        refine cS.mono ?_
                        rintro e w6 ⟨q, rfl, hb6, hk6, hx6⟩
                        have HB6 := Lib.hid (HB5.out.trans hb6)
                        have HT6 := Lib.hid (HKO.out _ _ hk6 HT5.out)
                        obtain ⟨p0, p1, p2, p3, p4, p5⟩ := HQ.out _ HT6.out
                        clear hb6 hk6 cS q0 q1 q2 q3 q4 q5
                        rcases hx6 with ⟨rfl, hx6⟩ | ⟨rfl, hx6⟩
                        · have HX6 := Lib.hid hx6
                          clear hx6
                          go_wp2
                          go_meet
                          exact ⟨img, _, n9, fr, rfl, rfl, rfl, rfl, Or.inl (HX6.out.up (Nat.le_succ _)), HB6.out, HT6.out⟩
                        · have HX6 := Lib.hid hx6
                          clear hx6
                          go_wp2
                          go_meet
                          exact ⟨img, _, syn, fr, rfl, rfl, rfl, rfl, Or.inr ((HX6.out.any fr).up (Nat.le_succ _)), HB6.out, HT6.out⟩
                    · by_cases hm4 : m = 3
                      · subst hm4
                        as_aux_lemma =>
                          have cS := cr_renewA os HA.out HOS.out (by omega) HB5.out.size
                          go_wp2_with fail
                          refine cS.mono ?_
                          rintro e w6 ⟨q, rfl, hb6, hk6, hx6⟩
                          have HB6 := Lib.hid (HB5.out.trans hb6)
                          have HT6 := Lib.hid (HKO.out _ _ hk6 HT5.out)
                          obtain ⟨p0, p1, p2, p3, p4, p5⟩ := HQ.out _ HT6.out
                          clear hb6 hk6 cS q0 q1 q2 q3 q4 q5
                          rcases hx6 with ⟨rfl, hx6⟩ | ⟨rfl, hx6⟩ | ⟨hq0, hq13, hx6⟩
                          · have HX6 := Lib.hid hx6
                            clear hx6
                            go_wp2
                            go_meet
                            exact ⟨os, _, 0, fr, rfl, rfl, rfl, rfl, Or.inl HX6.out, HB6.out, HT6.out⟩
                          · have HX6 := Lib.hid hx6
                            clear hx6
                            go_wp2
                            go_meet
                            exact ⟨img, _, syn, os, rfl, rfl, rfl, rfl, Or.inr HX6.out, HB6.out, HT6.out⟩
                          · have HX6 := Lib.hid hx6
                            clear hx6
                            have hqz : (q == 0) = false := by simpa using hq0
                            have hqy : (q == 13) = false := by simpa using hq13
                            go_wp2
                            go_meet
                            exact ⟨img, _, syn, fr, rfl, rfl, rfl, rfl, Or.inl HX6.out, HB6.out, HT6.out⟩
                      · have hmb2 : (m == 2) = false := by simpa using hm2
                        have hmb3 : (m == 3) = false := by simpa using hm4
                        as_aux_lemma =>
                          have cS := cr_appendA os HA.out HOS.out (by omega) HB5.out.size
                          go_wp2_with fail
                          refine cS.mono ?_
                          rintro e w6 ⟨q, rfl, hb6, hk6, hx6⟩
                          have HB6 := Lib.hid (HB5.out.trans hb6)
                          have HT6 := Lib.hid (HKO.out _ _ hk6 HT5.out)
                          obtain ⟨p0, p1, p2, p3, p4, p5⟩ := HQ.out _ HT6.out
                          clear hb6 hk6 cS q0 q1 q2 q3 q4 q5
                          rcases hx6 with ⟨rfl, rs6, hrow6, hlen6x, hnext6⟩ | ⟨rfl, hne6, rs6, hrow6, hlen6x, hnext6⟩ | ⟨rfl, hem6, hx6⟩ | ⟨hq0, hq13, hx6⟩
                          · have HROW6 : Hid (RowAt w.heap.size w6 lv rs6 ∧ rs6.length ≤ 100) := Lib.hid ⟨hrow6, by omega⟩
                            have HNX6 := Lib.hid hnext6
                            clear hrow6 hlen6x hnext6
                            have HC6 : Hid (∀ W : World, Below w6.heap.size w6 W → W.cell? ⟨ob, 1, none⟩ = some (.string os)) := Lib.hid (fun W hW => (HQ.out W (by rw [hW.block _ (lt_of_get HT6.out)]; exact HT6.out)).2.1)
                            have HLV : Hid (∀ W : World, Below w6.heap.size w6 W → StrsIs W lv rs6) := Lib.hid (fun W hW => (HROW6.out.1.below hW).strs)
                            have hlen6 : 0 + rs6.length ≤ 100000 := by have := HROW6.out.2; omega
                            have hlen6b : 0 + rs6.length + [os].length ≤ 100000 := by have := HROW6.out.2; simp; omega
                            go_upto_region 20 with fail
                            have d2 := HC6.out (w6.alloc A0) ((Below.refl _ _).alloc (Nat.le_refl _) _)
                            have d1 := HC6.out w6 (Below.refl _ _)
                            have d3 : w6.drew.cell? ⟨ob, 1, none⟩ = some (.string os) := d1
                            have d4 : (w6.alloc A0).drew.cell? ⟨ob, 1, none⟩ = some (.string os) := d2
                            clear p0 p1 p2 p3 p4 p5
                            go_region_law (first | (refine step_append_all rfl _ _ rfl w6.heap.size (.slice (some ⟨w6.heap.size, 0, none⟩) 0 0) 0 [] rfl (own_0 (w := w6)) ⟨_, _, _, rfl, Nat.le_refl _⟩ lv rs6 rfl (HLV.out _ (b_0 (w := w6))) hlen6 (b_0 (w := w6)).size ?_; intro v7 w7 ho7 hg7 hf7; obtain ⟨a7, k7, z7, hv7, hk7⟩ := hf7; subst hv7; have hb7 := app_below (b_0 (w := w6)) (own_0 (w := w6)) hg7; have d5 := HC6.out w7 hb7; have hb7a := hb7.alloc hb7.size (A1 os); have ho7a := ho7.alloc (A1 os)) | (refine step_append_all rfl _ _ rfl w6.heap.size (.slice (some ⟨w6.heap.size, 0, none⟩) 0 0) 0 [] rfl (own_01 (w := w6) (s := os)) ⟨_, _, _, rfl, Nat.le_refl _⟩ lv rs6 rfl (HLV.out _ (b_01 (w := w6) (s := os))) hlen6 (b_01 (w := w6) (s := os)).size ?_; intro v7 w7 ho7 hg7 hf7; obtain ⟨a7, k7, z7, hv7, hk7⟩ := hf7; subst hv7; have hb7 := app_below (b_01 (w := w6) (s := os)) (own_01 (w := w6) (s := os)) hg7; have hk7o := app_kept hg7 (one_01 (w := w6) (s := os)) (by omega) (lt_of_get (one_01 (w := w6) (s := os)))) | (refine step_append_all rfl _ _ rfl w6.heap.size (.slice (some ⟨w6.heap.size + 1, 0, none⟩) 0 0) 0 [] rfl (own_10 (w := w6) (s := os)) ⟨_, _, _, rfl, Nat.le_refl _⟩ lv rs6 rfl (HLV.out _ (b_10 (w := w6) (s := os))) hlen6 (b_10 (w := w6) (s := os)).size ?_; intro v7 w7 ho7 hg7 hf7; obtain ⟨a7, k7, z7, hv7, hk7⟩ := hf7; subst hv7; have hb7 := app_below (b_10 (w := w6) (s := os)) (own_10 (w := w6) (s := os)) hg7; have hk7o := app_kept hg7 (one_10 (w := w6) (s := os)) (by omega) (lt_of_get (one_10 (w := w6) (s := os)))) | (refine step_append_all rfl _ _ rfl w6.heap.size (.slice a7 k7 z7) (0 + rs6.length) ([] ++ rs6.map Value.string) rfl ho7a ⟨_, _, _, rfl, hk7⟩ (.slice (some ⟨w7.heap.size, 0, none⟩) 1 1) [os] rfl (strs_one (heap_alloc_new _ _)) hlen6b hb7a.size ?_; intro v8 w8 ho8 hg8 hf8; have hb8 := app_below hb7a ho7a hg8; clear hf8) | (refine step_append_all rfl _ _ rfl w6.heap.size (.slice a7 k7 z7) (0 + rs6.length) ([] ++ rs6.map Value.string) rfl ho7 ⟨_, _, _, rfl, hk7⟩ (.slice (some ⟨w6.heap.size + 1, 0, none⟩) 1 1) [os] rfl (strs_one hk7o) hlen6b hb7.size ?_; intro v8 w8 ho8 hg8 hf8; have hb8 := app_below hb7 ho7 hg8; clear hf8) | (refine step_append_all rfl _ _ rfl w6.heap.size (.slice a7 k7 z7) (0 + rs6.length) ([] ++ rs6.map Value.string) rfl ho7 ⟨_, _, _, rfl, hk7⟩ (.slice (some ⟨w6.heap.size, 0, none⟩) 1 1) [os] rfl (strs_one hk7o) hlen6b hb7.size ?_; intro v8 w8 ho8 hg8 hf8; have hb8 := app_below hb7 ho7 hg8; clear hf8))
                            all_goals
                              have HE := Lib.hid (And.intro (app_end (rs := rs6) (s := os) ho8 (by simp) (by simp)) hb8)
                              clear ho8 hb8
                              go_wp2
                              go_meet
                              exact ⟨img, _, syn, fr, rfl, rfl, rfl, rfl, Or.inl (HNX6.out _ _ HE.out.2 HE.out.1), HB6.out.trans (HE.out.2.mono HB6.out.size), by rw [HE.out.2.block _ (lt_of_get HT6.out)]; exact HT6.out⟩
                          · have HROW6 : Hid (RowAt w.heap.size w6 lv rs6 ∧ rs6.length ≤ 100) := Lib.hid ⟨hrow6, by omega⟩
                            have HNX6 := Lib.hid hnext6
                            have hose := str_ne9 (s := os) hne6
                            clear hrow6 hlen6x hnext6 hne6
                            have HC6 : Hid (∀ W : World, Below w6.heap.size w6 W → W.cell? ⟨ob, 1, none⟩ = some (.string os)) := Lib.hid (fun W hW => (HQ.out W (by rw [hW.block _ (lt_of_get HT6.out)]; exact HT6.out)).2.1)
                            have HLV : Hid (∀ W : World, Below w6.heap.size w6 W → StrsIs W lv rs6) := Lib.hid (fun W hW => (HROW6.out.1.below hW).strs)
                            have hlen6 : 0 + rs6.length ≤ 100000 := by have := HROW6.out.2; omega
                            have hlen6b : 0 + rs6.length + [os].length ≤ 100000 := by have := HROW6.out.2; simp; omega
                            go_upto_region 20 with fail
                            have d2 := HC6.out (w6.alloc A0) ((Below.refl _ _).alloc (Nat.le_refl _) _)
                            have d1 := HC6.out w6 (Below.refl _ _)
                            have d3 : w6.drew.cell? ⟨ob, 1, none⟩ = some (.string os) := d1
                            have d4 : (w6.alloc A0).drew.cell? ⟨ob, 1, none⟩ = some (.string os) := d2
                            clear p0 p1 p2 p3 p4 p5
                            go_region_law (first | (refine step_append_all rfl _ _ rfl w6.heap.size (.slice (some ⟨w6.heap.size, 0, none⟩) 0 0) 0 [] rfl (own_0 (w := w6)) ⟨_, _, _, rfl, Nat.le_refl _⟩ lv rs6 rfl (HLV.out _ (b_0 (w := w6))) hlen6 (b_0 (w := w6)).size ?_; intro v7 w7 ho7 hg7 hf7; obtain ⟨a7, k7, z7, hv7, hk7⟩ := hf7; subst hv7; have hb7 := app_below (b_0 (w := w6)) (own_0 (w := w6)) hg7; have d5 := HC6.out w7 hb7; have hb7a := hb7.alloc hb7.size (A1 os); have ho7a := ho7.alloc (A1 os)) | (refine step_append_all rfl _ _ rfl w6.heap.size (.slice (some ⟨w6.heap.size, 0, none⟩) 0 0) 0 [] rfl (own_01 (w := w6) (s := os)) ⟨_, _, _, rfl, Nat.le_refl _⟩ lv rs6 rfl (HLV.out _ (b_01 (w := w6) (s := os))) hlen6 (b_01 (w := w6) (s := os)).size ?_; intro v7 w7 ho7 hg7 hf7; obtain ⟨a7, k7, z7, hv7, hk7⟩ := hf7; subst hv7; have hb7 := app_below (b_01 (w := w6) (s := os)) (own_01 (w := w6) (s := os)) hg7; have hk7o := app_kept hg7 (one_01 (w := w6) (s := os)) (by omega) (lt_of_get (one_01 (w := w6) (s := os)))) | (refine step_append_all rfl _ _ rfl w6.heap.size (.slice (some ⟨w6.heap.size + 1, 0, none⟩) 0 0) 0 [] rfl (own_10 (w := w6) (s := os)) ⟨_, _, _, rfl, Nat.le_refl _⟩ lv rs6 rfl (HLV.out _ (b_10 (w := w6) (s := os))) hlen6 (b_10 (w := w6) (s := os)).size ?_; intro v7 w7 ho7 hg7 hf7; obtain ⟨a7, k7, z7, hv7, hk7⟩ := hf7; subst hv7; have hb7 := app_below (b_10 (w := w6) (s := os)) (own_10 (w := w6) (s := os)) hg7; have hk7o := app_kept hg7 (one_10 (w := w6) (s := os)) (by omega) (lt_of_get (one_10 (w := w6) (s := os)))) | (refine step_append_all rfl _ _ rfl w6.heap.size (.slice a7 k7 z7) (0 + rs6.length) ([] ++ rs6.map Value.string) rfl ho7a ⟨_, _, _, rfl, hk7⟩ (.slice (some ⟨w7.heap.size, 0, none⟩) 1 1) [os] rfl (strs_one (heap_alloc_new _ _)) hlen6b hb7a.size ?_; intro v8 w8 ho8 hg8 hf8; have hb8 := app_below hb7a ho7a hg8; clear hf8) | (refine step_append_all rfl _ _ rfl w6.heap.size (.slice a7 k7 z7) (0 + rs6.length) ([] ++ rs6.map Value.string) rfl ho7 ⟨_, _, _, rfl, hk7⟩ (.slice (some ⟨w6.heap.size + 1, 0, none⟩) 1 1) [os] rfl (strs_one hk7o) hlen6b hb7.size ?_; intro v8 w8 ho8 hg8 hf8; have hb8 := app_below hb7 ho7 hg8; clear hf8) | (refine step_append_all rfl _ _ rfl w6.heap.size (.slice a7 k7 z7) (0 + rs6.length) ([] ++ rs6.map Value.string) rfl ho7 ⟨_, _, _, rfl, hk7⟩ (.slice (some ⟨w6.heap.size, 0, none⟩) 1 1) [os] rfl (strs_one hk7o) hlen6b hb7.size ?_; intro v8 w8 ho8 hg8 hf8; have hb8 := app_below hb7 ho7 hg8; clear hf8))
                            all_goals
                              have HE := Lib.hid (And.intro (app_end (rs := rs6) (s := os) ho8 (by simp) (by simp)) hb8)
                              clear ho8 hb8
                              go_wp2
                              go_meet
                              exact ⟨img, _, syn, fr, rfl, rfl, rfl, rfl, Or.inr ((HNX6.out _ _ HE.out.2 HE.out.1).any fr), HB6.out.trans (HE.out.2.mono HB6.out.size), by rw [HE.out.2.block _ (lt_of_get HT6.out)]; exact HT6.out⟩
                          · have HX6 := Lib.hid hx6
                            have hose := str_emp9 (s := os) hem6
                            clear hx6 hem6
                            go_wp2
                            go_meet
                            exact ⟨img, _, syn, fr, rfl, rfl, rfl, rfl, Or.inr (HX6.out.any fr), HB6.out, HT6.out⟩
                          · have HX6 := Lib.hid hx6
                            clear hx6
                            have hqz : (q == 0) = false := by simpa using hq0
                            have hqy : (q == 13) = false := by simpa using hq13
                            go_wp2
                            go_meet
                            exact ⟨img, _, syn, fr, rfl, rfl, rfl, rfl, Or.inl HX6.out, HB6.out, HT6.out⟩
                  · subst hwb
                    have HD := Lib.hid hD
                    clear hD
                    by_cases hm2 : m = 2
                    · subst hm2
                      as_aux_lemma =>
                        have cS := cr_syncD HD.out
                        go_wp2_with fail
                        refine cS.mono ?_
                        rintro e w6 ⟨rfl, hb6⟩
                        have HB6 := Lib.hid (HB5.out.trans (hb6.mono HB5.out.size))
                        have HT6 := Lib.hid (HKO.out _ _ (KeepO.ofBelow hb6) HT5.out)
                        have HX6 := Lib.hid (HD.out.below hb6)
                        obtain ⟨p0, p1, p2, p3, p4, p5⟩ := HQ.out _ HT6.out
                        clear hb6 cS q0 q1 q2 q3 q4 q5
                        go_wp2
                        go_meet
                        exact ⟨img, _, syn, fr, rfl, rfl, rfl, rfl, Or.inr (HX6.out.up (Nat.le_succ _)), HB6.out, HT6.out⟩
                    · by_cases hm4 : m = 3
                      · subst hm4
                        as_aux_lemma =>
                          have cS := cr_renewD os HD.out HOS.out (by omega)
                          go_wp2_with fail
                          refine cS.mono ?_
                          rintro e w6 ⟨rfl, hb6⟩
                          have HB6 := Lib.hid (HB5.out.trans (hb6.mono HB5.out.size))
                          have HT6 := Lib.hid (HKO.out _ _ (KeepO.ofBelow hb6) HT5.out)
                          have HX6 := Lib.hid (HD.out.below hb6)
                          obtain ⟨p0, p1, p2, p3, p4, p5⟩ := HQ.out _ HT6.out
                          clear hb6 cS q0 q1 q2 q3 q4 q5
                          go_wp2
                          go_meet
                          exact ⟨img, _, syn, fr, rfl, rfl, rfl, rfl, Or.inr (HX6.out.up (Nat.le_succ _)), HB6.out, HT6.out⟩
                      · have hmb2 : (m == 2) = false := by simpa using hm2
                        have hmb3 : (m == 3) = false := by simpa using hm4
                        as_aux_lemma =>
                          have cS := cr_appendD os HD.out
                          go_wp2_with fail
                          refine cS.mono ?_
                          rintro e w6 ⟨rfl, hb6⟩
                          have HB6 := Lib.hid (HB5.out.trans (hb6.mono HB5.out.size))
                          have HT6 := Lib.hid (HKO.out _ _ (KeepO.ofBelow hb6) HT5.out)
                          have HX6 := Lib.hid (HD.out.below hb6)
                          obtain ⟨p0, p1, p2, p3, p4, p5⟩ := HQ.out _ HT6.out
                          clear hb6 cS q0 q1 q2 q3 q4 q5
                          go_wp2
                          go_meet
                          exact ⟨img, _, syn, fr, rfl, rfl, rfl, rfl, Or.inr (HX6.out.up (Nat.le_succ _)), HB6.out, HT6.out⟩
                case rest =>
                  obtain ⟨img2, lv2, syn2, fr2, rfl, rfl, rfl, rfl, hc6, hb6, ht6⟩ := hcut
                  have HC6 := Lib.hid hc6
                  have HB6 := Lib.hid hb6
                  have HT6 := Lib.hid ht6
                  clear hc6 hb6 ht6 q0 q1 q2 q3 q4 q5 HC5 HB5 HT5 HW5
                  generalize wc = w6 at *
                  obtain ⟨p0, p1, p2, p3, p4, p5⟩ := HQ.out _ HT6.out
                  cases xb with
                  | false =>
                    go_wp2
                    go_roundw
                    case rel => exact ⟨i + 1, img2, vb, _, syn2, fr2, by omega, rfl, rfl, rfl, rfl, rfl, by first | rfl | go_num, HC6.out.up (by omega), HB6.out⟩
                    case measure => simp [intOf]; omega
                  | true =>
                    have hkl0 : kl.length ≤ 9223372036854775807 := by have := HKL.out; omega
                    have cO := cr_opened (.slice ak kn ck) kl HC6.out.z (by omega) (HNK.out.kept HB6.out) hkl0 HB6.out.size
                    go_wp2_with fail
                    refine cO.mono ?_
                    rintro e w7 ⟨vb7, img7, rs7, rfl, hb7, hk7, hn7, ho7⟩
                    have HB7 := Lib.hid (HB6.out.trans hb7)
                    have HN7 := Lib.hid hn7
                    have HO7 := Lib.hid ho7
                    clear hb7 hk7 hn7 ho7 cO p0 p1 p2 p3 p4 p5
                    have cR := crn_records HN7.out (by omega) HB7.out.size
                    go_wp2_with fail
                    refine cR.mono ?_
                    rintro e w8 ⟨a8, k8, rfl, hb8, hs8, hA8⟩
                    have HB8 := Lib.hid hb8
                    have HS8 := Lib.hid hs8
                    have HA8 := Lib.hid hA8
                    have HO8 := Lib.hid (HO7.out.below hb8)
                    have HNX : Hid (∀ W : World, Below w8.heap.size w8 W → Calls Try.prog 16 #[.pointer (some ⟨vb7, 0, none⟩)] W fun e w' => e = .returned (.string img7) ∧ W = w') := Lib.hid (fun W hW => crn_image ((HN7.out.below HB8.out).below hW))
                    have HW8 : Hid (Below w.heap.size w w8) := Lib.hid (HB7.out.trans (hb8.mono HB7.out.size))
                    clear hb8 hs8 hA8 cR
                    obtain ⟨m9, hm9⟩ : ∃ m9, rs7.length = m9 := ⟨_, rfl⟩
                    have HM9 := Lib.hid hm9
                    have HA9 : Hid (CrA w.heap.size b vb7 (2 * i + 1 + 1) w8 img7 (.slice a8 m9 k8) m9) := Lib.hid (by have h1 := HA8.out; rw [hm9] at h1; exact h1)
                    have HS9 : Hid (StrsIs w8 (.slice a8 m9 k8) rs7) := Lib.hid (by have h1 := HS8.out; rw [hm9] at h1; exact h1)
                    rw [hm9]
                    clear hm9 HA8 HS8
                    obtain ⟨rs, hrow, hlen, hcase⟩ := HO8.out
                    rcases hcase with ⟨rfl, hsyn, hpre⟩ | ⟨hf0, rfl, hrs7, hor⟩
                    · have HPRE := Lib.hid hpre
                      have HLR := Lib.hid hlen
                      have HSYN := Lib.hid hsyn
                      have HROW := Lib.hid hrow
                      clear hpre hlen hsyn
                      rcases hrow with ⟨hr0, hlv⟩ | ⟨g9, off9, c9, cur9, hlv, _, hnc, hcm, _⟩
                      · skip
                        as_aux_lemma =>
                          subst hlv
                          subst hr0
                          have HR0 : Hid (rs7 = []) := Lib.hid (List.prefix_nil.1 HPRE.out)
                          have HL9 : Hid (rs7.length ≤ 1000) := Lib.hid (by rw [HR0.out]; decide)
                          have HMZ : Hid (m9 = 0) := Lib.hid (by rw [← HM9.out, HR0.out]; rfl)
                          obtain rfl : syn2 = 0 := by have := HSYN.out; rw [HM9.out, HMZ.out] at this; omega
                          obtain rfl : m9 = 0 := HMZ.out
                          clear HO8 HO7
                          have cI := HNX.out w8 (Below.refl _ _)
                          go_wp2_with fail
                          refine cI.mono ?_
                          rintro e w9 ⟨rfl, rfl⟩
                          clear cI
                          have cS := same_c (.slice a8 0 k8) (.slice none 0 0) rs7 rs7 w8 HS9.out (Or.inl ⟨HR0.out, none, 0, rfl⟩) (by have := HL9.out; omega) (by have := HL9.out; omega) true ⟨fun _ => rfl, fun _ => rfl⟩
                          go_wp2_with fail
                          refine cS.mono ?_
                          rintro e w10 ⟨rfl, hb10⟩
                          have HB10 := Lib.hid hb10
                          clear hb10 cS
                          have cT := HNX.out w10 HB10.out
                          go_wp2_with fail
                          refine cT.mono ?_
                          rintro e w12 ⟨rfl, rfl⟩
                          clear cT
                          go_wp2
                          go_roundw
                          case rel => exact ⟨i + 1, img7, vb7, _, 0, ⟨#[]⟩, by omega, rfl, rfl, rfl, by first | rfl | go_num, rfl, by first | rfl | go_num, Or.inl ((HA9.out.below (HB10.out)).up (by omega)), HW8.out.trans ((HB10.out).mono HW8.out.size)⟩
                          case measure => simp [intOf]; omega
                      · skip
                        as_aux_lemma =>
                          subst hlv
                          obtain ⟨n9, hn9⟩ : ∃ n9, rs.length = n9 := ⟨_, rfl⟩
                          have HN9 := Lib.hid hn9
                          have hmn : m9 ≤ n9 := by have h1 := HPRE.out.length_le; rw [HM9.out, hn9] at h1; exact h1
                          have hmnz : (m9 : Int) ≤ (n9 : Int) := by omega
                          have hsz : (syn2 : Int) ≤ (m9 : Int) := by have := HSYN.out; rw [HM9.out] at this; omega
                          have hmin : min (m9 : Int) (n9 : Int) = (m9 : Int) := by omega
                          have hminn : min m9 n9 = m9 := by omega
                          rw [hn9] at hnc
                          have hmc : m9 ≤ c9 := by omega
                          have hmcz : (m9 : Int) ≤ (c9 : Int) := by omega
                          have hm0 : (0 : Int) ≤ (m9 : Int) := by omega
                          rw [hn9]
                          have HL9 : Hid (rs7.length ≤ 1000) := Lib.hid (by have h1 := HPRE.out.length_le; have h2 := HLR.out; omega)
                          have HSL : Hid (StrsIs w8 (.slice (some ⟨g9, off9, none⟩) m9 c9) rs7) := Lib.hid (by
                            rcases HROW.out with ⟨_, h1⟩ | ⟨g, off, cap, cur, h1, _, h2, h3, h4, h5, h6⟩
                            · cases h1
                            · injection h1 with e1 e2 e3
                              injection e1 with e1
                              injection e1 with e4 e5
                              subst e4 e5 e3
                              refine Or.inr ⟨_, _, _, lt_of_get h4, by rw [HM9.out], fun j s hj => ?_⟩
                              rw [cell_of_row w8 _ _ _ _ _ h4]
                              obtain ⟨t, ht⟩ := HPRE.out
                              exact h6 j s (by rw [← ht, List.getElem?_append_left (List.getElem?_eq_some_iff.1 hj).1]; exact hj))
                          clear HO8 HO7 hn9
                          have cI := HNX.out w8 (Below.refl _ _)
                          go_wp2_with fail
                          refine cI.mono ?_
                          rintro e w9 ⟨rfl, rfl⟩
                          clear cI
                          have cS := same_c (.slice a8 m9 k8) _ rs7 rs7 w8 HS9.out (HSL.out) (by have := HL9.out; omega) (by have := HL9.out; omega) true ⟨fun _ => rfl, fun _ => rfl⟩
                          go_wp2_with fail
                          refine cS.mono ?_
                          rintro e w10 ⟨rfl, hb10⟩
                          have HB10 := Lib.hid hb10
                          clear hb10 cS
                          have cT := HNX.out w10 HB10.out
                          go_wp2_with fail
                          refine cT.mono ?_
                          rintro e w12 ⟨rfl, rfl⟩
                          clear cT
                          go_wp2
                          go_roundw
                          case rel => exact ⟨i + 1, img7, vb7, _, m9, ⟨#[]⟩, by omega, rfl, rfl, rfl, by first | rfl | go_num, rfl, by first | rfl | go_num, Or.inl ((HA9.out.below (HB10.out)).up (by omega)), HW8.out.trans ((HB10.out).mono HW8.out.size)⟩
                          case measure => simp [intOf]; omega
                    · have HRS7 := Lib.hid hrs7
                      clear hlen hrow hrs7
                      by_cases himg : img7 = img2
                      · skip
                        as_aux_lemma =>
                          have hs1 : 0 < syn2 := by
                            rcases hor with h | h
                            · exact absurd himg h
                            · exact h
                          subst himg
                          have hfe := str_ne9 (s := img7) hf0
                          clear HO8 HO7 hf0 hor
                          have HMZ : Hid (m9 = 0) := Lib.hid (by rw [← HM9.out, HRS7.out]; rfl)
                          have hmz2 : ¬ (0 : Int) < (m9 : Int) := by have := HMZ.out; omega
                          have hmzd : decide ((0 : Int) < (m9 : Int)) = false := decide_eq_false hmz2
                          have hsz : ¬ (syn2 : Int) ≤ (m9 : Int) := by have := HMZ.out; omega
                          have hszd : decide ((syn2 : Int) ≤ (m9 : Int)) = false := decide_eq_false hsz
                          have cI := HNX.out w8 (Below.refl _ _)
                          go_wp2_with fail
                          refine cI.mono ?_
                          rintro e w9 ⟨rfl, rfl⟩
                          clear cI
                          have cI := HNX.out w8 (Below.refl _ _)
                          go_wp2_with fail
                          refine cI.mono ?_
                          rintro e w9 ⟨rfl, rfl⟩
                          clear cI
                          have cT := HNX.out w8 (Below.refl _ _)
                          go_wp2_with fail
                          refine cT.mono ?_
                          rintro e w12 ⟨rfl, rfl⟩
                          clear cT
                          go_wp2
                          go_roundw
                          case rel => exact ⟨i + 1, img7, vb7, _, m9, ⟨#[]⟩, by omega, rfl, rfl, rfl, by first | rfl | go_num, rfl, by first | rfl | go_num, Or.inl ((HA9.out.below (Below.refl _ _)).up (by omega)), HW8.out.trans ((Below.refl _ _).mono HW8.out.size)⟩
                          case measure => simp [intOf]; omega
                      · skip
                        as_aux_lemma =>
                          have hie := toList_ne himg
                          have hfe := str_ne9 (s := img7) hf0
                          clear HO8 HO7 hf0 hor
                          have HMZ : Hid (m9 = 0) := Lib.hid (by rw [← HM9.out, HRS7.out]; rfl)
                          have hmz2 : ¬ (0 : Int) < (m9 : Int) := by have := HMZ.out; omega
                          have hmzd : decide ((0 : Int) < (m9 : Int)) = false := decide_eq_false hmz2
                          have cI := HNX.out w8 (Below.refl _ _)
                          go_wp2_with fail
                          refine cI.mono ?_
                          rintro e w9 ⟨rfl, rfl⟩
                          clear cI
                          have cI := HNX.out w8 (Below.refl _ _)
                          go_wp2_with fail
                          refine cI.mono ?_
                          rintro e w9 ⟨rfl, rfl⟩
                          clear cI
                          have cT := HNX.out w8 (Below.refl _ _)
                          go_wp2_with fail
                          refine cT.mono ?_
                          rintro e w12 ⟨rfl, rfl⟩
                          clear cT
                          go_wp2
                          go_roundw
                          case rel => exact ⟨i + 1, img7, vb7, _, m9, ⟨#[]⟩, by omega, rfl, rfl, rfl, by first | rfl | go_num, rfl, by first | rfl | go_num, Or.inl ((HA9.out.below (Below.refl _ _)).up (by omega)), HW8.out.trans ((Below.refl _ _).mono HW8.out.size)⟩
                          case measure => simp [intOf]; omega
          · have hge : ¬ ((i : Int) < (L : Int)) := by omega
            go_wp2
            go_ret
            exact ⟨rfl, HB.out⟩
  · have HNF := Lib.hid hF
    clear hF
    go_enter Try.func5, Try.ntmps5
    go_wp2_with fail
    refine cA.mono ?_
    rintro e w1 ⟨rfl, hb1⟩
    have HB1 := Lib.hid hb1
    have cF := HFW.out false w1 ⟨fun h => (by cases h), fun h => absurd h HNF.out⟩ hb1
    clear cA hb1
    go_wp2_with fail
    refine cF.mono ?_
    rintro e w2 ⟨rfl, hw2⟩
    subst hw2
    clear cF
    have cA2 := awake8_c w1
    go_wp2_with fail
    refine cA2.mono ?_
    rintro e w3 ⟨rfl, hb3⟩
    have HB3 := Lib.hid (HB1.out.trans (hb3.mono HB1.out.size))
    clear cA2 hb3
    go_wp2
    go_ret
    exact ⟨rfl, HB3.out⟩
end Go.Proofs.Ytmpfdmjbgabcdaa
