/-
  The seventh reference's one: the record that stands at the beginning of frames.
-/
import Derived.Test.YtmpfdmjbgabcdaaSeKit
import Derived.Test.YtmpfdmjbgabcdaaBankMath
import Derived.Test.YtmpfdmjbgabcdaaR7Same
import Derived.Test.YtmpfdmjbgabcdaaR7Cut
namespace Go.Proofs.Ytmpfdmjbgabcdaa
open Go.RowKit Go.Sort
set_option linter.unusedVariables false

/-- Texts as bytes. -/
def bytesL (l : List ByteArray) : List (List UInt8) := l.map fun s => s.data.toList
theorem bytesL_all {l : List ByteArray} (h : ∀ x ∈ l, x.size = 64) : ∀ f ∈ bytesL l, f.length = 64 := by
  intro f hf
  obtain ⟨x, hx, rfl⟩ := List.mem_map.1 hf
  rw [Array.length_toList]
  exact h x hx
theorem gather_take_succ {l : List ByteArray} {i : Nat} {s : ByteArray} (h : l[i]? = some s) : gatherB (bytesL (l.take (i + 1))) = gatherB (bytesL (l.take i)) ++ s.data.toList.drop 2 := by
  rw [List.take_add_one, h]
  simp [bytesL, gatherB]
theorem says_num (A C : Nat) (hA : A < 256) (hC : C < 256) : wrap64 (A : Int) = A ∧ wrap64 (C : Int) = C ∧ wrap64 ((A : Int) * 256) = A * 256 ∧ wrap64 ((A : Int) * 256 + C) = ((A * 256 + C : Nat) : Int) ∧ A * 256 + C < 65536 := by
  unfold wrap64
  omega
theorem strs_of_owns {w : World} {base : Nat} {v : Value} {L : List (List UInt8)} (h : w.ownsRow base 9 1 v L.length (frV L)) : StrsIs w v (L.map fun f => ⟨f.toArray⟩) := by
  rcases h.2 with ⟨rfl, h0⟩ | ⟨g, cap, cur, rfl, hb, hg, h1, h2, h3, h4⟩
  · exact Or.inl ⟨by rw [List.length_eq_zero_iff.1 h0]; rfl, none, 0, rfl⟩
  · refine Or.inr ⟨g, 0, cap, (Array.getElem?_eq_some_iff.1 hg).1, by rw [List.length_map], fun j s hj => ?_⟩
    rw [Nat.zero_add, cell_of_row _ _ _ _ _ _ hg]
    rw [List.getElem?_map] at hj
    obtain ⟨f, hf, rfl⟩ := Option.map_eq_some_iff.1 hj
    have hjl := (List.getElem?_eq_some_iff.1 hf).1
    have h5 : (cur.toList.take (L.length * 1))[j]? = some (.string ⟨f.toArray⟩) := by rw [h4]; unfold frV; rw [List.getElem?_map, hf]; rfl
    rw [List.getElem?_take, if_pos (by omega)] at h5
    simpa using h5
def OnePost (l : List ByteArray) (w : World) (e : Ending) (w' : World) : Prop := e = .returned (.string ⟨(oneB (bytesL l)).toArray⟩) ∧ Below w.heap.size w w'
set_option maxHeartbeats 8000000 in
set_option maxRecDepth 100000 in
theorem one7_c (v : Value) (l : List ByteArray) (w : World) (hv : StrsIs w v l) (h0 : l ≠ []) (hl : ∀ x ∈ l, x.size = 64) (hn : l.length ≤ 2000) : Calls Try.prog 62 #[v] w (OnePost l w) := by
  unfold OnePost
  obtain ⟨a1, c1, rfl⟩ := hv.len
  obtain ⟨n, hN⟩ : ∃ n, l.length = n := ⟨_, rfl⟩
  have HU := Lib.hid hv
  have HN := Lib.hid hN
  have hnp : 0 < n := by rw [← hN]; exact List.length_pos_iff.2 h0
  rw [hN] at hv hn ⊢
  obtain ⟨x, hx⟩ : ∃ x, l[0]? = some x := ⟨_, List.getElem?_eq_getElem (by rw [hN]; exact hnp)⟩
  obtain ⟨g1, o1, rfl, hg1, k1⟩ := hv.at hx
  have hxs : x.size = 64 := hl x (List.mem_of_getElem? hx)
  have HX := Lib.hid hx
  have HXS := Lib.hid hxs
  have HL := Lib.hid hl
  clear hv hx hl hN
  have d1 : w.cell? ⟨g1, o1, none⟩ = some (.string x) := by simpa using k1
  have d2 : w.drew.cell? ⟨g1, o1, none⟩ = some (.string x) := d1
  have hz : (0 : Int) < (n : Int) := by omega
  go_enter Try.func62, Try.ntmps62
  go_wp2
  have hi0 : (0 : Int) < (x.size : Int) := by omega
  have hi1 : (1 : Int) < (x.size : Int) := by omega
  have hb0 : IntKind.i64.wrap (Go.PlainAid.bt x 0 * 256) = Go.PlainAid.bt x 0 * 256 := by have := Go.PlainAid.bt_nonneg x 0; have := Go.PlainAid.bt_le x 0; rw [IntKind.wrap_i64]; omega
  go_quiet (fail)
  have hx0 : x.data.toList.getD 0 0 = x[0]'(by omega) := by
    rw [List.getD_eq_getElem?_getD, List.getElem?_eq_getElem (by rw [Array.length_toList]; show 0 < x.size; omega)]; rfl
  have hx1 : x.data.toList.getD 1 0 = x[1]'(by omega) := by
    rw [List.getD_eq_getElem?_getD, List.getElem?_eq_getElem (by rw [Array.length_toList]; show 1 < x.size; omega)]; rfl
  have hsay : saysB x.data.toList = (x[0]'(by omega)).toNat * 256 + (x[1]'(by omega)).toNat := by unfold saysB; rw [hx0, hx1]
  have hlt0 := UInt8.toNat_lt (x[0]'(by omega))
  have hlt1 := UInt8.toNat_lt (x[1]'(by omega))
  clear hx0 hx1
  generalize (x[0]'(by omega)).toNat = A at *
  generalize (x[1]'(by omega)).toNat = C at *
  obtain ⟨K, hK⟩ : ∃ K : Nat, saysB x.data.toList = K := ⟨_, rfl⟩
  have hKv : K = A * 256 + C := hK.symm.trans hsay
  obtain ⟨hw1, hw2, hw3, hw4, hK6⟩ := says_num A C hlt0 hlt1
  rw [← hKv] at hw4 hK6
  rw [hw1, hw2, hw3, hw4]
  have HK := Lib.hid hK
  have HB0 : Hid (Below w.heap.size w (w.drewN nq)) := Lib.hid (Below.drewS (Below.refl _ _) nq)
  have HH : Hid (saysB ((bytesL l).headD []) = K) := Lib.hid (by
    have h1 := HX.out
    cases l with
    | nil => cases h1
    | cons y l => injection h1 with h2; subst h2; exact HK.out)
  clear hK hKv hsay hw1 hw2 hw3 hw4 hlt0 hlt1 hi0 hi1 hb0 d1 d2 k1
  generalize w.drewN nq = w0 at *
  by_cases hbig : 60000 < K
  · have hbz : (60000 : Int) < (K : Int) := by omega
    have HR : Hid (oneB (bytesL l) = []) := Lib.hid (by unfold oneB; rw [HH.out, if_pos (Or.inl hbig)])
    go_wp2
    go_ret
    exact ⟨by rw [HR.out]; rfl, HB0.out⟩
  · have hbz : ¬ ((60000 : Int) < (K : Int)) := by omega
    go_wp2
    go_loopw [5, 4] (fun iv av wr => ∃ (i : Nat) (G : ByteArray), i ≤ n ∧ iv = .int .i64 i ∧ G.data.toList = gatherB (bytesL (l.take i)) ∧ av = .string G ∧ Below w.heap.size w wr) (fun iv _ _ => n - (intOf iv).toNat)
    case atStart => exact ⟨0, ⟨#[]⟩, by omega, rfl, rfl, rfl, HB0.out⟩
    case round =>
      obtain ⟨i, G, hi, rfl, hg, rfl, hb⟩ := hrel
      have HG := Lib.hid hg
      have HB := Lib.hid hb
      have hsz : G.size = 62 * i := by
        show G.data.size = _
        rw [← Array.length_toList, hg, gatherB_length (fun f hf => bytesL_all HL.out f (by
          obtain ⟨y, hy, rfl⟩ := List.mem_map.1 hf
          exact List.mem_map.2 ⟨y, List.mem_of_mem_take hy, rfl⟩))]
        have h9 := HN.out
        simp [bytesL]
        omega
      have HSZ := Lib.hid hsz
      clear hg hb
      obtain ⟨q, hq⟩ : ∃ q, G.size = q := ⟨_, rfl⟩
      rw [hq] at hsz
      have HQ := Lib.hid hq
      by_cases hqK : q < K
      · have hqz : (q : Int) < (K : Int) := by omega
        by_cases hin : i < n
        · have hiz : (i : Int) < (n : Int) := by omega
          obtain ⟨y, hy⟩ : ∃ y, l[i]? = some y := ⟨_, List.getElem?_eq_getElem (by rw [HN.out]; exact hin)⟩
          have hu9 := HU.out.kept HB.out
          obtain ⟨g2, o2, e9, _, k2⟩ := hu9.at hy
          injection e9 with e9
          injection e9 with e91 e92
          subst e91 e92
          have d2 : wr.drew.cell? ⟨g1, o1 + i, none⟩ = some (.string y) := k2
          have hys : y.size = 64 := HL.out y (List.mem_of_getElem? hy)
          have HY := Lib.hid hy
          have HYS := Lib.hid hys
          have h2i : (2 : Int) ≤ (y.size : Int) := by omega
          clear hy hu9
          go_wp2
          go_roundw
          case rel =>
            refine ⟨i + 1, G ++ y.extract 2 64, by omega, by go_num, ?_, rfl, HB.out⟩
            rw [gather_take_succ HY.out, ← HG.out, ByteArray.data_append, Array.toList_append, ByteArray.data_extract, Array.toList_extract]
            show G.data.toList ++ (y.data.toList.drop 2).take (64 - 2) = _
            rw [List.take_of_length_le (by
              rw [List.length_drop, Array.length_toList]
              have h9 := HYS.out
              show y.size - 2 ≤ _
              omega)]
          case measure => simp [intOf]; omega
        · have hiz : ¬ ((i : Int) < (n : Int)) := by omega
          have HR : Hid (oneB (bytesL l) = []) := Lib.hid (by
            unfold oneB
            rw [HH.out, gatherB_length (bytesL_all HL.out), if_pos (Or.inr _)]
            have h1 := HSZ.out
            have h2 := HQ.out
            have h3 := HN.out
            show 62 * (bytesL l).length < K
            unfold bytesL
            rw [List.length_map]
            omega)
          go_wp2
          go_ret
          exact ⟨by rw [HR.out]; rfl, HB.out⟩
      · have hqz : ¬ ((q : Int) < (K : Int)) := by omega
        have hK0 : (0 : Int) ≤ (K : Int) := by omega
        have hKq : (K : Int) ≤ (q : Int) := by omega
        have HRR : Hid ((G.extract 0 K).data.toList = (gatherB (bytesL l)).take K) := Lib.hid (by
          rw [ByteArray.data_extract, Array.toList_extract]
          show (G.data.toList.drop 0).take (K - 0) = _
          rw [List.drop_zero, Nat.sub_zero, HG.out]
          have h1 : gatherB (bytesL l) = gatherB (bytesL (l.take i)) ++ gatherB (bytesL (l.drop i)) := by
            conv => lhs; rw [← List.take_append_drop i l]
            unfold bytesL gatherB
            rw [List.map_append, List.flatMap_append]
          have h2 : (gatherB (bytesL (l.take i))).length = q := by rw [← HG.out, Array.length_toList]; exact HQ.out
          rw [h1, List.take_append_of_le_length (by omega)])
        have HRS : Hid ((G.extract 0 K).size ≤ 65000) := Lib.hid (by
          show (G.extract 0 K).data.size ≤ _
          rw [← Array.length_toList, HRR.out, List.length_take]
          omega)
        have cC := fun W => cut7_c (G.extract 0 K) W HRS.out
        by_cases hin : (i : Int) < (n : Int)
        all_goals
          go_wp2_with fail
          refine (cC _).mono ?_
          rintro e w1 ⟨wv, rfl, hown, hb1⟩
          have hst := strs_of_owns hown
          have HBW : Hid (Below w.heap.size w w1) := Lib.hid (HB.out.trans (hb1.mono HB.out.size))
          clear hown hb1 cC
          rw [HRR.out] at hst
          generalize hGX : G.extract 0 K = GX at *
          have HGX := Lib.hid hGX
          clear hGX
          have HRL : Hid (((gatherB (bytesL l)).take K).length ≤ 62 * n) := Lib.hid (by
            rw [List.length_take, gatherB_length (bytesL_all HL.out)]
            unfold bytesL
            rw [List.length_map, HN.out]
            omega)
          have HON : Hid (oneB (bytesL l) = if cutB ((gatherB (bytesL l)).take K) <+: bytesL l then (gatherB (bytesL l)).take K else []) := Lib.hid (by
            conv => lhs; unfold oneB
            rw [HH.out, if_neg]
            rintro (h | h)
            · omega
            · have h1 := HSZ.out
              have h2 := HQ.out
              have h3 := HN.out
              rw [gatherB_length (bytesL_all HL.out)] at h
              unfold bytesL at h
              rw [List.length_map] at h
              omega)
          generalize (gatherB (bytesL l)).take K = R at *
          obtain ⟨M, hMd⟩ : ∃ M : List ByteArray, (cutB R).map (fun f => (⟨f.toArray⟩ : ByteArray)) = M := ⟨_, rfl⟩
          have HMB : Hid (bytesL M = cutB R) := Lib.hid (by rw [← hMd]; unfold bytesL; rw [List.map_map]; exact (List.map_congr_left fun f _ => by simp).trans (List.map_id _))
          rw [hMd] at hst
          clear hMd
          obtain ⟨a2, c2, rfl⟩ := hst.len
          obtain ⟨m, hm⟩ : ∃ m, M.length = m := ⟨_, rfl⟩
          have HM := Lib.hid hm
          have hmn : m ≤ n := by
            have h1 := congrArg List.length HMB.out
            rw [cutB_length] at h1
            unfold bytesL at h1
            rw [List.length_map] at h1
            have h2 := HRL.out
            omega
          have HST := Lib.hid hst
          rw [hm]
          clear hst hm
          go_wp2
          go_loopw [7] (fun jv wq => ∃ j : Nat, j ≤ m ∧ jv = .int .i64 j ∧ M.take j = l.take j ∧ Below w1.heap.size w1 wq) (fun jv _ => m - (intOf jv).toNat)
          case atStart => exact ⟨0, by omega, rfl, rfl, Below.refl _ _⟩
          case round =>
            obtain ⟨j, hj, rfl, ht, hbw⟩ := hrel
            have HT := Lib.hid ht
            have HBQ := Lib.hid hbw
            have HBA : Hid (Below w.heap.size w wr) := Lib.hid (HBW.out.trans (hbw.mono HBW.out.size))
            by_cases hjm : j < m
            · have hjz : (j : Int) < (m : Int) := by omega
              have hjn : (j : Int) < (n : Int) := by omega
              obtain ⟨x1, hx1⟩ : ∃ y, M[j]? = some y := ⟨_, List.getElem?_eq_getElem (by rw [HM.out]; exact hjm)⟩
              obtain ⟨y1, hy1⟩ : ∃ y, l[j]? = some y := ⟨_, List.getElem?_eq_getElem (by rw [HN.out]; omega)⟩
              have hu9 := HST.out.kept hbw
              have hv9 := HU.out.kept HBA.out
              obtain ⟨g3, o3, rfl, _, k1⟩ := hu9.at hx1
              obtain ⟨g2, o2, e9, _, k2⟩ := hv9.at hy1
              injection e9 with e9
              injection e9 with e91 e92
              subst e91 e92
              have d1 : wr.drew.cell? ⟨g3, o3 + j, none⟩ = some (.string x1) := k1
              have d2 : wr.drew.cell? ⟨g1, o1 + j, none⟩ = some (.string y1) := k2
              have HXL := Lib.hid hx1
              have HYL := Lib.hid hy1
              clear hu9 hv9 ht hbw hx1 hy1
              by_cases hxy : x1 = y1
              · subst hxy
                have HTN : Hid (M.take (j + 1) = l.take (j + 1)) := Lib.hid (by rw [List.take_add_one, List.take_add_one, HXL.out, HYL.out, HT.out])
                go_wp2
                go_quiet (fail)
                go_wp2
                go_roundw
                case rel => exact ⟨j + 1, by omega, by first | rfl | go_num, HTN.out, by first | exact HBQ.out | exact HBQ.out.drew | exact Below.drewS HBQ.out _⟩
                case measure => simp [intOf]; omega
              · have hne := toList_ne hxy
                have HR : Hid (oneB (bytesL l) = []) := Lib.hid (by
                  rw [HON.out, if_neg]
                  rw [← HMB.out]
                  rintro ⟨z, hz9⟩
                  have h1 : (bytesL M ++ z)[j]? = some x1.data.toList := by
                    rw [List.getElem?_append_left (by unfold bytesL; rw [List.length_map, HM.out]; exact hjm)]
                    unfold bytesL
                    rw [List.getElem?_map, HXL.out]
                    rfl
                  rw [hz9] at h1
                  unfold bytesL at h1
                  rw [List.getElem?_map, HYL.out] at h1
                  injection h1 with h1
                  apply hxy
                  cases x1; cases y1
                  congr 1
                  exact (Array.ext' h1).symm)
                clear hxy
                go_wp2
                go_quiet (fail)
                go_wp2
                go_ret
                exact ⟨by rw [HR.out]; rfl, by first | exact HBA.out | exact HBA.out.drew | exact Below.drewS HBA.out _⟩
            · have hge : ¬ ((j : Int) < (m : Int)) := by omega
              have HR : Hid ((⟨(oneB (bytesL l)).toArray⟩ : ByteArray) = GX) := Lib.hid (by
                rw [HON.out, if_pos, ← HRR.out]
                have h1 := HT.out
                rw [List.take_of_length_le (by rw [HM.out]; omega)] at h1
                rw [← HMB.out, h1]
                exact ⟨bytesL (l.drop j), by unfold bytesL; rw [← List.map_append, List.take_append_drop]⟩)
              clear ht hbw
              go_wp2
              go_ret
              exact ⟨by rw [HR.out, ← HGX.out]; rfl, HBA.out⟩
end Go.Proofs.Ytmpfdmjbgabcdaa
