/-
  The reference's Do (stage 6): Restart.
-/
import Derived.Test.YtdjfojpfnfhaiaaSeDo2
namespace Go.Proofs.Ytdjfojpfnfhaiaa
open Go.RowKit Go.Sort
set_option linter.unusedVariables false

theorem ats_len (l : List (Nat × ByteArray)) : (ats l).length = l.length := by simp [ats]
theorem dats_len (l : List (Nat × ByteArray)) : (dats l).length = l.length := by simp [dats]
theorem ats_get {l : List (Nat × ByteArray)} {i k : Nat} {s : ByteArray} (h : l[i]? = some (k, s)) : (ats l)[i]? = some (.int .i64 k) := by
  unfold ats
  rw [List.getElem?_map, h]
  rfl
theorem dats_get {l : List (Nat × ByteArray)} {i k : Nat} {s : ByteArray} (h : l[i]? = some (k, s)) : (dats l)[i]? = some (.string s) := by
  unfold dats
  rw [List.getElem?_map, h]
  rfl
theorem strs_get {l : List ByteArray} {i : Nat} {s : ByteArray} (h : l[i]? = some s) : (strs l)[i]? = some (.string s) := by
  unfold strs
  rw [List.getElem?_map, h]
  rfl
set_option maxHeartbeats 8000000 in
set_option maxRecDepth 100000 in
theorem do_restart (B r : Nat) (st : St) (X I N : Int) (s : ByteArray) (kv : Value) (w : World) (h : Ref B w r st) (hg : Good st) (hB : B ≤ w.heap.size) (hX0 : 0 ≤ X) (hX : X % 5 = 4) (w0 : World) (hw0 : w0.heap.size = B) (hbw : Below B w0 w) (l : List Int) (hkn : NumsIs w0 kv l) (hll : l.length ≤ 1000) (hpl : st.pend.length ≤ 1000) :
    Calls Try.prog 15 #[.pointer (some ⟨r, 0, none⟩), .agg #[.int .u8 X, .int .i64 I, .int .i64 N, .string s, kv]] w (DoPost B r (restartSt st l) ⟨#[]⟩ 0 w) := by
  unfold DoPost
  obtain ⟨vs, ve, va, vd, h⟩ := h
  have hXT : X.tmod 5 = 4 := by rw [Int.tmod_eq_emod_of_nonneg hX0]; exact hX
  have HR0 : Hid (RefL B (w.alloc (.cells #[.int .u8 X, .int .i64 I, .int .i64 N, .string s, kv] 32)) r vs ve va vd st.safe st.now (ats st.pend) (dats st.pend) (leftI st)) := Lib.hid (h.alloc _)
  have HB0 : Hid (Below B w (w.alloc (.cells #[.int .u8 X, .int .i64 I, .int .i64 N, .string s, kv] 32))) := Lib.hid ((Below.refl _ w).alloc hB _)
  have HO0 : Hid (Off refTs w (w.alloc (.cells #[.int .u8 X, .int .i64 I, .int .i64 N, .string s, kv] 32))) := Lib.hid ((Off.refl _ w).alloc _)
  have HT0 : Hid ((w.alloc (.cells #[.int .u8 X, .int .i64 I, .int .i64 N, .string s, kv] 32)).heap[w.heap.size]? = some (.cells #[.int .u8 X, .int .i64 I, .int .i64 N, .string s, kv] 32 (0, 0))) := Lib.hid (heap_alloc_new _ _)
  have HG := Lib.hid hg
  have hB0 := Lib.hid hB
  have HNW : Hid (w.heap.size = w.heap.size) := Lib.hid rfl
  obtain ⟨n, hn⟩ : ∃ n, st.now.length = n := ⟨_, rfl⟩
  have HN := Lib.hid hn
  obtain ⟨m, hm⟩ : ∃ m, st.pend.length = m := ⟨_, rfl⟩
  have HM := Lib.hid hm
  obtain ⟨aa, capa, hva, hna⟩ := own_form h.ta
  obtain ⟨ad, capd, hvd, hnd⟩ := own_form h.td
  obtain ⟨af, caps, hvs, hns⟩ := own_form h.sf
  rw [ats_len, hm] at hva hna
  rw [dats_len, hm] at hvd hnd
  rw [hg.same, hn] at hvs hns
  have HNA := Lib.hid hna
  have HND := Lib.hid hnd
  have HNS := Lib.hid hns
  subst hva hvd hvs
  rw [hm] at hpl
  obtain ⟨L, hL⟩ : ∃ L, l.length = L := ⟨_, rfl⟩
  have HLL := Lib.hid hL
  obtain ⟨ak, ck, hkv⟩ := hkn.len
  rw [hL] at hkv hll
  have HKV := Lib.hid hkv
  have HKN : Hid (∀ W, Below B w W → NumsIs W kv l) := Lib.hid (fun W hW => hkn.kept (by rw [hw0]; exact hbw.trans hW))
  obtain ⟨M, hMd⟩ : ∃ M, marks m l = M := ⟨_, rfl⟩
  have HMK : Hid (∀ i, i < m → M.getD i false = decide ((i : Int) ∈ l)) := Lib.hid (fun i hi => by rw [← hMd, List.getD_eq_getElem?_getD, marks_get m l i hi]; rfl)
  have HMD := Lib.hid hMd
  clear hn hm hL hkv hkn hbw hw0 hMd hna hnd hns
  clear h hg
  go_enter Try.func15, Try.ntmps15
  go_upto_region 1 with fail
  generalize hob : w.heap.size = ob at *
  have HOB := Lib.hid hob
  clear hob HNW
  generalize w.alloc (.cells #[.int .u8 X, .int .i64 I, .int .i64 N, .string s, kv] 32) = W0 at *
  have o0 : W0.cell? ⟨ob, 0, none⟩ = some (.int .u8 X) := by rw [cell_of_row W0 ob _ _ _ _ HT0.out]; rfl
  have o1 : W0.cell? ⟨ob, 1, none⟩ = some (.int .i64 I) := by rw [cell_of_row W0 ob _ _ _ _ HT0.out]; rfl
  have o2 : W0.cell? ⟨ob, 2, none⟩ = some (.int .i64 N) := by rw [cell_of_row W0 ob _ _ _ _ HT0.out]; rfl
  have o3 : W0.cell? ⟨ob, 3, none⟩ = some (.string s) := by rw [cell_of_row W0 ob _ _ _ _ HT0.out]; rfl
  have o4 : W0.cell? ⟨ob, 4, none⟩ = some kv := by rw [cell_of_row W0 ob _ _ _ _ HT0.out]; rfl
  obtain ⟨c0, c1, c2, c3, c4⟩ := HR0.out.cells
  go_wp2
  go_quiet (fail)
  have HR1 := Lib.hid (HR0.out.drewN nq)
  have HT1 : Hid ((W0.drewN nq).heap[ob]? = some (.cells #[.int .u8 X, .int .i64 I, .int .i64 N, .string s, kv] 32 (0, 0))) := Lib.hid (((Off.refl [] W0).drewN nq) _ (by simp) _ _ _ HT0.out)
  have HB1 : Hid (Below B w (W0.drewN nq)) := Lib.hid (Below.drewM HB0.out nq)
  have HO1 : Hid (Off refTs w (W0.drewN nq)) := Lib.hid (HO0.out.drewN nq)
  clear o0 o1 o2 o3 o4 c0 c1 c2 c3 c4 HR0 HB0 HO0 HT0
  generalize W0.drewN nq = W1 at *
  have o1 : W1.cell? ⟨ob, 1, none⟩ = some (.int .i64 I) := by rw [cell_of_row W1 ob _ _ _ _ HT1.out]; rfl
  have o2 : W1.cell? ⟨ob, 2, none⟩ = some (.int .i64 N) := by rw [cell_of_row W1 ob _ _ _ _ HT1.out]; rfl
  have o3 : W1.cell? ⟨ob, 3, none⟩ = some (.string s) := by rw [cell_of_row W1 ob _ _ _ _ HT1.out]; rfl
  have o4 : W1.cell? ⟨ob, 4, none⟩ = some kv := by rw [cell_of_row W1 ob _ _ _ _ HT1.out]; rfl
  obtain ⟨c0, c1, c2, c3, c4⟩ := HR1.out.cells
  clear o1 o2 o3 o4 c0 c1 c2 c3 c4
  go_wp2
  go_loopw [7] (fun iv wr => ∃ i : Nat, i ≤ m ∧ iv = .int .i64 i ∧ RefL B wr r (.slice af n caps) ve (.slice aa m capa) (.slice ad m capd) (applyKept M (st.pend.take i) st.safe) st.now (ats st.pend) (dats st.pend) (leftI st) ∧ wr.heap[ob]? = some (.cells #[.int .u8 X, .int .i64 I, .int .i64 N, .string s, kv] 32 (0, 0)) ∧ Below B w wr ∧ Off refTs w wr) (fun iv _ => m - (intOf iv).toNat)
  case atStart => exact ⟨0, by omega, rfl, HR1.out, HT1.out, HB1.out, HO1.out⟩
  case round =>
    obtain ⟨i, hi, rfl, hr, ht, hb, ho⟩ := hrel
    have HRi := Lib.hid hr
    have HTi := Lib.hid ht
    have HBi := Lib.hid hb
    have HOi := Lib.hid ho
    clear hr ht hb ho HR1 HT1 HB1 HO1
    obtain ⟨c0, c1, c2, c3, c4⟩ := HRi.out.cells
    have o4 : wr.cell? ⟨ob, 4, none⟩ = some (.slice ak L ck) := by rw [cell_of_row wr ob _ _ _ _ HTi.out, ← HKV.out]; rfl
    by_cases him : i < m
    · have hiz : (i : Int) < (m : Int) := by omega
      obtain ⟨p, hpj⟩ : ∃ p, st.pend[i]? = some p := ⟨_, List.getElem?_eq_getElem (by have := HM.out; omega)⟩
      rcases p with ⟨k, x⟩
      obtain ⟨hpk, hps⟩ := HG.out.pnd _ (List.mem_of_getElem? hpj)
      simp only at hpk hps
      have HPJ := Lib.hid hpj
      have HPK : Hid (k < n) := Lib.hid (by rw [← HN.out]; exact hpk)
      have HSN : Hid (applyKept M (st.pend.take (i + 1)) st.safe = if decide ((i : Int) ∈ l) = true then (applyKept M (st.pend.take i) st.safe).set k x else applyKept M (st.pend.take i) st.safe) := Lib.hid (by
        rw [take_snoc hpj, applyKept_snoc, List.length_take, Nat.min_eq_left (by have := HM.out; omega), HMK.out i him])
      clear hpj hpk hps
      go_wp2
      go_loopw [9, 8] (fun jv kb wx => ∃ j : Nat, j ≤ L ∧ jv = .int .i64 j ∧ kb = .bool (decide ((i : Int) ∈ l.take j)) ∧ wx = wr) (fun jv _ _ => L - (intOf jv).toNat)
      case atStart => exact ⟨0, by omega, rfl, by simp, rfl⟩
      case round =>
        obtain ⟨j, hj, rfl, rfl, rfl⟩ := hrel
        by_cases hjL : j < L
        · have hjz : (j : Int) < (L : Int) := by omega
          have hk9 := HKN.out wr HBi.out
          rw [HKV.out] at hk9
          obtain ⟨g, off, rfl, hg9, hy⟩ := hk9.at (j := j) (by rw [HLL.out]; exact hjL)
          have HT : Hid (l.take (j + 1) = l.take j ++ [l.getD j 0]) := Lib.hid (take_one (by rw [HLL.out]; exact hjL))
          clear hk9 hg9
          generalize l.getD j 0 = y at *
          generalize hkb : decide ((i : Int) ∈ l.take j) = kb
          have HKB := Lib.hid hkb
          clear hkb
          have HNX : Hid (decide ((i : Int) ∈ l.take (j + 1)) = (kb || (y == (i : Int)))) := Lib.hid (by
            rw [HT.out, ← HKB.out]
            by_cases e : (i : Int) ∈ l.take j
            · simp [e]
            · by_cases e2 : (i : Int) = y
              · subst e2; simp [e]
              · have e3 : ¬ (y = (i : Int)) := fun h => e2 h.symm
                simp [e, e2, e3])
          cases kb with
          | true =>
            go_wp2
            go_roundw
            case rel => exact ⟨j + 1, by omega, by first | rfl | go_num, by rw [HNX.out]; rfl, by first | rfl | trivial⟩
            case measure => simp [intOf]; omega
          | false =>
            go_wp2
            go_roundw
            case rel => exact ⟨j + 1, by omega, by first | rfl | go_num, by rw [HNX.out]; rfl, by first | rfl | trivial⟩
            case measure => simp [intOf]; omega
        · have hge : ¬ ((j : Int) < (L : Int)) := by omega
          rw [show l.take j = l from List.take_of_length_le (by rw [HLL.out]; omega)]
          generalize hkb : decide ((i : Int) ∈ l) = kb
          rw [hkb] at HSN
          clear hkb
          cases kb with
          | true =>
            obtain ⟨ga, rfl⟩ := HNA.out (by omega)
            obtain ⟨gd, rfl⟩ := HND.out (by omega)
            obtain ⟨gs, rfl⟩ := HNS.out (by have := HPK.out; omega)
            have hkz : (k : Int) < (n : Int) := by have := HPK.out; omega
            have ta := HRi.out.ta
            rw [ats_len, HM.out] at ta
            have td := HRi.out.td
            rw [dats_len, HM.out] at td
            have sf := HRi.out.sf
            rw [applyKept_len, HG.out.same, HN.out] at sf
            have ca : wr.cell? ⟨ga, i, none⟩ = some (.int .i64 k) := (own_cell ta him).1.trans (ats_get HPJ.out)
            have cd : wr.cell? ⟨gd, i, none⟩ = some (.string x) := (own_cell td him).1.trans (dats_get HPJ.out)
            obtain ⟨y, hy⟩ : ∃ y, (applyKept M (st.pend.take i) st.safe)[k]? = some y := ⟨_, List.getElem?_eq_getElem (by rw [applyKept_len, HG.out.same, HN.out]; exact HPK.out)⟩
            have cs : wr.cell? ⟨gs, k, none⟩ = some (.string y) := (own_cell sf HPK.out).1.trans (strs_get hy)
            have fs : wr.frozen? ⟨gs, k, none⟩ = false := (own_cell sf HPK.out).2
            have h1 : r ≠ gs := fun e => HRi.out.ne.1 (by rw [e]; rfl)
            have h2 : ga ≠ gs := fun e => own_types HRi.out.ta HRi.out.sf (by decide) ga rfl (by rw [e]; rfl)
            have h3 : gd ≠ gs := fun e => HRi.out.d2 gs rfl (by rw [← e]; rfl)
            have HRE : Hid (RefL B (wr.drew.setCell ⟨gs, k, none⟩ (.string x)) r (.slice (some ⟨gs, 0, none⟩) n caps) ve (.slice (some ⟨ga, 0, none⟩) m capa) (.slice (some ⟨gd, 0, none⟩) m capd) (applyKept M (st.pend.take (i + 1)) st.safe) st.now (ats st.pend) (dats st.pend) (leftI st)) := Lib.hid (by
              rw [HSN.out, if_pos rfl]
              exact RefL.safe HRi.out.drew (cap := caps) (by rw [applyKept_len, HG.out.same, HN.out]) k x)
            have HBE : Hid (Below B w (wr.drew.setCell ⟨gs, k, none⟩ (.string x))) := Lib.hid (HBi.out.drew.setCell (p := ⟨gs, k, none⟩) (sf.lt gs rfl).1 _)
            obtain ⟨SC, ST, SF9, hS9, _⟩ := own_type HRi.out.sf (j := gs) rfl (ex := [9]) (by simp)
            have HOE : Hid (Off refTs w (wr.drew.setCell ⟨gs, k, none⟩ (.string x))) := Lib.hid (HOi.out.drew.setCell (b := gs) hS9 (by rename_i h99; rw [List.mem_singleton.1 h99]; simp) _)
            have HTE : Hid ((wr.drew.setCell ⟨gs, k, none⟩ (.string x)).heap[ob]? = some (.cells #[.int .u8 X, .int .i64 I, .int .i64 N, .string s, kv] 32 (0, 0))) := Lib.hid (by
              rw [heap_setCell_other _ ⟨gs, k, none⟩ ob _ (fun e => own_ne HRi.out.sf HTi.out (by decide) (by rw [e]; rfl))]
              exact HTi.out)
            have HK : Hid (∀ W : World, (W.cell? ⟨r, 0, none⟩ = some (.slice (some ⟨gs, 0, none⟩) n caps) ∧ W.cell? ⟨r, 2, none⟩ = some (.slice (some ⟨ga, 0, none⟩) m capa) ∧ W.cell? ⟨r, 3, none⟩ = some (.slice (some ⟨gd, 0, none⟩) m capd) ∧ W.cell? ⟨ga, i, none⟩ = some (.int .i64 k) ∧ W.cell? ⟨gd, i, none⟩ = some (.string x)) → ((W.setCell ⟨gs, k, none⟩ (.string x)).cell? ⟨r, 0, none⟩ = some (.slice (some ⟨gs, 0, none⟩) n caps) ∧ (W.setCell ⟨gs, k, none⟩ (.string x)).cell? ⟨r, 2, none⟩ = some (.slice (some ⟨ga, 0, none⟩) m capa) ∧ (W.setCell ⟨gs, k, none⟩ (.string x)).cell? ⟨r, 3, none⟩ = some (.slice (some ⟨gd, 0, none⟩) m capd) ∧ (W.setCell ⟨gs, k, none⟩ (.string x)).cell? ⟨ga, i, none⟩ = some (.int .i64 k) ∧ (W.setCell ⟨gs, k, none⟩ (.string x)).cell? ⟨gd, i, none⟩ = some (.string x))) := Lib.hid (fun W hW =>
              ⟨by rw [World.cell?_setCell_other _ _ _ _ (fun e => h1 (by injection e with e1 _ _; exact e1.symm))]; exact hW.1, by rw [World.cell?_setCell_other _ _ _ _ (fun e => h1 (by injection e with e1 _ _; exact e1.symm))]; exact hW.2.1, by rw [World.cell?_setCell_other _ _ _ _ (fun e => h1 (by injection e with e1 _ _; exact e1.symm))]; exact hW.2.2.1, by rw [World.cell?_setCell_other _ _ _ _ (fun e => h2 (by injection e with e1 _ _; exact e1.symm))]; exact hW.2.2.2.1, by rw [World.cell?_setCell_other _ _ _ _ (fun e => h3 (by injection e with e1 _ _; exact e1.symm))]; exact hW.2.2.2.2⟩)
            clear ta td sf hy hS9
            go_upto_region 36 with fail
            go_region_held3 (fun w' => w'.cell? ⟨r, 0, none⟩ = some (.slice (some ⟨gs, 0, none⟩) n caps) ∧ w'.cell? ⟨r, 2, none⟩ = some (.slice (some ⟨ga, 0, none⟩) m capa) ∧ w'.cell? ⟨r, 3, none⟩ = some (.slice (some ⟨gd, 0, none⟩) m capd) ∧ w'.cell? ⟨ga, i, none⟩ = some (.int .i64 k) ∧ w'.cell? ⟨gd, i, none⟩ = some (.string x)) (first | assumption | exact ⟨c0, c2, c3, ca, cd⟩ | exact HK.out _ (by assumption)) (fail)
            rename_i hHeld
            clear hHeld HK c0 c2 c3 ca cd cs fs h1 h2 h3
            go_wp2
            go_roundw
            case rel => exact ⟨i + 1, by omega, by first | rfl | go_num, HRE.out, HTE.out, HBE.out, HOE.out⟩
            case measure => simp [intOf]; omega
          | false =>
            have HRE : Hid (RefL B wr r (.slice af n caps) ve (.slice aa m capa) (.slice ad m capd) (applyKept M (st.pend.take (i + 1)) st.safe) st.now (ats st.pend) (dats st.pend) (leftI st)) := Lib.hid (by
              rw [HSN.out, if_neg (by decide)]
              exact HRi.out)
            go_wp2
            go_roundw
            case rel => exact ⟨i + 1, by omega, by first | rfl | go_num, HRE.out, HTi.out, HBi.out, HOi.out⟩
            case measure => simp [intOf]; omega
    · have hge : ¬ ((i : Int) < (m : Int)) := by omega
      have hie : i = m := by omega
      subst hie
      obtain ⟨SF, hSF⟩ : ∃ SF, applyKept M st.pend st.safe = SF := ⟨_, rfl⟩
      have HSL : Hid (SF.length = n) := Lib.hid (by rw [← hSF, applyKept_len, HG.out.same, HN.out])
      have HSE : Hid (restartSt st l = ⟨SF, SF, [], false, 0⟩) := Lib.hid (by unfold restartSt; rw [HM.out, HMD.out, hSF])
      have HRS : Hid (RefL B wr r (.slice af n caps) ve (.slice aa i capa) (.slice ad i capd) SF st.now (ats st.pend) (dats st.pend) (leftI st)) := Lib.hid (by
        have h9 := HRi.out
        rw [List.take_of_length_le (by have := HM.out; omega), hSF] at h9
        exact h9)
      clear hSF
      have HLB : Hid (SF.length ≤ 100000) := Lib.hid (by rw [HSL.out, ← HN.out]; have := HG.out.few; omega)
      have HR2 := Lib.hid (HRS.out.alloc (.cells #[] 9))
      have HE2 : Hid ((wr.alloc (.cells #[] 9)).heap[wr.heap.size]? = some (.cells #[] 9 (0, 0))) := Lib.hid (heap_alloc_new _ _)
      have HB2 : Hid (Below B w (wr.alloc (.cells #[] 9))) := Lib.hid (HBi.out.alloc (Nat.le_trans (by rw [HOB.out]; exact hB0.out) HBi.out.size) _)
      have HO2 : Hid (Off refTs w (wr.alloc (.cells #[] 9))) := Lib.hid (HOi.out.alloc _)
      have HBW : Hid (B ≤ wr.heap.size) := Lib.hid (Nat.le_trans (by rw [HOB.out]; exact hB0.out) HBi.out.size)
      have hsz2 : (wr.alloc (.cells #[] 9)).heap.size = wr.heap.size + 1 := by simp
      have HSZ2 := Lib.hid hsz2
      clear hsz2
      have q0 := HR2.out.cells.1
      have q1 := HR2.out.cells.2.1
      go_wp2_with (
        at_builtin
        refine appendCopy rfl _ _ rfl wr.heap.size rfl HE2.out B B _ SF.length (strs SF) rfl HR2.out.sf (strs_one _) HLB.out HBW.out ?_
        intro g9 cap9 w9 hown9 hgrow9 hat9
        have hge9 : wr.heap.size ≤ g9 := by
          rcases hat9 with rfl | rfl
          · exact Nat.le_refl _
          · rw [HSZ2.out]; omega
        have hrr : w9.heap[r]? = (wr.alloc (.cells #[] 9)).heap[r]? := hgrow9.block r (lt_of_get HR2.out.hd) (fun e => by injection e with e; have := lt_of_get HRS.out.hd; omega)
        have hh9 := hrr.trans HR2.out.hd
        have HB9 : Hid (Below B w w9) := Lib.hid (HB2.out.grown hgrow9 (by rw [HSZ2.out]; have := HBW.out; omega) (fun k hk => by injection hk with hk; have := HBW.out; omega))
        have HO9 : Hid (Off refTs w w9) := Lib.hid (HO2.out.grown hgrow9 (fun k hk => by injection hk with hk; subst hk; exact ⟨_, _, _, HE2.out, by simp⟩))
        have k0 : w9.cell? ⟨r, 0, none⟩ = some (.slice af n caps) := by rw [cell_of_row w9 r _ _ _ _ hh9]; rfl
        have k1 : w9.cell? ⟨r, 1, none⟩ = some ve := by rw [cell_of_row w9 r _ _ _ _ hh9]; rfl
        have k2 : w9.cell? ⟨r, 2, none⟩ = some (.slice aa i capa) := by rw [cell_of_row w9 r _ _ _ _ hh9]; rfl
        have k3 : w9.cell? ⟨r, 3, none⟩ = some (.slice ad i capd) := by rw [cell_of_row w9 r _ _ _ _ hh9]; rfl
        have k4 : w9.cell? ⟨r, 4, none⟩ = some (.int .i64 (leftI st)) := by rw [cell_of_row w9 r _ _ _ _ hh9]; rfl
        have hfz : ∀ j, w9.frozen? ⟨r, j, none⟩ = false := fun j => frozen_of_row w9 r j _ _ hh9
        have HF : Hid (RefL B (w9.setCell ⟨r, 1, none⟩ (.slice (some ⟨g9, 0, none⟩) SF.length cap9)) r (.slice af n caps) (.slice (some ⟨g9, 0, none⟩) SF.length cap9) (.slice aa i capa) (.slice ad i capd) SF SF (ats st.pend) (dats st.pend) (leftI st)) := Lib.hid (by
          have h8 := RefL.copySeen HRS.out HR2.out (g := g9) (cap := cap9) (Nat.le_refl _) hgrow9 hge9 hown9
          exact h8)
        have HFE : Hid (RefL B (((((w9.setCell ⟨r, 1, none⟩ (.slice (some ⟨g9, 0, none⟩) SF.length cap9)).setCell ⟨r, 2, none⟩ (.slice none 0 0)).setCell ⟨r, 3, none⟩ (.slice none 0 0))).setCell ⟨r, 4, none⟩ (.int .i64 (-1))) r (.slice af n caps) (.slice (some ⟨g9, 0, none⟩) SF.length cap9) (.slice none 0 0) (.slice none 0 0) SF SF [] [] (-1)) := Lib.hid (HF.out.noAt.noData.left (-1))
        have HBE : Hid (Below B w (((((w9.setCell ⟨r, 1, none⟩ (.slice (some ⟨g9, 0, none⟩) SF.length cap9)).setCell ⟨r, 2, none⟩ (.slice none 0 0)).setCell ⟨r, 3, none⟩ (.slice none 0 0))).setCell ⟨r, 4, none⟩ (.int .i64 (-1)))) := Lib.hid ((((HB9.out.setCell (p := ⟨r, 1, none⟩) HF.out.hB _).setCell (p := ⟨r, 2, none⟩) HF.out.hB _).setCell (p := ⟨r, 3, none⟩) HF.out.hB _).setCell (p := ⟨r, 4, none⟩) HF.out.hB _)
        have HOE : Hid (Off refTs w (((((w9.setCell ⟨r, 1, none⟩ (.slice (some ⟨g9, 0, none⟩) SF.length cap9)).setCell ⟨r, 2, none⟩ (.slice none 0 0)).setCell ⟨r, 3, none⟩ (.slice none 0 0))).setCell ⟨r, 4, none⟩ (.int .i64 (-1)))) := Lib.hid (Off.setCell (Off.setCell (Off.setCell (HO9.out.setCell hh9 (by simp) _) HF.out.hd (by simp) _) HF.out.noAt.hd (by simp) _) HF.out.noAt.noData.hd (by simp) _)
        clear hown9 hgrow9 hat9 hge9 hrr hh9)
      go_ret2
      exact ⟨rfl, ⟨_, _, _, _, by rw [HSE.out]; exact HFE.out⟩, HBE.out, HOE.out⟩
end Go.Proofs.Ytdjfojpfnfhaiaa
