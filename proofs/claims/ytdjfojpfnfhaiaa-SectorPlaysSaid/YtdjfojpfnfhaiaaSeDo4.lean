/-
  The reference's Do (stage 6): Put.
-/
import Derived.Test.YtdjfojpfnfhaiaaSeDo3
namespace Go.Proofs.Ytdjfojpfnfhaiaa
open Go.RowKit Go.Sort
set_option linter.unusedVariables false

theorem ats_snoc (l : List (Nat × ByteArray)) (k : Nat) (s : ByteArray) : ats (l ++ [(k, s)]) = ats l ++ [.int .i64 k] := by simp [ats]
theorem dats_snoc (l : List (Nat × ByteArray)) (k : Nat) (s : ByteArray) : dats (l ++ [(k, s)]) = dats l ++ [.string s] := by simp [dats]
theorem left_put {st : St} (k : Nat) (s : ByteArray) : leftI (putSt st k s) = if st.lim = true then leftI st - 1 else leftI st := by
  unfold leftI putSt
  cases h : st.lim <;> simp
set_option maxHeartbeats 8000000 in
set_option maxRecDepth 100000 in
theorem do_put (B r : Nat) (st : St) (X N : Int) (k : Nat) (s : ByteArray) (kv : Value) (w : World) (h : Ref B w r st) (hg : Good st) (hB : B ≤ w.heap.size) (hX0 : 0 ≤ X) (hX : X % 5 = 0) (hk : k < st.now.length) (hs : s.size = 64) (hpl : st.pend.length ≤ 1000) (hgo : goneB st = false) :
    Calls Try.prog 15 #[.pointer (some ⟨r, 0, none⟩), .agg #[.int .u8 X, .int .i64 (k : Int), .int .i64 N, .string s, kv]] w (DoPost B r (putSt st k s) ⟨#[]⟩ 0 w) := by
  unfold DoPost
  obtain ⟨vs, ve, va, vd, h⟩ := h
  have hXT : X.tmod 5 = 0 := by rw [Int.tmod_eq_emod_of_nonneg hX0]; exact hX
  have HR0 : Hid (RefL B (w.alloc (.cells #[.int .u8 X, .int .i64 (k : Int), .int .i64 N, .string s, kv] 32)) r vs ve va vd st.safe st.now (ats st.pend) (dats st.pend) (leftI st)) := Lib.hid (h.alloc _)
  have HB0 : Hid (Below B w (w.alloc (.cells #[.int .u8 X, .int .i64 (k : Int), .int .i64 N, .string s, kv] 32))) := Lib.hid ((Below.refl _ w).alloc hB _)
  have HO0 : Hid (Off refTs w (w.alloc (.cells #[.int .u8 X, .int .i64 (k : Int), .int .i64 N, .string s, kv] 32))) := Lib.hid ((Off.refl _ w).alloc _)
  have HT0 : Hid ((w.alloc (.cells #[.int .u8 X, .int .i64 (k : Int), .int .i64 N, .string s, kv] 32)).heap[w.heap.size]? = some (.cells #[.int .u8 X, .int .i64 (k : Int), .int .i64 N, .string s, kv] 32 (0, 0))) := Lib.hid (heap_alloc_new _ _)
  have HG := Lib.hid hg
  have hB0 := Lib.hid hB
  have HNW : Hid (w.heap.size = w.heap.size) := Lib.hid rfl
  have hln : (leftI st == 0) = false := by
    rw [beq_eq_false_iff_ne]
    intro e
    have := (left_gone HG.out).1 e
    rw [hgo] at this
    cases this
  obtain ⟨n, hn⟩ : ∃ n, st.now.length = n := ⟨_, rfl⟩
  have HN := Lib.hid hn
  obtain ⟨ge, cape, hve⟩ := h.nnil
  rw [hn] at hve hk
  subst hve
  have hkz : (k : Int) < (n : Int) := by omega
  have HK9 := Lib.hid hk
  have hlim : st.lim = true → 0 < leftI st := fun e => by
    have h1 := (left_ge hg).1
    have h2 : leftI st ≠ 0 := by simpa using hln
    unfold leftI at *
    rw [if_pos e] at *
    have := hg.left0 e
    omega
  have hlim2 : st.lim = false → ¬ (0 < leftI st) := fun e => by unfold leftI; rw [e]; simp
  have hwl : IntKind.i64.wrap (leftI st - 1) = leftI st - 1 := by
    have := left_ge hg
    rw [IntKind.wrap_i64]
    omega
  have HLIM := Lib.hid hlim
  have HLIM2 := Lib.hid hlim2
  have HPL := Lib.hid hpl
  have hpl9 : st.pend.length ≤ 1000 := hpl
  clear hn hk hlim hlim2 hpl
  clear h hg
  go_enter Try.func15, Try.ntmps15
  go_upto_region 1 with fail
  generalize hob : w.heap.size = ob at *
  have HOB := Lib.hid hob
  clear hob HNW
  generalize w.alloc (.cells #[.int .u8 X, .int .i64 (k : Int), .int .i64 N, .string s, kv] 32) = W0 at *
  have o0 : W0.cell? ⟨ob, 0, none⟩ = some (.int .u8 X) := by rw [cell_of_row W0 ob _ _ _ _ HT0.out]; rfl
  have o1 : W0.cell? ⟨ob, 1, none⟩ = some (.int .i64 (k : Int)) := by rw [cell_of_row W0 ob _ _ _ _ HT0.out]; rfl
  have o2 : W0.cell? ⟨ob, 2, none⟩ = some (.int .i64 N) := by rw [cell_of_row W0 ob _ _ _ _ HT0.out]; rfl
  have o3 : W0.cell? ⟨ob, 3, none⟩ = some (.string s) := by rw [cell_of_row W0 ob _ _ _ _ HT0.out]; rfl
  have o4 : W0.cell? ⟨ob, 4, none⟩ = some kv := by rw [cell_of_row W0 ob _ _ _ _ HT0.out]; rfl
  obtain ⟨c0, c1, c2, c3, c4⟩ := HR0.out.cells
  have e1 : W0.drew.cell? ⟨ob, 1, none⟩ = some (.int .i64 (k : Int)) := o1
  have e2 : W0.drew.cell? ⟨r, 1, none⟩ = some (.slice (some ⟨ge, 0, none⟩) n cape) := c1
  go_wp2
  go_quiet (fail)
  have HR1 := Lib.hid (HR0.out.drewN nq)
  have HT1 : Hid ((W0.drewN nq).heap[ob]? = some (.cells #[.int .u8 X, .int .i64 (k : Int), .int .i64 N, .string s, kv] 32 (0, 0))) := Lib.hid (((Off.refl [] W0).drewN nq) _ (by simp) _ _ _ HT0.out)
  have HB1 : Hid (Below B w (W0.drewN nq)) := Lib.hid (Below.drewM HB0.out nq)
  have HO1 : Hid (Off refTs w (W0.drewN nq)) := Lib.hid (HO0.out.drewN nq)
  clear e1 e2
  clear o0 o1 o2 o3 o4 c0 c1 c2 c3 c4 HR0 HB0 HO0 HT0
  generalize W0.drewN nq = W1 at *
  have o1 : W1.cell? ⟨ob, 1, none⟩ = some (.int .i64 (k : Int)) := by rw [cell_of_row W1 ob _ _ _ _ HT1.out]; rfl
  have o2 : W1.cell? ⟨ob, 2, none⟩ = some (.int .i64 N) := by rw [cell_of_row W1 ob _ _ _ _ HT1.out]; rfl
  have o3 : W1.cell? ⟨ob, 3, none⟩ = some (.string s) := by rw [cell_of_row W1 ob _ _ _ _ HT1.out]; rfl
  have o4 : W1.cell? ⟨ob, 4, none⟩ = some kv := by rw [cell_of_row W1 ob _ _ _ _ HT1.out]; rfl
  obtain ⟨c0, c1, c2, c3, c4⟩ := HR1.out.cells
  have HRO : Hid (ob ≠ r) := Lib.hid (block_ne HT1.out HR1.out.hd (by decide))
  cases hlb : st.lim
  · have hpos : ¬ (0 < leftI st) := by have := HLIM2.out hlb; omega
    have HR2 := HR1
    have HT2 := HT1
    have HB2 := HB1
    have HO2 := HO1
    go_upto_region 12 with fail
    clear HR1 HT1 HB1 HO1 o1 o2 o3 o4 c0 c1 c2 c3 c4
    generalize W1 = W2 at *
    obtain ⟨c0, c1, c2, c3, c4⟩ := HR2.out.cells
    have o1 : W2.cell? ⟨ob, 1, none⟩ = some (.int .i64 (k : Int)) := by rw [cell_of_row W2 ob _ _ _ _ HT2.out]; rfl
    have o3 : W2.cell? ⟨ob, 3, none⟩ = some (.string s) := by rw [cell_of_row W2 ob _ _ _ _ HT2.out]; rfl
    have sn := HR2.out.sn
    rw [HN.out] at sn
    obtain ⟨y, hy⟩ : ∃ y, st.now[k]? = some y := ⟨_, List.getElem?_eq_getElem (by rw [HN.out]; exact HK9.out)⟩
    have ce : W2.cell? ⟨ge, k, none⟩ = some (.string y) := (own_cell sn HK9.out).1.trans (strs_get hy)
    have fe : W2.frozen? ⟨ge, k, none⟩ = false := (own_cell sn HK9.out).2
    have h1 : r ≠ ge := fun e => HR2.out.ne.2.1 (by rw [e]; rfl)
    have h2 : ob ≠ ge := fun e => own_ne HR2.out.sn HT2.out (by decide) (by rw [e]; rfl)
    have HR3 : Hid (RefL B ((W2.setCell ⟨ge, k, none⟩ (.string s)).drew) r vs (.slice (some ⟨ge, 0, none⟩) n cape) va vd st.safe (st.now.set k s) (ats st.pend) (dats st.pend) (leftI st)) := Lib.hid (RefL.drew (RefL.seen HR2.out (cap := cape) (by rw [HN.out]) k s))
    have HB3 : Hid (Below B w ((W2.setCell ⟨ge, k, none⟩ (.string s)).drew)) := Lib.hid ((HB2.out.setCell (p := ⟨ge, k, none⟩) (sn.lt ge rfl).1 _).drew)
    obtain ⟨SC, ST, SF9, hS9, hST⟩ := own_type HR2.out.sn (j := ge) rfl (ex := [9]) (by simp)
    have HO3 : Hid (Off refTs w ((W2.setCell ⟨ge, k, none⟩ (.string s)).drew)) := Lib.hid ((HO2.out.setCell (b := ge) hS9 (by rw [List.mem_singleton.1 hST]; simp) _).drew)
    have HT3 : Hid (((W2.setCell ⟨ge, k, none⟩ (.string s)).drew).heap[ob]? = some (.cells #[.int .u8 X, .int .i64 (k : Int), .int .i64 N, .string s, kv] 32 (0, 0))) := Lib.hid (by
      show (W2.setCell ⟨ge, k, none⟩ (.string s)).heap[ob]? = _
      rw [heap_setCell_other _ ⟨ge, k, none⟩ ob _ h2]
      exact HT2.out)
    have HK : Hid (∀ W : World, (W.cell? ⟨r, 1, none⟩ = some (.slice (some ⟨ge, 0, none⟩) n cape) ∧ W.cell? ⟨ob, 1, none⟩ = some (.int .i64 (k : Int)) ∧ W.cell? ⟨ob, 3, none⟩ = some (.string s)) → ((W.setCell ⟨ge, k, none⟩ (.string s)).cell? ⟨r, 1, none⟩ = some (.slice (some ⟨ge, 0, none⟩) n cape) ∧ (W.setCell ⟨ge, k, none⟩ (.string s)).cell? ⟨ob, 1, none⟩ = some (.int .i64 (k : Int)) ∧ (W.setCell ⟨ge, k, none⟩ (.string s)).cell? ⟨ob, 3, none⟩ = some (.string s))) := Lib.hid (fun W hW =>
      ⟨by rw [World.cell?_setCell_other _ _ _ _ (fun e => h1 (by injection e with e1 _ _; exact e1.symm))]; exact hW.1, by rw [World.cell?_setCell_other _ _ _ _ (fun e => h2 (by injection e with e1 _ _; exact e1.symm))]; exact hW.2.1, by rw [World.cell?_setCell_other _ _ _ _ (fun e => h2 (by injection e with e1 _ _; exact e1.symm))]; exact hW.2.2⟩)
    clear sn hy hS9 hST
    go_region_held3 (fun w' => w'.cell? ⟨r, 1, none⟩ = some (.slice (some ⟨ge, 0, none⟩) n cape) ∧ w'.cell? ⟨ob, 1, none⟩ = some (.int .i64 (k : Int)) ∧ w'.cell? ⟨ob, 3, none⟩ = some (.string s)) (first | assumption | exact ⟨c1, o1, o3⟩ | exact HK.out _ (by assumption)) (fail)
    rename_i hHeld
    clear hHeld HK o1 o3 c0 c1 c2 c3 c4 ce fe h1 h2 HR2 HT2 HB2 HO2
    generalize (W2.setCell ⟨ge, k, none⟩ (.string s)).drew = W3 at *
    go_upto_region 13 with fail
    obtain ⟨i1, i1h, i1z0, i1z1, i1z2⟩ := info_parts Try.infoIntZ
    obtain ⟨c0, c1, c2, c3, c4⟩ := HR3.out.cells
    have o1 : W3.cell? ⟨ob, 1, none⟩ = some (.int .i64 (k : Int)) := by rw [cell_of_row W3 ob _ _ _ _ HT3.out]; rfl
    have o3 : W3.cell? ⟨ob, 3, none⟩ = some (.string s) := by rw [cell_of_row W3 ob _ _ _ _ HT3.out]; rfl
    have d1 : W3.drew.cell? ⟨r, 2, none⟩ = some va := c2
    have d2 : W3.drew.cell? ⟨ob, 1, none⟩ = some (.int .i64 (k : Int)) := o1
    have j1 : (W3.alloc (.cells #[.int .i64 (k : Int)] 3)).cell? ⟨r, 2, none⟩ = some va := by rw [World.cell?_alloc_lt _ _ _ (lt_of_get HR3.out.hd)]; exact c2
    have j2 : (W3.alloc (.cells #[.int .i64 (k : Int)] 3)).drew.cell? ⟨r, 2, none⟩ = some va := j1
    have HRAa := Lib.hid ((HR3.out.alloc (.cells #[.int .i64 (k : Int)] 3)).drew)
    have HBAa : Hid (Below B w ((W3.alloc (.cells #[.int .i64 (k : Int)] 3)).drew)) := Lib.hid (((HB3.out).alloc (Nat.le_trans (by rw [HOB.out]; exact hB0.out) HB3.out.size) _).drew)
    have HOAa : Hid (Off refTs w ((W3.alloc (.cells #[.int .i64 (k : Int)] 3)).drew)) := Lib.hid ((HO3.out.alloc _).drew)
    have HTAa : Hid (((W3.alloc (.cells #[.int .i64 (k : Int)] 3)).drew).heap[ob]? = some (.cells #[.int .u8 X, .int .i64 (k : Int), .int .i64 N, .string s, kv] 32 (0, 0))) := Lib.hid (((Off.refl [] W3).alloc _) _ (by simp) _ _ _ HT3.out)
    have HNAa : Hid (∀ j u, [(.int .i64 (k : Int) : Value)][j]? = some u → ((W3.alloc (.cells #[.int .i64 (k : Int)] 3)).drew).cell? ((⟨W3.heap.size, 0, none⟩ : Addr).add j) = some u) := Lib.hid (fun j u hu => by
      have := World.news_of_block (heap_alloc_new W3 (.cells #[.int .i64 (k : Int)] 3)) j u (by simpa using hu)
      exact this)
    have HBSa : Hid (B ≤ ((W3.alloc (.cells #[.int .i64 (k : Int)] 3)).drew).heap.size) := Lib.hid (Nat.le_trans (by rw [HOB.out]; exact hB0.out) HBAa.out.size)
    have hlxa : (ats st.pend).length ≤ 1000 := by rw [ats_len]; exact hpl9
    go_cut [77] from 67 to 77 (fun c wx => ∃ v5, RefL B wx r vs (.slice (some ⟨ge, 0, none⟩) n cape) v5 vd st.safe (st.now.set k s) (ats st.pend ++ [.int .i64 (k : Int)]) (dats st.pend) (leftI st) ∧ Below B w wx ∧ Off refTs w wx ∧ wx.heap[ob]? = some (.cells #[.int .u8 X, .int .i64 (k : Int), .int .i64 N, .string s, kv] 32 (0, 0)))
    case first =>
      go_region_law (first | (refine step_append_lies ((W3.alloc (.cells #[.int .i64 (k : Int)] 3)).drew) rfl _ _ 30 rfl B 3 i1 (.int .i64 0) 1 8 Try.underlying30 i1h i1z0 i1z1 i1z2 rfl (by decide) va (ats st.pend).length (ats st.pend) rfl HRAa.out.ta ⟨W3.heap.size, 0, none⟩ 1 1 [.int .i64 (k : Int)] rfl rfl HNAa.out (by intro u hu; obtain rfl := List.mem_singleton.1 hu; rfl) (by decide) (by unfold maxLen; omega) (by omega) HBSa.out _ rfl ?_; intro g9a cap9a w9a hown9a hgrow9a hat9a hlt9a; have hh9a := (hgrow9a.block r (lt_of_get HRAa.out.hd) (fun e => HRAa.out.ne.2.2.1 e.symm)).trans HRAa.out.hd; have q9a : w9a.cell? ⟨r, 2, none⟩ = some va := (by rw [cell_of_row w9a r _ _ _ _ hh9a]; rfl); have f9a : w9a.frozen? ⟨r, 2, none⟩ = false := frozen_of_row w9a r _ _ _ hh9a))
      all_goals
        have hena : (ats st.pend).length + 1 = ((ats st.pend) ++ [(.int .i64 (k : Int) : Value)]).length := by simp
        have HR5 : Hid (RefL B (w9a.setCell ⟨r, 2, none⟩ (.slice (some ⟨g9a, 0, none⟩) ((ats st.pend).length + 1) cap9a)) r vs (.slice (some ⟨ge, 0, none⟩) n cape) (.slice (some ⟨g9a, 0, none⟩) ((ats st.pend).length + 1) cap9a) vd st.safe (st.now.set k s) (ats st.pend ++ [.int .i64 (k : Int)]) (dats st.pend) (leftI st)) := Lib.hid (by
          have h8 := RefL.newAt HRAa.out (g := g9a) (cap := cap9a) (A' := (ats st.pend) ++ [.int .i64 (k : Int)]) hgrow9a (by rw [← hena]; exact hown9a)
          rw [← hena] at h8
          exact h8)
        have HB5 : Hid (Below B w (w9a.setCell ⟨r, 2, none⟩ (.slice (some ⟨g9a, 0, none⟩) ((ats st.pend).length + 1) cap9a))) := Lib.hid ((HBAa.out.grown hgrow9a HBSa.out (fun j hj => (HRAa.out.ta.lt j hj).1)).setCell (p := ⟨r, 2, none⟩) HRAa.out.hB _)
        have HO5 : Hid (Off refTs w (w9a.setCell ⟨r, 2, none⟩ (.slice (some ⟨g9a, 0, none⟩) ((ats st.pend).length + 1) cap9a))) := Lib.hid ((HOAa.out.grown hgrow9a (fun j hj => own_type HRAa.out.ta hj (by simp))).setCell hh9a (by simp) _)
        have HT5 : Hid ((w9a.setCell ⟨r, 2, none⟩ (.slice (some ⟨g9a, 0, none⟩) ((ats st.pend).length + 1) cap9a)).heap[ob]? = some (.cells #[.int .u8 X, .int .i64 (k : Int), .int .i64 N, .string s, kv] 32 (0, 0))) := Lib.hid (by
          rw [heap_setCell_other _ _ _ _ HRO.out, hgrow9a.block ob (lt_of_get HTAa.out) (fun e => own_ne HRAa.out.ta HTAa.out (by decide) e.symm)]
          exact HTAa.out)
        go_wp2
        go_meet
        exact ⟨_, HR5.out, HB5.out, HO5.out, HT5.out⟩
    case rest =>
      obtain ⟨va5, hr5, hb5, ho5, ht5⟩ := hcut
      have HR5 := Lib.hid hr5
      have HB5 := Lib.hid hb5
      have HO5 := Lib.hid ho5
      have HT5 := Lib.hid ht5
      clear hr5 hb5 ho5 ht5
      clear c0 c1 c2 c3 c4 o1 o3 d1 d2 j1 j2
      rename_i W5G
      obtain ⟨W5, hW5⟩ : ∃ W5 : World, W5 = wc := ⟨_, rfl⟩
      rw [← hW5] at HR5 HB5 HO5 HT5 ⊢
      clear hW5
      go_upto_region 14 with fail
      obtain ⟨i2, i2h, i2z0, i2z1, i2z2⟩ := info_parts Try.infoStrZ
      obtain ⟨c0, c1, c2, c3, c4⟩ := HR5.out.cells
      have o1 : W5.cell? ⟨ob, 1, none⟩ = some (.int .i64 (k : Int)) := by rw [cell_of_row W5 ob _ _ _ _ HT5.out]; rfl
      have o3 : W5.cell? ⟨ob, 3, none⟩ = some (.string s) := by rw [cell_of_row W5 ob _ _ _ _ HT5.out]; rfl
      have d1 : W5.drew.cell? ⟨r, 3, none⟩ = some vd := c3
      have d2 : W5.drew.cell? ⟨ob, 3, none⟩ = some (.string s) := o3
      have j1 : (W5.alloc (.cells #[.string s] 9)).cell? ⟨r, 3, none⟩ = some vd := by rw [World.cell?_alloc_lt _ _ _ (lt_of_get HR5.out.hd)]; exact c3
      have j2 : (W5.alloc (.cells #[.string s] 9)).drew.cell? ⟨r, 3, none⟩ = some vd := j1
      have HRAd := Lib.hid ((HR5.out.alloc (.cells #[.string s] 9)).drew)
      have HBAd : Hid (Below B w ((W5.alloc (.cells #[.string s] 9)).drew)) := Lib.hid (((HB5.out).alloc (Nat.le_trans (by rw [HOB.out]; exact hB0.out) HB5.out.size) _).drew)
      have HOAd : Hid (Off refTs w ((W5.alloc (.cells #[.string s] 9)).drew)) := Lib.hid ((HO5.out.alloc _).drew)
      have HTAd : Hid (((W5.alloc (.cells #[.string s] 9)).drew).heap[ob]? = some (.cells #[.int .u8 X, .int .i64 (k : Int), .int .i64 N, .string s, kv] 32 (0, 0))) := Lib.hid (((Off.refl [] W5).alloc _) _ (by simp) _ _ _ HT5.out)
      have HNAd : Hid (∀ j u, [(.string s : Value)][j]? = some u → ((W5.alloc (.cells #[.string s] 9)).drew).cell? ((⟨W5.heap.size, 0, none⟩ : Addr).add j) = some u) := Lib.hid (fun j u hu => by
        have := World.news_of_block (heap_alloc_new W5 (.cells #[.string s] 9)) j u (by simpa using hu)
        exact this)
      have HBSd : Hid (B ≤ ((W5.alloc (.cells #[.string s] 9)).drew).heap.size) := Lib.hid (Nat.le_trans (by rw [HOB.out]; exact hB0.out) HBAd.out.size)
      have hlxd : (dats st.pend).length ≤ 1000 := by rw [dats_len]; exact hpl9
      go_region_law (first | (refine step_append_lies ((W5.alloc (.cells #[.string s] 9)).drew) rfl _ _ 42 rfl B 9 i2 (.string ⟨#[]⟩) 1 16 Try.underlying42 i2h i2z0 i2z1 i2z2 rfl (by decide) vd (dats st.pend).length (dats st.pend) rfl HRAd.out.td ⟨W5.heap.size, 0, none⟩ 1 1 [.string s] rfl rfl HNAd.out (by intro u hu; obtain rfl := List.mem_singleton.1 hu; rfl) (by decide) (by unfold maxLen; omega) (by omega) HBSd.out _ rfl ?_; intro g9d cap9d w9d hown9d hgrow9d hat9d hlt9d; have hh9d := (hgrow9d.block r (lt_of_get HRAd.out.hd) (fun e => HRAd.out.ne.2.2.2 e.symm)).trans HRAd.out.hd; have q9d : w9d.cell? ⟨r, 3, none⟩ = some vd := (by rw [cell_of_row w9d r _ _ _ _ hh9d]; rfl); have f9d : w9d.frozen? ⟨r, 3, none⟩ = false := frozen_of_row w9d r _ _ _ hh9d))
      all_goals
        have hend : (dats st.pend).length + 1 = ((dats st.pend) ++ [(.string s : Value)]).length := by simp
        have HRF : Hid (RefL B (w9d.setCell ⟨r, 3, none⟩ (.slice (some ⟨g9d, 0, none⟩) ((dats st.pend).length + 1) cap9d)) r vs (.slice (some ⟨ge, 0, none⟩) n cape) va5 (.slice (some ⟨g9d, 0, none⟩) ((dats st.pend).length + 1) cap9d) st.safe (st.now.set k s) (ats st.pend ++ [.int .i64 (k : Int)]) (dats st.pend ++ [.string s]) (leftI st)) := Lib.hid (by
          have h8 := RefL.newData HRAd.out (g := g9d) (cap := cap9d) (D' := (dats st.pend) ++ [.string s]) hgrow9d (by rcases hat9d with h | h; exact Or.inl h; exact Or.inr (Nat.le_of_eq h.symm)) (by rw [← hend]; exact hown9d)
          rw [← hend] at h8
          exact h8)
        have HBF : Hid (Below B w (w9d.setCell ⟨r, 3, none⟩ (.slice (some ⟨g9d, 0, none⟩) ((dats st.pend).length + 1) cap9d))) := Lib.hid ((HBAd.out.grown hgrow9d HBSd.out (fun j hj => (HRAd.out.td.lt j hj).1)).setCell (p := ⟨r, 3, none⟩) HRAd.out.hB _)
        have HOF : Hid (Off refTs w (w9d.setCell ⟨r, 3, none⟩ (.slice (some ⟨g9d, 0, none⟩) ((dats st.pend).length + 1) cap9d))) := Lib.hid ((HOAd.out.grown hgrow9d (fun j hj => own_type HRAd.out.td hj (by simp))).setCell hh9d (by simp) _)
        have HTF : Hid ((w9d.setCell ⟨r, 3, none⟩ (.slice (some ⟨g9d, 0, none⟩) ((dats st.pend).length + 1) cap9d)).heap[ob]? = some (.cells #[.int .u8 X, .int .i64 (k : Int), .int .i64 N, .string s, kv] 32 (0, 0))) := Lib.hid (by
          rw [heap_setCell_other _ _ _ _ HRO.out, hgrow9d.block ob (lt_of_get HTAd.out) (fun e => own_ne HRAd.out.td HTAd.out (by decide) e.symm)]
          exact HTAd.out)
        go_wp2
        go_ret2
        refine ⟨rfl, ⟨vs, (.slice (some ⟨ge, 0, none⟩) n cape), va5, (.slice (some ⟨g9d, 0, none⟩) ((dats st.pend).length + 1) cap9d), ?_⟩, HBF.out, HOF.out⟩
        rw [left_put, hlb, show ats (putSt st k s).pend = ats st.pend ++ [.int .i64 (k : Int)] from ats_snoc st.pend k s, show dats (putSt st k s).pend = dats st.pend ++ [.string s] from dats_snoc st.pend k s]
        exact HRF.out
  · have hpos : 0 < leftI st := HLIM.out hlb
    have g4 := HR1.out.frozen 4
    have HR2 := Lib.hid (HR1.out.left (leftI st - 1))
    have HT2 : Hid ((W1.setCell ⟨r, 4, none⟩ (.int .i64 (leftI st - 1))).heap[ob]? = some (.cells #[.int .u8 X, .int .i64 (k : Int), .int .i64 N, .string s, kv] 32 (0, 0))) := Lib.hid (by rw [heap_setCell_other _ _ _ _ HRO.out]; exact HT1.out)
    have HB2 : Hid (Below B w (W1.setCell ⟨r, 4, none⟩ (.int .i64 (leftI st - 1)))) := Lib.hid (HB1.out.setCell (p := ⟨r, 4, none⟩) HR1.out.hB _)
    have HO2 : Hid (Off refTs w (W1.setCell ⟨r, 4, none⟩ (.int .i64 (leftI st - 1)))) := Lib.hid (HO1.out.setCell HR1.out.hd (by simp) _)
    go_upto_region 12 with fail
    clear HR1 HT1 HB1 HO1 o1 o2 o3 o4 c0 c1 c2 c3 c4 g4
    generalize (W1.setCell ⟨r, 4, none⟩ (.int .i64 (leftI st - 1))) = W2 at *
    obtain ⟨c0, c1, c2, c3, c4⟩ := HR2.out.cells
    have o1 : W2.cell? ⟨ob, 1, none⟩ = some (.int .i64 (k : Int)) := by rw [cell_of_row W2 ob _ _ _ _ HT2.out]; rfl
    have o3 : W2.cell? ⟨ob, 3, none⟩ = some (.string s) := by rw [cell_of_row W2 ob _ _ _ _ HT2.out]; rfl
    have sn := HR2.out.sn
    rw [HN.out] at sn
    obtain ⟨y, hy⟩ : ∃ y, st.now[k]? = some y := ⟨_, List.getElem?_eq_getElem (by rw [HN.out]; exact HK9.out)⟩
    have ce : W2.cell? ⟨ge, k, none⟩ = some (.string y) := (own_cell sn HK9.out).1.trans (strs_get hy)
    have fe : W2.frozen? ⟨ge, k, none⟩ = false := (own_cell sn HK9.out).2
    have h1 : r ≠ ge := fun e => HR2.out.ne.2.1 (by rw [e]; rfl)
    have h2 : ob ≠ ge := fun e => own_ne HR2.out.sn HT2.out (by decide) (by rw [e]; rfl)
    have HR3 : Hid (RefL B ((W2.setCell ⟨ge, k, none⟩ (.string s)).drew) r vs (.slice (some ⟨ge, 0, none⟩) n cape) va vd st.safe (st.now.set k s) (ats st.pend) (dats st.pend) (leftI st - 1)) := Lib.hid (RefL.drew (RefL.seen HR2.out (cap := cape) (by rw [HN.out]) k s))
    have HB3 : Hid (Below B w ((W2.setCell ⟨ge, k, none⟩ (.string s)).drew)) := Lib.hid ((HB2.out.setCell (p := ⟨ge, k, none⟩) (sn.lt ge rfl).1 _).drew)
    obtain ⟨SC, ST, SF9, hS9, hST⟩ := own_type HR2.out.sn (j := ge) rfl (ex := [9]) (by simp)
    have HO3 : Hid (Off refTs w ((W2.setCell ⟨ge, k, none⟩ (.string s)).drew)) := Lib.hid ((HO2.out.setCell (b := ge) hS9 (by rw [List.mem_singleton.1 hST]; simp) _).drew)
    have HT3 : Hid (((W2.setCell ⟨ge, k, none⟩ (.string s)).drew).heap[ob]? = some (.cells #[.int .u8 X, .int .i64 (k : Int), .int .i64 N, .string s, kv] 32 (0, 0))) := Lib.hid (by
      show (W2.setCell ⟨ge, k, none⟩ (.string s)).heap[ob]? = _
      rw [heap_setCell_other _ ⟨ge, k, none⟩ ob _ h2]
      exact HT2.out)
    have HK : Hid (∀ W : World, (W.cell? ⟨r, 1, none⟩ = some (.slice (some ⟨ge, 0, none⟩) n cape) ∧ W.cell? ⟨ob, 1, none⟩ = some (.int .i64 (k : Int)) ∧ W.cell? ⟨ob, 3, none⟩ = some (.string s)) → ((W.setCell ⟨ge, k, none⟩ (.string s)).cell? ⟨r, 1, none⟩ = some (.slice (some ⟨ge, 0, none⟩) n cape) ∧ (W.setCell ⟨ge, k, none⟩ (.string s)).cell? ⟨ob, 1, none⟩ = some (.int .i64 (k : Int)) ∧ (W.setCell ⟨ge, k, none⟩ (.string s)).cell? ⟨ob, 3, none⟩ = some (.string s))) := Lib.hid (fun W hW =>
      ⟨by rw [World.cell?_setCell_other _ _ _ _ (fun e => h1 (by injection e with e1 _ _; exact e1.symm))]; exact hW.1, by rw [World.cell?_setCell_other _ _ _ _ (fun e => h2 (by injection e with e1 _ _; exact e1.symm))]; exact hW.2.1, by rw [World.cell?_setCell_other _ _ _ _ (fun e => h2 (by injection e with e1 _ _; exact e1.symm))]; exact hW.2.2⟩)
    clear sn hy hS9 hST
    go_region_held3 (fun w' => w'.cell? ⟨r, 1, none⟩ = some (.slice (some ⟨ge, 0, none⟩) n cape) ∧ w'.cell? ⟨ob, 1, none⟩ = some (.int .i64 (k : Int)) ∧ w'.cell? ⟨ob, 3, none⟩ = some (.string s)) (first | assumption | exact ⟨c1, o1, o3⟩ | exact HK.out _ (by assumption)) (fail)
    rename_i hHeld
    clear hHeld HK o1 o3 c0 c1 c2 c3 c4 ce fe h1 h2 HR2 HT2 HB2 HO2
    generalize (W2.setCell ⟨ge, k, none⟩ (.string s)).drew = W3 at *
    go_upto_region 13 with fail
    obtain ⟨i1, i1h, i1z0, i1z1, i1z2⟩ := info_parts Try.infoIntZ
    obtain ⟨c0, c1, c2, c3, c4⟩ := HR3.out.cells
    have o1 : W3.cell? ⟨ob, 1, none⟩ = some (.int .i64 (k : Int)) := by rw [cell_of_row W3 ob _ _ _ _ HT3.out]; rfl
    have o3 : W3.cell? ⟨ob, 3, none⟩ = some (.string s) := by rw [cell_of_row W3 ob _ _ _ _ HT3.out]; rfl
    have d1 : W3.drew.cell? ⟨r, 2, none⟩ = some va := c2
    have d2 : W3.drew.cell? ⟨ob, 1, none⟩ = some (.int .i64 (k : Int)) := o1
    have j1 : (W3.alloc (.cells #[.int .i64 (k : Int)] 3)).cell? ⟨r, 2, none⟩ = some va := by rw [World.cell?_alloc_lt _ _ _ (lt_of_get HR3.out.hd)]; exact c2
    have j2 : (W3.alloc (.cells #[.int .i64 (k : Int)] 3)).drew.cell? ⟨r, 2, none⟩ = some va := j1
    have HRAa := Lib.hid ((HR3.out.alloc (.cells #[.int .i64 (k : Int)] 3)).drew)
    have HBAa : Hid (Below B w ((W3.alloc (.cells #[.int .i64 (k : Int)] 3)).drew)) := Lib.hid (((HB3.out).alloc (Nat.le_trans (by rw [HOB.out]; exact hB0.out) HB3.out.size) _).drew)
    have HOAa : Hid (Off refTs w ((W3.alloc (.cells #[.int .i64 (k : Int)] 3)).drew)) := Lib.hid ((HO3.out.alloc _).drew)
    have HTAa : Hid (((W3.alloc (.cells #[.int .i64 (k : Int)] 3)).drew).heap[ob]? = some (.cells #[.int .u8 X, .int .i64 (k : Int), .int .i64 N, .string s, kv] 32 (0, 0))) := Lib.hid (((Off.refl [] W3).alloc _) _ (by simp) _ _ _ HT3.out)
    have HNAa : Hid (∀ j u, [(.int .i64 (k : Int) : Value)][j]? = some u → ((W3.alloc (.cells #[.int .i64 (k : Int)] 3)).drew).cell? ((⟨W3.heap.size, 0, none⟩ : Addr).add j) = some u) := Lib.hid (fun j u hu => by
      have := World.news_of_block (heap_alloc_new W3 (.cells #[.int .i64 (k : Int)] 3)) j u (by simpa using hu)
      exact this)
    have HBSa : Hid (B ≤ ((W3.alloc (.cells #[.int .i64 (k : Int)] 3)).drew).heap.size) := Lib.hid (Nat.le_trans (by rw [HOB.out]; exact hB0.out) HBAa.out.size)
    have hlxa : (ats st.pend).length ≤ 1000 := by rw [ats_len]; exact hpl9
    go_cut [77] from 67 to 77 (fun c wx => ∃ v5, RefL B wx r vs (.slice (some ⟨ge, 0, none⟩) n cape) v5 vd st.safe (st.now.set k s) (ats st.pend ++ [.int .i64 (k : Int)]) (dats st.pend) (leftI st - 1) ∧ Below B w wx ∧ Off refTs w wx ∧ wx.heap[ob]? = some (.cells #[.int .u8 X, .int .i64 (k : Int), .int .i64 N, .string s, kv] 32 (0, 0)))
    case first =>
      go_region_law (first | (refine step_append_lies ((W3.alloc (.cells #[.int .i64 (k : Int)] 3)).drew) rfl _ _ 30 rfl B 3 i1 (.int .i64 0) 1 8 Try.underlying30 i1h i1z0 i1z1 i1z2 rfl (by decide) va (ats st.pend).length (ats st.pend) rfl HRAa.out.ta ⟨W3.heap.size, 0, none⟩ 1 1 [.int .i64 (k : Int)] rfl rfl HNAa.out (by intro u hu; obtain rfl := List.mem_singleton.1 hu; rfl) (by decide) (by unfold maxLen; omega) (by omega) HBSa.out _ rfl ?_; intro g9a cap9a w9a hown9a hgrow9a hat9a hlt9a; have hh9a := (hgrow9a.block r (lt_of_get HRAa.out.hd) (fun e => HRAa.out.ne.2.2.1 e.symm)).trans HRAa.out.hd; have q9a : w9a.cell? ⟨r, 2, none⟩ = some va := (by rw [cell_of_row w9a r _ _ _ _ hh9a]; rfl); have f9a : w9a.frozen? ⟨r, 2, none⟩ = false := frozen_of_row w9a r _ _ _ hh9a))
      all_goals
        have hena : (ats st.pend).length + 1 = ((ats st.pend) ++ [(.int .i64 (k : Int) : Value)]).length := by simp
        have HR5 : Hid (RefL B (w9a.setCell ⟨r, 2, none⟩ (.slice (some ⟨g9a, 0, none⟩) ((ats st.pend).length + 1) cap9a)) r vs (.slice (some ⟨ge, 0, none⟩) n cape) (.slice (some ⟨g9a, 0, none⟩) ((ats st.pend).length + 1) cap9a) vd st.safe (st.now.set k s) (ats st.pend ++ [.int .i64 (k : Int)]) (dats st.pend) (leftI st - 1)) := Lib.hid (by
          have h8 := RefL.newAt HRAa.out (g := g9a) (cap := cap9a) (A' := (ats st.pend) ++ [.int .i64 (k : Int)]) hgrow9a (by rw [← hena]; exact hown9a)
          rw [← hena] at h8
          exact h8)
        have HB5 : Hid (Below B w (w9a.setCell ⟨r, 2, none⟩ (.slice (some ⟨g9a, 0, none⟩) ((ats st.pend).length + 1) cap9a))) := Lib.hid ((HBAa.out.grown hgrow9a HBSa.out (fun j hj => (HRAa.out.ta.lt j hj).1)).setCell (p := ⟨r, 2, none⟩) HRAa.out.hB _)
        have HO5 : Hid (Off refTs w (w9a.setCell ⟨r, 2, none⟩ (.slice (some ⟨g9a, 0, none⟩) ((ats st.pend).length + 1) cap9a))) := Lib.hid ((HOAa.out.grown hgrow9a (fun j hj => own_type HRAa.out.ta hj (by simp))).setCell hh9a (by simp) _)
        have HT5 : Hid ((w9a.setCell ⟨r, 2, none⟩ (.slice (some ⟨g9a, 0, none⟩) ((ats st.pend).length + 1) cap9a)).heap[ob]? = some (.cells #[.int .u8 X, .int .i64 (k : Int), .int .i64 N, .string s, kv] 32 (0, 0))) := Lib.hid (by
          rw [heap_setCell_other _ _ _ _ HRO.out, hgrow9a.block ob (lt_of_get HTAa.out) (fun e => own_ne HRAa.out.ta HTAa.out (by decide) e.symm)]
          exact HTAa.out)
        go_wp2
        go_meet
        exact ⟨_, HR5.out, HB5.out, HO5.out, HT5.out⟩
    case rest =>
      obtain ⟨va5, hr5, hb5, ho5, ht5⟩ := hcut
      have HR5 := Lib.hid hr5
      have HB5 := Lib.hid hb5
      have HO5 := Lib.hid ho5
      have HT5 := Lib.hid ht5
      clear hr5 hb5 ho5 ht5
      clear c0 c1 c2 c3 c4 o1 o3 d1 d2 j1 j2
      rename_i W5G
      obtain ⟨W5, hW5⟩ : ∃ W5 : World, W5 = wc := ⟨_, rfl⟩
      rw [← hW5] at HR5 HB5 HO5 HT5 ⊢
      clear hW5
      go_upto_region 14 with fail
      obtain ⟨i2, i2h, i2z0, i2z1, i2z2⟩ := info_parts Try.infoStrZ
      obtain ⟨c0, c1, c2, c3, c4⟩ := HR5.out.cells
      have o1 : W5.cell? ⟨ob, 1, none⟩ = some (.int .i64 (k : Int)) := by rw [cell_of_row W5 ob _ _ _ _ HT5.out]; rfl
      have o3 : W5.cell? ⟨ob, 3, none⟩ = some (.string s) := by rw [cell_of_row W5 ob _ _ _ _ HT5.out]; rfl
      have d1 : W5.drew.cell? ⟨r, 3, none⟩ = some vd := c3
      have d2 : W5.drew.cell? ⟨ob, 3, none⟩ = some (.string s) := o3
      have j1 : (W5.alloc (.cells #[.string s] 9)).cell? ⟨r, 3, none⟩ = some vd := by rw [World.cell?_alloc_lt _ _ _ (lt_of_get HR5.out.hd)]; exact c3
      have j2 : (W5.alloc (.cells #[.string s] 9)).drew.cell? ⟨r, 3, none⟩ = some vd := j1
      have HRAd := Lib.hid ((HR5.out.alloc (.cells #[.string s] 9)).drew)
      have HBAd : Hid (Below B w ((W5.alloc (.cells #[.string s] 9)).drew)) := Lib.hid (((HB5.out).alloc (Nat.le_trans (by rw [HOB.out]; exact hB0.out) HB5.out.size) _).drew)
      have HOAd : Hid (Off refTs w ((W5.alloc (.cells #[.string s] 9)).drew)) := Lib.hid ((HO5.out.alloc _).drew)
      have HTAd : Hid (((W5.alloc (.cells #[.string s] 9)).drew).heap[ob]? = some (.cells #[.int .u8 X, .int .i64 (k : Int), .int .i64 N, .string s, kv] 32 (0, 0))) := Lib.hid (((Off.refl [] W5).alloc _) _ (by simp) _ _ _ HT5.out)
      have HNAd : Hid (∀ j u, [(.string s : Value)][j]? = some u → ((W5.alloc (.cells #[.string s] 9)).drew).cell? ((⟨W5.heap.size, 0, none⟩ : Addr).add j) = some u) := Lib.hid (fun j u hu => by
        have := World.news_of_block (heap_alloc_new W5 (.cells #[.string s] 9)) j u (by simpa using hu)
        exact this)
      have HBSd : Hid (B ≤ ((W5.alloc (.cells #[.string s] 9)).drew).heap.size) := Lib.hid (Nat.le_trans (by rw [HOB.out]; exact hB0.out) HBAd.out.size)
      have hlxd : (dats st.pend).length ≤ 1000 := by rw [dats_len]; exact hpl9
      go_region_law (first | (refine step_append_lies ((W5.alloc (.cells #[.string s] 9)).drew) rfl _ _ 42 rfl B 9 i2 (.string ⟨#[]⟩) 1 16 Try.underlying42 i2h i2z0 i2z1 i2z2 rfl (by decide) vd (dats st.pend).length (dats st.pend) rfl HRAd.out.td ⟨W5.heap.size, 0, none⟩ 1 1 [.string s] rfl rfl HNAd.out (by intro u hu; obtain rfl := List.mem_singleton.1 hu; rfl) (by decide) (by unfold maxLen; omega) (by omega) HBSd.out _ rfl ?_; intro g9d cap9d w9d hown9d hgrow9d hat9d hlt9d; have hh9d := (hgrow9d.block r (lt_of_get HRAd.out.hd) (fun e => HRAd.out.ne.2.2.2 e.symm)).trans HRAd.out.hd; have q9d : w9d.cell? ⟨r, 3, none⟩ = some vd := (by rw [cell_of_row w9d r _ _ _ _ hh9d]; rfl); have f9d : w9d.frozen? ⟨r, 3, none⟩ = false := frozen_of_row w9d r _ _ _ hh9d))
      all_goals
        have hend : (dats st.pend).length + 1 = ((dats st.pend) ++ [(.string s : Value)]).length := by simp
        have HRF : Hid (RefL B (w9d.setCell ⟨r, 3, none⟩ (.slice (some ⟨g9d, 0, none⟩) ((dats st.pend).length + 1) cap9d)) r vs (.slice (some ⟨ge, 0, none⟩) n cape) va5 (.slice (some ⟨g9d, 0, none⟩) ((dats st.pend).length + 1) cap9d) st.safe (st.now.set k s) (ats st.pend ++ [.int .i64 (k : Int)]) (dats st.pend ++ [.string s]) (leftI st - 1)) := Lib.hid (by
          have h8 := RefL.newData HRAd.out (g := g9d) (cap := cap9d) (D' := (dats st.pend) ++ [.string s]) hgrow9d (by rcases hat9d with h | h; exact Or.inl h; exact Or.inr (Nat.le_of_eq h.symm)) (by rw [← hend]; exact hown9d)
          rw [← hend] at h8
          exact h8)
        have HBF : Hid (Below B w (w9d.setCell ⟨r, 3, none⟩ (.slice (some ⟨g9d, 0, none⟩) ((dats st.pend).length + 1) cap9d))) := Lib.hid ((HBAd.out.grown hgrow9d HBSd.out (fun j hj => (HRAd.out.td.lt j hj).1)).setCell (p := ⟨r, 3, none⟩) HRAd.out.hB _)
        have HOF : Hid (Off refTs w (w9d.setCell ⟨r, 3, none⟩ (.slice (some ⟨g9d, 0, none⟩) ((dats st.pend).length + 1) cap9d))) := Lib.hid ((HOAd.out.grown hgrow9d (fun j hj => own_type HRAd.out.td hj (by simp))).setCell hh9d (by simp) _)
        have HTF : Hid ((w9d.setCell ⟨r, 3, none⟩ (.slice (some ⟨g9d, 0, none⟩) ((dats st.pend).length + 1) cap9d)).heap[ob]? = some (.cells #[.int .u8 X, .int .i64 (k : Int), .int .i64 N, .string s, kv] 32 (0, 0))) := Lib.hid (by
          rw [heap_setCell_other _ _ _ _ HRO.out, hgrow9d.block ob (lt_of_get HTAd.out) (fun e => own_ne HRAd.out.td HTAd.out (by decide) e.symm)]
          exact HTAd.out)
        go_wp2
        go_ret2
        refine ⟨rfl, ⟨vs, (.slice (some ⟨ge, 0, none⟩) n cape), va5, (.slice (some ⟨g9d, 0, none⟩) ((dats st.pend).length + 1) cap9d), ?_⟩, HBF.out, HOF.out⟩
        rw [left_put, hlb, show ats (putSt st k s).pend = ats st.pend ++ [.int .i64 (k : Int)] from ats_snoc st.pend k s, show dats (putSt st k s).pend = dats st.pend ++ [.string s] from dats_snoc st.pend k s]
        exact HRF.out
end Go.Proofs.Ytdjfojpfnfhaiaa
