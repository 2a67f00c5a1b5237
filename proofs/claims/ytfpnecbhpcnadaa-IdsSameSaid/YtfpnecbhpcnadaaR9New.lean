/-
  The reference's pool: made, and with one out or not.
-/
import Derived.Test.YtfpnecbhpcnadaaIdPool2
import Derived.Deep.MidRow
namespace Go.Proofs.Ytfpnecbhpcnadaa
open Go.RowKit Go.Sort
set_option linter.unusedVariables false

/-- Which are out of these numbers. -/
def mkF (m : Nat) (M : List Bool) (x : Int) : List Bool := if 1 ≤ x ∧ x ≤ (m : Int) then M.set x.toNat true else M
def mkRow (m : Nat) (l : List Int) : List Bool := l.foldl (mkF m) (List.replicate 201 false)
theorem mkRow_snoc (m : Nat) (l : List Int) (x : Int) : mkRow m (l ++ [x]) = if 1 ≤ x ∧ x ≤ (m : Int) then (mkRow m l).set x.toNat true else mkRow m l := by
  unfold mkRow
  rw [List.foldl_append]
  rfl
theorem mkF_len (m : Nat) (M : List Bool) (x : Int) : (mkF m M x).length = M.length := by
  unfold mkF
  split
  · rw [List.length_set]
  · rfl
theorem mkFs_len (m : Nat) : ∀ (l : List Int) (M : List Bool), (l.foldl (mkF m) M).length = M.length
  | [], M => rfl
  | x :: l, M => (mkFs_len m l (mkF m M x)).trans (mkF_len m M x)
theorem mkRow_len (m : Nat) (l : List Int) : (mkRow m l).length = 201 := by
  unfold mkRow
  rw [mkFs_len, List.length_replicate]
def mostN (x : Int) : Nat := (min (max x 0) 200).toNat
def zPool : Array Value := (poolC 0 (List.replicate 201 false)).toArray
theorem zPool_size : zPool.size = 202 := by rw [zPool, List.size_toArray, poolC_length, List.length_replicate]
theorem zero_pool (W : World) : (zeroValue 28).run Try.prog W = .ok (.agg zPool) W := (zero_of_info (P := Try.prog) (t := 28) (v := .agg zPool) (n := 202) (by kernel_rfl)).1 W
theorem Try.infoPoolS : (Try.prog.info? 28).map (·.size) = some 202 := (zero_of_info (P := Try.prog) (t := 28) (v := .agg zPool) (n := 202) (by kernel_rfl)).2
theorem poolC_one (m : Nat) (l : List Bool) : ∀ v ∈ poolC m l, v.oneCell' = true := fun v hv => by
  rcases List.mem_cons.1 hv with rfl | hv
  · rfl
  · obtain ⟨x, _, rfl⟩ := List.mem_map.1 hv
    rfl
theorem PoolAt.load {W : World} {b m : Nat} {l : List Bool} (h : PoolAt W b m l) (hl : l.length = 201) : (Instr.loadAt 28 (.pointer (some ⟨b, 0, none⟩))).run Try.prog W = .ok (.agg (poolC m l).toArray) W :=
  run_loadAt_mid (P := Try.prog) W b 0 _ (poolC m l) _ (fun j v hv => by
    rw [Nat.zero_add, cell_of_row _ _ _ _ _ _ h, List.getElem?_toArray]
    exact hv) Try.underlying28 rfl (by rw [poolC_length, hl]; exact Try.infoPoolS)
/-- A pool stored over 202 cells. -/
theorem pool_store {W : World} {b m : Nat} {C : List Value} {l : List Bool} (hb : W.heap[b]? = some (.cells C.toArray 28 (0, 0))) (hC : C.length = 202) (hl : l.length = 201) :
    (storeCells ⟨b, 0, none⟩ (poolC m l)).run Try.prog W = .ok () (W.setCells b 0 (poolC m l)) ∧ PoolAt (W.setCells b 0 (poolC m l)) b m l := by
  have hn : (poolC m l).length = 202 := by rw [poolC_length, hl]
  constructor
  · have ht := there_of_block hb 0 202 (by rw [List.size_toArray, hC]; omega)
    have := run_storeCells_cells (P := Try.prog) b 0 (poolC m l) 0 W (fun j hj => by simpa using (ht j (by omega)).1) (fun j hj => by simpa using (ht j (by omega)).2) (poolC_one m l)
    exact this
  · unfold PoolAt
    rw [heap_setCells_at b _ (poolC m l) 0 W C hb (by omega)]
    rw [List.take_zero, List.nil_append, Nat.zero_add, List.drop_of_length_le (by omega), List.append_nil]
theorem PoolAt.set {W : World} {b m : Nat} {l : List Bool} (h : PoolAt W b m l) (j : Nat) (x : Bool) : PoolAt (W.setCell ⟨b, 1 + j, none⟩ (.bool x)) b m (l.set j x) := by
  unfold PoolAt
  rw [heap_setCell_same W b (1 + j) _ _ _ h]
  congr 3
  unfold poolC
  rw [List.map_set]
  apply Array.ext'
  rw [Array.toList_setIfInBounds, List.toList_toArray, List.toList_toArray, Nat.add_comm 1 j, List.set_cons_succ]

set_option maxHeartbeats 2000000 in
set_option maxRecDepth 100000 in
theorem set9_c (m : Nat) (l : List Bool) (n : Nat) (t : Bool) (w : World) (hl : l.length = 201) (hn2 : n ≤ 200) :
    Calls Try.prog 9 #[.agg (poolC m l).toArray, .int .i64 (n : Int), .bool t] w fun e w' => e = .returned (.agg (poolC m (l.set n t)).toArray) ∧ Below w.heap.size w w' := by
  have hzw := zero_pool
  have s1 : (w.alloc (.cells (poolC m l).toArray 28)).heap.size = w.heap.size + 1 := by simp
  have HP : Hid (PoolAt ((w.alloc (.cells (poolC m l).toArray 28)).alloc (.cells zPool 28)) w.heap.size m l) := Lib.hid (by
    unfold PoolAt
    rw [Below.heap_alloc _ _ _ (by rw [s1]; omega)]
    exact heap_alloc_new _ _)
  have HZ : Hid (((w.alloc (.cells (poolC m l).toArray 28)).alloc (.cells zPool 28)).heap[w.heap.size + 1]? = some (.cells zPool 28 (0, 0))) := Lib.hid (by
    rw [← s1]
    exact heap_alloc_new _ _)
  have HB : Hid (Below w.heap.size w ((w.alloc (.cells (poolC m l).toArray 28)).alloc (.cells zPool 28))) := Lib.hid (((Below.refl _ w).alloc (Nat.le_refl _) _).alloc (by rw [s1]; omega) _)
  have HL := Lib.hid hl
  generalize hb1 : w.heap.size = b1 at *
  clear hl
  go_enter Try.func9, Try.ntmps9
  go_upto_region 1 with fail
  generalize (w.alloc (.cells (poolC m l).toArray 28)).alloc (.cells zPool 28) = W2 at *
  obtain ⟨x, hx⟩ : ∃ x, l[n]? = some x := ⟨_, List.getElem?_eq_getElem (by rw [HL.out]; omega)⟩
  have c0 := HP.out.at hx
  have f0 : W2.frozen? ⟨b1, 1 + n, none⟩ = false := Lib.frozen_of_heap HP.out _
  have hn201 : (n : Int) < 201 := by omega
  have H3 := Lib.hid (HP.out.set n t)
  have HZ3 : Hid ((W2.setCell ⟨b1, 1 + n, none⟩ (.bool t)).heap[b1 + 1]? = some (.cells zPool 28 (0, 0))) := Lib.hid (by
    rw [Below.heap_setCell _ _ _ _ (by show b1 + 1 ≠ b1; omega)]
    exact HZ.out)
  have HB3 : Hid (Below b1 w (W2.setCell ⟨b1, 1 + n, none⟩ (.bool t))) := Lib.hid (HB.out.setCell (p := ⟨b1, 1 + n, none⟩) (Nat.le_refl _) _)
  clear hx HP HZ HB
  go_upto_region 2 with fail
  generalize W2.setCell ⟨b1, 1 + n, none⟩ (.bool t) = W3 at *
  have HL3 : Hid ((l.set n t).length = 201) := Lib.hid (by rw [List.length_set]; exact HL.out)
  generalize hE : l.set n t = l3 at *
  have HE := Lib.hid hE
  clear hE
  have hld := H3.out.load HL3.out
  obtain ⟨hst, hp4⟩ := pool_store (m := m) (l := l3) (C := zPool.toList) (by rw [Array.toArray_toList]; exact HZ3.out) (by rw [Array.length_toList]; exact zPool_size) HL3.out
  have HP4 := Lib.hid hp4
  have HB4 : Hid (Below b1 w (W3.setCells (b1 + 1) 0 (poolC m l3))) := Lib.hid (Below.setCells HB3.out (by omega) _ _)
  have HLD := Lib.hid hld
  have hlen3 : (poolC m l3).length = 202 := by rw [poolC_length, HL3.out]
  clear hp4 c0 f0 hld
  go_wp2_with (((with_reducible refine wpL_load 28 _ (.pointer (some ⟨b1, 0, none⟩)) (.agg (poolC m l3).toArray) ?_ ?_ ?_); exact rfl; exact HLD.out))
  refine bodyPost_ret (results_cell_row Try.results9 _ _ _ _ _ _ _ rfl HP4.out Try.underlying28 rfl (by rw [List.size_toArray, poolC_length, HL3.out]; exact Try.infoPoolS)) rfl ⟨by rw [HE.out], HB4.out⟩

theorem most_cases (x : Int) : (x ≤ 0 ∧ mostN x = 0) ∨ (200 ≤ x ∧ mostN x = 200) ∨ (0 < x ∧ x < 200 ∧ (mostN x : Int) = x) := by
  unfold mostN
  omega
theorem mostN_le (x : Int) : mostN x ≤ 200 := by
  unfold mostN
  omega
theorem takeN_one {l : List Int} {k : Nat} (h : k < l.length) : l.take (k + 1) = l.take k ++ [l.getD k 0] := by
  rw [List.take_add_one]
  simp [List.getD_eq_getElem?_getD, List.getElem?_eq_getElem h]
set_option maxHeartbeats 4000000 in
set_option maxRecDepth 100000 in
theorem new9_c (most : Int) (v : Value) (l : List Int) (w : World) (hv : NumsIs w v l) (hl : l.length ≤ 300) :
    Calls Try.prog 7 #[.int .i64 most, v] w fun e w' => e = .returned (.agg (poolC (mostN most) (mkRow (mostN most) l)).toArray) ∧ Below w.heap.size w w' := by
  have hzw := zero_pool
  have hzs := zPool_size
  have HMC : Hid (max (min most 200) 0 = (mostN most : Int)) := Lib.hid (by rcases most_cases most with h | h | h <;> omega)
  have hmn := mostN_le most
  obtain ⟨M, hM⟩ : ∃ M, mostN most = M := ⟨_, rfl⟩
  rw [hM] at hmn HMC ⊢
  have s1 : (w.alloc (.cells zPool 28)).heap.size = w.heap.size + 1 := by simp
  have hnew : zPool.setIfInBounds 0 (.int .i64 (max (min most 200) 0)) = (poolC M (mkRow M [])).toArray := by
    rw [HMC.out]
    apply Array.ext'
    rw [Array.toList_setIfInBounds]
    rfl
  have hst : (storeCells ⟨w.heap.size + 1, 0, none⟩ (zPool.toList.set 0 (.int .i64 (max (min most 200) 0)))).run Try.prog ((w.alloc (.cells zPool 28)).alloc (.cells zPool 28)) = .ok () ((w.alloc (.cells zPool 28)).alloc (.cells (poolC M (mkRow M [])).toArray 28)) := by
    have := run_storeCells_new (P := Try.prog) (w.alloc (.cells zPool 28)) 28 zPool (poolC M (mkRow M [])).toArray (by rw [List.size_toArray, poolC_length, mkRow_len]; exact Try.infoPoolS) (zPool_size.trans (by rw [List.size_toArray, poolC_length, mkRow_len])) (all_oneCell_toArray (poolC_one _ _))
    rw [s1, ← hnew, Array.toList_setIfInBounds] at this
    rw [hnew] at this
    exact this
  have HP : Hid (PoolAt ((w.alloc (.cells zPool 28)).alloc (.cells (poolC M (mkRow M [])).toArray 28)) (w.heap.size + 1) M (mkRow M [])) := Lib.hid (by
    unfold PoolAt
    rw [← s1]
    exact heap_alloc_new _ _)
  have HZ : Hid (((w.alloc (.cells zPool 28)).alloc (.cells (poolC M (mkRow M [])).toArray 28)).heap[w.heap.size]? = some (.cells zPool 28 (0, 0))) := Lib.hid (by
    rw [Below.heap_alloc _ _ _ (by rw [s1]; omega)]
    exact heap_alloc_new _ _)
  have HB : Hid (Below w.heap.size w ((w.alloc (.cells zPool 28)).alloc (.cells (poolC M (mkRow M [])).toArray 28))) := Lib.hid (((Below.refl _ w).alloc (Nat.le_refl _) _).alloc (by rw [s1]; omega) _)
  obtain ⟨a, cap, rfl⟩ := hv.len
  have HV := Lib.hid hv
  obtain ⟨n, hn⟩ : ∃ n, l.length = n := ⟨_, rfl⟩
  have HN := Lib.hid hn
  rw [hn] at hl ⊢
  clear hv hn hM hnew
  go_enter Try.func7, Try.ntmps7
  go_upto_region 2 with fail
  generalize (w.alloc (.cells zPool 28)).alloc (.cells (poolC M (mkRow M [])).toArray 28) = W2 at *
  clear hst s1
  generalize hb1 : w.heap.size = b1 at *
  have HBB := Lib.hid hb1
  clear hb1
  go_wp2
  go_loopw [6] (fun iv wr => ∃ k : Nat, k ≤ n ∧ iv = .int .i64 k ∧ PoolAt wr (b1 + 1) M (mkRow M (l.take k)) ∧ wr.heap[b1]? = some (.cells zPool 28 (0, 0)) ∧ Below b1 w wr) (fun iv _ => n - (intOf iv).toNat)
  case atStart => exact ⟨0, by omega, rfl, HP.out, HZ.out, HB.out⟩
  case round =>
    obtain ⟨k, hk, rfl, hp, hz, hb⟩ := hrel
    clear HP HZ HB
    have HP := Lib.hid hp
    have HZ := Lib.hid hz
    have HB := Lib.hid hb
    clear hp hz hb
    by_cases hkn : k < n
    · have hkz : (k : Int) < (n : Int) := by omega
      obtain ⟨g, off, rfl, hg, hc1⟩ := HV.out.at (j := k) (by rw [HN.out]; exact hkn)
      have c1 : wr.cell? ⟨g, off + k, none⟩ = some (.int .i64 (l.getD k 0)) := by rw [HB.out.cell (p := ⟨g, off + k, none⟩) (by rw [← HBB.out]; exact hg)]; exact hc1
      have d1 : wr.drew.cell? ⟨g, off + k, none⟩ = some (.int .i64 (l.getD k 0)) := c1
      have c2 := HP.out.most
      have d2 : wr.drew.cell? ⟨b1 + 1, 0, none⟩ = some (.int .i64 (M : Int)) := c2
      have HT : Hid (l.take (k + 1) = l.take k ++ [l.getD k 0]) := Lib.hid (takeN_one (by rw [HN.out]; exact hkn))
      have HS := Lib.hid (mkRow_snoc M (l.take k) (l.getD k 0))
      have hML := mkRow_len M (l.take k)
      clear hc1
      generalize l.getD k 0 = x at *
      by_cases hx1 : 1 ≤ x
      · by_cases hx2 : x ≤ (M : Int)
        · obtain ⟨i, rfl⟩ : ∃ i : Nat, x = i := ⟨x.toNat, by omega⟩
          have HM : Hid (mkRow M (l.take (k + 1)) = (mkRow M (l.take k)).set i true) := Lib.hid (by rw [HT.out, HS.out, if_pos ⟨hx1, hx2⟩]; rfl)
          obtain ⟨u, hu⟩ : ∃ u, (mkRow M (l.take k))[i]? = some u := ⟨_, List.getElem?_eq_getElem (by omega)⟩
          have hi201 : (i : Int) < 201 := by omega
          have hi0 : 0 ≤ (i : Int) := by omega
          have g1 : decide ((1 : Int) ≤ (i : Int)) = true := decide_eq_true hx1
          have g2 : decide ((i : Int) ≤ (M : Int)) = true := decide_eq_true hx2
          clear hML
          go_wp2
          go_quiet (fail)
          have HPq : Hid (PoolAt (wr.drewN nq) (b1 + 1) M (mkRow M (l.take k))) := Lib.hid (HP.out.below (below_drewN2 (Below.refl _ _) nq))
          have HBq : Hid (Below b1 w (wr.drewN nq)) := Lib.hid (below_drewN2 HB.out nq)
          have HZq : Hid ((wr.drewN nq).heap[b1]? = some (.cells zPool 28 (0, 0))) := Lib.hid (by
            rw [(below_drewN2 (Below.refl wr.heap.size wr) nq).block _ (lt_of_get HZ.out)]
            exact HZ.out)
          have cq : (wr.drewN nq).cell? ⟨g, off + k, none⟩ = some (.int .i64 (i : Int)) := by
            rw [(below_drewN2 (Below.refl wr.heap.size wr) nq).cell (p := ⟨g, off + k, none⟩) (by have := HB.out.size; have := HBB.out; show g < wr.heap.size; omega)]
            exact c1
          generalize wr.drewN nq = wq at *
          have c3 : wq.cell? ⟨b1 + 1, 1 + i, none⟩ = some (.bool u) := HPq.out.at hu
          have f3 : wq.frozen? ⟨b1 + 1, 1 + i, none⟩ = false := Lib.frozen_of_heap HPq.out _
          have HP2 : Hid (PoolAt (wq.setCell ⟨b1 + 1, 1 + i, none⟩ (.bool true)) (b1 + 1) M (mkRow M (l.take (k + 1)))) := Lib.hid (by
            rw [HM.out]
            exact PoolAt.set HPq.out i true)
          have HZ2 : Hid ((wq.setCell ⟨b1 + 1, 1 + i, none⟩ (.bool true)).heap[b1]? = some (.cells zPool 28 (0, 0))) := Lib.hid (by
            rw [Below.heap_setCell _ _ _ _ (by show b1 ≠ b1 + 1; omega)]
            exact HZq.out)
          have HB2 : Hid (Below b1 w (wq.setCell ⟨b1 + 1, 1 + i, none⟩ (.bool true))) := Lib.hid (HBq.out.setCell (p := ⟨b1 + 1, 1 + i, none⟩) (by show b1 ≤ b1 + 1; omega) _)
          clear hu
          go_wp2
          go_roundw
          case rel => exact ⟨k + 1, by omega, by first | rfl | go_num, HP2.out, HZ2.out, HB2.out⟩
          case measure => simp [intOf]; omega
        · have HM : Hid (mkRow M (l.take (k + 1)) = mkRow M (l.take k)) := Lib.hid (by rw [HT.out, HS.out, if_neg (by omega)])
          have g1 : decide ((1 : Int) ≤ x) = true := decide_eq_true hx1
          have g2 : decide (x ≤ (M : Int)) = false := decide_eq_false hx2
          have HP2 : Hid (PoolAt wr (b1 + 1) M (mkRow M (l.take (k + 1)))) := Lib.hid (by rw [HM.out]; exact HP.out)
          go_wp2
          go_quiet (fail)
          go_wp2
          go_roundw
          case rel => exact ⟨k + 1, by omega, by first | rfl | go_num, HP2.out.below (below_drewN2 (Below.refl _ _) nq), (by rw [(below_drewN2 (Below.refl wr.heap.size wr) nq).block _ (lt_of_get HZ.out)]; exact HZ.out), below_drewN2 HB.out nq⟩
          case measure => simp [intOf]; omega
      · have HM : Hid (mkRow M (l.take (k + 1)) = mkRow M (l.take k)) := Lib.hid (by rw [HT.out, HS.out, if_neg (by omega)])
        have g1 : decide ((1 : Int) ≤ x) = false := decide_eq_false hx1
        have HP2 : Hid (PoolAt wr (b1 + 1) M (mkRow M (l.take (k + 1)))) := Lib.hid (by rw [HM.out]; exact HP.out)
        go_wp2
        go_quiet (fail)
        go_wp2
        go_roundw
        case rel => exact ⟨k + 1, by omega, by first | rfl | go_num, HP2.out.below (below_drewN2 (Below.refl _ _) nq), (by rw [(below_drewN2 (Below.refl wr.heap.size wr) nq).block _ (lt_of_get HZ.out)]; exact HZ.out), below_drewN2 HB.out nq⟩
        case measure => simp [intOf]; omega
    · have hge : ¬ ((k : Int) < (n : Int)) := by omega
      have HLT : Hid (l.take k = l) := Lib.hid (List.take_of_length_le (by rw [HN.out]; omega))
      rw [HLT.out] at HP
      have hL3 := mkRow_len M l
      generalize hE : mkRow M l = l3 at *
      have HE := Lib.hid hE
      clear hE
      have hld := HP.out.load hL3
      obtain ⟨hst, hp4⟩ := pool_store (m := M) (l := l3) (C := zPool.toList) (by rw [Array.toArray_toList]; exact HZ.out) (by rw [Array.length_toList]; exact zPool_size) hL3
      have HP4 := Lib.hid hp4
      have HB4 : Hid (Below b1 w (wr.setCells b1 0 (poolC M l3))) := Lib.hid (Below.setCells HB.out (Nat.le_refl _) _ _)
      have hlen3 : (poolC M l3).length = 202 := by rw [poolC_length, hL3]
      have HL3 := Lib.hid hL3
      have HLD := Lib.hid hld
      clear hp4 hL3 hld
      go_wp2_with (((with_reducible refine wpL_load 28 _ (.pointer (some ⟨b1 + 1, 0, none⟩)) (.agg (poolC M l3).toArray) ?_ ?_ ?_); exact rfl; exact HLD.out))
      refine bodyPost_ret (results_cell_row Try.results7 _ _ _ _ _ _ _ rfl HP4.out Try.underlying28 rfl (by rw [List.size_toArray, poolC_length, HL3.out]; exact Try.infoPoolS)) rfl ⟨by rw [HE.out], by rw [HBB.out]; exact HB4.out⟩
end Go.Proofs.Ytfpnecbhpcnadaa
