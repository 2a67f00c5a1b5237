/-
  The pool's numbers as they are made, plainly.
  A pool, made: those that are not out, below the greatest that is, wait.
-/
import Derived.Test.YtmplekjiciedgaaQ8
import Derived.Deep.MidRow
namespace Go.Proofs.Ytmplekjiciedgaa
open Go.RowKit Go.Sort
set_option linter.unusedVariables false

/-- Which are out of these numbers. -/
def mkF (m : Nat) (M : List Bool) (x : Int) : List Bool := if 1 ≤ x ∧ x ≤ (m : Int) then M.set x.toNat true else M
def mkRow (m : Nat) (l : List Int) : List Bool := l.foldl (mkF m) (List.replicate 201 false)
theorem mkRow_snoc (m : Nat) (l : List Int) (x : Int) : mkRow m (l ++ [x]) = if 1 ≤ x ∧ x ≤ (m : Int) then (mkRow m l).set x.toNat true else mkRow m l := by
  unfold mkRow
  rw [List.foldl_append]
  rfl
theorem mkF_len (m : Nat) (M : List Bool) (x : Int) : (mkF m M x).length = M.length := by
  unfold mkF
  split
  · rw [List.length_set]
  · rfl
theorem mkFs_len (m : Nat) : ∀ (l : List Int) (M : List Bool), (l.foldl (mkF m) M).length = M.length
  | [], M => rfl
  | x :: l, M => (mkFs_len m l (mkF m M x)).trans (mkF_len m M x)
theorem mkRow_len (m : Nat) (l : List Int) : (mkRow m l).length = 201 := by
  unfold mkRow
  rw [mkFs_len, List.length_replicate]
def mostN (x : Int) : Nat := (min (max x 0) 200).toNat
theorem most_cases (x : Int) : (x ≤ 0 ∧ mostN x = 0) ∨ (200 ≤ x ∧ mostN x = 200) ∨ (0 < x ∧ x < 200 ∧ (mostN x : Int) = x) := by
  unfold mostN
  omega
theorem mostN_le (x : Int) : mostN x ≤ 200 := by
  unfold mostN
  omega
theorem takeN_one {l : List Int} {k : Nat} (h : k < l.length) : l.take (k + 1) = l.take k ++ [l.getD k 0] := by
  rw [List.take_add_one]
  simp [List.getD_eq_getElem?_getD, List.getElem?_eq_getElem h]
end Go.Proofs.Ytmplekjiciedgaa

namespace Go.Proofs.Ytmplekjiciedgaa
open Go.RowKit Go.Sort
set_option linter.unusedVariables false

structure TopI (m : Nat) (row : List Bool) (u : Nat) : Prop where
  le : u ≤ m
  out : ∀ n : Nat, row[n]? = some true → 1 ≤ n ∧ n ≤ u
  top : u = 0 ∨ row[u]? = some true
theorem TopI.nil (m : Nat) : TopI m (mkRow m []) 0 := by
  refine ⟨by omega, fun n h => ?_, Or.inl rfl⟩
  have : (List.replicate 201 false)[n]? = some true := h
  rw [List.getElem?_replicate] at this
  split at this
  · cases this
  · cases this
theorem TopI.step {m u i : Nat} {row : List Bool} (h : TopI m row u) (h1 : 1 ≤ i) (h2 : i ≤ m) (hl : row.length = 201) (hm : m ≤ 200) : TopI m (row.set i true) (max u i) := by
  refine ⟨?_, fun n hn => ?_, ?_⟩
  · have := h.le
    omega
  · by_cases e : i = n
    · subst e
      omega
    · rw [List.getElem?_set_ne e] at hn
      have := h.out n hn
      omega
  · by_cases e : u ≤ i
    · rw [Nat.max_eq_right e, List.getElem?_set_self (by omega)]
      exact Or.inr rfl
    · rw [Nat.max_eq_left (by omega), List.getElem?_set_ne (by omega)]
      exact h.top
/-- Those that wait, up to n. -/
structure WaitI (row : List Bool) (n : Nat) (ys : List Int) : Prop where
  nd : ys.Nodup
  mem : ∀ y : Int, y ∈ ys ↔ (1 ≤ y ∧ y < (n : Int) ∧ row[y.toNat]? = some false)
  heap : HeapN ys.length ys
theorem WaitI.nil (row : List Bool) : WaitI row 1 [] := ⟨List.nodup_nil, fun y => ⟨fun h => (by cases h), fun h => absurd h.2.1 (by omega)⟩, heap_nil⟩
theorem WaitI.skip {row : List Bool} {n : Nat} {ys : List Int} (h : WaitI row n ys) (hn : row[n]? = some true) : WaitI row (n + 1) ys := by
  refine ⟨h.nd, fun y => ?_, h.heap⟩
  rw [h.mem y]
  constructor
  · rintro ⟨a, b, c⟩; exact ⟨a, by omega, c⟩
  · rintro ⟨a, b, c⟩
    refine ⟨a, ?_, c⟩
    by_cases e : y = n
    · subst e
      rw [Int.toNat_natCast, hn] at c
      cases c
    · omega
theorem WaitI.add {row : List Bool} {n : Nat} {ys zs : List Int} (h : WaitI row n ys) (h1 : 1 ≤ n) (hn : row[n]? = some false) (hp : zs.Perm ((n : Int) :: ys)) (hz : HeapN zs.length zs) : WaitI row (n + 1) zs := by
  refine ⟨hp.nodup_iff.2 (List.nodup_cons.2 ⟨fun hm => absurd ((h.mem _).1 hm).2.1 (by omega), h.nd⟩), fun y => ?_, hz⟩
  rw [hp.mem_iff, List.mem_cons, h.mem y]
  constructor
  · rintro (rfl | ⟨a, b, c⟩)
    · exact ⟨by omega, by omega, by rw [Int.toNat_natCast]; exact hn⟩
    · exact ⟨a, by omega, c⟩
  · rintro ⟨a, b, c⟩
    by_cases e : y = n
    · exact Or.inl e
    · exact Or.inr ⟨a, by omega, c⟩
theorem WaitI.len {row : List Bool} {n : Nat} {ys : List Int} (h : WaitI row n ys) (hn : n ≤ 201) : ys.length ≤ 200 := by
  have := count_out (m := 200) (u := 200) (Nat.le_refl _) (Nat.le_refl _) ys h.nd (fun y hy => by
    have := (h.mem y).1 hy
    omega)
  omega
theorem made_pool {m u n : Nat} {row : List Bool} {ys : List Int} (ht : TopI m row u) (hw : WaitI row n ys) (hm : m ≤ 200) (hl : row.length = 201) (h1 : 1 ≤ n) (h2 : n ≤ u ∨ n = 1) (h3 : u ≤ n) : GoodP m u ys ∧ row = outRow u ys := by
  refine ⟨⟨ht.le, hm, hw.nd, fun y hy => ?_, hw.heap⟩, ?_⟩
  · have := (hw.mem y).1 hy
    omega
  · apply List.ext_getElem?
    intro k
    by_cases hk : k ≤ 200
    · rw [outRow_get _ _ hk]
      obtain ⟨x, hx⟩ : ∃ x, row[k]? = some x := ⟨_, List.getElem?_eq_getElem (by omega)⟩
      rw [hx]
      congr 1
      unfold outAt
      cases x with
      | true =>
        have := ht.out k hx
        symm
        rw [decide_eq_true_eq]
        refine ⟨by omega, by omega, fun hm => ?_⟩
        have := ((hw.mem _).1 hm).2.2
        rw [Int.toNat_natCast, hx] at this
        cases this
      | false =>
        symm
        rw [decide_eq_false_iff_not]
        rintro ⟨a, b, c⟩
        apply c
        rw [hw.mem]
        refine ⟨by omega, ?_, by rw [Int.toNat_natCast]; exact hx⟩
        by_cases e : k = u
        · subst e
          rcases ht.top with h | h
          · omega
          · rw [hx] at h; cases h
        · omega
    · rw [List.getElem?_eq_none (by omega), List.getElem?_eq_none (by rw [outRow_length]; omega)]

def zBools : Array Value := boolRow (List.replicate 201 false)
theorem zero_bools (W : World) : (zeroValue 68).run Try.prog W = .ok (.agg zBools) W := (zero_of_info (P := Try.prog) (t := 68) (v := .agg zBools) (n := 201) (by kernel_rfl)).1 W
def NewPost (m : Nat) (l : List Bool) (w : World) (e : Ending) (w' : World) : Prop := ∃ b v, e = .returned (.pointer (some ⟨b, 0, none⟩)) ∧ w.heap.size ≤ b ∧ PoolIs w none m b w' v l
set_option maxHeartbeats 4000000 in
set_option maxRecDepth 100000 in
theorem new_c (most : Int) (v : Value) (l : List Int) (w : World) (hv : NumsIs w v l) (hl : l.length ≤ 300) :
    Calls Try.prog 18 #[.int .i64 most, v] w (NewPost (mostN most) (mkRow (mostN most) l) w) := by
  unfold NewPost
  have hzb := zero_bools
  have HMC : Hid (min (max most 0) 200 = (mostN most : Int)) := Lib.hid (by rcases most_cases most with h | h | h <;> omega)
  have hmn := mostN_le most
  obtain ⟨M, hM⟩ : ∃ M, mostN most = M := ⟨_, rfl⟩
  rw [hM] at hmn HMC ⊢
  obtain ⟨a, cap, rfl⟩ := hv.len
  have HV := Lib.hid hv
  obtain ⟨n, hn⟩ : ∃ n, l.length = n := ⟨_, rfl⟩
  have HN := Lib.hid hn
  rw [hn] at hl ⊢
  have s1 : (w.alloc (.cells #[.int .i64 (min (max most 0) 200), .int .i64 0, .slice none 0 0] 53)).heap.size = w.heap.size + 1 := by simp
  have HP : Hid (((w.alloc (.cells #[.int .i64 (min (max most 0) 200), .int .i64 0, .slice none 0 0] 53)).alloc (.cells zBools 68)).heap[w.heap.size]? = some (.cells (poolO M 0 (.slice none 0 0)) 53 (0, 0))) := Lib.hid (by
    rw [Below.heap_alloc _ _ _ (by rw [s1]; omega), HMC.out]
    exact heap_alloc_new _ _)
  have HQ : Hid (((w.alloc (.cells #[.int .i64 (min (max most 0) 200), .int .i64 0, .slice none 0 0] 53)).alloc (.cells zBools 68)).heap[w.heap.size + 1]? = some (.cells (boolRow (mkRow M [])) 68 (0, 0))) := Lib.hid (by
    rw [← s1]
    exact heap_alloc_new _ _)
  have HB : Hid (Below w.heap.size w ((w.alloc (.cells #[.int .i64 (min (max most 0) 200), .int .i64 0, .slice none 0 0] 53)).alloc (.cells zBools 68))) := Lib.hid (((Below.refl _ w).alloc (Nat.le_refl _) _).alloc (by rw [s1]; omega) _)
  clear hv hn hM s1
  go_enter Try.func18, Try.ntmps18
  go_upto_region 3 with fail
  generalize (w.alloc (.cells #[.int .i64 (min (max most 0) 200), .int .i64 0, .slice none 0 0] 53)).alloc (.cells zBools 68) = W2 at *
  generalize hb1 : w.heap.size = b1 at *
  have HBB := Lib.hid hb1
  clear hb1 hzb
  go_wp2
  go_loopw [17] (fun iv wr => ∃ k u : Nat, k ≤ n ∧ iv = .int .i64 k ∧ TopI M (mkRow M (l.take k)) u ∧ wr.heap[b1]? = some (.cells (poolO M u (.slice none 0 0)) 53 (0, 0)) ∧ wr.heap[b1 + 1]? = some (.cells (boolRow (mkRow M (l.take k))) 68 (0, 0)) ∧ Below b1 w wr) (fun iv _ => n - (intOf iv).toNat)
  case atStart => exact ⟨0, 0, by omega, rfl, TopI.nil M, HP.out, HQ.out, HB.out⟩
  case round =>
    obtain ⟨k, u, hk, rfl, ht, hp, hq, hb⟩ := hrel
    clear HP HQ HB
    have HP := Lib.hid hp
    have HQ := Lib.hid hq
    have HB := Lib.hid hb
    have HT := Lib.hid ht
    have hML := mkRow_len M (l.take k)
    have HML := Lib.hid hML
    have hu200 : u ≤ 200 := by have := ht.le; omega
    clear hp hq hb ht
    by_cases hkn : k < n
    · have hkz : (k : Int) < (n : Int) := by omega
      obtain ⟨g, off, rfl, hg, hc1⟩ := HV.out.at (j := k) (by rw [HN.out]; exact hkn)
      have c1 : wr.cell? ⟨g, off + k, none⟩ = some (.int .i64 (l.getD k 0)) := by rw [HB.out.cell (p := ⟨g, off + k, none⟩) (by rw [← HBB.out]; exact hg)]; exact hc1
      have c2 : wr.cell? ⟨b1, 0, none⟩ = some (.int .i64 (M : Int)) := Lib.cell_of_heap HP.out 0
      have HTK : Hid (l.take (k + 1) = l.take k ++ [l.getD k 0]) := Lib.hid (takeN_one (by rw [HN.out]; exact hkn))
      have HS := Lib.hid (mkRow_snoc M (l.take k) (l.getD k 0))
      clear hc1
      generalize l.getD k 0 = x at *
      by_cases hx1 : 1 ≤ x
      · by_cases hx2 : x ≤ (M : Int)
        · obtain ⟨i, rfl⟩ : ∃ i : Nat, x = i := ⟨x.toNat, by omega⟩
          have HM : Hid (mkRow M (l.take (k + 1)) = (mkRow M (l.take k)).set i true) := Lib.hid (by rw [HTK.out, HS.out, if_pos ⟨hx1, hx2⟩]; rfl)
          obtain ⟨t, ht⟩ : ∃ t, (mkRow M (l.take k))[i]? = some t := ⟨_, List.getElem?_eq_getElem (by omega)⟩
          have c3 : wr.cell? ⟨b1 + 1, i, none⟩ = some (.bool t) := by rw [cell_of_row _ _ _ _ _ _ HQ.out]; exact boolRow_get ht
          have f3 : wr.frozen? ⟨b1 + 1, i, none⟩ = false := Lib.frozen_of_heap HQ.out _
          have hi201 : (i : Int) < 201 := by omega
          have hi0 : 0 ≤ (i : Int) := by omega
          have HMX : Hid (max (u : Int) (i : Int) = ((max u i : Nat) : Int)) := Lib.hid (by omega)
          have c4 : (wr.setCell ⟨b1 + 1, i, none⟩ (.bool true)).cell? ⟨b1, 1, none⟩ = some (.int .i64 (u : Int)) := by
            rw [World.cell?_of_block (w := wr) (Below.heap_setCell _ _ _ _ (by show b1 ≠ b1 + 1; omega))]
            exact Lib.cell_of_heap HP.out 1
          have hPs : (wr.setCell ⟨b1 + 1, i, none⟩ (.bool true)).heap[b1]? = some (.cells (poolO M u (.slice none 0 0)) 53 (0, 0)) := by
            rw [Below.heap_setCell _ _ _ _ (by show b1 ≠ b1 + 1; omega)]
            exact HP.out
          have f4 : (wr.setCell ⟨b1 + 1, i, none⟩ (.bool true)).frozen? ⟨b1, 1, none⟩ = false := Lib.frozen_of_heap hPs 1
          have HP2 : Hid (((wr.setCell ⟨b1 + 1, i, none⟩ (.bool true)).setCell ⟨b1, 1, none⟩ (.int .i64 (max (u : Int) (i : Int)))).heap[b1]? = some (.cells (poolO M (max u i) (.slice none 0 0)) 53 (0, 0))) := Lib.hid (by
            rw [HMX.out, heap_setCell_same _ b1 1 _ _ _ hPs]
            rfl)
          have HQ2 : Hid (((wr.setCell ⟨b1 + 1, i, none⟩ (.bool true)).setCell ⟨b1, 1, none⟩ (.int .i64 (max (u : Int) (i : Int)))).heap[b1 + 1]? = some (.cells (boolRow (mkRow M (l.take (k + 1)))) 68 (0, 0))) := Lib.hid (by
            rw [Below.heap_setCell _ _ _ _ (by show b1 + 1 ≠ b1; omega), heap_setCell_same _ (b1 + 1) i _ _ _ HQ.out, boolRow_set, HM.out])
          have HB2 : Hid (Below b1 w ((wr.setCell ⟨b1 + 1, i, none⟩ (.bool true)).setCell ⟨b1, 1, none⟩ (.int .i64 (max (u : Int) (i : Int))))) := Lib.hid ((HB.out.setCell (p := ⟨b1 + 1, i, none⟩) (by show b1 ≤ b1 + 1; omega) _).setCell (p := ⟨b1, 1, none⟩) (Nat.le_refl _) _)
          have HT2 : Hid (TopI M (mkRow M (l.take (k + 1))) (max u i)) := Lib.hid (by rw [HM.out]; exact HT.out.step (by omega) (by omega) HML.out (by omega))
          clear ht hML hPs
          go_wp2
          go_roundw
          case rel => exact ⟨k + 1, max u i, by omega, by first | rfl | go_num, HT2.out, HP2.out, HQ2.out, HB2.out⟩
          case measure => simp [intOf]; omega
        · have HM : Hid (mkRow M (l.take (k + 1)) = mkRow M (l.take k)) := Lib.hid (by rw [HTK.out, HS.out, if_neg (by omega)])
          clear hML
          go_wp2
          go_roundw
          case rel => exact ⟨k + 1, u, by omega, by first | rfl | go_num, by rw [HM.out]; exact HT.out, HP.out, by rw [HM.out]; exact HQ.out, HB.out⟩
          case measure => simp [intOf]; omega
      · have HM : Hid (mkRow M (l.take (k + 1)) = mkRow M (l.take k)) := Lib.hid (by rw [HTK.out, HS.out, if_neg (by omega)])
        clear hML
        go_wp2
        go_roundw
        case rel => exact ⟨k + 1, u, by omega, by first | rfl | go_num, by rw [HM.out]; exact HT.out, HP.out, by rw [HM.out]; exact HQ.out, HB.out⟩
        case measure => simp [intOf]; omega
    · have hge : ¬ ((k : Int) < (n : Int)) := by omega
      have HLT : Hid (l.take k = l) := Lib.hid (List.take_of_length_le (by rw [HN.out]; omega))
      rw [HLT.out] at HT HQ HML
      clear hML
      generalize hR : mkRow M l = row at *
      have HR := Lib.hid hR
      clear hR
      go_wp2
      generalize hW3 : wr = W3 at *
      clear hW3
      go_loopw [9] (fun iv wr => ∃ (q : Nat) (v : Value) (ys : List Int), iv = .int .i64 q ∧ 1 ≤ q ∧ (q ≤ u ∨ q = 1) ∧ WaitI row q ys ∧ Box W3 none M u b1 wr v ys) (fun iv _ => u + 1 - (intOf iv).toNat)
      case atStart => exact ⟨1, _, [], rfl, by omega, Or.inr rfl, WaitI.nil row, ⟨HP.out, ⟨rfl, Or.inl ⟨rfl, rfl⟩⟩, fun k hk => (by cases hk), Keeps.refl _ _ _⟩⟩
      case round =>
        obtain ⟨q, vq, ys, rfl, hq1, hq2, hw, hbx⟩ := hrel
        have HW := Lib.hid hw
        have HBX := Lib.hid hbx
        obtain ⟨c1, f1⟩ := hbx.cell1
        by_cases hqu : q < u
        · have hqz : (q : Int) < (u : Int) := by omega
          have hq201 : (q : Int) < 201 := by omega
          obtain ⟨t, ht⟩ : ∃ t, row[q]? = some t := ⟨_, List.getElem?_eq_getElem (by rw [HML.out]; omega)⟩
          have HTT := Lib.hid ht
          have hqb : wr.heap[b1 + 1]? = some (.cells (boolRow row) 68 (0, 0)) := by
            rw [hbx.keep.block (b1 + 1) (lt_of_get HQ.out) (by omega) (by simp)]
            exact HQ.out
          have c3 : wr.cell? ⟨b1 + 1, q, none⟩ = some (.bool t) := by rw [cell_of_row _ _ _ _ _ _ hqb]; exact boolRow_get ht
          have cA := add_c W3 none M u b1 vq ys q wr hbx hw.heap (by have := hw.len (by omega); omega)
          unfold AddPost at cA
          clear ht hqb hw hbx
          cases t with
          | true =>
            clear cA
            go_wp2
            go_roundw
            case rel => exact ⟨q + 1, vq, ys, by first | rfl | go_num, by omega, Or.inl (by omega), HW.out.skip HTT.out, HBX.out⟩
            case measure => simp [intOf]; omega
          | false =>
            go_wp2_with fail
            refine cA.mono ?_
            rintro e w5 ⟨rfl, v5, ys5, hp5, hh5, hb5⟩
            have HW5 := Lib.hid (HW.out.add hq1 HTT.out hp5 hh5)
            have HB5 := Lib.hid hb5
            clear cA hp5 hh5 hb5
            go_wp2
            go_roundw
            case rel => exact ⟨q + 1, v5, ys5, by first | rfl | go_num, by omega, Or.inl (by omega), HW5.out, HB5.out⟩
            case measure => simp [intOf]; omega
        · have hqz : ¬ ((q : Int) < (u : Int)) := by omega
          have HE : Hid (PoolIs w none M b1 wr vq row) := Lib.hid (by
            obtain ⟨h1, h2⟩ := made_pool HT.out hw (by omega) HML.out hq1 hq2 (by omega)
            exact PoolIs.since (w0 := W3) ⟨u, ys, hbx, h1, h2⟩ (by rw [HBB.out]; exact HB.out) (by rw [HBB.out]; exact Nat.le_refl _) (fun k hk => (by cases hk)))
          clear hw hbx
          go_wp2
          go_ret
          exact ⟨b1, rfl, by rw [HBB.out]; exact Nat.le_refl _, vq, by rw [HR.out]; exact HE.out⟩
end Go.Proofs.Ytmplekjiciedgaa
