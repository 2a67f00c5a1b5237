/- Kit. -/
import Derived.Test.YtfioknaadbgjlaaGreatDoorEQ7
import Derived.Deep.AppendLies
import Derived.Deep.RegionLaw
import Derived.PlainAid
import Derived.Laws.AppendOwnNone
import Derived.Laws.NewBlocks
import Derived.Maps.AppendAt
import Derived.Lib.SliceRun
set_option maxRecDepth 100000
set_option linter.unusedVariables false
set_option linter.unusedSimpArgs false
namespace Go.Proofs.YtfioknaadbgjlaaGreatDoor
open Go.RowKit Go.Sort
end Go.Proofs.YtfioknaadbgjlaaGreatDoor
namespace Go.Proofs.YtfioknaadbgjlaaGreatDoor
open Go.RowKit Go.Sort
def DownRel (n : Nat) (xs ys : List Int) : Prop := ys.Perm xs ∧ ∀ k, n ≤ k → ys.getD k 0 = xs.getD k 0
theorem DownRel.swap {n : Nat} {xs ys : List Int} (h : DownRel n xs ys) {i j : Nat} (hi : i < n) (hj : j < n) (hn : n ≤ ys.length) : DownRel n xs (swI ys i j) :=
  ⟨(swI_perm (by omega) (by omega)).trans h.1, fun k hk => by rw [swI_getD (by omega) (by omega), if_neg (by omega), if_neg (by omega)]; exact h.2 k hk⟩
end Go.Proofs.YtfioknaadbgjlaaGreatDoor
namespace Go.Proofs.YtfioknaadbgjlaaGreatDoor
open Go.RowKit Go.Sort
theorem Tryz.infoInt : (Tryz.prog.info? 3).map (fun i => (i.zero, i.size, i.bytes)) = some (some (.int .i64 0), 1, 8) := by kernel_rfl
theorem OwnN.more {B : Nat} {w : World} {v : Value} {xs : List Int} {x : Int} (h : w.ownsRow B 3 1 v (xs.length + 1) (xs.map (Value.int .i64) ++ [.int .i64 x])) : OwnN B w v (xs ++ [x]) := by
  unfold OwnN
  rw [List.length_append, List.length_singleton, List.map_append]
  exact h
theorem grown_trans {a b c : World} {r : Option Nat} (h : a.grownBy b r) (k : b.grownBy c r) : a.grownBy c r := ⟨k.os.trans h.os, k.tape.trans h.tape, k.output.trans h.output, Nat.le_trans h.size k.size, fun i hi hn => (k.block i (by have := h.size; omega) hn).trans (h.block i hi hn)⟩
theorem ta_int (x : Int) (w : World) : (Instr.typeAssert (.iface 3 (.int .i64 x)) 20 3 false).run Tryz.prog w = .ok (.int .i64 x) w := by kernel_rfl
theorem OwnN.cut {B g n cap : Nat} {w : World} {xs : List Int} (h : OwnN B w (.slice (some ⟨g, 0, none⟩) (n + 1) cap) xs) (hn : xs.length = n + 1) : OwnN B w (.slice (some ⟨g, 0, none⟩) n cap) (xs.take n) := by
  refine ⟨by simp, ?_⟩
  have hl : (xs.take n).length = n := by rw [List.length_take]; omega
  rcases h.2 with ⟨hv, _⟩ | ⟨g', cap', cur, hv, hg, hb, hn', hm, hs, ht⟩
  · exact absurd hv (by simp)
  · simp only [Value.slice.injEq, Option.some.injEq, Addr.mk.injEq] at hv
    obtain ⟨⟨rfl, _⟩, _, rfl⟩ := hv
    refine Or.inr ⟨g, cap, cur, by rw [hl], hg, hb, by omega, hm, hs, ?_⟩
    rw [hl, List.map_take, ← ht, List.take_take]
    congr 1
    omega
theorem pop_perm {xs zs : List Int} {n : Nat} (hn : xs.length = n + 1) (h : DownRel n (swI xs 0 n) zs) : zs.getD n 0 = xs.getD 0 0 ∧ xs.Perm (xs.getD 0 0 :: zs.take n) ∧ zs.length = n + 1 := by
  have hz : zs.length = n + 1 := by rw [h.1.length_eq, swI_length, hn]
  have h1 : zs.getD n 0 = xs.getD 0 0 := by
    rw [h.2 n (Nat.le_refl _), swI_getD (by omega) (by omega), if_pos rfl]
  refine ⟨h1, ?_, hz⟩
  have h2 : xs.Perm zs := (swI_perm (xs := xs) (i := 0) (j := n) (by omega) (by omega)).symm.trans h.1.symm
  rw [← h1]
  refine h2.trans ?_
  have h3 := take_last hz
  refine (List.Perm.of_eq h3).trans ?_
  exact List.perm_append_comm
end Go.Proofs.YtfioknaadbgjlaaGreatDoor
namespace Go.Proofs.YtfioknaadbgjlaaGreatDoor
open Go.RowKit Go.Sort
theorem NumsIs.own {B : Nat} {w : World} {v : Value} {l : List Int} (h : OwnN B w v l) : NumsIs w v l := by
  by_cases e : l = []
  · subst e
    obtain ⟨a, cap, hv⟩ := h.len
    exact Or.inl ⟨rfl, a, cap, hv⟩
  · obtain ⟨g, cap, hv, _, hg, _⟩ := h.head e
    refine Or.inr ⟨g, 0, cap, hg, hv, fun j hj => ?_⟩
    rw [Nat.zero_add]
    subst hv
    exact (h.cell hj).1
/-- A pool at b: which numbers are out. -/
def PoolIs (w0 : World) (r : Option Nat) (m b : Nat) (w : World) (v : Value) (l : List Bool) : Prop := ∃ u ys, Box w0 r m u b w v ys ∧ GoodP m u ys ∧ l = outRow u ys
/-- Is x in the list, from k on? -/
theorem index_c (v : Value) (l : List Int) (x : Int) (w : World) (hv : NumsIs w v l) (hl : l.length ≤ 100000) :
    Calls Tryz.prog 157 #[v, .int .i64 x] w fun e w' => ∃ i : Int, e = .returned (.int .i64 i) ∧ -1 ≤ i ∧ i ≤ 100000 ∧ (0 ≤ i ↔ x ∈ l) ∧ w' = w := by
  obtain ⟨n, hn⟩ : ∃ n, l.length = n := ⟨_, rfl⟩
  obtain ⟨a, cap, rfl⟩ := hv.len
  have HV := Lib.hid hv
  have HN := Lib.hid hn
  rw [hn] at hl ⊢
  clear hv hn
  go_enter Tryz.func157, Tryz.ntmps157
  go_wp2
  go_loop [8] (fun iv => ∃ k : Nat, k ≤ n ∧ iv = .int .i64 k ∧ x ∉ l.take k) (fun iv => n - (intOf iv).toNat)
  case atStart => exact ⟨0, by omega, rfl, by simp⟩
  case round =>
    obtain ⟨k, hk, rfl, hno⟩ := hrel
    have HNO := Lib.hid hno
    clear hno
    by_cases hkn : k < n
    · have hkz : (k : Int) < (n : Int) := by omega
      obtain ⟨g, off, rfl, hg, c1⟩ := HV.out.at (j := k) (by rw [HN.out]; exact hkn)
      have HT : Hid (x ∈ l.take (k + 1) ↔ (x ∈ l.take k ∨ x = l.getD k 0)) := Lib.hid (by
        have hk' : k < l.length := by rw [HN.out]; exact hkn
        rw [List.take_add_one, List.mem_append, List.getD_eq_getElem?_getD, List.getElem?_eq_getElem hk']
        simp)
      have HIN : Hid (l.getD k 0 ∈ l) := Lib.hid (by
        have hk' : k < l.length := by rw [HN.out]; exact hkn
        simp [List.getD_eq_getElem?_getD, List.getElem?_eq_getElem hk'])
      generalize l.getD k 0 = y at *
      cases hx : (x == y) with
      | true =>
        have HE : Hid (x = y) := Lib.hid (by simpa using hx)
        go_wp2
        go_ret
        exact ⟨k, rfl, by omega, by omega, ⟨fun _ => by rw [HE.out]; exact HIN.out, fun _ => by omega⟩, rfl⟩
      | false =>
        have HE : Hid (x ≠ y) := Lib.hid (by simpa using hx)
        go_wp2
        go_round
        case rel => exact ⟨k + 1, by omega, by first | rfl | go_num, fun hm => by
          rcases HT.out.1 hm with h | h
          · exact HNO.out h
          · exact HE.out h⟩
        case measure => simp [intOf]; omega
    · have hge : ¬ ((k : Int) < (n : Int)) := by omega
      have HL : Hid (x ∉ l) := Lib.hid (by
        have := HNO.out
        rw [List.take_of_length_le (by rw [HN.out]; omega)] at this
        exact this)
      go_wp2
      go_ret
      exact ⟨-1, rfl, by omega, by omega, ⟨fun h => by omega, fun h => absurd h HL.out⟩, rfl⟩
theorem contains_c (v : Value) (l : List Int) (x : Int) (w : World) (hv : NumsIs w v l) (hl : l.length ≤ 100000) (t : Bool) (ht : decide (x ∈ l) = t) :
    Calls Tryz.prog 120 #[v, .int .i64 x] w fun e w' => e = .returned (.bool t) ∧ w' = w := by
  have cI := index_c v l x w hv hl
  clear hv hl
  go_enter Tryz.func120, Tryz.ntmps120
  go_wp2_with fail
  refine cI.mono ?_
  rintro e w1 ⟨i, rfl, hi1, hi2, hi3, rfl⟩
  have HT : Hid (decide (0 ≤ i) = t) := Lib.hid (by
    rw [← ht]
    congr 1
    exact propext hi3)
  clear cI hi3 ht
  go_wp2
  go_ret
  exact ⟨by rw [← HT.out]; rfl, rfl⟩
end Go.Proofs.YtfioknaadbgjlaaGreatDoor
namespace Go.Proofs.YtfioknaadbgjlaaGreatDoor
open Go.RowKit Go.Sort
theorem PoolIs.now {w0 : World} {r : Option Nat} {m b : Nat} {w : World} {v : Value} {l : List Bool} (h : PoolIs w0 r m b w v l) : PoolIs w v.ownBlock m b w v l := by
  obtain ⟨u, ys, hx, hg, hl⟩ := h
  exact ⟨u, ys, hx.now, hg, hl⟩
theorem PoolIs.row {w0 : World} {r : Option Nat} {m b : Nat} {w : World} {v : Value} {l : List Bool} (h : PoolIs w0 r m b w v l) : ∀ k, v.ownBlock = some k → (some k = r ∨ w0.heap.size ≤ k) ∧ b < k ∧ k < w.heap.size := by
  obtain ⟨u, ys, hx, _⟩ := h
  intro k hk
  have := hx.own.lt k hk
  exact ⟨hx.row k hk, by omega, this.2⟩
end Go.Proofs.YtfioknaadbgjlaaGreatDoor
