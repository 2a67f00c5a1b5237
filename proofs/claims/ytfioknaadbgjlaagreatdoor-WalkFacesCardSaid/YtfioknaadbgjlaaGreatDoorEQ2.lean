/- Kit. -/
import Derived.Test.YtfioknaadbgjlaaGreatDoorProg
import Derived.WalkKit
import Derived.WalkSpells
import Derived.IntWalk
import Derived.LoopTactic
import Derived.Handy
import Derived.PlainAid
import Derived.Lib.Hide
import Derived.Laws.IdiomStrings
import Derived.KernelRfl
import Derived.Test.YtfioknaadbgjlaaGreatDoorEQ1
import Derived.Deep.AppendLies
import Derived.Deep.RegionLaw
import Derived.Deep.RegionHeld3
set_option maxRecDepth 100000
set_option linter.unusedVariables false
set_option linter.unusedSimpArgs false
namespace Go.Proofs.YtfioknaadbgjlaaGreatDoor
open Go.RowKit
/-- A good name on a disk. -/
def goodB (b : ByteArray) : Bool := (List.range b.size).all (fun k => decide (Go.PlainAid.bt b k ≠ 0 ∧ Go.PlainAid.bt b k ≠ 47)) && (decide (b.toList ≠ []) && (decide (b.size ≤ 255) && (decide (b.toList ≠ [46]) && decide (b.toList ≠ [46, 46]))))
set_option maxHeartbeats 2000000 in
theorem refGood_c (b : ByteArray) (hs : b.size ≤ 9223372036854775807) (w : World) : Calls Tryz.prog 122 #[.string b] w fun e w' => e = .returned (.bool (goodB b)) ∧ w' = w := by
  obtain ⟨X, hX⟩ : ∃ X, goodB b = X := ⟨_, rfl⟩
  rw [hX]
  have H1 := Lib.hid (show ∀ k, k < b.size → (Go.PlainAid.bt b k = 0 ∨ Go.PlainAid.bt b k = 47) → X = false from fun k hk h => by
    rw [← hX]; unfold goodB
    rw [Bool.and_eq_false_iff]; left
    rw [List.all_eq_false]
    exact ⟨k, List.mem_range.2 hk, by simp; omega⟩)
  have H2 := Lib.hid (show (∀ k, k < b.size → Go.PlainAid.bt b k ≠ 0 ∧ Go.PlainAid.bt b k ≠ 47) → X = (decide (b.toList ≠ []) && (decide (b.size ≤ 255) && (decide (b.toList ≠ [46]) && decide (b.toList ≠ [46, 46])))) from fun h => by
    rw [← hX]; unfold goodB
    rw [show (List.range b.size).all (fun k => decide (Go.PlainAid.bt b k ≠ 0 ∧ Go.PlainAid.bt b k ≠ 47)) = true by
      rw [List.all_eq_true]; exact fun k hk => decide_eq_true (h k (List.mem_range.1 hk)), Bool.true_and])
  clear hX
  go_enter Tryz.func122, Tryz.ntmps122
  go_wp2
  go_loop [3] (fun iv => ∃ i : Nat, i ≤ b.size ∧ iv = .int .i64 i ∧ ∀ k, k < i → Go.PlainAid.bt b k ≠ 0 ∧ Go.PlainAid.bt b k ≠ 47) (fun iv => b.size - (intOf iv).toNat)
  case atStart => exact ⟨0, by omega, rfl, fun k hk => by omega⟩
  case round =>
    obtain ⟨i, hi, rfl, hno⟩ := hrel
    have HNO := Lib.hid hno
    clear hno
    by_cases hlt : i < b.size
    · have hz : (i : Int) < (b.size : Int) := by omega
      have hB := Go.PlainAid.get_bt b
      obtain ⟨A, hA⟩ : ∃ A : Int, Go.PlainAid.bt b i = A := ⟨_, rfl⟩
      have a0 : 0 ≤ A := by have := Go.PlainAid.bt_nonneg b i; omega
      have a1 : A ≤ 255 := by have := Go.PlainAid.bt_le b i; omega
      by_cases h0 : A = 0
      · have HX := Lib.hid (H1.out i hlt (Or.inl (hA.trans h0)))
        subst h0
        go_wp2
        go_ret
        exact ⟨by rw [HX.out]; rfl, rfl⟩
      · by_cases h47 : A = 47
        · have HX := Lib.hid (H1.out i hlt (Or.inr (hA.trans h47)))
          subst h47
          go_wp2
          go_ret
          exact ⟨by rw [HX.out]; rfl, rfl⟩
        · have HX := Lib.hid (show ∀ k, k < i + 1 → Go.PlainAid.bt b k ≠ 0 ∧ Go.PlainAid.bt b k ≠ 47 from fun k hk => by
            by_cases e : k = i
            · subst e; rw [hA]; exact ⟨h0, h47⟩
            · exact HNO.out k (by omega))
          have e0 : (A == 0) = false := by rw [beq_eq_false_iff_ne]; exact h0
          have e47 : (A == 47) = false := by rw [beq_eq_false_iff_ne]; exact h47
          go_wp2
          go_round
          case rel => exact ⟨i + 1, by omega, by go_num, HX.out⟩
          case measure => simp [intOf]; omega
    · have hie : i = b.size := by omega
      have HX := Lib.hid (H2.out (fun k hk => HNO.out k (by omega)))
      have hge : ¬ ((i : Int) < (b.size : Int)) := by omega
      clear hie hlt
      by_cases p0 : b.toList = []
      · have HY : Hid (X = false) := Lib.hid (by rw [HX.out]; simp [p0])
        clear HX
        go_wp2
        go_ret
        exact ⟨by rw [HY.out]; rfl, rfl⟩
      · by_cases h255 : b.size ≤ 255
        · have h255z : (b.size : Int) ≤ 255 := by omega
          by_cases p1 : b.toList = [46]
          · have HY : Hid (X = false) := Lib.hid (by rw [HX.out]; simp [p1])
            clear HX
            go_wp2
            go_ret
            exact ⟨by rw [HY.out]; rfl, rfl⟩
          · by_cases p2 : b.toList = [46, 46]
            · have HY : Hid (X = false) := Lib.hid (by rw [HX.out]; simp [p2])
              clear HX
              go_wp2
              go_ret
              exact ⟨by rw [HY.out]; rfl, rfl⟩
            · have HY : Hid (X = true) := Lib.hid (by rw [HX.out]; simp [p0, p1, p2, h255])
              have q0 : b.toList.isEmpty = false := by rw [List.isEmpty_eq_false_iff]; exact p0
              have q1 : (b.toList == [46]) = false := by rw [beq_eq_false_iff_ne]; exact p1
              have q2 : (b.toList == [46, 46]) = false := by rw [beq_eq_false_iff_ne]; exact p2
              clear p0 p1 p2
              clear HX
              go_wp2
              go_ret
              exact ⟨by rw [HY.out]; rfl, rfl⟩
        · have h255z : ¬ ((b.size : Int) ≤ 255) := by omega
          have HY : Hid (X = false) := Lib.hid (by rw [HX.out]; simp [h255])
          clear HX
          go_wp2
          go_ret
          exact ⟨by rw [HY.out]; rfl, rfl⟩
end Go.Proofs.YtfioknaadbgjlaaGreatDoor
namespace Go.Proofs.YtfioknaadbgjlaaGreatDoor
open Go.RowKit Go.Sort
/-- What is wrong with a name, and a number. -/
def badE (s : ByteArray) (sh : Int) : Int := if goodB s = true then (if sh < 0 ∨ 1000000 < sh then 1 else 0) else 3
theorem bad10_c (s : ByteArray) (hs : s.size ≤ 9223372036854775807) (sh : Int) (w : World) : Calls Tryz.prog 73 #[.string s, .int .i64 sh] w fun e w' => e = .returned (.int .i64 (badE s sh)) ∧ w' = w := by
  have cG := refGood_c s hs w
  obtain ⟨E, hE⟩ : ∃ E, badE s sh = E := ⟨_, rfl⟩
  rw [hE]
  unfold badE at hE
  cases hg : goodB s with
  | false =>
    rw [hg] at cG hE
    rw [if_neg (by simp)] at hE
    subst hE
    clear hg
    go_enter Tryz.func73, Tryz.ntmps73
    go_wp2_with fail
    refine cG.mono ?_
    rintro e w1 ⟨rfl, rfl⟩
    clear cG
    go_wp2
    go_ret
    exact ⟨rfl, rfl⟩
  | true =>
    rw [hg] at cG hE
    rw [if_pos rfl] at hE
    clear hg
    by_cases h1 : sh < 0
    · rw [if_pos (Or.inl h1)] at hE
      subst hE
      have h1d : decide (sh < 0) = true := decide_eq_true h1
      go_enter Tryz.func73, Tryz.ntmps73
      go_wp2_with fail
      refine cG.mono ?_
      rintro e w1 ⟨rfl, rfl⟩
      clear cG
      go_wp2
      go_ret
      exact ⟨rfl, rfl⟩
    · have h1d : decide (sh < 0) = false := decide_eq_false h1
      by_cases h2 : 1000000 < sh
      · rw [if_pos (Or.inr h2)] at hE
        subst hE
        have h2d : decide (1000000 < sh) = true := decide_eq_true h2
        go_enter Tryz.func73, Tryz.ntmps73
        go_wp2_with fail
        refine cG.mono ?_
        rintro e w1 ⟨rfl, rfl⟩
        clear cG
        go_wp2
        go_ret
        exact ⟨rfl, rfl⟩
      · rw [if_neg (by omega)] at hE
        subst hE
        have h2d : decide (1000000 < sh) = false := decide_eq_false h2
        go_enter Tryz.func73, Tryz.ntmps73
        go_wp2_with fail
        refine cG.mono ?_
        rintro e w1 ⟨rfl, rfl⟩
        clear cG
        go_wp2
        go_ret
        exact ⟨rfl, rfl⟩
/-- With one more entry. -/
def putI (l : List Itm) (nx d : Int) (e : Ent) : List Itm := l ++ [⟨d, { e with cookie := nx }⟩]
theorem own_set {B : Nat} {T : TypeId} {c : Nat} {w : World} {v : Value} {n : Nat} {xs : List Value} (ho : w.ownsRow B T c v n xs) {b : Nat} (hb : b < B) (o : Nat) (x : Value) : (w.setCell ⟨b, o, none⟩ x).ownsRow B T c v n xs :=
  World.ownsRow.kept (row := some b) ho ⟨rfl, rfl, rfl, by simp [World.setCell], fun k hk hne => Below.heap_setCell w ⟨b, o, none⟩ x k (fun e => hne (by rw [e]))⟩ (Or.inr (fun e => by have := (ho.lt b e).1; omega))
theorem below_al {B : Nat} {W0 W : World} {o : Obj} (h : Below B W0 W) (hB : B ≤ W0.heap.size) : Below B W0 (W.alloc o) := h.alloc (Nat.le_trans hB h.size) o
theorem below_set2 {B : Nat} {W0 W : World} {x y : Value} (h : Below B W0 W) : Below B W0 ((W.setCell ⟨B, 0, none⟩ x).setCell ⟨B, 1, none⟩ y) := (h.setCell (p := ⟨B, 0, none⟩) (Nat.le_refl _) _).setCell (p := ⟨B, 1, none⟩) (Nat.le_refl _) _
theorem own_form {B : Nat} {T : TypeId} {c : Nat} {w7 : World} {v : Value} {n : Nat} {xs : List Value} (ho : w7.ownsRow B T c v n xs) : ∃ a k cp, v = .slice a k cp := by
  rcases ho.2 with ⟨h, _⟩ | ⟨g, cap, cur, h, _⟩
  · exact ⟨_, _, _, h⟩
  · exact ⟨_, _, _, h⟩
/-- A tree that is answered. -/
def TreePost (l : List Itm) (nx : Int) (w0 : World) (e : Ending) (w' : World) : Prop := ∃ v', e = .returned (treeV v' nx) ∧ ItmsT w' v' l ∧ (∀ g, v'.ownBlock = some g → w0.heap.size ≤ g) ∧ Below w0.heap.size w0 w'
set_option maxHeartbeats 8000000 in
set_option maxRecDepth 100000 in
theorem put10_c (v : Value) (l : List Itm) (nx d : Int) (e : Ent) (w : World) (hv : ItmsIs w v l) (hl : l.length ≤ 1000) (hnx : nx + 1 ≤ 9223372036854775807) (hnx0 : 0 ≤ nx) :
    Calls Tryz.prog 76 #[treeV v nx, .int .i64 d, entV e] w (TreePost (putI l nx d e) (nx + 1) w) := by
  unfold TreePost
  obtain ⟨nm, nd, dr, ck, sh⟩ := e
  have HPU : Hid (putI l nx d ⟨nm, nd, dr, ck, sh⟩ = l ++ [(Itm.mk d (Ent.mk nm nd dr nx sh))]) := Lib.hid rfl
  obtain ⟨a, cap, rfl⟩ := hv.len
  obtain ⟨m, hm⟩ : ∃ m, l.length = m := ⟨_, rfl⟩
  have HM := Lib.hid hm
  rw [hm] at hv hl ⊢
  have HV := Lib.hid hv
  unfold treeV entV
  clear hv hm
  go_enter Tryz.func76, Tryz.ntmps76
  go_upto_region 2 with fail
  have s1 : (w.alloc (.cells #[.slice a m cap, .int .i64 nx] 28)).heap.size = w.heap.size + 1 := by simp
  have s2 : ((w.alloc (.cells #[.slice a m cap, .int .i64 nx] 28)).alloc (.cells #[.string nm, .int .i64 nd, .bool dr, .int .i64 nx, .int .i64 sh] 47)).heap.size = w.heap.size + 1 + 1 := by simp
  have HT : Hid (TreeAt (((w.alloc (.cells #[.slice a m cap, .int .i64 nx] 28)).alloc (.cells #[.string nm, .int .i64 nd, .bool dr, .int .i64 nx, .int .i64 sh] 47)).alloc (.cells #[.slice none 0 0, .int .i64 0] 28)) w.heap.size (.slice a m cap) nx) := Lib.hid (by
    unfold TreeAt
    rw [Below.heap_alloc _ _ _ (by rw [s2]; omega), Below.heap_alloc _ _ _ (by rw [s1]; omega)]
    exact heap_alloc_new _ _)
  have HE : Hid ((((w.alloc (.cells #[.slice a m cap, .int .i64 nx] 28)).alloc (.cells #[.string nm, .int .i64 nd, .bool dr, .int .i64 nx, .int .i64 sh] 47)).alloc (.cells #[.slice none 0 0, .int .i64 0] 28)).heap[w.heap.size + 1]? = some (.cells #[.string nm, .int .i64 nd, .bool dr, .int .i64 nx, .int .i64 sh] 47 (0, 0))) := Lib.hid (by
    rw [Below.heap_alloc _ _ _ (by rw [s2]; omega), ← s1]
    exact heap_alloc_new _ _)
  have HR0 : Hid ((((w.alloc (.cells #[.slice a m cap, .int .i64 nx] 28)).alloc (.cells #[.string nm, .int .i64 nd, .bool dr, .int .i64 nx, .int .i64 sh] 47)).alloc (.cells #[.slice none 0 0, .int .i64 0] 28)).heap[w.heap.size + 1 + 1]? = some (.cells #[.slice none 0 0, .int .i64 0] 28 (0, 0))) := Lib.hid (by
    rw [← s2]
    exact heap_alloc_new _ _)
  have HB0 : Hid (Below w.heap.size w (((w.alloc (.cells #[.slice a m cap, .int .i64 nx] 28)).alloc (.cells #[.string nm, .int .i64 nd, .bool dr, .int .i64 nx, .int .i64 sh] 47)).alloc (.cells #[.slice none 0 0, .int .i64 0] 28))) := Lib.hid ((((Below.refl _ w).alloc (Nat.le_refl _) _).alloc (by rw [s1]; omega) _).alloc (by rw [s2]; omega) _)
  generalize ((w.alloc (.cells #[.slice a m cap, .int .i64 nx] 28)).alloc (.cells #[.string nm, .int .i64 nd, .bool dr, .int .i64 nx, .int .i64 sh] 47)).alloc (.cells #[.slice none 0 0, .int .i64 0] 28) = W0 at *
  clear s1 s2
  have HVW := Lib.hid (LstIs.kept HV.out HB0.out)
  clear HV
  have HV := HVW
  clear HVW
  generalize hbT : w.heap.size = bT at *
  have HBT := Lib.hid hbT
  clear hbT
  have c0 : W0.drew.cell? ⟨bT, 0, none⟩ = some (.slice a m cap) := HT.out.l.1
  have c1 : W0.drew.cell? ⟨bT, 1, none⟩ = some (.int .i64 nx) := HT.out.l.2
  obtain ⟨⟨e0, e1, e2, e3, e4⟩, _⟩ := five_cells (W := W0.drew) HE.out
  have HR : Hid (∀ W : World, Below W0.heap.size W0 W → W.cell? ⟨bT + 1 + 1, 0, none⟩ = some (.slice none 0 0) ∧ W.cell? ⟨bT + 1 + 1, 1, none⟩ = some (.int .i64 0) ∧ W.frozen? ⟨bT + 1 + 1, 0, none⟩ = false ∧ W.frozen? ⟨bT + 1 + 1, 1, none⟩ = false) := Lib.hid (fun W hW => by
    have h := (hW.block _ (lt_of_get HR0.out)).trans HR0.out
    exact ⟨Lib.cell_of_heap h 0, Lib.cell_of_heap h 1, Lib.frozen_of_heap h 0, Lib.frozen_of_heap h 1⟩)
  have hwr : IntKind.i64.wrap (nx + 1) = nx + 1 := by rw [IntKind.wrap_i64]; omega
  have hlen1 : 0 + l.length ≤ 100000 := by have := HM.out; omega
  have hlen2 : 0 + l.length + [((Itm.mk d (Ent.mk nm nd dr nx sh)) : Itm)].length ≤ 100000 := by have := HM.out; simp; omega
  have HBa : Hid (Below W0.heap.size W0 ((W0.alloc (.cells #[] 140)).alloc (.cells #[.int .i64 d, .string nm, .int .i64 nd, .bool dr, .int .i64 nx, .int .i64 sh] 140)).drew) := Lib.hid (((((Below.refl _ W0).alloc (Nat.le_refl _) _).alloc (by simp) _)).drew)
  have HOa : Hid (World.ownsRow ((W0.alloc (.cells #[] 140)).alloc (.cells #[.int .i64 d, .string nm, .int .i64 nd, .bool dr, .int .i64 nx, .int .i64 sh] 140)).drew W0.heap.size 140 6 (.slice (some ⟨W0.heap.size, 0, none⟩) 0 0) 0 []) := Lib.hid (own_new (show ((W0.alloc _).alloc _).heap[W0.heap.size]? = _ by rw [Below.heap_alloc _ _ _ (by simp)]; exact heap_alloc_new _ _) (by omega))
  have HIa : Hid ((((W0.alloc (.cells #[] 140)).alloc (.cells #[.int .i64 d, .string nm, .int .i64 nd, .bool dr, .int .i64 nx, .int .i64 sh] 140)).drew).heap[W0.heap.size + 1]? = some (.cells (itmC (Itm.mk d (Ent.mk nm nd dr nx sh))).toArray 140 (0, 0))) := Lib.hid (show ((W0.alloc _).alloc _).heap[W0.heap.size + 1]? = _ from heap_alloc2_new _ _ _)
  have HVa := Lib.hid (HV.out.kept HBa.out)
  have HLa : Hid (W0.heap.size ≤ (((W0.alloc (.cells #[] 140)).alloc (.cells #[.int .i64 d, .string nm, .int .i64 nd, .bool dr, .int .i64 nx, .int .i64 sh] 140)).drew).heap.size) := Lib.hid HBa.out.size
  have HBb : Hid (Below W0.heap.size W0 (W0.alloc (.cells #[] 140)).drew) := Lib.hid ((((Below.refl _ W0).alloc (Nat.le_refl _) _)).drew)
  have HOb : Hid (World.ownsRow (W0.alloc (.cells #[] 140)).drew W0.heap.size 140 6 (.slice (some ⟨W0.heap.size, 0, none⟩) 0 0) 0 []) := Lib.hid (own_new (show (W0.alloc _).heap[W0.heap.size]? = _ from heap_alloc_new _ _) (by omega))
  have HVb := Lib.hid (HV.out.kept HBb.out)
  have HLb : Hid (W0.heap.size ≤ ((W0.alloc (.cells #[] 140)).drew).heap.size) := Lib.hid HBb.out.size
  have HBc : Hid (Below W0.heap.size W0 ((W0.alloc (.cells #[.int .i64 d, .string nm, .int .i64 nd, .bool dr, .int .i64 nx, .int .i64 sh] 140)).alloc (.cells #[] 140)).drew) := Lib.hid (((((Below.refl _ W0).alloc (Nat.le_refl _) _).alloc (by simp) _)).drew)
  have HOc : Hid (World.ownsRow ((W0.alloc (.cells #[.int .i64 d, .string nm, .int .i64 nd, .bool dr, .int .i64 nx, .int .i64 sh] 140)).alloc (.cells #[] 140)).drew W0.heap.size 140 6 (.slice (some ⟨W0.heap.size + 1, 0, none⟩) 0 0) 0 []) := Lib.hid (own_new (show ((W0.alloc _).alloc _).heap[W0.heap.size + 1]? = _ from heap_alloc2_new _ _ _) (by omega))
  have HIc : Hid ((((W0.alloc (.cells #[.int .i64 d, .string nm, .int .i64 nd, .bool dr, .int .i64 nx, .int .i64 sh] 140)).alloc (.cells #[] 140)).drew).heap[W0.heap.size]? = some (.cells (itmC (Itm.mk d (Ent.mk nm nd dr nx sh))).toArray 140 (0, 0))) := Lib.hid (show ((W0.alloc _).alloc _).heap[W0.heap.size]? = _ by rw [Below.heap_alloc _ _ _ (by simp)]; exact heap_alloc_new _ _)
  have HVc := Lib.hid (HV.out.kept HBc.out)
  have HLc : Hid (W0.heap.size ≤ (((W0.alloc (.cells #[.int .i64 d, .string nm, .int .i64 nd, .bool dr, .int .i64 nx, .int .i64 sh] 140)).alloc (.cells #[] 140)).drew).heap.size) := Lib.hid HBc.out.size
  have HBd : Hid (Below W0.heap.size W0 (W0.alloc (.cells #[.int .i64 d, .string nm, .int .i64 nd, .bool dr, .int .i64 nx, .int .i64 sh] 140)).drew) := Lib.hid ((((Below.refl _ W0).alloc (Nat.le_refl _) _)).drew)
  have HBB : Hid (bT + 1 + 1 ≤ W0.heap.size) := Lib.hid (by have := lt_of_get HR0.out; omega)
  have HSK : Hid (∀ W : World, Below (bT + 1 + 1) W0 W → Below (bT + 1 + 1) W0 W ∧ W.cell? ⟨bT, 0, none⟩ = some (.slice a m cap) ∧ W.cell? ⟨bT, 1, none⟩ = some (.int .i64 nx) ∧ W.cell? ⟨bT + 1, 0, none⟩ = some (.string nm) ∧ W.cell? ⟨bT + 1, 1, none⟩ = some (.int .i64 nd) ∧ W.cell? ⟨bT + 1, 2, none⟩ = some (.bool dr) ∧ W.cell? ⟨bT + 1, 3, none⟩ = some (.int .i64 nx) ∧ W.cell? ⟨bT + 1, 4, none⟩ = some (.int .i64 sh)) := Lib.hid (fun W hW =>
    ⟨hW, by rw [hW.cell (p := ⟨bT, 0, none⟩) (by show bT < _; omega)]; exact c0, by rw [hW.cell (p := ⟨bT, 1, none⟩) (by show bT < _; omega)]; exact c1, by rw [hW.cell (p := ⟨bT + 1, 0, none⟩) (by show bT + 1 < _; omega)]; exact e0, by rw [hW.cell (p := ⟨bT + 1, 1, none⟩) (by show bT + 1 < _; omega)]; exact e1, by rw [hW.cell (p := ⟨bT + 1, 2, none⟩) (by show bT + 1 < _; omega)]; exact e2, by rw [hW.cell (p := ⟨bT + 1, 3, none⟩) (by show bT + 1 < _; omega)]; exact e3, by rw [hW.cell (p := ⟨bT + 1, 4, none⟩) (by show bT + 1 < _; omega)]; exact e4⟩)
  clear c0 c1 e0 e1 e2 e3 e4
  go_region_held3 (fun W => Below (bT + 1 + 1) W0 W ∧ W.cell? ⟨bT, 0, none⟩ = some (.slice a m cap) ∧ W.cell? ⟨bT, 1, none⟩ = some (.int .i64 nx) ∧ W.cell? ⟨bT + 1, 0, none⟩ = some (.string nm) ∧ W.cell? ⟨bT + 1, 1, none⟩ = some (.int .i64 nd) ∧ W.cell? ⟨bT + 1, 2, none⟩ = some (.bool dr) ∧ W.cell? ⟨bT + 1, 3, none⟩ = some (.int .i64 nx) ∧ W.cell? ⟨bT + 1, 4, none⟩ = some (.int .i64 sh)) (first | assumption | (refine HSK.out _ ?_; first | assumption | exact (HBa.out.mono HBB.out) | exact (HBb.out.mono HBB.out) | exact (HBc.out.mono HBB.out) | exact (HBd.out.mono HBB.out) | exact (Below.refl _ _).drew | exact Below.drew ‹_› | exact below_al ‹_› HBB.out | exact below_set2 ‹_›)) (first
    | (refine step_append_lst itmElem rfl _ _ rfl W0.heap.size (.slice (some ⟨W0.heap.size, 0, none⟩) 0 0) 0 [] rfl HOa.out (.slice a m cap) l (itmC_len l) (fun x _ => itmC_one x) rfl HVa.out hlen1 HLa.out ?_; intro v7 w7 ho7 hg7 hr7; have hb7 : Below W0.heap.size W0 w7 := HBa.out.grown hg7 HLa.out (fun j hj => (HOa.out.lt j hj).1); have hq7 := hb7.mono HBB.out; obtain ⟨a7, k7, c7, hv7⟩ := own_form ho7; subst hv7; have hi7 : w7.heap[W0.heap.size + 1]? = some (.cells (itmC (Itm.mk d (Ent.mk nm nd dr nx sh))).toArray 140 (0, 0)) := by rw [hg7.block _ (lt_of_get HIa.out) (fun e => by have e2 : W0.heap.size + 1 = W0.heap.size := Option.some.inj e; omega)]; exact HIa.out)
    | (refine step_append_lst itmElem rfl _ _ rfl W0.heap.size (.slice (some ⟨W0.heap.size, 0, none⟩) 0 0) 0 [] rfl HOb.out (.slice a m cap) l (itmC_len l) (fun x _ => itmC_one x) rfl HVb.out hlen1 HLb.out ?_; intro v7 w7 ho7 hg7 hr7; have hb7 : Below W0.heap.size W0 w7 := HBb.out.grown hg7 HLb.out (fun j hj => (HOb.out.lt j hj).1); have hq7 := hb7.mono HBB.out; obtain ⟨a7, k7, c7, hv7⟩ := own_form ho7; subst hv7; have hb7a := hb7.alloc hb7.size (.cells #[.int .i64 d, .string nm, .int .i64 nd, .bool dr, .int .i64 nx, .int .i64 sh] 140); have ho7a := ho7.alloc (.cells #[.int .i64 d, .string nm, .int .i64 nd, .bool dr, .int .i64 nx, .int .i64 sh] 140); have hi7 : (w7.alloc (.cells #[.int .i64 d, .string nm, .int .i64 nd, .bool dr, .int .i64 nx, .int .i64 sh] 140)).heap[w7.heap.size]? = some (.cells (itmC (Itm.mk d (Ent.mk nm nd dr nx sh))).toArray 140 (0, 0)) := heap_alloc_new _ _)
    | (refine step_append_lst itmElem rfl _ _ rfl W0.heap.size (.slice (some ⟨W0.heap.size + 1, 0, none⟩) 0 0) 0 [] rfl HOc.out (.slice a m cap) l (itmC_len l) (fun x _ => itmC_one x) rfl HVc.out hlen1 HLc.out ?_; intro v7 w7 ho7 hg7 hr7; have hb7 : Below W0.heap.size W0 w7 := HBc.out.grown hg7 HLc.out (fun j hj => (HOc.out.lt j hj).1); have hq7 := hb7.mono HBB.out; obtain ⟨a7, k7, c7, hv7⟩ := own_form ho7; subst hv7; have hi7 : w7.heap[W0.heap.size]? = some (.cells (itmC (Itm.mk d (Ent.mk nm nd dr nx sh))).toArray 140 (0, 0)) := by rw [hg7.block _ (lt_of_get HIc.out) (fun e => by have e2 : W0.heap.size = W0.heap.size + 1 := Option.some.inj e; omega)]; exact HIc.out)
    | (refine step_append_lst itmElem rfl _ _ rfl W0.heap.size _ (0 + l.length) ([] ++ l.flatMap itmC) rfl ho7 _ [((Itm.mk d (Ent.mk nm nd dr nx sh)) : Itm)] (itmC_len _) (fun x _ => itmC_one x) rfl (LstIs.block (itmC_len _) hi7) hlen2 hb7.size ?_; intro v8 w8 ho8 hg8 hr8; have hb8 : Below W0.heap.size W0 w8 := hb7.grown hg8 hb7.size (fun j hj => (ho7.lt j hj).1); have hq8 := hb8.mono HBB.out; obtain ⟨z0, z1, y0, y1⟩ := HR.out w8 hb8; obtain ⟨a8, k8, c8, hv8⟩ := own_form ho8; subst hv8)
    | (refine step_append_lst itmElem rfl _ _ rfl W0.heap.size _ (0 + l.length) ([] ++ l.flatMap itmC) rfl ho7a _ [((Itm.mk d (Ent.mk nm nd dr nx sh)) : Itm)] (itmC_len _) (fun x _ => itmC_one x) rfl (LstIs.block (itmC_len _) hi7) hlen2 hb7a.size ?_; intro v8 w8 ho8 hg8 hr8; have hb8 : Below W0.heap.size W0 w8 := hb7a.grown hg8 hb7a.size (fun j hj => (ho7a.lt j hj).1); have hq8 := hb8.mono HBB.out; obtain ⟨z0, z1, y0, y1⟩ := HR.out w8 hb8; obtain ⟨a8, k8, c8, hv8⟩ := own_form ho8; subst hv8))
  all_goals
    have hlt8 : bT + 1 + 1 < W0.heap.size := lt_of_get HR0.out
    have ho9 : World.ownsRow w8 W0.heap.size 140 6 (.slice a8 k8 c8) (l ++ [(Itm.mk d (Ent.mk nm nd dr nx sh))]).length ((l ++ [(Itm.mk d (Ent.mk nm nd dr nx sh))]).flatMap itmC) := by
      have := ho8
      rw [Nat.zero_add, List.nil_append] at this
      rw [List.length_append, List.flatMap_append]
      exact this
    have HX : Hid (ItmsT ((w8.setCell ⟨bT + 1 + 1, 0, none⟩ (.slice a8 k8 c8)).setCell ⟨bT + 1 + 1, 1, none⟩ (.int .i64 (nx + 1))) (.slice a8 k8 c8) (l ++ [(Itm.mk d (Ent.mk nm nd dr nx sh))])) := Lib.hid (ItmsT.own (own_set (own_set ho9 hlt8 0 _) hlt8 1 _) rfl)
    have h8 : w8.heap[bT + 1 + 1]? = some (.cells #[.slice none 0 0, .int .i64 0] 28 (0, 0)) := (hb8.block _ hlt8).trans HR0.out
    have HZ : Hid (((w8.setCell ⟨bT + 1 + 1, 0, none⟩ (.slice a8 k8 c8)).setCell ⟨bT + 1 + 1, 1, none⟩ (.int .i64 (nx + 1))).heap[bT + 1 + 1]? = some (.cells #[.slice a8 k8 c8, .int .i64 (nx + 1)] 28 (0, 0))) := Lib.hid (by
      rw [heap_setCell_same _ (bT + 1 + 1) 1 _ _ _ (heap_setCell_same _ (bT + 1 + 1) 0 _ _ _ h8)]
      rfl)
    have HBE : Hid (Below bT w ((w8.setCell ⟨bT + 1 + 1, 0, none⟩ (.slice a8 k8 c8)).setCell ⟨bT + 1 + 1, 1, none⟩ (.int .i64 (nx + 1)))) := Lib.hid (((HB0.out.trans (hb8.mono (by omega))).setCell (p := ⟨bT + 1 + 1, 0, none⟩) (by show bT ≤ bT + 1 + 1; omega) _).setCell (p := ⟨bT + 1 + 1, 1, none⟩) (by show bT ≤ bT + 1 + 1; omega) _)
    have HOW : Hid (∀ j, (Value.slice a8 k8 c8).ownBlock = some j → W0.heap.size ≤ j) := Lib.hid (fun j hj => (ho8.lt j hj).1)
    clear ho8 ho9 hb8 h8 z0 z1 y0 y1
    go_wp2
    refine bodyPost_ret (results_cell_row Tryz.results76 _ _ _ _ _ _ _ rfl HZ.out Tryz.underlying28 rfl (by kernel_rfl)) rfl ⟨_, rfl, ?_, ?_, ?_⟩
    · rw [HPU.out]
      exact HX.out
    · intro j hj
      have := HOW.out j hj
      have := HBT.out
      omega
    · rw [HBT.out]
      exact HBE.out
end Go.Proofs.YtfioknaadbgjlaaGreatDoor
namespace Go.Proofs.YtfioknaadbgjlaaGreatDoor
open Go.RowKit Go.Sort
theorem dropI_snoc {l : List Itm} {i : Nat} {x : Itm} (h : l[i]? = some x) (d : Int) (s : ByteArray) : dropI (l.take (i + 1)) d s = dropI (l.take i) d s ++ (if x.inn = d ∧ x.e.name = s then [] else [x]) := by
  unfold dropI
  rw [take_snoc h, List.filter_append]
  congr 1
  by_cases h1 : x.inn = d <;> by_cases h2 : x.e.name = s <;> simp [h1, h2]
theorem dropI_le (l : List Itm) (d : Int) (s : ByteArray) : (dropI l d s).length ≤ l.length := List.length_filter_le _ _
/-- A tree's block and an own row. -/
theorem two_cells {W : World} {b : Nat} {v0 v1 : Value} {T : TypeId} (h : W.heap[b]? = some (.cells #[v0, v1] T (0, 0))) :
    (W.cell? ⟨b, 0, none⟩ = some v0 ∧ W.cell? ⟨b, 1, none⟩ = some v1) ∧ (W.frozen? ⟨b, 0, none⟩ = false ∧ W.frozen? ⟨b, 1, none⟩ = false) :=
  ⟨⟨by rw [cell_of_row _ _ _ _ _ _ h]; rfl, by rw [cell_of_row _ _ _ _ _ _ h]; rfl⟩, ⟨frozen_of_row _ _ _ _ _ h, frozen_of_row _ _ _ _ _ h⟩⟩
theorem treeElem_zero : (Tryz.prog.info? 28).map (·.size) = some 2 := by kernel_rfl
set_option maxHeartbeats 8000000 in
set_option maxRecDepth 100000 in
theorem drop10_c (v : Value) (l : List Itm) (nx d : Int) (s : ByteArray) (w : World) (hv : ItmsIs w v l) (hl : l.length ≤ 1000) :
    Calls Tryz.prog 77 #[treeV v nx, .int .i64 d, .string s] w (TreePost (dropI l d s) nx w) := by
  unfold TreePost
  obtain ⟨a, cap, rfl⟩ := hv.len
  obtain ⟨m, hm⟩ : ∃ m, l.length = m := ⟨_, rfl⟩
  have HM := Lib.hid hm
  rw [hm] at hv hl ⊢
  have HV := Lib.hid hv
  unfold treeV
  clear hv hm
  have s1 : (w.alloc (.cells #[.slice a m cap, .int .i64 nx] 28)).heap.size = w.heap.size + 1 := by simp
  have s2 : ((w.alloc (.cells #[.slice a m cap, .int .i64 nx] 28)).alloc (.cells #[.slice none 0 0, .int .i64 0] 28)).heap.size = w.heap.size + 1 + 1 := by simp
  have HT : Hid (TreeAt (((w.alloc (.cells #[.slice a m cap, .int .i64 nx] 28)).alloc (.cells #[.slice none 0 0, .int .i64 0] 28)).alloc (.cells #[.slice none 0 0, .int .i64 nx] 28)) w.heap.size (.slice a m cap) nx) := Lib.hid (by
    unfold TreeAt
    rw [Below.heap_alloc _ _ _ (by rw [s2]; omega), Below.heap_alloc _ _ _ (by rw [s1]; omega)]
    exact heap_alloc_new _ _)
  have HR : Hid ((((w.alloc (.cells #[.slice a m cap, .int .i64 nx] 28)).alloc (.cells #[.slice none 0 0, .int .i64 0] 28)).alloc (.cells #[.slice none 0 0, .int .i64 nx] 28)).heap[w.heap.size + 1]? = some (.cells #[.slice none 0 0, .int .i64 0] 28 (0, 0))) := Lib.hid (by
    rw [Below.heap_alloc _ _ _ (by rw [s2]; omega), ← s1]
    exact heap_alloc_new _ _)
  have HO : Hid ((((w.alloc (.cells #[.slice a m cap, .int .i64 nx] 28)).alloc (.cells #[.slice none 0 0, .int .i64 0] 28)).alloc (.cells #[.slice none 0 0, .int .i64 nx] 28)).heap[w.heap.size + 1 + 1]? = some (.cells #[.slice none 0 0, .int .i64 nx] 28 (0, 0))) := Lib.hid (by
    rw [← s2]
    exact heap_alloc_new _ _)
  have HB : Hid (Below w.heap.size w (((w.alloc (.cells #[.slice a m cap, .int .i64 nx] 28)).alloc (.cells #[.slice none 0 0, .int .i64 0] 28)).alloc (.cells #[.slice none 0 0, .int .i64 nx] 28))) := Lib.hid ((((Below.refl _ w).alloc (Nat.le_refl _) _).alloc (by rw [s1]; omega) _).alloc (by rw [s2]; omega) _)
  go_enter Tryz.func77, Tryz.ntmps77
  go_upto_region 2 with fail
  generalize ((w.alloc (.cells #[.slice a m cap, .int .i64 nx] 28)).alloc (.cells #[.slice none 0 0, .int .i64 0] 28)).alloc (.cells #[.slice none 0 0, .int .i64 nx] 28) = W0 at *
  clear s1 s2
  generalize hbT : w.heap.size = bT at *
  have HBT := Lib.hid hbT
  clear hbT
  have hbs : bT + 1 + 1 < W0.heap.size := lt_of_get HO.out
  obtain ⟨BO, hBO⟩ : ∃ BO, W0.heap.size = BO := ⟨_, rfl⟩
  rw [hBO] at hbs
  go_wp2
  go_loopw [8] (fun iv wr => ∃ (i : Nat) (vo : Value), i ≤ m ∧ iv = .int .i64 i ∧ TreeAt wr bT (.slice a m cap) nx ∧ wr.heap[bT + 1]? = some (.cells #[.slice none 0 0, .int .i64 0] 28 (0, 0)) ∧ wr.heap[bT + 1 + 1]? = some (.cells #[vo, .int .i64 nx] 28 (0, 0)) ∧ wr.ownsRow BO 140 6 vo (dropI (l.take i) d s).length ((dropI (l.take i) d s).flatMap itmC) ∧ Below bT w wr ∧ BO ≤ wr.heap.size) (fun iv _ => m - (intOf iv).toNat)
  case atStart => exact ⟨0, _, by omega, rfl, HT.out, HR.out, HO.out, World.ownsRow_nil _ _ _ _, HB.out, by omega⟩
  case round =>
    obtain ⟨i, vo, hi, rfl, ht, hr, ho, hrow, hb, hsz⟩ := hrel
    clear HT HR HO HB
    have HT := Lib.hid ht
    have HR := Lib.hid hr
    have HO := Lib.hid ho
    have HW := Lib.hid hrow
    have HB := Lib.hid hb
    have hlt1 := lt_of_get hr
    clear ht hr ho hrow hb
    obtain ⟨c0, c1⟩ := HT.out.l
    by_cases him : i < m
    · have hiz : (i : Int) < (m : Int) := by omega
      obtain ⟨x, hx⟩ : ∃ x, l[i]? = some x := ⟨_, List.getElem?_eq_getElem (by rw [HM.out]; omega)⟩
      obtain ⟨g, off, rfl, hg, hrg⟩ := HV.out.at hx
      have HD := Lib.hid (dropI_snoc hx d s)
      have hdl := dropI_le (l.take i) d s
      rw [List.length_take] at hdl
      have HDL : Hid ((dropI (l.take i) d s).length ≤ 1000) := Lib.hid (by omega)
      have HGX : Hid (∀ W : World, Below bT w W → (W.cell? ⟨g, off + i * 6, none⟩ = some (.int .i64 x.inn) ∧ W.cell? ⟨g, off + i * 6 + 1, none⟩ = some (.string x.e.name) ∧ W.cell? ⟨g, off + i * 6 + 2, none⟩ = some (.int .i64 x.e.node) ∧ W.cell? ⟨g, off + i * 6 + 3, none⟩ = some (.bool x.e.dir) ∧ W.cell? ⟨g, off + i * 6 + 4, none⟩ = some (.int .i64 x.e.cookie) ∧ W.cell? ⟨g, off + i * 6 + 5, none⟩ = some (.int .i64 x.e.short))) := Lib.hid (fun W hW => itm_at (rangeAt_below hrg hg (by rw [HBT.out]; exact hW)))
      obtain ⟨d0, d1, d2, d3, d4, d5⟩ := HGX.out _ HB.out
      clear hx hrg hdl
      by_cases hin : x.inn = d ∧ x.e.name = s
      · have HD2 : Hid (dropI (l.take (i + 1)) d s = dropI (l.take i) d s) := Lib.hid (by rw [HD.out, if_pos hin, List.append_nil])
        obtain ⟨h1, h2⟩ := hin
        rw [h1] at d0
        rw [h2] at d1
        clear HD
        go_wp2
        go_roundw
        case rel => exact ⟨i + 1, vo, by omega, by first | rfl | go_num, HT.out, HR.out, HO.out, by rw [HD2.out]; exact HW.out, HB.out, by omega⟩
        case measure => simp [intOf]; omega
      · have HD2 : Hid (dropI (l.take (i + 1)) d s = dropI (l.take i) d s ++ [x]) := Lib.hid (by rw [HD.out, if_neg hin])
        clear HD
        have hcond : x.inn = d ∨ ¬ x.inn = d := Decidable.em _
        rcases hcond with hc | hc
        · have hc2 := text_ne (fun h2 => hin ⟨hc, h2⟩)
          have hc3 : (x.e.name.toList != s.toList) = true := by rw [bne, hc2]; rfl
          clear hin
          subst hc
          go_upto_region 6 with fail
          have hbel : Below BO wr (wr.alloc (.cells #[.int .i64 x.inn, .string x.e.name, .int .i64 x.e.node, .bool x.e.dir, .int .i64 x.e.cookie, .int .i64 x.e.short] 140)).drew := ((Below.refl _ wr).alloc hsz _).drew
          have HBEL := Lib.hid hbel
          have HOA : Hid (World.ownsRow (wr.alloc (.cells #[.int .i64 x.inn, .string x.e.name, .int .i64 x.e.node, .bool x.e.dir, .int .i64 x.e.cookie, .int .i64 x.e.short] 140)).drew BO 140 6 vo (dropI (l.take i) x.inn s).length ((dropI (l.take i) x.inn s).flatMap itmC)) := Lib.hid (HW.out.alloc _)
          have HI : Hid ((wr.alloc (.cells #[.int .i64 x.inn, .string x.e.name, .int .i64 x.e.node, .bool x.e.dir, .int .i64 x.e.cookie, .int .i64 x.e.short] 140)).drew.heap[wr.heap.size]? = some (.cells (itmC x).toArray 140 (0, 0))) := Lib.hid (show (wr.alloc _).heap[wr.heap.size]? = _ from heap_alloc_new _ _)
          have HSA : Hid (BO ≤ (wr.alloc (.cells #[.int .i64 x.inn, .string x.e.name, .int .i64 x.e.node, .bool x.e.dir, .int .i64 x.e.cookie, .int .i64 x.e.short] 140)).drew.heap.size) := Lib.hid (by have := hbel.size; omega)
          have q0 : wr.drew.cell? ⟨bT + 1 + 1, 0, none⟩ = some vo := (two_cells HO.out).1.1
          have q1 : (wr.alloc (.cells #[.int .i64 x.inn, .string x.e.name, .int .i64 x.e.node, .bool x.e.dir, .int .i64 x.e.cookie, .int .i64 x.e.short] 140)).drew.cell? ⟨bT + 1 + 1, 0, none⟩ = some vo := by rw [hbel.cell (p := ⟨bT + 1 + 1, 0, none⟩) (by show bT + 1 + 1 < BO; omega)]; exact (two_cells HO.out).1.1
          have HSK : Hid (∀ W : World, Below (bT + 1 + 1) wr W → Below (bT + 1 + 1) wr W ∧ W.cell? ⟨bT, 0, none⟩ = some (.slice (some ⟨g, off, none⟩) m cap) ∧ W.cell? ⟨g, off + i * 6, none⟩ = some (.int .i64 x.inn) ∧ W.cell? ⟨g, off + i * 6 + 1, none⟩ = some (.string x.e.name) ∧ W.cell? ⟨g, off + i * 6 + 2, none⟩ = some (.int .i64 x.e.node) ∧ W.cell? ⟨g, off + i * 6 + 3, none⟩ = some (.bool x.e.dir) ∧ W.cell? ⟨g, off + i * 6 + 4, none⟩ = some (.int .i64 x.e.cookie) ∧ W.cell? ⟨g, off + i * 6 + 5, none⟩ = some (.int .i64 x.e.short)) := Lib.hid (fun W hW =>
            ⟨hW, by rw [hW.cell (p := ⟨bT, 0, none⟩) (by show bT < _; omega)]; exact HT.out.l.1, HGX.out W (HB.out.trans (hW.mono (by omega)))⟩)
          have hlen1 : (dropI (l.take i) x.inn s).length + [x].length ≤ 100000 := by have := HDL.out; simp; omega
          have HZ : Hid (∀ W : World, Below BO wr W → (W.cell? ⟨bT + 1 + 1, 0, none⟩ = some vo ∧ W.frozen? ⟨bT + 1 + 1, 0, none⟩ = false)) := Lib.hid (fun W hW => ⟨by rw [hW.cell (p := ⟨bT + 1 + 1, 0, none⟩) (by show bT + 1 + 1 < BO; omega)]; exact (two_cells HO.out).1.1, by rw [hW.frozen (p := ⟨bT + 1 + 1, 0, none⟩) (by show bT + 1 + 1 < BO; omega)]; exact (two_cells HO.out).2.1⟩)
          clear hbel c0 c1 d0 d1 d2 d3 d4 d5
          have hs0 := HSK.out wr.drew ((Below.refl _ _).drew)
          obtain ⟨t0, t1, t2, t3, t4, t5, t6, t7⟩ := hs0
          go_region_law ((refine step_append_lst itmElem rfl _ _ rfl BO vo _ _ rfl HOA.out _ [x] (itmC_len _) (fun y _ => itmC_one y) rfl (LstIs.block (itmC_len _) HI.out) hlen1 HSA.out ?_; intro v8 w8 ho8 hg8 hr8; have hb8 : Below BO wr w8 := HBEL.out.grown hg8 HSA.out (fun j hj => (HOA.out.lt j hj).1); have hq8 := hb8.mono (show bT + 1 + 1 ≤ BO by omega); obtain ⟨z0, y0⟩ := HZ.out w8 hb8; obtain ⟨a8, k8, c8, hv8⟩ := own_form ho8; subst hv8))
          all_goals
            have ho9 : World.ownsRow w8 BO 140 6 (.slice a8 k8 c8) (dropI (l.take (i + 1)) x.inn s).length ((dropI (l.take (i + 1)) x.inn s).flatMap itmC) := by
              rw [HD2.out, List.length_append, List.flatMap_append]
              exact ho8
            have HW9 := Lib.hid (own_set ho9 (show bT + 1 + 1 < BO by omega) 0 (.slice a8 k8 c8))
            have HT9 : Hid (TreeAt (w8.setCell ⟨bT + 1 + 1, 0, none⟩ (.slice a8 k8 c8)) bT (.slice (some ⟨g, off, none⟩) m cap) nx) := Lib.hid (by
              unfold TreeAt
              rw [Below.heap_setCell _ _ _ _ (by show bT ≠ bT + 1 + 1; omega), hb8.block _ (by omega)]
              exact HT.out)
            have HR9 : Hid ((w8.setCell ⟨bT + 1 + 1, 0, none⟩ (.slice a8 k8 c8)).heap[bT + 1]? = some (.cells #[.slice none 0 0, .int .i64 0] 28 (0, 0))) := Lib.hid (by
              rw [Below.heap_setCell _ _ _ _ (by show bT + 1 ≠ bT + 1 + 1; omega), hb8.block _ (by omega)]
              exact HR.out)
            have HO9 : Hid ((w8.setCell ⟨bT + 1 + 1, 0, none⟩ (.slice a8 k8 c8)).heap[bT + 1 + 1]? = some (.cells #[.slice a8 k8 c8, .int .i64 nx] 28 (0, 0))) := Lib.hid (by
              rw [heap_setCell_same _ (bT + 1 + 1) 0 _ _ _ ((hb8.block _ (by omega)).trans HO.out)]
              rfl)
            have HB9 : Hid (Below bT w (w8.setCell ⟨bT + 1 + 1, 0, none⟩ (.slice a8 k8 c8))) := Lib.hid ((HB.out.trans (hb8.mono (by omega))).setCell (p := ⟨bT + 1 + 1, 0, none⟩) (by show bT ≤ bT + 1 + 1; omega) _)
            have hs9 : BO ≤ (w8.setCell ⟨bT + 1 + 1, 0, none⟩ (.slice a8 k8 c8)).heap.size := by have := hb8.size; simp [World.setCell]; omega
            have HS9 := Lib.hid hs9
            clear ho8 ho9 hb8 hq8 hs9 hg8 hr8
            go_wp2
            go_roundw
            case rel => exact ⟨i + 1, _, by omega, by first | rfl | go_num, HT9.out, HR9.out, HO9.out, HW9.out, HB9.out, HS9.out⟩
            case measure => simp [intOf]; omega
        have hc2 : (x.inn == d) = false := by rw [beq_eq_false_iff_ne]; exact hc
        have hc3 : (x.inn != d) = true := by rw [bne, hc2]; rfl
        clear hin
        go_upto_region 6 with fail
        have hbel : Below BO wr (wr.alloc (.cells #[.int .i64 x.inn, .string x.e.name, .int .i64 x.e.node, .bool x.e.dir, .int .i64 x.e.cookie, .int .i64 x.e.short] 140)).drew := ((Below.refl _ wr).alloc hsz _).drew
        have HBEL := Lib.hid hbel
        have HOA : Hid (World.ownsRow (wr.alloc (.cells #[.int .i64 x.inn, .string x.e.name, .int .i64 x.e.node, .bool x.e.dir, .int .i64 x.e.cookie, .int .i64 x.e.short] 140)).drew BO 140 6 vo (dropI (l.take i) d s).length ((dropI (l.take i) d s).flatMap itmC)) := Lib.hid (HW.out.alloc _)
        have HI : Hid ((wr.alloc (.cells #[.int .i64 x.inn, .string x.e.name, .int .i64 x.e.node, .bool x.e.dir, .int .i64 x.e.cookie, .int .i64 x.e.short] 140)).drew.heap[wr.heap.size]? = some (.cells (itmC x).toArray 140 (0, 0))) := Lib.hid (show (wr.alloc _).heap[wr.heap.size]? = _ from heap_alloc_new _ _)
        have HSA : Hid (BO ≤ (wr.alloc (.cells #[.int .i64 x.inn, .string x.e.name, .int .i64 x.e.node, .bool x.e.dir, .int .i64 x.e.cookie, .int .i64 x.e.short] 140)).drew.heap.size) := Lib.hid (by have := hbel.size; omega)
        have q0 : wr.drew.cell? ⟨bT + 1 + 1, 0, none⟩ = some vo := (two_cells HO.out).1.1
        have q1 : (wr.alloc (.cells #[.int .i64 x.inn, .string x.e.name, .int .i64 x.e.node, .bool x.e.dir, .int .i64 x.e.cookie, .int .i64 x.e.short] 140)).drew.cell? ⟨bT + 1 + 1, 0, none⟩ = some vo := by rw [hbel.cell (p := ⟨bT + 1 + 1, 0, none⟩) (by show bT + 1 + 1 < BO; omega)]; exact (two_cells HO.out).1.1
        have HSK : Hid (∀ W : World, Below (bT + 1 + 1) wr W → Below (bT + 1 + 1) wr W ∧ W.cell? ⟨bT, 0, none⟩ = some (.slice (some ⟨g, off, none⟩) m cap) ∧ W.cell? ⟨g, off + i * 6, none⟩ = some (.int .i64 x.inn) ∧ W.cell? ⟨g, off + i * 6 + 1, none⟩ = some (.string x.e.name) ∧ W.cell? ⟨g, off + i * 6 + 2, none⟩ = some (.int .i64 x.e.node) ∧ W.cell? ⟨g, off + i * 6 + 3, none⟩ = some (.bool x.e.dir) ∧ W.cell? ⟨g, off + i * 6 + 4, none⟩ = some (.int .i64 x.e.cookie) ∧ W.cell? ⟨g, off + i * 6 + 5, none⟩ = some (.int .i64 x.e.short)) := Lib.hid (fun W hW =>
          ⟨hW, by rw [hW.cell (p := ⟨bT, 0, none⟩) (by show bT < _; omega)]; exact HT.out.l.1, HGX.out W (HB.out.trans (hW.mono (by omega)))⟩)
        have hlen1 : (dropI (l.take i) d s).length + [x].length ≤ 100000 := by have := HDL.out; simp; omega
        have HZ : Hid (∀ W : World, Below BO wr W → (W.cell? ⟨bT + 1 + 1, 0, none⟩ = some vo ∧ W.frozen? ⟨bT + 1 + 1, 0, none⟩ = false)) := Lib.hid (fun W hW => ⟨by rw [hW.cell (p := ⟨bT + 1 + 1, 0, none⟩) (by show bT + 1 + 1 < BO; omega)]; exact (two_cells HO.out).1.1, by rw [hW.frozen (p := ⟨bT + 1 + 1, 0, none⟩) (by show bT + 1 + 1 < BO; omega)]; exact (two_cells HO.out).2.1⟩)
        clear hbel c0 c1 d0 d1 d2 d3 d4 d5
        have hs0 := HSK.out wr.drew ((Below.refl _ _).drew)
        obtain ⟨t0, t1, t2, t3, t4, t5, t6, t7⟩ := hs0
        go_region_law ((refine step_append_lst itmElem rfl _ _ rfl BO vo _ _ rfl HOA.out _ [x] (itmC_len _) (fun y _ => itmC_one y) rfl (LstIs.block (itmC_len _) HI.out) hlen1 HSA.out ?_; intro v8 w8 ho8 hg8 hr8; have hb8 : Below BO wr w8 := HBEL.out.grown hg8 HSA.out (fun j hj => (HOA.out.lt j hj).1); have hq8 := hb8.mono (show bT + 1 + 1 ≤ BO by omega); obtain ⟨z0, y0⟩ := HZ.out w8 hb8; obtain ⟨a8, k8, c8, hv8⟩ := own_form ho8; subst hv8))
        all_goals
          have ho9 : World.ownsRow w8 BO 140 6 (.slice a8 k8 c8) (dropI (l.take (i + 1)) d s).length ((dropI (l.take (i + 1)) d s).flatMap itmC) := by
            rw [HD2.out, List.length_append, List.flatMap_append]
            exact ho8
          have HW9 := Lib.hid (own_set ho9 (show bT + 1 + 1 < BO by omega) 0 (.slice a8 k8 c8))
          have HT9 : Hid (TreeAt (w8.setCell ⟨bT + 1 + 1, 0, none⟩ (.slice a8 k8 c8)) bT (.slice (some ⟨g, off, none⟩) m cap) nx) := Lib.hid (by
            unfold TreeAt
            rw [Below.heap_setCell _ _ _ _ (by show bT ≠ bT + 1 + 1; omega), hb8.block _ (by omega)]
            exact HT.out)
          have HR9 : Hid ((w8.setCell ⟨bT + 1 + 1, 0, none⟩ (.slice a8 k8 c8)).heap[bT + 1]? = some (.cells #[.slice none 0 0, .int .i64 0] 28 (0, 0))) := Lib.hid (by
            rw [Below.heap_setCell _ _ _ _ (by show bT + 1 ≠ bT + 1 + 1; omega), hb8.block _ (by omega)]
            exact HR.out)
          have HO9 : Hid ((w8.setCell ⟨bT + 1 + 1, 0, none⟩ (.slice a8 k8 c8)).heap[bT + 1 + 1]? = some (.cells #[.slice a8 k8 c8, .int .i64 nx] 28 (0, 0))) := Lib.hid (by
            rw [heap_setCell_same _ (bT + 1 + 1) 0 _ _ _ ((hb8.block _ (by omega)).trans HO.out)]
            rfl)
          have HB9 : Hid (Below bT w (w8.setCell ⟨bT + 1 + 1, 0, none⟩ (.slice a8 k8 c8))) := Lib.hid ((HB.out.trans (hb8.mono (by omega))).setCell (p := ⟨bT + 1 + 1, 0, none⟩) (by show bT ≤ bT + 1 + 1; omega) _)
          have hs9 : BO ≤ (w8.setCell ⟨bT + 1 + 1, 0, none⟩ (.slice a8 k8 c8)).heap.size := by have := hb8.size; simp [World.setCell]; omega
          have HS9 := Lib.hid hs9
          clear ho8 ho9 hb8 hq8 hs9 hg8 hr8
          go_wp2
          go_roundw
          case rel => exact ⟨i + 1, _, by omega, by first | rfl | go_num, HT9.out, HR9.out, HO9.out, HW9.out, HB9.out, HS9.out⟩
          case measure => simp [intOf]; omega
    · have hiz : ¬ (i : Int) < (m : Int) := by omega
      have HA : Hid (l.take i = l) := Lib.hid (List.take_of_length_le (by rw [HM.out]; omega))
      rw [HA.out] at HW
      obtain ⟨a8, k8, c8, hv8⟩ := own_form HW.out
      subst hv8
      obtain ⟨⟨q0, q1⟩, _⟩ := two_cells HO.out
      obtain ⟨⟨r0, r1⟩, ⟨f0, f1⟩⟩ := two_cells HR.out
      have HW9 := Lib.hid (own_set (own_set HW.out (show bT + 1 < BO by omega) 0 (.slice a8 k8 c8)) (show bT + 1 < BO by omega) 1 (.int .i64 nx))
      have HX := Lib.hid (ItmsT.own HW9.out rfl)
      have HZ : Hid (((wr.setCell ⟨bT + 1, 0, none⟩ (.slice a8 k8 c8)).setCell ⟨bT + 1, 1, none⟩ (.int .i64 nx)).heap[bT + 1]? = some (.cells #[.slice a8 k8 c8, .int .i64 nx] 28 (0, 0))) := Lib.hid (by
        rw [heap_setCell_same _ (bT + 1) 1 _ _ _ (heap_setCell_same _ (bT + 1) 0 _ _ _ HR.out)]
        rfl)
      have HB9 : Hid (Below bT w ((wr.setCell ⟨bT + 1, 0, none⟩ (.slice a8 k8 c8)).setCell ⟨bT + 1, 1, none⟩ (.int .i64 nx))) := Lib.hid ((HB.out.setCell (p := ⟨bT + 1, 0, none⟩) (by show bT ≤ bT + 1; omega) _).setCell (p := ⟨bT + 1, 1, none⟩) (by show bT ≤ bT + 1; omega) _)
      go_wp2
      refine bodyPost_ret (results_cell_row Tryz.results77 _ _ _ _ _ _ _ rfl HZ.out Tryz.underlying28 rfl treeElem_zero) rfl ⟨_, rfl, HX.out, ?_, ?_⟩
      · intro j hj
        have := (HW.out.lt j hj).1
        have := HBT.out
        omega
      · rw [HBT.out]
        exact HB9.out
end Go.Proofs.YtfioknaadbgjlaaGreatDoor
namespace Go.Proofs.YtfioknaadbgjlaaGreatDoor
open Go.RowKit Go.Sort
/-- The least number that no entry has, from n on, of k. -/
def freeGo (l : List Itm) : Nat → Nat → Nat
  | 0, _ => 0
  | k + 1, n => if kindI l n = 0 then n else freeGo l k (n + 1)
def freeN (l : List Itm) : Nat := freeGo l 200 1
def linkI (l : List Itm) (nx d : Int) (s : ByteArray) (isD : Bool) (sh : Int) : (List Itm × Int) × Int × Int :=
  if listE l d ≠ 0 then ((l, nx), 0, listE l d)
  else if badE s sh ≠ 0 then ((l, nx), 0, badE s sh)
  else if (findI l d s).2 = 0 then ((l, nx), 0, 6)
  else if freeN l = 0 then ((l, nx), 0, 12)
  else ((putI l nx d ⟨s, freeN l, isD, 0, sh⟩, nx + 1), freeN l, 0)
/-- A tree that came by value, at b, and the answer's block behind it. -/
structure Fr (w : World) (b : Nat) (v : Value) (nx : Int) (l : List Itm) (W : World) : Prop where
  t : TreeAt W b v nx
  r : W.heap[b + 1]? = some (.cells #[.slice none 0 0, .int .i64 0] 28 (0, 0))
  i : ItmsT W v l
  bel : Below b w W
  sz : w.heap.size = b
theorem Fr.below {w W W' : World} {b : Nat} {v : Value} {nx : Int} {l : List Itm} (h : Fr w b v nx l W) (hb : Below W.heap.size W W') : Fr w b v nx l W' :=
  ⟨h.t.below hb, by rw [hb.block _ (lt_of_get h.r)]; exact h.r, h.i.kept hb, h.bel.trans (hb.mono (by have := h.bel.size; have := h.sz; omega)), h.sz⟩
theorem Fr.cells {w W : World} {b : Nat} {v : Value} {nx : Int} {l : List Itm} (h : Fr w b v nx l W) : W.cell? ⟨b, 0, none⟩ = some v ∧ W.cell? ⟨b, 1, none⟩ = some (.int .i64 nx) ∧ W.cell? ⟨b + 1, 0, none⟩ = some (.slice none 0 0) ∧ W.cell? ⟨b + 1, 1, none⟩ = some (.int .i64 0) ∧ W.frozen? ⟨b + 1, 0, none⟩ = false ∧ W.frozen? ⟨b + 1, 1, none⟩ = false :=
  ⟨h.t.l.1, h.t.l.2, (two_cells h.r).1.1, (two_cells h.r).1.2, (two_cells h.r).2.1, (two_cells h.r).2.2⟩
/-- The answer's block is written. -/
theorem Fr.done {w W : World} {b : Nat} {v : Value} {nx : Int} {l : List Itm} (h : Fr w b v nx l W) {v8 : Value} {nx8 : Int} {l8 : List Itm} (h8 : ItmsT W v8 l8) (hb : v8.ownBlock ≠ some (b + 1)) :
    ((W.setCell ⟨b + 1, 0, none⟩ v8).setCell ⟨b + 1, 1, none⟩ (.int .i64 nx8)).heap[b + 1]? = some (.cells #[v8, .int .i64 nx8] 28 (0, 0)) ∧ ItmsT ((W.setCell ⟨b + 1, 0, none⟩ v8).setCell ⟨b + 1, 1, none⟩ (.int .i64 nx8)) v8 l8 ∧ Below w.heap.size w ((W.setCell ⟨b + 1, 0, none⟩ v8).setCell ⟨b + 1, 1, none⟩ (.int .i64 nx8)) := by
  refine ⟨?_, (h8.set hb 0 _).set hb 1 _, ?_⟩
  · rw [heap_setCell_same _ (b + 1) 1 _ _ _ (heap_setCell_same _ (b + 1) 0 _ _ _ h.r)]
    rfl
  · rw [h.sz]
    exact (h.bel.setCell (p := ⟨b + 1, 0, none⟩) (Nat.le_succ _) _).setCell (p := ⟨b + 1, 1, none⟩) (Nat.le_succ _) _
theorem Fr.own {w W : World} {b : Nat} {v : Value} {nx : Int} {l : List Itm} (h : Fr w b v nx l W) : v.ownBlock ≠ some (b + 1) := fun e => by
  obtain ⟨cs, hc⟩ := h.i.2 _ e
  exact block_ne hc h.r (by decide) rfl
theorem fr_new (w : World) (v : Value) (nx : Int) (l : List Itm) (hv : ItmsT w v l) : Fr w w.heap.size v nx l ((w.alloc (.cells #[v, .int .i64 nx] 28)).alloc (.cells #[.slice none 0 0, .int .i64 0] 28)) := by
  have hb : Below w.heap.size w ((w.alloc (.cells #[v, .int .i64 nx] 28)).alloc (.cells #[.slice none 0 0, .int .i64 0] 28)) := ((Below.refl _ w).alloc (Nat.le_refl _) _).alloc (by simp) _
  refine ⟨?_, heap_alloc2_new _ _ _, hv.kept hb, hb, rfl⟩
  unfold TreeAt
  rw [Below.heap_alloc _ _ _ (by simp)]
  exact heap_alloc_new _ _
theorem results_cell_two {fn : Func} {p u q : Tmp} {ty : TypeId} (h : fn.results = #[.cell p ty, .tmp u, .tmp q]) (tmps : Array Value) (P : Program) (w : World) :
    (results fn tmps).run P w =
      ((asAddr (tmps.getD p undef)).run P w).andThen fun a w₁ => ((loadVar ty a).run P w₁).andThen fun v w₂ => .ok (.tuple #[v, tmps.getD u undef, tmps.getD q undef]) w₂ := by
  simp only [results, h]
  simp [Sem.run_bind, Result.andThen]
def LinkPost (r : (List Itm × Int) × Int × Int) (w0 : World) (e : Ending) (w' : World) : Prop := ∃ v', e = .returned (.tuple #[treeV v' r.1.2, .int .i64 r.2.1, .int .i64 r.2.2]) ∧ ItmsT w' v' r.1.1 ∧ Below w0.heap.size w0 w'
set_option maxHeartbeats 8000000 in
set_option maxRecDepth 100000 in
theorem link10_c (v : Value) (l : List Itm) (nx d : Int) (s : ByteArray) (isD : Bool) (sh : Int) (w : World) (hv : ItmsT w v l) (hl : l.length ≤ 999) (hs : s.size ≤ 9223372036854775807) (hnx : nx + 1 ≤ 9223372036854775807) (hnx0 : 0 ≤ nx) :
    Calls Tryz.prog 41 #[treeV v nx, .int .i64 d, .string s, .bool isD, .int .i64 sh] w (LinkPost (linkI l nx d s isD sh) w) := by
  unfold LinkPost
  obtain ⟨R, hR⟩ : ∃ R, linkI l nx d s isD sh = R := ⟨_, rfl⟩
  rw [hR]
  unfold linkI at hR
  have HRR := Lib.hid hR
  obtain ⟨a, cap, rfl⟩ := hv.1.len
  have cL := fun W (h : ItmsT W (.slice a l.length cap) l) => list10_c (.slice a l.length cap) l nx d W h.1 (by omega)
  have cF := fun W (h : ItmsT W (.slice a l.length cap) l) => find10_c (.slice a l.length cap) l nx d s W h.1 (by omega)
  have cK := fun (n : Nat) W (h : ItmsT W (.slice a l.length cap) l) => kind10_c (.slice a l.length cap) l nx n W h.1 (by omega)
  have cP := fun (n : Nat) W (h : ItmsT W (.slice a l.length cap) l) => put10_c (.slice a l.length cap) l nx d ⟨s, n, isD, 0, sh⟩ W h.1 (by omega) hnx hnx0
  have cB := fun W => bad10_c s hs sh W
  obtain ⟨m, hm⟩ : ∃ m, l.length = m := ⟨_, rfl⟩
  simp only [hm] at cL cF cK cP
  rw [hm] at hv ⊢
  have HF0 := Lib.hid (fr_new w _ nx l hv)
  unfold treeV at cL cF cK cP ⊢
  unfold entV at cP
  clear hv hm hR hl
  go_enter Tryz.func41, Tryz.ntmps41
  go_upto_region 1 with fail
  generalize (w.alloc (.cells #[.slice a m cap, .int .i64 nx] 28)).alloc (.cells #[.slice none 0 0, .int .i64 0] 28) = W0 at *
  generalize hbT : w.heap.size = bT at *
  have HBT := Lib.hid hbT
  clear hbT
  have cL0 := cL W0 HF0.out.i
  unfold ListPost at cL0
  obtain ⟨t0, t1, r0, r1, f0, f1⟩ := HF0.out.cells
  have hLE : listE l d = 0 ∨ listE l d ≠ 0 := Decidable.em _
  have HE1 := Lib.hid (listE_cases l d)
  go_upto_region 2 with (go_at_call 46; refine cL0.mono ?_; rintro e w1 ⟨lv, rfl, hlv, hb1⟩; have HF1 := Lib.hid (HF0.out.below hb1); clear hlv hb1)
  clear cL cL0 HF0 t0 t1 r0 r1 f0 f1
  obtain ⟨t0, t1, r0, r1, f0, f1⟩ := HF1.out.cells
  rcases hLE with hLE | hLE
  · have HL0 := Lib.hid hLE
    rw [hLE]
    have cB1 := cB w1
    have hBE : badE s sh = 0 ∨ badE s sh ≠ 0 := Decidable.em _
    rcases hBE with hBE | hBE
    · have HBZ := Lib.hid hBE
      rw [hBE] at cB1
      have cF1 := cF w1 HF1.out.i
      unfold FindPost at cF1
      clear hBE hLE
      go_upto_region 7 with (first | (go_at_call 73; refine cB1.mono ?_; rintro e w2 ⟨rfl, rfl⟩) | (go_at_call 74; refine cF1.mono ?_; rintro e w3 ⟨rfl, hb3⟩; have HF3 := Lib.hid (HF1.out.below hb3); clear hb3))
      clear cF cF1 cB cB1 HF1 t0 t1 r0 r1 f0 f1
      obtain ⟨t0, t1, r0, r1, f0, f1⟩ := HF3.out.cells
      have hFE : (findI l d s).2 = 0 ∨ (findI l d s).2 ≠ 0 := Decidable.em _
      rcases hFE with hFE | hFE
      · rw [hFE]
        have HR9 : Hid (R = ((l, nx), 0, 6)) := Lib.hid (by rw [← HRR.out, if_neg (by rw [HL0.out]; simp), if_neg (by rw [HBZ.out]; simp), if_pos hFE])
        clear hFE cK cP
        obtain ⟨hz, hi, hb⟩ := HF3.out.done (nx8 := nx) HF3.out.i HF3.out.own
        have HZ := Lib.hid hz
        have HI := Lib.hid hi
        have HBE := Lib.hid hb
        clear hz hi hb
        go_wp2
        refine bodyPost_ret (v := .tuple #[treeV (.slice a m cap) (nx), .int .i64 (0), .int .i64 (6)]) ?_ rfl ?_
        · rw [results_cell_two rfl]
          go_simp
          rfl
        · rw [HR9.out]
          exact ⟨_, rfl, HI.out, HBE.out⟩
      · have hz : ((findI l d s).2 == 0) = false := by rw [beq_eq_false_iff_ne]; exact hFE
        have HFZ := Lib.hid hFE
        generalize (findI l d s).2 = FE at *
        clear hFE
        go_wp2
        go_loopw [15] (fun iv wr => ∃ n : Nat, 1 ≤ n ∧ n ≤ 201 ∧ iv = .int .i64 n ∧ freeGo l (201 - n) n = freeN l ∧ Fr w bT (.slice a m cap) nx l wr) (fun iv _ => 201 - (intOf iv).toNat)
        case atStart => exact ⟨1, by omega, by omega, rfl, rfl, HF3.out⟩
        case round =>
          obtain ⟨n, hn1, hn2, rfl, hgo, hfr⟩ := hrel
          clear HF3 t0 t1 r0 r1 f0 f1
          have HGO := Lib.hid hgo
          have HF3 := Lib.hid hfr
          obtain ⟨t0, t1, r0, r1, f0, f1⟩ := hfr.cells
          have cK1 := cK n wr hfr.i
          clear hgo hfr
          by_cases hn : n ≤ 200
          · have hnz : (n : Int) ≤ 200 := by omega
            have HST : Hid (freeN l = if kindI l n = 0 then n else freeGo l (201 - (n + 1)) (n + 1)) := Lib.hid (by
              rw [← HGO.out, show 201 - n = (200 - n) + 1 by omega, show 201 - (n + 1) = 200 - n by omega]
              rfl)
            have hK : kindI l n = 0 ∨ kindI l n ≠ 0 := Decidable.em _
            rcases hK with hK | hK
            · have HFN : Hid (freeN l = n) := Lib.hid (by rw [HST.out, if_pos hK])
              rw [hK] at cK1
              clear hK HGO
              go_upto_region 13 with (go_at_call 75; refine cK1.mono ?_; rintro e w5 ⟨rfl, hb5⟩; have HF5 := Lib.hid (HF3.out.below hb5); clear hb5)
              clear HF3 t0 t1 r0 r1 f0 f1
              obtain ⟨t0, t1, r0, r1, f0, f1⟩ := HF5.out.cells
              have cP1 := cP n w5 HF5.out.i
              unfold TreePost treeV at cP1
              have HR9 : Hid (R = ((putI l nx d ⟨s, n, isD, 0, sh⟩, nx + 1), (n : Int), 0)) := Lib.hid (by
                rw [← HRR.out, if_neg (by rw [HL0.out]; simp), if_neg (by rw [HBZ.out]; simp), if_neg HFZ.out, if_neg (by rw [HFN.out]; omega), HFN.out])
              go_wp2_with (go_at_call 76; refine cP1.mono ?_; rintro e w8 ⟨v8, rfl, hi8, hfr8, hb8⟩; obtain ⟨a8, c8, hv8⟩ := hi8.1.len; have HF8 := Lib.hid (HF5.out.below hb8); obtain ⟨hz, hi, hb⟩ := HF8.out.done (nx8 := nx + 1) hi8 (fun e => by have h1 := hfr8 _ e; have h2 := lt_of_get HF5.out.r; omega); have HZ := Lib.hid hz; have HI := Lib.hid hi; have HBE := Lib.hid hb; obtain ⟨q0, q1, y0, y1, x0, x1⟩ := HF8.out.cells; generalize (putI l nx d ⟨s, n, isD, 0, sh⟩).length = L8 at hv8; subst hv8; clear hz hi hb hi8 hfr8 hb8)
              refine bodyPost_ret (v := .tuple #[treeV (.slice a8 L8 c8) (nx + 1), .int .i64 n, .int .i64 0]) ?_ rfl ?_
              · rw [results_cell_two rfl]
                go_simp
                rfl
              · rw [HR9.out]
                exact ⟨_, rfl, HI.out, HBE.out⟩
            · have HFN : Hid (freeGo l (201 - (n + 1)) (n + 1) = freeN l) := Lib.hid (by rw [HST.out, if_neg hK])
              have hKz : (kindI l n == 0) = false := by rw [beq_eq_false_iff_ne]; exact hK
              clear hK HGO
              go_wp2_with (go_at_call 75; refine cK1.mono ?_; rintro e w5 ⟨rfl, hb5⟩; have HF5 := Lib.hid (HF3.out.below hb5); clear hb5)
              go_roundw
              case rel => exact ⟨n + 1, by omega, by omega, by first | rfl | go_num, HFN.out, HF5.out⟩
              case measure => simp [intOf]; omega
          · have hnz : ¬ (n : Int) ≤ 200 := by omega
            have HFN : Hid (freeN l = 0) := Lib.hid (by
              rw [← HGO.out, show 201 - n = 0 by omega]
              rfl)
            have HR9 : Hid (R = ((l, nx), 0, 12)) := Lib.hid (by rw [← HRR.out, if_neg (by rw [HL0.out]; simp), if_neg (by rw [HBZ.out]; simp), if_neg HFZ.out, if_pos HFN.out])
            clear cK1
            obtain ⟨hz, hi, hb⟩ := HF3.out.done (nx8 := nx) HF3.out.i HF3.out.own
            have HZ := Lib.hid hz
            have HI := Lib.hid hi
            have HBE := Lib.hid hb
            clear hz hi hb
            go_wp2
            refine bodyPost_ret (v := .tuple #[treeV (.slice a m cap) (nx), .int .i64 (0), .int .i64 (12)]) ?_ rfl ?_
            · rw [results_cell_two rfl]
              go_simp
              rfl
            · rw [HR9.out]
              exact ⟨_, rfl, HI.out, HBE.out⟩
    · have hz : (badE s sh == 0) = false := by rw [beq_eq_false_iff_ne]; exact hBE
      have hz2 : (badE s sh != 0) = true := by rw [bne, hz]; rfl
      have HR9 : Hid (R = ((l, nx), 0, badE s sh)) := Lib.hid (by rw [← HRR.out, if_neg (by rw [HL0.out]; simp), if_pos hBE])
      generalize badE s sh = BE at *
      clear hLE hBE cF cK cP
      go_upto_region 5 with (go_at_call 73; refine cB1.mono ?_; rintro e w2 ⟨rfl, rfl⟩)
      have HK : Hid (∀ (W : World) (x y : Value), (W.cell? ⟨bT, 0, none⟩ = some (.slice a m cap) ∧ W.cell? ⟨bT, 1, none⟩ = some (.int .i64 nx)) → (((W.setCell ⟨bT + 1, 0, none⟩ x).setCell ⟨bT + 1, 1, none⟩ y).cell? ⟨bT, 0, none⟩ = some (.slice a m cap) ∧ ((W.setCell ⟨bT + 1, 0, none⟩ x).setCell ⟨bT + 1, 1, none⟩ y).cell? ⟨bT, 1, none⟩ = some (.int .i64 nx))) := Lib.hid (fun W x y h => by
        have e : ((W.setCell ⟨bT + 1, 0, none⟩ x).setCell ⟨bT + 1, 1, none⟩ y).heap[bT]? = W.heap[bT]? := by rw [Below.heap_setCell _ _ _ _ (by show bT ≠ bT + 1; omega), Below.heap_setCell _ _ _ _ (by show bT ≠ bT + 1; omega)]
        exact ⟨by rw [World.cell?_of_block (w := W) (a := ⟨bT, 0, none⟩) e]; exact h.1, by rw [World.cell?_of_block (w := W) (a := ⟨bT, 1, none⟩) e]; exact h.2⟩)
      have HFD : Hid (Fr w bT (.slice a m cap) nx l w2.drew) := Lib.hid (HF1.out.below (Below.refl _ _).drew)
      have u0 : w2.drew.cell? ⟨bT, 0, none⟩ = some (.slice a m cap) := t0
      have u1 : w2.drew.cell? ⟨bT, 1, none⟩ = some (.int .i64 nx) := t1
      have v0 : w2.drew.cell? ⟨bT + 1, 0, none⟩ = some (.slice none 0 0) := r0
      have v1 : w2.drew.cell? ⟨bT + 1, 1, none⟩ = some (.int .i64 0) := r1
      have g0 : w2.drew.frozen? ⟨bT + 1, 0, none⟩ = false := f0
      have g1 : w2.drew.frozen? ⟨bT + 1, 1, none⟩ = false := f1
      go_region_held3 (fun W => W.cell? ⟨bT, 0, none⟩ = some (.slice a m cap) ∧ W.cell? ⟨bT, 1, none⟩ = some (.int .i64 nx)) (first | exact ⟨‹_›, ‹_›⟩ | exact HK.out _ _ _ ⟨‹_›, ‹_›⟩ | assumption | (constructor <;> assumption)) ((go_at_call 73; refine (cB _).mono ?_; rintro e w9 ⟨rfl, rfl⟩))
      all_goals
        obtain ⟨hz, hi, hb⟩ := HFD.out.done (nx8 := nx) HFD.out.i HFD.out.own
        have HZ := Lib.hid hz
        have HI := Lib.hid hi
        have HBE := Lib.hid hb
        clear hz hi hb
        go_wp2
        refine bodyPost_ret (v := .tuple #[treeV (.slice a m cap) nx, .int .i64 0, .int .i64 BE]) ?_ rfl ?_
        · rw [results_cell_two rfl]
          go_simp
          rfl
        · rw [HR9.out]
          exact ⟨_, rfl, HI.out, HBE.out⟩
  · have hz : (listE l d == 0) = false := by rw [beq_eq_false_iff_ne]; exact hLE
    have hz2 : (listE l d != 0) = true := by rw [bne, hz]; rfl
    have HR9 : Hid (R = ((l, nx), 0, listE l d)) := Lib.hid (by rw [← HRR.out, if_pos hLE])
    clear cF cK cP cB
    obtain ⟨hz, hi, hb⟩ := HF1.out.done (nx8 := nx) HF1.out.i HF1.out.own
    have HZ := Lib.hid hz
    have HI := Lib.hid hi
    have HBE := Lib.hid hb
    clear hz hi hb
    go_wp2
    refine bodyPost_ret (v := .tuple #[treeV (.slice a m cap) (nx), .int .i64 (0), .int .i64 (listE l d)]) ?_ rfl ?_
    · rw [results_cell_two rfl]
      go_simp
      rfl
    · rw [HR9.out]
      exact ⟨_, rfl, HI.out, HBE.out⟩
end Go.Proofs.YtfioknaadbgjlaaGreatDoor
namespace Go.Proofs.YtfioknaadbgjlaaGreatDoor
open Go.RowKit Go.Sort
theorem below_drewN1 {B : Nat} {a w : World} (h : Below B a w) : ∀ q, Below B a (w.drewN q)
  | 0 => h
  | q + 1 => (below_drewN1 h q).drew
def hasIn (l : List Itm) (n : Int) : Bool := l.any fun x => decide (x.inn = n)
theorem hasIn_cons (x : Itm) (l : List Itm) (n : Int) : hasIn (x :: l) n = (decide (x.inn = n) || hasIn l n) := rfl
def unlinkI (l : List Itm) (nx d : Int) (s : ByteArray) (isD : Bool) : (List Itm × Int) × Int :=
  if (findI l d s).2 ≠ 0 then ((l, nx), (findI l d s).2)
  else if isD = true ∧ (findI l d s).1.dir = false then ((l, nx), 8)
  else if isD = false ∧ (findI l d s).1.dir = true then ((l, nx), 7)
  else if hasIn l (findI l d s).1.node = true then ((l, nx), 9)
  else ((dropI l d s, nx), 0)
def UnPost (r : (List Itm × Int) × Int) (w0 : World) (e : Ending) (w' : World) : Prop := ∃ v', e = .returned (.tuple #[treeV v' r.1.2, .int .i64 r.2]) ∧ ItmsT w' v' r.1.1 ∧ Below w0.heap.size w0 w'
set_option maxHeartbeats 8000000 in
set_option maxRecDepth 100000 in
theorem unlink10_c (v : Value) (l : List Itm) (nx d : Int) (s : ByteArray) (isD : Bool) (w : World) (hv : ItmsT w v l) (hl : l.length ≤ 999) :
    Calls Tryz.prog 42 #[treeV v nx, .int .i64 d, .string s, .bool isD] w (UnPost (unlinkI l nx d s isD) w) := by
  unfold UnPost
  obtain ⟨R, hR⟩ : ∃ R, unlinkI l nx d s isD = R := ⟨_, rfl⟩
  rw [hR]
  unfold unlinkI at hR
  have HRR := Lib.hid hR
  obtain ⟨a, cap, rfl⟩ := hv.1.len
  have cF := fun W (h : ItmsT W (.slice a l.length cap) l) => find10_c (.slice a l.length cap) l nx d s W h.1 (by omega)
  have cD := fun W (h : ItmsT W (.slice a l.length cap) l) => drop10_c (.slice a l.length cap) l nx d s W h.1 (by omega)
  obtain ⟨m, hm⟩ : ∃ m, l.length = m := ⟨_, rfl⟩
  have HM := Lib.hid hm
  simp only [hm] at cF cD
  rw [hm] at hv hl ⊢
  have HF0 := Lib.hid (fr_new w _ nx l hv)
  unfold treeV at cF cD ⊢
  clear hv hm hR
  go_enter Tryz.func42, Tryz.ntmps42
  go_upto_region 1 with fail
  generalize (w.alloc (.cells #[.slice a m cap, .int .i64 nx] 28)).alloc (.cells #[.slice none 0 0, .int .i64 0] 28) = W0 at *
  generalize hbT : w.heap.size = bT at *
  have HBT := Lib.hid hbT
  clear hbT
  have cF0 := cF W0 HF0.out.i
  unfold FindPost entV at cF0
  obtain ⟨t0, t1, r0, r1, f0, f1⟩ := HF0.out.cells
  generalize hFI : findI l d s = F at *
  clear hFI
  obtain ⟨⟨nm, nd, dr, ck, sh⟩, FE⟩ := F
  simp only at cF0 HRR
  go_upto_region 2 with (go_at_call 74; refine cF0.mono ?_; rintro e w1 ⟨rfl, hb1⟩; have HF1 := Lib.hid (HF0.out.below hb1); clear hb1)
  clear cF cF0 HF0 t0 t1 r0 r1 f0 f1
  have HFX : Hid (Fr w bT (.slice a m cap) nx l (w1.alloc (.cells #[.string nm, .int .i64 nd, .bool dr, .int .i64 ck, .int .i64 sh] 47))) := Lib.hid (HF1.out.below ((Below.refl _ w1).alloc (Nat.le_refl _) _))
  have HEB : Hid ((w1.alloc (.cells #[.string nm, .int .i64 nd, .bool dr, .int .i64 ck, .int .i64 sh] 47)).heap[w1.heap.size]? = some (.cells #[.string nm, .int .i64 nd, .bool dr, .int .i64 ck, .int .i64 sh] 47 (0, 0))) := Lib.hid (heap_alloc_new _ _)
  generalize w1.alloc (.cells #[.string nm, .int .i64 nd, .bool dr, .int .i64 ck, .int .i64 sh] 47) = W2 at *
  generalize w1.heap.size = bX at *
  clear HF1
  obtain ⟨t0, t1, r0, r1, f0, f1⟩ := HFX.out.cells
  obtain ⟨⟨x0, x1, x2, x3, x4⟩, _⟩ := five_cells HEB.out
  by_cases hFE : FE = 0
  · have HR1 : Hid ((if isD = true ∧ dr = false then ((l, nx), (8 : Int)) else if isD = false ∧ dr = true then ((l, nx), 7) else if hasIn l nd = true then ((l, nx), 9) else ((dropI l d s, nx), 0)) = R) := Lib.hid (by rw [← HRR.out, if_neg (show ¬ FE ≠ 0 by rw [hFE]; simp)])
    subst hFE
    clear HRR
    by_cases h8 : isD = true ∧ dr = false
    · have HR9 : Hid (R = ((l, nx), 8)) := Lib.hid (by rw [← HR1.out, if_pos h8])
      obtain ⟨rfl, rfl⟩ := h8
      clear cD
      obtain ⟨hz, hi, hb⟩ := HFX.out.done (nx8 := nx) HFX.out.i HFX.out.own
      have HZ := Lib.hid hz
      have HI := Lib.hid hi
      have HBE := Lib.hid hb
      clear hz hi hb
      go_wp2
      refine bodyPost_ret (v := .tuple #[treeV (.slice a m cap) (nx), .int .i64 (8)]) ?_ rfl ?_
      · rw [results_cell_tmp rfl]
        go_simp
        rfl
      · rw [HR9.out]
        exact ⟨_, rfl, HI.out, HBE.out⟩
    · by_cases h7 : isD = false ∧ dr = true
      · have HR9 : Hid (R = ((l, nx), 7)) := Lib.hid (by rw [← HR1.out, if_neg h8, if_pos h7])
        obtain ⟨rfl, rfl⟩ := h7
        clear cD h8
        obtain ⟨hz, hi, hb⟩ := HFX.out.done (nx8 := nx) HFX.out.i HFX.out.own
        have HZ := Lib.hid hz
        have HI := Lib.hid hi
        have HBE := Lib.hid hb
        clear hz hi hb
        go_wp2
        refine bodyPost_ret (v := .tuple #[treeV (.slice a m cap) (nx), .int .i64 (7)]) ?_ rfl ?_
        · rw [results_cell_tmp rfl]
          go_simp
          rfl
        · rw [HR9.out]
          exact ⟨_, rfl, HI.out, HBE.out⟩
      · have HR2 : Hid ((if hasIn l nd = true then ((l, nx), (9 : Int)) else ((dropI l d s, nx), 0)) = R) := Lib.hid (by rw [← HR1.out, if_neg h8, if_neg h7])
        have hdd : dr = isD := by
          cases isD <;> cases dr <;> simp_all
        subst hdd
        clear h8 h7 HR1
        have hwalk : dr = true ∨ dr = false := by cases dr <;> simp
        rcases hwalk with rfl | rfl
        all_goals
          go_upto_region 8 with fail
          generalize hW2 : W2 = W3 at *
          clear hW2
          go_wp2
          go_loopw [12] (fun iv wr => ∃ i : Nat, i ≤ m ∧ iv = .int .i64 i ∧ hasIn (l.drop i) nd = hasIn l nd ∧ Fr w bT (.slice a m cap) nx l wr ∧ wr.cell? ⟨bX, 1, none⟩ = some (.int .i64 nd)) (fun iv _ => m - (intOf iv).toNat)
          case atStart => exact ⟨0, by omega, rfl, rfl, HFX.out, x1⟩
          case round =>
            obtain ⟨i, hi, rfl, hgo, hfr, hx1⟩ := hrel
            clear HFX t0 t1 r0 r1 f0 f1 x0 x1 x2 x3 x4 HEB
            have HGO := Lib.hid hgo
            have HFX := Lib.hid hfr
            obtain ⟨t0, t1, r0, r1, f0, f1⟩ := hfr.cells
            clear hgo hfr
            by_cases him : i < m
            · have hiz : (i : Int) < (m : Int) := by omega
              obtain ⟨x, hx⟩ : ∃ x, l[i]? = some x := ⟨_, List.getElem?_eq_getElem (by rw [HM.out]; omega)⟩
              obtain ⟨g, off, rfl, hg, hrg⟩ := HFX.out.i.1.at hx
              have d0 := (itm_at hrg).1
              have HG : Hid (hasIn l nd = (decide (x.inn = nd) || hasIn (l.drop (i + 1)) nd)) := Lib.hid (by rw [← HGO.out, drop_eq_cons hx, hasIn_cons])
              clear hx hrg
              generalize x.inn = inn at *
              by_cases hin : inn = nd
              · subst hin
                have HR9 : Hid (R = ((l, nx), 9)) := Lib.hid (by rw [← HR2.out, if_pos (by rw [HG.out]; simp)])
                go_wp2
                go_quiet (fail)
                have HFQ := Lib.hid (HFX.out.below (below_drewN1 (Below.refl _ _) nq))
                generalize wr.drewN nq = wq at *
                clear HFX t0 t1 r0 r1 f0 f1 d0 hx1
                obtain ⟨t0, t1, r0, r1, f0, f1⟩ := HFQ.out.cells
                clear cD
                obtain ⟨hz, hi, hb⟩ := HFQ.out.done (nx8 := nx) HFQ.out.i HFQ.out.own
                have HZ := Lib.hid hz
                have HI := Lib.hid hi
                have HBE := Lib.hid hb
                clear hz hi hb
                go_wp2
                refine bodyPost_ret (v := .tuple #[treeV (.slice (some ⟨g, off, none⟩) m cap) (nx), .int .i64 (9)]) ?_ rfl ?_
                · rw [results_cell_tmp rfl]
                  go_simp
                  rfl
                · rw [HR9.out]
                  exact ⟨_, rfl, HI.out, HBE.out⟩
              · have HGN : Hid (hasIn (l.drop (i + 1)) nd = hasIn l nd) := Lib.hid (by rw [HG.out, decide_eq_false hin, Bool.false_or])
                have e1 : (inn == nd) = false := by rw [beq_eq_false_iff_ne]; exact hin
                go_wp2
                go_quiet (fail)
                have HFQ := Lib.hid (HFX.out.below (below_drewN1 (Below.refl _ _) nq))
                have hxq : (wr.drewN nq).cell? ⟨bX, 1, none⟩ = some (.int .i64 nd) := by
                  rw [(below_drewN1 (Below.refl wr.heap.size wr) nq).cell (p := ⟨bX, 1, none⟩) (World.block_lt_of_cell? wr ⟨bX, 1, none⟩ hx1)]
                  exact hx1
                have HXQ := Lib.hid hxq
                clear hxq
                go_wp2
                go_roundw
                case rel => exact ⟨i + 1, by omega, by first | rfl | go_num, HGN.out, HFQ.out, HXQ.out⟩
                case measure => simp [intOf]; omega
            · have hiz : ¬ (i : Int) < (m : Int) := by omega
              have HGN : Hid (hasIn l nd = false) := Lib.hid (by
                rw [← HGO.out, List.drop_of_length_le (by rw [HM.out]; omega)]
                rfl)
              have HR9 : Hid (R = ((dropI l d s, nx), 0)) := Lib.hid (by rw [← HR2.out, if_neg (by rw [HGN.out]; simp)])
              have cD1 := cD wr HFX.out.i
              unfold TreePost treeV at cD1
              clear cD
              go_wp2_with (go_at_call 77; refine cD1.mono ?_; rintro e w8 ⟨v8, rfl, hi8, hfr8, hb8⟩; obtain ⟨a8, c8, hv8⟩ := hi8.1.len; have HF8 := Lib.hid (HFX.out.below hb8); obtain ⟨hz, hi, hb⟩ := HF8.out.done (nx8 := nx) hi8 (fun e => by have h1 := hfr8 _ e; have h2 := lt_of_get HFX.out.r; omega); have HZ := Lib.hid hz; have HI := Lib.hid hi; have HBE := Lib.hid hb; obtain ⟨q0, q1, y0, y1, z0, z1⟩ := HF8.out.cells; generalize (dropI l d s).length = L8 at hv8; subst hv8; clear hz hi hb hi8 hfr8 hb8)
              refine bodyPost_ret (v := .tuple #[treeV (.slice a8 L8 c8) nx, .int .i64 0]) ?_ rfl ?_
              · rw [results_cell_tmp rfl]
                go_simp
                rfl
              · rw [HR9.out]
                exact ⟨_, rfl, HI.out, HBE.out⟩
  · have HR9 : Hid (R = ((l, nx), FE)) := Lib.hid (by rw [← HRR.out, if_pos hFE])
    have hz : (FE == 0) = false := by rw [beq_eq_false_iff_ne]; exact hFE
    have hz2 : (FE != 0) = true := by rw [bne, hz]; rfl
    clear cD
    obtain ⟨hz, hi, hb⟩ := HFX.out.done (nx8 := nx) HFX.out.i HFX.out.own
    have HZ := Lib.hid hz
    have HI := Lib.hid hi
    have HBE := Lib.hid hb
    clear hz hi hb
    go_wp2
    refine bodyPost_ret (v := .tuple #[treeV (.slice a m cap) (nx), .int .i64 (FE)]) ?_ rfl ?_
    · rw [results_cell_tmp rfl]
      go_simp
      rfl
    · rw [HR9.out]
      exact ⟨_, rfl, HI.out, HBE.out⟩
end Go.Proofs.YtfioknaadbgjlaaGreatDoor
