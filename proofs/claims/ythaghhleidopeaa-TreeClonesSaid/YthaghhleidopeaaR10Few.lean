/-
  Prepared for stage 10: the reference's Few, and Dirs.
-/
import Derived.Test.YthaghhleidopeaaR10Same
namespace Go.Proofs.Ythaghhleidopeaa
open Go.RowKit Go.Sort
set_option linter.unusedVariables false

abbrev OpTs := @LstIs OpT opC 7
theorem op_at {w : World} {g p : Nat} {x : OpT} (h : w.rangeAt g p (opC x)) : w.cell? ⟨g, p, none⟩ = some (.int .u8 x.k) ∧ w.cell? ⟨g, p + 1, none⟩ = some (.int .i64 x.d) ∧ w.cell? ⟨g, p + 2, none⟩ = some (.int .i64 x.dt) ∧ w.cell? ⟨g, p + 3, none⟩ = some (.string x.s) ∧ w.cell? ⟨g, p + 4, none⟩ = some (.string x.ns) ∧ w.cell? ⟨g, p + 5, none⟩ = some (.bool x.isD) ∧ w.cell? ⟨g, p + 6, none⟩ = some (.int .i64 x.sh) :=
  ⟨h 0 _ rfl, h 1 _ rfl, h 2 _ rfl, h 3 _ rfl, h 4 _ rfl, h 5 _ rfl, h 6 _ rfl⟩
def shortOp (x : OpT) : Bool := decide (x.s.size ≤ 400) && decide (x.ns.size ≤ 400)
def fewI (l : List OpT) (n : Nat) : Bool := (l.take 500).all shortOp && decide (l.length ≤ n)
theorem fewI_spec {l : List OpT} {n : Nat} (h : fewI l n = true) (hn : n ≤ 500) : l.length ≤ n ∧ ∀ x ∈ l, x.s.size ≤ 400 ∧ x.ns.size ≤ 400 := by
  unfold fewI at h
  rw [Bool.and_eq_true, decide_eq_true_eq] at h
  refine ⟨h.2, fun x hx => ?_⟩
  rw [List.take_of_length_le (by omega)] at h
  have := List.all_eq_true.1 h.1 x hx
  unfold shortOp at this
  simpa using this
theorem take500 {l : List OpT} {i : Nat} {x : OpT} (hx : l[i]? = some x) (hi : i < 500) : (l.drop i).take (500 - i) = x :: (l.drop (i + 1)).take (500 - (i + 1)) := by
  rw [drop_eq_cons hx, show 500 - i = (500 - (i + 1)) + 1 by omega, List.take_succ_cons]
set_option maxHeartbeats 4000000 in
theorem few10_c (v : Value) (l : List OpT) (n : Nat) (w : World) (hv : OpTs w v l) (hl : l.length ≤ 9223372036854775807) (hn : n ≤ 1000) (hs : ∀ x ∈ l, x.s.size ≤ 9223372036854775807 ∧ x.ns.size ≤ 9223372036854775807) :
    Calls Try.prog 9 #[v, .int .i64 (n : Int)] w fun e w' => e = .returned (.bool (fewI l n)) ∧ w' = w := by
  obtain ⟨a, cap, rfl⟩ := hv.len
  obtain ⟨R, hR⟩ : ∃ R, fewI l n = R := ⟨_, rfl⟩
  rw [hR]
  have HRR := Lib.hid hR
  have HV := Lib.hid hv
  obtain ⟨m, hm⟩ : ∃ m, l.length = m := ⟨_, rfl⟩
  have HM := Lib.hid hm
  rw [hm] at hl ⊢
  have HS := Lib.hid hs
  clear hv hm hR hs
  go_enter Try.func9, Try.ntmps9
  go_wp2
  go_loop [5] (fun iv => ∃ i : Nat, i ≤ m ∧ i ≤ 500 ∧ iv = .int .i64 i ∧ (((l.drop i).take (500 - i)).all shortOp && decide (l.length ≤ n)) = R) (fun iv => 501 - (intOf iv).toNat)
  case atStart => exact ⟨0, by omega, by omega, rfl, HRR.out⟩
  case round =>
    obtain ⟨i, hi, hi5, rfl, hgo⟩ := hrel
    have HGO := Lib.hid hgo
    clear hgo
    by_cases him : i < m ∧ i < 500
    · obtain ⟨h1, h2⟩ := him
      have h1z : (i : Int) < (m : Int) := by omega
      have h2z : (i : Int) < 500 := by omega
      obtain ⟨x, hx⟩ : ∃ x, l[i]? = some x := ⟨_, List.getElem?_eq_getElem (by rw [HM.out]; omega)⟩
      obtain ⟨g, off, rfl, hg, hr⟩ := HV.out.at hx
      obtain ⟨d0, d1, d2, d3, d4, d5, d6⟩ := op_at hr
      have hsx := HS.out x (List.mem_of_getElem? hx)
      have HG : Hid ((shortOp x && (((l.drop (i + 1)).take (500 - (i + 1))).all shortOp && decide (l.length ≤ n))) = R) := Lib.hid (by rw [← HGO.out, take500 hx h2, List.all_cons, Bool.and_assoc])
      obtain ⟨hs1, hs2⟩ := hsx
      clear hx hr hg
      obtain ⟨k, d, dt, s, ns, isD, sh⟩ := x
      simp only at d0 d1 d2 d3 d4 d5 d6 hs1 hs2
      by_cases hb : 400 < s.size ∨ 400 < ns.size
      · have HF : Hid (R = false) := Lib.hid (by
          rw [← HG.out, Bool.and_eq_false_iff]
          left
          unfold shortOp
          simp only [Bool.and_eq_false_iff, decide_eq_false_iff_not]
          omega)
        by_cases hb1 : 400 < s.size
        · have e1 : (400 : Int) < (s.size : Int) := by omega
          have e2 := decide_eq_true e1
          clear hb
          go_wp2
          go_ret
          exact ⟨by rw [HF.out]; rfl, rfl⟩
        · have e1 : ¬ (400 : Int) < (s.size : Int) := by omega
          have e2 := decide_eq_false e1
          have e3 : (400 : Int) < (ns.size : Int) := by omega
          have e4 := decide_eq_true e3
          clear hb
          go_wp2
          go_ret
          exact ⟨by rw [HF.out]; rfl, rfl⟩
      · have HF : Hid ((((l.drop (i + 1)).take (500 - (i + 1))).all shortOp && decide (l.length ≤ n)) = R) := Lib.hid (by
          have h9 := HG.out
          rw [show shortOp ⟨k, d, dt, s, ns, isD, sh⟩ = true by unfold shortOp; simp; omega, Bool.true_and] at h9
          exact h9)
        have e1 : ¬ (400 : Int) < (s.size : Int) := by omega
        have e2 := decide_eq_false e1
        have e3 : ¬ (400 : Int) < (ns.size : Int) := by omega
        have e4 := decide_eq_false e3
        clear hb
        go_wp2
        go_round
        case rel => exact ⟨i + 1, by omega, by omega, by first | rfl | go_num, HF.out⟩
        case measure => simp [intOf]; omega
    · have HF : Hid (R = decide (m ≤ n)) := Lib.hid (by
        rw [← HGO.out]
        have : (l.drop i).take (500 - i) = [] := by
          by_cases h5 : i = 500
          · subst h5; rfl
          · rw [List.drop_of_length_le (by rw [HM.out]; omega), List.take_nil]
        rw [this, HM.out]
        rfl)
      have hlast : decide ((m : Int) ≤ (n : Int)) = decide (m ≤ n) := by
        congr 1
        exact propext (by omega)
      by_cases hmi : i < m
      · have h1z : (i : Int) < (m : Int) := by omega
        have h2z : ¬ (i : Int) < 500 := by omega
        have e1 := decide_eq_true h1z
        have e2 := decide_eq_false h2z
        clear him
        go_wp2
        go_ret
        exact ⟨by rw [HF.out, ← hlast]; simp, rfl⟩
      · have h1z : ¬ (i : Int) < (m : Int) := by omega
        have e1 := decide_eq_false h1z
        clear him
        go_wp2
        go_ret
        exact ⟨by rw [HF.out, ← hlast]; simp, rfl⟩
/-! Lists of numbers. -/
def numC (x : Int) : List Value := [.int .i64 x]
abbrev NumsL := @LstIs Int numC 1
theorem numC_len (l : List Int) : ∀ x ∈ l, (numC x).length = 1 := fun _ _ => rfl
theorem numC_one (l : List Int) : ∀ x ∈ l, ∀ u ∈ numC x, u.oneCell' = true := fun x _ u hu => by
  obtain rfl := List.mem_singleton.1 hu
  rfl
theorem intElem : ElemOf Try.prog 65 3 1 :=
  ⟨Try.underlying65, by
    have h : (Try.prog.info? 3).map (fun i => (i.zero, i.size, i.bytes)) = some (some (.int .i64 0), 1, 8) := by kernel_rfl
    obtain ⟨i0, h1, h2, h3, h4⟩ := info_parts h
    exact ⟨i0, _, 8, h1, h2, h3, h4, rfl, by decide⟩, by decide⟩
theorem num_at {w : World} {g p : Nat} {x : Int} (h : w.rangeAt g p (numC x)) : w.cell? ⟨g, p, none⟩ = some (.int .i64 x) := h 0 _ rfl
/-- All directories below n. -/
def dirsTo (l : List Itm) (n : Nat) : List Int := ((List.range n).map Int.ofNat).filter fun x => decide (kindI l x = 2)
def dirsI (l : List Itm) : List Int := dirsTo l 201
theorem dirsTo_succ (l : List Itm) (n : Nat) : dirsTo l (n + 1) = dirsTo l n ++ (if kindI l (n : Int) = 2 then [(n : Int)] else []) := by
  unfold dirsTo
  rw [List.range_succ, List.map_append, List.filter_append]
  congr 1
  by_cases h : kindI l (n : Int) = 2 <;> simp [h]
theorem dirsTo_le (l : List Itm) (n : Nat) : (dirsTo l n).length ≤ n := by
  unfold dirsTo
  exact Nat.le_trans (List.length_filter_le _ _) (by simp)
def DirsPost (r : List Int) (w0 : World) (e : Ending) (w' : World) : Prop := ∃ v', e = .returned v' ∧ NumsL w' v' r ∧ Below w0.heap.size w0 w'
set_option maxHeartbeats 4000000 in
theorem dirs10_c (v : Value) (l : List Itm) (nx : Int) (w : World) (hv : ItmsT w v l) (hl : l.length ≤ 999) :
    Calls Try.prog 45 #[treeV v nx] w (DirsPost (dirsI l) w) := by
  unfold DirsPost
  obtain ⟨a, cap, rfl⟩ := hv.1.len
  have cK := fun (n : Nat) W (h : ItmsT W (.slice a l.length cap) l) => kind10_c (.slice a l.length cap) l nx n W h.1 (by omega)
  obtain ⟨m, hm⟩ : ∃ m, l.length = m := ⟨_, rfl⟩
  simp only [hm] at cK
  rw [hm] at hv ⊢
  have hb0 : Below w.heap.size w (w.alloc (.cells #[.slice a m cap, .int .i64 nx] 48)) := (Below.refl _ w).alloc (Nat.le_refl _) _
  have HT : Hid (TreeAt (w.alloc (.cells #[.slice a m cap, .int .i64 nx] 48)) w.heap.size (.slice a m cap) nx) := Lib.hid (heap_alloc_new _ _)
  have HI := Lib.hid (hv.kept hb0)
  have HB := Lib.hid hb0
  have HZ : Hid ((w.alloc (.cells #[.slice a m cap, .int .i64 nx] 48)).heap.size = w.heap.size + 1) := Lib.hid (by simp)
  unfold treeV at cK ⊢
  clear hv hm hb0
  go_enter Try.func45, Try.ntmps45
  go_upto_region 1 with fail
  generalize w.alloc (.cells #[.slice a m cap, .int .i64 nx] 48) = W0 at *
  generalize hbT : w.heap.size = bT at *
  have HBT := Lib.hid hbT
  clear hbT
  go_wp2
  go_loopw [3, 4] (fun ov iv wr => ∃ n : Nat, n ≤ 201 ∧ iv = .int .i64 n ∧ wr.ownsRow W0.heap.size 3 1 ov (dirsTo l n).length ((dirsTo l n).flatMap numC) ∧ Below W0.heap.size W0 wr) (fun _ iv _ => 201 - (intOf iv).toNat)
  case atStart => exact ⟨0, by omega, rfl, World.ownsRow_nil _ _ _ _, Below.refl _ _⟩
  case round =>
    obtain ⟨n, hn, rfl, hrow, hb⟩ := hrel
    have HW := Lib.hid hrow
    have HBW := Lib.hid hb
    have HTr := Lib.hid (HT.out.below hb)
    obtain ⟨t0, t1⟩ := HTr.out.l
    have cK1 := cK n wr (HI.out.kept hb)
    have hdl := dirsTo_le l n
    have HSC := Lib.hid (dirsTo_succ l n)
    have hsz := hb.size
    clear hrow hb
    by_cases hn2 : n ≤ 200
    · have hnz : (n : Int) ≤ 200 := by omega
      by_cases hk : kindI l (n : Int) = 2
      · rw [hk] at cK1
        have HS2 : Hid (dirsTo l (n + 1) = dirsTo l n ++ [(n : Int)]) := Lib.hid (by rw [HSC.out, if_pos hk])
        clear hk HSC
        go_upto_region 6 with (go_at_call 44; refine cK1.mono ?_; rintro e w5 ⟨rfl, hb5⟩; have HB5 := Lib.hid (HBW.out.trans (hb5.mono hsz)); have HW5 : Hid (World.ownsRow w5 W0.heap.size 3 1 u3 (dirsTo l n).length ((dirsTo l n).flatMap numC)) := Lib.hid (HW.out.kept (row := none) ⟨hb5.os, hb5.tape, hb5.output, hb5.size, fun k hk _ => hb5.block k hk⟩ (by cases h : u3.ownBlock with | none => exact Or.inl rfl | some x => exact Or.inr (by simp))); have hs5 : W0.heap.size ≤ w5.heap.size := HB5.out.size; clear hb5)
        have HOA : Hid (World.ownsRow (w5.alloc (.cells #[.int .i64 (n : Int)] 3)) W0.heap.size 3 1 u3 (dirsTo l n).length ((dirsTo l n).flatMap numC)) := Lib.hid (HW5.out.alloc _)
        have HIA : Hid (NumsL (w5.alloc (.cells #[.int .i64 (n : Int)] 3)) (.slice (some ⟨w5.heap.size, 0, none⟩) 1 1) [(n : Int)]) := Lib.hid (LstIs.block (numC_len _) (heap_alloc_new _ _))
        have hsa : W0.heap.size ≤ (w5.alloc (.cells #[.int .i64 (n : Int)] 3)).heap.size := by show _ ≤ (w5.heap.push _).size; simp; omega
        have HSA := Lib.hid hsa
        have HBA : Hid (Below W0.heap.size W0 (w5.alloc (.cells #[.int .i64 (n : Int)] 3))) := Lib.hid (HB5.out.alloc hs5 _)
        have hlen : (dirsTo l n).length + [(n : Int)].length ≤ 100000 := by simp; omega
        clear hsa
        go_wp2_with (at_builtin; refine wpList_append_lst intElem rfl _ _ rfl W0.heap.size _ _ _ rfl HOA.out _ [(n : Int)] (numC_len _) (numC_one _) rfl HIA.out hlen HSA.out ?_; intro v8 w8 ho8 hg8 hr8; have HB8 := Lib.hid (HBA.out.grown hg8 HSA.out (fun j hj => (HOA.out.lt j hj).1)); have HO8 := Lib.hid ho8; clear ho8 hg8 hr8)
        go_roundw
        case rel => exact ⟨n + 1, by omega, by first | rfl | go_num, by rw [HS2.out, List.length_append, List.flatMap_append]; exact HO8.out, HB8.out⟩
        case measure => simp [intOf]; omega
      · have hkz : (kindI l (n : Int) == 2) = false := by rw [beq_eq_false_iff_ne]; exact hk
        have HS2 : Hid (dirsTo l (n + 1) = dirsTo l n) := Lib.hid (by rw [HSC.out, if_neg hk, List.append_nil])
        clear hk HSC
        go_wp2_with (go_at_call 44; refine cK1.mono ?_; rintro e w5 ⟨rfl, hb5⟩; have HB5 := Lib.hid (HBW.out.trans (hb5.mono hsz)); have HW5 : Hid (World.ownsRow w5 W0.heap.size 3 1 u3 (dirsTo l n).length ((dirsTo l n).flatMap numC)) := Lib.hid (HW.out.kept (row := none) ⟨hb5.os, hb5.tape, hb5.output, hb5.size, fun k hk _ => hb5.block k hk⟩ (by cases h : u3.ownBlock with | none => exact Or.inl rfl | some x => exact Or.inr (by simp))); clear hb5)
        go_roundw
        case rel => exact ⟨n + 1, by omega, by first | rfl | go_num, by rw [HS2.out]; exact HW5.out, HB5.out⟩
        case measure => simp [intOf]; omega
    · have hnz : ¬ (n : Int) ≤ 200 := by omega
      obtain rfl : n = 201 := by omega
      have HE : Hid (NumsL wr u3 (dirsI l)) := Lib.hid (LstIs.own (numC_len _) HW.out rfl)
      have HBE : Hid (Below bT w wr) := Lib.hid (HB.out.trans (HBW.out.mono (by have := HZ.out; omega)))
      clear cK1
      go_wp2
      go_ret
      exact ⟨_, rfl, HE.out, by rw [HBT.out]; exact HBE.out⟩
end Go.Proofs.Ythaghhleidopeaa
