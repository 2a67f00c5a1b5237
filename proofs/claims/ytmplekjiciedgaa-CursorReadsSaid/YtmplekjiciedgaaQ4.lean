/-
  Prepared for stage 10: the reference's New, and Do.
  Prepared for stage 10: the reference's Same, and Few; two entries compared.
  Prepared for stage 10: the reference's Few, and Dirs.
-/
import Derived.Test.YtmplekjiciedgaaQ3
import Derived.Laws.StructEq
namespace Go.Proofs.Ytmplekjiciedgaa
open Go.RowKit Go.Sort
set_option linter.unusedVariables false

/-- A call. -/
structure OpT where
  k : Int
  d : Int
  dt : Int
  s : ByteArray
  ns : ByteArray
  isD : Bool
  sh : Int
deriving Inhabited
def opC (o : OpT) : List Value := [.int .u8 o.k, .int .i64 o.d, .int .i64 o.dt, .string o.s, .string o.ns, .bool o.isD, .int .i64 o.sh]
def opV (o : OpT) : Value := .agg #[.int .u8 o.k, .int .i64 o.d, .int .i64 o.dt, .string o.s, .string o.ns, .bool o.isD, .int .i64 o.sh]
/-- What is behind a call: the tree, the node, the error. -/
def doI (l : List Itm) (nx : Int) (o : OpT) : (List Itm × Int) × Int × Int :=
  if o.k % 3 = 0 then linkI l nx o.d o.s o.isD o.sh
  else if o.k % 3 = 1 then ((unlinkI l nx o.d o.s o.isD).1, 0, (unlinkI l nx o.d o.s o.isD).2)
  else ((moveI l nx o.d o.s o.dt o.ns o.sh).1, 0, (moveI l nx o.d o.s o.dt o.ns o.sh).2)
theorem below_two {B q : Nat} {W0 W : World} {x y : Value} (h : Below B W0 W) (hq : B ≤ q) : Below B W0 ((W.setCell ⟨q, 0, none⟩ x).setCell ⟨q, 1, none⟩ y) := (h.setCell (p := ⟨q, 0, none⟩) hq _).setCell (p := ⟨q, 1, none⟩) hq _
end Go.Proofs.Ytmplekjiciedgaa

namespace Go.Proofs.Ytmplekjiciedgaa
open Go.RowKit Go.Sort
set_option linter.unusedVariables false

theorem ent_eql (x y : Ent) (w : World) : (Op.equalIn 10000 46 (entV x) (entV y)).run Try.prog w = .ok (decide (x = y)) w := by
  have hS : Try.prog.underlying 46 = some (.struct (Try.prog.fieldsOf 46)) := by kernel_rfl
  have hp : Try.prog.stoodInHeld 46 = false := by kernel_rfl
  obtain ⟨n1, a1, b1, c1, d1⟩ := x
  obtain ⟨n2, a2, b2, c2, d2⟩ := y
  unfold entV
  rw [show (10000 : Nat) = 9999 + 1 from rfl, run_equalIn_agg w 9999 46 _ _ hS hp]
  simp only [Program.fieldsOf, Try.underlying46]
  go_simp
  have hn : (n1.toList == n2.toList) = decide (n1 = n2) := by
    by_cases h : n1 = n2
    · subst h; simp
    · rw [text_ne h, decide_eq_false h]
  have hl : n1.toList = n2.toList ↔ n1 = n2 := ⟨fun h => by
    rw [ByteArray.toList_eq, ByteArray.toList_eq] at h
    exact ByteArray.ext (Array.toList_inj.1 h), fun h => by rw [h]⟩
  (try simp only [Ent.mk.injEq])
  (try rw [hn])
  by_cases h1 : n1 = n2 <;> by_cases h2 : a1 = a2 <;> by_cases h3 : b1 = b2 <;> by_cases h4 : c1 = c2 <;> by_cases h5 : d1 = d2 <;> simp [hl, h1, h2, h3, h4, h5]
theorem ent_neq (x y : Ent) (w : World) : (binOp .neq 46 (entV x) (entV y)).run Try.prog w = .ok (.bool (!decide (x = y))) w := by
  have h := ent_eql x y w
  unfold entV at h ⊢
  rw [run_neq_struct, h]
  rfl
theorem ent_eq (x y : Ent) (w : World) : (binOp .eql 46 (entV x) (entV y)).run Try.prog w = .ok (.bool (decide (x = y))) w := by
  have h := ent_eql x y w
  unfold entV at h ⊢
  rw [run_eql_struct, h]
  rfl
theorem ent_guard (op : BinOp) (a b : Operand) (x y : Ent) (w : World) : (eqGuard op 46 a b (entV x) (entV y)).run Try.prog w = .ok () w := by
  unfold entV
  exact run_eqGuard_agg w op 46 a b _ _ (by kernel_rfl)
theorem drop_same {α : Type} [DecidableEq α] {l l' : List α} {i : Nat} {x y : α} (h1 : l[i]? = some x) (h2 : l'[i]? = some y) : decide (l.drop i = l'.drop i) = (decide (x = y) && decide (l.drop (i + 1) = l'.drop (i + 1))) := by
  rw [drop_eq_cons h1, drop_eq_cons h2]
  by_cases h : x = y <;> simp [h]
set_option maxHeartbeats 4000000 in
theorem same10_c (v1 v2 : Value) (l1 l2 : List Ent) (w : World) (h1 : EntsIs w v1 l1) (h2 : EntsIs w v2 l2) (hl1 : l1.length ≤ 100000) (hl2 : l2.length ≤ 100000) :
    Calls Try.prog 12 #[v1, v2] w fun e w' => e = .returned (.bool (decide (l1 = l2))) ∧ ∃ q, w' = w.drewN q := by
  obtain ⟨a1, cap1, rfl⟩ := h1.len
  obtain ⟨a2, cap2, rfl⟩ := h2.len
  have H1 := Lib.hid h1
  have H2 := Lib.hid h2
  obtain ⟨R, hR⟩ : ∃ R, decide (l1 = l2) = R := ⟨_, rfl⟩
  rw [hR]
  obtain ⟨n1, hn1⟩ : ∃ n, l1.length = n := ⟨_, rfl⟩
  obtain ⟨n2, hn2⟩ : ∃ n, l2.length = n := ⟨_, rfl⟩
  have HN1 := Lib.hid hn1
  have HN2 := Lib.hid hn2
  rw [hn1] at hl1 ⊢
  rw [hn2] at hl2 ⊢
  have HRR := Lib.hid hR
  clear h1 h2 hR hn1 hn2
  by_cases hne : n1 = n2
  · subst hne
    go_enter Try.func12, Try.ntmps12
    go_wp2
    go_loopw [5] (fun iv wr => ∃ i : Nat, i ≤ n1 ∧ iv = .int .i64 i ∧ decide (l1.drop i = l2.drop i) = R ∧ ∃ q, wr = w.drewN q) (fun iv _ => n1 - (intOf iv).toNat)
    case atStart => exact ⟨0, by omega, rfl, HRR.out, 0, rfl⟩
    case round =>
      obtain ⟨i, hi, rfl, hgo, q, hq⟩ := hrel
      have HGO := Lib.hid hgo
      have HQ := Lib.hid hq
      clear hgo hq
      by_cases hin : i < n1
      · have hiz : (i : Int) < (n1 : Int) := by omega
        obtain ⟨x, hx⟩ : ∃ x, l1[i]? = some x := ⟨_, List.getElem?_eq_getElem (by rw [HN1.out]; omega)⟩
        obtain ⟨y, hy⟩ : ∃ y, l2[i]? = some y := ⟨_, List.getElem?_eq_getElem (by rw [HN2.out]; omega)⟩
        have hb : Below w.heap.size w wr := by rw [HQ.out]; exact below_drewN1 (Below.refl _ _) q
        obtain ⟨g1, o1, rfl, hg1, r1⟩ := (LstIs.kept H1.out hb).at hx
        obtain ⟨g2, o2, rfl, hg2, r2⟩ := (LstIs.kept H2.out hb).at hy
        obtain ⟨d0, d1, d2, d3, d4⟩ := ent_at r1
        obtain ⟨e0, e1, e2, e3, e4⟩ := ent_at r2
        have HD := Lib.hid (drop_same hx hy)
        have hcmp := ent_neq x y
        have hgd := fun op a b => ent_guard op a b x y
        clear hx hy r1 r2 hg1 hg2 hb
        obtain ⟨xn, xa, xb, xc, xd⟩ := x
        obtain ⟨yn, ya, yb, yc, yd⟩ := y
        simp only at d0 d1 d2 d3 d4 e0 e1 e2 e3 e4
        unfold entV at hcmp hgd
        by_cases hxy : (⟨xn, xa, xb, xc, xd⟩ : Ent) = ⟨yn, ya, yb, yc, yd⟩
        · rw [decide_eq_true hxy] at hcmp
          have HG : Hid (decide (l1.drop (i + 1) = l2.drop (i + 1)) = R) := Lib.hid (by rw [← HGO.out, HD.out, decide_eq_true hxy, Bool.true_and])
          clear hxy HD
          go_wp2
          go_quiet (fail)
          go_wp2
          go_roundw
          case rel => exact ⟨i + 1, by omega, by first | rfl | go_num, HG.out, _, by rw [HQ.out, World.drewN_drewN]⟩
          case measure => simp [intOf]; omega
        · rw [decide_eq_false hxy] at hcmp
          have HG : Hid (R = false) := Lib.hid (by rw [← HGO.out, HD.out, decide_eq_false hxy, Bool.false_and])
          clear hxy HD
          go_wp2
          go_quiet (fail)
          go_wp2
          go_ret
          exact ⟨by rw [HG.out]; rfl, _, by rw [HQ.out, World.drewN_drewN]⟩
      · have hge : ¬ ((i : Int) < (n1 : Int)) := by omega
        have HG : Hid (R = true) := Lib.hid (by
          rw [← HGO.out, List.drop_of_length_le (by rw [HN1.out]; omega), List.drop_of_length_le (by rw [HN2.out]; omega)]
          rfl)
        go_wp2
        go_ret
        exact ⟨by rw [HG.out]; rfl, q, HQ.out⟩
  · have hz : ((n1 : Int) == (n2 : Int)) = false := by rw [beq_eq_false_iff_ne]; omega
    have HG : Hid (R = false) := Lib.hid (by
      rw [← HRR.out]
      exact decide_eq_false (fun e => hne (by rw [← HN1.out, ← HN2.out, e])))
    go_enter Try.func12, Try.ntmps12
    go_wp2
    go_ret
    exact ⟨by rw [HG.out]; rfl, 0, rfl⟩
end Go.Proofs.Ytmplekjiciedgaa

namespace Go.Proofs.Ytmplekjiciedgaa
open Go.RowKit Go.Sort
set_option linter.unusedVariables false

abbrev OpTs := @LstIs OpT opC 7
theorem op_at {w : World} {g p : Nat} {x : OpT} (h : w.rangeAt g p (opC x)) : w.cell? ⟨g, p, none⟩ = some (.int .u8 x.k) ∧ w.cell? ⟨g, p + 1, none⟩ = some (.int .i64 x.d) ∧ w.cell? ⟨g, p + 2, none⟩ = some (.int .i64 x.dt) ∧ w.cell? ⟨g, p + 3, none⟩ = some (.string x.s) ∧ w.cell? ⟨g, p + 4, none⟩ = some (.string x.ns) ∧ w.cell? ⟨g, p + 5, none⟩ = some (.bool x.isD) ∧ w.cell? ⟨g, p + 6, none⟩ = some (.int .i64 x.sh) :=
  ⟨h 0 _ rfl, h 1 _ rfl, h 2 _ rfl, h 3 _ rfl, h 4 _ rfl, h 5 _ rfl, h 6 _ rfl⟩
def shortOp (x : OpT) : Bool := decide (x.s.size ≤ 400) && decide (x.ns.size ≤ 400)
def fewI (l : List OpT) (n : Nat) : Bool := (l.take 500).all shortOp && decide (l.length ≤ n)
theorem fewI_spec {l : List OpT} {n : Nat} (h : fewI l n = true) (hn : n ≤ 500) : l.length ≤ n ∧ ∀ x ∈ l, x.s.size ≤ 400 ∧ x.ns.size ≤ 400 := by
  unfold fewI at h
  rw [Bool.and_eq_true, decide_eq_true_eq] at h
  refine ⟨h.2, fun x hx => ?_⟩
  rw [List.take_of_length_le (by omega)] at h
  have := List.all_eq_true.1 h.1 x hx
  unfold shortOp at this
  simpa using this
theorem take500 {l : List OpT} {i : Nat} {x : OpT} (hx : l[i]? = some x) (hi : i < 500) : (l.drop i).take (500 - i) = x :: (l.drop (i + 1)).take (500 - (i + 1)) := by
  rw [drop_eq_cons hx, show 500 - i = (500 - (i + 1)) + 1 by omega, List.take_succ_cons]
set_option maxHeartbeats 4000000 in
theorem few10_c (v : Value) (l : List OpT) (n : Nat) (w : World) (hv : OpTs w v l) (hl : l.length ≤ 9223372036854775807) (hn : n ≤ 1000) (hs : ∀ x ∈ l, x.s.size ≤ 9223372036854775807 ∧ x.ns.size ≤ 9223372036854775807) :
    Calls Try.prog 7 #[v, .int .i64 (n : Int)] w fun e w' => e = .returned (.bool (fewI l n)) ∧ w' = w := by
  obtain ⟨a, cap, rfl⟩ := hv.len
  obtain ⟨R, hR⟩ : ∃ R, fewI l n = R := ⟨_, rfl⟩
  rw [hR]
  have HRR := Lib.hid hR
  have HV := Lib.hid hv
  obtain ⟨m, hm⟩ : ∃ m, l.length = m := ⟨_, rfl⟩
  have HM := Lib.hid hm
  rw [hm] at hl ⊢
  have HS := Lib.hid hs
  clear hv hm hR hs
  go_enter Try.func7, Try.ntmps7
  go_wp2
  go_loop [5] (fun iv => ∃ i : Nat, i ≤ m ∧ i ≤ 500 ∧ iv = .int .i64 i ∧ (((l.drop i).take (500 - i)).all shortOp && decide (l.length ≤ n)) = R) (fun iv => 501 - (intOf iv).toNat)
  case atStart => exact ⟨0, by omega, by omega, rfl, HRR.out⟩
  case round =>
    obtain ⟨i, hi, hi5, rfl, hgo⟩ := hrel
    have HGO := Lib.hid hgo
    clear hgo
    by_cases him : i < m ∧ i < 500
    · obtain ⟨h1, h2⟩ := him
      have h1z : (i : Int) < (m : Int) := by omega
      have h2z : (i : Int) < 500 := by omega
      obtain ⟨x, hx⟩ : ∃ x, l[i]? = some x := ⟨_, List.getElem?_eq_getElem (by rw [HM.out]; omega)⟩
      obtain ⟨g, off, rfl, hg, hr⟩ := HV.out.at hx
      obtain ⟨d0, d1, d2, d3, d4, d5, d6⟩ := op_at hr
      have hsx := HS.out x (List.mem_of_getElem? hx)
      have HG : Hid ((shortOp x && (((l.drop (i + 1)).take (500 - (i + 1))).all shortOp && decide (l.length ≤ n))) = R) := Lib.hid (by rw [← HGO.out, take500 hx h2, List.all_cons, Bool.and_assoc])
      obtain ⟨hs1, hs2⟩ := hsx
      clear hx hr hg
      obtain ⟨k, d, dt, s, ns, isD, sh⟩ := x
      simp only at d0 d1 d2 d3 d4 d5 d6 hs1 hs2
      by_cases hb : 400 < s.size ∨ 400 < ns.size
      · have HF : Hid (R = false) := Lib.hid (by
          rw [← HG.out, Bool.and_eq_false_iff]
          left
          unfold shortOp
          simp only [Bool.and_eq_false_iff, decide_eq_false_iff_not]
          omega)
        by_cases hb1 : 400 < s.size
        · have e1 : (400 : Int) < (s.size : Int) := by omega
          have e2 := decide_eq_true e1
          clear hb
          go_wp2
          go_ret
          exact ⟨by rw [HF.out]; rfl, rfl⟩
        · have e1 : ¬ (400 : Int) < (s.size : Int) := by omega
          have e2 := decide_eq_false e1
          have e3 : (400 : Int) < (ns.size : Int) := by omega
          have e4 := decide_eq_true e3
          clear hb
          go_wp2
          go_ret
          exact ⟨by rw [HF.out]; rfl, rfl⟩
      · have HF : Hid ((((l.drop (i + 1)).take (500 - (i + 1))).all shortOp && decide (l.length ≤ n)) = R) := Lib.hid (by
          have h9 := HG.out
          rw [show shortOp ⟨k, d, dt, s, ns, isD, sh⟩ = true by unfold shortOp; simp; omega, Bool.true_and] at h9
          exact h9)
        have e1 : ¬ (400 : Int) < (s.size : Int) := by omega
        have e2 := decide_eq_false e1
        have e3 : ¬ (400 : Int) < (ns.size : Int) := by omega
        have e4 := decide_eq_false e3
        clear hb
        go_wp2
        go_round
        case rel => exact ⟨i + 1, by omega, by omega, by first | rfl | go_num, HF.out⟩
        case measure => simp [intOf]; omega
    · have HF : Hid (R = decide (m ≤ n)) := Lib.hid (by
        rw [← HGO.out]
        have : (l.drop i).take (500 - i) = [] := by
          by_cases h5 : i = 500
          · subst h5; rfl
          · rw [List.drop_of_length_le (by rw [HM.out]; omega), List.take_nil]
        rw [this, HM.out]
        rfl)
      have hlast : decide ((m : Int) ≤ (n : Int)) = decide (m ≤ n) := by
        congr 1
        exact propext (by omega)
      by_cases hmi : i < m
      · have h1z : (i : Int) < (m : Int) := by omega
        have h2z : ¬ (i : Int) < 500 := by omega
        have e1 := decide_eq_true h1z
        have e2 := decide_eq_false h2z
        clear him
        go_wp2
        go_ret
        exact ⟨by rw [HF.out, ← hlast]; simp, rfl⟩
      · have h1z : ¬ (i : Int) < (m : Int) := by omega
        have e1 := decide_eq_false h1z
        clear him
        go_wp2
        go_ret
        exact ⟨by rw [HF.out, ← hlast]; simp, rfl⟩
/-! Lists of numbers. -/
def numC (x : Int) : List Value := [.int .i64 x]
abbrev NumsL := @LstIs Int numC 1
theorem numC_len (l : List Int) : ∀ x ∈ l, (numC x).length = 1 := fun _ _ => rfl
theorem numC_one (l : List Int) : ∀ x ∈ l, ∀ u ∈ numC x, u.oneCell' = true := fun x _ u hu => by
  obtain rfl := List.mem_singleton.1 hu
  rfl
theorem intElem : ElemOf Try.prog 39 3 1 :=
  ⟨Try.underlying39, by
    have h : (Try.prog.info? 3).map (fun i => (i.zero, i.size, i.bytes)) = some (some (.int .i64 0), 1, 8) := by kernel_rfl
    obtain ⟨i0, h1, h2, h3, h4⟩ := info_parts h
    exact ⟨i0, _, 8, h1, h2, h3, h4, rfl, by decide⟩, by decide⟩
theorem num_at {w : World} {g p : Nat} {x : Int} (h : w.rangeAt g p (numC x)) : w.cell? ⟨g, p, none⟩ = some (.int .i64 x) := h 0 _ rfl
/-- All directories below n. -/
def dirsTo (l : List Itm) (n : Nat) : List Int := ((List.range n).map Int.ofNat).filter fun x => decide (kindI l x = 2)
def dirsI (l : List Itm) : List Int := dirsTo l 201
theorem dirsTo_succ (l : List Itm) (n : Nat) : dirsTo l (n + 1) = dirsTo l n ++ (if kindI l (n : Int) = 2 then [(n : Int)] else []) := by
  unfold dirsTo
  rw [List.range_succ, List.map_append, List.filter_append]
  congr 1
  by_cases h : kindI l (n : Int) = 2 <;> simp [h]
theorem dirsTo_le (l : List Itm) (n : Nat) : (dirsTo l n).length ≤ n := by
  unfold dirsTo
  exact Nat.le_trans (List.length_filter_le _ _) (by simp)
def DirsPost (r : List Int) (w0 : World) (e : Ending) (w' : World) : Prop := ∃ v', e = .returned v' ∧ NumsL w' v' r ∧ Below w0.heap.size w0 w'
end Go.Proofs.Ytmplekjiciedgaa
