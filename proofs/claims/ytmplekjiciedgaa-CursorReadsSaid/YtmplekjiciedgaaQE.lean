/-
  A tree with a root alone; a directory's entries copied; an entry by its name.   A tree that is made: a root alone; all directories of a tree.
-/
import Derived.Test.YtmplekjiciedgaaQD
import Derived.Test.YtmplekjiciedgaaQ9
import Derived.Test.YtmplekjiciedgaaQ4
namespace Go.Proofs.Ytmplekjiciedgaa
open Go.RowKit Go.Sort
set_option linter.unusedVariables false

theorem entsRow_new (B : Nat) (W : World) (hB : B ≤ W.heap.size) : (W.alloc (.cells #[] 46)).ownsRow B 46 5 (.slice (some ⟨W.heap.size, 0, none⟩) 0 0) 0 [] := own_new (heap_alloc_new _ _) hB
/-- The library's copy of a row of entries. -/
def ECPost (l : List Ent) (w : World) (e : Ending) (w' : World) : Prop := ∃ v', e = .returned v' ∧ w'.ownsRow w.heap.size 46 5 v' l.length (l.flatMap entC) ∧ Below w.heap.size w w'
set_option maxHeartbeats 2000000 in
theorem eclone_c (v : Value) (l : List Ent) (w : World) (h : EntsIs w v l) (hl : l.length ≤ 1000) : Calls Try.prog 23 #[v] w (ECPost l w) := by
  unfold ECPost
  have q22 : ∀ (w : World) (a : Option Addr) (n c n' c' : Nat), (binOp .eql 32 (.slice a n c) (.slice none n' c')).run Try.prog w = .ok (.bool a.isNone) w := fun w a n c n' c' => Lib.run_eql_slice_nil w _ _ a n c n' c' Try.underlying32
  obtain ⟨a, cap, rfl⟩ := h.len
  have HO := Lib.hid (entsRow_new w.heap.size w (Nat.le_refl _))
  have HBA : Hid (Below w.heap.size w (w.alloc (.cells #[] 46))) := Lib.hid ((Below.refl _ w).alloc (Nat.le_refl _) _)
  cases a with
  | none =>
    have hl0 : l = [] := by
      rcases h with ⟨h, _⟩ | ⟨g, off, c, _, h, _⟩
      · exact h
      · cases h
    subst hl0
    clear h
    go_enter Try.func23, Try.ntmps23
    go_wp2
    go_ret
    exact ⟨_, rfl, ⟨rfl, Or.inl ⟨rfl, rfl⟩⟩, Below.refl _ _⟩
  | some ad =>
    obtain ⟨n, hn⟩ : ∃ n, l.length = n := ⟨_, rfl⟩
    have HN := Lib.hid hn
    rw [hn] at hl h ⊢
    have HL := Lib.hid (LstIs.kept h HBA.out)
    have HS : Hid (w.heap.size ≤ (w.alloc (.cells #[] 46)).heap.size) := Lib.hid (by show _ ≤ (w.heap.push _).size; simp)
    clear h hn
    go_enter Try.func23, Try.ntmps23
    go_wp2_with (at_builtin; refine wpList_append_lst entElem rfl _ _ rfl w.heap.size _ 0 [] rfl HO.out _ l (entC_len l) (fun y _ => entC_one y) rfl HL.out (by rw [HN.out]; omega) HS.out ?_; intro v3 w3 hown3 hg3 hr3)
    rw [List.nil_append, Nat.zero_add, HN.out] at hown3
    obtain ⟨a3, c3, hv3⟩ := ownsRow_slice hown3
    subst hv3
    have HO3 := Lib.hid hown3
    have HB3 : Hid (Below w.heap.size w w3) := Lib.hid (HBA.out.grown hg3 HS.out (fun k hk => Nat.le_of_eq (Option.some.inj hk)))
    clear hown3 hg3 hr3
    go_ret
    exact ⟨_, rfl, HO3.out, HB3.out⟩
section
variable {w : World} {b : Nat} {K : Nat → Int} {E : Nat → List Ent} {R : Nat → Value} {u : Nat} {v : Value} {ys : List Int} {c : Int}
def TListPost (K : Nat → Int) (E : Nat → List Ent) (d : Int) (w : World) (e : Ending) (w' : World) : Prop :=
  ∃ v', e = .returned (.tuple #[v', .int .i64 (openI K d)]) ∧ EntsIs w' v' (if openI K d = 0 then E d.toNat else []) ∧ (∀ g, v'.ownBlock = some g → w.heap.size ≤ g) ∧ Below w.heap.size w w'
/-- What List lists. -/
def tListI (K : Nat → Int) (E : Nat → List Ent) (d : Int) : List Ent := if openI K d = 0 then E d.toNat else []
/-- .. and it lies in a block of entries of its own. -/
def TListOwn (K : Nat → Int) (E : Nat → List Ent) (d : Int) (w : World) (e : Ending) (w' : World) : Prop :=
  ∃ v', e = .returned (.tuple #[v', .int .i64 (openI K d)]) ∧ w'.ownsRow w.heap.size 46 5 v' (tListI K E d).length ((tListI K E d).flatMap entC) ∧ Below w.heap.size w w'
theorem treeListT_c (h : TM w b K E R u v ys c) (hl : ∀ n, n ≤ 200 → (E n).length ≤ 1000) (d : Int) : Calls Try.prog 10 #[ptrV b, .int .i64 d] w (TListOwn K E d w) := by
  unfold TListOwn tListI
  have cO := open_c h d
  obtain ⟨o, ho⟩ : ∃ o, openI K d = o := ⟨_, rfl⟩
  rw [ho] at cO ⊢
  by_cases h0 : o = 0
  · subst h0
    obtain ⟨n, rfl, hn, hk⟩ := openI_ok ho
    rw [if_pos rfl, Int.toNat_natCast]
    have c1 := (h.rcell hn).1
    have cE := eclone_c (R n) (E n) w (h.ents hn) (hl n hn)
    unfold ECPost at cE
    obtain ⟨a, cap, hr⟩ := (h.ents hn).len
    rw [hr] at c1 cE
    have hd0 : (0 : Int) ≤ (n : Int) := by omega
    have hd1 : (n : Int) < 201 := by omega
    clear h hl hr ho
    go_enter Try.func10, Try.ntmps10
    go_wp2_with (first
      | (go_at_call 22; refine cO.mono ?_; rintro e w1 ⟨rfl, rfl⟩)
      | (go_at_call 23; refine cE.mono ?_; rintro e w2 ⟨v2, rfl, ho2, hb2⟩; obtain ⟨a2, c2, hv2⟩ := ownsRow_slice ho2; have HO2 := Lib.hid ho2; clear ho2; subst hv2))
    go_ret2
    exact ⟨_, rfl, HO2.out, hb2⟩
  · have h0b : (o == 0) = false := beq_eq_false_iff_ne.2 h0
    rw [if_neg h0]
    clear h hl ho h0
    go_enter Try.func10, Try.ntmps10
    go_wp2_with (go_at_call 22; refine cO.mono ?_; rintro e w1 ⟨rfl, rfl⟩)
    go_ret2
    exact ⟨_, rfl, World.ownsRow_nil _ _ _ _, Below.refl _ _⟩
theorem treeList_c (h : TM w b K E R u v ys c) (hl : ∀ n, n ≤ 200 → (E n).length ≤ 1000) (d : Int) : Calls Try.prog 10 #[ptrV b, .int .i64 d] w (TListPost K E d w) :=
  (treeListT_c h hl d).mono fun e w' ⟨v', he, ho, hb⟩ => ⟨v', he, LstIs.own (entC_len _) ho rfl, fun g hg => (ho.lt g hg).1, hb⟩
def tFindI (K : Nat → Int) (E : Nat → List Ent) (d : Int) (s : ByteArray) : Ent × Int :=
  if openI K d = 0 then (match named (E d.toNat) s with | some x => (x, 0) | none => (noEnt, 5)) else (noEnt, openI K d)
set_option maxHeartbeats 4000000 in
set_option maxRecDepth 100000 in
theorem treeFind_c (h : TM w b K E R u v ys c) (hl : ∀ n, n ≤ 200 → (E n).length ≤ 1000) (d : Int) (s : ByteArray) : Calls Try.prog 31 #[ptrV b, .int .i64 d, .string s] w fun e w' => e = .returned (.tuple #[entV (tFindI K E d s).1, .int .i64 (tFindI K E d s).2]) ∧ Below w.heap.size w w' := by
  obtain ⟨F, hF⟩ : ∃ F, tFindI K E d s = F := ⟨_, rfl⟩
  rw [hF]
  unfold tFindI at hF
  have hb0 : Below w.heap.size w (w.alloc (.cells #[.string ⟨#[]⟩, .int .i64 0, .bool false, .int .i64 0, .int .i64 0] 46)) := (Below.refl _ w).alloc (Nat.le_refl _) _
  have HQ0 : Hid ((w.alloc (.cells #[.string ⟨#[]⟩, .int .i64 0, .bool false, .int .i64 0, .int .i64 0] 46)).heap[w.heap.size]? = some (.cells #[.string ⟨#[]⟩, .int .i64 0, .bool false, .int .i64 0, .int .i64 0] 46 (0, 0))) := Lib.hid (heap_alloc_new _ _)
  have HB0 := Lib.hid hb0
  have HT := Lib.hid (h.below hb0)
  have cO := open_c (h.below hb0) d
  obtain ⟨q, hq⟩ : ∃ q, w.heap.size = q := ⟨_, rfl⟩
  have HQ := Lib.hid hq
  obtain ⟨o, ho⟩ : ∃ o, openI K d = o := ⟨_, rfl⟩
  rw [ho] at cO hF
  have fin : ∀ W x0 x1 x2 x3 x4, Below q w W → Below q w (((((W.setCell ⟨q, 0, none⟩ x0).setCell ⟨q, 1, none⟩ x1).setCell ⟨q, 2, none⟩ x2).setCell ⟨q, 3, none⟩ x3).setCell ⟨q, 4, none⟩ x4) := fun W x0 x1 x2 x3 x4 hb =>
    ((((hb.setCell (p := ⟨q, 0, none⟩) (Nat.le_refl _) _).setCell (p := ⟨q, 1, none⟩) (Nat.le_refl _) _).setCell (p := ⟨q, 2, none⟩) (Nat.le_refl _) _).setCell (p := ⟨q, 3, none⟩) (Nat.le_refl _) _).setCell (p := ⟨q, 4, none⟩) (Nat.le_refl _) _
  have HFIN := Lib.hid fin
  by_cases h0 : o = 0
  · subst h0
    obtain ⟨n, rfl, hn, hk⟩ := openI_ok ho
    rw [if_pos rfl, Int.toNat_natCast] at hF
    have cP := place_c (h.below hb0) hn (hl n hn) s
    have hd0 : (0 : Int) ≤ (n : Int) := by omega
    have hd1 : (n : Int) < 201 := by omega
    have hpl : (E n).length ≤ 1000 := hl n hn
    rcases placeI_spec (E n) s with ⟨hp, hnm, _⟩ | ⟨i, x, hp, hx, _, hnm, _⟩
    · have HF : Hid (F = (noEnt, 5)) := Lib.hid (by rw [← hF, hnm])
      rw [hp] at cP
      clear h hl ho hF hb0 hk hnm hp fin hpl
      go_enter Try.func31, Try.ntmps31
      go_upto_region 1 with fail
      generalize w.alloc (.cells #[.string ⟨#[]⟩, .int .i64 0, .bool false, .int .i64 0, .int .i64 0] 46) = W0 at *
      (try rw [hq] at HQ0)
      have HBQ : Hid (Below q w W0) := Lib.hid (by rw [← hq]; exact HB0.out)
      clear hq
      go_upto_region 6 with (first
        | (go_at_call 22; refine cO.mono ?_; rintro e w1 ⟨rfl, rfl⟩)
        | (go_at_call 40; refine cP.mono ?_; rintro e w2 ⟨rfl, hb2⟩))
      have hq2 := (hb2.block q (lt_of_get HQ0.out)).trans HQ0.out
      obtain ⟨⟨q0, q1, q2, q3, q4⟩, ⟨f0, f1, f2, f3, f4⟩⟩ := five_cells hq2
      have HB2 : Hid (Below q w w2) := Lib.hid (HBQ.out.trans (hb2.mono (by have := HBQ.out.size; have := HQ.out; omega)))
      clear hb2 hq2
      go_wp2
      (try simp only [Exit.inBlock, Exit.then])
      refine bodyPost_ret (v := .tuple #[entV noEnt, .int .i64 5]) ?_ rfl ⟨by rw [HF.out], ?_⟩
      · rw [results_cell_tmp rfl]
        unfold entV noEnt
        go_simp
      · rw [HQ.out]; exact HFIN.out _ _ _ _ _ _ HB2.out
    · have HF : Hid (F = (x, 0)) := Lib.hid (by rw [← hF, hnm])
      rw [hp] at cP
      obtain ⟨m, hm⟩ : ∃ m, (E n).length = m := ⟨_, rfl⟩
      have him : i < m := by rw [← hm]; exact (List.getElem?_eq_some_iff.1 hx).1
      have HX := Lib.hid hx
      have HM := Lib.hid hm
      have hiz : (i : Int) < (m : Int) := by omega
      have hi1 : i ≤ 1000 := by omega
      obtain ⟨nm, nd, dr, ck, sh⟩ := x
      clear h hl ho hF hb0 hk hnm hp fin hpl hm hx
      go_enter Try.func31, Try.ntmps31
      go_upto_region 1 with fail
      generalize w.alloc (.cells #[.string ⟨#[]⟩, .int .i64 0, .bool false, .int .i64 0, .int .i64 0] 46) = W0 at *
      (try rw [hq] at HQ0)
      have HBQ : Hid (Below q w W0) := Lib.hid (by rw [← hq]; exact HB0.out)
      clear hq
      go_upto_region 7 with (first
        | (go_at_call 22; refine cO.mono ?_; rintro e w1 ⟨rfl, rfl⟩)
        | (go_at_call 40; refine cP.mono ?_; rintro e w2 ⟨rfl, hb2⟩))
      have hq2 := (hb2.block q (lt_of_get HQ0.out)).trans HQ0.out
      obtain ⟨⟨q0, q1, q2, q3, q4⟩, ⟨f0, f1, f2, f3, f4⟩⟩ := five_cells hq2
      have HB2 : Hid (Below q w w2) := Lib.hid (HBQ.out.trans (hb2.mono (by have := HBQ.out.size; have := HQ.out; omega)))
      have ht2 := HT.out.below hb2
      have r1 := (ht2.rcell hn).1
      obtain ⟨a, cap, hr⟩ := (ht2.ents hn).len
      have he := ht2.ents hn
      rw [hr] at he
      obtain ⟨g, off, rfl, hg, hrg⟩ := he.at HX.out
      rw [hr, HM.out] at r1
      obtain ⟨d0, d1, d2, d3, d4⟩ := ent_at hrg
      simp only at d0 d1 d2 d3 d4
      clear hb2 hq2 ht2 hr he hg hrg
      go_wp2
      (try simp only [Exit.inBlock, Exit.then])
      refine bodyPost_ret (v := .tuple #[entV ⟨nm, nd, dr, ck, sh⟩, .int .i64 0]) ?_ rfl ⟨by rw [HF.out], ?_⟩
      · rw [results_cell_tmp rfl]
        unfold entV
        go_simp
      · rw [HQ.out]; exact HFIN.out _ _ _ _ _ _ HB2.out
  · have h0b : (o == 0) = false := beq_eq_false_iff_ne.2 h0
    have HF : Hid (F = (noEnt, o)) := Lib.hid (by rw [← hF, if_neg h0])
    clear h hl ho hF hb0 h0 fin
    go_enter Try.func31, Try.ntmps31
    go_upto_region 1 with fail
    generalize w.alloc (.cells #[.string ⟨#[]⟩, .int .i64 0, .bool false, .int .i64 0, .int .i64 0] 46) = W0 at *
    (try rw [hq] at HQ0)
    have HBQ : Hid (Below q w W0) := Lib.hid (by rw [← hq]; exact HB0.out)
    clear hq
    obtain ⟨⟨q0, q1, q2, q3, q4⟩, ⟨f0, f1, f2, f3, f4⟩⟩ := five_cells HQ0.out
    go_wp2_with (go_at_call 22; refine cO.mono ?_; rintro e w1 ⟨rfl, rfl⟩)
    (try simp only [Exit.inBlock, Exit.then])
    refine bodyPost_ret (v := .tuple #[entV noEnt, .int .i64 o]) ?_ rfl ⟨by rw [HF.out], ?_⟩
    · rw [results_cell_tmp rfl]
      unfold entV noEnt
      go_simp
    · rw [HQ.out]; exact HFIN.out _ _ _ _ _ _ HBQ.out
end
end Go.Proofs.Ytmplekjiciedgaa

namespace Go.Proofs.Ytmplekjiciedgaa
open Go.RowKit Go.Sort
set_option linter.unusedVariables false

theorem ids_zero (W : World) : (zeroValue 68).run Try.prog W = .ok (.agg zBools) W := zero_bools W
set_option maxHeartbeats 2000000 in
set_option maxRecDepth 100000 in
theorem ids0_c (w : World) : Calls Try.prog 18 #[.int .i64 200, .slice none 0 0] w fun e w' => ∃ pb, e = .returned (ptrV pb) ∧ w.heap.size ≤ pb ∧ w'.heap[pb]? = some (.cells #[.int .i64 200, .int .i64 0, .slice none 0 0] 53 (0, 0)) ∧ Below w.heap.size w w' := by
  have hzb := zero_bools
  have s1 : (w.alloc (.cells #[.int .i64 (min (max (200 : Int) 0) 200), .int .i64 0, .slice none 0 0] 53)).heap.size = w.heap.size + 1 := by simp
  have HP : Hid (((w.alloc (.cells #[.int .i64 (min (max (200 : Int) 0) 200), .int .i64 0, .slice none 0 0] 53)).alloc (.cells zBools 68)).heap[w.heap.size]? = some (.cells #[.int .i64 200, .int .i64 0, .slice none 0 0] 53 (0, 0))) := Lib.hid (by
    rw [Below.heap_alloc _ _ _ (by rw [s1]; omega)]
    have h := heap_alloc_new w (.cells #[.int .i64 (min (max (200 : Int) 0) 200), .int .i64 0, .slice none 0 0] 53)
    rw [h, show min (max (200 : Int) 0) 200 = 200 from by decide])
  have HB : Hid (Below w.heap.size w ((w.alloc (.cells #[.int .i64 (min (max (200 : Int) 0) 200), .int .i64 0, .slice none 0 0] 53)).alloc (.cells zBools 68))) := Lib.hid (((Below.refl _ w).alloc (Nat.le_refl _) _).alloc (by rw [s1]; omega) _)
  clear s1
  go_enter Try.func18, Try.ntmps18
  go_upto_region 3 with fail
  generalize (w.alloc (.cells #[.int .i64 (min (max (200 : Int) 0) 200), .int .i64 0, .slice none 0 0] 53)).alloc (.cells zBools 68) = W2 at *
  generalize hb1 : w.heap.size = b1 at *
  have HBB := Lib.hid hb1
  clear hb1 hzb
  obtain ⟨k0, k1⟩ : W2.cell? ⟨b1, 1, none⟩ = some (.int .i64 0) ∧ W2.cell? ⟨b1, 0, none⟩ = some (.int .i64 200) := ⟨Lib.cell_of_heap HP.out 1, Lib.cell_of_heap HP.out 0⟩
  go_wp2
  refine wp_loop_rounds 1 ?_
  rw [rounds_succ]
  go_wp2
  refine wp_loop_rounds 1 ?_
  rw [rounds_succ]
  go_wp2
  go_ret
  exact ⟨b1, rfl, by rw [HBB.out]; exact Nat.le_refl _, HP.out, by rw [HBB.out]; exact HB.out⟩
def nilNodes (n : Nat) : List Value := (List.replicate n [Value.int .i64 0, Value.slice none 0 0]).flatten
theorem nilNodes_len : ∀ n, (nilNodes n).length = n * 2
  | 0 => rfl
  | n + 1 => by
    unfold nilNodes
    rw [List.replicate_succ, List.flatten_cons, List.length_append]
    have := nilNodes_len n
    unfold nilNodes at this
    rw [this]
    simp
    omega
theorem nilNodes_get : ∀ (n i : Nat), i < n → (nilNodes n)[i * 2]? = some (.int .i64 0) ∧ (nilNodes n)[i * 2 + 1]? = some (.slice none 0 0)
  | 0, i, h => absurd h (Nat.not_lt_zero _)
  | n + 1, 0, h => ⟨rfl, rfl⟩
  | n + 1, i + 1, h => by
    have := nilNodes_get n i (by omega)
    have e : nilNodes (n + 1) = Value.int .i64 0 :: Value.slice none 0 0 :: nilNodes n := rfl
    rw [e, show (i + 1) * 2 = i * 2 + 1 + 1 by omega]
    exact this
def newT : Array Value := (nilNodes 201 ++ ([.int .i64 200, .int .i64 0, .slice none 0 0, .int .i64 1] : List Value)).toArray
theorem newT_size : newT.size = 406 := by
  unfold newT
  rw [List.size_toArray, List.length_append, nilNodes_len]
  rfl
theorem built_tree (W : World) : (Instr.build 61 #[(1, .agg #[.int .i64 200, .int .i64 0, .slice none 0 0]), (2, .int .i64 1)]).run Try.prog W = .ok (.agg newT) W := run_build W _ _ _ (by kernel_rfl)
theorem newT_tail (k : Nat) : newT[402 + k]? = [Value.int .i64 200, .int .i64 0, .slice none 0 0, .int .i64 1][k]? := by
  unfold newT
  rw [List.getElem?_toArray, List.getElem?_append_right (by rw [nilNodes_len]; omega), nilNodes_len, show 402 + k - 201 * 2 = k by omega]
theorem newT_O : TreeO newT (fun _ => 0) (fun _ => .slice none 0 0) 0 (.slice none 0 0) 1 := by
  refine ⟨newT_size, fun n hn => ?_, fun n hn => ?_, newT_tail 0, newT_tail 1, newT_tail 2, newT_tail 3⟩
  · unfold newT
    rw [List.getElem?_toArray, List.getElem?_append_left (by rw [nilNodes_len]; omega)]
    exact (nilNodes_get 201 n (by omega)).1
  · unfold newT
    rw [List.getElem?_toArray, List.getElem?_append_left (by rw [nilNodes_len]; omega)]
    exact (nilNodes_get 201 n (by omega)).2
/-- A tree with a root alone. -/
def rootK : Nat → Int := upd (fun _ => 0) 0 2
def NewTPost (w : World) (e : Ending) (w' : World) : Prop := ∃ b, e = .returned (ptrV b) ∧ w.heap.size ≤ b ∧ TM w' b rootK (fun _ => []) (fun _ => .slice none 0 0) 0 (.slice none 0 0) [] 1 ∧ Below w.heap.size w w'
set_option maxHeartbeats 4000000 in
set_option maxRecDepth 100000 in
theorem treeNew_c (w : World) : Calls Try.prog 8 #[] w (NewTPost w) := by
  unfold NewTPost
  have cI := ids0_c w
  have hbt := built_tree
  have HSZ := Lib.hid newT_size
  have HNO := Lib.hid newT_O
  generalize newT = T at *
  go_enter Try.func8, Try.ntmps8
  go_upto_region 2 with (first
    | (go_at_call 18; refine cI.mono ?_; rintro e w1 ⟨pb, rfl, hpb, hp1, hb1⟩; obtain ⟨k0, k1, k2⟩ : w1.cell? ⟨pb, 0, none⟩ = some (.int .i64 200) ∧ w1.cell? ⟨pb, 1, none⟩ = some (.int .i64 0) ∧ w1.cell? ⟨pb, 2, none⟩ = some (.slice none 0 0) := ⟨Lib.cell_of_heap hp1 0, Lib.cell_of_heap hp1 1, Lib.cell_of_heap hp1 2⟩; have HB1 := Lib.hid hb1; clear hb1 hp1)
    | ((with_reducible refine wpL_build 61 _ #[(1, .agg #[.int .i64 200, .int .i64 0, .slice none 0 0]), (2, .int .i64 1)] (.agg T) ?_ ?_ ?_); exact rfl; exact hbt _))
  have HN : Hid ((w1.alloc (.cells T 61)).heap[w1.heap.size]? = some (.cells T 61 (0, 0))) := Lib.hid (heap_alloc_new _ _)
  have HBA : Hid (Below w.heap.size w (w1.alloc (.cells T 61))) := Lib.hid (HB1.out.alloc HB1.out.size _)
  generalize (w1.alloc (.cells T 61)) = W2 at *
  have hsz := HB1.out.size
  generalize w1.heap.size = b at *
  have c0 : W2.cell? ⟨b, 0, none⟩ = some (.int .i64 0) := by
    rw [cell_of_row _ _ _ _ _ _ HN.out]
    exact HNO.out.kind 0 (by omega)
  have f0 : W2.frozen? ⟨b, 0, none⟩ = false := Lib.frozen_of_heap HN.out _
  have HX : Hid (TM (W2.setCell ⟨b, 0, none⟩ (.int .i64 2)) b rootK (fun _ => []) (fun _ => .slice none 0 0) 0 (.slice none 0 0) [] 1) := Lib.hid ⟨⟨_, heap_setCell_same W2 b 0 _ _ _ HN.out, HNO.out.setKind (k := 0) (by omega) 2⟩, fun n hn => ⟨rfl, Or.inl ⟨rfl, rfl⟩⟩, fun i j g _ _ h1 _ => (by cases h1), ⟨rfl, Or.inl ⟨rfl, rfl⟩⟩, ⟨Nat.zero_le _, Nat.le_refl _, List.nodup_nil, fun y hy => (by cases hy), heap_nil⟩⟩
  have HBX : Hid (Below w.heap.size w (W2.setCell ⟨b, 0, none⟩ (.int .i64 2))) := Lib.hid (HBA.out.setCell (p := ⟨b, 0, none⟩) hsz _)
  clear cI
  go_wp2
  go_ret
  exact ⟨b, rfl, hsz, HX.out, HBX.out⟩
section
variable {w : World} {b : Nat} {K : Nat → Int} {E : Nat → List Ent} {R : Nat → Value} {u : Nat} {v : Value} {ys : List Int} {c : Int}
def dirsK (K : Nat → Int) : Nat → List Int
  | 0 => []
  | n + 1 => dirsK K n ++ (if K n = 2 then [(n : Int)] else [])
theorem dirsK_le (K : Nat → Int) : ∀ n, (dirsK K n).length ≤ n
  | 0 => Nat.le_refl _
  | n + 1 => by
    have := dirsK_le K n
    unfold dirsK
    split <;> simp <;> omega
def TDirsPost (l : List Int) (w : World) (e : Ending) (w' : World) : Prop := ∃ v, e = .returned v ∧ NumsL w' v l ∧ (∀ g, v.ownBlock = some g → w.heap.size ≤ g) ∧ Below w.heap.size w w'
def TDirsOwn (l : List Int) (w : World) (e : Ending) (w' : World) : Prop := ∃ v, e = .returned v ∧ w'.ownsRow w.heap.size 3 1 v l.length (l.flatMap numC) ∧ Below w.heap.size w w'
set_option maxHeartbeats 4000000 in
set_option maxRecDepth 100000 in
theorem treeDirsT_c (h : TM w b K E R u v ys c) : Calls Try.prog 13 #[ptrV b] w (TDirsOwn (dirsK K 201) w) := by
  unfold TDirsOwn
  have HT := Lib.hid h
  obtain ⟨X, hX⟩ : ∃ X, dirsK K 201 = X := ⟨_, rfl⟩
  rw [hX]
  have HX := Lib.hid hX
  clear h hX
  go_enter Try.func13, Try.ntmps13
  go_wp2
  go_loopw [3, 5] (fun ov iv wr => ∃ n : Nat, n ≤ 201 ∧ iv = .int .i64 n ∧ wr.ownsRow w.heap.size 3 1 ov (dirsK K n).length ((dirsK K n).flatMap numC) ∧ Below w.heap.size w wr) (fun _ iv _ => 201 - (intOf iv).toNat)
  case atStart => exact ⟨0, by omega, rfl, World.ownsRow_nil _ _ _ _, Below.refl _ _⟩
  case round =>
    obtain ⟨n, hn, rfl, hrow, hb⟩ := hrel
    have HW := Lib.hid hrow
    have HBW := Lib.hid hb
    have hdl := dirsK_le K n
    have HSC : Hid (dirsK K (n + 1) = dirsK K n ++ (if K n = 2 then [(n : Int)] else [])) := Lib.hid rfl
    have hsz := hb.size
    by_cases hn2 : n ≤ 200
    · have hnz : (n : Int) < 201 := by omega
      have hn0 : (0 : Int) ≤ (n : Int) := by omega
      have c1 := ((HT.out.below hb).kcell hn2).1
      clear hrow hb
      by_cases hk : K n = 2
      · rw [hk] at c1
        have HS2 : Hid (dirsK K (n + 1) = dirsK K n ++ [(n : Int)]) := Lib.hid (by rw [HSC.out, if_pos hk])
        clear hk HSC
        go_upto_region 6 with fail
        clear c1
        have HOA : Hid (World.ownsRow (wr.alloc (.cells #[.int .i64 (n : Int)] 3)) w.heap.size 3 1 u3 (dirsK K n).length ((dirsK K n).flatMap numC)) := Lib.hid (HW.out.alloc _)
        have HIA : Hid (NumsL (wr.alloc (.cells #[.int .i64 (n : Int)] 3)) (.slice (some ⟨wr.heap.size, 0, none⟩) 1 1) [(n : Int)]) := Lib.hid (LstIs.block (numC_len _) (heap_alloc_new _ _))
        have hsa : w.heap.size ≤ (wr.alloc (.cells #[.int .i64 (n : Int)] 3)).heap.size := by show _ ≤ (wr.heap.push _).size; simp; omega
        have HSA := Lib.hid hsa
        have HBA : Hid (Below w.heap.size w (wr.alloc (.cells #[.int .i64 (n : Int)] 3))) := Lib.hid (HBW.out.alloc hsz _)
        have hlen : (dirsK K n).length + [(n : Int)].length ≤ 100000 := by simp; omega
        clear hsa
        go_wp2_with (at_builtin; refine wpList_append_lst intElem rfl _ _ rfl w.heap.size _ _ _ rfl HOA.out _ [(n : Int)] (numC_len _) (numC_one _) rfl HIA.out hlen HSA.out ?_; intro v8 w8 ho8 hg8 hr8; have HB8 := Lib.hid (HBA.out.grown hg8 HSA.out (fun j hj => (HOA.out.lt j hj).1)); have HO8 := Lib.hid ho8; clear ho8 hg8 hr8)
        go_roundw
        case rel => exact ⟨n + 1, by omega, by first | rfl | go_num, by rw [HS2.out, List.length_append, List.flatMap_append]; exact HO8.out, HB8.out⟩
        case measure => simp [intOf]; omega
      · have hkz : (K n == 2) = false := by rw [beq_eq_false_iff_ne]; exact hk
        have HS2 : Hid (dirsK K (n + 1) = dirsK K n) := Lib.hid (by rw [HSC.out, if_neg hk, List.append_nil])
        clear hk HSC
        go_wp2
        go_roundw
        case rel => exact ⟨n + 1, by omega, by first | rfl | go_num, by rw [HS2.out]; exact HW.out, HBW.out⟩
        case measure => simp [intOf]; omega
    · have hnz : ¬ (n : Int) < 201 := by omega
      obtain rfl : n = 201 := by omega
      rw [HX.out] at HW
      clear hrow hb
      go_wp2
      go_ret
      exact ⟨_, rfl, HW.out, HBW.out⟩
theorem treeDirs_c (h : TM w b K E R u v ys c) : Calls Try.prog 13 #[ptrV b] w (TDirsPost (dirsK K 201) w) :=
  (treeDirsT_c h).mono fun e w' ⟨v, he, ho, hb⟩ => ⟨v, he, LstIs.own (numC_len _) ho rfl, fun g hg => (ho.lt g hg).1, hb⟩
end
end Go.Proofs.Ytmplekjiciedgaa
