/-
  The contracts of a pool's calls: Give, Out, Clone.
-/
import Derived.Test.YthaghhleidopeaaIdPool
import Derived.Laws.AppendOwnNone
import Derived.Laws.NewBlocks
import Derived.Maps.AppendAt
import Derived.Lib.SliceRun
namespace Go.Proofs.Ythaghhleidopeaa
open Go.RowKit Go.Sort
set_option linter.unusedVariables false

set_option maxHeartbeats 2000000 in
theorem give_c (w0 : World) (r : Option Nat) (m b : Nat) (v : Value) (l : List Bool) (x : Int) (w : World) (h : PoolIs w0 r m b w v l) (t : Bool) (ht : isOut m l x = t) :
    Calls Try.prog 40 #[.pointer (some ⟨b, 0, none⟩), .int .i64 x] w fun e w' => e = .returned (.bool t) ∧ ∃ v', PoolIs w0 r m b w' v' (if t = true then l.set x.toNat false else l) := by
  obtain ⟨u, ys, hb, hg, rfl⟩ := h
  have HB := Lib.hid hb
  have HG := Lib.hid hg
  have hyl := hg.len
  have HSM : Hid (PoolIs w0 r m b w v (outRow u ys)) := Lib.hid ⟨u, ys, hb, hg, rfl⟩
  rw [hg.isOut x] at ht
  obtain ⟨c1, f1⟩ := hb.cell1
  obtain ⟨c2, f2⟩ := hb.cell
  have hnb : NumsIs w v ys := NumsIs.own hb.own
  by_cases h1 : x < 1
  · obtain rfl : t = false := by rw [← ht]; exact decide_eq_false (fun h => by omega)
    have h1z : decide (x < 1) = true := decide_eq_true h1
    clear hb hg hyl ht hnb
    go_enter Try.func40, Try.ntmps40
    go_wp2
    go_ret
    exact ⟨rfl, v, HSM.out⟩
  · by_cases h2 : (u : Int) < x
    · obtain rfl : t = false := by rw [← ht]; exact decide_eq_false (fun h => by omega)
      have h1z : decide (x < 1) = false := decide_eq_false h1
      have h2z : decide ((u : Int) < x) = true := decide_eq_true h2
      clear hb hg hyl ht hnb
      go_enter Try.func40, Try.ntmps40
      go_wp2
      go_ret
      exact ⟨rfl, v, HSM.out⟩
    · have h1z : decide (x < 1) = false := decide_eq_false h1
      have h2z : decide ((u : Int) < x) = false := decide_eq_false h2
      by_cases h3 : x ∈ ys
      · obtain rfl : t = false := by rw [← ht]; exact decide_eq_false (fun h => h.2.2 h3)
        have cC := contains_c v ys x w hnb (by omega) true (decide_eq_true h3)
        clear hb hg hyl ht hnb h3
        go_enter Try.func40, Try.ntmps40
        go_wp2_with (go_at_call 63; refine cC.mono ?_; rintro e w1 ⟨rfl, rfl⟩)
        go_ret
        exact ⟨rfl, v, HSM.out⟩
      · obtain rfl : t = true := by rw [← ht]; exact decide_eq_true ⟨by omega, by omega, h3⟩
        have cC := contains_c v ys x w hnb (by omega) false (decide_eq_false h3)
        have cA := add_c w0 r m u b v ys x w hb hg.heap (by omega)
        unfold AddPost at cA
        have HGV : Hid (∀ zs, zs.Perm (x :: ys) → HeapN zs.length zs → GoodP m u zs ∧ outRow u zs = (outRow u ys).set x.toNat false) := Lib.hid (fun zs hp hz => hg.give (by omega) (by omega) h3 hp hz)
        clear hb hg hyl ht hnb h3
        go_enter Try.func40, Try.ntmps40
        go_wp2_with (go_at_call 63; refine cC.mono ?_; rintro e w1 ⟨rfl, rfl⟩)
        refine cA.mono ?_
        rintro e w2 ⟨rfl, v', zs, hp, hz, hb2⟩
        have HX : Hid (PoolIs w0 r m b w2 v' ((outRow u ys).set x.toNat false)) := Lib.hid (by
          obtain ⟨g1, g2⟩ := HGV.out zs hp hz
          exact ⟨u, zs, hb2, g1, g2.symm⟩)
        clear cA cC hp hz hb2
        go_wp2
        go_ret
        exact ⟨rfl, v', HX.out⟩

theorem out_c (w0 : World) (r : Option Nat) (m b : Nat) (v : Value) (l : List Bool) (w : World) (h : PoolIs w0 r m b w v l) :
    Calls Try.prog 55 #[.pointer (some ⟨b, 0, none⟩)] w fun e w' => e = .returned (.int .i64 (countN m l : Nat)) ∧ ∃ q, w' = w.drewN q := by
  obtain ⟨u, ys, hb, hg, rfl⟩ := h
  have hct := hg.count
  have hum := hg.um
  have hm2 := hg.m200
  obtain ⟨c1, f1⟩ := hb.cell1
  obtain ⟨c2, f2⟩ := hb.cell
  obtain ⟨a, cap, hv⟩ := hb.own.len
  obtain ⟨n, hn⟩ : ∃ n, ys.length = n := ⟨_, rfl⟩
  have cN := fun w => len_c a n cap w
  rw [hn] at hct hv
  subst hv
  have hz : (u : Int) - (n : Int) = ((countN m (outRow u ys) : Nat) : Int) := by omega
  generalize countN m (outRow u ys) = c at *
  have HZ := Lib.hid hz
  have hu2 : (u : Int) ≤ 200 := by omega
  have hn2 : (n : Int) ≤ 200 := by omega
  clear hb hg hct hz hn
  go_enter Try.func55, Try.ntmps55
  go_wp2
  go_quiet ((go_at_call 60; exact Calls.quiet_of_same ((cN _).mono fun _ _ h => ⟨h.1, h.2.symm⟩)))
  go_wp2
  go_ret
  exact ⟨by rw [← HZ.out]; rfl, _, rfl⟩

theorem ownN_empty (B : Nat) (w : World) (hB : B ≤ w.heap.size) : OwnN B (w.alloc (.cells #[] 3)) (.slice (some ⟨w.heap.size, 0, none⟩) 0 0) [] :=
  ⟨rfl, Or.inr ⟨w.heap.size, 0, #[], rfl, hB, heap_alloc_new _ _, Nat.le_refl _, by unfold maxLen; omega, rfl, rfl⟩⟩
theorem addN (g off j : Nat) : (⟨g, off, none⟩ : Addr).add j = ⟨g, off + j, none⟩ := by
  unfold Addr.add
  split
  · rename_i h; subst h; rfl
  · rfl
/-- Appending a list of numbers to an own one, at either type of slices; nil, or a slice that has room. -/
theorem appendN (T : TypeId) (hT : Try.prog.underlying T = some (.slice 3)) {ops : Array Oper} {rest : List Oper} {o : Oper} {a : Act} {Q : Exit → Act → World → Prop} {w : World} (hgd : o.guard = none) (s x : Operand)
    (ho : o.op = .call { callee := .builtin .append, args := #[s, x], argTypes := #[T, T] }) (B : Nat) (v : Value) (xs : List Int) (hs : a.eval s = v) (hown : OwnN B w v xs)
    (ad : Addr) (n c : Nat) (L : List Int) (hn : L.length = n) (hx : a.eval x = .slice (some ad) n c) (hc : ∀ j, j < L.length → w.cell? (ad.add j) = some (.int .i64 (L.getD j 0))) (hlen : xs.length + L.length ≤ 100000) (hB : B ≤ w.heap.size)
    (h : ∀ v' w', OwnN B w' v' (xs ++ L) → w.grownBy w' v.ownBlock → (∀ k, v'.ownBlock = some k → v.ownBlock = some k ∨ w.heap.size ≤ k) → wpList Try.prog ops Q rest (a.put o.dst v') w') : wpList Try.prog ops Q (o :: rest) a w := by
  obtain ⟨i0, hi0, hz0, hz1, hz2⟩ := info_parts Try.infoInt
  refine wpList_plain hgd fun _ hK => ?_
  obtain ⟨v', w', hr, h1, h2, _, h4⟩ := run_append_own_at (P := Try.prog) (w := w) B T o.type 3 i0 (.int .i64 0) 1 8 hT hi0 hz0 hz1 hz2 rfl (by decide) v xs.length (xs.map (Value.int .i64)) hown ad n c (L.map (Value.int .i64)) (by simp [hn])
    (by
      intro j u hj
      by_cases hjl : j < L.length
      · rw [hc j hjl]
        simp [hjl, List.getD_eq_getElem?_getD] at hj ⊢
        exact hj
      · rw [List.getElem?_eq_none (by simpa using hjl)] at hj; cases hj)
    (by
      intro u hu
      obtain ⟨y, _, rfl⟩ := List.mem_map.1 hu
      rfl) (by unfold maxLen; omega) (by omega) hB
  unfold Oper.wp execOp
  simp only [ho, resolve, invoke, builtin, Sem.run_bind, Sem.run_pure, Result.andThen_ok, List.map_toArray, List.map_cons, List.map_nil, hs, hx, hr]
  refine hK _ _ (h v' w' ?_ h2 (fun k hk => ?_))
  · unfold OwnN
    rw [List.length_append, List.map_append, hn]
    exact h1
  · rcases h4 with h4 | h4
    · exact Or.inl (by rw [← h4]; exact hk)
    · right
      rw [h4] at hk
      injection hk with hk
      omega

theorem PoolIs.lt {w0 : World} {r : Option Nat} {m b : Nat} {w : World} {v : Value} {l : List Bool} (h : PoolIs w0 r m b w v l) : b < w.heap.size := by
  obtain ⟨u, ys, hb, _⟩ := h
  exact hb.lt
theorem PoolIs.below {w0 : World} {r : Option Nat} {m b : Nat} {w w' : World} {v : Value} {l : List Bool} (h : PoolIs w0 r m b w v l) (hb : Below w.heap.size w w') : PoolIs w0 r m b w' v l := by
  obtain ⟨u, ys, hx, hg, hl⟩ := h
  exact ⟨u, ys, hx.below hb, hg, hl⟩
theorem PoolIs.now {w0 : World} {r : Option Nat} {m b : Nat} {w : World} {v : Value} {l : List Bool} (h : PoolIs w0 r m b w v l) : PoolIs w v.ownBlock m b w v l := by
  obtain ⟨u, ys, hx, hg, hl⟩ := h
  exact ⟨u, ys, hx.now, hg, hl⟩
/-- Seen from before, where the pool was not yet. -/
theorem PoolIs.since {w0 wa : World} {r : Option Nat} {m b : Nat} {w : World} {v : Value} {l : List Bool} (h : PoolIs w0 r m b w v l) (hb : Below wa.heap.size wa w0) (hn : wa.heap.size ≤ b) (hr : ∀ k, r = some k → wa.heap.size ≤ k) : PoolIs wa none m b w v l := by
  obtain ⟨u, ys, hx, hg, hl⟩ := h
  have hs := hb.size
  refine ⟨u, ys, ⟨hx.at', hx.own, fun k hk => Or.inr ?_, ⟨hx.keep.os.trans hb.os, hx.keep.tape.trans hb.tape, hx.keep.output.trans hb.output, Nat.le_trans hs hx.keep.size, fun k hk h1 h2 => ?_⟩⟩, hg, hl⟩
  · rcases hx.row k hk with h1 | h1
    · exact hr k h1.symm
    · omega
  · rw [hx.keep.block k (by omega) h1 (fun e => by have := hr k e.symm; omega)]
    exact hb.block k hk
theorem PoolIs.keep {w0 : World} {r : Option Nat} {m b : Nat} {w : World} {v : Value} {l : List Bool} (h : PoolIs w0 r m b w v l) : Keeps b r w0 w := by
  obtain ⟨u, ys, hx, _⟩ := h
  exact hx.keep
theorem PoolIs.row {w0 : World} {r : Option Nat} {m b : Nat} {w : World} {v : Value} {l : List Bool} (h : PoolIs w0 r m b w v l) : ∀ k, v.ownBlock = some k → (some k = r ∨ w0.heap.size ≤ k) ∧ b < k ∧ k < w.heap.size := by
  obtain ⟨u, ys, hx, _⟩ := h
  intro k hk
  have := hx.own.lt k hk
  exact ⟨hx.row k hk, by omega, this.2⟩
/-- The library's copy of a row. -/
def SClonePost (B : Nat) (l : List Int) (w : World) (e : Ending) (w' : World) : Prop := ∃ v', e = .returned v' ∧ OwnN B w' v' l ∧ Below w.heap.size w w'
set_option maxHeartbeats 2000000 in
theorem sclone_c (B : Nat) (v : Value) (l : List Int) (w : World) (h : OwnN B w v l) (hl : l.length ≤ 1000) :
    Calls Try.prog 69 #[v] w (SClonePost w.heap.size l w) := by
  unfold SClonePost
  have q22 : ∀ (w : World) (a : Option Addr) (n c n' c' : Nat), (binOp .eql 72 (.slice a n c) (.slice none n' c')).run Try.prog w = .ok (.bool a.isNone) w := fun w a n c n' c' => Lib.run_eql_slice_nil w _ _ a n c n' c' Try.underlying72
  rcases h.2 with ⟨hv, h0⟩ | ⟨g, cap, cur, hv, hg, hb, hn, hm, hs, ht⟩
  · obtain rfl := List.eq_nil_of_length_eq_zero h0
    subst hv
    clear h
    go_enter Try.func69, Try.ntmps69
    go_wp2
    go_ret
    exact ⟨_, rfl, ⟨rfl, Or.inl ⟨rfl, rfl⟩⟩, Below.refl _ _⟩
  · subst hv
    have HC : Hid (∀ j, j < l.length → (w.alloc (.cells #[] 3)).cell? ((⟨g, 0, none⟩ : Addr).add j) = some (.int .i64 (l.getD j 0))) := Lib.hid (fun j hj => by
      rw [addN, World.cell?_of_block (w := w) (Below.heap_alloc w _ g (lt_of_get hb)), Nat.zero_add]
      exact (h.cell hj).1)
    have HO := Lib.hid (ownN_empty w.heap.size w (Nat.le_refl _))
    have HBA : Hid (Below w.heap.size w (w.alloc (.cells #[] 3))) := Lib.hid ((Below.refl _ w).alloc (Nat.le_refl _) _)
    obtain ⟨n, hn'⟩ : ∃ n, l.length = n := ⟨_, rfl⟩
    have HN := Lib.hid hn'
    rw [hn'] at hl ⊢
    clear h hg hb hn hm hs ht hn'
    go_enter Try.func69, Try.ntmps69
    go_wp2_with (at_builtin; refine appendN 72 Try.underlying72 rfl _ _ rfl w.heap.size _ [] rfl HO.out ⟨g, 0, none⟩ n cap l HN.out rfl HC.out (by rw [HN.out]; simp; omega) (by show _ ≤ (w.heap.push _).size; simp) ?_; intro v3 w3 hown3 hg3 hr3)
    rw [List.nil_append] at hown3
    have HO3 := Lib.hid hown3
    have HB3 : Hid (Below w.heap.size w w3) := Lib.hid (HBA.out.grown hg3 (by show _ ≤ (w.heap.push _).size; simp) (fun k hk => Nat.le_of_eq (Option.some.inj hk)))
    clear hown3 hg3 hr3
    go_ret
    exact ⟨_, rfl, HO3.out, HB3.out⟩

def ClonePost (m : Nat) (l : List Bool) (w : World) (e : Ending) (w' : World) : Prop := ∃ b v, e = .returned (.pointer (some ⟨b, 0, none⟩)) ∧ w.heap.size ≤ b ∧ PoolIs w none m b w' v l
set_option maxHeartbeats 2000000 in
theorem clone_c (w0 : World) (r : Option Nat) (m b : Nat) (v : Value) (l : List Bool) (w : World) (h : PoolIs w0 r m b w v l) :
    Calls Try.prog 49 #[.pointer (some ⟨b, 0, none⟩)] w (ClonePost m l w) := by
  unfold ClonePost
  obtain ⟨u, ys, hb, hg, rfl⟩ := h
  have hyl := hg.len
  have HG := Lib.hid hg
  obtain ⟨c0, f0⟩ := hb.cell0
  obtain ⟨c1, f1⟩ := hb.cell1
  obtain ⟨c2, f2⟩ := hb.cell
  have hbl := hb.lt
  have hown := hb.own
  obtain ⟨a, cap, hv⟩ := hb.own.len
  obtain ⟨n, hn⟩ : ∃ n, ys.length = n := ⟨_, rfl⟩
  rw [hn] at hv hyl
  subst hv
  obtain ⟨v, hv⟩ : ∃ v, v = Value.slice a n cap := ⟨_, rfl⟩
  rw [← hv] at c2 hown
  have j2 : (w.alloc (.cells #[.int .i64 m, .int .i64 u, v] 76)).cell? ⟨b, 2, none⟩ = some v := by rw [World.cell?_of_block (w := w) (Below.heap_alloc w _ b hbl)]; exact c2
  have cS := sclone_c (b + 1) v ys (w.alloc (.cells #[.int .i64 m, .int .i64 u, v] 76)) (hown.below ((Below.refl _ _).alloc (Nat.le_refl _) _)) (by omega)
  unfold SClonePost at cS
  have HS : Hid ((w.alloc (.cells #[.int .i64 m, .int .i64 u, v] 76)).heap.size = w.heap.size + 1) := Lib.hid (by simp)
  have HN : Hid ((w.alloc (.cells #[.int .i64 m, .int .i64 u, v] 76)).heap[w.heap.size]? = some (.cells #[.int .i64 m, .int .i64 u, v] 76 (0, 0))) := Lib.hid (heap_alloc_new _ _)
  have HBA : Hid (Below w.heap.size w (w.alloc (.cells #[.int .i64 m, .int .i64 u, v] 76))) := Lib.hid ((Below.refl _ w).alloc (Nat.le_refl _) _)
  subst hv
  clear hb hg hown hyl hbl hn
  go_enter Try.func49, Try.ntmps49
  go_wp2_with fail
  refine cS.mono ?_
  rintro e w2 ⟨v2, rfl, ho2, hb2⟩
  generalize w.alloc (.cells #[.int .i64 m, .int .i64 u, .slice a n cap] 76) = WA at *
  have hN2 : w2.heap[w.heap.size]? = some (.cells #[.int .i64 m, .int .i64 u, .slice a n cap] 76 (0, 0)) := by
    rw [hb2.block _ (by rw [HS.out]; omega)]
    exact HN.out
  have c9 : w2.cell? ⟨w.heap.size, 2, none⟩ = some (.slice a n cap) := Lib.cell_of_heap hN2 2
  have f9 : w2.frozen? ⟨w.heap.size, 2, none⟩ = false := Lib.frozen_of_heap hN2 2
  have HX : Hid (PoolIs w none m w.heap.size (w2.setCell ⟨w.heap.size, 2, none⟩ v2) v2 (outRow u ys)) := Lib.hid (by
    rw [HS.out] at ho2
    refine ⟨u, ys, ⟨?_, ho2.far (fun e => by have := (ho2.lt _ e).1; omega), fun k hk => Or.inr (by have := (ho2.lt k hk).1; omega), Keeps.set ?_ 2 v2⟩, HG.out, rfl⟩
    · rw [setCell_eq]
      simp [mapBlock, Array.getElem?_modify, hN2, onCells, poolO]
    · have hbb := HBA.out.trans (hb2.mono HBA.out.size)
      exact ⟨hbb.os, hbb.tape, hbb.output, hbb.size, fun k hk _ _ => hbb.block k hk⟩)
  obtain ⟨a2, cap2, hv2⟩ := ho2.len
  generalize ys.length = n2 at hv2
  subst hv2
  clear cS ho2 hb2 hN2 j2 c2
  go_wp2
  go_ret
  exact ⟨_, _, rfl, Nat.le_refl _, HX.out⟩
end Go.Proofs.Ythaghhleidopeaa
