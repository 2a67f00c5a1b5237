/-
  The contracts of a pool's calls: Take, Give, Out, Clone (a pool inside a tree).
-/
import Derived.Test.YthaghhleidopeaaEmOps
import Derived.Test.YthaghhleidopeaaIdPool2
namespace Go.Proofs.Ythaghhleidopeaa
namespace Emb
open Go.RowKit Go.Sort
set_option linter.unusedVariables false

/-- A pool at b: which numbers are out. -/
def PoolIs (w0 : World) (r : Option Nat) (m b : Nat) (w : World) (v : Value) (l : List Bool) : Prop := ∃ u ys, Box w0 r m u b w v ys ∧ GoodP m u ys ∧ l = outRow u ys

theorem take_c (w0 : World) (r : Option Nat) (m b : Nat) (v : Value) (l : List Bool) (w : World) (h : PoolIs w0 r m b w v l) :
    Calls Try.prog 37 #[.pointer (some ⟨b, 402, none⟩)] w fun e w' =>
      (leastN m l = 0 ∧ e = .returned (.tuple #[.int .i64 0, .bool false]) ∧ PoolIs w0 r m b w' v l) ∨ (∃ (n : Nat) (v' : Value), 1 ≤ n ∧ n ≤ 200 ∧ leastN m l = n ∧ e = .returned (.tuple #[.int .i64 (n : Int), .bool true]) ∧ PoolIs w0 r m b w' v' (l.set n true)) := by
  obtain ⟨u, ys, hb, hg, rfl⟩ := h
  have HB := Lib.hid hb
  have HG := Lib.hid hg
  have hum := hg.um
  have hm2 := hg.m200
  have hyl := hg.len
  have hum2 : (u : Int) ≤ 200 := by omega
  have hmm2 : (m : Int) ≤ 200 := by omega
  obtain ⟨c0, f0⟩ := hb.cell0
  obtain ⟨c1, f1⟩ := hb.cell1
  obtain ⟨c2, f2⟩ := hb.cell
  obtain ⟨a, cap, hv⟩ := hb.own.len
  have cN := len_c a ys.length cap w
  rw [← hv] at cN
  have HV := Lib.hid hv
  cases hys : ys with
  | cons y zs =>
    have cL := least_c w0 r m u b v ys zs.length w hb hg.heap (by rw [hys]; rfl) (by rw [hys] at hyl; simp at hyl; omega)
    unfold LeastPost at cL
    have HT : Hid (∀ zs, ys.Perm (ys.getD 0 0 :: zs) → HeapN zs.length zs → ∃ n : Nat, ys.getD 0 0 = (n : Int) ∧ 1 ≤ n ∧ leastN m (outRow u ys) = n ∧ GoodP m u zs ∧ outRow u zs = (outRow u ys).set n true) := Lib.hid (fun zs hp hz => hg.take hp hz)
    obtain ⟨n, hn⟩ : ∃ n, ys.length = n := ⟨_, rfl⟩
    have hn0 : (0 : Int) < (n : Int) := by rw [← hn, hys]; simp
    rw [hn] at cN
    have HYS := Lib.hid hys
    generalize hxx : ys.getD 0 0 = x at *
    rw [← hys]
    clear hb hg hn hys hv hyl hxx
    go_enter Try.func37, Try.ntmps37
    go_wp2_with fail
    refine cN.mono ?_
    rintro e w1 ⟨rfl, rfl⟩
    go_wp2_with fail
    refine cL.mono ?_
    rintro e w2 ⟨rfl, v', zs', hp, hz, hb2⟩
    obtain ⟨k, hk1, hk2, hk3, hk4, hk5⟩ := HT.out zs' hp hz
    have hk200 : k ≤ 200 := by rw [← hk3]; exact Nat.le_trans (leastN_le _ _) hm2
    have H1 : Hid (PoolIs w0 r m b w2 v' ((outRow u ys).set k true)) := Lib.hid ⟨u, zs', hb2, hk4, hk5.symm⟩
    have H2 := Lib.hid hk3
    subst hk1
    clear cL cN hp hz hb2 hk3 hk4 hk5
    go_wp2
    go_ret2
    exact Or.inr ⟨k, v', hk2, hk200, H2.out, rfl, H1.out⟩
  | nil =>
    subst hys
    rw [List.length_nil] at cN
    clear hb hg hv hyl
    by_cases e : u = m
    · have HE : Hid (leastN m (outRow u []) = 0) := Lib.hid (HG.out.full e)
      subst e
      go_enter Try.func37, Try.ntmps37
      go_wp2_with fail
      refine cN.mono ?_
      rintro e w1 ⟨rfl, rfl⟩
      clear cN
      go_wp2
      go_quiet (fail)
      go_wp2
      go_ret2
      exact Or.inl ⟨HE.out, rfl, u, [], HB.out.drewN _, HG.out, rfl⟩
    · obtain ⟨h1, h2, h3⟩ := HG.out.next e
      have H1 := Lib.hid h1
      have H2 := Lib.hid h2
      have H3 := Lib.hid h3
      have hez : ((u : Int) == (m : Int)) = false := by rw [beq_eq_false_iff_ne]; omega
      have huz : ((u : Int) + 1) = ((u + 1 : Nat) : Int) := by omega
      have HZ := Lib.hid huz
      clear h1 h2 h3 huz
      go_enter Try.func37, Try.ntmps37
      go_wp2_with fail
      refine cN.mono ?_
      rintro e w1 ⟨rfl, rfl⟩
      clear cN
      go_wp2
      go_quiet (fail)
      go_wp2
      go_ret2
      refine Or.inr ⟨u + 1, v, by omega, by omega, H1.out, by first | rfl | simp, u + 1, [], ?_, H2.out, H3.out.symm⟩
      first | exact (HB.out.drewN _).use (u + 1) | exact HB.out.drew.use (u + 1)
set_option maxHeartbeats 2000000 in
theorem give_c (w0 : World) (r : Option Nat) (m b : Nat) (v : Value) (l : List Bool) (x : Int) (w : World) (h : PoolIs w0 r m b w v l) (t : Bool) (ht : isOut m l x = t) :
    Calls Try.prog 40 #[.pointer (some ⟨b, 402, none⟩), .int .i64 x] w fun e w' => e = .returned (.bool t) ∧ ∃ v', PoolIs w0 r m b w' v' (if t = true then l.set x.toNat false else l) := by
  obtain ⟨u, ys, hb, hg, rfl⟩ := h
  have HB := Lib.hid hb
  have HG := Lib.hid hg
  have hyl := hg.len
  have HSM : Hid (PoolIs w0 r m b w v (outRow u ys)) := Lib.hid ⟨u, ys, hb, hg, rfl⟩
  rw [hg.isOut x] at ht
  obtain ⟨c1, f1⟩ := hb.cell1
  obtain ⟨c2, f2⟩ := hb.cell
  have hnb : NumsIs w v ys := NumsIs.own hb.own
  by_cases h1 : x < 1
  · obtain rfl : t = false := by rw [← ht]; exact decide_eq_false (fun h => by omega)
    have h1z : decide (x < 1) = true := decide_eq_true h1
    clear hb hg hyl ht hnb
    go_enter Try.func40, Try.ntmps40
    go_wp2
    go_ret
    exact ⟨rfl, v, HSM.out⟩
  · by_cases h2 : (u : Int) < x
    · obtain rfl : t = false := by rw [← ht]; exact decide_eq_false (fun h => by omega)
      have h1z : decide (x < 1) = false := decide_eq_false h1
      have h2z : decide ((u : Int) < x) = true := decide_eq_true h2
      clear hb hg hyl ht hnb
      go_enter Try.func40, Try.ntmps40
      go_wp2
      go_ret
      exact ⟨rfl, v, HSM.out⟩
    · have h1z : decide (x < 1) = false := decide_eq_false h1
      have h2z : decide ((u : Int) < x) = false := decide_eq_false h2
      by_cases h3 : x ∈ ys
      · obtain rfl : t = false := by rw [← ht]; exact decide_eq_false (fun h => h.2.2 h3)
        have cC := contains_c v ys x w hnb (by omega) true (decide_eq_true h3)
        clear hb hg hyl ht hnb h3
        go_enter Try.func40, Try.ntmps40
        go_wp2_with (go_at_call 63; refine cC.mono ?_; rintro e w1 ⟨rfl, rfl⟩)
        go_ret
        exact ⟨rfl, v, HSM.out⟩
      · obtain rfl : t = true := by rw [← ht]; exact decide_eq_true ⟨by omega, by omega, h3⟩
        have cC := contains_c v ys x w hnb (by omega) false (decide_eq_false h3)
        have cA := add_c w0 r m u b v ys x w hb hg.heap (by omega)
        unfold AddPost at cA
        have HGV : Hid (∀ zs, zs.Perm (x :: ys) → HeapN zs.length zs → GoodP m u zs ∧ outRow u zs = (outRow u ys).set x.toNat false) := Lib.hid (fun zs hp hz => hg.give (by omega) (by omega) h3 hp hz)
        clear hb hg hyl ht hnb h3
        go_enter Try.func40, Try.ntmps40
        go_wp2_with (go_at_call 63; refine cC.mono ?_; rintro e w1 ⟨rfl, rfl⟩)
        refine cA.mono ?_
        rintro e w2 ⟨rfl, v', zs, hp, hz, hb2⟩
        have HX : Hid (PoolIs w0 r m b w2 v' ((outRow u ys).set x.toNat false)) := Lib.hid (by
          obtain ⟨g1, g2⟩ := HGV.out zs hp hz
          exact ⟨u, zs, hb2, g1, g2.symm⟩)
        clear cA cC hp hz hb2
        go_wp2
        go_ret
        exact ⟨rfl, v', HX.out⟩

theorem out_c (w0 : World) (r : Option Nat) (m b : Nat) (v : Value) (l : List Bool) (w : World) (h : PoolIs w0 r m b w v l) :
    Calls Try.prog 55 #[.pointer (some ⟨b, 402, none⟩)] w fun e w' => e = .returned (.int .i64 (countN m l : Nat)) ∧ ∃ q, w' = w.drewN q := by
  obtain ⟨u, ys, hb, hg, rfl⟩ := h
  have hct := hg.count
  have hum := hg.um
  have hm2 := hg.m200
  obtain ⟨c1, f1⟩ := hb.cell1
  obtain ⟨c2, f2⟩ := hb.cell
  obtain ⟨a, cap, hv⟩ := hb.own.len
  obtain ⟨n, hn⟩ : ∃ n, ys.length = n := ⟨_, rfl⟩
  have cN := fun w => len_c a n cap w
  rw [hn] at hct hv
  subst hv
  have hz : (u : Int) - (n : Int) = ((countN m (outRow u ys) : Nat) : Int) := by omega
  generalize countN m (outRow u ys) = c at *
  have HZ := Lib.hid hz
  have hu2 : (u : Int) ≤ 200 := by omega
  have hn2 : (n : Int) ≤ 200 := by omega
  clear hb hg hct hz hn
  go_enter Try.func55, Try.ntmps55
  go_wp2
  go_quiet ((go_at_call 60; exact Calls.quiet_of_same ((cN _).mono fun _ _ h => ⟨h.1, h.2.symm⟩)))
  go_wp2
  go_ret
  exact ⟨by rw [← HZ.out]; rfl, _, rfl⟩

theorem PoolIs.lt {w0 : World} {r : Option Nat} {m b : Nat} {w : World} {v : Value} {l : List Bool} (h : PoolIs w0 r m b w v l) : b < w.heap.size := by
  obtain ⟨u, ys, hb, _⟩ := h
  exact hb.lt
theorem PoolIs.below {w0 : World} {r : Option Nat} {m b : Nat} {w w' : World} {v : Value} {l : List Bool} (h : PoolIs w0 r m b w v l) (hb : Below w.heap.size w w') : PoolIs w0 r m b w' v l := by
  obtain ⟨u, ys, hx, hg, hl⟩ := h
  exact ⟨u, ys, hx.below hb, hg, hl⟩
theorem PoolIs.now {w0 : World} {r : Option Nat} {m b : Nat} {w : World} {v : Value} {l : List Bool} (h : PoolIs w0 r m b w v l) : PoolIs w v.ownBlock m b w v l := by
  obtain ⟨u, ys, hx, hg, hl⟩ := h
  exact ⟨u, ys, hx.now, hg, hl⟩
theorem PoolIs.keep {w0 : World} {r : Option Nat} {m b : Nat} {w : World} {v : Value} {l : List Bool} (h : PoolIs w0 r m b w v l) : Keeps b r w0 w := by
  obtain ⟨u, ys, hx, _⟩ := h
  exact hx.keep
theorem PoolIs.row {w0 : World} {r : Option Nat} {m b : Nat} {w : World} {v : Value} {l : List Bool} (h : PoolIs w0 r m b w v l) : ∀ k, v.ownBlock = some k → (some k = r ∨ w0.heap.size ≤ k) ∧ b < k ∧ k < w.heap.size := by
  obtain ⟨u, ys, hx, _⟩ := h
  intro k hk
  have := hx.own.lt k hk
  exact ⟨hx.row k hk, by omega, this.2⟩
theorem clone_c (w0 : World) (r : Option Nat) (m b : Nat) (v : Value) (l : List Bool) (w : World) (h : PoolIs w0 r m b w v l) :
    Calls Try.prog 49 #[.pointer (some ⟨b, 402, none⟩)] w (ClonePost m l w) := by
  unfold ClonePost
  obtain ⟨u, ys, hb, hg, rfl⟩ := h
  have hyl := hg.len
  have HG := Lib.hid hg
  obtain ⟨c0, f0⟩ := hb.cell0
  obtain ⟨c1, f1⟩ := hb.cell1
  obtain ⟨c2, f2⟩ := hb.cell
  have hbl := hb.lt
  have hown := hb.own
  obtain ⟨a, cap, hv⟩ := hb.own.len
  obtain ⟨n, hn⟩ : ∃ n, ys.length = n := ⟨_, rfl⟩
  rw [hn] at hv hyl
  subst hv
  obtain ⟨v, hv⟩ : ∃ v, v = Value.slice a n cap := ⟨_, rfl⟩
  rw [← hv] at c2 hown
  have j2 : (w.alloc (.cells #[.int .i64 m, .int .i64 u, v] 76)).cell? ⟨b, 404, none⟩ = some v := by rw [World.cell?_of_block (w := w) (Below.heap_alloc w _ b hbl)]; exact c2
  have cS := sclone_c (b + 1) v ys (w.alloc (.cells #[.int .i64 m, .int .i64 u, v] 76)) (hown.below ((Below.refl _ _).alloc (Nat.le_refl _) _)) (by omega)
  unfold SClonePost at cS
  have HS : Hid ((w.alloc (.cells #[.int .i64 m, .int .i64 u, v] 76)).heap.size = w.heap.size + 1) := Lib.hid (by simp)
  have HN : Hid ((w.alloc (.cells #[.int .i64 m, .int .i64 u, v] 76)).heap[w.heap.size]? = some (.cells #[.int .i64 m, .int .i64 u, v] 76 (0, 0))) := Lib.hid (heap_alloc_new _ _)
  have HBA : Hid (Below w.heap.size w (w.alloc (.cells #[.int .i64 m, .int .i64 u, v] 76))) := Lib.hid ((Below.refl _ w).alloc (Nat.le_refl _) _)
  subst hv
  clear hb hg hown hyl hbl hn
  go_enter Try.func49, Try.ntmps49
  go_wp2_with fail
  refine cS.mono ?_
  rintro e w2 ⟨v2, rfl, ho2, hb2⟩
  generalize w.alloc (.cells #[.int .i64 m, .int .i64 u, .slice a n cap] 76) = WA at *
  have hN2 : w2.heap[w.heap.size]? = some (.cells #[.int .i64 m, .int .i64 u, .slice a n cap] 76 (0, 0)) := by
    rw [hb2.block _ (by rw [HS.out]; omega)]
    exact HN.out
  have c9 : w2.cell? ⟨w.heap.size, 2, none⟩ = some (.slice a n cap) := Lib.cell_of_heap hN2 2
  have f9 : w2.frozen? ⟨w.heap.size, 2, none⟩ = false := Lib.frozen_of_heap hN2 2
  have HX : Hid (Go.Proofs.Ythaghhleidopeaa.PoolIs w none m w.heap.size (w2.setCell ⟨w.heap.size, 2, none⟩ v2) v2 (outRow u ys)) := Lib.hid (by
    rw [HS.out] at ho2
    refine ⟨u, ys, ⟨?_, ho2.far (fun e => by have := (ho2.lt _ e).1; omega), fun k hk => Or.inr (by have := (ho2.lt k hk).1; omega), Keeps.set ?_ 2 v2⟩, HG.out, rfl⟩
    · rw [setCell_eq]
      simp [mapBlock, Array.getElem?_modify, hN2, onCells, poolO]
    · have hbb := HBA.out.trans (hb2.mono HBA.out.size)
      exact ⟨hbb.os, hbb.tape, hbb.output, hbb.size, fun k hk _ _ => hbb.block k hk⟩)
  obtain ⟨a2, cap2, hv2⟩ := ho2.len
  generalize ys.length = n2 at hv2
  subst hv2
  clear cS ho2 hb2 hN2 j2 c2
  go_wp2
  go_ret
  exact ⟨_, _, rfl, Nat.le_refl _, HX.out⟩
end Emb
end Go.Proofs.Ythaghhleidopeaa
