/-
  An entry, as the project reads it of an image; and all that are told of one directory.
-/
import Derived.Test.YtddobjhahohhhaaGreatFiRead
import Derived.Test.YtddobjhahohhhaaGreatImRead
import Derived.Test.YtddobjhahohhhaaGreatQH
namespace Go.Proofs.YtddobjhahohhhaaGreat
open Go.RowKit Go.Sort
set_option linter.unusedVariables false
set_option linter.unusedSimpArgs false

abbrev IR : TypeId := 75
theorem rd_grown_new {w W : World} {row : Option Nat} (h : w.grownBy W row) {g j : Nat} (hg : w.heap.size ≤ g) (v : Value) : w.grownBy (W.setCell ⟨g, j, none⟩ v) row :=
  ⟨h.os, h.tape, h.output, Nat.le_trans h.size (by simp [World.setCell]), fun k hk hn => (Below.heap_setCell W ⟨g, j, none⟩ v k (by show k ≠ g; omega)).trans (h.block k hk hn)⟩
theorem rd_grown_alloc {w W : World} {row : Option Nat} (h : w.grownBy W row) (o : Obj) : w.grownBy (W.alloc o) row := rd_grown_trans h (rd_grown_below ((Below.refl _ _).alloc (Nat.le_refl _) _) row)
theorem rd_grown_own {w W W' : World} {row row' : Option Nat} (h : w.grownBy W row) (k : W.grownBy W' row') (hr : ∀ g, row' = some g → w.heap.size ≤ g) : w.grownBy W' row :=
  ⟨k.os.trans h.os, k.tape.trans h.tape, k.output.trans h.output, Nat.le_trans h.size k.size, fun j hj hn => (k.block j (Nat.lt_of_lt_of_le hj h.size) (fun e => by have := hr j e.symm; omega)).trans (h.block j hj hn)⟩
abbrev entO (x : Ent) : Obj := .cells #[.string x.name, .int .i64 x.node, .bool x.dir, .int .i64 x.cookie, .int .i64 x.short] 84
/-- Within entry: the result (zero), the entry so far, the reader. -/
structure REnt (w : World) (b q : Nat) (x : Ent) (r : RS) (W : World) : Prop where
  z : W.heap[q]? = some ent0
  d : W.heap[q + 1]? = some (.cells #[.string x.name, .int .i64 x.node, .bool x.dir, .int .i64 x.cookie, .int .i64 x.short] 84 (0, 0))
  rd : RdIs IR b r.l r.p W
  g : w.grownBy W (some b)
  lt : b < q
  hq : w.heap.size ≤ q
  len : r.l.length ≤ 100000
section
variable {w W W' : World} {b q : Nat} {x : Ent} {r : RS}
theorem REnt.step (h : REnt w b q x r W) {r' : RS} {v : Value} {e : Ending} (hl : r'.l.length ≤ r.l.length) (hp : RdPost IR b W r'.l r'.p v e W') : e = .returned v ∧ REnt w b q x r' W' := by
  obtain ⟨he, hw, hg⟩ := hp
  have hlt := h.lt
  exact ⟨he, (hg.block _ (lt_of_get h.z) (fun e => by have := Option.some.inj e; omega)).trans h.z, (hg.block _ (lt_of_get h.d) (fun e => by have := Option.some.inj e; omega)).trans h.d, hw, rd_grown_trans h.g hg, h.lt, h.hq, Nat.le_trans hl h.len⟩
theorem REnt.num (h : REnt w b q x r W) (kk : Int) (k : Nat) (hk : kk = (k : Int)) (hk8 : k ≤ 7) {n : Int} {r' : RS} (hn : Hid ((rdN k r.l : Int) = n)) (hr : Hid (r.num k = r')) :
    Calls Tryz.prog 24 #[ptV b, .int .i64 kk] W fun e w' => e = .returned (.int .i64 n) ∧ REnt w b q x r' w' := by
  subst hk
  obtain rfl := hn.out
  obtain rfl := hr.out
  have h9 := rnumber_c b k r.l r.p W h.rd (by omega) h.len
  rw [valI_small k r.l hk8] at h9
  exact h9.mono fun e w' hp => h.step (r' := r.num k) (num_le k r) hp
theorem REnt.num8 (h : REnt w b q x r W) {n : Int} {r' : RS} (hn : Hid (valI 8 r.l = n)) (hr : Hid (r.num 8 = r')) :
    Calls Tryz.prog 24 #[ptV b, .int .i64 8] W fun e w' => e = .returned (.int .i64 n) ∧ REnt w b q x r' w' := by
  obtain rfl := hn.out
  obtain rfl := hr.out
  exact (rnumber_c b 8 r.l r.p W h.rd (by omega) h.len).mono fun e w' hp => h.step (r' := r.num 8) (num_le 8 r) hp
theorem REnt.name (h : REnt w b q x r W) {s : ByteArray} {r' : RS} (hn : Hid (nmL r.l = s)) (hr : Hid (r.nam = r')) :
    Calls Tryz.prog 80 #[ptV b] W fun e w' => e = .returned (.string s) ∧ REnt w b q x r' w' := by
  obtain rfl := hn.out
  obtain rfl := hr.out
  exact (rname_c b r.l r.p W h.rd h.len).mono fun e w' hp => h.step (r' := r.nam) (nam_le r) hp
theorem REnt.flag (h : REnt w b q x r W) {t : Bool} {r' : RS} (hn : Hid (decide (rdN 1 r.l = 1) = t)) (hr : Hid (r.num 1 = r')) :
    Calls Tryz.prog 81 #[ptV b] W fun e w' => e = .returned (.bool t) ∧ REnt w b q x r' w' := by
  obtain rfl := hn.out
  obtain rfl := hr.out
  exact (rflag_c b r.l r.p W h.rd h.len).mono fun e w' hp => h.step (r' := r.num 1) (num_le 1 r) hp
theorem REnt.put (h : REnt w b q x r W) (j : Nat) (v : Value) {x' : Ent} (hx : (⟨entC x⟩ : Array Value).setIfInBounds j v = ⟨entC x'⟩) : REnt w b q x' r (W.setCell ⟨q + 1, j, none⟩ v) := by
  have hne : ∀ g, g ≠ q + 1 → (W.setCell ⟨q + 1, j, none⟩ v).heap[g]? = W.heap[g]? := fun g hg => Below.heap_setCell _ _ _ _ hg
  have hlt := h.lt
  refine ⟨by rw [hne _ (by omega)]; exact h.z, ?_, by unfold RdIs; rw [hne _ (by omega)]; exact h.rd, rd_grown_new h.g (by have := h.hq; omega) v, h.lt, h.hq, h.len⟩
  rw [heap_setCell_same _ (q + 1) j _ _ _ h.d]
  exact congrArg (fun a => some (Obj.cells a 84 (0, 0))) hx
end
theorem rent_new {b : Nat} {r : RS} {w : World} (h : RdIs IR b r.l r.p w) (hl : r.l.length ≤ 100000) : REnt w b w.heap.size noEnt r ((w.alloc ent0).alloc ent0) := by
  have hb := lt_of_get h
  refine ⟨?_, ?_, ?_, rd_grown_alloc (rd_grown_alloc (World.grownBy.refl w _) _) _, hb, Nat.le_refl _, hl⟩
  · rw [Lib.alloc_old _ _ _ (by simp)]
    exact heap_alloc_new _ _
  · have h9 := heap_alloc_new (w.alloc ent0) ent0
    rwa [show (w.alloc ent0).heap.size = w.heap.size + 1 by simp] at h9
  · unfold RdIs
    rw [Lib.alloc_old _ _ _ (by simp; omega), Lib.alloc_old _ _ _ hb]
    exact h
def REPost (b : Nat) (w : World) (f : Ent × RS) (e : Ending) (w' : World) : Prop := e = .returned (entV f.1) ∧ RdIs IR b f.2.l f.2.p w' ∧ w.grownBy w' (some b)
set_option maxHeartbeats 8000000 in
set_option maxRecDepth 100000 in
theorem rentry_c (b : Nat) (r : RS) (w : World) (h : RdIs IR b r.l r.p w) (hl : r.l.length ≤ 100000) :
    Calls Tryz.prog 55 #[ptV b] w (REPost b w (entR r)) := by
  unfold REPost
  obtain ⟨F, hF⟩ : ∃ F, entR r = F := ⟨_, rfl⟩
  rw [hF]
  unfold entR at hF
  obtain ⟨s1, hs1⟩ : ∃ s1, nmL r.l = s1 := ⟨_, rfl⟩
  obtain ⟨r1, hr1⟩ : ∃ r1, r.nam = r1 := ⟨_, rfl⟩
  rw [hs1, hr1] at hF
  obtain ⟨n2, hn2⟩ : ∃ n2 : Int, (rdN 2 r1.l : Int) = n2 := ⟨_, rfl⟩
  obtain ⟨r2, hr2⟩ : ∃ r2, r1.num 2 = r2 := ⟨_, rfl⟩
  rw [hn2, hr2] at hF
  obtain ⟨t3, ht3⟩ : ∃ t3, decide (rdN 1 r2.l = 1) = t3 := ⟨_, rfl⟩
  obtain ⟨r3, hr3⟩ : ∃ r3, r2.num 1 = r3 := ⟨_, rfl⟩
  rw [ht3, hr3] at hF
  obtain ⟨n4, hn4⟩ : ∃ n4 : Int, valI 8 r3.l = n4 := ⟨_, rfl⟩
  obtain ⟨r4, hr4⟩ : ∃ r4, r3.num 8 = r4 := ⟨_, rfl⟩
  rw [hn4, hr4] at hF
  obtain ⟨n5, hn5⟩ : ∃ n5 : Int, (rdN 4 r4.l : Int) = n5 := ⟨_, rfl⟩
  obtain ⟨r5, hr5⟩ : ∃ r5, r4.num 4 = r5 := ⟨_, rfl⟩
  rw [hn5, hr5] at hF
  have Hs1 := Lib.hid hs1
  have Hr1 := Lib.hid hr1
  have Hn2 := Lib.hid hn2
  have Hr2 := Lib.hid hr2
  have Ht3 := Lib.hid ht3
  have Hr3 := Lib.hid hr3
  have Hn4 := Lib.hid hn4
  have Hr4 := Lib.hid hr4
  have Hn5 := Lib.hid hn5
  have Hr5 := Lib.hid hr5
  have HF := Lib.hid hF
  have HD := Lib.hid (rent_new h hl)
  clear h hl hs1 hr1 hn2 hr2 ht3 hr3 hn4 hr4 hn5 hr5 hF
  unfold noEnt ent0 at HD
  go_enter Tryz.func55, Tryz.ntmps55
  go_upto_region 2 with fail
  generalize ((w.alloc (.cells #[.string ⟨#[]⟩, .int .i64 0, .bool false, .int .i64 0, .int .i64 0] 84)).alloc (.cells #[.string ⟨#[]⟩, .int .i64 0, .bool false, .int .i64 0, .int .i64 0] 84)) = W0 at *
  generalize w.heap.size = q at *
  go_upto_region 3 with (go_at_call 80; refine (HD.out.name Hs1 Hr1).mono ?_; rintro e w1 ⟨rfl, hd⟩; have HD := Lib.hid hd; clear hd; obtain ⟨⟨_, _, _, _, _⟩, ⟨f0, f1, f2, f3, f4⟩⟩ := five_cells HD.out.d)
  have HD := Lib.hid (HD.out.put 0 (.string s1) (x' := ⟨s1, 0, false, 0, 0⟩) rfl)
  generalize (w1.setCell ⟨q + 1, 0, none⟩ (.string s1)) = W1 at *
  clear f0 f1 f2 f3 f4
  go_upto_region 4 with (go_at_call 24; refine (HD.out.num 2 2 rfl (by omega) Hn2 Hr2).mono ?_; rintro e w2 ⟨rfl, hd⟩; have HD := Lib.hid hd; clear hd; obtain ⟨⟨_, _, _, _, _⟩, ⟨f0, f1, f2, f3, f4⟩⟩ := five_cells HD.out.d)
  have HD := Lib.hid (HD.out.put 1 (.int .i64 n2) (x' := ⟨s1, n2, false, 0, 0⟩) rfl)
  generalize (w2.setCell ⟨q + 1, 1, none⟩ (.int .i64 n2)) = W2 at *
  clear f0 f1 f2 f3 f4
  go_upto_region 5 with (go_at_call 81; refine (HD.out.flag Ht3 Hr3).mono ?_; rintro e w3 ⟨rfl, hd⟩; have HD := Lib.hid hd; clear hd; obtain ⟨⟨_, _, _, _, _⟩, ⟨f0, f1, f2, f3, f4⟩⟩ := five_cells HD.out.d)
  have HD := Lib.hid (HD.out.put 2 (.bool t3) (x' := ⟨s1, n2, t3, 0, 0⟩) rfl)
  generalize (w3.setCell ⟨q + 1, 2, none⟩ (.bool t3)) = W3 at *
  clear f0 f1 f2 f3 f4
  go_upto_region 6 with (go_at_call 24; refine (HD.out.num8 Hn4 Hr4).mono ?_; rintro e w4 ⟨rfl, hd⟩; have HD := Lib.hid hd; clear hd; obtain ⟨⟨_, _, _, _, _⟩, ⟨f0, f1, f2, f3, f4⟩⟩ := five_cells HD.out.d)
  have HD := Lib.hid (HD.out.put 3 (.int .i64 n4) (x' := ⟨s1, n2, t3, n4, 0⟩) rfl)
  generalize (w4.setCell ⟨q + 1, 3, none⟩ (.int .i64 n4)) = W4 at *
  clear f0 f1 f2 f3 f4
  go_upto_region 7 with (go_at_call 24; refine (HD.out.num 4 4 rfl (by omega) Hn5 Hr5).mono ?_; rintro e w5 ⟨rfl, hd⟩; have HD := Lib.hid hd; clear hd; obtain ⟨⟨_, _, _, _, _⟩, ⟨f0, f1, f2, f3, f4⟩⟩ := five_cells HD.out.d)
  have HD := Lib.hid (HD.out.put 4 (.int .i64 n5) (x' := ⟨s1, n2, t3, n4, n5⟩) rfl)
  generalize (w5.setCell ⟨q + 1, 4, none⟩ (.int .i64 n5)) = W5 at *
  clear f0 f1 f2 f3 f4
  obtain ⟨⟨p0, p1, p2, p3, p4⟩, _⟩ := five_cells HD.out.d
  obtain ⟨⟨z0, z1, z2, z3, z4⟩, ⟨y0, y1, y2, y3, y4⟩⟩ := five_cells HD.out.z
  go_wp2_with fail
  (try simp only [Exit.inBlock, Exit.then])
  have hz := ent_put HD.out.z (.string s1) (.int .i64 n2) (.bool t3) (.int .i64 n4) (.int .i64 n5)
  refine bodyPost_ret (results_cell_row Tryz.results55 _ _ _ _ _ _ _ rfl hz Tryz.underlying84 rfl (by kernel_rfl)) rfl ⟨by rw [← HF.out]; rfl, ?_, ?_⟩
  · have hlt := HD.out.lt
    rw [← HF.out]
    show RdIs IR b r5.l r5.p _
    unfold RdIs
    rw [Below.heap_setCell _ _ _ _ (show b ≠ q by omega), Below.heap_setCell _ _ _ _ (show b ≠ q by omega), Below.heap_setCell _ _ _ _ (show b ≠ q by omega), Below.heap_setCell _ _ _ _ (show b ≠ q by omega), Below.heap_setCell _ _ _ _ (show b ≠ q by omega)]
    exact HD.out.rd
  · have hq := HD.out.hq
    exact rd_grown_new (rd_grown_new (rd_grown_new (rd_grown_new (rd_grown_new HD.out.g hq _) hq _) hq _) hq _) hq _
end Go.Proofs.YtddobjhahohhhaaGreat
