/-
  A vault (stage 8): Renew of one that is over.
-/
import Derived.Test.YtmpfdmjbgabcdaaJ4
namespace Go.Proofs.Ytmpfdmjbgabcdaa
open Go.RowKit Go.Sort
set_option linter.unusedVariables false

set_option maxHeartbeats 2000000 in
set_option maxRecDepth 100000 in
theorem renew_over {vb b h A E : Nat} {k : Bool} {img : ByteArray} {rv : Value} {w : World} (s : ByteArray) (hv : VaultAt w vb b (bkF h k) h A E img rv false) (hh : h ≤ 100000) (hs : s.size ≤ 1000000) (hE : E + 1 < 9223372036854775808) :
    Calls Try.prog 12 #[.pointer (some ⟨vb, 0, none⟩), .string s] w fun e w' => e = .returned (.int .i64 13) ∧ Below w.heap.size w w' := by
  have HL := Lib.hid hv
  have hL := hv
  clear hv
  have HO : Hid (∀ W, Below w.heap.size w W → Calls Try.prog 33 #[.pointer (some ⟨vb, 0, none⟩)] W fun e w' => e = .returned (.agg #[.pointer (some ⟨b, 0, none⟩), .int .i64 (bkF h (!k)), .int .i64 h, .int .i64 1, .int .u64 (E + 1 : Nat)]) ∧ Below W.heap.size W w') := Lib.hid (fun W hW => by
    have hbk : bkF h k ≤ h ∧ h - bkF h k = bkF h (!k) := by cases k <;> simp [bkF]
    have h1 := other_c (HalfAt.below HL.out hW) hbk.1 (by omega) (by omega)
    rw [hbk.2] at h1
    exact h1)
  have HC0 : Hid (∀ W, Below w.heap.size w W → W.cell? ⟨vb, 0, none⟩ = some (.pointer (some ⟨b, 0, none⟩))) := Lib.hid (fun W hW => (HalfAt.below HL.out hW).cells.1)
  have HDO : Hid (∀ (W : World) (nb : Nat), w.heap.size ≤ nb → Below w.heap.size w W → HalfAt W nb 68 b (bkF h (!k)) h 1 (E + 1) [] → Calls Try.prog 30 #[.pointer (some ⟨vb, 0, none⟩), .slice (some ⟨W.heap.size, 0, none⟩) (10 : Nat) (10 : Nat)] (W.alloc (.cells #[.func (.func 35) #[.pointer (some ⟨nb, 0, none⟩)] #[], .func (.func 36) #[.agg #[.pointer (some ⟨nb, 0, none⟩), .string s]] #[], .func (.func 37) #[.pointer (some ⟨vb, 0, none⟩)] #[], .func (.func 38) #[.pointer (some ⟨nb, 0, none⟩)] #[], .func (.func 34) #[.pointer (some ⟨b, 0, none⟩)] #[], .func (.func 39) #[.pointer (some ⟨nb, 0, none⟩)] #[], .func (.func 31) #[.agg #[.pointer (some ⟨nb, 0, none⟩), .string s]] #[], .func (.func 34) #[.pointer (some ⟨b, 0, none⟩)] #[], .func (.func 40) #[.pointer (some ⟨nb, 0, none⟩)] #[], .func (.func 34) #[.pointer (some ⟨b, 0, none⟩)] #[]] 97)) fun e w' => ∃ q : Int, e = .returned (.int .i64 q) ∧ q = 13 ∧ Below w.heap.size w w' ∧ Off vaTs w w' ∧ Off vaTs (W.alloc (.cells ((rnKs b vb nb s).map stepV).toArray 97)) w') := Lib.hid (fun W nb hnb hW hN => by
    have hWa : Below w.heap.size w (W.alloc (.cells ((rnKs b vb nb s).map stepV).toArray 97)) := hW.alloc hW.size _
    refine (do_over (w := (W.alloc (.cells ((rnKs b vb nb s).map stepV).toArray 97))) W.heap.size 10 (HalfAt.below HL.out hWa)).mono ?_
    rintro e w' ⟨rfl, rfl⟩
    exact ⟨13, rfl, rfl, hWa, Off.ofBelow hWa _, Off.refl _ _⟩)
  have c0 := HC0.out w (Below.refl _ _)
  generalize bkF h (!k) = Fo at *
  generalize E + 1 = E1 at *
  obtain ⟨Z, hZ⟩ : ∃ Z : Obj, Z = .cells #[.pointer none, .int .i64 0, .int .i64 0, .int .i64 0, .int .u64 0] 68 (0, 0) := ⟨_, rfl⟩
  have HZ : Hid (∀ W W' : World, Below (W.alloc Z).drew.heap.size (W.alloc Z).drew W' → HalfZ W' W.heap.size) := Lib.hid (fun W W' hb => by
    unfold HalfZ
    rw [hb.block W.heap.size (by show _ < (W.alloc Z).heap.size; simp)]
    show (W.alloc Z).heap[W.heap.size]? = _
    rw [heap_alloc_new, hZ])
  have HS1 : Hid (∀ w1, Below w.heap.size w w1 → (HalfAt (w1.alloc (.cells #[.pointer (some ⟨b, 0, none⟩), .int .i64 Fo, .int .i64 h, .int .i64 1, .int .u64 E1] 68)) w1.heap.size 68 b Fo h 1 E1 [] ∧ Below w.heap.size w (w1.alloc (.cells #[.pointer (some ⟨b, 0, none⟩), .int .i64 Fo, .int .i64 h, .int .i64 1, .int .u64 E1] 68)) ∧ w.heap.size ≤ w1.heap.size)) := Lib.hid (fun w1 hB1 => ⟨heap_alloc_new _ _, hB1.alloc hB1.size _, hB1.size⟩)
  have HS2 : Hid (∀ w1, Below w.heap.size w w1 → HalfZ w1 w.heap.size → (HalfAt (((((w1.setCell ⟨w.heap.size, 0, none⟩ (.pointer (some ⟨b, 0, none⟩))).setCell ⟨w.heap.size, 1, none⟩ (.int .i64 Fo)).setCell ⟨w.heap.size, 2, none⟩ (.int .i64 h)).setCell ⟨w.heap.size, 3, none⟩ (.int .i64 1)).setCell ⟨w.heap.size, 4, none⟩ (.int .u64 E1)) w.heap.size 68 b Fo h 1 E1 [] ∧ Below w.heap.size w (((((w1.setCell ⟨w.heap.size, 0, none⟩ (.pointer (some ⟨b, 0, none⟩))).setCell ⟨w.heap.size, 1, none⟩ (.int .i64 Fo)).setCell ⟨w.heap.size, 2, none⟩ (.int .i64 h)).setCell ⟨w.heap.size, 3, none⟩ (.int .i64 1)).setCell ⟨w.heap.size, 4, none⟩ (.int .u64 E1)) ∧ w.heap.size ≤ w.heap.size)) := Lib.hid (fun w1 hB1 zz => ⟨heap_setCells_at w.heap.size 68 [.pointer (some ⟨b, 0, none⟩), .int .i64 Fo, .int .i64 h, .int .i64 1, .int .u64 E1] 0 w1 [.pointer none, .int .i64 0, .int .i64 0, .int .i64 0, .int .u64 0] zz (by simp), Below.setCells hB1 (Nat.le_refl _) 0 [.pointer (some ⟨b, 0, none⟩), .int .i64 Fo, .int .i64 h, .int .i64 1, .int .u64 E1], Nat.le_refl _⟩)
  subst hZ
  have c9 := HC0.out (w.alloc (.cells #[.pointer none, .int .i64 0, .int .i64 0, .int .i64 0, .int .u64 0] 68)) ((Below.refl _ _).alloc (Nat.le_refl _) _)
  clear hL
  go_enter Try.func12, Try.ntmps12
  go_upto_region 1 with fail
  go_cut [5, 6] from 9 (fun c d wx => ∃ nb, c = .pointer (some ⟨nb, 0, none⟩) ∧ d = .func (.func 34) #[.pointer (some ⟨b, 0, none⟩)] #[] ∧ HalfAt wx nb 68 b Fo h 1 E1 [] ∧ Below w.heap.size w wx ∧ w.heap.size ≤ nb)
  case first =>
    go_region_with (first | (go_at_call 33; refine (HO.out _ ?_).mono ?_; (first | exact (Below.refl _ _).drew | exact ((Below.refl _ _).alloc (Nat.le_refl _) _).drew); rintro e w1 ⟨rfl, hb1⟩; have hB1 : Below w.heap.size w w1 := (by first | exact (Below.refl _ _).drew.trans hb1 | exact ((Below.refl _ _).alloc (Nat.le_refl _) _).drew.trans (hb1.mono (by simp))); have d0 := HC0.out _ hB1; have d1 := HC0.out _ (hB1.alloc hB1.size (.cells #[.pointer none, .int .i64 0, .int .i64 0, .int .i64 0, .int .u64 0] 68)); (first | (have zz := HZ.out _ _ hb1; obtain ⟨⟨y0, y1, y2, y3, y4⟩, x0, x1, x2, x3, x4⟩ := zz.all) | skip)))
    all_goals
      go_wp2
      go_meet
      case rel =>
        first
          | (refine ⟨w1.heap.size, by with_reducible rfl, rfl, ?_⟩; exact HS1.out w1 hB1)
          | (refine ⟨w.heap.size, by with_reducible rfl, rfl, ?_⟩; exact HS2.out w1 hB1 zz)
  case rest =>
    obtain ⟨nb, rfl, rfl, hnb, hbc, hnbw⟩ := hcut
    have HNB := Lib.hid hnb
    have HBC := Lib.hid hbc
    clear hnb hbc c9 c0
    obtain ⟨W0, hW0⟩ : ∃ W0, wc.alloc (.cells #[.pointer (some ⟨nb, 0, none⟩), .string s] 72) = W0 := ⟨_, rfl⟩
    have HB0 : Hid (Below w.heap.size w W0) := Lib.hid (by rw [← hW0]; exact HBC.out.alloc HBC.out.size _)
    have hC0 : W0.heap[wc.heap.size]? = some (.cells #[.pointer (some ⟨nb, 0, none⟩), .string s] 72 (0, 0)) := by rw [← hW0]; exact heap_alloc_new _ _
    have HN0 : Hid (HalfAt W0 nb 68 b Fo h 1 E1 []) := Lib.hid (by rw [← hW0]; exact HalfAt.below HNB.out ((Below.refl _ _).alloc (Nat.le_refl _) _))
    have j0 : W0.cell? ⟨wc.heap.size, 0, none⟩ = some (.pointer (some ⟨nb, 0, none⟩)) := by rw [cell_of_row _ _ _ _ _ _ hC0]; rfl
    have j1 : W0.cell? ⟨wc.heap.size, 1, none⟩ = some (.string s) := by rw [cell_of_row _ _ _ _ _ _ hC0]; rfl
    have HC0b := Lib.hid hC0
    have HHC : Hid (∀ W : World, W.heap[wc.heap.size]? = some (.cells #[.pointer (some ⟨nb, 0, none⟩), .string s] 72 (0, 0)) → (W.heap[wc.heap.size]? = some (.cells #[.pointer (some ⟨nb, 0, none⟩), .string s] 72 (0, 0)) ∧ W.cell? ⟨wc.heap.size, 0, none⟩ = some (.pointer (some ⟨nb, 0, none⟩)) ∧ W.cell? ⟨wc.heap.size, 1, none⟩ = some (.string s))) := Lib.hid (fun W h => ⟨h, by rw [cell_of_row _ _ _ _ _ _ h]; rfl, by rw [cell_of_row _ _ _ _ _ _ h]; rfl⟩)
    have HKO : Hid (∀ W W' : World, W.heap[wc.heap.size]? = some (.cells #[.pointer (some ⟨nb, 0, none⟩), .string s] 72 (0, 0)) → Off vaTs W W' → W'.heap[wc.heap.size]? = some (.cells #[.pointer (some ⟨nb, 0, none⟩), .string s] 72 (0, 0))) := Lib.hid (fun W W' hS ho => ho _ (by decide) _ _ _ hS)
    have hS0 := HHC.out W0 hC0
    clear hC0
    go_upto_region 3 with fail
    try rw [hW0]
    clear hW0
    have hS0d : W0.drew.heap[wc.heap.size]? = some (.cells #[.pointer (some ⟨nb, 0, none⟩), .string s] 72 (0, 0)) := hS0.1
    refine wp_region_held_drew (S := fun W : World => W.heap[wc.heap.size]? = some (.cells #[.pointer (some ⟨nb, 0, none⟩), .string s] 72 (0, 0))) (by kernel_rfl) hS0d (fun hHeld => ?_)
    refine wpAnyH_take (i := 0) (oi := { dst := some 21, op := .move (.tmp 0), type := _, pos := _, after := _, guard := none }) (v := .pointer (some ⟨vb, 0, none⟩)) rfl (by kernel_rfl) (by kernel_rfl) (by kernel_rfl) (fun _ _ _ h => h) (Or.inl ⟨by rfl, by intro w _; first | rfl | go_simp⟩) (by assumption) ?_
    try simp only [Act.put, List.setIfInBounds_toArray, List.set_cons_zero, List.set_cons_succ]
    refine wpAnyH_take (i := 1) (oi := { dst := some 22, op := .makeFunc (.func 35) #[.tmp 5] #[], type := _, pos := _, after := _, guard := none }) (v := .func (.func 35) #[.pointer (some ⟨nb, 0, none⟩)] #[]) rfl (by kernel_rfl) (by kernel_rfl) (by kernel_rfl) (fun _ _ _ h => h) (Or.inl ⟨by rfl, by intro w _; first | rfl | go_simp⟩) (by assumption) ?_
    try simp only [Act.put, List.setIfInBounds_toArray, List.set_cons_zero, List.set_cons_succ]
    refine wpAnyH_take (i := 2) (oi := { dst := some 23, op := .load 72 (.tmp 7), type := _, pos := _, after := _, guard := none }) (v := .agg #[.pointer (some ⟨nb, 0, none⟩), .string s]) rfl (by kernel_rfl) (by kernel_rfl) (by kernel_rfl) (fun _ _ _ h => h) (Or.inl ⟨by rfl, by intro w hS; obtain ⟨_, c0, c1⟩ := HHC.out w hS; go_simp⟩) (by assumption) ?_
    try simp only [Act.put, List.setIfInBounds_toArray, List.set_cons_zero, List.set_cons_succ]
    refine wpAnyH_take (i := 3) (oi := { dst := some 24, op := .makeFunc (.func 36) #[.tmp 23] #[], type := _, pos := _, after := _, guard := none }) (v := .func (.func 36) #[.agg #[.pointer (some ⟨nb, 0, none⟩), .string s]] #[]) rfl (by kernel_rfl) (by kernel_rfl) (by kernel_rfl) (fun _ _ _ h => h) (Or.inl ⟨by rfl, by intro w _; first | rfl | go_simp⟩) (by assumption) ?_
    try simp only [Act.put, List.setIfInBounds_toArray, List.set_cons_zero, List.set_cons_succ]
    refine wpAnyH_take (i := 4) (oi := { dst := some 25, op := .move (.tmp 0), type := _, pos := _, after := _, guard := none }) (v := .pointer (some ⟨vb, 0, none⟩)) rfl (by kernel_rfl) (by kernel_rfl) (by kernel_rfl) (fun _ _ _ h => h) (Or.inl ⟨by rfl, by intro w _; first | rfl | go_simp⟩) (by assumption) ?_
    try simp only [Act.put, List.setIfInBounds_toArray, List.set_cons_zero, List.set_cons_succ]
    refine wpAnyH_take (i := 5) (oi := { dst := some 26, op := .nilCheck (.tmp 25), type := _, pos := _, after := _, guard := none }) (v := .pointer (some ⟨vb, 0, none⟩)) rfl (by kernel_rfl) (by kernel_rfl) (by kernel_rfl) (fun _ _ _ h => h) (Or.inl ⟨by rfl, by intro w _; first | rfl | go_simp⟩) (by assumption) ?_
    try simp only [Act.put, List.setIfInBounds_toArray, List.set_cons_zero, List.set_cons_succ]
    refine wpAnyH_take (i := 6) (oi := { dst := some 27, op := .fieldAddr 70 (.tmp 26) 0, type := _, pos := _, after := _, guard := none }) (v := .pointer (some ⟨vb, 0, none⟩)) rfl (by kernel_rfl) (by kernel_rfl) (by kernel_rfl) (fun _ _ _ h => h) (Or.inl ⟨by rfl, by intro w _; go_simp⟩) (by assumption) ?_
    try simp only [Act.put, List.setIfInBounds_toArray, List.set_cons_zero, List.set_cons_succ]
    refine wpAnyH_take (i := 7) (oi := { dst := some 28, op := .makeFunc (.func 37) #[.tmp 27] #[], type := _, pos := _, after := _, guard := none }) (v := .func (.func 37) #[.pointer (some ⟨vb, 0, none⟩)] #[]) rfl (by kernel_rfl) (by kernel_rfl) (by kernel_rfl) (fun _ _ _ h => h) (Or.inl ⟨by rfl, by intro w _; first | rfl | go_simp⟩) (by assumption) ?_
    try simp only [Act.put, List.setIfInBounds_toArray, List.set_cons_zero, List.set_cons_succ]
    refine wpAnyH_take (i := 8) (oi := { dst := some 29, op := .makeFunc (.func 38) #[.tmp 5] #[], type := _, pos := _, after := _, guard := none }) (v := .func (.func 38) #[.pointer (some ⟨nb, 0, none⟩)] #[]) rfl (by kernel_rfl) (by kernel_rfl) (by kernel_rfl) (fun _ _ _ h => h) (Or.inl ⟨by rfl, by intro w _; first | rfl | go_simp⟩) (by assumption) ?_
    try simp only [Act.put, List.setIfInBounds_toArray, List.set_cons_zero, List.set_cons_succ]
    refine wpAnyH_take (i := 9) (oi := { dst := some 30, op := .move (.tmp 6), type := _, pos := _, after := _, guard := none }) (v := .func (.func 34) #[.pointer (some ⟨b, 0, none⟩)] #[]) rfl (by kernel_rfl) (by kernel_rfl) (by kernel_rfl) (fun _ _ _ h => h) (Or.inl ⟨by rfl, by intro w _; first | rfl | go_simp⟩) (by assumption) ?_
    try simp only [Act.put, List.setIfInBounds_toArray, List.set_cons_zero, List.set_cons_succ]
    refine wpAnyH_take (i := 10) (oi := { dst := some 31, op := .makeFunc (.func 39) #[.tmp 5] #[], type := _, pos := _, after := _, guard := none }) (v := .func (.func 39) #[.pointer (some ⟨nb, 0, none⟩)] #[]) rfl (by kernel_rfl) (by kernel_rfl) (by kernel_rfl) (fun _ _ _ h => h) (Or.inl ⟨by rfl, by intro w _; first | rfl | go_simp⟩) (by assumption) ?_
    try simp only [Act.put, List.setIfInBounds_toArray, List.set_cons_zero, List.set_cons_succ]
    refine wpAnyH_take (i := 11) (oi := { dst := some 32, op := .load 72 (.tmp 7), type := _, pos := _, after := _, guard := none }) (v := .agg #[.pointer (some ⟨nb, 0, none⟩), .string s]) rfl (by kernel_rfl) (by kernel_rfl) (by kernel_rfl) (fun _ _ _ h => h) (Or.inl ⟨by rfl, by intro w hS; obtain ⟨_, c0, c1⟩ := HHC.out w hS; go_simp⟩) (by assumption) ?_
    try simp only [Act.put, List.setIfInBounds_toArray, List.set_cons_zero, List.set_cons_succ]
    refine wpAnyH_take (i := 12) (oi := { dst := some 33, op := .makeFunc (.func 31) #[.tmp 32] #[], type := _, pos := _, after := _, guard := none }) (v := .func (.func 31) #[.agg #[.pointer (some ⟨nb, 0, none⟩), .string s]] #[]) rfl (by kernel_rfl) (by kernel_rfl) (by kernel_rfl) (fun _ _ _ h => h) (Or.inl ⟨by rfl, by intro w _; first | rfl | go_simp⟩) (by assumption) ?_
    try simp only [Act.put, List.setIfInBounds_toArray, List.set_cons_zero, List.set_cons_succ]
    refine wpAnyH_take (i := 13) (oi := { dst := some 34, op := .move (.tmp 6), type := _, pos := _, after := _, guard := none }) (v := .func (.func 34) #[.pointer (some ⟨b, 0, none⟩)] #[]) rfl (by kernel_rfl) (by kernel_rfl) (by kernel_rfl) (fun _ _ _ h => h) (Or.inl ⟨by rfl, by intro w _; first | rfl | go_simp⟩) (by assumption) ?_
    try simp only [Act.put, List.setIfInBounds_toArray, List.set_cons_zero, List.set_cons_succ]
    refine wpAnyH_take (i := 14) (oi := { dst := some 35, op := .makeFunc (.func 40) #[.tmp 5] #[], type := _, pos := _, after := _, guard := none }) (v := .func (.func 40) #[.pointer (some ⟨nb, 0, none⟩)] #[]) rfl (by kernel_rfl) (by kernel_rfl) (by kernel_rfl) (fun _ _ _ h => h) (Or.inl ⟨by rfl, by intro w _; first | rfl | go_simp⟩) (by assumption) ?_
    try simp only [Act.put, List.setIfInBounds_toArray, List.set_cons_zero, List.set_cons_succ]
    refine wpAnyH_take (i := 15) (oi := { dst := some 36, op := .move (.tmp 6), type := _, pos := _, after := _, guard := none }) (v := .func (.func 34) #[.pointer (some ⟨b, 0, none⟩)] #[]) rfl (by kernel_rfl) (by kernel_rfl) (by kernel_rfl) (fun _ _ _ h => h) (Or.inl ⟨by rfl, by intro w _; first | rfl | go_simp⟩) (by assumption) ?_
    try simp only [Act.put, List.setIfInBounds_toArray, List.set_cons_zero, List.set_cons_succ]
    refine wpAnyH_ready (rs := [16]) (by kernel_rfl) (by simp) (AllReadyH.cons (o := { dst := some 37, op := .buildSlice 91 10 #[(0, .tmp 22), (1, .tmp 24), (2, .tmp 28), (3, .tmp 29), (4, .tmp 30), (5, .tmp 31), (6, .tmp 33), (7, .tmp 34), (8, .tmp 35), (9, .tmp 36)], type := _, pos := _, after := _, guard := none }) rfl (fun K hK => ?_) AllReadyH.nil)
    go_simp
    refine hK.out _ _ (HKO.out _ _ hHeld ((Off.refl _ _).alloc _)) (fun hHeld2 => ?_)
    clear hK K hHeld
    try simp only [Act.put, List.setIfInBounds_toArray, List.set_cons_zero, List.set_cons_succ]
    refine wpAnyH_ready (rs := [17]) (by kernel_rfl) (by simp) (AllReadyH.cons (o := { dst := some 38, op := .call { callee := .value (.func 30), args := #[.tmp 21, .tmp 37], argTypes := #[28, 91] }, type := _, pos := _, after := _, guard := none }) rfl (fun K hK => ?_) AllReadyH.nil)
    go_simp
    refine (HDO.out W0.drew nb hnbw HB0.out.drew HN0.out).mono ?_
    rintro e w3 ⟨q, rfl, hx, hb3, ho3, hoc⟩
    refine hK.out _ _ (HKO.out _ _ hHeld2 hoc) (fun hHeld3 => ?_)
    clear hK K hHeld2
    try simp only [Act.put, List.setIfInBounds_toArray, List.set_cons_zero, List.set_cons_succ]
    refine wpAnyH_take (i := 18) (oi := { dst := some 8, op := .assign (.tmp 38), type := _, pos := _, after := _, guard := none }) (v := .int .i64 q) rfl (by kernel_rfl) (by kernel_rfl) (by kernel_rfl) (fun _ _ _ h => h) (Or.inl ⟨by rfl, by intro _ _; rfl⟩) (by assumption) ?_
    try simp only [Act.put, List.setIfInBounds_toArray, List.set_cons_zero, List.set_cons_succ]
    refine wpAnyH_done (by kernel_rfl) ?_ _
    have HX := Lib.hid hx
    have HB3 := Lib.hid hb3
    have HO3 := Lib.hid ho3
    clear hx hb3 ho3 hoc hHeld3 hS0 hS0d j0 j1
    have hq13 : q = 13 := HX.out
    subst hq13
    clear HX
    go_wp2
    go_ret
    exact ⟨rfl, HB3.out⟩
end Go.Proofs.Ytmpfdmjbgabcdaa
