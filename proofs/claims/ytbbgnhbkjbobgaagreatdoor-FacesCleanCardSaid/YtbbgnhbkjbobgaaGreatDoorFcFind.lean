/-
  The contracts of Find: the closure that compares faces, the library's IndexFunc with it, Find; the reference's Find.
-/
import Derived.Test.YtbbgnhbkjbobgaaGreatDoorFcOf
import Derived.Test.YtbbgnhbkjbobgaaGreatDoorShelf
namespace Go.Proofs.YtbbgnhbkjbobgaaGreatDoor
open Go.RowKit Go.Sort
set_option linter.unusedVariables false

abbrev ptV (b : Nat) : Value := .pointer (some ⟨b, 0, none⟩)
def spotGo (enc : Int) (s : List UInt8) : List Ent → Nat → Int
  | [], _ => -1
  | x :: l, k => if faceL enc x = s then (k : Int) else spotGo enc s l (k + 1)
theorem spotGo_spec (enc : Int) (s : List UInt8) : ∀ (l : List Ent) (k : Nat), (spotGo enc s l k = -1 ∧ faced enc l s = none) ∨ ∃ (i : Nat) (x : Ent), spotGo enc s l k = ((k + i : Nat) : Int) ∧ l[i]? = some x ∧ faced enc l s = some x
  | [], k => Or.inl ⟨rfl, rfl⟩
  | x :: l, k => by
    unfold spotGo
    by_cases h : faceL enc x = s
    · rw [if_pos h]
      refine Or.inr ⟨0, x, rfl, rfl, ?_⟩
      unfold faced
      rw [List.find?_cons, decide_eq_true h]
    · rw [if_neg h]
      have hn : faced enc (x :: l) s = faced enc l s := by
        unfold faced
        rw [List.find?_cons, decide_eq_false h]
      rcases spotGo_spec enc s l (k + 1) with ⟨h1, h2⟩ | ⟨i, y, h1, h2, h3⟩
      · exact Or.inl ⟨h1, hn.trans h2⟩
      · exact Or.inr ⟨i + 1, y, by rw [h1]; omega, by rw [List.getElem?_cons_succ]; exact h2, hn.trans h3⟩
/-- Where the first entry with a face stands, or -1. -/
def spotI (enc : Int) (l : List Ent) (s : List UInt8) : Int := spotGo enc s l 0
theorem spotI_spec (enc : Int) (l : List Ent) (s : List UInt8) : (spotI enc l s = -1 ∧ faced enc l s = none) ∨ ∃ (i : Nat) (x : Ent), spotI enc l s = (i : Int) ∧ l[i]? = some x ∧ faced enc l s = some x := by
  rcases spotGo_spec enc s l 0 with h | ⟨i, x, h1, h2, h3⟩
  · exact Or.inl h
  · exact Or.inr ⟨i, x, by rw [spotI, h1, Nat.zero_add], h2, h3⟩
set_option maxHeartbeats 2000000 in
/-- The closure: has an entry this face? -/
theorem hasFace_c (enc : Int) (h0 : 0 ≤ enc) (h8 : enc ≤ 8) (e : Ent) (he : EntOk e) (s : ByteArray) (p q : Nat) (w : World) (hp : w.heap[p]? = some (.cells #[.int .i64 enc] 3 (0, 0))) (hq : w.heap[q]? = some (.cells #[.string s] 9 (0, 0))) (hT : Tabs w) (hB : Base w)
    (t : Bool) (ht : decide (faceL enc e = s.data.toList) = t) :
    Calls Tryz.prog 31 #[entV e, ptV p, ptV q] w fun r w' => r = .returned (.bool t) ∧ Below w.heap.size w w' := by
  have hb0 : Below w.heap.size w (w.alloc (.cells #[.string e.name, .int .i64 e.node, .bool e.dir, .int .i64 e.cookie, .int .i64 e.short] 29)) := (Below.refl _ w).alloc (Nat.le_refl _) _
  have HQ := Lib.hid (entsBlock e w)
  have HB0 := Lib.hid hb0
  have g0 := cell_regrown (Lib.cell_of_heap ((hb0.block p (lt_of_get hp)).trans hp) 0)
  have g1 := cell_regrown (Lib.cell_of_heap ((hb0.block q (lt_of_get hq)).trans hq) 0)
  have cO := regr (W := w.alloc (.cells #[.string e.name, .int .i64 e.node, .bool e.dir, .int .i64 e.cookie, .int .i64 e.short] 29)) (fun w1 h1 => of_c enc h0 h8 e he w1 ((hT.step hb0).step h1) ((hB.step hb0).step h1))
  obtain ⟨F, hF⟩ : ∃ F : ByteArray, (⟨(faceL enc e).toArray⟩ : ByteArray) = F := ⟨_, rfl⟩
  have hX : (F.toList == s.toList) = t := text_is F s t (by rw [← hF]; exact ht)
  rw [hF] at cO
  unfold entV at cO ⊢
  obtain ⟨k0, k1, k2, k3, k4⟩ := EntAt.of HQ.out
  obtain ⟨nm, nd, dr, ck, sh⟩ := e
  simp only at *
  clear hT hB hb0 hp hq ht hF he h0 h8
  go_enter Tryz.func31, Tryz.ntmps31
  go_upto_region 1 with fail
  refine wp_region_quiet_below (by kernel_rfl) (by kernel_rfl) ?_
  repeat (quiet_step (first | exact cO _ _))
  refine wpQuiet_nil ?_
  intro _ hw'
  obtain ⟨⟨dq, osq⟩, hw''⟩ := hw'
  subst hw''
  go_wp2
  go_ret
  first | exact ⟨rfl, HB0.out.trans ((below_regrown _ dq osq).mono HB0.out.size)⟩ | exact ⟨by rw [hX], HB0.out.trans ((below_regrown _ dq osq).mono HB0.out.size)⟩
set_option maxHeartbeats 2000000 in
theorem idxFace_c (enc : Int) (h0 : 0 ≤ enc) (h8 : enc ≤ 8) (v : Value) (l : List Ent) (s : ByteArray) (p q : Nat) (w : World) (hv : EntsIs w v l) (hl : l.length ≤ 1000) (hok : ∀ e ∈ l, EntOk e) (hp : w.heap[p]? = some (.cells #[.int .i64 enc] 3 (0, 0))) (hq : w.heap[q]? = some (.cells #[.string s] 9 (0, 0))) (hT : Tabs w) (hB : Base w) :
    Calls Tryz.prog 30 #[v, .func (.func 31) #[] #[ptV p, ptV q]] w fun e w' => e = .returned (.int .i64 (spotI enc l s.data.toList)) ∧ Below w.heap.size w w' := by
  obtain ⟨a, cap, rfl⟩ := hv.len
  obtain ⟨n, hn⟩ : ∃ n, l.length = n := ⟨_, rfl⟩
  rw [hn] at hl hv ⊢
  have HV := Lib.hid hv
  have HN := Lib.hid hn
  have HC : Hid (∀ W, Below w.heap.size w W → ∀ e ∈ l, ∀ t, decide (faceL enc e = s.data.toList) = t → Calls Tryz.prog 31 #[entV e, ptV p, ptV q] W fun r w' => r = .returned (.bool t) ∧ Below W.heap.size W w') :=
    Lib.hid (fun W hb e he t ht => hasFace_c enc h0 h8 e (hok e he) s p q W ((hb.block p (lt_of_get hp)).trans hp) ((hb.block q (lt_of_get hq)).trans hq) (hT.step hb) (hB.step hb) t ht)
  obtain ⟨S, hS⟩ : ∃ S, s.data.toList = S := ⟨_, rfl⟩
  obtain ⟨X, hX⟩ : ∃ X, spotI enc l s.data.toList = X := ⟨_, rfl⟩
  have HX := Lib.hid hX
  rw [hX]
  rw [hS] at HC HX
  clear hv hn hX hp hq hT hB hok h0 h8 hS
  go_enter Tryz.func30, Tryz.ntmps30
  go_wp2
  go_loopw [8] (fun iv wr => ∃ i : Nat, i ≤ n ∧ iv = .int .i64 i ∧ spotGo enc S (l.drop i) i = X ∧ Below w.heap.size w wr) (fun iv _ => n - (intOf iv).toNat)
  case atStart => exact ⟨0, by omega, rfl, HX.out, Below.refl _ _⟩
  case round =>
    obtain ⟨i, hi, rfl, hgo, hb⟩ := hrel
    have HGO := Lib.hid hgo
    have HB := Lib.hid hb
    clear hgo
    by_cases hin : i < n
    · have hiz : (i : Int) < (n : Int) := by omega
      obtain ⟨x, hx⟩ : ∃ x, l[i]? = some x := ⟨_, List.getElem?_eq_getElem (by rw [HN.out]; omega)⟩
      obtain ⟨g, off, rfl, hg, hr⟩ := HV.out.at hx
      obtain ⟨d0, d1, d2, d3, d4⟩ := ent_at (rangeAt_below hr hg hb)
      have HG : Hid (spotGo enc S (l.drop i) i = if faceL enc x = S then (i : Int) else spotGo enc S (l.drop (i + 1)) (i + 1)) := Lib.hid (by rw [drop_eq_cons hx]; rfl)
      obtain ⟨t, ht⟩ : ∃ t, decide (faceL enc x = S) = t := ⟨_, rfl⟩
      have HT := Lib.hid ht
      have cC1 := HC.out wr hb x (List.mem_of_getElem? hx) t ht
      unfold entV at cC1
      clear hr hx hg hb ht
      cases t with
      | true =>
        have HE : Hid ((i : Int) = X) := Lib.hid (by rw [← HGO.out, HG.out, if_pos (of_decide_eq_true HT.out)])
        go_wp2_with (go_at_call 31; refine cC1.mono ?_; rintro e w2 ⟨rfl, hb2⟩)
        go_ret
        exact ⟨by rw [HE.out]; rfl, HB.out.trans (hb2.mono HB.out.size)⟩
      | false =>
        have HE : Hid (spotGo enc S (l.drop (i + 1)) (i + 1) = X) := Lib.hid (by rw [← HGO.out, HG.out, if_neg (of_decide_eq_false HT.out)])
        go_wp2_with (go_at_call 31; refine cC1.mono ?_; rintro e w2 ⟨rfl, hb2⟩)
        go_roundw
        case rel => exact ⟨i + 1, by omega, by first | rfl | go_num, HE.out, HB.out.trans (hb2.mono HB.out.size)⟩
        case measure => simp [intOf]; omega
    · have hiz : ¬ (i : Int) < (n : Int) := by omega
      have HE : Hid (X = -1) := Lib.hid (by rw [← HGO.out, List.drop_of_length_le (by rw [HN.out]; omega)]; rfl)
      clear hb
      go_wp2
      go_ret
      exact ⟨by rw [HE.out]; rfl, HB.out⟩
theorem fcClone_c (s : ByteArray) (w : World) (hs : s.size ≤ 281474976710656) : Calls Tryz.prog 32 #[.string s] w fun e w' => e = .returned (.string s) ∧ Below w.heap.size w w' := by
  have cC := Tryz.stringslite_Clone s w hs
  go_enter Tryz.func32, Tryz.ntmps32
  go_wp2_with (go_at_call 56; refine cC.mono ?_; rintro e w2 ⟨rfl, hb2⟩)
  go_ret
  exact ⟨rfl, hb2⟩
/-- What Find answers. -/
def foundV (o : Option Ent) : Value := match o with
  | some e => .tuple #[entV e, .bool true]
  | none => .tuple #[entV noEnt, .bool false]
set_option maxHeartbeats 4000000 in
set_option maxRecDepth 100000 in
theorem ffind_c (enc : Int) (h0 : 0 ≤ enc) (h8 : enc ≤ 8) (v : Value) (l : List Ent) (s : ByteArray) (w : World) (hv : EntsIs w v l) (hl : l.length ≤ 1000) (hok : ∀ e ∈ l, EntOk e) (hT : Tabs w) (hB : Base w) :
    Calls Tryz.prog 14 #[.int .i64 enc, v, .string s] w fun e w' => e = .returned (foundV (faced enc l s.data.toList)) ∧ Below w.heap.size w w' := by
  obtain ⟨b, hb⟩ : ∃ b, w.heap.size = b := ⟨_, rfl⟩
  have hx1 : (w.alloc (.cells #[.int .i64 enc] 3)).heap.size = b + 1 := by rw [← hb]; simp
  have hx2 : ((w.alloc (.cells #[.int .i64 enc] 3)).alloc (.cells #[.string s] 9)).heap.size = b + 2 := by rw [← hb]; simp
  have hbW : Below b w (((w.alloc (.cells #[.int .i64 enc] 3)).alloc (.cells #[.string s] 9)).alloc (.cells #[.string ⟨#[]⟩, .int .i64 0, .bool false, .int .i64 0, .int .i64 0] 29)) :=
    (((Below.refl _ w).alloc (Nat.le_of_eq hb.symm) _).alloc (by rw [hx1]; omega) _).alloc (by rw [hx2]; omega) _
  have q2 : (((w.alloc (.cells #[.int .i64 enc] 3)).alloc (.cells #[.string s] 9)).alloc (.cells #[.string ⟨#[]⟩, .int .i64 0, .bool false, .int .i64 0, .int .i64 0] 29)).heap[b + 2]? = some (.cells #[.string ⟨#[]⟩, .int .i64 0, .bool false, .int .i64 0, .int .i64 0] 29 (0, 0)) := by
    rw [← hx2]; exact heap_alloc_new _ _
  have q1 : (((w.alloc (.cells #[.int .i64 enc] 3)).alloc (.cells #[.string s] 9)).alloc (.cells #[.string ⟨#[]⟩, .int .i64 0, .bool false, .int .i64 0, .int .i64 0] 29)).heap[b + 1]? = some (.cells #[.string s] 9 (0, 0)) := by
    rw [Below.heap_alloc _ _ _ (by rw [hx2]; omega), ← hx1]; exact heap_alloc_new _ _
  have q0 : (((w.alloc (.cells #[.int .i64 enc] 3)).alloc (.cells #[.string s] 9)).alloc (.cells #[.string ⟨#[]⟩, .int .i64 0, .bool false, .int .i64 0, .int .i64 0] 29)).heap[b]? = some (.cells #[.int .i64 enc] 3 (0, 0)) := by
    rw [Below.heap_alloc _ _ _ (by rw [hx2]; omega), Below.heap_alloc _ _ _ (by rw [hx1]; omega), ← hb]; exact heap_alloc_new _ _
  have hbw := hbW
  rw [← hb] at hbw
  have cI := idxFace_c enc h0 h8 v l s b (b + 1) _ (LstIs.kept hv hbw) hl hok q0 q1 (hT.step hbw) (hB.step hbw)
  have HV := Lib.hid (LstIs.kept hv hbw)
  have HOK := Lib.hid hok
  have HQ2 := Lib.hid q2
  have HBW := Lib.hid hbW
  have HSB := Lib.hid hb
  obtain ⟨a, cap, hva⟩ := hv.len
  subst hva
  obtain ⟨n, hn⟩ : ∃ n, l.length = n := ⟨_, rfl⟩
  have HN := Lib.hid hn
  rw [hn] at hl cI HV ⊢
  obtain ⟨R, hR⟩ : ∃ R, faced enc l s.data.toList = R := ⟨_, rfl⟩
  obtain ⟨I, hI⟩ : ∃ I, spotI enc l s.data.toList = I := ⟨_, rfl⟩
  have hsp := spotI_spec enc l s.data.toList
  rw [hR, hI] at hsp
  rw [hI] at cI
  rw [hR]
  have HSP := Lib.hid hsp
  clear hv hok hT hB h0 h8 hx1 hx2 hbW hbw q0 q1 q2 hn hR hI hsp
  go_enter Tryz.func14, Tryz.ntmps14
  go_upto_region 1 with fail
  generalize (((w.alloc (.cells #[.int .i64 enc] 3)).alloc (.cells #[.string s] 9)).alloc (.cells #[.string ⟨#[]⟩, .int .i64 0, .bool false, .int .i64 0, .int .i64 0] 29)) = W0 at *
  clear hb
  rcases HSP.out with ⟨hI, hR⟩ | ⟨i, x, hI, hx, hR⟩
  · subst hI hR
    go_upto_region 3 with (go_at_call 30; refine cI.mono ?_; rintro e w1 ⟨rfl, hb1⟩; have HB1 := Lib.hid hb1; clear hb1)
    obtain ⟨⟨p0, p1, p2, p3, p4⟩, ⟨f0, f1, f2, f3, f4⟩⟩ := five_cells ((HB1.out.block (b + 2) (lt_of_get HQ2.out)).trans HQ2.out)
    go_wp2
    (try simp only [Exit.inBlock, Exit.then])
    refine bodyPost_ret (v := .tuple #[entV noEnt, .bool false]) ?_ rfl ⟨rfl, ?_⟩
    · rw [results_cell_tmp rfl]
      unfold entV noEnt
      go_simp
    · have hsz : b ≤ W0.heap.size := by rw [← HSB.out]; exact HBW.out.size |> fun h => by omega
      have hbb : Below b w w1 := HBW.out.trans (HB1.out.mono hsz)
      rw [HSB.out]
      exact ((((hbb.setCell (p := ⟨b + 2, 0, none⟩) (Nat.le_add_right _ _) _).setCell (p := ⟨b + 2, 1, none⟩) (Nat.le_add_right _ _) _).setCell (p := ⟨b + 2, 2, none⟩) (Nat.le_add_right _ _) _).setCell (p := ⟨b + 2, 3, none⟩) (Nat.le_add_right _ _) _).setCell (p := ⟨b + 2, 4, none⟩) (Nat.le_add_right _ _) _
  · subst hI hR
    obtain ⟨g, off, rfl, hg, hrr⟩ := HV.out.at hx
    have hil : i < n := by
      have := (List.getElem?_eq_some_iff.1 hx).1
      have := HN.out
      omega
    have hiz : (i : Int) < (n : Int) := by omega
    have hi0 : ¬ (i : Int) < 0 := by omega
    have hsz := (HOK.out x (List.mem_of_getElem? hx)).1
    have HG := Lib.hid hg
    have HRR := Lib.hid hrr
    have hsW : b + 2 < W0.heap.size := lt_of_get HQ2.out
    have HSW := Lib.hid hsW
    obtain ⟨nm, nd, dr, ck, sh⟩ := x
    simp only at hsz
    clear hx hg hrr hil hsW
    go_upto_region 5 with (go_at_call 30; refine cI.mono ?_; rintro e w1 ⟨rfl, hb1⟩; have HB1 := Lib.hid hb1; obtain ⟨d0, d1, d2, d3, d4⟩ := ent_at (rangeAt_below HRR.out HG.out hb1); clear hb1; simp only at d0 d1 d2 d3 d4)
    have HQ := Lib.hid (entsBlock ⟨nm, nd, dr, ck, sh⟩ w1)
    have hbA : Below b w (w1.alloc (.cells #[.string nm, .int .i64 nd, .bool dr, .int .i64 ck, .int .i64 sh] 29)) :=
      (HBW.out.trans (HB1.out.mono (by have := HSW.out; omega))).alloc (by have := HB1.out.size; have := HSW.out; omega) _
    have HBA := Lib.hid hbA
    have HQA : Hid ((w1.alloc (.cells #[.string nm, .int .i64 nd, .bool dr, .int .i64 ck, .int .i64 sh] 29)).heap[b + 2]? = some (.cells #[.string ⟨#[]⟩, .int .i64 0, .bool false, .int .i64 0, .int .i64 0] 29 (0, 0))) := Lib.hid (by
      rw [Below.heap_alloc _ _ _ (by have := HB1.out.size; have := HSW.out; omega)]
      exact (HB1.out.block (b + 2) HSW.out).trans HQ2.out)
    have HQB : Hid (b + 2 < w1.heap.size) := Lib.hid (by have := HB1.out.size; have := HSW.out; omega)
    clear hbA d0 d1 d2 d3 d4
    simp only at HQ
    generalize w1.alloc (.cells #[.string nm, .int .i64 nd, .bool dr, .int .i64 ck, .int .i64 sh] 29) = W1 at *
    obtain ⟨q, hq⟩ : ∃ q, w1.heap.size = q := ⟨_, rfl⟩
    rw [hq] at HQ HQB
    (try rw [hq])
    clear hq
    obtain ⟨⟨p0, p1, p2, p3, p4⟩, ⟨f0, f1, f2, f3, f4⟩⟩ := five_cells HQ.out
    have cC := fcClone_c nm W1 (by omega)
    go_upto_region 6 with (go_at_call 32; refine cC.mono ?_; rintro e w3 ⟨rfl, hb3⟩; have HB3 := Lib.hid hb3; have hq3 := (hb3.block q (lt_of_get HQ.out)).trans HQ.out; have k0 := (five_cells hq3).1.1; have k1 := (five_cells hq3).2.1; clear hb3)
    have HQ3 : Hid ((w3.setCell ⟨q, 0, none⟩ (.string nm)).heap[q]? = some (.cells #[.string nm, .int .i64 nd, .bool dr, .int .i64 ck, .int .i64 sh] 29 (0, 0))) := Lib.hid (by
      rw [setCell_eq]
      simp [mapBlock, Array.getElem?_modify, hq3, onCells])
    have HQ4 : Hid ((w3.setCell ⟨q, 0, none⟩ (.string nm)).heap[b + 2]? = some (.cells #[.string ⟨#[]⟩, .int .i64 0, .bool false, .int .i64 0, .int .i64 0] 29 (0, 0))) := Lib.hid (by
      rw [Below.heap_setCell w3 ⟨q, 0, none⟩ _ (b + 2) (by have := HQB.out; show b + 2 ≠ q; omega)]
      exact (HB3.out.block (b + 2) (lt_of_get HQA.out)).trans HQA.out)
    have HB4 : Hid (Below b w (w3.setCell ⟨q, 0, none⟩ (.string nm))) := Lib.hid ((HBA.out.trans (HB3.out.mono (by have := lt_of_get HQA.out; omega))).setCell (p := ⟨q, 0, none⟩) (by have := HQB.out; show b ≤ q; omega) _)
    clear hq3 k0 k1 p0 p1 p2 p3 p4 f0 f1 f2 f3 f4
    generalize w3.setCell ⟨q, 0, none⟩ (.string nm) = W3 at *
    obtain ⟨⟨p0, p1, p2, p3, p4⟩, _⟩ := five_cells HQ3.out
    obtain ⟨⟨r0, r1, r2, r3, r4⟩, ⟨f0, f1, f2, f3, f4⟩⟩ := five_cells HQ4.out
    go_wp2
    (try simp only [Exit.inBlock, Exit.then])
    refine bodyPost_ret (v := .tuple #[entV ⟨nm, nd, dr, ck, sh⟩, .bool true]) ?_ rfl ⟨rfl, ?_⟩
    · rw [results_cell_tmp rfl]
      unfold entV
      go_simp
    · rw [HSB.out]
      exact ((((HB4.out.setCell (p := ⟨b + 2, 0, none⟩) (Nat.le_add_right _ _) _).setCell (p := ⟨b + 2, 1, none⟩) (Nat.le_add_right _ _) _).setCell (p := ⟨b + 2, 2, none⟩) (Nat.le_add_right _ _) _).setCell (p := ⟨b + 2, 3, none⟩) (Nat.le_add_right _ _) _).setCell (p := ⟨b + 2, 4, none⟩) (Nat.le_add_right _ _) _
end Go.Proofs.YtbbgnhbkjbobgaaGreatDoor
