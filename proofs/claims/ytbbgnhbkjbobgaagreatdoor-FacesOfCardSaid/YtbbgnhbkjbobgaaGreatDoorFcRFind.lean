/-
  The contract of the reference's Find.
-/
import Derived.Test.YtbbgnhbkjbobgaaGreatDoorFcFind
namespace Go.Proofs.YtbbgnhbkjbobgaaGreatDoor
open Go.RowKit Go.Sort
set_option linter.unusedVariables false

theorem below_five {B b : Nat} {w W : World} (h : Below B w W) (hb : B ≤ b) (x0 x1 x2 x3 x4 : Value) : Below B w (((((W.setCell ⟨b, 0, none⟩ x0).setCell ⟨b, 1, none⟩ x1).setCell ⟨b, 2, none⟩ x2).setCell ⟨b, 3, none⟩ x3).setCell ⟨b, 4, none⟩ x4) :=
  ((((h.setCell (p := ⟨b, 0, none⟩) hb _).setCell (p := ⟨b, 1, none⟩) hb _).setCell (p := ⟨b, 2, none⟩) hb _).setCell (p := ⟨b, 3, none⟩) hb _).setCell (p := ⟨b, 4, none⟩) hb _
set_option maxHeartbeats 4000000 in
set_option maxRecDepth 100000 in
theorem rfind_c (enc : Int) (h0 : 0 ≤ enc) (h8 : enc ≤ 8) (v : Value) (l : List Ent) (s : ByteArray) (w : World) (hv : EntsIs w v l) (hl : l.length ≤ 1000) (hok : ∀ e ∈ l, EntOk e) :
    Calls Tryz.prog 15 #[.int .i64 enc, v, .string s] w fun e w' => e = .returned (foundV (faced enc l s.data.toList)) ∧ Below w.heap.size w w' := by
  have hbw : Below w.heap.size w (w.alloc (.cells #[.string ⟨#[]⟩, .int .i64 0, .bool false, .int .i64 0, .int .i64 0] 29)) := (Below.refl _ w).alloc (Nat.le_refl _) _
  have HQ : Hid ((w.alloc (.cells #[.string ⟨#[]⟩, .int .i64 0, .bool false, .int .i64 0, .int .i64 0] 29)).heap[w.heap.size]? = some (.cells #[.string ⟨#[]⟩, .int .i64 0, .bool false, .int .i64 0, .int .i64 0] 29 (0, 0))) := Lib.hid (heap_alloc_new _ _)
  have HV := Lib.hid (LstIs.kept hv hbw)
  have HBW := Lib.hid hbw
  obtain ⟨b, hb⟩ : ∃ b, w.heap.size = b := ⟨_, rfl⟩
  have HSB := Lib.hid hb
  rw [hb] at HQ
  obtain ⟨a, cap, hva⟩ := hv.len
  obtain ⟨n, hn⟩ : ∃ n, l.length = n := ⟨_, rfl⟩
  have HN := Lib.hid hn
  have HO : Hid (∀ e ∈ l, ∀ w1, Calls Tryz.prog 10 #[.int .i64 enc, entV e] w1 fun r w' => r = .returned (.string ⟨(faceL enc e).toArray⟩) ∧ Below w1.heap.size w1 w') := Lib.hid (fun e he w1 => rof_c enc h0 h8 e (hok e he) w1)
  obtain ⟨S, hS⟩ : ∃ S, s.data.toList = S := ⟨_, rfl⟩
  have HS := Lib.hid hS
  obtain ⟨R, hR⟩ : ∃ R, faced enc l S = R := ⟨_, rfl⟩
  have HR := Lib.hid hR
  rw [hS, hR]
  rw [hn] at hva hl
  subst hva
  clear hv hn hok h0 h8 hbw hS hR
  go_enter Tryz.func15, Tryz.ntmps15
  go_upto_region 1 with fail
  generalize w.alloc (.cells #[.string ⟨#[]⟩, .int .i64 0, .bool false, .int .i64 0, .int .i64 0] 29) = W0 at *
  clear hb
  go_wp2
  go_loopw [8] (fun iv wr => ∃ i : Nat, iv = .int .i64 i ∧ i ≤ n ∧ faced enc (l.take i) S = none ∧ Below W0.heap.size W0 wr) (fun iv _ => n - (intOf iv).toNat)
  case atStart => exact ⟨0, rfl, by omega, rfl, Below.refl _ _⟩
  case round =>
    obtain ⟨i, rfl, hi, hno, hb⟩ := hrel
    have HNO := Lib.hid hno
    have HB := Lib.hid hb
    clear hno
    by_cases hin : i < n
    · have hiz : (i : Int) < (n : Int) := by omega
      obtain ⟨x, hx⟩ : ∃ x, l[i]? = some x := ⟨_, List.getElem?_eq_getElem (by rw [HN.out]; omega)⟩
      obtain ⟨g, off, rfl, hg, hrr⟩ := HV.out.at hx
      obtain ⟨d0, d1, d2, d3, d4⟩ := ent_at (rangeAt_below hrr hg hb)
      have cO := HO.out x (List.mem_of_getElem? hx) wr
      obtain ⟨F, hF⟩ : ∃ F : ByteArray, (⟨(faceL enc x).toArray⟩ : ByteArray) = F := ⟨_, rfl⟩
      have hcm : (F.toList == s.toList) = decide (faceL enc x = S) := text_is F s _ (by rw [← hF, HS.out])
      rw [hF] at cO
      unfold entV at cO
      have HX := Lib.hid hx
      have HRR := Lib.hid hrr
      have HG := Lib.hid hg
      have HSN : Hid (faceL enc x ≠ S → faced enc (l.take (i + 1)) S = none) := Lib.hid (fun h => by
        rw [List.take_add_one, hx, Option.toList_some, faced_snoc HNO.out, if_neg h])
      have HSY : Hid (faceL enc x = S → R = some x) := Lib.hid (fun h => by
        rw [← HR.out]
        have := faced_hit (t := l.drop (i + 1)) HNO.out h
        rw [← drop_eq_cons hx, List.take_append_drop] at this
        exact this)
      obtain ⟨nm, nd, dr, ck, sh⟩ := x
      simp only at d0 d1 d2 d3 d4 cO
      clear hx hrr hg hb hF
      cases ht : decide (faceL enc ⟨nm, nd, dr, ck, sh⟩ = S) with
      | true =>
        have HE := Lib.hid (HSY.out (of_decide_eq_true ht))
        rw [ht] at hcm
        clear ht
        go_upto_region 5 with (go_at_call 10; refine cO.mono ?_; rintro e w2 ⟨rfl, hb2⟩; have HB2 := Lib.hid (HB.out.trans (hb2.mono HB.out.size)); clear hb2)
        obtain ⟨e0, e1, e2, e3, e4⟩ := ent_at (rangeAt_below HRR.out HG.out HB2.out)
        simp only at e0 e1 e2 e3 e4
        obtain ⟨⟨r0, r1, r2, r3, r4⟩, ⟨f0, f1, f2, f3, f4⟩⟩ := five_cells ((HB2.out.block b (lt_of_get HQ.out)).trans HQ.out)
        clear d0 d1 d2 d3 d4
        go_wp2
        (try simp only [Exit.inBlock, Exit.then])
        refine bodyPost_ret (v := .tuple #[entV ⟨nm, nd, dr, ck, sh⟩, .bool true]) ?_ rfl ⟨by rw [HE.out]; rfl, ?_⟩
        · rw [results_cell_tmp rfl]
          unfold entV
          go_simp
        · rw [HSB.out]
          refine below_five ?_ (Nat.le_refl _) _ _ _ _ _
          have h1 := HBW.out
          rw [HSB.out] at h1
          exact h1.trans (HB2.out.mono (by have := lt_of_get HQ.out; omega))
      | false =>
        have HE := Lib.hid (HSN.out (of_decide_eq_false ht))
        rw [ht] at hcm
        clear ht
        go_wp2_with (go_at_call 10; refine cO.mono ?_; rintro e w2 ⟨rfl, hb2⟩)
        go_roundw
        case rel => exact ⟨i + 1, by first | rfl | go_num, by omega, HE.out, HB.out.trans (hb2.mono HB.out.size)⟩
        case measure => simp [intOf]; omega
    · have hiz : ¬ ((i : Int) < (n : Int)) := by omega
      have HE : Hid (R = none) := Lib.hid (by
        have h := HNO.out
        rw [List.take_of_length_le (by rw [HN.out]; omega)] at h
        rw [← HR.out]; exact h)
      obtain ⟨⟨r0, r1, r2, r3, r4⟩, ⟨f0, f1, f2, f3, f4⟩⟩ := five_cells ((HB.out.block b (lt_of_get HQ.out)).trans HQ.out)
      clear hb
      go_wp2
      (try simp only [Exit.inBlock, Exit.then])
      refine bodyPost_ret (v := .tuple #[entV noEnt, .bool false]) ?_ rfl ⟨by rw [HE.out]; rfl, ?_⟩
      · rw [results_cell_tmp rfl]
        unfold entV noEnt
        go_simp
      · rw [HSB.out]
        refine below_five ?_ (Nat.le_refl _) _ _ _ _ _
        have h1 := HBW.out
        rw [HSB.out] at h1
        exact h1.trans (HB.out.mono (by have := lt_of_get HQ.out; omega))
end Go.Proofs.YtbbgnhbkjbobgaaGreatDoor
