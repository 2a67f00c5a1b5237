/-
  A directory's bytes, as the project writes them.
-/
import Derived.Test.YtddobjhahohhhaaGreatImEnt
namespace Go.Proofs.YtddobjhahohhhaaGreat
open Go.RowKit Go.Sort
set_option linter.unusedVariables false
set_option linter.unusedSimpArgs false

/-- Within directory: the directory, its entries, what is written. -/
structure DirW (w : World) (B b q : Nat) (d : Int) (v : Value) (B2 : Nat) (es : List Ent) (u : List UInt8) (W : World) : Prop where
  d : W.heap[q]? = some (.cells #[.int .i64 d, v] 67 (0, 0))
  es : W.ownsRow B2 84 5 v es.length (es.flatMap entC)
  wr : WrB IW B b (Lib.byteCells u) W
  b : Below B w W
  f : FrB IW w W
  s : B ≤ W.heap.size
section
variable {w W W' : World} {B b q B2 : Nat} {d : Int} {v : Value} {es : List Ent} {u : List UInt8}
theorem DirW.step (h : DirW w B b q d v B2 es u W) {u' : List UInt8} {e : Ending} (hp : WrPost IW B b W u' e W') : e = .returned (.tuple #[]) ∧ DirW w B b q d v B2 es u' W' := by
  obtain ⟨he, hw, hb, hf⟩ := hp
  exact ⟨he, hf _ (by decide) (by decide) _ _ _ h.d, row_fr (T := IW) (T0 := 84) hf (by decide) (by decide) h.es, hw, h.b.trans hb, h.f.trans hf, Nat.le_trans h.s hb.size⟩
theorem DirW.drew (h : DirW w B b q d v B2 es u W) : DirW w B b q d v B2 es u W.drew :=
  ⟨h.d, row_fr (T := IW) (T0 := 84) (FrB.drew W) (by decide) (by decide) h.es, h.wr.below (Below.drew (Below.refl _ _)), Below.drew h.b, h.f.trans (FrB.drew W), h.s⟩
theorem DirW.num (h : DirW w B b q d v B2 es u W) (z kk : Int) (k : Nat) (hk : kk = (k : Int)) (hk8 : k ≤ 8) (hz : 0 ≤ z ∧ z ≤ 9223372036854775807) (hu : u.length ≤ 1000000) :
    Calls Tryz.prog 17 #[ptV b, .int .i64 z, .int .i64 kk] W fun e w' => e = .returned (.tuple #[]) ∧ DirW w B b q d v B2 es (u ++ beB z.toNat k) w' := by
  subst hk
  have h9 := number_c hasIW B b z.toNat k u W h.wr (by omega) hk8 hu h.s
  rw [show ((z.toNat : Nat) : Int) = z by omega] at h9
  exact h9.mono fun e w' hp => h.step hp
theorem DirW.cells (h : DirW w B b q d v B2 es u W) : W.cell? ⟨q, 0, none⟩ = some (.int .i64 d) ∧ W.cell? ⟨q, 1, none⟩ = some v := ⟨Lib.cell_of_heap h.d 0, Lib.cell_of_heap h.d 1⟩
theorem DirW.post (h : DirW w B b q d v B2 es u W) : WrB IW B b (Lib.byteCells u) W ∧ Below B w W ∧ FrB IW w W := ⟨h.wr, h.b, h.f⟩
end
theorem flatB_take {α : Type} {f : α → List UInt8} {es : List α} {i : Nat} {x : α} (h : es[i]? = some x) : (es.take (i + 1)).flatMap f = (es.take i).flatMap f ++ f x := by
  rw [take_snoc h, List.flatMap_append]
  simp
theorem flatB_take_le {α : Type} (f : α → List UInt8) (es : List α) (i : Nat) : ((es.take i).flatMap f).length ≤ (es.flatMap f).length := by
  conv => rhs; rw [← List.take_append_drop i es, List.flatMap_append, List.length_append]
  omega
set_option maxHeartbeats 8000000 in
set_option maxRecDepth 100000 in
theorem wdir_c (B b : Nat) (d : Int) (v : Value) (B2 : Nat) (es : List Ent) (l : List UInt8) (w : World) (h : WrB IW B b (Lib.byteCells l) w) (hr : w.ownsRow B2 84 5 v es.length (es.flatMap entC)) (hd : DirFit (d, es)) (hl : l.length + (dirsB (d, es)).length ≤ 900000) (hB : B ≤ w.heap.size) :
    Calls Tryz.prog 21 #[ptV b, .agg #[.int .i64 d, v]] w (WrPost IW B b w (l ++ dirsB (d, es))) := by
  unfold WrPost
  obtain ⟨L, hL⟩ : ∃ L, l ++ dirsB (d, es) = L := ⟨_, rfl⟩
  have hlen : (es.flatMap entY).length ≤ 900000 - l.length - 4 := by
    unfold dirsB at hl
    simp only [List.length_append, beB_len] at hl
    omega
  have hl4 : l.length ≤ 899996 := by
    unfold dirsB at hl
    simp only [List.length_append, beB_len] at hl
    omega
  rw [hL]
  unfold dirsB at hL
  obtain ⟨⟨k1, k2⟩, k3, _⟩ := hd.1
  simp only at hL k1 k2 k3
  obtain ⟨a, cap, rfl⟩ : ∃ a cap, v = .slice a es.length cap := (LstIs.own (entC_len _) hr rfl).len
  obtain ⟨n, hn⟩ : ∃ n, es.length = n := ⟨_, rfl⟩
  have HE : Hid (DirW w B b w.heap.size d (.slice a es.length cap) B2 es l (w.alloc (.cells #[.int .i64 d, .slice a es.length cap] 67))) := Lib.hid
    ⟨heap_alloc_new _ _, hr.alloc _, h.below ((Below.refl _ _).alloc (Nat.le_refl _) _), (Below.refl _ _).alloc hB _, FrB.alloc _ _, by simp; omega⟩
  have HD := Lib.hid hd
  have HL := Lib.hid hL
  have HLN := Lib.hid hlen
  have HN := Lib.hid hn
  have HAT : Hid (∀ (W : World) (i : Nat) (x : Ent), W.ownsRow B2 84 5 (.slice a n cap) es.length (es.flatMap entC) → es[i]? = some x → ∃ g off, a = some ⟨g, off, none⟩ ∧ g < W.heap.size ∧ W.rangeAt g (off + i * 5) (entC x)) := Lib.hid fun W i x hW hi => LstIs.at (LstIs.own (entC_len _) hW rfl) hi
  rw [hn] at HE k3 ⊢
  have hnL : beB es.length 2 = beB n 2 := by rw [hn]
  have HNL := Lib.hid hnL
  clear h hB hL hr hd hn hl hlen hnL
  go_enter Tryz.func21, Tryz.ntmps21
  go_upto_region 1 with fail
  generalize (w.alloc (.cells #[.int .i64 d, .slice a n cap] 67)) = W0 at *
  generalize w.heap.size = q at *
  obtain ⟨c0, c1⟩ := HE.out.cells
  go_still_tail 5, (by kernel_rfl)
  change wpList _ _ _ _ _ W0.drew
  have HE := Lib.hid HE.out.drew
  generalize W0.drew = W1 at *
  obtain ⟨c0, c1⟩ := HE.out.cells
  go_wp2_with (go_at_call 17; (with_reducible refine (HE.out.num _ 2 2 rfl (by omega) (by omega) (by omega)).mono ?_); rintro e w2 ⟨rfl, he⟩; have HE := Lib.hid he; clear he)
  clear c0 c1
  obtain ⟨c0, c1⟩ := HE.out.cells
  go_still_tail 6, (by kernel_rfl)
  change wpList _ _ _ _ _ w2.drew
  have HE := Lib.hid HE.out.drew
  generalize w2.drew = W2 at *
  clear c0 c1
  obtain ⟨c0, c1⟩ := HE.out.cells
  go_wp2_with (go_at_call 17; (with_reducible refine (HE.out.num _ 2 2 rfl (by omega) (by omega) (by simp only [List.length_append, beB_len]; omega)).mono ?_); rintro e w3 ⟨rfl, he⟩; have HE := Lib.hid he; clear he; obtain ⟨c0, c1⟩ := HE.out.cells)
  have HP := Lib.hid HE.out.post
  have HES := Lib.hid HE.out.es
  have HS := Lib.hid HE.out.s
  clear HE c0 c1
  rw [Int.toNat_natCast] at HP
  go_loopw [22] (fun iv wr => ∃ i : Nat, i ≤ n ∧ iv = .int .i64 i ∧ WrB IW B b (Lib.byteCells (l ++ beB d.toNat 2 ++ beB n 2 ++ (es.take i).flatMap entY)) wr ∧ Below B w wr ∧ FrB IW w wr ∧ FrB IW w3 wr ∧ B ≤ wr.heap.size) (fun iv _ => n - (intOf iv).toNat)
  case atStart => exact ⟨0, by omega, rfl, by simpa using HP.out.1, HP.out.2.1, HP.out.2.2, FrB.refl _, HS.out⟩
  case round =>
    obtain ⟨i, hi, rfl, hw, hb, hf, hf3, hs⟩ := hrel
    have HW := Lib.hid hw
    have HB := Lib.hid hb
    have HF := Lib.hid hf
    have HF3 := Lib.hid hf3
    have HSS := Lib.hid hs
    clear hw hb hf hf3 hs
    by_cases him : i < n
    · have hiz : (i : Int) < (n : Int) := by omega
      have hi0 : (0 : Int) ≤ (i : Int) := by omega
      obtain ⟨x, hx⟩ : ∃ x, es[i]? = some x := ⟨_, List.getElem?_eq_getElem (by rw [HN.out]; omega)⟩
      have hES : wr.ownsRow B2 84 5 (.slice a n cap) es.length (es.flatMap entC) := row_fr (T := IW) (T0 := 84) HF3.out (by decide) (by decide) HES.out
      obtain ⟨g, off, rfl, hg, hr⟩ := HAT.out wr i x hES hx
      obtain ⟨d0, d1, d2, d3, d4⟩ := ent_at hr
      have HFX := Lib.hid (HD.out.ent (List.mem_of_getElem? hx))
      have HTK := Lib.hid (flatB_take (f := entY) hx)
      have hle := flatB_take_le entY es i
      have hln : ((l ++ beB d.toNat 2 ++ beB n 2) ++ (es.take i).flatMap entY).length ≤ 900000 := by
        have := HLN.out
        simp only [List.length_append, beB_len]
        omega
      have cE : Hid (∀ W, Below wr.heap.size wr W → Calls Tryz.prog 45 #[ptV b, entV x] W (WrPost IW B b W (l ++ beB d.toNat 2 ++ beB n 2 ++ (es.take (i + 1)).flatMap entY))) := Lib.hid fun W hW => by
        have h9 := wentry_c B b x (l ++ beB d.toNat 2 ++ beB n 2 ++ (es.take i).flatMap entY) W (HW.out.below hW) HFX.out hln (Nat.le_trans HSS.out hW.size)
        rw [HTK.out, ← List.append_assoc]
        exact h9
      unfold WrPost entV at cE
      clear hr hES hle hln hx
      obtain ⟨nm, nd, dr, ck, sh⟩ := x
      simp only at d0 d1 d2 d3 d4
      simp only at cE
      have HBA : Hid (Below wr.heap.size wr (wr.alloc (.cells #[.string nm, .int .i64 nd, .bool dr, .int .i64 ck, .int .i64 sh] 84))) := Lib.hid ((Below.refl _ _).alloc (Nat.le_refl _) _)
      go_wp2_with (go_at_call 45; refine (cE.out _ HBA.out).mono ?_; rintro e w5 ⟨rfl, h5, hb5, hf5⟩; have H5 := Lib.hid h5; have HB5 := Lib.hid hb5; have HF5 := Lib.hid hf5; clear h5 hb5 hf5)
      go_roundw
      case rel => exact ⟨i + 1, by omega, by first | rfl | go_num, H5.out, (HB.out.trans (HBA.out.mono HSS.out)).trans HB5.out, (HF.out.trans (FrB.below HBA.out)).trans HF5.out, (HF3.out.trans (FrB.below HBA.out)).trans HF5.out, Nat.le_trans HSS.out (Nat.le_trans HBA.out.size HB5.out.size)⟩
      case measure => simp [intOf]; omega
    · have hiz : ¬ (i : Int) < (n : Int) := by omega
      have HA : Hid (es.take i = es) := Lib.hid (List.take_of_length_le (by rw [HN.out]; omega))
      go_wp2
      go_end0
      refine ⟨rfl, ?_, HB.out, HF.out⟩
      have h9 := HW.out
      rw [HA.out] at h9
      rw [← HL.out, HNL.out]
      simp only [List.append_assoc] at h9
      exact h9
end Go.Proofs.YtddobjhahohhhaaGreat
