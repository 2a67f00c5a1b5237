/-
  What Encode answers of a tree: its image.
-/
import Derived.Test.YtddobjhahohhhaaGreatImDir
import Derived.Test.YtddobjhahohhhaaGreatImTree
import Derived.Test.YtddobjhahohhhaaGreatQH
namespace Go.Proofs.YtddobjhahohhhaaGreat
open Go.RowKit Go.Sort
set_option linter.unusedVariables false
set_option linter.unusedSimpArgs false

theorem theListT {w : World} {b : Nat} {l : List Itm} {nx : Int} {S : Nat → Prop} (h : theTree.Is w b l nx S) {d : Int} (hd : kindI l d = 2) :
    Calls Tryz.prog 20 #[ptrV b, .int .i64 d] w fun e w' => ∃ v, e = .returned (.tuple #[v, .int .i64 0]) ∧ w'.ownsRow w.heap.size 84 5 v (entsI l d).length ((entsI l d).flatMap entC) ∧ Below w.heap.size w w' := by
  obtain ⟨R, u, v, ys, hm, ho, hg, _⟩ := h
  have h := treeListT_c hm (fun n hn => Nat.le_trans (hg.elen n) (by omega)) d
  unfold TListOwn tListI at h
  rw [hg.open'] at h
  have hE : listE l d = 0 := by
    unfold listE
    rw [if_neg (by rw [hd]; decide), if_neg (by rw [hd]; decide)]
  obtain ⟨n, rfl, _, _⟩ := hg.dir hE
  rw [hE, if_pos rfl, Int.toNat_natCast] at h
  exact h
theorem theDirsT {w : World} {b : Nat} {l : List Itm} {nx : Int} {S : Nat → Prop} (h : theTree.Is w b l nx S) :
    Calls Tryz.prog 19 #[ptrV b] w fun e w' => ∃ v, e = .returned v ∧ w'.ownsRow w.heap.size 3 1 v (dirsI l).length ((dirsI l).flatMap numC) ∧ Below w.heap.size w w' := by
  obtain ⟨R, u, v, ys, hm, ho, hg, _⟩ := h
  have h := treeDirsT_c hm
  unfold TDirsOwn at h
  rw [dirsK_to] at h
  exact h
theorem own_fit {l : List Itm} {nx : Int} (h : GoodT l nx) (hx : nx ≤ 9223372036854775807) {d : Int × List Ent} (hd : d ∈ dirsOf l) : DirFit d := by
  refine ⟨(img_ok h (by omega)).2.2 d hd, fun e he => ?_⟩
  unfold dirsOf at hd
  obtain ⟨q, hq, rfl⟩ := List.mem_map.1 hd
  obtain ⟨x, hx2, _, rfl⟩ := mem_entsI.1 he
  have h3 := h.cook x hx2
  omega
/-- Within Encode: what is written at block bw. -/
structure EncI (w : World) (bw : Nat) (u : List UInt8) (W : World) : Prop where
  wr : WrB IW bw bw (Lib.byteCells u) W
  b : Below bw w W
  s : bw ≤ W.heap.size
section
variable {w W W' : World} {bw : Nat} {u : List UInt8}
theorem EncI.step (h : EncI w bw u W) {u' : List UInt8} {e : Ending} (hp : WrPost IW bw bw W u' e W') : e = .returned (.tuple #[]) ∧ EncI w bw u' W' ∧ FrB IW W W' :=
  ⟨hp.1, ⟨hp.2.1, h.b.trans hp.2.2.1, Nat.le_trans h.s hp.2.2.1.size⟩, hp.2.2.2⟩
theorem EncI.below (h : EncI w bw u W) (hb : Below W.heap.size W W') : EncI w bw u W' := ⟨h.wr.below hb, h.b.trans (hb.mono h.s), Nat.le_trans h.s hb.size⟩
theorem EncI.num (h : EncI w bw u W) (z kk : Int) (k : Nat) (hk : kk = (k : Int)) (hk8 : k ≤ 8) (hz : 0 ≤ z ∧ z ≤ 9223372036854775807) (hu : u.length ≤ 1000000) :
    Calls Tryz.prog 17 #[ptV bw, .int .i64 z, .int .i64 kk] W fun e w' => e = .returned (.tuple #[]) ∧ EncI w bw (u ++ beB z.toNat k) w' ∧ FrB IW W w' := by
  subst hk
  have h9 := number_c hasIW bw bw z.toNat k u W h.wr (by omega) hk8 hu h.s
  rw [show ((z.toNat : Nat) : Int) = z by omega] at h9
  exact h9.mono fun e w' hp => h.step hp
end
set_option maxHeartbeats 8000000 in
set_option maxRecDepth 100000 in
theorem encode_c {w : World} {b : Nat} {l : List Itm} {nx : Int} {S : Nat → Prop} (h : theTree.Is w b l nx S) (hx : nx ≤ 9223372036854775807) :
    Calls Tryz.prog 8 #[ptrV b] w fun e w' => e = .returned (.string ⟨(imgI l nx).toArray⟩) ∧ Below w.heap.size w w' := by
  have hgood := theGood h
  have hshort := img_short hgood
  have hnx := theTree.next h
  obtain ⟨L, hL⟩ : ∃ L, imgI l nx = L := ⟨_, rfl⟩
  have HFIT : Hid (∀ d ∈ dirsOf l, DirFit d) := Lib.hid fun d hd => own_fit hgood hx hd
  have HKD : Hid (∀ q ∈ dirsI l, kindI l q = 2) := Lib.hid fun q hq => (dirsI_mem.1 hq).2
  have HRG : Hid (∀ q ∈ dirsI l, 0 ≤ q ∧ q ≤ 200) := Lib.hid fun q hq => dirsI_range hq
  rw [hL] at hshort ⊢
  unfold imgI imgB at hL
  have hdl : (dirsOf l).length = (dirsI l).length := by unfold dirsOf; rw [List.length_map]
  rw [hdl] at hL
  obtain ⟨n, hn⟩ : ∃ n, (dirsI l).length = n := ⟨_, rfl⟩
  have hn1 : n ≤ 201 := by rw [← hn]; exact dirsTo_le l 201
  rw [hn] at hL
  have hlen := congrArg List.length hL
  simp only [List.length_append, beB_len] at hlen
  have HL := Lib.hid hL
  have HN := Lib.hid hn
  have HLEN : Hid (((dirsOf l).flatMap dirsB).length ≤ 60000) := Lib.hid (by omega)
  have HT : Hid (∀ W, Below w.heap.size w W → theTree.Is W b l nx S) := Lib.hid fun W hW => theTree.below h hW
  have HE0 : Hid (EncI w w.heap.size [] (w.alloc (.cells #[.pointer none, .slice none 0 0] 57))) := Lib.hid
    ⟨Or.inl ⟨Nat.le_refl _, .slice none 0 0, heap_alloc_new w _, World.ownsRow_nil _ _ _ _, by simp [Value.ownBlock]⟩, (Below.refl _ _).alloc (Nat.le_refl _) _, by simp⟩
  have cC := theCook (HT.out _ HE0.out.b)
  clear h hgood hshort hL hdl hlen hn
  go_enter Tryz.func8, Tryz.ntmps8
  go_upto_region 2 with fail
  generalize (w.alloc (.cells #[.pointer none, .slice none 0 0] 57)) = W0 at *
  obtain ⟨bw, hbw⟩ : ∃ bw, w.heap.size = bw := ⟨_, rfl⟩
  rw [hbw] at HE0 HT ⊢
  have HBW := Lib.hid hbw
  clear hbw
  go_upto_region 3 with (first
    | (go_at_call 18; refine cC.mono ?_; rintro e w1 ⟨rfl, rfl⟩)
    | (go_at_call 17; (with_reducible refine (HE0.out.num _ 8 8 rfl (by omega) (by omega) (by simp)).mono ?_); rintro e w2 ⟨rfl, he, _⟩; have HE := Lib.hid he; clear he))
  clear cC
  have cD := theDirsT (HT.out _ HE.out.b)
  have cD2 := HN.out
  rw [cD2] at cD
  go_upto_region 4 with (go_at_call 19; refine cD.mono ?_; rintro e w3 ⟨v3, rfl, ho3, hb3⟩; obtain ⟨a3, c3, hv3⟩ := ownsRow_slice ho3; have HE := Lib.hid (HE.out.below hb3); have HO3 := Lib.hid ho3; clear ho3 hb3; subst hv3)
  clear cD
  go_upto_region 5 with (go_at_call 17; (with_reducible refine (HE.out.num _ 2 2 rfl (by omega) (by omega) (by simp only [List.length_append, beB_len, List.length_nil]; omega)).mono ?_); rintro e w4 ⟨rfl, he, hf4⟩; have HE := Lib.hid he; have HO4 := Lib.hid (row_fr (T := IW) (T0 := 3) hf4 (by decide) (by decide) HO3.out); clear he hf4)
  have hu4 : ([] : List UInt8) ++ beB nx.toNat 8 ++ beB (Int.toNat (n : Int)) 2 = beB nx.toNat 8 ++ beB n 2 := by simp
  rw [hu4] at HE
  clear hu4 HO3
  obtain ⟨B3, hB3⟩ : ∃ B3, w2.heap.size = B3 := ⟨_, rfl⟩
  rw [hB3] at HO4
  have HAT : Hid (∀ (W : World) (i : Nat) (x : Int), W.ownsRow B3 3 1 (.slice a3 n c3) n ((dirsI l).flatMap numC) → (dirsI l)[i]? = some x → ∃ g off, a3 = some ⟨g, off, none⟩ ∧ g < W.heap.size ∧ W.rangeAt g (off + i * 1) (numC x)) := Lib.hid fun W i x hW hi => LstIs.at (LstIs.own (numC_len _) hW HN.out.symm) hi
  go_wp2_with fail
  go_loopw [21] (fun iv wr => ∃ i : Nat, i ≤ n ∧ iv = .int .i64 i ∧ EncI w bw (beB nx.toNat 8 ++ beB n 2 ++ ((dirsOf l).take i).flatMap dirsB) wr ∧ wr.ownsRow B3 3 1 (.slice a3 n c3) n ((dirsI l).flatMap numC)) (fun iv _ => n - (intOf iv).toNat)
  case atStart => exact ⟨0, by omega, rfl, by simpa using HE.out, HO4.out⟩
  case round =>
    obtain ⟨i, hi, rfl, he, ho⟩ := hrel
    have HE := Lib.hid he
    have HO := Lib.hid ho
    clear he ho
    by_cases him : i < n
    · have hiz : (i : Int) < (n : Int) := by omega
      have hi0 : (0 : Int) ≤ (i : Int) := by omega
      obtain ⟨q, hq⟩ : ∃ q, (dirsI l)[i]? = some q := ⟨_, List.getElem?_eq_getElem (by rw [HN.out]; omega)⟩
      have hqm := List.mem_of_getElem? hq
      obtain ⟨g, off, rfl, hg, hr⟩ := HAT.out wr i q HO.out hq
      have d0 := num_at hr
      rw [Nat.mul_one] at d0
      have hd : (dirsOf l)[i]? = some (q, entsI l q) := by
        unfold dirsOf
        rw [List.getElem?_map, hq]
        rfl
      have HFX := Lib.hid (HFIT.out _ (List.mem_of_getElem? hd))
      have HTK := Lib.hid (flatB_take (f := dirsB) hd)
      have hle := flatB_take_le dirsB (dirsOf l) (i + 1)
      rw [HTK.out, List.length_append] at hle
      have hln : ((beB nx.toNat 8 ++ beB n 2) ++ ((dirsOf l).take i).flatMap dirsB).length + (dirsB (q, entsI l q)).length ≤ 900000 := by
        have := HLEN.out
        simp only [List.length_append, beB_len]
        omega
      have cL := theListT (HT.out wr (by first | exact HE.out.b | (rw [HBW.out]; exact HE.out.b))) (HKD.out q hqm)
      have cW : Hid (∀ (W : World) (B2 : Nat) (v : Value), EncI w bw (beB nx.toNat 8 ++ beB n 2 ++ ((dirsOf l).take i).flatMap dirsB) W → W.ownsRow B2 84 5 v (entsI l q).length ((entsI l q).flatMap entC) → Calls Tryz.prog 21 #[ptV bw, .agg #[.int .i64 q, v]] W fun e w' => e = .returned (.tuple #[]) ∧ EncI w bw (beB nx.toNat 8 ++ beB n 2 ++ ((dirsOf l).take (i + 1)).flatMap dirsB) w' ∧ FrB IW W w') := Lib.hid fun W B2 v hW hv => by
        rw [HTK.out, ← List.append_assoc]
        exact (wdir_c bw bw q v B2 (entsI l q) _ W hW.wr hv HFX.out hln hW.s).mono fun e w' hp => hW.step hp
      clear hr hq hqm hd hle hln
      go_wp2_with (first
        | (go_at_call 20; refine cL.mono ?_; rintro e w5 ⟨v5, rfl, ho5, hb5⟩; obtain ⟨a5, c5, hv5⟩ := ownsRow_slice ho5; have HE5 := Lib.hid (HE.out.below hb5); have HR5 := Lib.hid ho5; have HO5 := Lib.hid (row_fr (T := IW) (T0 := 3) (FrB.below hb5) (by decide) (by decide) HO.out); clear ho5 hb5; subst hv5)
        | (go_at_call 21; refine (cW.out _ _ _ HE5.out HR5.out).mono ?_; rintro e w6 ⟨rfl, he6, hf6⟩; have HE6 := Lib.hid he6; have HO6 := Lib.hid (row_fr (T := IW) (T0 := 3) hf6 (by decide) (by decide) HO5.out); clear he6 hf6))
      go_roundw
      case rel => exact ⟨i + 1, by omega, by first | rfl | go_num, HE6.out, HO6.out⟩
      case measure => simp [intOf]; omega
    · have hiz : ¬ (i : Int) < (n : Int) := by omega
      have HA : Hid ((dirsOf l).take i = dirsOf l) := Lib.hid (List.take_of_length_le (by unfold dirsOf; rw [List.length_map, HN.out]; omega))
      rw [HA.out] at HE
      have hfin : beB nx.toNat 8 ++ beB n 2 ++ (dirsOf l).flatMap dirsB = L := by
        rw [← HL.out]
        simp only [List.append_assoc]
      rw [hfin] at HE
      have cT := wtext_c bw bw L wr HE.out.wr HE.out.s
      clear hfin
      go_wp2_with (go_at_call 22; refine cT.mono ?_; rintro e w7 ⟨rfl, hb7⟩; have HB7 := Lib.hid hb7; clear hb7)
      go_ret
      exact ⟨rfl, by first | exact HE.out.b.trans HB7.out | (rw [HBW.out]; exact HE.out.b.trans HB7.out)⟩
end Go.Proofs.YtddobjhahohhhaaGreat
