/-
  Prepared for stage 10: the reference's List and Find.
-/
import Derived.Test.YthaghhleidopeaaR10Kind
namespace Go.Proofs.Ythaghhleidopeaa
open Go.RowKit Go.Sort
set_option linter.unusedVariables false

theorem Try.infoEnt10 : (Try.prog.info? 40).map (fun i => (i.zero, i.size, i.bytes)) = some (some (.agg #[.string ⟨#[]⟩, .int .i64 0, .bool false, .int .i64 0, .int .i64 0]), 5, 48) := by kernel_rfl
theorem Try.infoItm10 : (Try.prog.info? 99).map (fun i => (i.zero, i.size, i.bytes)) = some (some (.agg #[.int .i64 0, .string ⟨#[]⟩, .int .i64 0, .bool false, .int .i64 0, .int .i64 0]), 6, 56) := by kernel_rfl
theorem entsI_snoc {l : List Itm} {i : Nat} {x : Itm} (h : l[i]? = some x) (d : Int) : entsI (l.take (i + 1)) d = entsI (l.take i) d ++ (if x.inn = d then [x.e] else []) := by
  rw [take_snoc h]
  unfold entsI
  rw [List.filter_append, List.map_append]
  congr 1
  by_cases hd : x.inn = d <;> simp [hd]
theorem entsI_le (l : List Itm) (d : Int) : (entsI l d).length ≤ l.length := by
  unfold entsI
  rw [List.length_map]
  exact List.length_filter_le _ _
theorem listI_le (l : List Itm) (d : Int) : (listI l d).length ≤ l.length := by
  unfold listI
  split
  · exact entsI_le l d
  · exact Nat.zero_le _
theorem listE_cases (l : List Itm) (d : Int) : listE l d = 0 ∨ listE l d = 5 ∨ listE l d = 8 := by
  unfold listE
  split
  · exact Or.inr (Or.inl rfl)
  · split
    · exact Or.inr (Or.inr rfl)
    · exact Or.inl rfl
def ListPost (l : List Itm) (d : Int) (w0 : World) (e : Ending) (w' : World) : Prop :=
  ∃ v', e = .returned (.tuple #[v', .int .i64 (listE l d)]) ∧ EntsIs w' v' (listI l d) ∧ Below w0.heap.size w0 w'
set_option maxHeartbeats 4000000 in
theorem list10_c (v : Value) (l : List Itm) (nx n : Int) (w : World) (hv : ItmsIs w v l) (hl : l.length ≤ 1000) :
    Calls Try.prog 22 #[treeV v nx, .int .i64 n] w (ListPost l n w) := by
  obtain ⟨i0, hi0, hz0, hz1, hz2⟩ := info_parts Try.infoEnt10
  obtain ⟨a, cap, rfl⟩ := hv.len
  have cK := fun w hv => kind10_c (.slice a l.length cap) l nx n w hv hl
  obtain ⟨m, hm⟩ : ∃ m, l.length = m := ⟨_, rfl⟩
  rw [hm] at hl hv ⊢
  simp only [hm] at cK
  have HT : Hid (TreeAt (w.alloc (.cells #[.slice a m cap, .int .i64 nx] 48)) w.heap.size (.slice a m cap) nx) := Lib.hid (heap_alloc_new _ _)
  have HB : Hid (Below w.heap.size w (w.alloc (.cells #[.slice a m cap, .int .i64 nx] 48))) := Lib.hid ((Below.refl _ _).alloc (Nat.le_refl _) _)
  have hv0 := LstIs.kept hv HB.out
  have HM := Lib.hid hm
  clear hv hm
  unfold treeV at cK ⊢
  go_enter Try.func22, Try.ntmps22
  have hc0 := HT.out.l.1
  have hc1 := HT.out.l.2
  go_wp2_with fail
  generalize w.alloc (.cells #[.slice a m cap, .int .i64 nx] 48) = W0 at *
  refine (cK _ hv0).mono ?_
  rintro e w1 ⟨rfl, hb1⟩
  have HB1 : Hid (Below w.heap.size w w1) := Lib.hid (HB.out.trans (hb1.mono HB.out.size))
  have HV := Lib.hid (LstIs.kept hv0 hb1)
  have HT1 := Lib.hid (HT.out.below hb1)
  clear hv0 hc0 hc1 hb1
  have hc0 := HT1.out.l.1
  have hc1 := HT1.out.l.2
  rcases kindI_cases l n with hk | hk | hk
  · have HE : Hid (listE l n = 5 ∧ listI l n = []) := Lib.hid (by
      have h1 : listE l n = 5 := by unfold listE; rw [if_pos hk]
      exact ⟨h1, by unfold listI; rw [h1]; rfl⟩)
    rw [hk]
    clear hk
    go_wp2
    go_ret2
    exact ⟨_, by rw [HE.out.1]; rfl, by rw [HE.out.2]; exact LstIs.nil _ _ _, HB1.out⟩
  · have HE : Hid (listE l n = 8 ∧ listI l n = []) := Lib.hid (by
      have h1 : listE l n = 8 := by unfold listE; rw [if_neg (by rw [hk]; decide), if_pos hk]
      exact ⟨h1, by unfold listI; rw [h1]; rfl⟩)
    rw [hk]
    clear hk
    go_wp2
    go_ret2
    exact ⟨_, by rw [HE.out.1]; rfl, by rw [HE.out.2]; exact LstIs.nil _ _ _, HB1.out⟩
  · have HE : Hid (listE l n = 0 ∧ listI l n = entsI l n) := Lib.hid (by
      have h1 : listE l n = 0 := by unfold listE; rw [if_neg (by rw [hk]; decide), if_neg (by rw [hk]; decide)]
      exact ⟨h1, by unfold listI; rw [h1]; rfl⟩)
    rw [hk]
    clear hk
    go_wp2
    go_loopw [7, 8] (fun ov iv wr => ∃ (i : Nat), i ≤ m ∧ iv = .int .i64 i ∧ wr.ownsRow w1.heap.size 40 5 ov (entsI (l.take i) n).length ((entsI (l.take i) n).flatMap entC) ∧ Below w1.heap.size w1 wr) (fun _ iv _ => m - (intOf iv).toNat)
    case atStart => exact ⟨0, by omega, rfl, World.ownsRow_nil _ _ _ _, Below.refl _ _⟩
    case round =>
      obtain ⟨i, hi, rfl, hown, hbel⟩ := hrel
      have HO := Lib.hid hown
      have hTr := HT1.out.below hbel
      have hc0 := hTr.l.1
      have hc1 := hTr.l.2
      clear hown hTr
      by_cases him : i < m
      · have hiz : (i : Int) < (m : Int) := by omega
        obtain ⟨x, hx⟩ : ∃ x, l[i]? = some x := ⟨_, List.getElem?_eq_getElem (by rw [HM.out]; omega)⟩
        have HV2 := Lib.hid (LstIs.kept HV.out hbel)
        obtain ⟨g, off, rfl, hg, hr⟩ := HV2.out.at hx
        obtain ⟨d0, d1, d2, d3, d4, d5⟩ := itm_at hr
        have HX := Lib.hid (entsI_snoc hx n)
        have HLE := Lib.hid (entsI_le (l.take i) n)
        have HLT : Hid ((entsI (l.take i) n).length ≤ 1000) := Lib.hid (by have := HLE.out; rw [List.length_take] at this; omega)
        clear hr hx hg
        obtain ⟨inn, nm, nd, dr, ck, sh⟩ := x
        simp only at d0 d1 d2 d3 d4 d5
        by_cases hnd : inn = n
        · subst hnd
          have HX2 : Hid (entsI (l.take (i + 1)) inn = entsI (l.take i) inn ++ [⟨nm, nd, dr, ck, sh⟩]) := Lib.hid (by rw [HX.out, if_pos rfl])
          clear HX
          go_wp2_with (at_builtin; refine wpList_append_own _ rfl _ _ 33 rfl w1.heap.size 40 i0 (.agg #[.string ⟨#[]⟩, .int .i64 0, .bool false, .int .i64 0, .int .i64 0]) 5 48 Try.underlying33 hi0 hz0 hz1 hz2 rfl (by decide) _ _ _ rfl (HO.out.alloc _) ⟨wr.heap.size, 0, none⟩ 1 1 (entC ⟨nm, nd, dr, ck, sh⟩) rfl rfl ?c1 (entC_one _) ?c3 ?c4 ?c5 ?_)
          case c1 =>
            intro j u hj
            rw [Addr.add_mid, cell_of_row _ _ _ _ _ _ (heap_alloc_new _ _), Nat.zero_add, List.getElem?_toArray]
            exact hj
          case c3 => have := HLT.out; unfold maxLen; omega
          case c4 => have := HLT.out; omega
          case c5 => have h1 := hbel.size; simp; omega
          intro v' w2 hown' hgrow _
          have hB2 := (hbel.alloc hbel.size (.cells #[.string nm, .int .i64 nd, .bool dr, .int .i64 ck, .int .i64 sh] 40)).grown hgrow (by have h1 := hbel.size; simp; omega) (fun j hj => (HO.out.lt j hj).1)
          have HO2 := Lib.hid hown'
          have HB2 := Lib.hid hB2
          clear hown' hgrow hB2
          go_wp2
          go_roundw
          case rel => exact ⟨i + 1, by omega, by first | rfl | go_num, by rw [HX2.out, List.flatMap_append, List.length_append]; exact HO2.out, HB2.out⟩
          case measure => simp [intOf]; omega
        · have HX2 : Hid (entsI (l.take (i + 1)) n = entsI (l.take i) n) := Lib.hid (by rw [HX.out, if_neg hnd, List.append_nil])
          have e1 : (inn == n) = false := by rw [beq_eq_false_iff_ne]; exact hnd
          clear HX
          go_wp2
          go_roundw
          case rel => exact ⟨i + 1, by omega, by first | rfl | go_num, by rw [HX2.out]; exact HO.out, hbel⟩
          case measure => simp [intOf]; omega
      · have hiz : ¬ (i : Int) < (m : Int) := by omega
        have HA : Hid (l.take i = l) := Lib.hid (List.take_of_length_le (by rw [HM.out]; omega))
        go_wp2
        go_ret2
        exact ⟨_, by rw [HE.out.1]; rfl, by
          have h := HO.out
          rw [HA.out] at h
          rw [HE.out.2]
          exact LstIs.own (entC_len _) h rfl, HB1.out.trans (hbel.mono HB1.out.size)⟩
def FindPost (l : List Itm) (d : Int) (s : ByteArray) (w0 : World) (e : Ending) (w' : World) : Prop :=
  e =   .returned (.tuple #[entV (findI l d s).1, .int .i64 (findI l d s).2]) ∧ Below w0.heap.size w0 w'
theorem text_ne {a b : ByteArray} (h : a ≠ b) : (a.toList == b.toList) = false := by
  rw [beq_eq_false_iff_ne, ByteArray.toList_eq, ByteArray.toList_eq]
  exact fun e => h (ByteArray.ext (Array.toList_inj.1 e))
theorem named_cons (x : Ent) (l : List Ent) (s : ByteArray) : named (x :: l) s = if x.name = s then some x else named l s := by
  unfold named
  rw [List.find?_cons]
  by_cases h : x.name = s <;> simp [h]
/-- A block of five cells that may be written. -/
theorem five_cells {W : World} {b : Nat} {v0 v1 v2 v3 v4 : Value} {T : TypeId} (h : W.heap[b]? = some (.cells #[v0, v1, v2, v3, v4] T (0, 0))) :
    (W.cell? ⟨b, 0, none⟩ = some v0 ∧ W.cell? ⟨b, 1, none⟩ = some v1 ∧ W.cell? ⟨b, 2, none⟩ = some v2 ∧ W.cell? ⟨b, 3, none⟩ = some v3 ∧ W.cell? ⟨b, 4, none⟩ = some v4) ∧
    (W.frozen? ⟨b, 0, none⟩ = false ∧ W.frozen? ⟨b, 1, none⟩ = false ∧ W.frozen? ⟨b, 2, none⟩ = false ∧ W.frozen? ⟨b, 3, none⟩ = false ∧ W.frozen? ⟨b, 4, none⟩ = false) :=
  ⟨⟨by rw [cell_of_row _ _ _ _ _ _ h]; rfl, by rw [cell_of_row _ _ _ _ _ _ h]; rfl, by rw [cell_of_row _ _ _ _ _ _ h]; rfl, by rw [cell_of_row _ _ _ _ _ _ h]; rfl, by rw [cell_of_row _ _ _ _ _ _ h]; rfl⟩,
   ⟨frozen_of_row _ _ _ _ _ h, frozen_of_row _ _ _ _ _ h, frozen_of_row _ _ _ _ _ h, frozen_of_row _ _ _ _ _ h, frozen_of_row _ _ _ _ _ h⟩⟩
def zEnt : Obj := .cells #[.string ⟨#[]⟩, .int .i64 0, .bool false, .int .i64 0, .int .i64 0] 40
set_option maxHeartbeats 4000000 in
theorem find10_c (v : Value) (l : List Itm) (nx n : Int) (s : ByteArray) (w : World) (hv : ItmsIs w v l) (hl : l.length ≤ 1000) :
    Calls Try.prog 21 #[treeV v nx, .int .i64 n, .string s] w (FindPost l n s w) := by
  obtain ⟨a, cap, rfl⟩ := hv.len
  have cL := fun w hv => list10_c (.slice a l.length cap) l nx n w hv hl
  obtain ⟨m, hm⟩ : ∃ m, l.length = m := ⟨_, rfl⟩
  rw [hm] at hl hv ⊢
  simp only [hm] at cL
  have HT : Hid (TreeAt ((w.alloc (.cells #[.slice a m cap, .int .i64 nx] 48)).alloc zEnt) w.heap.size (.slice a m cap) nx) := Lib.hid (by
    unfold TreeAt
    rw [Below.heap_alloc _ _ _ (by simp)]
    exact heap_alloc_new _ _)
  have HZ : Hid (((w.alloc (.cells #[.slice a m cap, .int .i64 nx] 48)).alloc zEnt).heap[w.heap.size + 1]? = some zEnt) := Lib.hid (heap_alloc2_new _ _ _)
  have HB : Hid (Below w.heap.size w ((w.alloc (.cells #[.slice a m cap, .int .i64 nx] 48)).alloc zEnt)) := Lib.hid (((Below.refl _ _).alloc (Nat.le_refl _) _).alloc (by simp) _)
  have hv0 := LstIs.kept hv HB.out
  have HM := Lib.hid hm
  clear hv hm
  unfold treeV at cL ⊢
  unfold zEnt at HT HZ HB hv0
  unfold FindPost
  obtain ⟨F, hF⟩ : ∃ F, findI l n s = F := ⟨_, rfl⟩
  rw [hF]
  have HF0 := Lib.hid hF
  clear hF
  go_enter Try.func21, Try.ntmps21
  have hc0 := HT.out.l.1
  have hc1 := HT.out.l.2
  go_wp2_with fail
  generalize (w.alloc (.cells #[.slice a m cap, .int .i64 nx] 48)).alloc (.cells #[.string ⟨#[]⟩, .int .i64 0, .bool false, .int .i64 0, .int .i64 0] 40) = W0 at *
  refine (cL _ hv0).mono ?_
  rintro e w1 ⟨lv, rfl, hle, hb1⟩
  have HB1 : Hid (Below w.heap.size w w1) := Lib.hid (HB.out.trans (hb1.mono HB.out.size))
  have HZ1 : Hid (w1.heap[w.heap.size + 1]? = _) := Lib.hid ((hb1.block _ (lt_of_get HZ.out)).trans HZ.out)
  clear hv0 hc0 hc1 hb1 cL
  obtain ⟨⟨q0, q1, q2, q3, q4⟩, ⟨f0, f1, f2, f3, f4⟩⟩ := five_cells HZ1.out
  obtain ⟨a2, cap2, rfl⟩ := hle.len
  have HKB : Hid ((listI l n).length ≤ 1000) := Lib.hid (Nat.le_trans (listI_le l n) (by rw [HM.out]; exact hl))
  have HF : Hid (F = match named (listI l n) s with | some x => (x, 0) | none => (noEnt, if listE l n = 0 then 5 else listE l n)) := Lib.hid (by rw [← HF0.out]; rfl)
  clear HF0
  generalize listE l n = E at *
  generalize listI l n = L at *
  obtain ⟨k, hk⟩ : ∃ k, L.length = k := ⟨_, rfl⟩
  rw [hk] at hle ⊢
  have HLE := Lib.hid hle
  have HK := Lib.hid hk
  clear hle hk
  have hkb : k ≤ 1000 := by have := HKB.out; have := HK.out; omega
  go_wp2
  go_loopw [10] (fun iv wr => ∃ i : Nat, i ≤ k ∧ iv = .int .i64 i ∧ named (L.drop i) s = named L s ∧ wr = w1) (fun iv _ => k - (intOf iv).toNat)
  case atStart => exact ⟨0, by omega, rfl, rfl, rfl⟩
  case round =>
    obtain ⟨i, hi, rfl, hgo, rfl⟩ := hrel
    have HGO := Lib.hid hgo
    clear hgo
    by_cases hik : i < k
    · have hiz : (i : Int) < (k : Int) := by omega
      obtain ⟨x, hx⟩ : ∃ x, L[i]? = some x := ⟨_, List.getElem?_eq_getElem (by rw [HK.out]; omega)⟩
      obtain ⟨g, off, rfl, hg, hr⟩ := HLE.out.at hx
      obtain ⟨d0, d1, d2, d3, d4⟩ := ent_at hr
      have HG : Hid (named L s = if x.name = s then some x else named (L.drop (i + 1)) s) := Lib.hid (by rw [← HGO.out, drop_eq_cons hx, named_cons])
      clear hr hx hg
      by_cases hnd : x.name = s
      · have HF2 : Hid (F = (x, 0)) := Lib.hid (by rw [HF.out, HG.out, if_pos hnd])
        obtain ⟨nm, nd, dr, ck, sh⟩ := x
        simp only at d0 d1 d2 d3 d4 hnd
        subst hnd
        go_wp2
        (try simp only [Exit.inBlock, Exit.then])
        refine bodyPost_ret (v := .tuple #[entV ⟨nm, nd, dr, ck, sh⟩, .int .i64 0]) ?_ rfl ⟨by rw [HF2.out], ?_⟩
        · rw [results_cell_tmp rfl]
          unfold entV
          go_simp
        · exact ((((HB1.out.setCell (Nat.le_succ _) _).setCell (Nat.le_succ _) _).setCell (Nat.le_succ _) _).setCell (Nat.le_succ _) _).setCell (Nat.le_succ _) _
      · have HE2 : Hid (named (L.drop (i + 1)) s = named L s) := Lib.hid (by rw [HG.out, if_neg hnd])
        have e1 := text_ne hnd
        go_wp2
        go_roundw
        case rel => exact ⟨i + 1, by omega, by first | rfl | go_num, HE2.out, by first | rfl | trivial⟩
        case measure => simp [intOf]; omega
    · have hiz : ¬ (i : Int) < (k : Int) := by omega
      have HN : Hid (named L s = none) := Lib.hid (by rw [← HGO.out, List.drop_of_length_le (by rw [HK.out]; omega)]; rfl)
      by_cases hE : E = 0
      · subst hE
        have HF2 : Hid (F = (noEnt, 5)) := Lib.hid (by rw [HF.out, HN.out]; rfl)
        go_wp2
        (try simp only [Exit.inBlock, Exit.then])
        refine bodyPost_ret (v := .tuple #[entV noEnt, .int .i64 5]) ?_ rfl ⟨by rw [HF2.out], ?_⟩
        · rw [results_cell_tmp rfl]
          unfold entV noEnt
          go_simp
        · exact ((((HB1.out.setCell (Nat.le_succ _) _).setCell (Nat.le_succ _) _).setCell (Nat.le_succ _) _).setCell (Nat.le_succ _) _).setCell (Nat.le_succ _) _
      · have HF2 : Hid (F = (noEnt, E)) := Lib.hid (by rw [HF.out, HN.out]; simp [hE])
        have e1 : (E == 0) = false := by rw [beq_eq_false_iff_ne]; exact hE
        go_wp2
        (try simp only [Exit.inBlock, Exit.then])
        refine bodyPost_ret (v := .tuple #[entV noEnt, .int .i64 E]) ?_ rfl ⟨by rw [HF2.out], ?_⟩
        · rw [results_cell_tmp rfl]
          unfold entV noEnt
          go_simp
        · exact ((((HB1.out.setCell (Nat.le_succ _) _).setCell (Nat.le_succ _) _).setCell (Nat.le_succ _) _).setCell (Nat.le_succ _) _).setCell (Nat.le_succ _) _
end Go.Proofs.Ythaghhleidopeaa
