/-
  The reference's List and Dirs once more: what they answer lies in a block of its own.
-/
import Derived.Test.YtddobjhahohhhaaGreatTrMake
namespace Go.Proofs.YtddobjhahohhhaaGreat
open Go.RowKit Go.Sort
set_option linter.unusedVariables false

def ListOwn (l : List Itm) (d : Int) (w0 : World) (e : Ending) (w' : World) : Prop :=
  ∃ v', e = .returned (.tuple #[v', .int .i64 (listE l d)]) ∧ w'.ownsRow w0.heap.size 84 5 v' (listI l d).length ((listI l d).flatMap entC) ∧ Below w0.heap.size w0 w'
set_option maxHeartbeats 4000000 in
theorem list10T_c (v : Value) (l : List Itm) (nx n : Int) (w : World) (hv : ItmsIs w v l) (hl : l.length ≤ 1000) :
    Calls Tryz.prog 31 #[treeV v nx, .int .i64 n] w (ListOwn l n w) := by
  unfold ListOwn
  obtain ⟨i0, hi0, hz0, hz1, hz2⟩ := info_parts Tryz.infoEnt10
  obtain ⟨a, cap, rfl⟩ := hv.len
  have cK := fun w hv => kind10_c (.slice a l.length cap) l nx n w hv hl
  obtain ⟨m, hm⟩ : ∃ m, l.length = m := ⟨_, rfl⟩
  rw [hm] at hl hv ⊢
  simp only [hm] at cK
  have HT : Hid (TreeAt (w.alloc (.cells #[.slice a m cap, .int .i64 nx] 28)) w.heap.size (.slice a m cap) nx) := Lib.hid (heap_alloc_new _ _)
  have HB : Hid (Below w.heap.size w (w.alloc (.cells #[.slice a m cap, .int .i64 nx] 28))) := Lib.hid ((Below.refl _ _).alloc (Nat.le_refl _) _)
  have hv0 := LstIs.kept hv HB.out
  have HM := Lib.hid hm
  clear hv hm
  unfold treeV at cK ⊢
  go_enter Tryz.func31, Tryz.ntmps31
  have hc0 := HT.out.l.1
  have hc1 := HT.out.l.2
  go_wp2_with fail
  generalize w.alloc (.cells #[.slice a m cap, .int .i64 nx] 28) = W0 at *
  refine (cK _ hv0).mono ?_
  rintro e w1 ⟨rfl, hb1⟩
  have HB1 : Hid (Below w.heap.size w w1) := Lib.hid (HB.out.trans (hb1.mono HB.out.size))
  have HV := Lib.hid (LstIs.kept hv0 hb1)
  have HT1 := Lib.hid (HT.out.below hb1)
  clear hv0 hc0 hc1 hb1
  have hc0 := HT1.out.l.1
  have hc1 := HT1.out.l.2
  rcases kindI_cases l n with hk | hk | hk
  · have HE : Hid (listE l n = 5 ∧ listI l n = []) := Lib.hid (by
      have h1 : listE l n = 5 := by unfold listE; rw [if_pos hk]
      exact ⟨h1, by unfold listI; rw [h1]; rfl⟩)
    rw [hk]
    clear hk
    go_wp2
    go_ret2
    exact ⟨_, by rw [HE.out.1]; rfl, by rw [HE.out.2]; exact World.ownsRow_nil _ _ _ _, HB1.out⟩
  · have HE : Hid (listE l n = 8 ∧ listI l n = []) := Lib.hid (by
      have h1 : listE l n = 8 := by unfold listE; rw [if_neg (by rw [hk]; decide), if_pos hk]
      exact ⟨h1, by unfold listI; rw [h1]; rfl⟩)
    rw [hk]
    clear hk
    go_wp2
    go_ret2
    exact ⟨_, by rw [HE.out.1]; rfl, by rw [HE.out.2]; exact World.ownsRow_nil _ _ _ _, HB1.out⟩
  · have HE : Hid (listE l n = 0 ∧ listI l n = entsI l n) := Lib.hid (by
      have h1 : listE l n = 0 := by unfold listE; rw [if_neg (by rw [hk]; decide), if_neg (by rw [hk]; decide)]
      exact ⟨h1, by unfold listI; rw [h1]; rfl⟩)
    rw [hk]
    clear hk
    go_wp2
    go_loopw [7, 8] (fun ov iv wr => ∃ (i : Nat), i ≤ m ∧ iv = .int .i64 i ∧ wr.ownsRow w1.heap.size 84 5 ov (entsI (l.take i) n).length ((entsI (l.take i) n).flatMap entC) ∧ Below w1.heap.size w1 wr) (fun _ iv _ => m - (intOf iv).toNat)
    case atStart => exact ⟨0, by omega, rfl, World.ownsRow_nil _ _ _ _, Below.refl _ _⟩
    case round =>
      obtain ⟨i, hi, rfl, hown, hbel⟩ := hrel
      have HO := Lib.hid hown
      have hTr := HT1.out.below hbel
      have hc0 := hTr.l.1
      have hc1 := hTr.l.2
      clear hown hTr
      by_cases him : i < m
      · have hiz : (i : Int) < (m : Int) := by omega
        obtain ⟨x, hx⟩ : ∃ x, l[i]? = some x := ⟨_, List.getElem?_eq_getElem (by rw [HM.out]; omega)⟩
        have HV2 := Lib.hid (LstIs.kept HV.out hbel)
        obtain ⟨g, off, rfl, hg, hr⟩ := HV2.out.at hx
        obtain ⟨d0, d1, d2, d3, d4, d5⟩ := itm_at hr
        have HX := Lib.hid (entsI_snoc hx n)
        have HLE := Lib.hid (entsI_le (l.take i) n)
        have HLT : Hid ((entsI (l.take i) n).length ≤ 1000) := Lib.hid (by have := HLE.out; rw [List.length_take] at this; omega)
        clear hr hx hg
        obtain ⟨inn, nm, nd, dr, ck, sh⟩ := x
        simp only at d0 d1 d2 d3 d4 d5
        by_cases hnd : inn = n
        · subst hnd
          have HX2 : Hid (entsI (l.take (i + 1)) inn = entsI (l.take i) inn ++ [⟨nm, nd, dr, ck, sh⟩]) := Lib.hid (by rw [HX.out, if_pos rfl])
          clear HX
          go_wp2_with (at_builtin; refine wpList_append_own _ rfl _ _ 62 rfl w1.heap.size 84 i0 (.agg #[.string ⟨#[]⟩, .int .i64 0, .bool false, .int .i64 0, .int .i64 0]) 5 48 Tryz.underlying62 hi0 hz0 hz1 hz2 rfl (by decide) _ _ _ rfl (HO.out.alloc _) ⟨wr.heap.size, 0, none⟩ 1 1 (entC ⟨nm, nd, dr, ck, sh⟩) rfl rfl ?c1 (entC_one _) ?c3 ?c4 ?c5 ?_)
          case c1 =>
            intro j u hj
            rw [Addr.add_mid, cell_of_row _ _ _ _ _ _ (heap_alloc_new _ _), Nat.zero_add, List.getElem?_toArray]
            exact hj
          case c3 => have := HLT.out; unfold maxLen; omega
          case c4 => have := HLT.out; omega
          case c5 => have h1 := hbel.size; simp; omega
          intro v' w2 hown' hgrow _
          have hB2 := (hbel.alloc hbel.size (.cells #[.string nm, .int .i64 nd, .bool dr, .int .i64 ck, .int .i64 sh] 84)).grown hgrow (by have h1 := hbel.size; simp; omega) (fun j hj => (HO.out.lt j hj).1)
          have HO2 := Lib.hid hown'
          have HB2 := Lib.hid hB2
          clear hown' hgrow hB2
          go_wp2
          go_roundw
          case rel => exact ⟨i + 1, by omega, by first | rfl | go_num, by rw [HX2.out, List.flatMap_append, List.length_append]; exact HO2.out, HB2.out⟩
          case measure => simp [intOf]; omega
        · have HX2 : Hid (entsI (l.take (i + 1)) n = entsI (l.take i) n) := Lib.hid (by rw [HX.out, if_neg hnd, List.append_nil])
          have e1 : (inn == n) = false := by rw [beq_eq_false_iff_ne]; exact hnd
          clear HX
          go_wp2
          go_roundw
          case rel => exact ⟨i + 1, by omega, by first | rfl | go_num, by rw [HX2.out]; exact HO.out, hbel⟩
          case measure => simp [intOf]; omega
      · have hiz : ¬ (i : Int) < (m : Int) := by omega
        have HA : Hid (l.take i = l) := Lib.hid (List.take_of_length_le (by rw [HM.out]; omega))
        go_wp2
        go_ret2
        exact ⟨_, by rw [HE.out.1]; rfl, by
          have h := HO.out
          rw [HA.out] at h
          rw [HE.out.2]
          exact own_mono h HB1.out.size, HB1.out.trans (hbel.mono HB1.out.size)⟩
def DirsOwn (r : List Int) (w0 : World) (e : Ending) (w' : World) : Prop := ∃ v', e = .returned v' ∧ w'.ownsRow w0.heap.size 3 1 v' r.length (r.flatMap numC) ∧ Below w0.heap.size w0 w'
set_option maxHeartbeats 4000000 in
theorem dirs10T_c (v : Value) (l : List Itm) (nx : Int) (w : World) (hv : ItmsT w v l) (hl : l.length ≤ 999) :
    Calls Tryz.prog 30 #[treeV v nx] w (DirsOwn (dirsI l) w) := by
  unfold DirsOwn
  obtain ⟨a, cap, rfl⟩ := hv.1.len
  have cK := fun (n : Nat) W (h : ItmsT W (.slice a l.length cap) l) => kind10_c (.slice a l.length cap) l nx n W h.1 (by omega)
  obtain ⟨m, hm⟩ : ∃ m, l.length = m := ⟨_, rfl⟩
  simp only [hm] at cK
  rw [hm] at hv ⊢
  have hb0 : Below w.heap.size w (w.alloc (.cells #[.slice a m cap, .int .i64 nx] 28)) := (Below.refl _ w).alloc (Nat.le_refl _) _
  have HT : Hid (TreeAt (w.alloc (.cells #[.slice a m cap, .int .i64 nx] 28)) w.heap.size (.slice a m cap) nx) := Lib.hid (heap_alloc_new _ _)
  have HI := Lib.hid (hv.kept hb0)
  have HB := Lib.hid hb0
  have HZ : Hid ((w.alloc (.cells #[.slice a m cap, .int .i64 nx] 28)).heap.size = w.heap.size + 1) := Lib.hid (by simp)
  unfold treeV at cK ⊢
  clear hv hm hb0
  go_enter Tryz.func30, Tryz.ntmps30
  go_upto_region 1 with fail
  generalize w.alloc (.cells #[.slice a m cap, .int .i64 nx] 28) = W0 at *
  generalize hbT : w.heap.size = bT at *
  have HBT := Lib.hid hbT
  clear hbT
  go_wp2
  go_loopw [3, 4] (fun ov iv wr => ∃ n : Nat, n ≤ 201 ∧ iv = .int .i64 n ∧ wr.ownsRow W0.heap.size 3 1 ov (dirsTo l n).length ((dirsTo l n).flatMap numC) ∧ Below W0.heap.size W0 wr) (fun _ iv _ => 201 - (intOf iv).toNat)
  case atStart => exact ⟨0, by omega, rfl, World.ownsRow_nil _ _ _ _, Below.refl _ _⟩
  case round =>
    obtain ⟨n, hn, rfl, hrow, hb⟩ := hrel
    have HW := Lib.hid hrow
    have HBW := Lib.hid hb
    have HTr := Lib.hid (HT.out.below hb)
    obtain ⟨t0, t1⟩ := HTr.out.l
    have cK1 := cK n wr (HI.out.kept hb)
    have hdl := dirsTo_le l n
    have HSC := Lib.hid (dirsTo_succ l n)
    have hsz := hb.size
    clear hrow hb
    by_cases hn2 : n ≤ 200
    · have hnz : (n : Int) ≤ 200 := by omega
      by_cases hk : kindI l (n : Int) = 2
      · rw [hk] at cK1
        have HS2 : Hid (dirsTo l (n + 1) = dirsTo l n ++ [(n : Int)]) := Lib.hid (by rw [HSC.out, if_pos hk])
        clear hk HSC
        go_upto_region 6 with (go_at_call 56; refine cK1.mono ?_; rintro e w5 ⟨rfl, hb5⟩; have HB5 := Lib.hid (HBW.out.trans (hb5.mono hsz)); have HW5 : Hid (World.ownsRow w5 W0.heap.size 3 1 u3 (dirsTo l n).length ((dirsTo l n).flatMap numC)) := Lib.hid (HW.out.kept (row := none) ⟨hb5.os, hb5.tape, hb5.output, hb5.size, fun k hk _ => hb5.block k hk⟩ (by cases h : u3.ownBlock with | none => exact Or.inl rfl | some x => exact Or.inr (by simp))); have hs5 : W0.heap.size ≤ w5.heap.size := HB5.out.size; clear hb5)
        have HOA : Hid (World.ownsRow (w5.alloc (.cells #[.int .i64 (n : Int)] 3)) W0.heap.size 3 1 u3 (dirsTo l n).length ((dirsTo l n).flatMap numC)) := Lib.hid (HW5.out.alloc _)
        have HIA : Hid (NumsL (w5.alloc (.cells #[.int .i64 (n : Int)] 3)) (.slice (some ⟨w5.heap.size, 0, none⟩) 1 1) [(n : Int)]) := Lib.hid (LstIs.block (numC_len _) (heap_alloc_new _ _))
        have hsa : W0.heap.size ≤ (w5.alloc (.cells #[.int .i64 (n : Int)] 3)).heap.size := by show _ ≤ (w5.heap.push _).size; simp; omega
        have HSA := Lib.hid hsa
        have HBA : Hid (Below W0.heap.size W0 (w5.alloc (.cells #[.int .i64 (n : Int)] 3))) := Lib.hid (HB5.out.alloc hs5 _)
        have hlen : (dirsTo l n).length + [(n : Int)].length ≤ 100000 := by simp; omega
        clear hsa
        go_wp2_with (at_builtin; refine wpList_append_lst intElem rfl _ _ rfl W0.heap.size _ _ _ rfl HOA.out _ [(n : Int)] (numC_len _) (numC_one _) rfl HIA.out hlen HSA.out ?_; intro v8 w8 ho8 hg8 hr8; have HB8 := Lib.hid (HBA.out.grown hg8 HSA.out (fun j hj => (HOA.out.lt j hj).1)); have HO8 := Lib.hid ho8; clear ho8 hg8 hr8)
        go_roundw
        case rel => exact ⟨n + 1, by omega, by first | rfl | go_num, by rw [HS2.out, List.length_append, List.flatMap_append]; exact HO8.out, HB8.out⟩
        case measure => simp [intOf]; omega
      · have hkz : (kindI l (n : Int) == 2) = false := by rw [beq_eq_false_iff_ne]; exact hk
        have HS2 : Hid (dirsTo l (n + 1) = dirsTo l n) := Lib.hid (by rw [HSC.out, if_neg hk, List.append_nil])
        clear hk HSC
        go_wp2_with (go_at_call 56; refine cK1.mono ?_; rintro e w5 ⟨rfl, hb5⟩; have HB5 := Lib.hid (HBW.out.trans (hb5.mono hsz)); have HW5 : Hid (World.ownsRow w5 W0.heap.size 3 1 u3 (dirsTo l n).length ((dirsTo l n).flatMap numC)) := Lib.hid (HW.out.kept (row := none) ⟨hb5.os, hb5.tape, hb5.output, hb5.size, fun k hk _ => hb5.block k hk⟩ (by cases h : u3.ownBlock with | none => exact Or.inl rfl | some x => exact Or.inr (by simp))); clear hb5)
        go_roundw
        case rel => exact ⟨n + 1, by omega, by first | rfl | go_num, by rw [HS2.out]; exact HW5.out, HB5.out⟩
        case measure => simp [intOf]; omega
    · have hnz : ¬ (n : Int) ≤ 200 := by omega
      obtain rfl : n = 201 := by omega
      have HE : Hid (wr.ownsRow bT 3 1 u3 (dirsI l).length ((dirsI l).flatMap numC)) := Lib.hid (own_mono HW.out (by have := HZ.out; omega))
      have HBE : Hid (Below bT w wr) := Lib.hid (HB.out.trans (HBW.out.mono (by have := HZ.out; omega)))
      clear cK1
      go_wp2
      go_ret
      exact ⟨_, rfl, by rw [HBT.out]; exact HE.out, by rw [HBT.out]; exact HBE.out⟩
end Go.Proofs.YtddobjhahohhhaaGreat
