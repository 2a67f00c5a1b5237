/-
  A directory, and all of them, as the project reads them of an image.
-/
import Derived.Test.YtddobjhahohhhaaGreatImSev
import Derived.Test.YtddobjhahohhhaaGreatTrMake
namespace Go.Proofs.YtddobjhahohhhaaGreat
open Go.RowKit Go.Sort
set_option linter.unusedVariables false
set_option linter.unusedSimpArgs false

def RDPost (b : Nat) (w : World) (f : (Int × List Ent) × RS) (e : Ending) (w' : World) : Prop :=
  ∃ v, e = .returned (.agg #[.int .i64 f.1.1, v]) ∧ w'.ownsRow w.heap.size 84 5 v f.1.2.length (f.1.2.flatMap entC) ∧ RdIs IR b f.2.l f.2.p w' ∧ w.grownBy w' (some b)
theorem rdir_c (b : Nat) (r : RS) (w : World) (h : RdIs IR b r.l r.p w) (hl : r.l.length ≤ 100000) :
    Calls Tryz.prog 28 #[ptV b] w (RDPost b w (dirR r)) := by
  unfold RDPost
  obtain ⟨F, hF⟩ : ∃ F, dirR r = F := ⟨_, rfl⟩
  rw [hF]
  unfold dirR at hF
  obtain ⟨n0, hn⟩ : ∃ n0 : Int, (rdN 2 r.l : Int) = n0 := ⟨_, rfl⟩
  obtain ⟨r0, hr0⟩ : ∃ r0, r.num 2 = r0 := ⟨_, rfl⟩
  obtain ⟨G, hG⟩ : ∃ G, sevR entR r0 = G := ⟨_, rfl⟩
  have hl0 : r0.l.length ≤ 100000 := by rw [← hr0]; exact Nat.le_trans (num_le 2 r) hl
  have hb := lt_of_get h
  have hA : RdIs IR b r.l r.p (w.alloc (.cells #[.int .i64 0, .slice none 0 0] 67)) := rd_kept h (rd_grown_below ((Below.refl _ _).alloc (Nat.le_refl _) _) none) (by simp)
  have cN := rnumber_c b 2 r.l r.p _ hA (by omega) hl
  rw [valI_small 2 r.l (by omega), hn] at cN
  have cN2 : Calls Tryz.prog 24 #[ptV b, .int .i64 2] (w.alloc (.cells #[.int .i64 0, .slice none 0 0] 67)) (RdPost IR b (w.alloc (.cells #[.int .i64 0, .slice none 0 0] 67)) r0.l r0.p (.int .i64 n0)) := by
    rw [← hr0]
    exact cN
  rw [hn, hr0, hG] at hF
  have cS : Hid (∀ W, RdIs IR b r0.l r0.p W → Calls Tryz.prog 54 #[ptV b, entF b] W (SEPost b W G)) := Lib.hid fun W hW => by
    rw [← hG]
    exact sevE_c b r0 W hW hl0
  unfold SEPost entF at cS
  unfold RdPost at cN2
  have HF := Lib.hid hF
  have HG0 : Hid (w.grownBy (w.alloc (.cells #[.int .i64 0, .slice none 0 0] 67)) (some b)) := Lib.hid (rd_grown_alloc (World.grownBy.refl w _) _)
  have HZ0 : Hid ((w.alloc (.cells #[.int .i64 0, .slice none 0 0] 67)).heap[w.heap.size]? = some (.cells #[.int .i64 0, .slice none 0 0] 67 (0, 0))) := Lib.hid (heap_alloc_new _ _)
  clear h hl hF cN hn hr0 hG hA hl0
  go_enter Tryz.func28, Tryz.ntmps28
  go_upto_region 1 with fail
  generalize (w.alloc (.cells #[.int .i64 0, .slice none 0 0] 67)) = W0 at *
  obtain ⟨q, hq⟩ : ∃ q, w.heap.size = q := ⟨_, rfl⟩
  rw [hq] at HZ0 hb ⊢
  have HQ := Lib.hid hq
  clear hq
  go_upto_region 2 with (go_at_call 24; refine cN2.mono ?_; rintro e w1 ⟨rfl, hr1, hg1⟩; have HR1 := Lib.hid hr1; have HG1 := Lib.hid (rd_grown_trans HG0.out hg1); have HZ1 := Lib.hid ((hg1.block q (lt_of_get HZ0.out) (fun e => by have := Option.some.inj e; omega)).trans HZ0.out); clear hr1 hg1)
  have cSS := cS.out w1 HR1.out
  go_wp2_with (go_at_call 54; refine cSS.mono ?_; rintro e w2 ⟨v2, rfl, ho2, hr2, hg2⟩; obtain ⟨a2, c2, hv2⟩ := ownsRow_slice ho2; have HO2 := Lib.hid ho2; have HR2 := Lib.hid hr2; have HG2 := Lib.hid (rd_grown_trans HG1.out hg2); have HZ2 := Lib.hid ((hg2.block q (lt_of_get HZ1.out) (fun e => by have := Option.some.inj e; omega)).trans HZ1.out); subst hv2; clear ho2 hr2 hg2; have z0 := Lib.cell_of_heap HZ2.out 0; have z1 := Lib.cell_of_heap HZ2.out 1; have y0 := Lib.frozen_of_heap HZ2.out 0; have y1 := Lib.frozen_of_heap HZ2.out 1)
  (try simp only [Exit.inBlock, Exit.then])
  have hz : ((w2.setCell ⟨q, 0, none⟩ (.int .i64 n0)).setCell ⟨q, 1, none⟩ (.slice a2 G.1.length c2)).heap[q]? = some (.cells #[.int .i64 n0, .slice a2 G.1.length c2] 67 (0, 0)) := by
    rw [heap_setCell_same _ q 1 _ _ _ (heap_setCell_same _ q 0 _ _ _ HZ2.out)]
    rfl
  have hne : ∀ g, g ≠ q → ((w2.setCell ⟨q, 0, none⟩ (.int .i64 n0)).setCell ⟨q, 1, none⟩ (.slice a2 G.1.length c2)).heap[g]? = w2.heap[g]? := fun g hg => by
    rw [Below.heap_setCell _ _ _ _ hg, Below.heap_setCell _ _ _ _ hg]
  have hq1 : q < w1.heap.size := lt_of_get HZ1.out
  refine bodyPost_ret (results_cell_row Tryz.results28 _ _ _ _ _ _ _ rfl hz Tryz.underlying67 rfl (by kernel_rfl)) rfl ⟨.slice a2 G.1.length c2, by rw [← HF.out], ?_, ?_, ?_⟩
  · rw [← HF.out]
    exact own_mono (ownsRow_same HO2.out fun g hg => hne g (by have := (HO2.out.lt g hg).1; omega)) (by have := HQ.out; omega)
  · rw [← HF.out]
    show RdIs IR b G.2.l G.2.p _
    unfold RdIs
    rw [hne b (by omega)]
    exact HR2.out
  · exact rd_grown_new (rd_grown_new HG2.out (by rw [HQ.out]; exact Nat.le_refl _) _) (by rw [HQ.out]; exact Nat.le_refl _) _

/-! All of them. -/
abbrev ZD := Int × Value × List Ent
def zC (z : ZD) : List Value := [.int .i64 z.1, z.2.1]
def zD (z : ZD) : Int × List Ent := (z.1, z.2.2)
theorem zC_len (l : List ZD) : ∀ x ∈ l, (zC x).length = 2 := fun _ _ => rfl
def ZOk (w : World) (B : Nat) (zs : List ZD) : Prop := ∀ z ∈ zs, w.ownsRow B 84 5 z.2.1 z.2.2.length (z.2.2.flatMap entC)
theorem ZOk.grown {w w' : World} {B B' c n : Nat} {zs : List ZD} {v : Value} {xs : List Value} (h : ZOk w B zs) (ho : w.ownsRow B' 67 c v n xs) (hg : w.grownBy w' v.ownBlock) : ZOk w' B zs := fun z hz =>
  ownsRow_same (h z hz) fun g hg' => hg.block g ((h z hz).lt g hg').2 fun e => by
    obtain ⟨cur, h1⟩ := ownsRow_typ (h z hz) hg'
    obtain ⟨cur2, h2⟩ := ownsRow_typ ho e.symm
    rw [h1] at h2
    injection h2 with h2
    injection h2 with _ h3 _
    exact absurd h3 (by decide)
theorem ZOk.rd {w w' : World} {b B : Nat} {zs : List ZD} (h : ZOk w B zs) (hg : w.grownBy w' (some b)) (hb : b < B) : ZOk w' B zs := fun z hz => row_rd hg hb (h z hz)
theorem ZOk.alloc {w : World} {B : Nat} {zs : List ZD} (h : ZOk w B zs) (o : Obj) : ZOk (w.alloc o) B zs := fun z hz => (h z hz).alloc o
theorem ZOk.below {w w' : World} {B : Nat} {zs : List ZD} (h : ZOk w B zs) (hb : Below w.heap.size w w') : ZOk w' B zs := fun z hz => ownsRow_same (h z hz) fun g hg => hb.block g ((h z hz).lt g hg).2
theorem Tryz.infoDirI : (Tryz.prog.info? 67).map (fun i => (i.zero, i.size, i.bytes)) = some (some (.agg #[.int .i64 0, .slice none 0 0]), 2, 32) := by kernel_rfl
abbrev dirF (b : Nat) : Value := .func (.func 28) #[ptV b] #[]
def SDPost (b : Nat) (w : World) (f : List (Int × List Ent) × RS) (e : Ending) (w' : World) : Prop :=
  ∃ v zs, e = .returned v ∧ w'.ownsRow w.heap.size 67 2 v zs.length (zs.flatMap zC) ∧ ZOk w' w.heap.size zs ∧ zs.map zD = f.1 ∧ RdIs IR b f.2.l f.2.p w' ∧ w.grownBy w' (some b)
set_option maxHeartbeats 8000000 in
set_option maxRecDepth 100000 in
theorem sevD_c (b : Nat) (r : RS) (w : World) (h : RdIs IR b r.l r.p w) (hl : r.l.length ≤ 100000) :
    Calls Tryz.prog 27 #[ptV b, dirF b] w (SDPost b w (sevR dirR r)) := by
  unfold SDPost
  obtain ⟨i0, hi0, hz0, hz1, hz2⟩ := info_parts Tryz.infoDirI
  obtain ⟨F, hF⟩ : ∃ F, sevR dirR r = F := ⟨_, rfl⟩
  rw [hF]
  unfold sevR at hF
  have cN := rnumber_c b 2 r.l r.p w h (by omega) hl
  have hn0 := rdN_lt 2 r.l
  rw [valI_small 2 r.l (by omega)] at cN
  obtain ⟨n0, hn⟩ : ∃ n0, rdN 2 r.l = n0 := ⟨_, rfl⟩
  rw [hn] at cN hF hn0
  obtain ⟨r0, hr0⟩ : ∃ r0, r.num 2 = r0 := ⟨_, rfl⟩
  have hl0 : r0.l.length ≤ 100000 := by rw [← hr0]; exact Nat.le_trans (num_le 2 r) hl
  have cN2 : Calls Tryz.prog 24 #[ptV b, .int .i64 2] w (RdPost IR b w r0.l r0.p (.int .i64 (n0 : Int))) := by
    rw [← hr0]
    exact cN
  rw [hr0] at hF
  have hb := lt_of_get h
  have HF := Lib.hid hF
  obtain ⟨B, hBB⟩ : ∃ B, w.heap.size = B := ⟨_, rfl⟩
  have HBB := Lib.hid hBB
  rw [hBB] at hb ⊢
  unfold RdPost at cN2
  clear h hl hF cN hn hr0 hBB
  go_enter Tryz.func27, Tryz.ntmps27
  go_wp2_with (go_at_call 24; refine cN2.mono ?_; rintro e w1 ⟨rfl, hr1, hg1⟩; have HR1 := Lib.hid hr1; have HG1 := Lib.hid hg1; clear hr1 hg1)
  clear cN2
  go_loopw [5, 6] (fun lv nv wr => ∃ (xs : List ZD) (n : Nat) (z : Int) (r' : RS), nv = .int .i64 z ∧ z = (n : Int) ∧ wr.ownsRow B 67 2 lv xs.length (xs.flatMap zC) ∧ ZOk wr B xs ∧ RdIs IR b r'.l r'.p wr ∧ w.grownBy wr (some b) ∧ (xs.map zD ++ (sevGo dirR n r').1, (sevGo dirR n r').2) = F ∧ xs.length + n ≤ 65535 ∧ r'.l.length ≤ 100000) (fun _ nv _ => (intOf nv).toNat)
  case atStart => exact ⟨[], n0, n0, r0, rfl, rfl, World.ownsRow_nil _ _ _ _, (fun z hz => absurd hz (by simp)), HR1.out, HG1.out, by rw [List.map_nil, List.nil_append]; exact HF.out, by simp only [List.length_nil]; omega, hl0⟩
  case round =>
    obtain ⟨xs, n, z, r', rfl, hz, ho, hzk, hr, hg, hf, hn, hl⟩ := hrel
    have HO := Lib.hid ho
    have HZK := Lib.hid hzk
    have HR := Lib.hid hr
    have HG := Lib.hid hg
    have HFF := Lib.hid hf
    have HN := Lib.hid hn
    have HLL := Lib.hid hl
    have hsz := hg.size
    obtain ⟨a3, c3, hv3⟩ := ownsRow_slice ho
    subst hv3
    clear ho hzk hr hg hf hn hl
    cases n with
    | zero =>
      have hzn : ¬ (0 : Int) < z := by omega
      clear hz
      have hfin : F = (xs.map zD, r') := by
        have h9 := HFF.out
        unfold sevGo at h9
        rw [← h9, List.append_nil]
      have HFIN := Lib.hid hfin
      clear hfin
      go_wp2
      go_ret
      first
        | exact ⟨_, xs, rfl, HO.out, HZK.out, by rw [HFIN.out], by rw [HFIN.out]; exact HR.out, HG.out⟩
        | exact ⟨_, rfl, xs, HO.out, HZK.out, by rw [HFIN.out], by rw [HFIN.out]; exact HR.out, HG.out⟩
    | succ n =>
      have hzp : (0 : Int) < z := by omega
      have hzq : z ≤ 65535 := by have := HN.out; omega
      have HZ := Lib.hid hz
      clear hz
      obtain ⟨p, hp⟩ : ∃ p, r'.p = p := ⟨_, rfl⟩
      have cP := rpast_c b r'.l r'.p wr HR.out
      rw [hp] at cP
      have HP := Lib.hid hp
      clear hp
      cases p with
      | true =>
        have hfin : F = (xs.map zD, r') := by
          have h9 := HFF.out
          unfold sevGo at h9
          rw [if_pos HP.out] at h9
          rw [← h9, List.append_nil]
        have HFIN := Lib.hid hfin
        clear hfin
        go_wp2_with (go_at_call 53; refine cP.mono ?_; rintro e w2 ⟨rfl, rfl⟩)
        go_ret
        first
          | exact ⟨_, xs, rfl, HO.out, HZK.out, by rw [HFIN.out], by rw [HFIN.out]; exact HR.out, HG.out⟩
          | exact ⟨_, rfl, xs, HO.out, HZK.out, by rw [HFIN.out], by rw [HFIN.out]; exact HR.out, HG.out⟩
      | false =>
        obtain ⟨x, hx⟩ : ∃ x, (dirR r').1 = x := ⟨_, rfl⟩
        obtain ⟨r2, hr2⟩ : ∃ r2, (dirR r').2 = r2 := ⟨_, rfl⟩
        have hfin : (xs.map zD ++ [x] ++ (sevGo dirR n r2).1, (sevGo dirR n r2).2) = F := by
          have h9 := HFF.out
          unfold sevGo at h9
          rw [if_neg (by rw [HP.out]; decide), hx, hr2] at h9
          rw [← h9, List.append_assoc]
          rfl
        have HFIN := Lib.hid hfin
        have hl2 : r2.l.length ≤ 100000 := by rw [← hr2]; exact Nat.le_trans (dirR_le r') HLL.out
        have HL2 := Lib.hid hl2
        have cE := rdir_c b r' wr HR.out HLL.out
        unfold RDPost at cE
        rw [hx, hr2] at cE
        clear hfin hx hr2 hl2
        obtain ⟨dn, es⟩ := x
        simp only at cE
        go_wp2_with (first
          | (go_at_call 53; refine cP.mono ?_; rintro e w2 ⟨rfl, rfl⟩)
          | (go_at_call 28; refine cE.mono ?_; rintro e w3 ⟨v9, rfl, ho9, hr3, hg3⟩; obtain ⟨a9, c9, hv9⟩ := ownsRow_slice ho9; subst hv9; have HR3 := Lib.hid hr3; have HG3 := Lib.hid (rd_grown_trans HG.out hg3); have HO3 := Lib.hid (row_rd hg3 (by omega) HO.out); have HZ3 : Hid (ZOk w3 B (xs ++ [(dn, .slice a9 es.length c9, es)])) := Lib.hid (fun z hz => (List.mem_append.1 hz).elim (fun h => (HZK.out.rd hg3 (by omega)) z h) (fun h => by obtain rfl := List.mem_singleton.1 h; exact own_mono ho9 (by have := HBB.out; omega))); have hs3 := hg3.size; clear hr3 hg3 ho9)
          | (at_builtin; refine wpList_append_own _ rfl _ _ 79 rfl B 67 i0 (.agg #[.int .i64 0, .slice none 0 0]) 2 32 Tryz.underlying79 hi0 hz0 hz1 hz2 rfl (by decide) _ _ _ rfl (HO3.out.alloc _) ⟨w3.heap.size, 0, none⟩ 1 1 [.int .i64 dn, .slice a9 es.length c9] rfl rfl ?c1 ?c2 ?c3 ?c4 ?c5 ?_))
        case c1 =>
          intro j u hj
          rw [Addr.add_mid, cell_of_row _ _ _ _ _ _ (heap_alloc_new _ _), Nat.zero_add, List.getElem?_toArray]
          exact hj
        case c2 =>
          intro u hu
          simp at hu
          rcases hu with rfl | rfl <;> rfl
        case c3 => have := HN.out; unfold maxLen; omega
        case c4 => have := HN.out; omega
        case c5 => have := HBB.out; simp; omega
        intro v' w4 hown' hgrow _
        have hga := rd_grown_alloc HG3.out (.cells #[.int .i64 dn, .slice a9 es.length c9] 67)
        have HG4 := Lib.hid (rd_grown_own hga hgrow (fun g hg => by rw [HBB.out]; exact (HO3.out.lt g hg).1))
        have HR4 : Hid (RdIs IR b r2.l r2.p w4) := Lib.hid (rd_kept (rd_kept HR3.out (rd_grown_below ((Below.refl _ _).alloc (Nat.le_refl _) _) none) (by simp)) hgrow (fun e => by have := (HO3.out.lt b e).1; omega))
        have HZ4 := Lib.hid ((HZ3.out.alloc (.cells #[.int .i64 dn, .slice a9 es.length c9] 67)).grown (HO3.out.alloc _) hgrow)
        have HO4 := Lib.hid hown'
        clear hown' hgrow hga
        go_wp2
        go_roundw
        case rel => exact ⟨xs ++ [(dn, .slice a9 es.length c9, es)], n, z - 1, r2, by first | rfl | go_num, by have := HZ.out; omega, by rw [List.flatMap_append, List.length_append]; exact HO4.out, HZ4.out, HR4.out, HG4.out, by rw [List.map_append]; exact HFIN.out, by have := HN.out; simp only [List.length_append, List.length_singleton]; omega, HL2.out⟩
        case measure => have := HZ.out; simp [intOf]; omega
end Go.Proofs.YtddobjhahohhhaaGreat
