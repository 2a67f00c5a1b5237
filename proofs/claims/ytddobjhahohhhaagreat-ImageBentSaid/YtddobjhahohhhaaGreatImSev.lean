/-
  The entries of one directory, as the project reads them of an image; a directory.
-/
import Derived.Test.YtddobjhahohhhaaGreatImRd
namespace Go.Proofs.YtddobjhahohhhaaGreat
open Go.RowKit Go.Sort
set_option linter.unusedVariables false
set_option linter.unusedSimpArgs false

/-- A row of its own, not in the reader's block. -/
theorem row_rd {w w' : World} {b B c n : Nat} {T0 : TypeId} {v : Value} {xs : List Value} (hg : w.grownBy w' (some b)) (hb : b < B) (h : w.ownsRow B T0 c v n xs) : w'.ownsRow B T0 c v n xs :=
  ownsRow_same h fun g hg' => hg.block g (h.lt g hg').2 (fun e => by have := Option.some.inj e; have := (h.lt g hg').1; omega)
theorem rd_kept {b : Nat} {l : List UInt8} {p : Bool} {w w' : World} {row : Option Nat} (h : RdIs IR b l p w) (hg : w.grownBy w' row) (hr : row ≠ some b) : RdIs IR b l p w' := (hg.block b (lt_of_get h) (fun e => hr e.symm)).trans h
abbrev entF (b : Nat) : Value := .func (.func 55) #[ptV b] #[]
def SEPost (b : Nat) (w : World) (f : List Ent × RS) (e : Ending) (w' : World) : Prop :=
  ∃ v, e = .returned v ∧ w'.ownsRow w.heap.size 84 5 v f.1.length (f.1.flatMap entC) ∧ RdIs IR b f.2.l f.2.p w' ∧ w.grownBy w' (some b)
set_option maxHeartbeats 8000000 in
set_option maxRecDepth 100000 in
theorem sevE_c (b : Nat) (r : RS) (w : World) (h : RdIs IR b r.l r.p w) (hl : r.l.length ≤ 100000) :
    Calls Tryz.prog 54 #[ptV b, entF b] w (SEPost b w (sevR entR r)) := by
  unfold SEPost
  obtain ⟨i0, hi0, hz0, hz1, hz2⟩ := info_parts Tryz.infoEnt10
  obtain ⟨F, hF⟩ : ∃ F, sevR entR r = F := ⟨_, rfl⟩
  rw [hF]
  unfold sevR at hF
  have cN := rnumber_c b 2 r.l r.p w h (by omega) hl
  have hn0 := rdN_lt 2 r.l
  rw [valI_small 2 r.l (by omega)] at cN
  obtain ⟨n0, hn⟩ : ∃ n0, rdN 2 r.l = n0 := ⟨_, rfl⟩
  rw [hn] at cN hF hn0
  obtain ⟨r0, hr0⟩ : ∃ r0, r.num 2 = r0 := ⟨_, rfl⟩
  have hl0 : r0.l.length ≤ 100000 := by rw [← hr0]; exact Nat.le_trans (num_le 2 r) hl
  have cN2 : Calls Tryz.prog 24 #[ptV b, .int .i64 2] w (RdPost IR b w r0.l r0.p (.int .i64 (n0 : Int))) := by
    rw [← hr0]
    exact cN
  rw [hr0] at hF
  have hb := lt_of_get h
  have HF := Lib.hid hF
  have HB := Lib.hid hb
  obtain ⟨B, hBB⟩ : ∃ B, w.heap.size = B := ⟨_, rfl⟩
  have HBB := Lib.hid hBB
  rw [hBB] at hb ⊢
  unfold RdPost at cN2
  clear h hl hF cN hn hr0 hBB
  go_enter Tryz.func54, Tryz.ntmps54
  go_wp2_with (go_at_call 24; refine cN2.mono ?_; rintro e w1 ⟨rfl, hr1, hg1⟩; have HR1 := Lib.hid hr1; have HG1 := Lib.hid hg1; clear hr1 hg1)
  clear cN2
  go_loopw [5, 6] (fun lv nv wr => ∃ (xs : List Ent) (n : Nat) (z : Int) (r' : RS), nv = .int .i64 z ∧ z = (n : Int) ∧ wr.ownsRow B 84 5 lv xs.length (xs.flatMap entC) ∧ RdIs IR b r'.l r'.p wr ∧ w.grownBy wr (some b) ∧ (xs ++ (sevGo entR n r').1, (sevGo entR n r').2) = F ∧ xs.length + n ≤ 65535 ∧ r'.l.length ≤ 100000) (fun _ nv _ => (intOf nv).toNat)
  case atStart => exact ⟨[], n0, n0, r0, rfl, rfl, World.ownsRow_nil _ _ _ _, HR1.out, HG1.out, by rw [List.nil_append]; exact HF.out, by simp only [List.length_nil]; omega, hl0⟩
  case round =>
    obtain ⟨xs, n, z, r', rfl, hz, ho, hr, hg, hf, hn, hl⟩ := hrel
    have HO := Lib.hid ho
    have HR := Lib.hid hr
    have HG := Lib.hid hg
    have HFF := Lib.hid hf
    have HN := Lib.hid hn
    have HLL := Lib.hid hl
    have hsz := hg.size
    obtain ⟨a3, c3, hv3⟩ := ownsRow_slice ho
    subst hv3
    clear ho hr hg hf hn hl
    cases n with
    | zero =>
      have hzn : ¬ (0 : Int) < z := by omega
      clear hz
      have hfin : F = (xs, r') := by
        have h9 := HFF.out
        unfold sevGo at h9
        rw [← h9, List.append_nil]
      have HFIN := Lib.hid hfin
      clear hfin
      go_wp2
      go_ret
      exact ⟨_, rfl, by rw [HFIN.out]; exact HO.out, by rw [HFIN.out]; exact HR.out, HG.out⟩
    | succ n =>
      have hzp : (0 : Int) < z := by omega
      have hzq : z ≤ 65535 := by have := HN.out; omega
      have HZ := Lib.hid hz
      clear hz
      obtain ⟨p, hp⟩ : ∃ p, r'.p = p := ⟨_, rfl⟩
      have cP := rpast_c b r'.l r'.p wr HR.out
      rw [hp] at cP
      have HP := Lib.hid hp
      clear hp
      cases p with
      | true =>
        have hfin : F = (xs, r') := by
          have h9 := HFF.out
          unfold sevGo at h9
          rw [if_pos HP.out] at h9
          rw [← h9, List.append_nil]
        have HFIN := Lib.hid hfin
        clear hfin
        go_wp2_with (go_at_call 53; refine cP.mono ?_; rintro e w2 ⟨rfl, rfl⟩)
        go_ret
        exact ⟨_, rfl, by rw [HFIN.out]; exact HO.out, by rw [HFIN.out]; exact HR.out, HG.out⟩
      | false =>
        obtain ⟨x, hx⟩ : ∃ x, (entR r').1 = x := ⟨_, rfl⟩
        obtain ⟨r2, hr2⟩ : ∃ r2, (entR r').2 = r2 := ⟨_, rfl⟩
        have hfin : (xs ++ [x] ++ (sevGo entR n r2).1, (sevGo entR n r2).2) = F := by
          have h9 := HFF.out
          unfold sevGo at h9
          rw [if_neg (by rw [HP.out]; decide), hx, hr2] at h9
          rw [← h9, List.append_assoc]
          rfl
        have HFIN := Lib.hid hfin
        have hl2 : r2.l.length ≤ 100000 := by rw [← hr2]; exact Nat.le_trans (entR_le r') HLL.out
        have HL2 := Lib.hid hl2
        have cE := rentry_c b r' wr HR.out HLL.out
        unfold REPost at cE
        rw [hx, hr2] at cE
        clear hfin hx hr2 hl2
        obtain ⟨nm, nd, dr, ck, sh⟩ := x
        unfold entV at cE
        simp only at cE
        go_wp2_with (first
          | (go_at_call 53; refine cP.mono ?_; rintro e w2 ⟨rfl, rfl⟩)
          | (go_at_call 55; refine cE.mono ?_; rintro e w3 ⟨rfl, hr3, hg3⟩; have HR3 := Lib.hid hr3; have HG3 := Lib.hid (rd_grown_trans HG.out hg3); have HO3 := Lib.hid (row_rd hg3 (by omega) HO.out); have hs3 := hg3.size; clear hr3 hg3)
          | (at_builtin; refine wpList_append_own _ rfl _ _ 62 rfl B 84 i0 (.agg #[.string ⟨#[]⟩, .int .i64 0, .bool false, .int .i64 0, .int .i64 0]) 5 48 Tryz.underlying62 hi0 hz0 hz1 hz2 rfl (by decide) _ _ _ rfl (HO3.out.alloc _) ⟨w3.heap.size, 0, none⟩ 1 1 (entC ⟨nm, nd, dr, ck, sh⟩) rfl rfl ?c1 (entC_one _) ?c3 ?c4 ?c5 ?_))
        case c1 =>
          intro j u hj
          rw [Addr.add_mid, cell_of_row _ _ _ _ _ _ (heap_alloc_new _ _), Nat.zero_add, List.getElem?_toArray]
          exact hj
        case c3 => have := HN.out; unfold maxLen; omega
        case c4 => have := HN.out; omega
        case c5 => have := HBB.out; simp; omega
        intro v' w4 hown' hgrow _
        have hga := rd_grown_alloc HG3.out (.cells #[.string nm, .int .i64 nd, .bool dr, .int .i64 ck, .int .i64 sh] 84)
        have HG4 := Lib.hid (rd_grown_own hga hgrow (fun g hg => by rw [HBB.out]; exact (HO3.out.lt g hg).1))
        have HR4 : Hid (RdIs IR b r2.l r2.p w4) := Lib.hid (rd_kept (rd_kept HR3.out (rd_grown_below ((Below.refl _ _).alloc (Nat.le_refl _) _) none) (by simp)) hgrow (fun e => by have := (HO3.out.lt b e).1; omega))
        have HO4 := Lib.hid hown'
        clear hown' hgrow hga
        go_wp2
        go_roundw
        case rel => exact ⟨xs ++ [⟨nm, nd, dr, ck, sh⟩], n, z - 1, r2, by first | rfl | go_num, by have := HZ.out; omega, by rw [List.flatMap_append, List.length_append]; exact HO4.out, HR4.out, HG4.out, HFIN.out, by have := HN.out; simp only [List.length_append, List.length_singleton]; omega, HL2.out⟩
        case measure => have := HZ.out; simp [intOf]; omega
end Go.Proofs.YtddobjhahohhhaaGreat
