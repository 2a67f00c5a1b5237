/-
  A device (stage 6): Flush.
-/
import Derived.Test.YtmpfdmjbgabcdaaSeCut
namespace Go.Proofs.Ytmpfdmjbgabcdaa
open Go.RowKit Go.Sort
set_option linter.unusedVariables false

/-- Of these pending writes' sectors what the list src has. -/
def setFrom (src : List ByteArray) (ps : List (Nat × ByteArray)) (l : List ByteArray) : List ByteArray := ps.foldl (fun l p => l.set p.1 (src.getD p.1 ⟨#[]⟩)) l
theorem setFrom_len (src : List ByteArray) : ∀ (ps : List (Nat × ByteArray)) (l : List ByteArray), (setFrom src ps l).length = l.length
  | [], l => rfl
  | p :: ps, l => by
    show (setFrom src ps (l.set _ _)).length = _
    rw [setFrom_len src ps, List.length_set]
theorem setFrom_snoc (src : List ByteArray) (ps : List (Nat × ByteArray)) (p : Nat × ByteArray) (l : List ByteArray) : setFrom src (ps ++ [p]) l = (setFrom src ps l).set p.1 (src.getD p.1 ⟨#[]⟩) := by
  unfold setFrom
  rw [List.foldl_append]
  rfl
theorem setFrom_get (src : List ByteArray) : ∀ (ps : List (Nat × ByteArray)) (l : List ByteArray) (i : Nat), (∀ p ∈ ps, p.1 < src.length) → src.length = l.length →
    (setFrom src ps l)[i]? = if ∃ p ∈ ps, p.1 = i then src[i]? else l[i]?
  | [], l, i, _, _ => by simp [setFrom]
  | p :: ps, l, i, hs, hl => by
    show (setFrom src ps (l.set _ _))[i]? = _
    rw [setFrom_get src ps _ i (fun q hq => hs q (by simp [hq])) (by rw [List.length_set]; exact hl)]
    have hp := hs p (by simp)
    by_cases h1 : ∃ q ∈ ps, q.1 = i
    · rw [if_pos h1, if_pos]
      obtain ⟨q, hq, e⟩ := h1
      exact ⟨q, by simp [hq], e⟩
    · rw [if_neg h1]
      by_cases h2 : p.1 = i
      · rw [if_pos ⟨p, by simp, h2⟩]
        subst h2
        rw [List.getElem?_set_self (by omega), List.getD_eq_getElem?_getD, List.getElem?_eq_getElem hp]
        rfl
      · rw [List.getElem?_set_ne h2, if_neg]
        rintro ⟨q, hq, e⟩
        rcases List.mem_cons.1 hq with rfl | hq
        · exact h2 e
        · exact h1 ⟨q, hq, e⟩
theorem setFrom_all {src l : List ByteArray} {ps : List (Nat × ByteArray)} (hs : ∀ p ∈ ps, p.1 < src.length) (hl : src.length = l.length) (h : ∀ i, (∀ p ∈ ps, p.1 ≠ i) → src[i]? = l[i]?) : setFrom src ps l = src := by
  apply List.ext_getElem?
  intro i
  rw [setFrom_get src ps l i hs hl]
  split
  · rfl
  · rename_i hn
    exact (h i (fun p hp e => hn ⟨p, hp, e⟩)).symm
theorem setFrom_size {src : List ByteArray} {ps : List (Nat × ByteArray)} {l : List ByteArray} (hs : ∀ p ∈ ps, p.1 < src.length) (h1 : ∀ x ∈ src, x.size = 64) (h2 : ∀ x ∈ l, x.size = 64) : ∀ x ∈ setFrom src ps l, x.size = 64 := by
  induction ps generalizing l with
  | nil => exact h2
  | cons p ps ih =>
    refine ih (l := l.set _ _) (fun q hq => hs q (by simp [hq])) (fun x hx => ?_)
    rcases List.mem_or_eq_of_mem_set hx with h | h
    · exact h2 x h
    · rw [h]
      have hp := hs p (by simp)
      rw [List.getD_eq_getElem?_getD, List.getElem?_eq_getElem hp]
      exact h1 _ (List.getElem_mem hp)

theorem take_snoc {α : Type} {l : List α} {j : Nat} {p : α} (h : l[j]? = some p) : l.take (j + 1) = l.take j ++ [p] := by
  rw [List.take_add_one, h]
  rfl
/-- A pending write is read out of the row. -/
theorem load_wr {B : Nat} {W : World} {vp : Value} {ps : List (Nat × ByteArray)} (h : W.ownsRow B 81 65 vp ps.length (pcells ps)) (hs : ∀ p ∈ ps, p.2.size = 64) {j : Nat} {p : Nat × ByteArray} (hp : ps[j]? = some p) :
    ∃ gp cap, vp = .slice (some ⟨gp, 0, none⟩) ps.length cap ∧ (Instr.loadAt 81 (.pointer (some ⟨gp, j * 65, none⟩))).run Try.prog W = .ok (.agg (wrc p).toArray) W := by
  have hj : j < ps.length := (List.getElem?_eq_some_iff.1 hp).1
  have hw : ∀ q ∈ ps, (wrc q).length = 65 := fun q hq => wrc_length (hs q hq)
  rcases h.2 with ⟨_, h0⟩ | ⟨g, cap, cur, hv, _, hb, hn, _, hc, ht⟩
  · omega
  · refine ⟨g, cap, hv, run_loadAt_mid (P := Try.prog) W g (j * 65) _ (wrc p) _ ?_ Try.underlying81 rfl (by rw [hw p (List.mem_of_getElem? hp)]; exact Try.infoWrS)⟩
    refine range_of_flat wrc 65 (R := cur.toList.drop (ps.length * 65)) hw hp (w := W) (b := g) (T := 81) (fr := (0, 0)) ?_
    rw [hb]
    have e : cur.toList = pcells ps ++ cur.toList.drop (ps.length * 65) := by rw [← ht, List.take_append_drop]
    congr 2
    apply Array.ext'
    rw [List.toList_toArray]
    exact e
theorem store_wr (W : World) (p : Nat × ByteArray) (hp : p.2.size = 64) : (storeCells ⟨W.heap.size, 0, none⟩ (wrc p)).run Try.prog (W.alloc (.cells z65 81)) = .ok () (W.alloc (.cells (wrc p).toArray 81)) := by
  have hw := wrc_length hp
  have := run_storeCells_new (P := Try.prog) W 81 z65 (wrc p).toArray (by rw [List.size_toArray, hw]; exact Try.infoWrS) ((show z65.size = 65 from rfl).trans (by rw [List.size_toArray, hw])) (all_oneCell_toArray (wrc_one _))
  rw [List.toList_toArray] at this
  exact this
theorem DevAt.alloc {B : Nat} {W : World} {b gn gs : Nat} {vp : Value} {st : St} (h : DevAt B W b gn gs vp st) (o : Obj) : DevAt B (W.alloc o) b gn gs vp st := h.off (ex := []) ((Off.refl _ W).alloc o) (by simp) (by simp) (by simp)
theorem DevAt.drew {B : Nat} {W : World} {b gn gs : Nat} {vp : Value} {st : St} (h : DevAt B W b gn gs vp st) : DevAt B W.drew b gn gs vp st := h.off (ex := []) ((Off.refl [] W).drew) (by simp) (by simp) (by simp)
theorem DevAt.rangeNow {B : Nat} {W : World} {b gn gs : Nat} {vp : Value} {st : St} (h : DevAt B W b gn gs vp st) (hl : ∀ x ∈ st.now, x.size = 64) {k : Nat} {x : ByteArray} (hk : st.now[k]? = some x) : W.rangeAt gn (k * 64) (sec x) :=
  range_of_flat sec 64 (R := []) (fun s hs => by rw [sec_length]; exact hl s hs) hk (w := W) (b := gn) (T := 79) (fr := (0, 0)) (by rw [List.append_nil]; exact h.nw)
theorem DevAt.rangeSafe {B : Nat} {W : World} {b gn gs : Nat} {vp : Value} {st : St} (h : DevAt B W b gn gs vp st) (hl : ∀ x ∈ st.safe, x.size = 64) {k : Nat} {x : ByteArray} (hk : st.safe[k]? = some x) : W.rangeAt gs (k * 64) (sec x) :=
  range_of_flat sec 64 (R := []) (fun s hs => by rw [sec_length]; exact hl s hs) hk (w := W) (b := gs) (T := 79) (fr := (0, 0)) (by rw [List.append_nil]; exact h.sf)
theorem there_flat {W : World} {g : Nat} {l : List ByteArray} (hb : W.heap[g]? = some (.cells (flat l).toArray 79 (0, 0))) (hl : ∀ x ∈ l, x.size = 64) {k : Nat} (hk : k < l.length) : W.there g (k * 64) 64 := there_of_block hb _ _ (by
  rw [List.size_toArray, flat, flat_len sec 64 _ (fun x hx => by rw [sec_length]; exact hl x hx)]
  have : (k + 1) * 64 ≤ l.length * 64 := Nat.mul_le_mul_right _ hk
  omega)
def flushSt (st : St) : St := { st with safe := st.now, pend := [] }
def FlushPost (B b : Nat) (st : St) (w : World) (e : Ending) (w' : World) : Prop := e = .returned (.int .i64 (if goneB st = true then 13 else 0)) ∧ Dev B w' b (if goneB st = true then st else flushSt st) ∧ Below B w w' ∧ Off devTs w w'
theorem DevAt.noPend {B : Nat} {W : World} {b gn gs : Nat} {vp : Value} {st : St} (h : DevAt B W b gn gs vp st) : DevAt B (W.setCell ⟨b, 2, none⟩ (.slice none 0 0)) b gn gs (.slice none 0 0) { st with pend := [] } :=
  h.newPend (ps := []) rfl rfl rfl ⟨rfl, Or.inl ⟨rfl, rfl⟩⟩
set_option maxHeartbeats 4000000 in
set_option maxRecDepth 100000 in
theorem flush_ok (B b : Nat) (st : St) (w : World) (h : Dev B w b st) (hg : Good st) (hp : st.pend.length ≤ 1000000) (hn0 : goneB st = false) (hB : B ≤ w.heap.size) :
    Calls Try.prog 34 #[.pointer (some ⟨b, 0, none⟩)] w (fun e w' => e = .returned (.int .i64 0) ∧ Dev B w' b (flushSt st) ∧ Below B w w' ∧ Off devTs w w') := by
  obtain ⟨gn, gs, vp, h⟩ := h
  obtain ⟨c0, c1, c2, c3, c4⟩ := h.cells
  have cG := gone_c b _ _ w c3 c4
  unfold goneB at hn0
  rw [hn0] at cG
  have HD := Lib.hid h
  have HG := Lib.hid hg
  obtain ⟨n, hn⟩ : ∃ n, st.now.length = n := ⟨_, rfl⟩
  have HN := Lib.hid hn
  obtain ⟨m, hm⟩ : ∃ m, st.pend.length = m := ⟨_, rfl⟩
  have HM := Lib.hid hm
  obtain ⟨ap, cap, hvp⟩ := h.vp
  rw [hm] at hvp hp
  subst hvp
  have hzw := zero_wr
  have hu61 := Try.underlying79
  clear h hg hn0 hn hm c0 c1 c3 c4
  go_enter Try.func34, Try.ntmps34
  go_wp2_with fail
  refine cG.mono ?_
  rintro e w2 ⟨rfl, rfl⟩
  go_wp2_with fail
  clear c2 cG
  go_loopw [14] (fun iv wr => ∃ j : Nat, j ≤ m ∧ iv = .int .i64 j ∧ DevAt B wr b gn gs (.slice ap m cap) { st with safe := setFrom st.now (st.pend.take j) st.safe } ∧ Below B w wr ∧ Off devTs w wr) (fun iv _ => m - (intOf iv).toNat)
  case atStart => exact ⟨0, by omega, rfl, HD.out, Below.refl _ _, Off.refl _ _⟩
  case round =>
    obtain ⟨j, hj, rfl, hd, hb, ho⟩ := hrel
    have HDj := Lib.hid hd
    have HBj := Lib.hid hb
    have HOj := Lib.hid ho
    clear hd hb ho
    by_cases hjm : j < m
    · have hjz : (j : Int) < (m : Int) := by omega
      obtain ⟨p, hpj⟩ : ∃ p, st.pend[j]? = some p := ⟨_, List.getElem?_eq_getElem (by have := HM.out; omega)⟩
      have hpm := List.mem_of_getElem? hpj
      rcases p with ⟨k, s⟩
      obtain ⟨hpk, hps⟩ := HG.out.pnd _ hpm
      simp only at hpk hps
      obtain ⟨gp, cp, hv, hld⟩ := load_wr HDj.out.pd (fun q hq => (HG.out.pnd q hq).2) hpj
      have hv2 : ap = some ⟨gp, 0, none⟩ := by injection hv
      subst hv2
      have HLD := Lib.hid hld
      have hst := store_wr wr (k, s) hps
      have HPJ := Lib.hid hpj
      have hwl : (wrc (k, s)).length = 65 := wrc_length (p := (k, s)) hps
      have HD1 : Hid (DevAt B (wr.alloc (.cells (wrc (k, s)).toArray 81)) b gn gs (.slice (some ⟨gp, 0, none⟩) m cap) { st with safe := setFrom st.now (st.pend.take j) st.safe }) := Lib.hid (HDj.out.alloc _)
      have HB1 : Hid (Below B w (wr.alloc (.cells (wrc (k, s)).toArray 81))) := Lib.hid (HBj.out.alloc (Nat.le_trans hB HBj.out.size) _)
      have HO1 : Hid (Off devTs w (wr.alloc (.cells (wrc (k, s)).toArray 81))) := Lib.hid (HOj.out.alloc _)
      have HT1 : Hid ((wr.alloc (.cells (wrc (k, s)).toArray 81)).heap[wr.heap.size]? = some (.cells (wrc (k, s)).toArray 81 (0, 0))) := Lib.hid (heap_alloc_new _ _)
      obtain ⟨x, hx⟩ : ∃ x, st.now[k]? = some x := ⟨_, List.getElem?_eq_getElem hpk⟩
      have hxs := HG.out.szn x (List.mem_of_getElem? hx)
      have hsl : (sec x).length = 64 := by rw [sec_length, hxs]
      have hi61 : (Try.prog.info? 79).map (·.size) = some (sec x).length := by rw [hsl]; exact Try.infoSecS
      have hone : ∀ v ∈ sec x, v.oneCell' = true := sec_one x
      have HX := Lib.hid hx
      have HXS := Lib.hid hxs
      have hpk' : k < n := by have := HN.out; omega
      have hkz : (k : Int) < (n : Int) := by omega
      clear hv hld hpj hpm hpk hx hxs
      go_upto_region 6 with (first | ((with_reducible refine wpL_load 81 _ (.pointer (some ⟨gp, j * 65, none⟩)) (.agg (wrc (k, s)).toArray) ?_ ?_ ?_); exact rfl; exact HLD.out))
      clear hst HLD
      generalize wr.heap.size = t at *
      generalize wr.alloc (.cells (wrc (k, s)).toArray 81) = W1 at *
      have hct : W1.cell? ⟨t, 0, none⟩ = some (.int .i64 k) := by rw [cell_of_row W1 t _ _ _ _ HT1.out]; rfl
      obtain ⟨c0, c1, c2, c3, c4⟩ := HD1.out.cells
      simp only at c0 c1
      rw [HN.out] at c0 c1
      have HSZ : Hid (∀ x ∈ setFrom st.now (st.pend.take j) st.safe, x.size = 64) := Lib.hid (setFrom_size (fun q hq => (HG.out.pnd q (List.mem_of_mem_take hq)).1) HG.out.szn HG.out.szs)
      have HLN : Hid ((setFrom st.now (st.pend.take j) st.safe).length = n) := Lib.hid (by rw [setFrom_len, HG.out.same, HN.out])
      have r1 := HD1.out.rangeNow HG.out.szn HX.out
      have t1 := there_flat HD1.out.sf HSZ.out (k := k) (by rw [HLN.out]; exact hpk')
      have hbg : b ≠ gs := block_ne HD1.out.hd HD1.out.sf (by decide)
      have htg : t ≠ gs := block_ne HT1.out HD1.out.sf (by decide)
      have hgg : gn ≠ gs := HD1.out.ne
      have HK : Hid (∀ W : World, (W.cell? ⟨b, 0, none⟩ = some (.slice (some ⟨gn, 0, none⟩) n n) ∧ W.cell? ⟨b, 1, none⟩ = some (.slice (some ⟨gs, 0, none⟩) n n) ∧ W.cell? ⟨t, 0, none⟩ = some (.int .i64 k) ∧ W.rangeAt gn (k * 64) (sec x) ∧ W.there gs (k * 64) 64) → ((W.setCells gs (k * 64) (sec x)).cell? ⟨b, 0, none⟩ = some (.slice (some ⟨gn, 0, none⟩) n n) ∧ (W.setCells gs (k * 64) (sec x)).cell? ⟨b, 1, none⟩ = some (.slice (some ⟨gs, 0, none⟩) n n) ∧ (W.setCells gs (k * 64) (sec x)).cell? ⟨t, 0, none⟩ = some (.int .i64 k) ∧ (W.setCells gs (k * 64) (sec x)).rangeAt gn (k * 64) (sec x) ∧ (W.setCells gs (k * 64) (sec x)).there gs (k * 64) 64)) := Lib.hid (fun W hW =>
        ⟨by rw [World.cell?_setCells_out gs _ _ _ _ (fun e => absurd e hbg)]; exact hW.1, by rw [World.cell?_setCells_out gs _ _ _ _ (fun e => absurd e hbg)]; exact hW.2.1, by rw [World.cell?_setCells_out gs _ _ _ _ (fun e => absurd e htg)]; exact hW.2.2.1, World.rangeAt_setCells_apart hW.2.2.2.1 _ _ _ (Or.inl hgg), World.there_setCells hW.2.2.2.2 _ _ _⟩)
      have HDE : Hid (DevAt B (W1.drew.setCells gs (k * 64) (sec x)) b gn gs (.slice (some ⟨gp, 0, none⟩) m cap) { st with safe := setFrom st.now (st.pend.take (j + 1)) st.safe }) := Lib.hid (by
        rw [take_snoc HPJ.out, setFrom_snoc, show st.now.getD k ⟨#[]⟩ = x by rw [List.getD_eq_getElem?_getD, HX.out]; rfl]
        exact HD1.out.drew.wsafe HSZ.out (by rw [HLN.out]; exact hpk') HXS.out)
      have HBE : Hid (Below B w (W1.drew.setCells gs (k * 64) (sec x))) := Lib.hid (Below.setCells HB1.out.drew HD1.out.hgs _ _)
      have HOE : Hid (Off devTs w (W1.drew.setCells gs (k * 64) (sec x))) := Lib.hid (Off.setCells HO1.out.drew (b := gs) (C := (flat (setFrom st.now (st.pend.take j) st.safe)).toArray) HD1.out.sf (by simp) _)
      clear c2 c3 c4
      go_region_held3 (fun w' => w'.cell? ⟨b, 0, none⟩ = some (.slice (some ⟨gn, 0, none⟩) n n) ∧ w'.cell? ⟨b, 1, none⟩ = some (.slice (some ⟨gs, 0, none⟩) n n) ∧ w'.cell? ⟨t, 0, none⟩ = some (.int .i64 k) ∧ w'.rangeAt gn (k * 64) (sec x) ∧ w'.there gs (k * 64) 64) (first | assumption | exact HK.out _ (by assumption) | exact ⟨c0, c1, hct, r1, t1⟩) (fail)
      rename_i hHeld
      clear hHeld HK c0 c1 hct r1 t1
      go_wp2
      go_roundw
      case rel => exact ⟨j + 1, by omega, by first | rfl | go_num, HDE.out, HBE.out, HOE.out⟩
      case measure => simp [intOf]; omega
    · have hge : ¬ ((j : Int) < (m : Int)) := by omega
      have hjm2 : j = m := by omega
      subst hjm2
      obtain ⟨c0, c1, c2, c3, c4⟩ := HDj.out.cells
      have f2 := HDj.out.frozen 2
      have HDE : Hid (DevAt B (wr.setCell ⟨b, 2, none⟩ (.slice none 0 0)) b gn gs (.slice none 0 0) (flushSt st)) := Lib.hid (by
        have h9 := HDj.out.noPend
        rw [List.take_of_length_le (by have := HM.out; omega), setFrom_all (fun q hq => (HG.out.pnd q hq).1) HG.out.same.symm HG.out.off] at h9
        exact h9)
      have HBE : Hid (Below B w (wr.setCell ⟨b, 2, none⟩ (.slice none 0 0))) := Lib.hid (HBj.out.setCell (p := ⟨b, 2, none⟩) HDj.out.hb _)
      have HOE : Hid (Off devTs w (wr.setCell ⟨b, 2, none⟩ (.slice none 0 0))) := Lib.hid (HOj.out.setCell HDj.out.hd (by simp) _)
      clear c0 c1 c3 c4
      go_wp2
      go_ret
      exact ⟨rfl, ⟨gn, gs, _, HDE.out⟩, HBE.out, HOE.out⟩
set_option maxHeartbeats 2000000 in
theorem flush_c (B b : Nat) (st : St) (w : World) (h : Dev B w b st) (hg : Good st) (hp : st.pend.length ≤ 1000000) (hB : B ≤ w.heap.size) :
    Calls Try.prog 34 #[.pointer (some ⟨b, 0, none⟩)] w (FlushPost B b st w) := by
  unfold FlushPost
  cases hgo : goneB st
  · rw [if_neg (by decide), if_neg (by decide)]
    exact flush_ok B b st w h hg hp hgo hB
  · rw [if_pos rfl, if_pos rfl]
    have HD := Lib.hid h
    obtain ⟨gn, gs, vp, h⟩ := h
    obtain ⟨c0, c1, c2, c3, c4⟩ := h.cells
    have cG := gone_c b _ _ w c3 c4
    unfold goneB at hgo
    rw [hgo] at cG
    clear h hg hgo
    go_enter Try.func34, Try.ntmps34
    go_wp2_with fail
    refine cG.mono ?_
    rintro e w2 ⟨rfl, rfl⟩
    go_wp2
    go_ret
    exact ⟨rfl, HD.out, Below.refl _ _, Off.refl _ _⟩
end Go.Proofs.Ytmpfdmjbgabcdaa
