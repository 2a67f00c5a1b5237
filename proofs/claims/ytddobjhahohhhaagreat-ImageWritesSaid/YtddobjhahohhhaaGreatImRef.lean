/-
  What the reference answers: a tree's image.
-/
import Derived.Test.YtddobjhahohhhaaGreatImNum
import Derived.Test.YtddobjhahohhhaaGreatImTree
import Derived.Test.YtddobjhahohhhaaGreatImEnc
import Derived.Test.YtddobjhahohhhaaGreatR10Own
import Derived.Lib.AppendStr
import Derived.Lib.ConvBytes
import Derived.StillTailTactics
namespace Go.Proofs.YtddobjhahohhhaaGreat
open Go.RowKit Go.Sort
set_option linter.unusedVariables false
set_option linter.unusedSimpArgs false

def byteF (x : UInt8) : List Value := [.int .u8 x.toNat]
theorem byteF_len (l : List UInt8) : ∀ x ∈ l, (byteF x).length = 1 := fun _ _ => rfl
theorem byteF_one (l : List UInt8) : ∀ x ∈ l, ∀ u ∈ byteF x, u.oneCell' = true := fun x _ u hu => by
  unfold byteF at hu
  rw [List.mem_singleton] at hu
  subst hu
  rfl
theorem byteF_flat (l : List UInt8) : l.flatMap byteF = Lib.byteCells l := by
  unfold Lib.byteCells byteF
  induction l with
  | nil => rfl
  | cons x l ih => rw [List.flatMap_cons, ih]; rfl
theorem byteE : ElemOf Tryz.prog 41 5 1 :=
  ⟨Tryz.underlying41, by
    obtain ⟨i0, h1, h2, h3, h4⟩ := info_parts infoByteIm
    exact ⟨i0, _, 1, h1, h2, h3, h4, rfl, by decide⟩, by decide⟩
abbrev BytesIs := @LstIs UInt8 byteF 1
/-- A row of another type than bytes stays when bytes are appended. -/
theorem row_app {w w' : World} {B B' c n m : Nat} {T0 : TypeId} {v v0 : Value} {xs ys : List Value} (h : w.ownsRow B' T0 c v0 m ys) (ho : w.ownsRow B 5 1 v n xs) (hg : w.grownBy w' v.ownBlock) (hT : T0 ≠ 5) : w'.ownsRow B' T0 c v0 m ys :=
  ownsRow_same h fun g hg' => hg.block g (h.lt g hg').2 fun e => by
    obtain ⟨cur, h1⟩ := ownsRow_typ h hg'
    obtain ⟨cur2, h2⟩ := ownsRow_typ ho e.symm
    rw [h1] at h2
    injection h2 with h2
    injection h2 with _ h3 _
    exact hT h3
theorem row_below {w w' : World} {B c n : Nat} {T0 : TypeId} {v : Value} {xs : List Value} (h : w.ownsRow B T0 c v n xs) (hb : Below w.heap.size w w') : w'.ownsRow B T0 c v n xs := ownsRow_same h fun g hg => hb.block g (h.lt g hg).2
/-- Within Image: the tree (its copy), the directories, the entries, what was appended. -/
structure ImgW (w : World) (bO : Nat) (rv : Value) (nx : Int) (dv : Value) (ds : List Int) (ev : Value) (es : List Ent) (u : List UInt8) (v : Value) (W : World) : Prop where
  d : W.heap[bO]? = some (.cells #[rv, .int .i64 nx] 28 (0, 0))
  ds : W.ownsRow bO 3 1 dv ds.length (ds.flatMap numC)
  es : W.ownsRow bO 84 5 ev es.length (es.flatMap entC)
  own : W.ownsRow (bO + 1) 5 1 v u.length (Lib.byteCells u)
  b : Below bO w W
  lt : bO + 1 ≤ W.heap.size
section
variable {w W W' : World} {bO : Nat} {rv : Value} {nx : Int} {dv : Value} {ds : List Int} {ev : Value} {es : List Ent} {u : List UInt8} {v : Value}
theorem ImgW.below (h : ImgW w bO rv nx dv ds ev es u v W) (hb : Below W.heap.size W W') : ImgW w bO rv nx dv ds ev es u v W' :=
  ⟨(hb.block _ (by have := h.lt; omega)).trans h.d, row_below h.ds hb, row_below h.es hb, row_below h.own hb, h.b.trans (hb.mono (by have := h.lt; omega)), Nat.le_trans h.lt hb.size⟩
theorem ImgW.app (h : ImgW w bO rv nx dv ds ev es u v W) {v' : Value} {n : Nat} {cs : List Value} (l : List UInt8) (ho : W'.ownsRow (bO + 1) 5 1 v' n cs) (hg : W.grownBy W' v.ownBlock) (hn : n = (u ++ l).length) (hc : cs = Lib.byteCells (u ++ l)) : ImgW w bO rv nx dv ds ev es (u ++ l) v' W' := by
  subst hn
  subst hc
  have hlt := h.lt
  refine ⟨(hg.block _ (by omega) (fun e => by have := (h.own.lt bO e.symm).1; omega)).trans h.d, row_app h.ds h.own hg (by decide), row_app h.es h.own hg (by decide), ho, h.b.grown hg (by omega) (fun k hk => by have := (h.own.lt k hk).1; omega), Nat.le_trans h.lt hg.size⟩
theorem ImgW.lst (h : ImgW w bO rv nx dv ds ev es u v W) {v' : Value} {l : List UInt8} (ho : W'.ownsRow (bO + 1) 5 1 v' (u.length + l.length) (Lib.byteCells u ++ l.flatMap byteF)) (hg : W.grownBy W' v.ownBlock) : ImgW w bO rv nx dv ds ev es (u ++ l) v' W' :=
  h.app l ho hg List.length_append.symm (by rw [byteF_flat]; simp [Lib.byteCells])
theorem ImgW.num (h : ImgW w bO rv nx dv ds ev es u v W) (z kk : Int) (k : Nat) (hk : kk = (k : Int)) (hk8 : k ≤ 8) (hk1 : 1 ≤ k) (hz : 0 ≤ z ∧ z ≤ 9223372036854775807) :
    Calls Tryz.prog 29 #[.int .i64 z, .int .i64 kk] W fun e w' => ∃ v2, e = .returned v2 ∧ BytesIs w' v2 (beB z.toNat k) ∧ ImgW w bO rv nx dv ds ev es u v w' := by
  subst hk
  have h9 := num12_c z.toNat k W (by omega) hk8 hk1
  rw [show ((z.toNat : Nat) : Int) = z by omega] at h9
  refine h9.mono ?_
  rintro e w' ⟨v2, rfl, ho, hb⟩
  rw [← byteF_flat] at ho
  exact ⟨v2, rfl, LstIs.own (byteF_len _) ho (beB_len _ _).symm, h.below hb⟩
theorem ImgW.al (h : ImgW w bO rv nx dv ds ev es u v W) (o : Obj) : ImgW w bO rv nx dv ds ev es u v (W.alloc o) := h.below ((Below.refl _ _).alloc (Nat.le_refl _) _)
theorem ImgW.cells (h : ImgW w bO rv nx dv ds ev es u v W) : W.cell? ⟨bO, 0, none⟩ = some rv ∧ W.cell? ⟨bO, 1, none⟩ = some (.int .i64 nx) := ⟨Lib.cell_of_heap h.d 0, Lib.cell_of_heap h.d 1⟩
end
theorem one_byte (W : World) (x : UInt8) (z : Int) (hz : z = (x.toNat : Int)) : BytesIs (W.alloc (.cells #[.int .u8 z] 5)) (.slice (some ⟨W.heap.size, 0, none⟩) 1 1) [x] := by
  subst hz
  exact LstIs.block (byteF_len _) (heap_alloc_new _ _)
theorem beB_one (n : Nat) : beB n 1 = [UInt8.ofNat n] := by simp [beB]
theorem addr_addI (g off j : Nat) : (⟨g, off, none⟩ : Addr).add j = ⟨g, off + j, none⟩ := by
  simp [Addr.add]
theorem ownB_cell {B g n cap : Nat} {w : World} {xs : List UInt8} (h : w.ownsRow B 5 1 (.slice (some ⟨g, 0, none⟩) n cap) xs.length (Lib.byteCells xs)) {j : Nat} (hj : j < xs.length) : w.cell? ⟨g, j, none⟩ = some (.int .u8 ((xs.getD j 0).toNat : Int)) := by
  rcases h.2 with ⟨hv, _⟩ | ⟨g', cap', cur, hv, hg, hb, h1, h2, h3, h4⟩
  · cases hv
  · injection hv with hv _ _
    injection hv with hv
    injection hv with hv _ _
    subst hv
    rw [Lib.cell_of_heap hb, ← Array.getElem?_toList]
    have := congrArg (·[j]?) h4
    simp only [Nat.mul_one, List.getElem?_take, if_pos hj] at this
    rw [this]
    simp [Lib.byteCells, List.getElem?_eq_getElem hj, List.getD_eq_getElem?_getD]
theorem ownB_text {B g n cap : Nat} {w : World} {xs : List UInt8} (h : w.ownsRow B 5 1 (.slice (some ⟨g, 0, none⟩) n cap) xs.length (Lib.byteCells xs)) (hn : xs.length = n) : (convert 41 9 (.slice (some ⟨g, 0, none⟩) n cap)).run Tryz.prog w = .ok (.string ⟨xs.toArray⟩) w := by
  subst hn
  refine run_convert_bytes_back (P := Tryz.prog) w 41 9 5 ⟨g, 0, none⟩ cap xs Tryz.underlying41 Tryz.underlying5 Tryz.underlying9 (fun j hj => ?_)
  rw [addr_addI, Nat.zero_add, ownB_cell h hj]
  simp [List.getD_eq_getElem?_getD, List.getElem?_eq_getElem hj]
theorem ownB_form {B : Nat} {w : World} {v : Value} {l : List UInt8} (h : w.ownsRow B 5 1 v l.length (Lib.byteCells l)) (hn : l ≠ []) : ∃ g cap, v = .slice (some ⟨g, 0, none⟩) l.length cap := by
  rcases h.2 with ⟨_, h0⟩ | ⟨g, cap, cur, hv, _⟩
  · exact absurd (List.eq_nil_of_length_eq_zero h0) hn
  · exact ⟨g, cap, hv⟩
abbrev nilS : Value := .slice none 0 0
set_option maxHeartbeats 8000000 in
set_option maxRecDepth 100000 in
theorem image12_c (rv : Value) (l : List Itm) (nx : Int) (w : World) (hv : ItmsT w rv l) (hg : GoodT l nx) (hx : nx ≤ 9223372036854775807) :
    Calls Tryz.prog 10 #[treeV rv nx] w fun e w' => e = .returned (.string ⟨(imgI l nx).toArray⟩) ∧ Below w.heap.size w w' := by
  obtain ⟨i0, gi0, gz0, gz1, gz2⟩ := info_parts infoByteIm
  have hll := hg.len
  have hnx := hg.nx1
  have hshort := img_short hg
  obtain ⟨ar, cr, rfl⟩ := hv.1.len
  obtain ⟨L, hL⟩ : ∃ L, imgI l nx = L := ⟨_, rfl⟩
  have HFIT : Hid (∀ d ∈ dirsOf l, DirFit d) := Lib.hid fun d hd => own_fit hg hx hd
  have HKD : Hid (∀ q ∈ dirsI l, kindI l q = 2) := Lib.hid fun q hq => (dirsI_mem.1 hq).2
  have HRG : Hid (∀ q ∈ dirsI l, 0 ≤ q ∧ q ≤ 200) := Lib.hid fun q hq => dirsI_range hq
  rw [hL] at hshort ⊢
  unfold imgI imgB at hL
  have hdl : (dirsOf l).length = (dirsI l).length := by unfold dirsOf; rw [List.length_map]
  rw [hdl] at hL
  obtain ⟨n, hn⟩ : ∃ n, (dirsI l).length = n := ⟨_, rfl⟩
  have hn1 : n ≤ 201 := by rw [← hn]; exact dirsTo_le l 201
  rw [hn] at hL
  have hlen := congrArg List.length hL
  simp only [List.length_append, beB_len] at hlen
  have HL := Lib.hid hL
  have HN := Lib.hid hn
  have HLEN : Hid (((dirsOf l).flatMap dirsB).length ≤ 60000) := Lib.hid (by omega)
  obtain ⟨nl, hnl⟩ : ∃ nl, l.length = nl := ⟨_, rfl⟩
  have HNL := Lib.hid hnl
  rw [hnl] at hv hll ⊢
  have cD := fun W (h : ItmsT W (.slice ar nl cr) l) => dirs10T_c (.slice ar nl cr) l nx W h (by omega)
  have cL := fun q W (h : ItmsT W (.slice ar nl cr) l) => list10T_c (.slice ar nl cr) l nx q W h.1 (by omega)
  unfold DirsOwn treeV at cD
  unfold ListOwn treeV at cL
  simp only [hn] at cD
  have HIT : Hid (∀ W, Below w.heap.size w W → ItmsT W (.slice ar nl cr) l) := Lib.hid fun W hW => hv.kept (Below.mono hW (Nat.le_refl _))
  have HB0 : Hid (Below w.heap.size w (w.alloc (.cells #[.slice ar nl cr, .int .i64 nx] 28))) := Lib.hid ((Below.refl _ _).alloc (Nat.le_refl _) _)
  have HD0 : Hid ((w.alloc (.cells #[.slice ar nl cr, .int .i64 nx] 28)).heap[w.heap.size]? = some (.cells #[.slice ar nl cr, .int .i64 nx] 28 (0, 0))) := Lib.hid (heap_alloc_new _ _)
  have HS0 : Hid ((w.alloc (.cells #[.slice ar nl cr, .int .i64 nx] 28)).heap.size = w.heap.size + 1) := Lib.hid (by simp)
  have hss : ∀ s : ByteArray, s.data.toList.length = s.size := fun s => Array.length_toList
  unfold treeV
  clear hv hg hshort hL hdl hlen hn hnl
  go_enter Tryz.func10, Tryz.ntmps10
  go_upto_region 1 with fail
  generalize (w.alloc (.cells #[.slice ar nl cr, .int .i64 nx] 28)) = W0 at *
  generalize hbO : w.heap.size = bO at *
  have HBO := Lib.hid hbO
  clear hbO
  obtain ⟨⟨t0, t1⟩, _⟩ := two_cells HD0.out
  have cN0 := num12_c nx.toNat 8 W0 (by omega) (by omega) (by omega)
  rw [show ((nx.toNat : Nat) : Int) = nx by omega] at cN0
  unfold NumPost at cN0
  obtain ⟨U0, hU0⟩ : ∃ U0, beB nx.toNat 8 = U0 := ⟨_, rfl⟩
  have hl0 : U0.length ≤ 8 := by rw [← hU0, beB_len]; exact Nat.le_refl _
  have HL0 : Hid (U0.length = 8) := Lib.hid (by rw [← hU0, beB_len])
  rw [hU0] at cN0
  have HU0 := Lib.hid hU0
  clear hU0
  go_upto_region 2 with (go_at_call 29; refine cN0.mono ?_; rintro e w1 ⟨v1, rfl, ho0, hb1⟩; have ho1 : w1.ownsRow W0.heap.size 5 1 v1 U0.length (Lib.byteCells U0) := (by rw [HL0.out]; exact ho0); clear ho0; obtain ⟨a1, c1, hv1⟩ := ownsRow_slice ho1; subst hv1)
  have HI : Hid (ImgW w bO (.slice ar nl cr) nx nilS [] nilS [] U0 (.slice a1 U0.length c1) w1) := Lib.hid
    ⟨(hb1.block bO (lt_of_get HD0.out)).trans HD0.out, World.ownsRow_nil _ _ _ _, World.ownsRow_nil _ _ _ _, own_mono ho1 (by rw [HS0.out]; exact Nat.le_refl _), HB0.out.trans (hb1.mono (by rw [HS0.out]; omega)), by have := hb1.size; have := HS0.out; omega⟩
  clear ho1 hb1 cN0 t0 t1 HD0 HB0 HS0
  obtain ⟨t0, t1⟩ := HI.out.cells
  go_upto_region 3 with (go_at_call 30; refine (cD _ (HIT.out _ HI.out.b)).mono ?_; rintro e w2 ⟨v2, rfl, ho2, hb2⟩; obtain ⟨a2, c2, hv2⟩ := ownsRow_slice ho2; subst hv2)
  have HI : Hid (ImgW w bO (.slice ar nl cr) nx (.slice a2 n c2) (dirsI l) nilS [] U0 (.slice a1 U0.length c1) w2) := Lib.hid (by
    have h9 := HI.out.below hb2
    exact ⟨h9.d, by rw [HN.out]; exact own_mono ho2 (by have := HI.out.lt; omega), h9.es, h9.own, h9.b, h9.lt⟩)
  clear ho2 hb2 cD t0 t1
  go_upto_region 4 with (first
    | (go_at_call 29; (with_reducible refine (HI.out.num ((n : Int)) 2 2 rfl (by omega) (by omega) (by omega)).mono ?_); rintro e w9 ⟨v9, rfl, hs9, hi9⟩; obtain ⟨a9, c9, hv9⟩ := hs9.len; have HI := Lib.hid hi9; have HS := Lib.hid hs9; clear hi9 hs9; subst hv9)
    | (at_builtin; refine wpList_append_lst byteE rfl _ _ rfl (bO + 1) _ _ _ rfl HI.out.own _ (beB (Int.toNat (n : Int)) 2) (byteF_len _) (byteF_one _) rfl HS.out (by simp only [List.length_append, beB_len, List.length_singleton, List.length_nil, hss]; omega) HI.out.lt ?_; intro v9 W9 ho9 hg9 _; have hi9 := HI.out.lst ho9 hg9; obtain ⟨U1, hU1⟩ : ∃ U, U0 ++ (beB (Int.toNat (n : Int)) 2) = U := ⟨_, rfl⟩; rw [hU1] at hi9; have hlU1 : U1.length ≤ U0.length + 2 := Nat.le_of_eq (by (rw [← hU1]; simp only [List.length_append, beB_len, List.length_singleton, List.length_nil, hss])); obtain ⟨a9, c9, hv9⟩ := ownsRow_slice hi9.own; have HI := Lib.hid hi9; have HUU1 := Lib.hid hU1; subst hv9; clear ho9 hg9 hi9 hU1))
  have HU1P : Hid (U1 = beB nx.toNat 8 ++ beB n 2) := Lib.hid (by rw [← HUU1.out, ← HU0.out, Int.toNat_natCast])
  have HDC : Hid (∀ (W : World) (i : Nat) (q : Int) (u : List UInt8) (ev v : Value) (es : List Ent), ImgW w bO (.slice ar nl cr) nx (.slice a2 n c2) (dirsI l) ev es u v W → (dirsI l)[i]? = some q → ∃ g off, a2 = some ⟨g, off, none⟩ ∧ W.cell? ⟨g, off + i, none⟩ = some (.int .i64 q)) := Lib.hid fun W i q u ev v es h hq => by
    have hds := h.ds
    rw [HN.out] at hds
    obtain ⟨g, off, e1, _, hr⟩ := LstIs.at (LstIs.own (numC_len _) hds HN.out.symm) hq
    have h9 := num_at hr
    rw [Nat.mul_one] at h9
    exact ⟨g, off, e1, h9⟩
  go_wp2_with fail
  go_loopw [3, 5] (fun ov iv wr => ∃ i : Nat, i ≤ n ∧ iv = .int .i64 i ∧ ImgW w bO (.slice ar nl cr) nx (.slice a2 n c2) (dirsI l) nilS [] (beB nx.toNat 8 ++ beB n 2 ++ ((dirsOf l).take i).flatMap dirsB) ov wr) (fun _ iv _ => n - (intOf iv).toNat)
  case atStart => exact ⟨0, by omega, rfl, by rw [← HU1P.out, List.take_zero, List.flatMap_nil, List.append_nil]; exact HI.out⟩
  case round =>
    clear HI
    obtain ⟨i, hi, rfl, himg⟩ := hrel
    obtain ⟨P, hP⟩ : ∃ P, beB nx.toNat 8 ++ beB n 2 ++ ((dirsOf l).take i).flatMap dirsB = P := ⟨_, rfl⟩
    rw [hP] at himg
    obtain ⟨a3, c3, hv3⟩ := ownsRow_slice himg.own
    subst hv3
    have HI := Lib.hid himg
    clear himg
    by_cases him : i < n
    · have hiz : (i : Int) < (n : Int) := by omega
      have hi0 : (0 : Int) ≤ (i : Int) := by omega
      obtain ⟨q, hq⟩ : ∃ q, (dirsI l)[i]? = some q := ⟨_, List.getElem?_eq_getElem (by rw [HN.out]; omega)⟩
      have hqm := List.mem_of_getElem? hq
      have hqr := HRG.out q hqm
      have hle : listE l q = 0 := by unfold listE; rw [if_neg (by rw [HKD.out q hqm]; decide), if_neg (by rw [HKD.out q hqm]; decide)]
      have hli : listI l q = entsI l q := by unfold listI; rw [if_pos hle]
      have cLq := cL q
      rw [hle, hli] at cLq
      have hd : (dirsOf l)[i]? = some (q, entsI l q) := by
        unfold dirsOf
        rw [List.getElem?_map, hq]
        rfl
      have HFX := Lib.hid (HFIT.out _ (List.mem_of_getElem? hd))
      have HTK := Lib.hid (flatB_take (f := dirsB) hd)
      have hle2 := flatB_take_le dirsB (dirsOf l) (i + 1)
      rw [HTK.out, List.length_append] at hle2
      have HPL : Hid (P.length + (dirsB (q, entsI l q)).length ≤ 60010) := Lib.hid (by
        have := HLEN.out
        rw [← hP]
        simp only [List.length_append, beB_len]
        omega)
      have HDB : Hid (P ++ (beB q.toNat 2 ++ (beB (entsI l q).length 2 ++ (entsI l q).flatMap entY)) = beB nx.toNat 8 ++ beB n 2 ++ ((dirsOf l).take (i + 1)).flatMap dirsB) := Lib.hid (by
        rw [HTK.out, ← hP]
        unfold dirsB
        simp only [List.append_assoc])
      have hPl : P.length + 4 + ((entsI l q).flatMap entY).length ≤ 60010 := by
        have h9 := HPL.out
        unfold dirsB at h9
        simp only [List.length_append, beB_len] at h9
        omega
      have HPL2 := Lib.hid hPl
      have hPl2 : P.length ≤ 60006 := by omega
      obtain ⟨g, off, e2, _⟩ := HDC.out _ i q _ _ _ _ HI.out hq
      subst e2
      have HQC : Hid (∀ (W : World) (u : List UInt8) (ev v : Value) (es : List Ent), ImgW w bO (.slice ar nl cr) nx (.slice (some ⟨g, off, none⟩) n c2) (dirsI l) ev es u v W → W.cell? ⟨g, off + i, none⟩ = some (.int .i64 q)) := Lib.hid fun W u ev v es h => by
        obtain ⟨g', off', e1, h9⟩ := HDC.out W i q u ev v es h hq
        injection e1 with e1
        injection e1 with e1 e2 _
        subst e1
        subst e2
        exact h9
      obtain ⟨es, hes⟩ : ∃ es, entsI l q = es := ⟨_, rfl⟩
      rw [hes] at cLq HFX HDB HPL2 hPl
      obtain ⟨m, hm⟩ : ∃ m, es.length = m := ⟨_, rfl⟩
      have HM := Lib.hid hm
      have hm4 : m ≤ 200 := by
        have := entsI_le l q
        rw [hes] at this
        have := HNL.out
        omega
      simp only [hm] at cLq
      rw [hm] at HDB
      clear hP hd hle hli hle2 hq hqm hes hm hPl HTK HPL
      have HSK : Hid (∀ W, Below wr.heap.size wr W → W.cell? ⟨bO, 0, none⟩ = some (.slice ar nl cr) ∧ W.cell? ⟨bO, 1, none⟩ = some (.int .i64 nx) ∧ W.cell? ⟨g, off + i, none⟩ = some (.int .i64 q)) := Lib.hid fun W hW => by
        have h9 := HI.out.below hW
        exact ⟨h9.cells.1, h9.cells.2, HQC.out _ _ _ _ _ h9⟩
      go_upto_region 7 with fail
      go_cut [6, 7] from 25 to 34 (fun v6 v7 wx => ∃ a4 c4, v6 = .slice a4 m c4 ∧ ImgW w bO (.slice ar nl cr) nx (.slice (some ⟨g, off, none⟩) n c2) (dirsI l) (.slice a4 m c4) es P (.slice a3 P.length c3) wx)
      case first =>
        have hs0 := HSK.out wr.drew (Below.refl _ _).drew
        go_region_held3 (fun W => W.cell? ⟨bO, 0, none⟩ = some (.slice ar nl cr) ∧ W.cell? ⟨bO, 1, none⟩ = some (.int .i64 nx) ∧ W.cell? ⟨g, off + i, none⟩ = some (.int .i64 q)) (first | assumption | exact ⟨hi4.cells.1, hi4.cells.2, HQC.out _ _ _ _ _ hi4⟩ | (refine HSK.out _ ?_; first | assumption | exact (Below.refl _ _).drew)) (first | (go_at_call 31; refine (cLq wr.drew (HIT.out _ (HI.out.below (Below.refl _ _).drew).b)).mono ?_; rintro e w4 ⟨v4, rfl, ho4, hb4⟩; obtain ⟨a4, c4, hv4⟩ := ownsRow_slice ho4; subst hv4; have hi4 : ImgW w bO (.slice ar nl cr) nx (.slice (some ⟨g, off, none⟩) n c2) (dirsI l) (.slice a4 m c4) es P (.slice a3 P.length c3) w4 := (by have h9 := (HI.out.below (Below.refl _ _).drew).below hb4; exact ⟨h9.d, h9.ds, by rw [HM.out]; exact own_mono ho4 (by have := (HI.out.below (Below.refl _ _).drew).lt; omega), h9.own, h9.b, h9.lt⟩)))
        all_goals
          go_wp2
          go_meet
          exact ⟨_, _, rfl, hi4⟩
      case rest =>
      obtain ⟨a4, c4, h6, himg⟩ := hcut
      subst h6
      have HI := Lib.hid himg
      clear himg cLq HSK
      have HEC : Hid (∀ (W : World) (k : Nat) (x : Ent) (u : List UInt8) (v : Value), ImgW w bO (.slice ar nl cr) nx (.slice (some ⟨g, off, none⟩) n c2) (dirsI l) (.slice a4 m c4) es u v W → es[k]? = some x → ∃ g off, a4 = some ⟨g, off, none⟩ ∧ W.rangeAt g (off + k * 5) (entC x)) := Lib.hid fun W k x u v h hx => by
        have hds := h.es
        rw [HM.out] at hds
        obtain ⟨g, off, e1, _, hr⟩ := LstIs.at (LstIs.own (entC_len _) hds HM.out.symm) hx
        exact ⟨g, off, e1, hr⟩
      have d0 := HQC.out _ _ _ _ _ HI.out
      go_upto_region 9 with (first
        | (go_at_call 29; (with_reducible refine (HI.out.num (q) 2 2 rfl (by omega) (by omega) (by omega)).mono ?_); rintro e w9 ⟨v9, rfl, hs9, hi9⟩; obtain ⟨a9, c9, hv9⟩ := hs9.len; have HI := Lib.hid hi9; have HS := Lib.hid hs9; clear hi9 hs9; subst hv9)
        | (at_builtin; refine wpList_append_lst byteE rfl _ _ rfl (bO + 1) _ _ _ rfl HI.out.own _ (beB q.toNat 2) (byteF_len _) (byteF_one _) rfl HS.out (by simp only [List.length_append, beB_len, List.length_singleton, List.length_nil, hss]; omega) HI.out.lt ?_; intro v9 W9 ho9 hg9 _; have hi9 := HI.out.lst ho9 hg9; obtain ⟨Uq, hUq⟩ : ∃ U, P ++ (beB q.toNat 2) = U := ⟨_, rfl⟩; rw [hUq] at hi9; have hlUq : Uq.length ≤ P.length + 2 := Nat.le_of_eq (by (rw [← hUq]; simp only [List.length_append, beB_len, List.length_singleton, List.length_nil, hss])); obtain ⟨a9, c9, hv9⟩ := ownsRow_slice hi9.own; have HI := Lib.hid hi9; have HUUq := Lib.hid hUq; subst hv9; clear ho9 hg9 hi9 hUq))
      go_upto_region 10 with (first
        | (go_at_call 29; (with_reducible refine (HI.out.num ((m : Int)) 2 2 rfl (by omega) (by omega) (by omega)).mono ?_); rintro e w9 ⟨v9, rfl, hs9, hi9⟩; obtain ⟨a9, c9, hv9⟩ := hs9.len; have HI := Lib.hid hi9; have HS := Lib.hid hs9; clear hi9 hs9; subst hv9)
        | (at_builtin; refine wpList_append_lst byteE rfl _ _ rfl (bO + 1) _ _ _ rfl HI.out.own _ (beB (Int.toNat (m : Int)) 2) (byteF_len _) (byteF_one _) rfl HS.out (by simp only [List.length_append, beB_len, List.length_singleton, List.length_nil, hss]; omega) HI.out.lt ?_; intro v9 W9 ho9 hg9 _; have hi9 := HI.out.lst ho9 hg9; obtain ⟨P2, hP2⟩ : ∃ U, Uq ++ (beB (Int.toNat (m : Int)) 2) = U := ⟨_, rfl⟩; rw [hP2] at hi9; have hlP2 : P2.length ≤ Uq.length + 2 := Nat.le_of_eq (by (rw [← hP2]; simp only [List.length_append, beB_len, List.length_singleton, List.length_nil, hss])); obtain ⟨a9, c9, hv9⟩ := ownsRow_slice hi9.own; have HI := Lib.hid hi9; have HUP2 := Lib.hid hP2; subst hv9; clear ho9 hg9 hi9 hP2))
      have HP2 : Hid (P ++ beB q.toNat 2 ++ beB m 2 = P2) := Lib.hid (by rw [← HUP2.out, ← HUUq.out, Int.toNat_natCast])
      have HP2L : Hid (P2.length + (es.flatMap entY).length ≤ 60010) := Lib.hid (by
        have := HPL2.out
        rw [← HP2.out]
        simp only [List.length_append, beB_len]
        omega)
      go_wp2_with fail
      go_loopw [3, 8] (fun ov kv wk => ∃ k : Nat, k ≤ m ∧ kv = .int .i64 k ∧ ImgW w bO (.slice ar nl cr) nx (.slice (some ⟨g, off, none⟩) n c2) (dirsI l) (.slice a4 m c4) es (P2 ++ (es.take k).flatMap entY) ov wk) (fun _ kv _ => m - (intOf kv).toNat)
      case atStart => exact ⟨0, by omega, rfl, by rw [List.take_zero, List.flatMap_nil, List.append_nil]; exact HI.out⟩
      case round =>
        clear HI
        obtain ⟨k, hk, rfl, himg⟩ := hrel
        obtain ⟨R, hR⟩ : ∃ R, P2 ++ (es.take k).flatMap entY = R := ⟨_, rfl⟩
        rw [hR] at himg
        obtain ⟨a5, c5, hv5⟩ := ownsRow_slice himg.own
        subst hv5
        have HI := Lib.hid himg
        clear himg
        by_cases hkm : k < m
        · have hkz : (k : Int) < (m : Int) := by omega
          have hk0 : (0 : Int) ≤ (k : Int) := by omega
          obtain ⟨x, hx⟩ : ∃ x, es[k]? = some x := ⟨_, List.getElem?_eq_getElem (by rw [HM.out]; omega)⟩
          obtain ⟨⟨f1, ⟨f2, f3⟩, ⟨f4, f5⟩, ⟨f6, f7⟩⟩, f8⟩ := HFX.out.ent (List.mem_of_getElem? hx)
          have HTK := Lib.hid (flatB_take (f := entY) hx)
          have hle2 := flatB_take_le entY es (k + 1)
          rw [HTK.out, List.length_append] at hle2
          have hRl : R.length ≤ 60010 := by
            have := HP2L.out
            rw [← hR, List.length_append]
            omega
          obtain ⟨T9, hT9⟩ : ∃ T9, P2 ++ (es.take (k + 1)).flatMap entY = T9 := ⟨_, rfl⟩
          have HT9 := Lib.hid hT9
          have HEY : Hid (R ++ entY x = T9) := Lib.hid (by rw [← hT9, HTK.out, ← hR, List.append_assoc])
          obtain ⟨g6, off6, e6, _⟩ := HEC.out _ k x _ _ HI.out hx
          subst e6
          have HXC : Hid (∀ (W : World) (u : List UInt8) (v : Value), ImgW w bO (.slice ar nl cr) nx (.slice (some ⟨g, off, none⟩) n c2) (dirsI l) (.slice (some ⟨g6, off6, none⟩) m c4) es u v W → W.cell? ⟨g6, off6 + k * 5, none⟩ = some (.string x.name) ∧ W.cell? ⟨g6, off6 + k * 5 + 1, none⟩ = some (.int .i64 x.node) ∧ W.cell? ⟨g6, off6 + k * 5 + 2, none⟩ = some (.bool x.dir) ∧ W.cell? ⟨g6, off6 + k * 5 + 3, none⟩ = some (.int .i64 x.cookie) ∧ W.cell? ⟨g6, off6 + k * 5 + 4, none⟩ = some (.int .i64 x.short)) := Lib.hid fun W u v h => by
            obtain ⟨g', off', e1, h9⟩ := HEC.out W k x u v h hx
            injection e1 with e1
            injection e1 with e1 e2 _
            subst e1
            subst e2
            exact ent_at h9
          obtain ⟨s, nd, dr, ck, sh⟩ := x
          simp only at f1 f2 f3 f4 f5 f6 f7 f8 HXC
          unfold entY nameB at HEY
          simp only at HEY
          rw [beB_one] at HEY
          have HSB : Hid ((s.size : Int) = ((UInt8.ofNat s.size).toNat : Int)) := Lib.hid (by rw [u8_of]; omega)
          clear hR hle2 hx HTK hT9
          obtain ⟨x0, x1, x2, x3, x4⟩ := HXC.out _ _ _ HI.out
          go_upto_region 14 with (at_builtin; refine wpList_append_lst byteE rfl _ _ rfl (bO + 1) _ _ _ rfl (HI.out.al _).own _ ([UInt8.ofNat s.size]) (byteF_len _) (byteF_one _) rfl (one_byte _ _ _ HSB.out) (by simp only [List.length_append, beB_len, List.length_singleton, List.length_nil, hss]; omega) (HI.out.al _).lt ?_; intro v9 W9 ho9 hg9 _; have hi9 := (HI.out.al _).lst ho9 hg9; obtain ⟨R1, hR1⟩ : ∃ U, R ++ ([UInt8.ofNat s.size]) = U := ⟨_, rfl⟩; rw [hR1] at hi9; have hlR1 : R1.length ≤ R.length + 1 := Nat.le_of_eq (by (rw [← hR1]; simp only [List.length_append, beB_len, List.length_singleton, List.length_nil, hss])); obtain ⟨a9, c9, hv9⟩ := ownsRow_slice hi9.own; have HI := Lib.hid hi9; have HUR1 := Lib.hid hR1; subst hv9; clear ho9 hg9 hi9 hR1)
          clear x0 x1 x2 x3 x4
          obtain ⟨x0, x1, x2, x3, x4⟩ := HXC.out _ _ _ HI.out
          go_upto_region 15 with (at_builtin; refine Lib.wpList_append_own_string _ rfl _ _ 41 9 rfl (bO + 1) 5 i0 Tryz.underlying41 Tryz.underlying9 gi0 gz0 gz1 gz2 _ _ _ rfl HI.out.own s rfl (by unfold maxLen; omega) (by omega) HI.out.lt ?_; intro v9 W9 ho9 hg9 _; have hi9 := HI.out.app s.data.toList ho9 hg9 (by rw [List.length_append, hss]) (by simp [Lib.byteCells, Lib.strCells]); obtain ⟨R2, hR2⟩ : ∃ U, R1 ++ (s.data.toList) = U := ⟨_, rfl⟩; rw [hR2] at hi9; have hlR2 : R2.length ≤ R1.length + s.size := Nat.le_of_eq (by (rw [← hR2]; simp only [List.length_append, beB_len, List.length_singleton, List.length_nil, hss])); obtain ⟨a9, c9, hv9⟩ := ownsRow_slice hi9.own; have HI := Lib.hid hi9; have HUR2 := Lib.hid hR2; subst hv9; clear ho9 hg9 hi9 hR2)
          clear x0 x1 x2 x3 x4
          obtain ⟨x0, x1, x2, x3, x4⟩ := HXC.out _ _ _ HI.out
          go_upto_region 16 with (first
            | (go_at_call 29; (with_reducible refine (HI.out.num (nd) 2 2 rfl (by omega) (by omega) (by omega)).mono ?_); rintro e w9 ⟨v9, rfl, hs9, hi9⟩; obtain ⟨a9, c9, hv9⟩ := hs9.len; have HI := Lib.hid hi9; have HS := Lib.hid hs9; clear hi9 hs9; subst hv9)
            | (at_builtin; refine wpList_append_lst byteE rfl _ _ rfl (bO + 1) _ _ _ rfl HI.out.own _ (beB nd.toNat 2) (byteF_len _) (byteF_one _) rfl HS.out (by simp only [List.length_append, beB_len, List.length_singleton, List.length_nil, hss]; omega) HI.out.lt ?_; intro v9 W9 ho9 hg9 _; have hi9 := HI.out.lst ho9 hg9; obtain ⟨R3, hR3⟩ : ∃ U, R2 ++ (beB nd.toNat 2) = U := ⟨_, rfl⟩; rw [hR3] at hi9; have hlR3 : R3.length ≤ R2.length + 2 := Nat.le_of_eq (by (rw [← hR3]; simp only [List.length_append, beB_len, List.length_singleton, List.length_nil, hss])); obtain ⟨a9, c9, hv9⟩ := ownsRow_slice hi9.own; have HI := Lib.hid hi9; have HUR3 := Lib.hid hR3; subst hv9; clear ho9 hg9 hi9 hR3))
          clear x0 x1 x2 x3 x4
          obtain ⟨x0, x1, x2, x3, x4⟩ := HXC.out _ _ _ HI.out
          cases dr with
          | true =>
            have HFB : Hid (((1 : Int)) = ((UInt8.ofNat (boolN true)).toNat : Int)) := Lib.hid (by decide)
            rw [beB_one] at HEY
            go_upto_region 19 with (at_builtin; refine wpList_append_lst byteE rfl _ _ rfl (bO + 1) _ _ _ rfl (HI.out.al _).own _ ([UInt8.ofNat (boolN true)]) (byteF_len _) (byteF_one _) rfl (one_byte _ _ _ HFB.out) (by simp only [List.length_append, beB_len, List.length_singleton, List.length_nil, hss]; omega) (HI.out.al _).lt ?_; intro v9 W9 ho9 hg9 _; have hi9 := (HI.out.al _).lst ho9 hg9; obtain ⟨R4, hR4⟩ : ∃ U, R3 ++ ([UInt8.ofNat (boolN true)]) = U := ⟨_, rfl⟩; rw [hR4] at hi9; have hlR4 : R4.length ≤ R3.length + 1 := Nat.le_of_eq (by (rw [← hR4]; simp only [List.length_append, beB_len, List.length_singleton, List.length_nil, hss])); obtain ⟨a9, c9, hv9⟩ := ownsRow_slice hi9.own; have HI := Lib.hid hi9; have HUR4 := Lib.hid hR4; subst hv9; clear ho9 hg9 hi9 hR4)
            clear x0 x1 x2 x3 x4
            obtain ⟨x0, x1, x2, x3, x4⟩ := HXC.out _ _ _ HI.out
            go_upto_region 20 with (first
              | (go_at_call 29; (with_reducible refine (HI.out.num (ck) 8 8 rfl (by omega) (by omega) (by omega)).mono ?_); rintro e w9 ⟨v9, rfl, hs9, hi9⟩; obtain ⟨a9, c9, hv9⟩ := hs9.len; have HI := Lib.hid hi9; have HS := Lib.hid hs9; clear hi9 hs9; subst hv9)
              | (at_builtin; refine wpList_append_lst byteE rfl _ _ rfl (bO + 1) _ _ _ rfl HI.out.own _ (beB ck.toNat 8) (byteF_len _) (byteF_one _) rfl HS.out (by simp only [List.length_append, beB_len, List.length_singleton, List.length_nil, hss]; omega) HI.out.lt ?_; intro v9 W9 ho9 hg9 _; have hi9 := HI.out.lst ho9 hg9; obtain ⟨R5, hR5⟩ : ∃ U, R4 ++ (beB ck.toNat 8) = U := ⟨_, rfl⟩; rw [hR5] at hi9; have hlR5 : R5.length ≤ R4.length + 8 := Nat.le_of_eq (by (rw [← hR5]; simp only [List.length_append, beB_len, List.length_singleton, List.length_nil, hss])); obtain ⟨a9, c9, hv9⟩ := ownsRow_slice hi9.own; have HI := Lib.hid hi9; have HUR5 := Lib.hid hR5; subst hv9; clear ho9 hg9 hi9 hR5))
            clear x0 x1 x2 x3 x4
            obtain ⟨x0, x1, x2, x3, x4⟩ := HXC.out _ _ _ HI.out
            go_wp2_with (first
              | (go_at_call 29; (with_reducible refine (HI.out.num (sh) 4 4 rfl (by omega) (by omega) (by omega)).mono ?_); rintro e w9 ⟨v9, rfl, hs9, hi9⟩; obtain ⟨a9, c9, hv9⟩ := hs9.len; have HI := Lib.hid hi9; have HS := Lib.hid hs9; clear hi9 hs9; subst hv9)
              | (at_builtin; refine wpList_append_lst byteE rfl _ _ rfl (bO + 1) _ _ _ rfl HI.out.own _ (beB sh.toNat 4) (byteF_len _) (byteF_one _) rfl HS.out (by simp only [List.length_append, beB_len, List.length_singleton, List.length_nil, hss]; omega) HI.out.lt ?_; intro v9 W9 ho9 hg9 _; have hi9 := HI.out.lst ho9 hg9; obtain ⟨R6, hR6⟩ : ∃ U, R5 ++ (beB sh.toNat 4) = U := ⟨_, rfl⟩; rw [hR6] at hi9; have hlR6 : R6.length ≤ R5.length + 4 := Nat.le_of_eq (by (rw [← hR6]; simp only [List.length_append, beB_len, List.length_singleton, List.length_nil, hss])); obtain ⟨a9, c9, hv9⟩ := ownsRow_slice hi9.own; have HI := Lib.hid hi9; have HUR6 := Lib.hid hR6; subst hv9; clear ho9 hg9 hi9 hR6))
            have HR6 : Hid (R6 = P2 ++ (es.take (k + 1)).flatMap entY) := Lib.hid (by rw [HT9.out, ← HEY.out, ← HUR6.out, ← HUR5.out, ← HUR4.out, ← HUR3.out, ← HUR2.out, ← HUR1.out]; simp only [List.append_assoc])
            go_roundw
            case rel => exact ⟨k + 1, by omega, by first | rfl | go_num, by rw [← HR6.out]; exact HI.out⟩
            case measure => simp [intOf]; omega
          | false =>
            have HFB : Hid (((0 : Int)) = ((UInt8.ofNat (boolN false)).toNat : Int)) := Lib.hid (by decide)
            rw [beB_one] at HEY
            go_upto_region 19 with (at_builtin; refine wpList_append_lst byteE rfl _ _ rfl (bO + 1) _ _ _ rfl (HI.out.al _).own _ ([UInt8.ofNat (boolN false)]) (byteF_len _) (byteF_one _) rfl (one_byte _ _ _ HFB.out) (by simp only [List.length_append, beB_len, List.length_singleton, List.length_nil, hss]; omega) (HI.out.al _).lt ?_; intro v9 W9 ho9 hg9 _; have hi9 := (HI.out.al _).lst ho9 hg9; obtain ⟨R4, hR4⟩ : ∃ U, R3 ++ ([UInt8.ofNat (boolN false)]) = U := ⟨_, rfl⟩; rw [hR4] at hi9; have hlR4 : R4.length ≤ R3.length + 1 := Nat.le_of_eq (by (rw [← hR4]; simp only [List.length_append, beB_len, List.length_singleton, List.length_nil, hss])); obtain ⟨a9, c9, hv9⟩ := ownsRow_slice hi9.own; have HI := Lib.hid hi9; have HUR4 := Lib.hid hR4; subst hv9; clear ho9 hg9 hi9 hR4)
            clear x0 x1 x2 x3 x4
            obtain ⟨x0, x1, x2, x3, x4⟩ := HXC.out _ _ _ HI.out
            go_upto_region 20 with (first
              | (go_at_call 29; (with_reducible refine (HI.out.num (ck) 8 8 rfl (by omega) (by omega) (by omega)).mono ?_); rintro e w9 ⟨v9, rfl, hs9, hi9⟩; obtain ⟨a9, c9, hv9⟩ := hs9.len; have HI := Lib.hid hi9; have HS := Lib.hid hs9; clear hi9 hs9; subst hv9)
              | (at_builtin; refine wpList_append_lst byteE rfl _ _ rfl (bO + 1) _ _ _ rfl HI.out.own _ (beB ck.toNat 8) (byteF_len _) (byteF_one _) rfl HS.out (by simp only [List.length_append, beB_len, List.length_singleton, List.length_nil, hss]; omega) HI.out.lt ?_; intro v9 W9 ho9 hg9 _; have hi9 := HI.out.lst ho9 hg9; obtain ⟨R5, hR5⟩ : ∃ U, R4 ++ (beB ck.toNat 8) = U := ⟨_, rfl⟩; rw [hR5] at hi9; have hlR5 : R5.length ≤ R4.length + 8 := Nat.le_of_eq (by (rw [← hR5]; simp only [List.length_append, beB_len, List.length_singleton, List.length_nil, hss])); obtain ⟨a9, c9, hv9⟩ := ownsRow_slice hi9.own; have HI := Lib.hid hi9; have HUR5 := Lib.hid hR5; subst hv9; clear ho9 hg9 hi9 hR5))
            clear x0 x1 x2 x3 x4
            obtain ⟨x0, x1, x2, x3, x4⟩ := HXC.out _ _ _ HI.out
            go_wp2_with (first
              | (go_at_call 29; (with_reducible refine (HI.out.num (sh) 4 4 rfl (by omega) (by omega) (by omega)).mono ?_); rintro e w9 ⟨v9, rfl, hs9, hi9⟩; obtain ⟨a9, c9, hv9⟩ := hs9.len; have HI := Lib.hid hi9; have HS := Lib.hid hs9; clear hi9 hs9; subst hv9)
              | (at_builtin; refine wpList_append_lst byteE rfl _ _ rfl (bO + 1) _ _ _ rfl HI.out.own _ (beB sh.toNat 4) (byteF_len _) (byteF_one _) rfl HS.out (by simp only [List.length_append, beB_len, List.length_singleton, List.length_nil, hss]; omega) HI.out.lt ?_; intro v9 W9 ho9 hg9 _; have hi9 := HI.out.lst ho9 hg9; obtain ⟨R6, hR6⟩ : ∃ U, R5 ++ (beB sh.toNat 4) = U := ⟨_, rfl⟩; rw [hR6] at hi9; have hlR6 : R6.length ≤ R5.length + 4 := Nat.le_of_eq (by (rw [← hR6]; simp only [List.length_append, beB_len, List.length_singleton, List.length_nil, hss])); obtain ⟨a9, c9, hv9⟩ := ownsRow_slice hi9.own; have HI := Lib.hid hi9; have HUR6 := Lib.hid hR6; subst hv9; clear ho9 hg9 hi9 hR6))
            have HR6 : Hid (R6 = P2 ++ (es.take (k + 1)).flatMap entY) := Lib.hid (by rw [HT9.out, ← HEY.out, ← HUR6.out, ← HUR5.out, ← HUR4.out, ← HUR3.out, ← HUR2.out, ← HUR1.out]; simp only [List.append_assoc])
            go_roundw
            case rel => exact ⟨k + 1, by omega, by first | rfl | go_num, by rw [← HR6.out]; exact HI.out⟩
            case measure => simp [intOf]; omega
        · have hkz : ¬ (k : Int) < (m : Int) := by omega
          have HA : Hid (es.take k = es) := Lib.hid (List.take_of_length_le (by rw [HM.out]; omega))
          have hRD : R = beB nx.toNat 8 ++ beB n 2 ++ ((dirsOf l).take (i + 1)).flatMap dirsB := by
            rw [← hR, HA.out, ← HP2.out, List.append_assoc, List.append_assoc, HDB.out]
          have HIN : Hid (ImgW w bO (.slice ar nl cr) nx (.slice (some ⟨g, off, none⟩) n c2) (dirsI l) nilS [] (beB nx.toNat 8 ++ beB n 2 ++ ((dirsOf l).take (i + 1)).flatMap dirsB) (.slice a5 R.length c5) wr) := Lib.hid (by
            rw [← hRD]
            exact ⟨HI.out.d, HI.out.ds, World.ownsRow_nil _ _ _ _, HI.out.own, HI.out.b, HI.out.lt⟩)
          clear hRD
          go_wp2
          go_roundw
          case rel => exact ⟨i + 1, by omega, by first | rfl | go_num, HIN.out⟩
          case measure => simp [intOf]; omega
    · have hiz : ¬ (i : Int) < (n : Int) := by omega
      have HA : Hid ((dirsOf l).take i = dirsOf l) := Lib.hid (List.take_of_length_le (by unfold dirsOf; rw [List.length_map, HN.out]; omega))
      have hfin : P = L := by
        rw [← hP, HA.out, ← HL.out]
        simp only [List.append_assoc]
      subst hfin
      have hL0 : P ≠ [] := by
        intro e
        have := congrArg List.length HL.out
        rw [e] at this
        simp only [List.length_append, beB_len, List.length_nil] at this
        omega
      obtain ⟨g9, cap9, hv9⟩ := ownB_form HI.out.own hL0
      injection hv9 with hv9 _ hv9c
      subst hv9
      subst hv9c
      have hcv := ownB_text HI.out.own rfl
      clear hL0
      generalize P.length = n9 at *
      go_wp2
      go_ret
      exact ⟨rfl, by first | exact HI.out.b | (rw [HBO.out]; exact HI.out.b)⟩
end Go.Proofs.YtddobjhahohhhaaGreat
