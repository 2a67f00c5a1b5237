/-
  What Decode answers of bytes: the tree that has just this image, or that there is none.
-/
import Derived.Test.YtddobjhahohhhaaGreatImBy
import Derived.Test.YtddobjhahohhhaaGreatImEnc
namespace Go.Proofs.YtddobjhahohhhaaGreat
open Go.RowKit Go.Sort
set_option linter.unusedVariables false
set_option linter.unusedSimpArgs false

set_option maxHeartbeats 2000000 in
theorem inewReader_c (s : ByteArray) (w : World) :
    Calls Tryz.prog 23 #[.string s] w fun e w' => ∃ rb, e = .returned (ptV rb) ∧ RdIs IR rb s.data.toList false w' ∧ w.heap.size ≤ rb ∧ Below w.heap.size w w' := by
  have cR := newReader_c s w
  go_enter Tryz.func23, Tryz.ntmps23
  go_wp2_with (go_at_call 47; refine cR.mono ?_; rintro e w1 ⟨rfl, hb1⟩; have HB1 := Lib.hid hb1; clear hb1)
  go_ret
  exact ⟨_, rfl, heap_alloc_new _ _, HB1.out.size, HB1.out.alloc HB1.out.size _⟩
theorem dirR_node (r : RS) : inI64 (dirR r).1.1 := by
  have h1 := rdN_lt 2 r.l
  show inI64 (rdN 2 r.l : Int)
  unfold inI64
  omega
theorem dirsR_node (bs : List UInt8) : ∀ d ∈ dirsR bs, inI64 d.1 := by
  have h := sevGo_mem (P := fun d : Int × List Ent => inI64 d.1) (R := dirR) dirR_le bs.length (fun r _ => dirR_node r)
  intro d hd
  exact h _ _ (Nat.le_trans (num_le 2 _) (num_le 8 _)) d hd
theorem dirsR_len (bs : List UInt8) : (dirsR bs).length ≤ 65535 := sevR_len _
theorem cookR_max (bs : List UInt8) : cookR bs ≤ 9223372036854775807 := by
  unfold cookR valI wrap64
  omega
/-- No tree has these bytes as its image. -/
def NoImg (bs : List UInt8) : Prop := ∀ l nx, GoodT l nx → nx ≤ 9223372036854775807 → bs ≠ imgI l nx
def IDPost (bs : List UInt8) (w : World) (e : Ending) (w' : World) : Prop :=
  (e = .returned (.tuple #[.pointer none, .int .i64 2]) ∧ Below w.heap.size w w' ∧ NoImg bs) ∨
  (∃ b A nx S, e = .returned (.tuple #[ptrV b, .int .i64 0]) ∧ theTree.Is w' b A nx S ∧ (∀ k, S k → w.heap.size ≤ k) ∧ Below w.heap.size w w' ∧ imgI A nx = bs ∧ nx ≤ 9223372036854775807)
theorem no_long {bs : List UInt8} (h : 60000 < bs.length) : NoImg bs := fun l nx hg _ e => by
  have := img_short hg
  rw [← e] at this
  omega
theorem keys_nodup {zs : List ZD} {l : List Itm} {nx : Int} (h : zs.map zD = dirsOf l) : (zs.map Prod.fst).Nodup ∧ zs.length = (dirsOf l).length := by
  have h1 := congrArg (List.map Prod.fst) h
  rw [List.map_map] at h1
  unfold dirsOf at h1
  rw [List.map_map] at h1
  have h2 : zs.map Prod.fst = dirsI l := by
    have e1 : List.map (Prod.fst ∘ zD) zs = zs.map Prod.fst := rfl
    have e2 : List.map (Prod.fst ∘ fun q => (q, entsI l q)) (dirsI l) = dirsI l := by simp [Function.comp_def]
    rw [e1, e2] at h1
    exact h1
  refine ⟨by rw [h2]; exact dirsI_nodup l, ?_⟩
  have := congrArg List.length h
  rwa [List.length_map] at this
theorem no_make {bs : List UInt8} {zs : List ZD} {cnt : Nat} (hz : zs.map zD = dirsR bs) (hc : (zs.map Prod.fst).Nodup → cnt = zs.length) (hn : ¬ makeB (stG (zs.map zD)) (cookR bs) cnt) : NoImg bs := fun l nx hg hx e => by
  obtain ⟨h1, h2⟩ := own_read hg hx
  rw [← e] at h1 h2
  rw [h2] at hz
  obtain ⟨k1, k2⟩ := keys_nodup (nx := nx) hz
  apply hn
  rw [hz, h1, hc k1, k2]
  exact own_make hg
theorem no_same {bs : List UInt8} {zs : List ZD} (hz : zs.map zD = dirsR bs) (hn : imgI (fillAll (stG (zs.map zD)) (cookR bs)).2.1 (cookR bs) ≠ bs) : NoImg bs := fun l nx hg hx e => by
  obtain ⟨h1, h2⟩ := own_read hg hx
  rw [← e] at h1 h2
  rw [h2] at hz
  apply hn
  obtain ⟨l', e1, hg', ht⟩ := own_twin hg
  rw [hz, h1, stG_own, e1, e]
  exact img_twin hg hg' ht
theorem bytes_neq {a b : List UInt8} (h : a ≠ b) : ((⟨a.toArray⟩ : ByteArray).toList == (⟨b.toArray⟩ : ByteArray).toList) = false := by
  rw [beq_eq_false_iff_ne, ByteArray.toList_eq, ByteArray.toList_eq]
  exact h
set_option maxHeartbeats 8000000 in
set_option maxRecDepth 100000 in
theorem decodeI_c (bs : List UInt8) (w : World) (hbs : bs.length ≤ 9223372036854775807) :
    Calls Tryz.prog 9 #[.string ⟨bs.toArray⟩] w (IDPost bs w) := by
  unfold IDPost
  have hsz : (⟨bs.toArray⟩ : ByteArray).size = bs.length := rfl
  by_cases hlong : 60000 < bs.length
  · have hi : (60000 : Int) < (bs.length : Int) := by omega
    have HN := Lib.hid (no_long hlong)
    go_enter Tryz.func9, Tryz.ntmps9
    go_wp2_with fail
    go_ret2
    exact Or.inl ⟨rfl, Below.refl _ _, HN.out⟩
  · have hi : ¬ (60000 : Int) < (bs.length : Int) := by omega
    have hlen : bs.length ≤ 60000 := by omega
    have HLEN := Lib.hid hlen
    have cR := inewReader_c ⟨bs.toArray⟩ w
    clear hlong hlen hbs
    go_enter Tryz.func9, Tryz.ntmps9
    go_upto_region 4 with (go_at_call 23; refine cR.mono ?_; rintro e w1 ⟨rb, rfl, hr1, hrb, hb1⟩; have HR1 := Lib.hid hr1; have HB1 := Lib.hid hb1; have HRB := Lib.hid hrb; clear hr1 hb1 hrb)
    clear cR
    have cN := rnumber_c rb 8 bs false w1 HR1.out (by omega) (by have := HLEN.out; omega)
    obtain ⟨r1, hr1⟩ : ∃ r1, RS.num 8 ⟨bs, false⟩ = r1 := ⟨_, rfl⟩
    have hl1 : r1.l.length ≤ 100000 := by
      rw [← hr1]
      exact Nat.le_trans (num_le 8 _) (by have := HLEN.out; show bs.length ≤ _; omega)
    have cN2 : Calls Tryz.prog 24 #[ptV rb, .int .i64 8] w1 (RdPost IR rb w1 r1.l r1.p (.int .i64 (cookR bs))) := by
      rw [← hr1]
      exact cN
    unfold RdPost at cN2
    clear cN
    obtain ⟨ck, hck⟩ : ∃ ck, cookR bs = ck := ⟨_, rfl⟩
    have HCK := Lib.hid hck
    rw [hck] at cN2
    have HR1E := Lib.hid hr1
    clear hck hr1
    go_upto_region 5 with (go_at_call 24; refine cN2.mono ?_; rintro e w2 ⟨rfl, hr2, hg2⟩; have HR2 := Lib.hid hr2; have HB2 := Lib.hid (HB1.out.grown hg2 HB1.out.size (fun k hk => by have := Option.some.inj hk; have := HRB.out; omega)); clear hr2 hg2)
    clear cN2
    have cS := sevD_c rb r1 w2 HR2.out hl1
    unfold SDPost dirF at cS
    have cB : Hid (∀ (v : Value) (zs : List ZD) (B B0 : Nat) (W : World), W.ownsRow B 67 2 v zs.length (zs.flatMap zC) → ZOk W B0 zs → zs.map zD = dirsR bs → Calls Tryz.prog 26 #[v] W (BNPost zs W)) := Lib.hid fun v zs B B0 W hv hz hm => by
      refine byNode_c v zs B B0 W hv hz (fun z hz' => ?_) ?_
      · exact dirsR_node bs (zD z) (by rw [← hm]; exact List.mem_map_of_mem hz')
      · have := dirsR_len bs
        rw [← hm, List.length_map] at this
        exact this
    unfold BNPost at cB
    have cM : Hid (∀ (W : World) (mb n cnt : Nat) (F : Int → Option Value) (zs : List ZD) (t : Bool), DirsHi 0 W mb n F cnt (stG (zs.map zD)) → zs.map zD = dirsR bs → (t = true ↔ makeB (stG (zs.map zD)) ck cnt) → Calls Tryz.prog 25 #[.int .i64 ck, .map (some mb)] W (MakePost (stG (zs.map zD)) ck t W)) := Lib.hid fun W mb n cnt F zs t hd hm ht =>
      make_c W mb n cnt F _ ck hd.at' hd.f (by rw [hm]; exact small_read bs (by have := HLEN.out; omega)) t ht
    unfold MakePost at cM
    have HDR : Hid ((sevR dirR r1).1 = dirsR bs) := Lib.hid (by rw [← HR1E.out]; rfl)
    rw [HDR.out] at cS
    go_wp2_with (first
      | (go_at_call 27; refine cS.mono ?_; rintro e w3 ⟨v3, zs, rfl, ho3, hz3, hm3, _, hg3⟩; have HO3 := Lib.hid ho3; have HZ3 := Lib.hid hz3; have HM3 := Lib.hid hm3; have HB3 := Lib.hid (HB2.out.grown hg3 HB2.out.size (fun k hk => by have := Option.some.inj hk; have := HRB.out; omega)); clear ho3 hz3 hm3 hg3; have cBB := cB.out v3 zs _ _ w3 HO3.out HZ3.out HM3.out; obtain ⟨a3, c3, hv3⟩ := ownsRow_slice HO3.out; subst hv3)
      | (go_at_call 26; refine cBB.mono ?_; rintro e w4 ⟨mb, F, cnt, rfl, hd4, hc4, hb4⟩; have HD4 := Lib.hid hd4; have HC4 := Lib.hid hc4; have HB4 := Lib.hid (HB3.out.trans (hb4.mono HB3.out.size)); clear hd4 hc4 hb4; obtain ⟨t, ht⟩ : ∃ t : Bool, t = true ↔ makeB (stG (zs.map zD)) ck cnt := (Classical.em (makeB (stG (zs.map zD)) ck cnt)).elim (fun h => ⟨true, by simp [h]⟩) (fun h => ⟨false, by simp [h]⟩); have HT := Lib.hid ht; have cMM := cM.out w4 mb _ cnt F zs t HD4.out HM3.out ht; clear ht))
    have cTail : True := trivial
    cases t with
    | false =>
      refine cMM.mono ?_
      rintro e w5 ⟨hno, _⟩
      obtain ⟨rfl, hb5⟩ := hno rfl
      have HB5 := Lib.hid (HB4.out.trans (hb5.mono HB4.out.size))
      have HNO : Hid (NoImg bs) := Lib.hid (no_make HM3.out HC4.out (by rw [HCK.out]; intro h; have := HT.out.2 h; cases this))
      clear hb5 hno cMM cBB cS
      go_wp2
      go_ret2
      exact Or.inl ⟨rfl, HB5.out, HNO.out⟩
    | true =>
      refine cMM.mono ?_
      rintro e w5 ⟨_, hyes⟩
      obtain ⟨tb, S, rfl, hi5, hf5, hb5⟩ := hyes rfl
      have HI5 := Lib.hid hi5
      have HF5 : Hid (∀ k, S k → w.heap.size ≤ k) := Lib.hid fun k hk => Nat.le_trans HB4.out.size (hf5 k hk)
      have HB5 := Lib.hid (HB4.out.trans (hb5.mono HB4.out.size))
      have hck9 : ck ≤ 9223372036854775807 := by rw [← HCK.out]; exact cookR_max bs
      have HC9 := Lib.hid hck9
      have cE := encode_c hi5 hck9
      clear hyes hi5 hf5 hb5 hck9 cMM cBB cS
      obtain ⟨L, hL⟩ : ∃ L, imgI (fillAll (stG (zs.map zD)) ck).2.1 ck = L := ⟨_, rfl⟩
      have HL := Lib.hid hL
      rw [hL] at cE
      by_cases heq : L = bs
      · subst heq
        clear hL
        go_wp2_with (go_at_call 8; refine cE.mono ?_; rintro e w6 ⟨rfl, hb6⟩; have HB6 := Lib.hid hb6; clear hb6)
        go_ret2
        exact Or.inr ⟨tb, _, ck, S, rfl, theTree.below HI5.out HB6.out, HF5.out, HB5.out.trans (HB6.out.mono HB5.out.size), HL.out, HC9.out⟩
      · have hne := bytes_neq heq
        have hne2 : (L == bs) = false := beq_eq_false_iff_ne.2 heq
        have HNO : Hid (NoImg bs) := Lib.hid (no_same HM3.out (by rw [HCK.out, hL]; exact heq))
        clear hL
        go_wp2_with (go_at_call 8; refine cE.mono ?_; rintro e w6 ⟨rfl, hb6⟩; have HB6 := Lib.hid hb6; clear hb6)
        go_ret2
        exact Or.inl ⟨rfl, HB5.out.trans (HB6.out.mono HB5.out.size), HNO.out⟩
end Go.Proofs.YtddobjhahohhhaaGreat
