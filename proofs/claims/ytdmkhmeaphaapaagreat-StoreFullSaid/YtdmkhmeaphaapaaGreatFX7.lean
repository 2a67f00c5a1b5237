/- Kit. -/
import Derived.Test.YtdmkhmeaphaapaaGreatFQI
import Derived.Test.YtdmkhmeaphaapaaGreatFX6
import Derived.Laws.EntriesVeiled
import Derived.Test.YtdmkhmeaphaapaaGreatFQ9
set_option maxRecDepth 100000
namespace Go.Proofs.YtdmkhmeaphaapaaGreat
open Go.RowKit Go.Sort
set_option linter.unusedVariables false
set_option linter.unusedSimpArgs false
def FitsT (K:Nat→Int)(E:Nat→List Ent)(c:Int)(d:Nat)(e:Ent):Prop:=(1≤e.node∧e.node≤200)∧K e.node.toNat=0∧badE e.name e.short=0∧placeI (E d) e.name<0∧(lastI (E d)<e.cookie∧e.cookie<c)∧¬hasCk E e.cookie
section
variable {w:World}{b:Nat}{K:Nat→Int}{E:Nat→List Ent}{R:Nat→Value}{u:Nat}{v:Value}{ys:List Int}{c:Int}
set_option maxHeartbeats 8000000 in
theorem fits_c (h:TM w b K E R u v ys c){d:Nat}(hd:d≤200)(hE:∀n,n≤200→(E n).length≤1000)(x:Ent)(hs:x.name.size≤9223372036854775807)(t:Bool)(ht:t=true↔FitsT K E c d x) :
    Calls Tryz.prog 174 #[ptrV b,.int .i64 (d:Int),entV x] w fun e w'=>e=.returned (.bool t)∧Below w.heap.size w w':=by
  unfold FitsT at ht;obtain⟨nm,n0,dr,ck,sh⟩:=x;simp only at hs ht;unfold entV;simp only;have HTT:=Lib.hid ht;have hb0:Below w.heap.size w (w.alloc (.cells #[.string nm,.int .i64 n0,.bool dr,.int .i64 ck,.int .i64 sh] 112)):=(Below.refl _ w).alloc (Nat.le_refl _) _;have HB0:=Lib.hid hb0;have HT0:=Lib.hid (h.below hb0);have HQ0:Hid ((w.alloc (.cells #[.string nm,.int .i64 n0,.bool dr,.int .i64 ck,.int .i64 sh] 112)).heap[w.heap.size]?=some (.cells #[.string nm,.int .i64 n0,.bool dr,.int .i64 ck,.int .i64 sh] 112 (0,0))):=Lib.hid (heap_alloc_new _ _);have HE:=Lib.hid hE;have HSM:=Lib.hid hs;have HD:=Lib.hid hd;clear hb0 h hE ht hs hd;go_enter Tryz.func174,Tryz.ntmps174;go_upto_region 1 with fail;generalize (w.alloc (.cells #[.string nm,.int .i64 n0,.bool dr,.int .i64 ck,.int .i64 sh] 112))=W0 at *;generalize hbO:w.heap.size=bO at *;obtain⟨⟨p0,p1,p2,p3,p4⟩,_⟩:=five_cells HQ0.out;by_cases g1:n0<1
  · have HF:Hid (t=false):=Lib.hid (by cases t with|false=>rfl|true=>have:=(HTT.out.1 rfl).1.1;omega);have e1:=decide_eq_true g1;go_quiet (fail);go_wp2;go_ret;exact⟨by rw[HF.out];rfl,by first|exact below_drewN1 HB0.out _|(rw[hbO];exact below_drewN1 HB0.out _)⟩
  have e1:=decide_eq_false g1;by_cases g2:200<n0
  · have HF:Hid (t=false):=Lib.hid (by cases t with|false=>rfl|true=>have:=(HTT.out.1 rfl).1.2;omega);have e2:=decide_eq_true g2;go_quiet (fail);go_wp2;go_ret;exact⟨by rw[HF.out];rfl,by first|exact below_drewN1 HB0.out _|(rw[hbO];exact below_drewN1 HB0.out _)⟩
  have e2:=decide_eq_false g2;obtain⟨n,rfl⟩:∃n:Nat,n0=n:=⟨n0.toNat,by omega⟩;have hn2:n≤200:=by omega
  have hn0:(0:Int)≤(n:Int):=by omega
  have hn1:(n:Int)<201:=by omega
  have k1:=(HT0.out.kcell hn2).1;have hnat:((n:Int)).toNat=n:=Int.toNat_natCast n;rw[hnat]at HTT;clear hnat;by_cases g3:¬(K n=0)
  · have HF:Hid (t=false):=Lib.hid (by cases t with|false=>rfl|true=>exact absurd (HTT.out.1 rfl).2.1 g3);have e3:(K n==0)=false:=beq_eq_false_iff_ne.2 g3;generalize K n=kn at *;go_quiet (fail);go_wp2;go_ret;exact⟨by rw[HF.out];rfl,by first|exact below_drewN1 HB0.out _|(rw[hbO];exact below_drewN1 HB0.out _)⟩
  have g3:=Classical.not_not.1 g3;rw[g3]at k1;go_quiet (fail);have HB1:Hid (Below bO w (W0.drewN nq)):=Lib.hid (below_drewN1 HB0.out _);have HBD:Hid (Below W0.heap.size W0 (W0.drewN nq)):=Lib.hid (below_drewN1 (Below.refl _ _) _);have HT1:=Lib.hid (HT0.out.below HBD.out);have HQ1:=Lib.hid ((HBD.out.block _ (lt_of_get HQ0.out)).trans HQ0.out);clear p0 p1 p2 p3 p4 k1 HBD HT0 HQ0 HB0;generalize (W0.drewN nq)=W1 at *;obtain⟨⟨p0,p1,p2,p3,p4⟩,_⟩:=five_cells HQ1.out;have cA:=askEntry_c nm HSM.out sh;by_cases g4:¬(badE nm sh=0)
  · have HF:Hid (t=false):=Lib.hid (by cases t with|false=>rfl|true=>exact absurd (HTT.out.1 rfl).2.2.1 g4);have e4:(badE nm sh==0)=false:=beq_eq_false_iff_ne.2 g4;generalize badE nm sh=bd at *;go_wp2_with (go_at_call 166;refine(cA _).mono ?_;rintro e w2 ⟨rfl,hb2⟩;have HB2:=Lib.hid hb2;clear hb2);go_ret;exact⟨by rw[HF.out];rfl,by first|exact HB1.out.trans (HB2.out.mono (Nat.le_trans (Nat.le_of_lt (lt_of_get HQ1.out)) (Nat.le_refl _)))|(rw[hbO];exact HB1.out.trans (HB2.out.mono (Nat.le_trans (Nat.le_of_lt (lt_of_get HQ1.out)) (Nat.le_refl _))))⟩
  have g4:=Classical.not_not.1 g4;rw[g4]at cA;have cP:Hid (∀W,Below W1.heap.size W1 W→Calls Tryz.prog 167 #[ptrV b,.int .i64 (d:Int),.string nm] W fun e w'=>e=.returned (.int .i64 (placeI (E d) nm))∧Below W.heap.size W w'):=Lib.hid (fun W hW=>place_c (HT1.out.below hW) HD.out (HE.out d HD.out) nm);by_cases g5:¬(placeI (E d) nm<0)
  · have HF:Hid (t=false):=Lib.hid (by cases t with|false=>rfl|true=>exact absurd (HTT.out.1 rfl).2.2.2.1 g5);have e5:0≤placeI (E d) nm:=by omega
    have e6:=decide_eq_true e5;generalize placeI (E d) nm=pl at *;go_wp2_with (first
      | (go_at_call 166;refine(cA _).mono ?_;rintro e w2 ⟨rfl,hb2⟩;have HB2:=Lib.hid hb2;obtain⟨⟨p0,p1,p2,p3,p4⟩,_⟩:=five_cells ((hb2.block _ (lt_of_get HQ1.out)).trans HQ1.out);clear hb2)
      | (go_at_call 167;refine(cP.out _ HB2.out).mono ?_;rintro e w3 ⟨rfl,hb3⟩;have HB3:=Lib.hid (HB2.out.trans (hb3.mono HB2.out.size));clear hb3))
    go_ret;exact⟨by rw[HF.out];rfl,by first|exact HB1.out.trans (HB3.out.mono (Nat.le_of_lt (lt_of_get HQ1.out)))|(rw[hbO];exact HB1.out.trans (HB3.out.mono (Nat.le_of_lt (lt_of_get HQ1.out))))⟩
  have g5:=Classical.not_not.1 g5;have e5:¬0≤placeI (E d) nm:=by omega
  have e6:=decide_eq_false e5;generalize placeI (E d) nm=pl at *;go_upto_region 5 with(first
    | (go_at_call 166;refine(cA _).mono ?_;rintro e w2 ⟨rfl,hb2⟩;have HB2:=Lib.hid hb2;obtain⟨⟨p0,p1,p2,p3,p4⟩,_⟩:=five_cells ((hb2.block _ (lt_of_get HQ1.out)).trans HQ1.out);clear hb2)
    | (go_at_call 167;refine(cP.out _ HB2.out).mono ?_;rintro e w3 ⟨rfl,hb3⟩;have HB3:=Lib.hid (HB2.out.trans (hb3.mono HB2.out.size));clear hb3))
  have HT3:=Lib.hid (HT1.out.below HB3.out);have HQ3:=Lib.hid ((HB3.out.block _ (lt_of_get HQ1.out)).trans HQ1.out);have HBF:=Lib.hid (HB1.out.trans (HB3.out.mono (Nat.le_of_lt (lt_of_get HQ1.out))));have HNR:Hid (1≤(n:Int)∧(n:Int)≤200):=Lib.hid ⟨by omega,by omega⟩;clear p0 p1 p2 p3 p4 cA cP HT1 HQ1 HB1 HB2 HB3 e5 e6 e1 e2 g1 g2;have HSK:Hid (∀W,Below w3.heap.size w3 W→Below w3.heap.size w3 W∧W.cell? ⟨bO,3,none⟩=some (.int .i64 ck)∧W.cell? ⟨b,405,none⟩=some (.int .i64 c)):=Lib.hid (fun W hW=>by
    obtain⟨⟨_,_,_,p3,_⟩,_⟩:=five_cells ((hW.block _ (lt_of_get HQ3.out)).trans HQ3.out);exact⟨hW,p3,(HT3.out.below hW).ccell.1⟩)
  have cL:Hid (∀W,Below w3.heap.size w3 W→Calls Tryz.prog 192 #[ptrV b,.int .i64 (d:Int)] W fun e w'=>e=.returned (.int .i64 (lastI (E d)))∧Below W.heap.size W w'):=Lib.hid (fun W hW=>(lastCookie_c (HT3.out.below hW) HD.out (HE.out d HD.out)).mono fun e w' h=>⟨h.1,by rw[h.2];exact Below.refl _ _⟩);have HLA:Hid (∀W,Below w3.heap.size w3 W→Calls Tryz.prog 192 #[ptrV b,.int .i64 (d:Int)] W fun e w'=>e=.returned (.int .i64 (lastI (E d)))∧W=w'):=Lib.hid (fun W hW=>(lastCookie_c (HT3.out.below hW) HD.out (HE.out d HD.out)).mono fun e w' h=>⟨h.1,h.2.symm⟩);have hfin:∀W,Below w3.heap.size w3 W→Below w.heap.size w W:=fun W hW=>by first|exact HBF.out.trans (hW.mono (Nat.le_of_lt (lt_of_get HQ3.out)))|(rw[hbO];exact HBF.out.trans (hW.mono (Nat.le_of_lt (lt_of_get HQ3.out))))
  have HFIN:=Lib.hid hfin;clear hfin;have hs3:=HSK.out w3.drew (Below.refl _ _).drew;by_cases g6:¬(lastI (E d)<ck)
  · have HF:Hid (t=false):=Lib.hid (by cases t with|false=>rfl|true=>exact absurd (HTT.out.1 rfl).2.2.2.2.1.1 g6);have e7:=decide_eq_false g6;generalize lastI (E d)=la at *;have cQ:∀q,Calls Tryz.prog 192 #[ptrV b,.int .i64 (d:Int)] (w3.drewN q) fun e w'=>e=.returned (.int .i64 la)∧w3.drewN q=w':=fun q=>HLA.out _ (below_drewN1 (Below.refl _ _) q)
    obtain⟨_,p3,p4⟩:=HSK.out w3 (Below.refl _ _);clear hs3;go_quiet ((go_at_call 192;exact Calls.quiet_of_same ((cQ _).mono fun _ _ h=>⟨h.1,h.2.symm⟩)));go_wp2;go_ret;exact⟨by rw[HF.out];rfl,by first|exact HFIN.out _ (below_drewN1 (Below.refl _ _) _)|(rw[←hbO];exact HFIN.out _ (below_drewN1 (Below.refl _ _) _))⟩
  have g6:=Classical.not_not.1 g6;have e7:=decide_eq_true g6;by_cases g7:¬(ck<c)
  · have HF:Hid (t=false):=Lib.hid (by cases t with|false=>rfl|true=>exact absurd (HTT.out.1 rfl).2.2.2.2.1.2 g7);have e8:=decide_eq_false g7;generalize lastI (E d)=la at *;have cQ:∀q,Calls Tryz.prog 192 #[ptrV b,.int .i64 (d:Int)] (w3.drewN q) fun e w'=>e=.returned (.int .i64 la)∧w3.drewN q=w':=fun q=>HLA.out _ (below_drewN1 (Below.refl _ _) q)
    obtain⟨_,p3,p4⟩:=HSK.out w3 (Below.refl _ _);clear hs3;go_quiet ((go_at_call 192;exact Calls.quiet_of_same ((cQ _).mono fun _ _ h=>⟨h.1,h.2.symm⟩)));go_wp2;go_ret;exact⟨by rw[HF.out];rfl,by first|exact HFIN.out _ (below_drewN1 (Below.refl _ _) _)|(rw[←hbO];exact HFIN.out _ (below_drewN1 (Below.refl _ _) _))⟩
  have g7:=Classical.not_not.1 g7;have e8:=decide_eq_true g7;obtain⟨hc,hhc,HF⟩:∃hc:Bool,(hc=true↔hasCk E ck)∧Hid (t=!hc):=by
    by_cases g8:hasCk E ck
    · exact⟨true,by simp[g8],Lib.hid (by cases t with|false=>rfl|true=>exact absurd g8 (HTT.out.1 rfl).2.2.2.2.2)⟩
    · exact⟨false,by simp[g8],Lib.hid (HTT.out.2 ⟨HNR.out,g3,g4,g5,⟨g6,g7⟩,g8⟩)⟩
  have cH:Hid (∀W,Below w3.heap.size w3 W→Calls Tryz.prog 193 #[ptrV b,.int .i64 ck] W fun e w'=>e=.returned (.bool hc)∧Below W.heap.size W w'):=Lib.hid (fun W hW=>hasCookie_c (HT3.out.below hW) HE.out ck hc hhc);clear hhc;generalize lastI (E d)=la at *;go_region_held3 (fun W=>Below w3.heap.size w3 W∧W.cell? ⟨bO,3,none⟩=some (.int .i64 ck)∧W.cell? ⟨b,405,none⟩=some (.int .i64 c)) (first|assumption|(refine HSK.out _ ?_;first|assumption|exact(Below.refl _ _).drew|exact Below.drew ‹_›)) (first
    | (go_at_call 192;refine(cL.out _ (by first|assumption|exact(Below.refl _ _).drew)).mono ?_;rintro e w4 ⟨rfl,hb4⟩;have hq4:Below w3.heap.size w3 w4:=below_step (Nat.le_refl _) (by first|assumption|exact(Below.refl _ _).drew) hb4)
    | (go_at_call 193;refine(cH.out _ (by first|assumption|exact(Below.refl _ _).drew)).mono ?_;rintro e w5 ⟨rfl,hb5⟩;have hq5:Below w3.heap.size w3 w5:=below_step (Nat.le_refl _) (by first|assumption|exact(Below.refl _ _).drew) hb5))
  all_goals
    go_wp2;go_ret;exact⟨by rw[HF.out];rfl,HFIN.out _ (by assumption)⟩
end
end Go.Proofs.YtdmkhmeaphaapaaGreat
namespace Go.Proofs.YtdmkhmeaphaapaaGreat
open Go.RowKit Go.Sort
set_option linter.unusedVariables false
set_option linter.unusedSimpArgs false
theorem fits_iff {l:List Itm}{c:Int}(hg:GoodT l c){d:Nat}(hd:d≤200)(e:Ent):FitsT (kindN l) (entsN l) c d e↔Fits l c (d:Int) e:=by
  unfold FitsT Fits;have hp:placeI (entsN l d) e.name<0↔∀y∈entsI l (d:Int),y.name≠e.name:=by
    rcases placeI_spec (entsN l d) e.name with⟨h1,_,h2⟩|⟨i,x,h1,h2,h3,_⟩
    · exact⟨fun _=>h2,fun _=>by omega⟩
    · exact⟨fun h=>by omega,fun h=>absurd h3 (h x (List.mem_of_getElem? h2))⟩
  have hk:hasCk (entsN l) e.cookie↔∃x∈l,x.e.cookie=e.cookie:=by
    unfold hasCk;constructor
    · rintro⟨n,hn,h⟩;obtain⟨y,hy,hc⟩:=List.any_eq_true.1 h;exact⟨⟨(n:Int),y⟩,ents_mem.1 hy,of_decide_eq_true hc⟩
    · rintro⟨x,hx,hc⟩;obtain⟨r1,r2⟩:=hg.inn_range hx;refine⟨x.inn.toNat,by omega,List.any_eq_true.2 ⟨x.e,?_,decide_eq_true hc⟩⟩;show x.e∈entsI l ((x.inn.toNat:Nat):Int)
      rw[show((x.inn.toNat:Nat):Int)=x.inn by omega];exact ents_mem.2 hx
  have hh:(¬hasCk (entsN l) e.cookie)↔∀x∈l,x.e.cookie≠e.cookie:=by
    rw[hk];exact⟨fun h x hx hc=>h ⟨x,hx,hc⟩,fun h ⟨x,hx,hc⟩=>h x hx hc⟩
  rw[hp,hh];constructor
  · rintro⟨h1,h2,h3⟩;rw[kindN_of l (by omega)]at h2;exact⟨h1,h2,h3⟩
  · rintro⟨h1,h2,h3⟩;exact⟨h1,by rw[kindN_of l (by omega)];exact h2,h3⟩
theorem fill_step {G:DirsG}{c:Int}{k:Nat}{l:List Itm}{f:Nat}{d:Int}{e:Ent}(hg:GoodT l c)(hd:kindI l d=2)(hf:Fits l c d e)(he:e.dir=true)(hr:(fillI G c k e.node (l++[⟨d,e⟩],f)).1=true)(hfl:f≤(l++[(⟨d,e⟩:Itm)]).length) :
    GoodT (fillI G c k e.node (l++[⟨d,e⟩],f)).2.1 c∧kindI (fillI G c k e.node (l++[⟨d,e⟩],f)).2.1 d=2∧l.length<(fillI G c k e.node (l++[⟨d,e⟩],f)).2.1.length∧(fillI G c k e.node (l++[⟨d,e⟩],f)).2.2≤(fillI G c k e.node (l++[⟨d,e⟩],f)).2.1.length+1:=by
  have hg1:=good_snoc hg hd hf;have hk1:kindI (l++[⟨d,e⟩]) e.node=2:=by rw[kind_put hf.2.1,if_pos he]
  have hn1:entsI (l++[⟨d,e⟩]) e.node=[]:=by
    rw[ents_app,hg.noin (by rw[hf.2.1];decide),List.nil_append];refine ents_nil fun x hx e2=>?_
    rw[List.mem_singleton]at hx;subst hx;have e3:d=e.node:=e2;rw[e3,hf.2.1]at hd;omega
  obtain⟨A,a1,a2,a3⟩:=fill_ok G c k e.node (l++[⟨d,e⟩]) f hg1 hk1 hn1 hr;rw[a1];have hdl:(dirNodes A).length≤A.length:=by
    unfold dirNodes;rw[List.length_map];exact List.length_filter_le _ _
  have hd1:kindI (l++[⟨d,e⟩]) d=2:=by rw[kind_app (by omega)];exact hd
  refine⟨a2.good,by show kindI (l++[⟨d,e⟩]++A) d=2;rw[kind_app (by omega)];exact hd1,?_,?_⟩
  · simp only[List.length_append,List.length_cons,List.length_nil];omega
  · simp only[List.length_append]at hfl ⊢;omega
theorem typ_ne {W:World}{k q:Nat}{cs cs':Array Value}{t t':TypeId}{fr fr':Nat×Nat}(h:W.heap[k]?=some (.cells cs t fr))(h':W.heap[q]?=some (.cells cs' t' fr'))(ht:t≠t'):k≠q:=by
  rintro rfl;rw[h]at h';injection h' with h';injection h' with _ h2 _;exact ht h2
structure FillW (w0:World)(b mb A B C D:Nat)(c:Int)(l:List Itm)(f:Nat)(W:World):Prop where
  tm:∃R,TM W b (kindN l) (entsN l) R 0 (.slice none 0 0) [] c
  a:W.heap[A]?=some (.cells #[.map (some mb)] 235 (0,0))
  n:W.heap[B]?=some (.cells #[.int .i64 (f:Int)] 3 (0,0))
  t:W.heap[C]?=some (.cells #[ptrV b] 55 (0,0))
  f:W.heap[D]?=some (.cells #[.func (.func 173) #[] #[ptrV A,ptrV B,ptrV C,ptrV D]] 229 (0,0))
  b0:Below w0.heap.size w0 W
  hb:w0.heap.size≤b
  hB:w0.heap.size≤B
section
variable {w0 W W':World}{b mb A B C D:Nat}{c:Int}{l:List Itm}{f:Nat}
theorem foot_kind {K:Nat→Int}{E:Nat→List Ent}{R:Nat→Value}(h:TM W b K E R 0 (.slice none 0 0) [] c){k:Nat}(hk:Foot b R (.slice none 0 0) k):∃cs t,W.heap[k]?=some (.cells cs t (0,0))∧(t=96∨t=112):=by
  rcases hk with rfl|⟨n,hn,hg⟩|hg
  · obtain⟨cs,h1,_⟩:=h.cells;exact⟨_,_,h1,Or.inl rfl⟩
  · obtain⟨cs,h1⟩:=ownsRow_typ (h.rows n hn) hg;exact⟨_,_,h1,Or.inr rfl⟩
  · cases hg
theorem FillW.below (h:FillW w0 b mb A B C D c l f W)(hb:Below W.heap.size W W'):FillW w0 b mb A B C D c l f W':=by
  obtain⟨R,ht⟩:=h.tm;exact⟨⟨R,ht.below hb⟩,(hb.block _ (lt_of_get h.a)).trans h.a,(hb.block _ (lt_of_get h.n)).trans h.n,(hb.block _ (lt_of_get h.t)).trans h.t,(hb.block _ (lt_of_get h.f)).trans h.f,h.b0.trans (hb.mono h.b0.size),h.hb,h.hB⟩
theorem FillW.count (h:FillW w0 b mb A B C D c l f W)(f':Nat):FillW w0 b mb A B C D c l f' (W.setCell ⟨B,0,none⟩ (.int .i64 (f':Int))):=by
  obtain⟨R,ht⟩:=h.tm;have hne:∀k,k≠B→(W.setCell ⟨B,0,none⟩ (.int .i64 (f':Int))).heap[k]?=W.heap[k]?:=fun k hk=>Below.heap_setCell _ _ _ _ hk
  refine⟨⟨R,ht.kept fun k hk=>?_⟩,?_,?_,?_,?_,h.b0.setCell (p:=⟨B,0,none⟩) h.hB _,h.hb,h.hB⟩
  · obtain⟨cs,t,h1,h2⟩:=foot_kind ht hk;exact hne k (typ_ne h1 h.n (by rcases h2 with rfl|rfl<;>decide))
  · rw[hne _ (typ_ne h.a h.n (by decide))];exact h.a
  · rw[heap_setCell_same _ B 0 _ _ _ h.n];rfl
  · rw[hne _ (typ_ne h.t h.n (by decide))];exact h.t
  · rw[hne _ (typ_ne h.f h.n (by decide))];exact h.f
theorem FillW.put (h:FillW w0 b mb A B C D c l f W){R R':Nat→Value}(hR:TM W b (kindN l) (entsN l) R 0 (.slice none 0 0) [] c){d:Nat}{e:Ent}{nd:Nat}(hnd:e.node=nd)(h1:1≤nd)(h0:kindN l nd=0)
    (ht:TM W' b (upd (kindN l) nd (kindOf e.dir)) (upd (entsN l) d (entsN l d++[e])) R' 0 (.slice none 0 0) [] c) (htr:Trod W W' (Foot b R (.slice none 0 0)) (Foot b R' (.slice none 0 0))):FillW w0 b mb A B C D c (l++[⟨(d:Int),e⟩]) f W':=by
  have hout:∀{q:Nat} {cs:Array Value} {t:TypeId} {fr:Nat×Nat},W.heap[q]?=some (.cells cs t fr)→(t≠96∧t≠112)→W'.heap[q]?=some (.cells cs t fr):=by
    intro q cs t fr hq hne;rw[htr.rest q (lt_of_get hq) (fun hs=>by
      obtain⟨cs',t',h2,h3⟩:=foot_kind hR hs;rw[hq]at h2;injection h2 with h2;injection h2 with _ h4 _;rcases h3 with h3|h3
      · exact hne.1 (h4.trans h3)
      · exact hne.2 (h4.trans h3))]
    exact hq
  have hlow:=htr.low (B:=w0.heap.size) h.b0.size (fun k hk=>Nat.le_trans h.hb (hR.lt k hk).1);refine⟨⟨R',?_⟩,hout h.a (by decide),hout h.n (by decide),hout h.t (by decide),hout h.f (by decide),h.b0.trans hlow.1,h.hb,h.hB⟩;rw[kindN_snoc l (d:Int) e hnd h1 h0,entsN_snoc];exact ht
end
theorem go_no {c:Int}{rec:Int→List Itm×Nat→Bool×(List Itm×Nat)}{d:Int}{e:Ent}{es:List Ent}{l:List Itm}{f:Nat}(h:¬Fits l c d e):fillGo c rec d (e::es) (l,f)=(false,(l,f)):=by
  rw[fillGo];exact if_neg h
theorem go_file {c:Int}{rec:Int→List Itm×Nat→Bool×(List Itm×Nat)}{d:Int}{e:Ent}{es:List Ent}{l:List Itm}{f:Nat}(h:Fits l c d e)(he:e.dir=false):fillGo c rec d (e::es) (l,f)=fillGo c rec d es (l++[⟨d,e⟩],f):=by
  rw[fillGo,if_pos h,if_neg (by rw[he];decide)]
theorem go_bad {c:Int}{rec:Int→List Itm×Nat→Bool×(List Itm×Nat)}{d:Int}{e:Ent}{es:List Ent}{l:List Itm}{f:Nat}(h:Fits l c d e)(he:e.dir=true)(hr:(rec e.node (l++[⟨d,e⟩],f)).1=false):(fillGo c rec d (e::es) (l,f)).1=false:=by
  rw[fillGo,if_pos h,if_pos he,if_neg (by show ¬(rec e.node (l++[⟨d,e⟩],f)).1=true;rw[hr];decide)]
theorem go_dir {c:Int}{rec:Int→List Itm×Nat→Bool×(List Itm×Nat)}{d:Int}{e:Ent}{es:List Ent}{l:List Itm}{f:Nat}(h:Fits l c d e)(he:e.dir=true)(hr:(rec e.node (l++[⟨d,e⟩],f)).1=true):fillGo c rec d (e::es) (l,f)=fillGo c rec d es (rec e.node (l++[⟨d,e⟩],f)).2:=by
  rw[fillGo,if_pos h,if_pos he,if_pos (by exact hr)]
structure SmallG (G:DirsG):Prop where
  len:∀q es,G q=some es→es.length≤100000
  name:∀q es,G q=some es→∀e∈es,e.name.size≤9223372036854775807
def FillPost (w0:World)(b mb A B C D:Nat)(c:Int)(r:Bool×(List Itm×Nat))(e:Ending)(w':World):Prop:=
  e=.returned (.bool r.1)∧Below w0.heap.size w0 w'∧(r.1=true→FillW w0 b mb A B C D c r.2.1 r.2.2 w')
set_option maxHeartbeats 8000000 in
theorem fill_c (w0:World)(b mb n A B C D:Nat)(F:Int→Option Value)(G:DirsG)(c:Int)(hm:DirsAt w0 mb n F G)(hsm:SmallG G):∀(k:Nat) (d:Nat) (l:List Itm) (f:Nat) (W:World),d≤200→GoodT l c→kindI l (d:Int)=2→201≤l.length+k→f≤l.length→FillW w0 b mb A B C D c l f W →
    Calls Tryz.prog 173 #[.int .i64 (d:Int),ptrV A,ptrV B,ptrV C,ptrV D] W (FillPost w0 b mb A B C D c (fillI G c k (d:Int) (l,f)))
  | 0,d,l,f,W,hd,hg,hk2,hfu,hf,hw=>by
    have:=hg.len;omega
  | k+1,d,l,f,W,hd,hg,hk2,hfu,hf,hw=>by
    have IH:=fun d l f W h1 h2 h3 h4 h5 h6=>fill_c w0 b mb n A B C D F G c hm hsm k d l f W h1 h2 h3 h4 h5 h6
    unfold FillPost at IH ⊢;have HM:=Lib.hid hm;have HSM:=Lib.hid hsm;have HD:=Lib.hid hd;have HG:=Lib.hid hg;have HK2:=Lib.hid hk2;have HFU:=Lib.hid hfu;have HF:=Lib.hid hf;have HW:=Lib.hid hw;have hll:=hg.len;have c0:W.cell? ⟨A,0,none⟩=some (.map (some mb)):=Lib.cell_of_heap hw.a 0;have hdi:inI64 (d:Int):=⟨by omega,by omega⟩;obtain⟨v,es,he,hes,hlook,_⟩:=hm.look hw.b0 hdi;obtain⟨RR,hRR⟩:∃RR,fillI G c (k+1) (d:Int) (l,f)=RR:=⟨_,rfl⟩;have hRR2:=hRR;unfold fillI at hRR2;rw[hRR];clear hRR hw hm hsm hg hk2 hfu;cases hG:G (d:Int) with
    | none =>
      rw[hG]at hlook hRR2;simp only at hRR2;subst hRR2;clear hG he hes;go_enter Tryz.func173,Tryz.ntmps173;go_wp2;go_ret;exact⟨rfl,HW.out.b0,fun h=>by cases h⟩
    | some es2 =>
      rw[hG]at hlook hRR2 hes;simp only[Option.getD_some]at hes;subst hes;simp only at hRR2;have HRR:=Lib.hid hRR2;have HES:=Lib.hid he;have hle:=HSM.out.len _ _ hG;have HNM:=Lib.hid (HSM.out.name _ _ hG);obtain⟨av,cap,rfl⟩:=he.len;obtain⟨m,hm⟩:∃m,es2.length=m:=⟨_,rfl⟩;have HMM:=Lib.hid hm;rw[hm]at hle hlook he;rw[hm]at HES;have c1:W.cell? ⟨B,0,none⟩=some (.int .i64 (f:Int)):=Lib.cell_of_heap HW.out.n 0;have c2:W.frozen? ⟨B,0,none⟩=false:=Lib.frozen_of_heap HW.out.n 0;have hwf:IntKind.i64.wrap ((f:Int)+1)=((f+1:Nat):Int):=by rw[IntKind.wrap_i64];omega
      clear hRR2 hG hm he;go_enter Tryz.func173,Tryz.ntmps173;go_upto_region 5 with fail;have HW1:Hid (FillW w0 b mb A B C D c l (f+1) (W.setCell ⟨B,0,none⟩ (.int .i64 ((f:Int)+1)))):=Lib.hid (HW.out.count (f+1));generalize (W.setCell ⟨B,0,none⟩ (.int .i64 ((f:Int)+1)))=W1 at *;clear c0 c1 c2 hlook hwf;go_wp2;go_loopw [23] (fun iv wr=>∃(i:Nat) (l1:List Itm) (f1:Nat),i≤m∧iv=.int .i64 i∧FillW w0 b mb A B C D c l1 f1 wr∧GoodT l1 c∧kindI l1 (d:Int)=2∧200≤l1.length+k∧f1≤l1.length+1∧fillGo c (fillI G c k) (d:Int) (es2.drop i) (l1,f1)=RR) (fun iv _=>m-(intOf iv).toNat)
      case atStart=>exact⟨0,l,f+1,by omega,rfl,HW1.out,HG.out,HK2.out,by have:=HFU.out;omega,by omega,by rw[List.drop_zero];exact HRR.out⟩
      case round =>
        clear HW1 HRR HW HFU HG HK2;obtain⟨i,l1,f1,hi,rfl,hw1,hg1,hd1,hf1,hc1,hgo⟩:=hrel;have HGO:=Lib.hid hgo;have HW1:=Lib.hid hw1;have HG1:=Lib.hid hg1;have HD1:=Lib.hid hd1;have HF1:=Lib.hid hf1;have HC1:=Lib.hid hc1;have hll1:=hg1.len;clear hgo hw1 hg1 hd1 hf1 hc1;by_cases him:i<m
        · have hiz:(i:Int)<(m:Int):=by omega
          obtain⟨x,hx⟩:∃x,es2[i]?=some x:=⟨_,List.getElem?_eq_getElem (by rw[HMM.out];omega)⟩;obtain⟨g,off,rfl,hg,hrr⟩:=HES.out.at hx;obtain⟨d0,d1,d2,d3,d4⟩:=ent_at (rangeAt_below hrr hg HW1.out.b0);have hdrop:=drop_eq_cons hx;have HGO2:Hid (fillGo c (fillI G c k) (d:Int) (x::es2.drop (i+1)) (l1,f1)=RR):=Lib.hid (by rw[←hdrop];exact HGO.out);have hnm:=HNM.out x (List.mem_of_getElem? hx);clear hdrop HGO hrr hg hx;obtain⟨R,htm⟩:=HW1.out.tm;have HTM:=Lib.hid htm;have hbw:Below wr.heap.size wr (wr.alloc (.cells #[.string x.name,.int .i64 x.node,.bool x.dir,.int .i64 x.cookie,.int .i64 x.short] 112)):=(Below.refl _ _).alloc (Nat.le_refl _) _;have HW2:=Lib.hid (HW1.out.below hbw);have HTM2:=Lib.hid (htm.below hbw);have HNF:Hid (¬Foot b R (.slice none 0 0) wr.heap.size):=Lib.hid (fun hk=>by have:=(htm.lt _ hk).2;omega);have HQ2:Hid ((wr.alloc (.cells #[.string x.name,.int .i64 x.node,.bool x.dir,.int .i64 x.cookie,.int .i64 x.short] 112)).heap[wr.heap.size]?=some (.cells #[.string x.name,.int .i64 x.node,.bool x.dir,.int .i64 x.cookie,.int .i64 x.short] 112 (0,0))):=Lib.hid (heap_alloc_new _ _);clear hbw htm HTM;go_upto_region 8 with fail;generalize (wr.alloc (.cells #[.string x.name,.int .i64 x.node,.bool x.dir,.int .i64 x.cookie,.int .i64 x.short] 112))=W2 at *;generalize wr.heap.size=q at *;clear d0 d1 d2 d3 d4;have e1:W2.cell? ⟨C,0,none⟩=some (ptrV b):=Lib.cell_of_heap HW2.out.t 0;obtain⟨⟨p0,p1,p2,p3,p4⟩,_⟩:=five_cells HQ2.out;by_cases hfit:Fits l1 c (d:Int) x
          · have cFi:=fits_c HTM2.out HD.out (fun n hn=>Nat.le_trans (HG1.out.elen n) (by omega)) x hnm true (by rw[fits_iff HG1.out HD.out];exact⟨fun _=>hfit,fun _=>rfl⟩);unfold entV at cFi;go_upto_region 10 with(go_at_call 174;refine cFi.mono ?_;rintro e w3 ⟨rfl,hb3⟩;have HB3:=Lib.hid hb3;clear hb3);have HW3:=Lib.hid (HW2.out.below HB3.out);have HTM3:=Lib.hid (HTM2.out.below HB3.out);have HQ3:=Lib.hid ((HB3.out.block _ (lt_of_get HQ2.out)).trans HQ2.out);clear e1 p0 p1 p2 p3 p4 cFi HW2 HTM2 HQ2 HB3;have e1:w3.cell? ⟨C,0,none⟩=some (ptrV b):=Lib.cell_of_heap HW3.out.t 0;obtain⟨⟨p0,p1,p2,p3,p4⟩,_⟩:=five_cells HQ3.out;obtain⟨nd,hnd⟩:∃nd:Nat,x.node=nd:=⟨x.node.toNat,by have:=hfit.1;omega⟩;have hnd1:1≤nd∧nd≤200:=by have:=hfit.1;omega
            have h0:kindN l1 nd=0:=by show kindI l1 (nd:Int)=0;rw[←hnd];exact hfit.2.1
            have cPu:=put_c HTM3.out HD.out (Nat.le_trans (HG1.out.elen d) (by omega)) x hnd hnd1.2 (by have:=badE_size hfit.2.2.1;omega);unfold PutPost entV at cPu;have HND:=Lib.hid hnd;have HN1:=Lib.hid hnd1;have HH0:=Lib.hid h0;have HFIT:=Lib.hid hfit;clear hnd hnd1 h0 hfit;go_upto_region 11 with(go_at_call 169;refine cPu.mono ?_;rintro e w4 ⟨R4,rfl,ht4,htr4⟩;have HT4:=Lib.hid ht4;have HTR4:=Lib.hid htr4;clear ht4 htr4);have HW4:=Lib.hid (HW3.out.put HTM3.out HND.out HN1.out.1 HH0.out HT4.out HTR4.out);have HQ4:=Lib.hid ((HTR4.out.rest q (lt_of_get HQ3.out) HNF.out).trans HQ3.out);clear e1 p0 p1 p2 p3 p4 cPu HW3 HTM3 HQ3 HT4 HTR4;obtain⟨⟨p0,p1,p2,p3,p4⟩,_⟩:=five_cells HQ4.out;have HG4:=Lib.hid (good_snoc HG1.out HD1.out HFIT.out);cases hdir:x.dir with
            | false =>
              rw[hdir]at p2;have HGO3:=Lib.hid (HGO2.out.symm.trans (go_file HFIT.out hdir));have HD4:Hid (kindI (l1++[⟨(d:Int),x⟩]) (d:Int)=2):=Lib.hid (by rw[kind_app (by have:=HD1.out;omega)];exact HD1.out);clear hdir;go_wp2;go_roundw
              case rel=>exact⟨i+1,_,f1,by omega,by first|rfl|go_num,HW4.out,HG4.out,HD4.out,by have:=HF1.out;simp;omega,by have:=HC1.out;simp;omega,HGO3.out.symm⟩
              case measure=>simp[intOf];omega
            | true =>
              rw[hdir]at p2;have e2:w4.cell? ⟨D,0,none⟩=some (.func (.func 173) #[] #[ptrV A,ptrV B,ptrV C,ptrV D]):=Lib.cell_of_heap HW4.out.f 0;have hk4:kindI (l1++[⟨(d:Int),x⟩]) (nd:Int)=2:=by rw[←HND.out,kind_put HFIT.out.2.1,if_pos hdir]
              have hlen4:(l1++[(⟨(d:Int),x⟩:Itm)]).length=l1.length+1:=by simp
              have cI:=IH nd _ f1 w4 HN1.out.2 HG4.out hk4 (by have:=HF1.out;omega) (by have:=HC1.out;omega) HW4.out;rw[←HND.out]at cI;cases hr:(fillI G c k x.node (l1++[⟨(d:Int),x⟩],f1)).1 with
              | false =>
                have HGO3:Hid (RR.1=false):=Lib.hid (by rw[←HGO2.out];exact go_bad HFIT.out hdir hr);rw[hr]at cI;clear hr hdir hk4 hlen4;go_wp2_with (go_at_call 173;refine cI.mono ?_;rintro e w5 ⟨rfl,hb5,_⟩;have HB5:=Lib.hid hb5;clear hb5);go_ret;exact⟨by rw[HGO3.out];rfl,HB5.out,fun h=>by rw[HGO3.out]at h;cases h⟩
              | true =>
                have HGO3:Hid (fillGo c (fillI G c k) (d:Int) (es2.drop (i+1)) (fillI G c k x.node (l1++[⟨(d:Int),x⟩],f1)).2=RR):=Lib.hid (by rw[←HGO2.out];exact(go_dir HFIT.out hdir hr).symm);obtain⟨s1,s2,s3,s4⟩:=fill_step HG1.out HD1.out HFIT.out hdir hr (by have:=HC1.out;omega);have S1:=Lib.hid s1;have S2:=Lib.hid s2;have S3:=Lib.hid s3;have S4:=Lib.hid s4;rw[hr]at cI;clear hr hdir hk4 hlen4 s1 s2 s3 s4;generalize fillI G c k x.node (l1++[⟨(d:Int),x⟩],f1)=Z at *;go_wp2_with (go_at_call 173;refine cI.mono ?_;rintro e w5 ⟨rfl,hb5,hw5⟩;have HW5:=Lib.hid (hw5 rfl);clear hb5 hw5);go_roundw
                case rel=>exact⟨i+1,Z.2.1,Z.2.2,by omega,by first|rfl|go_num,HW5.out,S1.out,S2.out,by have:=HF1.out;have:=S3.out;omega,S4.out,HGO3.out⟩
                case measure=>simp[intOf];omega
          · have cFi:=fits_c HTM2.out HD.out (fun n hn=>Nat.le_trans (HG1.out.elen n) (by omega)) x hnm false (by rw[fits_iff HG1.out HD.out];exact⟨fun h=>(by cases h),fun h=>absurd h hfit⟩);have HGO3:=Lib.hid (HGO2.out.symm.trans (go_no hfit));unfold entV at cFi;clear hfit;go_wp2_with (go_at_call 174;refine cFi.mono ?_;rintro e w3 ⟨rfl,hb3⟩;have HB3:=Lib.hid hb3;clear hb3);go_ret;refine⟨by rw[HGO3.out];rfl,(HW2.out.below HB3.out).b0,fun h=>by rw[HGO3.out]at h;cases h⟩
        · have hiz:¬(i:Int)<(m:Int):=by omega
          have HGO2:Hid (RR=(true,(l1,f1))):=Lib.hid (by
            rw[←HGO.out,List.drop_of_length_le (by rw[HMM.out];omega)];rfl)
          go_wp2;go_ret;rw[HGO2.out];exact⟨rfl,HW1.out.b0,fun _=>HW1.out⟩
end Go.Proofs.YtdmkhmeaphaapaaGreat
namespace Go.Proofs.YtdmkhmeaphaapaaGreat
open Go.RowKit Go.Sort
set_option linter.unusedVariables false
theorem nums_of {w:World}{v:Value}{l:List Int}(h:NumsL w v l):NumsIs w v l:=by
  rcases h with h|⟨g,off,cap,hg,hv,hc⟩
  · exact Or.inl h
  · refine Or.inr ⟨g,off,cap,hg,hv,fun j hj=>?_⟩;have h1:=hc j l[j] (List.getElem?_eq_getElem hj);have h2:=h1 0 (.int .i64 l[j]) rfl;rw[List.getD_eq_getElem?_getD,List.getElem?_eq_getElem hj];simpa using h2
def usedK (K:Nat→Int):Nat→List Int
  | 0=>[]
  | n+1=>usedK K n++(if n≠0∧K n≠0 then [(n:Int)] else [])
theorem usedK_le (K:Nat→Int):∀n,(usedK K n).length≤n
  | 0=>Nat.le_refl _
  | n+1=>by
    have:=usedK_le K n;unfold usedK;rw[List.length_append];split<;>simp<;>omega
theorem usedK_mem (K:Nat→Int):∀(n:Nat) (x:Int),x∈usedK K n↔∃m:Nat,m<n∧m≠0∧K m≠0∧x=m
  | 0,x=>by unfold usedK;simp
  | n+1,x=>by
    unfold usedK;rw[List.mem_append,usedK_mem K n x];constructor
    · rintro(⟨m,h1,h2⟩|h)
      · exact⟨m,by omega,h2⟩
      · by_cases hc:n≠0∧K n≠0
        · rw[if_pos hc,List.mem_singleton]at h;exact⟨n,by omega,hc.1,hc.2,h⟩
        · rw[if_neg hc]at h;cases h
    · rintro⟨m,h1,h2,h3,h4⟩;by_cases e:m=n
      · subst e;rw[if_pos ⟨h2,h3⟩];exact Or.inr (List.mem_singleton.2 h4)
      · exact Or.inl ⟨m,by omega,h2,h3,h4⟩
def UsedPost (X:List Int)(w:World)(e:Ending)(w':World):Prop:=∃v,e=.returned v∧NumsIs w' v X∧Below w.heap.size w w'
section
variable {w:World}{b:Nat}{K:Nat→Int}{E:Nat→List Ent}{R:Nat→Value}{u:Nat}{v:Value}{ys:List Int}{c:Int}
set_option maxHeartbeats 8000000 in
theorem used_c (h:TM w b K E R u v ys c)(hK:∀n,n≤200→K n=0∨K n=1∨K n=2):Calls Tryz.prog 175 #[ptrV b] w (UsedPost (usedK K 201) w):=by
  unfold UsedPost;have HT:=Lib.hid h;have HKK:=Lib.hid hK;obtain⟨X,hX⟩:∃X,usedK K 201=X:=⟨_,rfl⟩;rw[hX];have HX:=Lib.hid hX;clear h hX hK;go_enter Tryz.func175,Tryz.ntmps175;go_wp2;go_loopw [3,5] (fun ov iv wr=>∃n:Nat,n≤201∧iv=.int .i64 n∧wr.ownsRow w.heap.size 3 1 ov (usedK K n).length ((usedK K n).flatMap numC)∧Below w.heap.size w wr) (fun _ iv _=>201-(intOf iv).toNat)
  case atStart=>exact⟨0,by omega,rfl,World.ownsRow_nil _ _ _ _,Below.refl _ _⟩
  case round =>
    obtain⟨n,hn,rfl,hrow,hb⟩:=hrel;have HW:=Lib.hid hrow;have HBW:=Lib.hid hb;have hdl:=usedK_le K n;have HSC:Hid (usedK K (n+1)=usedK K n++(if n≠0∧K n≠0 then [(n:Int)] else [])):=Lib.hid rfl;have hsz:=hb.size;by_cases hn2:n≤200
    · have hnz:(n:Int)<201:=by omega
      have hn0:(0:Int)≤(n:Int):=by omega
      have c1:=((HT.out.below hb).kcell hn2).1;clear hrow hb;by_cases hz:n=0
      · subst hz;have HS2:Hid (usedK K (0+1)=usedK K 0):=Lib.hid (by rw[HSC.out,if_neg (by omega),List.append_nil]);clear HSC c1;go_wp2;go_roundw
        case rel=>exact⟨0+1,by omega,by first|rfl|go_num,by rw[HS2.out];exact HW.out,HBW.out⟩
        case measure=>simp[intOf]<;>omega
      · have hzb:((n:Int)==0)=false:=by rw[beq_eq_false_iff_ne];omega
        have hzc:¬(n:Int)=0:=by omega
        have hzn:((n:Int)!=0)=true:=by rw[bne,hzb];rfl
        have hze:¬n=0:=hz;have hzd:¬n=0:=hz;by_cases hk:K n=0
        · rw[hk]at c1;have HS2:Hid (usedK K (n+1)=usedK K n):=Lib.hid (by rw[HSC.out,if_neg (fun e=>e.2 hk),List.append_nil]);clear hk HSC;go_wp2;go_roundw
          case rel=>exact⟨n+1,by omega,by first|rfl|go_num,by rw[HS2.out];exact HW.out,HBW.out⟩
          case measure=>simp[intOf];omega
        · have HS2:Hid (usedK K (n+1)=usedK K n++[(n:Int)]):=Lib.hid (by rw[HSC.out,if_pos ⟨hz,hk⟩]);clear HSC hzd hz;have hk12:=(HKK.out n hn2).resolve_left hk;clear hk;rcases hk12 with hk|hk
          · rw[hk]at c1;clear hk;have HOA:Hid (World.ownsRow (wr.alloc (.cells #[.int .i64 (n:Int)] 3)) w.heap.size 3 1 u3 (usedK K n).length ((usedK K n).flatMap numC)):=Lib.hid (HW.out.alloc _);have HIA:Hid (NumsL (wr.alloc (.cells #[.int .i64 (n:Int)] 3)) (.slice (some ⟨wr.heap.size,0,none⟩) 1 1) [(n:Int)]):=Lib.hid (LstIs.block (numC_len _) (heap_alloc_new _ _));have hsa:w.heap.size≤(wr.alloc (.cells #[.int .i64 (n:Int)] 3)).heap.size:=by show _≤(wr.heap.push _).size;simp;omega
            have HSA:=Lib.hid hsa;have HBA:Hid (Below w.heap.size w (wr.alloc (.cells #[.int .i64 (n:Int)] 3))):=Lib.hid (HBW.out.alloc hsz _);have hlen:(usedK K n).length+[(n:Int)].length≤100000:=by simp;omega
            clear hsa;go_wp2_with (at_builtin;refine wpList_append_lst intElem rfl _ _ rfl w.heap.size _ _ _ rfl HOA.out _ [(n:Int)] (numC_len _) (numC_one _) rfl HIA.out hlen HSA.out ?_;intro v8 w8 ho8 hg8 hr8;have HB8:=Lib.hid (HBA.out.grown hg8 HSA.out (fun j hj=>(HOA.out.lt j hj).1));have HO8:=Lib.hid ho8;clear ho8 hg8 hr8);go_roundw
            case rel=>exact⟨n+1,by omega,by first|rfl|go_num,by rw[HS2.out,List.length_append,List.flatMap_append];exact HO8.out,HB8.out⟩
            case measure=>simp[intOf];omega
          · rw[hk]at c1;clear hk;have HOA:Hid (World.ownsRow (wr.alloc (.cells #[.int .i64 (n:Int)] 3)) w.heap.size 3 1 u3 (usedK K n).length ((usedK K n).flatMap numC)):=Lib.hid (HW.out.alloc _);have HIA:Hid (NumsL (wr.alloc (.cells #[.int .i64 (n:Int)] 3)) (.slice (some ⟨wr.heap.size,0,none⟩) 1 1) [(n:Int)]):=Lib.hid (LstIs.block (numC_len _) (heap_alloc_new _ _));have hsa:w.heap.size≤(wr.alloc (.cells #[.int .i64 (n:Int)] 3)).heap.size:=by show _≤(wr.heap.push _).size;simp;omega
            have HSA:=Lib.hid hsa;have HBA:Hid (Below w.heap.size w (wr.alloc (.cells #[.int .i64 (n:Int)] 3))):=Lib.hid (HBW.out.alloc hsz _);have hlen:(usedK K n).length+[(n:Int)].length≤100000:=by simp;omega
            clear hsa;go_wp2_with (at_builtin;refine wpList_append_lst intElem rfl _ _ rfl w.heap.size _ _ _ rfl HOA.out _ [(n:Int)] (numC_len _) (numC_one _) rfl HIA.out hlen HSA.out ?_;intro v8 w8 ho8 hg8 hr8;have HB8:=Lib.hid (HBA.out.grown hg8 HSA.out (fun j hj=>(HOA.out.lt j hj).1));have HO8:=Lib.hid ho8;clear ho8 hg8 hr8);go_roundw
            case rel=>exact⟨n+1,by omega,by first|rfl|go_num,by rw[HS2.out,List.length_append,List.flatMap_append];exact HO8.out,HB8.out⟩
            case measure=>simp[intOf];omega
    · have hnz:¬(n:Int)<201:=by omega
      obtain rfl:n=201:=by omega
      rw[HX.out]at HW;have HE:Hid (NumsL wr u3 X):=Lib.hid (LstIs.own (numC_len _) HW.out rfl);clear hrow hb;go_wp2;go_ret;exact⟨_,rfl,nums_of HE.out,HBW.out⟩
end
end Go.Proofs.YtdmkhmeaphaapaaGreat
namespace Go.Proofs.YtdmkhmeaphaapaaGreat
open Go.RowKit Go.Sort
set_option linter.unusedVariables false
set_option linter.unusedSimpArgs false
theorem mkF_getD (m:Nat)(M:List Bool)(x:Int)(n:Nat)(hM:M.length=201)(hn:n≤200):(mkF m M x).getD n false=(M.getD n false||decide (1≤x∧x≤(m:Int)∧x=(n:Int))):=by
  unfold mkF;split
  · rename_i h;rw[List.getD_eq_getElem?_getD,List.getD_eq_getElem?_getD,List.getElem?_set];by_cases e:x.toNat=n
    · rw[if_pos e,if_pos (by omega),decide_eq_true (by omega:1≤x∧x≤(m:Int)∧x=(n:Int))];simp
    · rw[if_neg e,decide_eq_false (by omega:¬(1≤x∧x≤(m:Int)∧x=(n:Int)))];simp
  · rename_i h;rw[decide_eq_false (fun h2=>h ⟨h2.1,h2.2.1⟩)];simp
theorem mkFs_getD (m:Nat)(n:Nat)(hn:n≤200):∀(l:List Int) (M:List Bool),M.length=201→(l.foldl (mkF m) M).getD n false=(M.getD n false||decide ((n:Int)∈l∧1≤n∧n≤m))
  | [],M,_=>by simp
  | x::l,M,hM=>by
    rw[List.foldl_cons,mkFs_getD m n hn l _ ((mkF_len m M x).trans hM),mkF_getD m M x n hM hn,Bool.or_assoc];congr 1;rw[Bool.eq_iff_iff,Bool.or_eq_true,decide_eq_true_eq,decide_eq_true_eq,decide_eq_true_eq,List.mem_cons];constructor
    · rintro(⟨h1,h2,h3⟩|⟨h1,h2,h3⟩)
      · exact⟨Or.inl h3.symm,by omega,by omega⟩
      · exact⟨Or.inr h1,h2,h3⟩
    · rintro⟨h1|h1,h2,h3⟩
      · exact Or.inl ⟨by omega,by omega,h1.symm⟩
      · exact Or.inr ⟨h1,h2,h3⟩
theorem mk_used (l:List Itm):mkRow 200 (usedK (kindN l) 201)=usedRow l:=by
  apply List.ext_getElem
  · rw[mkRow_len];simp[usedRow]
  · intro n h1 h2;have hn:n≤200:=by rw[mkRow_len]at h1;omega
    have e1:(mkRow 200 (usedK (kindN l) 201)).getD n false=(usedRow l).getD n false:=by
      rw[usedRow_getD l hn];unfold mkRow;rw[mkFs_getD 200 n hn _ _ List.length_replicate];rw[Bool.eq_iff_iff,Bool.or_eq_true,decide_eq_true_eq,decide_eq_true_eq];have hr:(List.replicate 201 false).getD n false=false:=by
        rw[List.getD_eq_getElem?_getD,List.getElem?_replicate];split<;>rfl
      rw[hr];constructor
      · rintro(h|⟨h,h3,h4⟩)
        · cases h
        · obtain⟨k,k1,k2,k3,k4⟩:=(usedK_mem _ _ _).1 h;have:n=k:=by omega
          subst this;exact⟨k2,k3⟩
      · rintro⟨h3,h4⟩;exact Or.inr ⟨(usedK_mem _ _ _).2 ⟨n,by omega,h3,h4,rfl⟩,by omega,hn⟩
    rw[List.getD_eq_getElem?_getD,List.getD_eq_getElem?_getD,List.getElem?_eq_getElem h1,List.getElem?_eq_getElem h2]at e1;exact e1
theorem kind_three (l:List Itm)(n:Nat):kindN l n=0∨kindN l n=1∨kindN l n=2:=by
  show kindI l (n:Int)=0∨kindI l (n:Int)=1∨kindI l (n:Int)=2
  unfold kindI;split
  · exact Or.inr (Or.inr rfl)
  · unfold kindGo;split
    · split
      · exact Or.inr (Or.inr rfl)
      · exact Or.inr (Or.inl rfl)
    · exact Or.inl rfl
section
variable {w:World}{b:Nat}{K:Nat→Int}{E:Nat→List Ent}{R:Nat→Value}{u:Nat}{v:Value}{ys:List Int}{c:Int}
theorem own_mono {w:World}{B B':Nat}{T:TypeId}{k:Nat}{v:Value}{n:Nat}{xs:List Value}(h:w.ownsRow B T k v n xs)(hB:B'≤B):w.ownsRow B' T k v n xs:=by
  refine⟨h.1,?_⟩;rcases h.2 with h1|⟨g,cap,cur,h1,h2,h3⟩
  · exact Or.inl h1
  · exact Or.inr ⟨g,cap,cur,h1,Nat.le_trans hB h2,h3⟩
theorem TM.newPool (h:TM w b K E R u v ys c){u':Nat}{v':Value}{ys':List Int}(ho:OwnN (b+1) w v' ys')(hg:GoodP 200 u' ys') :
    TM (((w.setCell ⟨b,402,none⟩ (.int .i64 200)).setCell ⟨b,403,none⟩ (.int .i64 (u':Int))).setCell ⟨b,404,none⟩ v') b K E R u' v' ys' c:=by
  obtain⟨cs,hc,hO⟩:=h.cells;have hf:∀g,g≠b→(((w.setCell ⟨b,402,none⟩ (.int .i64 200)).setCell ⟨b,403,none⟩ (.int .i64 (u':Int))).setCell ⟨b,404,none⟩ v').heap[g]?=w.heap[g]?:=fun g hg=>by
    rw[Below.heap_setCell _ _ _ _ hg,Below.heap_setCell _ _ _ _ hg,Below.heap_setCell _ _ _ _ hg]
  have hs:=hO.size;refine⟨⟨_,heap_setCell_same _ b 404 _ _ _ (heap_setCell_same _ b 403 _ _ _ (heap_setCell_same _ b 402 _ _ _ hc)),?_⟩,fun n hn=>ownsRow_same (h.rows n hn) fun g hg=>hf g (by have:=((h.rows n hn).lt g hg).1;omega),h.apart,ownsRow_same ho fun g hg=>hf g (by have:=(World.ownsRow.lt ho g hg).1;omega),hg⟩;have hne:∀j,j<402∨j=405→(((cs.setIfInBounds 402 (.int .i64 200)).setIfInBounds 403 (.int .i64 (u':Int))).setIfInBounds 404 v')[j]?=cs[j]?:=fun j hj=>by
    rw[Array.getElem?_setIfInBounds_ne (by omega),Array.getElem?_setIfInBounds_ne (by omega),Array.getElem?_setIfInBounds_ne (by omega)]
  refine⟨by simp[hs],fun n hn=>by rw[hne _ (by omega)];exact hO.kind n hn,fun n hn=>by rw[hne _ (by omega)];exact hO.row n hn,?_,?_,?_,by rw[hne _ (by omega)];exact hO.cook⟩
  · rw[Array.getElem?_setIfInBounds_ne (by omega),Array.getElem?_setIfInBounds_ne (by omega),Array.getElem?_setIfInBounds_self_of_lt (by omega)];rfl
  · rw[Array.getElem?_setIfInBounds_ne (by omega),Array.getElem?_setIfInBounds_self_of_lt (by simp;omega)]
  · rw[Array.getElem?_setIfInBounds_self_of_lt (by simp;omega)]
end
theorem alloc_old2 (w:World)(a b:Obj):((w.alloc a).alloc b).heap[w.heap.size]?=some a:=by
  rw[Lib.alloc_old _ _ _ (by simp)];exact heap_alloc_new _ _
def makeB (G:DirsG)(c:Int)(cnt:Nat):Prop:=1≤c∧(fillAll G c).1=true∧(fillAll G c).2.2=cnt
def MakePost (G:DirsG)(c:Int)(t:Bool)(w:World)(e:Ending)(w':World):Prop:=
  (t=false→e=.returned (.tuple #[.pointer none,.int .i64 2])∧Below w.heap.size w w') ∧
  (t=true→∃b S,e=.returned (.tuple #[ptrV b,.int .i64 0])∧theTree.Is w' b (fillAll G c).2.1 c S∧(∀k,S k→w.heap.size≤k)∧Below w.heap.size w w')
set_option maxHeartbeats 8000000 in
theorem make_c (w:World)(mb n cnt:Nat)(F:Int→Option Value)(G:DirsG)(c:Int)(hm:DirsAt w mb n F G)(hf:MapF Tryz.prog 3 w mb n F cnt)(hsm:SmallG G)(t:Bool)(ht:t=true↔makeB G c cnt) :
    Calls Tryz.prog 148 #[.int .i64 c,.map (some mb)] w (MakePost G c t w):=by
  unfold MakePost;have HM:=Lib.hid hm;have HMF:=Lib.hid hf;have HSM:=Lib.hid hsm;have HT:=Lib.hid ht;have cN:=treeNew_c;unfold NewTPost at cN;have hb0:Below w.heap.size w (w.alloc (.cells #[.map (some mb)] 235)):=(Below.refl _ w).alloc (Nat.le_refl _) _;have HB0:=Lib.hid hb0;have HA0:Hid ((w.alloc (.cells #[.map (some mb)] 235)).heap[w.heap.size]?=some (.cells #[.map (some mb)] 235 (0,0))):=Lib.hid (heap_alloc_new _ _);clear hb0 hm hf hsm ht;go_enter Tryz.func148,Tryz.ntmps148;go_upto_region 1 with fail;generalize (w.alloc (.cells #[.map (some mb)] 235))=W0 at *;generalize hA:w.heap.size=A at *;go_upto_region 2 with(go_at_call 73;refine(cN _).mono ?_;rintro e w1 ⟨b,rfl,hbl,htm,hb1⟩;have HBL:=Lib.hid hbl;have HTM:=Lib.hid htm;have HB1:=Lib.hid hb1;clear hbl htm hb1);have hbw:Below w1.heap.size w1 (w1.alloc (.cells #[ptrV b] 55)):=(Below.refl _ w1).alloc (Nat.le_refl _) _;have HTM1:=Lib.hid (HTM.out.below hbw);have HC1:Hid ((w1.alloc (.cells #[ptrV b] 55)).heap[w1.heap.size]?=some (.cells #[ptrV b] 55 (0,0))):=Lib.hid (heap_alloc_new _ _);have HBB1:=Lib.hid (HB1.out.trans (hbw.mono HB1.out.size));have hbC:b<w1.heap.size:=HTM.out.blt;clear hbw HTM HB1;generalize (w1.alloc (.cells #[ptrV b] 55))=W1 at *;generalize w1.heap.size=C at *;obtain⟨k1,k2⟩:=HTM1.out.ccell;have e1:W1.cell? ⟨C,0,none⟩=some (ptrV b):=Lib.cell_of_heap HC1.out 0;go_upto_region 6 with fail;have HW5:Hid (FillW w b mb A W1.heap.size C (W1.heap.size+1) c [] 0 (((W1.setCell ⟨b,405,none⟩ (.int .i64 c)).alloc (.cells #[.int .i64 0] 3)).alloc (.cells #[.func (.func 173) #[] #[ptrV A,ptrV W1.heap.size,ptrV C,ptrV (W1.heap.size+1)]] 229))):=by
    have hlt0:=lt_of_get HA0.out;have hlt1:=lt_of_get HC1.out;have hAb:A<b:=by have:=HBL.out;omega
    have hs5:((W1.setCell ⟨b,405,none⟩ (.int .i64 c)).alloc (.cells #[.int .i64 0] 3)).heap.size=W1.heap.size+1:=by simp[World.setCell]
    have hs4:(W1.setCell ⟨b,405,none⟩ (.int .i64 c)).heap.size=W1.heap.size:=by simp[World.setCell]
    have hbelow:Below (W1.setCell ⟨b,405,none⟩ (.int .i64 c)).heap.size (W1.setCell ⟨b,405,none⟩ (.int .i64 c)) (((W1.setCell ⟨b,405,none⟩ (.int .i64 c)).alloc (.cells #[.int .i64 0] 3)).alloc (.cells #[.func (.func 173) #[] #[ptrV A,ptrV W1.heap.size,ptrV C,ptrV (W1.heap.size+1)]] 229)):=((Below.refl _ _).alloc (Nat.le_refl _) _).alloc (by simp) _;have hset:∀g,g≠b→g<W1.heap.size→(((W1.setCell ⟨b,405,none⟩ (.int .i64 c)).alloc (.cells #[.int .i64 0] 3)).alloc (.cells #[.func (.func 173) #[] #[ptrV A,ptrV W1.heap.size,ptrV C,ptrV (W1.heap.size+1)]] 229)).heap[g]?=W1.heap[g]?:=fun g h1 h2=>by
      rw[hbelow.block g (by rw[hs4];exact h2)];exact Below.heap_setCell _ _ _ _ h1
    have hbA:Below A w W1:=by
      have:=HB0.out.trans (HBB1.out.mono (by omega))
      first|exact this|(rw[hA]at this;exact this)|(rw[←hA]at this ⊢;exact this)
    refine Lib.hid ⟨⟨fun _=>.slice none 0 0,?_⟩,?_,?_,?_,?_,?_,by omega,by have:=HBB1.out.size;omega⟩
    · have h9:=(HTM1.out.setCook c).below hbelow;rw[←kindN_nil]at h9;exact h9
    · rw[hset A (by omega) (by have:=HBB1.out.size;omega),HBB1.out.block A hlt0];exact HA0.out
    · have h9:=alloc_old2 (W1.setCell ⟨b,405,none⟩ (.int .i64 c)) (.cells #[.int .i64 0] 3) (.cells #[.func (.func 173) #[] #[ptrV A,ptrV W1.heap.size,ptrV C,ptrV (W1.heap.size+1)]] 229);rw[hs4]at h9;exact h9
    · rw[hset C (by omega) hlt1];exact HC1.out
    · have h9:=heap_alloc_new ((W1.setCell ⟨b,405,none⟩ (.int .i64 c)).alloc (.cells #[.int .i64 0] 3)) (.cells #[.func (.func 173) #[] #[ptrV A,ptrV W1.heap.size,ptrV C,ptrV (W1.heap.size+1)]] 229);rw[hs5]at h9;exact h9
    · (try rw[hA])
      exact(hbA.setCell (p:=⟨b,405,none⟩) (by show A≤b;omega) _).trans (hbelow.mono (by rw[hs4];have:=HBB1.out.size;omega))
  generalize hWW5:(((W1.setCell ⟨b,405,none⟩ (.int .i64 c)).alloc (.cells #[.int .i64 0] 3)).alloc (.cells #[.func (.func 173) #[] #[ptrV A,ptrV W1.heap.size,ptrV C,ptrV (W1.heap.size+1)]] 229))=W5 at *;clear hWW5;generalize W1.heap.size=B at *;generalize hD:B+1=D at *;clear k1 k2 e1 HTM1 HC1 HBB1 HA0 HB0 cN hD;have e1:W5.cell? ⟨D,0,none⟩=some (.func (.func 173) #[] #[ptrV A,ptrV B,ptrV C,ptrV D]):=Lib.cell_of_heap HW5.out.f 0;by_cases hc:c<1
  · have HF:Hid (t=false):=Lib.hid (by
      cases t with
      | false=>rfl
      | true=>have:=(HT.out.1 rfl).1;omega)
    have hcb:=decide_eq_true hc;go_wp2;go_ret2;rw[HF.out];exact⟨fun _=>⟨rfl,by first|exact HW5.out.b0|(rw[←hA];exact HW5.out.b0)⟩,fun h=>by cases h⟩
  have hcb:=decide_eq_false hc;have hc1:1≤c:=by omega
  have cI:=fill_c w b mb n A B C D F G c HM.out HSM.out 202 0 [] 0 W5 (by omega) (good_nil hc1) rfl (by simp) (by simp) HW5.out;unfold FillPost at cI;have HALL:Hid (fillI G c 202 ((0:Nat):Int) ([],0)=fillAll G c):=Lib.hid rfl;rw[HALL.out]at cI;have HOK:=Lib.hid (fun h=>fillAll_ok (G:=G) hc1 h);cases hr:(fillAll G c).1 with
  | false =>
    have HF:Hid (t=false):=Lib.hid (by
      cases t with
      | false=>rfl
      | true=>have:=(HT.out.1 rfl).2.1;rw[hr]at this;cases this)
    rw[hr]at cI;clear hr;go_wp2_with (go_at_call 173;refine cI.mono ?_;rintro e w6 ⟨rfl,hb6,_⟩;have HB6:=Lib.hid hb6;clear hb6);go_ret2;rw[HF.out];exact⟨fun _=>⟨rfl,by first|exact HB6.out|(rw[←hA];exact HB6.out)⟩,fun h=>by cases h⟩
  | true =>
    obtain⟨l,h1,hg,hdn,hfu⟩:=HOK.out hr;rw[hr,h1]at cI;have HR1:=Lib.hid h1;have HG:=Lib.hid hg;have HR:=Lib.hid hr;simp only[true_implies]at cI;clear hr h1 hg hdn hfu;generalize 1+(dirNodes l).length=f at *;by_cases hfc:f=cnt
    · subst hfc;have HF:Hid (t=true):=Lib.hid (HT.out.2 ⟨hc1,HR.out,by rw[HR1.out]⟩);go_upto_region 8 with(go_at_call 173;refine cI.mono ?_;rintro e w6 ⟨rfl,hb6,hw6⟩;have HW6:=Lib.hid hw6;clear hb6 hw6;have q1:w6.cell? ⟨B,0,none⟩=some (.int .i64 (f:Int)):=Lib.cell_of_heap HW6.out.n 0;have q2:w6.cell? ⟨A,0,none⟩=some (.map (some mb)):=Lib.cell_of_heap HW6.out.a 0;have q3:=fun ty=>(HMF.out.below HW6.out.b0).len Tryz.underlying235 ty);obtain⟨R,htm⟩:=HW6.out.tm;have HTM:=Lib.hid htm;have HFB:Hid (∀W,Below w6.heap.size w6 W→(W.frozen? ⟨b,402,none⟩=false∧W.frozen? ⟨b,403,none⟩=false∧W.frozen? ⟨b,404,none⟩=false)∧W.cell? ⟨b,402,none⟩=some (.int .i64 200)∧W.cell? ⟨b,403,none⟩=some (.int .i64 0)∧W.cell? ⟨b,404,none⟩=some (.slice none 0 0)):=Lib.hid (fun W hW=>by
        obtain⟨cs,hcs,hO⟩:=(HTM.out.below hW).cells;exact⟨⟨Lib.frozen_of_heap hcs _,Lib.frozen_of_heap hcs _,Lib.frozen_of_heap hcs _⟩,(Lib.cell_of_heap hcs _).trans hO.most,(Lib.cell_of_heap hcs _).trans hO.used,(Lib.cell_of_heap hcs _).trans hO.wait⟩)
      have HCC:Hid (∀W,Below w6.heap.size w6 W→W.cell? ⟨C,0,none⟩=some (ptrV b)):=Lib.hid (fun W hW=>Lib.cell_of_heap ((hW.block _ (lt_of_get HW6.out.t)).trans HW6.out.t) 0);have HCB:Hid (C≠b):=Lib.hid (by
        obtain⟨cs,hcs,_⟩:=htm.cells;exact typ_ne HW6.out.t hcs (by decide))
      have HCS:Hid (∀(W:World) (x y z:Value),W.cell? ⟨C,0,none⟩=some (ptrV b)→(((W.setCell ⟨b,402,none⟩ x).setCell ⟨b,403,none⟩ y).setCell ⟨b,404,none⟩ z).cell? ⟨C,0,none⟩=some (ptrV b)):=Lib.hid (fun W x y z h=>by
        rw[World.cell?_of_block (Below.heap_setCell _ _ _ _ HCB.out),World.cell?_of_block (Below.heap_setCell _ _ _ _ HCB.out),World.cell?_of_block (Below.heap_setCell _ _ _ _ HCB.out)];exact h)
      have cU:Hid (∀W,Below w6.heap.size w6 W→Calls Tryz.prog 175 #[ptrV b] W (UsedPost (usedK (kindN l) 201) W)):=Lib.hid (fun W hW=>used_c (HTM.out.below hW) (fun n _=>kind_three l n));have cNw:Hid (∀v W,NumsIs W v (usedK (kindN l) 201)→Calls Tryz.prog 114 #[.int .i64 200,v] W (NewPost 200 (usedRow l) W)):=Lib.hid (fun v W hv=>by
        have h9:=new_c 200 v _ W hv (Nat.le_trans (usedK_le _ _) (by omega));rw[show mostN 200=200 from rfl,mk_used]at h9;exact h9)
      unfold UsedPost at cU;unfold NewPost at cNw;clear htm q1 q2 q3 cI;have hs6:=HCC.out w6.drew (Below.refl _ _).drew;go_region_with (first
        | (go_at_call 175;refine(cU.out w6.drew (Below.refl _ _).drew).mono ?_;rintro e w7 ⟨vu,rfl,hnu,hb7⟩;have hq7:Below w6.heap.size w6 w7:=below_step (Nat.le_refl _) (Below.refl _ _).drew hb7;have hC7:=HCC.out w7 hq7)
        | (go_at_call 114;refine(cNw.out vu w7 hnu).mono ?_;rintro e w8 ⟨pb,vp,rfl,hpl,hpool⟩;obtain⟨u8,ys8,hbox,hgd,hrow⟩:=hpool;have hq8:Below w6.heap.size w6 w8:=hq7.trans ((hbox.keep.below hpl (Nat.le_refl _) (fun k hk=>(by cases hk))).mono hq7.size);have hk0:w8.cell? ⟨pb,0,none⟩=some (.int .i64 200):=Lib.cell_of_heap hbox.at' 0;have hk1:w8.cell? ⟨pb,1,none⟩=some (.int .i64 (u8:Int)):=Lib.cell_of_heap hbox.at' 1;have hk2:w8.cell? ⟨pb,2,none⟩=some vp:=Lib.cell_of_heap hbox.at' 2;obtain⟨av,nv,cv,hvp⟩:=own_form hbox.own;subst hvp;obtain⟨⟨f2,f3,f4⟩,f5,f6,f7⟩:=HFB.out w8 hq8;have hC8:=HCC.out w8 hq8))
      all_goals
        have hC9:=HCS.out w8 (.int .i64 200) (.int .i64 (u8:Int)) (.slice av nv cv) hC8;have hTM9:=(HTM.out.below hq8).newPool (own_mono hbox.own (show b+1≤pb+1 by have:=(HTM.out.below hq7).blt;omega)) hgd;have HTM9:=Lib.hid hTM9;have HRW:=Lib.hid hrow;have HBW:Hid (Below w.heap.size w (((w8.setCell ⟨b,402,none⟩ (.int .i64 200)).setCell ⟨b,403,none⟩ (.int .i64 (u8:Int))).setCell ⟨b,404,none⟩ (.slice av nv cv))):=Lib.hid (by
          have h9:=HW6.out.b0.trans (hq8.mono HW6.out.b0.size);exact((h9.setCell (p:=⟨b,402,none⟩) HW6.out.hb _).setCell (p:=⟨b,403,none⟩) HW6.out.hb _).setCell (p:=⟨b,404,none⟩) HW6.out.hb _)
        clear hTM9 hrow hq7 hq8 hb7 hnu hbox hk0 hk1 hk2 f2 f3 f4 f5 f6 f7 hC7 hC8 hpl;generalize (((w8.setCell ⟨b,402,none⟩ (.int .i64 200)).setCell ⟨b,403,none⟩ (.int .i64 (u8:Int))).setCell ⟨b,404,none⟩ (.slice av nv cv))=W9 at *;go_wp2;go_ret2;refine⟨fun h=>(by rw[HF.out]at h;cases h),fun _=>⟨b,Foot b R (.slice av nv cv),rfl,?_,fun k hk=>Nat.le_trans HW6.out.hb (HTM9.out.lt k hk).1,HBW.out⟩⟩;rw[HR1.out];exact⟨R,u8,.slice av nv cv,ys8,HTM9.out,HRW.out.symm,HG.out,rfl⟩
    · have HF:Hid (t=false):=Lib.hid (by
        cases t with
        | false=>rfl
        | true=>have:=(HT.out.1 rfl).2.2;rw[HR1.out]at this;exact absurd this hfc)
      have n1:¬(f:Int)=(cnt:Int):=by omega
      have n2:((f:Int)==(cnt:Int))=false:=beq_eq_false_iff_ne.2 n1;have n3:((f:Int)!=(cnt:Int))=true:=by rw[bne,n2];rfl
      go_wp2_with (go_at_call 173;refine cI.mono ?_;rintro e w6 ⟨rfl,hb6,hw6⟩;have HW6:=Lib.hid hw6;clear hb6 hw6;have q1:w6.cell? ⟨B,0,none⟩=some (.int .i64 (f:Int)):=Lib.cell_of_heap HW6.out.n 0;have q2:w6.cell? ⟨A,0,none⟩=some (.map (some mb)):=Lib.cell_of_heap HW6.out.a 0;have q3:=fun ty=>(HMF.out.below HW6.out.b0).len Tryz.underlying235 ty);go_ret2;rw[HF.out];exact⟨fun _=>⟨rfl,by first|exact HW6.out.b0|(rw[←hA];exact HW6.out.b0)⟩,fun h=>by cases h⟩
end Go.Proofs.YtdmkhmeaphaapaaGreat
namespace Go.Proofs.YtdmkhmeaphaapaaGreat
open Go.RowKit Go.Sort
set_option linter.unusedVariables false
set_option linter.unusedSimpArgs false
theorem MapF.same {P:Program}{k:TypeId}{w w':World}{b n c:Nat}{F:Int→Option Value}(h:MapF P k w b n F c)(hb:w'.heap[b]?=w.heap[b]?):MapF P k w' b n F c:=by
  obtain⟨D,⟨es,cl,h1,h2⟩,h3⟩:=h;exact⟨D,⟨es,cl,hb.trans h1,h2⟩,h3⟩
theorem ents_keep {w w':World}{v:Value}{l:List Ent}(h:EntsIs w v l)(hs:w.heap.size≤w'.heap.size)(hk:l≠[]→∀g,v.ownBlock=some g→w'.heap[g]?=w.heap[g]?):EntsIs w' v l:=by
  by_cases hl:l=[]
  · subst hl;rcases h with h|⟨g,off,cap,hg,hv,_⟩
    · exact Or.inl h
    · exact Or.inl ⟨rfl,_,cap,by rw[hv];rfl⟩
  · exact h.only hs (hk hl)
structure Hi (B:Nat)(w w':World):Prop where
  size:w.heap.size≤w'.heap.size
  block:∀k,B≤k→k<w.heap.size→w'.heap[k]?=w.heap[k]?
theorem Hi.of_below {B:Nat}{w w':World}(h:Below w.heap.size w w'):Hi B w w':=⟨h.size,fun k _ hk=>h.block k hk⟩
theorem Hi.trans {B:Nat}{a b c:World}(h:Hi B a b)(h':Hi B b c):Hi B a c:=⟨Nat.le_trans h.size h'.size,fun k h1 h2=>(h'.block k h1 (Nat.lt_of_lt_of_le h2 h.size)).trans (h.block k h1 h2)⟩
structure DirsHi (B:Nat)(w:World)(mb n:Nat)(F:Int→Option Value)(cnt:Nat)(G:DirsG):Prop where
  f:MapF Tryz.prog 3 w mb n F cnt
  g:∀x,inI64 x→match F x with
    | none=>G x=none
    | some v=>∃l,G x=some l∧EntsIs w v l∧(l≠[]→∀g,v.ownBlock=some g→B≤g∧g<w.heap.size)
  mb:B≤mb
theorem DirsHi.at' {B:Nat}{w:World}{mb n cnt:Nat}{F:Int→Option Value}{G:DirsG}(h:DirsHi B w mb n F cnt G):DirsAt w mb n F G:=by
  refine⟨⟨cnt,h.f⟩,fun x hx=>?_⟩;have hg:=h.g x hx;cases hv:F x with
  | none=>rw[hv]at hg;exact hg
  | some v =>
    rw[hv]at hg;obtain⟨l,h1,h2,_⟩:=hg;exact⟨l,h1,h2⟩
theorem DirsHi.hi {B:Nat}{w w':World}{mb n cnt:Nat}{F:Int→Option Value}{G:DirsG}(h:DirsHi B w mb n F cnt G)(hh:Hi B w w'):DirsHi B w' mb n F cnt G:=by
  refine⟨h.f.same (hh.block mb h.mb h.f.lt),fun x hx=>?_,h.mb⟩;have hg:=h.g x hx;cases hv:F x with
  | none=>rw[hv]at hg;exact hg
  | some v =>
    rw[hv]at hg;obtain⟨l,h1,h2,h3⟩:=hg;exact⟨l,h1,ents_keep h2 hh.size fun hne g hg=>hh.block g (h3 hne g hg).1 (h3 hne g hg).2,fun hne g hg=>⟨(h3 hne g hg).1,Nat.lt_of_lt_of_le (h3 hne g hg).2 hh.size⟩⟩
theorem turned_block {w w':World}{b:Nat}(h:w.mapTurned w' b):w'.heap.size=w.heap.size∧(∀k,k≠b→w'.heap[k]?=w.heap[k]?)∧w'.os=w.os∧w'.tape=w.tape∧w'.output=w.output:=by
  obtain⟨es,cl,es',cl',h1,rfl⟩:=h;refine⟨by show(w.heap.setIfInBounds b _).size=_;simp,fun k hk=>?_,rfl,rfl,rfl⟩;show(w.heap.setIfInBounds b _)[k]?=_
  rw[Array.getElem?_setIfInBounds_ne (fun e=>hk e.symm)]
def updG (G:DirsG)(x:Int)(l:Option (List Ent)):DirsG:=fun y=>if y=x then l else G y
theorem DirsHi.set {B:Nat}{w:World}{mb n cnt:Nat}{F:Int→Option Value}{G:DirsG}(h:DirsHi B w mb n F cnt G)(hn:n<maxLen){x:Int}(hx:inI64 x){v:Value}{l:List Ent}(he:EntsIs w v l)(hv:l≠[]→∀g,v.ownBlock=some g→B≤g∧g<w.heap.size) :
    ∃w',(Instr.mapUpdate 235 (.map (some mb)) (.int .i64 x) v).run Tryz.prog w=.ok () w'∧DirsHi B w' mb (n+1) (updF F x (some v)) (if(F x).isSome=true then cnt else cnt+1) (updG G x (some l))∧w.mapTurned w' mb:=by
  obtain⟨w',h1,h2,h3⟩:=h.f.update Tryz.underlying3 Tryz.underlying235 hn hx v;obtain⟨t1,t2,_⟩:=turned_block h3;obtain⟨es,cl,hmm⟩:=h.f.isMap;have keep:∀{v:Value} {l:List Ent},EntsIs w v l→EntsIs w' v l:=fun {v l} he=>by
    rcases he with he|⟨g,off,cap,hg,hvv,hc⟩
    · exact Or.inl he
    · rcases l with _|⟨y,r⟩
      · exact Or.inl ⟨rfl,_,cap,by rw[hvv];rfl⟩
      · have hne:g≠mb:=by
          rintro rfl;have h9:=hc 0 y rfl 0 _ rfl;unfold World.cell? at h9;rw[hmm]at h9;simp at h9
        refine Or.inr ⟨g,off,cap,by rw[t1];exact hg,hvv,fun j x hj=>?_⟩;intro i u hu;rw[World.cell?_of_block (t2 g hne)];exact hc j x hj i u hu
  refine⟨w',h1,⟨h2,fun y hy=>?_,h.mb⟩,h3⟩;unfold updF updG;by_cases e:y=x
  · rw[if_pos e,if_pos e];exact⟨l,rfl,keep he,fun hne g hg=>by rw[t1];exact hv hne g hg⟩
  · rw[if_neg e,if_neg e];have hg:=h.g y hy;cases hF:F y with
    | none=>rw[hF]at hg;exact hg
    | some v' =>
      rw[hF]at hg;obtain⟨l',g1,g2,g3⟩:=hg;exact⟨l',g1,keep g2,fun hne g hg=>by rw[t1];exact g3 hne g hg⟩
end Go.Proofs.YtdmkhmeaphaapaaGreat
