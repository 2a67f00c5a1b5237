/- Kit. -/
import Derived.Test.YtdmkhmeaphaapaaGreatCZ40
import Derived.Test.YtdmkhmeaphaapaaGreatCZ0
import Derived.StillTailTactics
import Derived.Deep.RegionLaw
import Derived.Test.YtdmkhmeaphaapaaGreatCZ36
set_option maxRecDepth 100000
set_option linter.unusedVariables false
set_option linter.unusedSimpArgs false
namespace Go.Proofs.YtdmkhmeaphaapaaGreat
open Go.RowKit Go.Sort
theorem size_bytes (l:List UInt8):(⟨l.toArray⟩:ByteArray).size=l.length:=rfl
theorem dA (x:De):1≤(Ac x).length:=by
 unfold Ac;rw[A7,Ah];omega
theorem Y0 (l:List Az)(nx:Int):1≤(BG l nx).length:=by
 unfold BG N8;simp only[List.length_append,Ah];omega
theorem Xx {S A:Nat}{s:ByteArray}(h1:1≤s.size)(h2:s.size≤60000):V.Df S A s=if S<A+(s.size+61)/62 then 11 else 0:=by
 unfold V.Df;rw[if_neg (by omega)]
theorem SH:∀{R:List (List UInt8)},(∀r∈R,r≠[]∧r.length≤60000)→R.length≤(V.BZ R).length
 | [],_=>Ae _
 | r::R,h=>by
  have h9:=SH (R:=R) (fun q hq=>h q (by simp[hq]));show R.length+1≤(V.Cs r++V.BZ R).length
  have h8:=(h r (by simp)).1;rw[A7,V.Dn h8,GY];omega
theorem nY {n h:Nat}{k:Bool}{E A:Nat}{img:ByteArray}{rs r1 r2:List ByteArray}{lm:Bool}{st:V.St}(hl:V.Dx n h k E A img rs r1 r2 lm st):rs.length≤400:=by
 have h1:=hl.end_;have h2:=hl.room;have h3:=hl.hn;have h4:=hl.n2;have h5:=SH (R:=V.recs (img::rs)) (fun r hr=>by
  unfold V.recs V.Ac at hr;obtain⟨s,hs,rfl⟩:=CG.1 hr;have h6:=hl.sizes s hs;have h7:s.data.toList.length=s.size:=BQ;exact⟨fun e=>by rw[e]at h7;simp at h7;omega,by rw[h7];omega⟩)
 have h6:(V.recs (img::rs)).length=rs.length+1:=by unfold V.recs V.Ac;simp
 omega
section
variable {B b sb n:Nat}{X:List Value}{rm:Int}{O:TI→Prop}{lm:Bool}{E:Nat}{t:TI}{w w':World}
def Aw (w:World)(sb k:Nat):Prop:=∃cs T fr,w.heap[k]?=some (.cells cs T fr)∧T∉V.DT∧∀rv,w.cell? ⟨sb,6,none⟩=some rv→V.CO rv≠some k
def mh (w w':World)(sb:Nat):Prop:=∀k,Aw w sb k→Aw w' sb k∧w'.heap[k]?=w.heap[k]?
theorem Aw.below {k:Nat}(h:Aw w sb k)(hb:Below w.heap.size w w')(hs:sb<w.heap.size):Aw w' sb k∧w'.heap[k]?=w.heap[k]?:=by
 obtain⟨cs,T,fr,h1,h2,h3⟩:=h;have h4:=hb.block k (Ab h1);refine⟨⟨cs,T,fr,h4.trans h1,h2,fun rv hr=>h3 rv ?_⟩,h4⟩;rw[Fj (hb.block sb hs)]at hr;exact hr
theorem mh.below (hb:Below w.heap.size w w')(hs:sb<w.heap.size):mh w w' sb:=fun k hk=>hk.below hb hs
theorem mh.trans {w'':World}(h:mh w w' sb)(h':mh w' w'' sb):mh w w'' sb:=fun k hk=>⟨(h' k (h k hk).1).1,((h' k (h k hk).1).2).trans (h k hk).2⟩
theorem VL.row (h:VL X w B b sb n rm O lm E t):∃rv,w.cell? ⟨sb,6,none⟩=some rv∧∀k,V.CO rv=some k→k<w.heap.size:=by
 obtain⟨h',k,A,img,rs,r1,r2,st,rv,hL,_⟩:=h;exact⟨rv,(V.St.Ay.more hL.Md).2.1,fun k hk=>(hL.row.lt hk).2⟩
theorem VL.aw (h:VL X w B b sb n rm O lm E t)(hb:Below w.heap.size w w'){k:Nat}{cs:Array Value}{T:TypeId}{fr:Nat×Nat}(hk:w.heap.size≤k)(hc:w'.heap[k]?=some (.cells cs T fr))(hT:T∉V.DT):Aw w' sb k:=by
 obtain⟨rv,h1,h2⟩:=h.row;refine⟨cs,T,fr,hc,hT,fun rv' hr e=>?_⟩;rw[Fj (hb.block sb h.hB.2),h1]at hr;obtain rfl:=BS hr;have:=h2 k e;omega
def uX (X:List Value)(w:World)(B b sb n:Nat)(rm:Int)(O:TI→Prop)(lm:Bool)(E:Nat)(t t':TI)(f:Int)(q:Int)(w':World):Prop:=
 (Below B w w'∧AX w w')∧((q=0∧f≤rm∧VL X w' B b sb n (rm-f) (fun u=>O u∨Ce t' u) lm E t')∨(q=13∧lm=true∧VD X w' B b sb n (fun u=>O u∨(f≤rm∧Ce t' u)) E)∨(q=11∧¬f≤rm∧VL X w' B b sb n rm O lm E t∧mh w w' sb))
def ApP (X:List Value)(w:World)(B b sb n:Nat)(rm:Int)(O:TI→Prop)(lm:Bool)(E:Nat)(t t':TI)(f:Int)(e:Ending)(w':World):Prop:=
 ∃q:Int,e=.returned (.int .i64 q)∧uX X w B b sb n rm O lm E t t' f q w'
theorem uX.from {t':TI}{f q:Int}{w1:World}(h:uX X w1 B b sb n rm O lm E t t' f q w')(hb:Below w.heap.size w w1)(hB:B≤w.heap.size)(hs:sb<w.heap.size):uX X w B b sb n rm O lm E t t' f q w':=by
 obtain⟨⟨h1,h2⟩,h3⟩:=h;refine⟨⟨(hb.mono hB).trans h1,(AX.Ar hb).trans h2⟩,?_⟩;rcases h3 with h3|h3|⟨a,a2,a3,a4⟩
 · exact Or.inl h3
 · exact Or.inr (Or.inl h3)
 · exact Or.inr (Or.inr ⟨a,a2,a3,(mh.below hb hs).trans a4⟩)
theorem iN (x:De)(h:VL X w B b sb n rm O lm E t)(hx:(EM t.1 t.2 x).2.2=0)(hB:B≤w.heap.size) :
 Calls Tryz.prog 24 #[Ag sb,.string ⟨(Ac x).toArray⟩] w (ApP X w B b sb n rm O lm E t (EM t.1 t.2 x).1 (Au (Ac x))):=by
 obtain⟨h',k,A,img,rs,r1,r2,st,rv,hL,hh,hne,ht,hrm,hO⟩:=h;have hm:=Qj hx;have h6:=Ud x hm;have h1:=dA x;have hsz:=size_bytes (Ac x);have hroom:=hL.live.room;have hfe:=Xx (S:=h') (A:=A) (s:=⟨(Ac x).toArray⟩) (by omega) (by omega);have yL:Au (Ac x)=(((⟨(Ac x).toArray⟩:ByteArray).size+61)/62:Nat):=by unfold Au;rw[hsz]
 have hsn:=ht.snoc hx;have hmap:(rs++[(⟨(Ac x).toArray⟩:ByteArray)]).map bl=rs.map bl++[Ac x]:=by rw[List.map_append];rfl
 have hall:=hL.live.all;refine(V.St.tu ⟨(Ac x).toArray⟩ hL (by omega) (by have:=nY hL.live;omega) hB).mono ?_;rintro e w' ⟨q,rfl,hb,ho,hc⟩;refine⟨q,rfl,⟨hb,zN ho hL.row⟩,?_⟩;rcases hc with⟨rfl,hfit,st',rv',hL',_⟩|⟨rfl,hlm,st',hD⟩|⟨h0,MC,hfit,hL'⟩
 · obtain⟨_,_,h9⟩:=V.Ep hfit;refine Or.inl ⟨rfl,by rw[yL,hrm];omega,h',k,_,img,_,r1,_,st',rv',hL',hh,hne,by rw[hmap];exact hsn,by rw[yL,hrm];omega,fun u hu=>?_⟩;rcases PH.snoc hall (by rw[hmap];exact hsn) u hu with h|h
   · exact Or.inl (hO u h)
   · exact Or.inr h
 · by_cases hfit:V.Df h' A ⟨(Ac x).toArray⟩=0
   · have hts:V.St.Qw h' A ⟨(Ac x).toArray⟩=[⟨(Ac x).toArray⟩]:=by unfold V.St.Qw;rw[if_pos hfit]
     obtain⟨_,_,h9⟩:=V.Ep hfit;rw[hts]at hD;refine Or.inr (Or.inl ⟨rfl,hlm,h',k,r1,_,⟨#[]⟩,st',hD,hh,hL.live.h2,hL.live.n2,fun s hs=>?_,hne,⟨_,img,rs++[⟨(Ac x).toArray⟩],by rw[←Ch,←hall];rfl,by rw[hmap];exact hsn⟩,fun h0=>absurd rfl h0,fun u hu=>?_⟩)
     · rw[←Ch,←hall]at hs;rcases EI.1 hs with h|h
       · exact hL.live.sizes s h
       · rw[Cn.1 h];omega
     · rcases PH.snoc hall (by rw[hmap];exact hsn) u hu with h|h
       · exact Or.inl (hO u h)
       · exact Or.inr ⟨by rw[yL,hrm];omega,h⟩
   · have hts:V.St.Qw h' A ⟨(Ac x).toArray⟩=[]:=by unfold V.St.Qw;rw[if_neg hfit]
     rw[hts,Cz]at hD;exact Or.inr (Or.inl ⟨rfl,hlm,h',k,r1,r2,⟨#[]⟩,st',hD,hh,hL.live.h2,hL.live.n2,by rw[←hall];exact hL.live.sizes,hne,⟨t,img,rs,hall.symm,ht⟩,fun h0=>absurd rfl h0,fun u hu=>Or.inl (hO u hu)⟩)
 · rw[hfe]at hfit;split at hfit
   · refine Or.inr (Or.inr ⟨hfit.symm,by rw[yL,hrm];omega,⟨h',k,A,img,rs,r1,r2,st,rv,hL',hh,hne,ht,hrm,hO⟩,fun j hj=>?_⟩);obtain⟨cs,T,fr,j1,j2,j3⟩:=hj;have hne2:=j3 rv (V.St.Ay.more hL.Md).2.1;have j4:=ho T j2 j cs fr (fun e=>hne2 e.symm) j1;refine⟨⟨cs,T,fr,j4,j2,fun rv' hr=>?_⟩,j4.trans j1.symm⟩;rw[(V.St.Ay.more hL'.Md).2.1]at hr;obtain rfl:=BS hr;exact hne2
   · exact absurd hfit.symm h0
def RnQ (X:List Value)(w:World)(B b sb n:Nat)(rm:Int)(O:TI→Prop)(lm:Bool)(E:Nat)(t:TI)(q:Int)(w':World):Prop:=
 (Below B w w'∧AX w w')∧((q=0∧Au (BG t.1 t.2)≤((n/2:Nat):Int)-1∧VL X w' B b sb n (((n/2:Nat):Int)-1-Au (BG t.1 t.2)) (Ce t) lm (E+1) t∧mh w w' sb)∨(q=13∧lm=true∧VD X w' B b sb n (fun u=>O u∨Ce t u) E)∨(q=11∧((n/2:Nat):Int)-1<Au (BG t.1 t.2)∧VL X w' B b sb n rm O lm E t))
def RnP (X:List Value)(w:World)(B b sb n:Nat)(rm:Int)(O:TI→Prop)(lm:Bool)(E:Nat)(t:TI)(e:Ending)(w':World):Prop:=
 ∃q:Int,e=.returned (.int .i64 q)∧RnQ X w B b sb n rm O lm E t q w'
theorem RnQ.from {q:Int}{w1:World}(h:RnQ X w1 B b sb n rm O lm E t q w')(hb:Below w.heap.size w w1)(hB:B≤w.heap.size)(hs:sb<w.heap.size):RnQ X w B b sb n rm O lm E t q w':=by
 obtain⟨⟨h1,h2⟩,h3⟩:=h;refine⟨⟨(hb.mono hB).trans h1,(AX.Ar hb).trans h2⟩,?_⟩;rcases h3 with⟨a,a2,a3,a4⟩|h3|h3
 · exact Or.inl ⟨a,a2,a3,(mh.below hb hs).trans a4⟩
 · exact Or.inr (Or.inl h3)
 · exact Or.inr (Or.inr h3)
theorem mY (h:VL X w B b sb n rm O lm E t)(hx:t.2≤9223372036854775807)(hE:E≤1000001)(hB:B≤w.heap.size) :
 Calls Tryz.prog 121 #[Ag sb,.string ⟨(BG t.1 t.2).toArray⟩] w (RnP X w B b sb n rm O lm E t):=by
 obtain⟨h',k,A,img,rs,r1,r2,st,rv,hL,hh,hne,ht,hrm,hO⟩:=h;have hg:Cj t:=ht.good;have h6:(BG t.1 t.2).length≤60000:=Jm hg;have h1:=Y0 t.1 t.2;have hsz:=size_bytes (BG t.1 t.2);have hfe:=Xx (S:=h') (A:=1) (s:=⟨(BG t.1 t.2).toArray⟩) (by omega) (by omega);have yL:Au (BG t.1 t.2)=(((⟨(BG t.1 t.2).toArray⟩:ByteArray).size+61)/62:Nat):=by unfold Au;rw[hsz]
 have hown:Cv (bl ⟨(BG t.1 t.2).toArray⟩) [] t:=Cv.own hg hx;have hall:=hL.live.all;refine(V.St.vQ ⟨(BG t.1 t.2).toArray⟩ hL (by omega) (by omega) hB).mono ?_;rintro e w' ⟨q,rfl,hc⟩;refine⟨q,rfl,?_⟩;rcases hc with⟨rfl,hfit,hb,ho,st',rv',hL',hp,hrow⟩|⟨hb,ho,⟨rfl,hlm,st',hD⟩|⟨h0,MC,hfit,hL'⟩⟩
 · obtain⟨_,_,h9⟩:=V.Ep hfit;refine⟨⟨hb,OJ ho⟩,Or.inl ⟨rfl,by rw[yL];omega,⟨h',!k,_,_,[],_,[],st',rv',hL',hh,by simp,hown,by rw[yL];omega,fun u hu=>PH.all rfl hown u hu⟩,fun j hj=>?_⟩⟩;obtain⟨cs,T,fr,j1,j2,j3⟩:=hj;have j4:=ho T j2 j cs fr j1;refine⟨⟨cs,T,fr,j4,j2,fun zR hr=>?_⟩,j4.trans j1.symm⟩;rw[(V.St.Ay.more hL'.Md).2.1]at hr;obtain rfl:=BS hr;rw[hrow];simp
 · refine⟨⟨hb,OJ ho⟩,Or.inr (Or.inl ⟨rfl,hlm,h',k,r1,r2,_,st',hD,hh,hL.live.h2,hL.live.n2,by rw[←hall];exact hL.live.sizes,hne,⟨t,img,rs,hall.symm,ht⟩,fun _=>⟨t,hown⟩,fun u hu=>?_⟩)⟩;rcases hu with⟨y,hy,hm⟩|⟨_,hm⟩
   · exact Or.inl (hO u (Or.inl ⟨y,hy,hm⟩))
   · exact Or.inr (hown.one hm)
 · refine⟨⟨hb,OJ ho⟩,?_⟩;rw[hfe]at hfit;split at hfit
   · exact Or.inr (Or.inr ⟨hfit.symm,by rw[yL];omega,h',k,A,img,rs,r1,r2,st,rv,hL',hh,hne,ht,hrm,hO⟩)
   · exact absurd hfit.symm h0
theorem vg (h:VL X w B b sb n rm O lm E t)(hB:B≤w.heap.size) :
 Calls Tryz.prog 33 #[Ag sb] w fun e w'=>∃q:Int,e=.returned (.int .i64 q)∧(Below B w w'∧AX w w')∧((q=0∧VL X w' B b sb n rm (Ce t) lm E t)∨(q=13∧lm=true∧VD X w' B b sb n O E)):=by
 obtain⟨h',k,A,img,rs,r1,r2,st,rv,hL,hh,hne,ht,hrm,hO⟩:=h;have hall:=hL.live.all;refine(V.St.zM hL hB).mono ?_;rintro e w' ⟨q,rfl,hb,ho,⟨rfl,st',hL'⟩|⟨rfl,hlm,st',hD⟩⟩
 · exact⟨0,rfl,⟨hb,OJ ho⟩,Or.inl ⟨rfl,h',k,A,img,rs,_,[],st',rv,hL',hh,by simp[hne],ht,hrm,fun u hu=>PH.all hall.symm ht u hu⟩⟩
 · exact⟨13,rfl,⟨hb,OJ ho⟩,Or.inr ⟨rfl,hlm,h',k,r1,r2,⟨#[]⟩,st',hD,hh,hL.live.h2,hL.live.n2,by rw[←hall];exact hL.live.sizes,hne,⟨t,img,rs,hall.symm,ht⟩,fun h0=>absurd rfl h0,hO⟩⟩
theorem vv (h:VD X w B b sb n O E):Calls Tryz.prog 33 #[Ag sb] w fun e w'=>e=.returned (.int .i64 13)∧Below w.heap.size w w':=by
 obtain⟨F,S,A,E',img,rv,hv⟩:=h.at;exact V.St.iU hv
theorem Wv (h:VL X w B b sb n rm O lm E t):Calls Tryz.prog 32 #[Ag sb] w fun e w'=>e=.returned (.bool false)∧w'=w:=by
 obtain⟨F,S,A,img,rv,hv,_⟩:=h.at;exact(V.St.oV hv).mono fun e w' ⟨h1,h2⟩=>⟨h1,h2.symm⟩
theorem eU (h:VD X w B b sb n O E):Calls Tryz.prog 32 #[Ag sb] w fun e w'=>e=.returned (.bool true)∧w'=w:=by
 obtain⟨F,S,A,E',img,rv,hv⟩:=h.at;exact(V.St.oV hv).mono fun e w' ⟨h1,h2⟩=>⟨h1,h2.symm⟩
theorem vk (h:VL X w B b sb n rm O lm E t):Calls Tryz.prog 43 #[Ag sb] w fun e w'=>e=.returned (.int .i64 rm)∧Below w.heap.size w w':=by
 obtain⟨F,S,A,img,rv,hv,h1,h2,rfl⟩:=h.at;exact V.St.u7 hv h1 h2
end
section
variable {B b sb n:Nat}{X:List Value}{rm sz:Int}{O:TI→Prop}{lm:Bool}{E:Nat}{t:TI}{w w':World}
set_option maxHeartbeats 2000000 in
theorem gz {g1 g2:Nat}(x:De)(h:VL X w B b sb n rm O lm E t)(hx:(EM t.1 t.2 x).2.2=0)(h1:w.heap[g1]?=some (.cells #[Ag sb] 27 (0,0)))(h2:w.heap[g2]?=some (.cells #[.string ⟨(Ac x).toArray⟩] 9 (0,0)))(hB:B≤w.heap.size) :
 Calls Tryz.prog 81 #[Ag g1,Ag g2] w (ApP X w B b sb n rm O lm E t (EM t.1 t.2 x).1 (Au (Ac x))):=by
 unfold ApP;have c1:w.drew.cell? ⟨g1,0,none⟩=some (Ag sb):=Ap h1 0;have c2:w.drew.cell? ⟨g2,0,none⟩=some (.string ⟨(Ac x).toArray⟩):=Ap h2 0;have e1:w.cell? ⟨g1,0,none⟩=some (Ag sb):=c1;have e2:w.cell? ⟨g2,0,none⟩=some (.string ⟨(Ac x).toArray⟩):=c2;have hdr:Below w.heap.size w w.drew:=Cy (Ad _ _);have cA:=iN x (h.below hdr) hx hB;unfold ApP at cA;have HF:Hid (∀q w',uX X w.drew B b sb n rm O lm E t (EM t.1 t.2 x).1 (Au (Ac x)) q w'→uX X w B b sb n rm O lm E t (EM t.1 t.2 x).1 (Au (Ac x)) q w'):=Aa fun q w' hq=>hq.from hdr hB h.hB.2
 generalize Au (Ac x)=f at *;generalize (EM t.1 t.2 x).1=t' at *;generalize (⟨(Ac x).toArray⟩:ByteArray)=s at *;clear h hx h1 h2 hdr;go_enter Tryz.func81,Tryz.ntmps81;go_wp2_with fail;go_still_tail 4,(by kernel_rfl);change wpList _ _ _ _ _ w.drew;generalize w.drew=w1 at *;go_wp2_with (go_at_call 24;refine cA.mono ?_;rintro e w2 ⟨q,rfl,hq⟩;have HQ:=Aa (HF.out q w2 hq);clear hq);go_ret;exact⟨q,rfl,HQ.out⟩
set_option maxHeartbeats 2000000 in
theorem nN (h:VL X w B b sb n rm O lm E t)(ht:Nu w X t.1 t.2)(hx:t.2≤9223372036854775807)(hE:E≤1000001)(hB:B≤w.heap.size) :
 Calls Tryz.prog 82 #[Ag sb] w (RnP X w B b sb n rm O lm E t):=by
 unfold RnP;obtain⟨F,S,A,img,rv,hv,_⟩:=h.at;have hte:=ht.te hv;have cC:=yS.Ho hte;have hc1:¬t.2<1:=by have:=ht.good.Ml;omega
 have CE:Hid (∀W,Below w.heap.size w W→Calls Tryz.prog 72 #[Q9 sb] W fun e w'=>e=.returned (.string ⟨(BG t.1 t.2).toArray⟩)∧Below W.heap.size W w'):=Aa fun W hW=>yS.Pn (yS.below hte hW) hx
 have CR:Hid (∀W,Below w.heap.size w W→Calls Tryz.prog 121 #[Ag sb,.string ⟨(BG t.1 t.2).toArray⟩] W fun e w'=>∃q:Int,e=.returned (.int .i64 q)∧RnQ X w B b sb n rm O lm E t q w'):=Aa fun W hW=>(mY (h.below hW) hx hE (Ao hB hW.size)).mono fun e w' ⟨q,he,hq⟩=>⟨q,he,hq.from hW hB h.hB.2⟩
 have HD0:Hid (Below w.heap.size w w.drew):=Aa (Cy (Ad _ _));obtain⟨Q,hQ⟩:∃Q:Int→World→Prop,RnQ X w B b sb n rm O lm E t=Q:=⟨_,rfl⟩;rw[hQ]at CR ⊢;generalize (⟨(BG t.1 t.2).toArray⟩:ByteArray)=s at *;generalize t.2=nx at *;clear h ht hv hte hx hE hQ;go_enter Tryz.func82,Tryz.ntmps82;go_wp2_with (go_at_call 66;refine cC.mono ?_;rintro e w1 ⟨rfl,rfl⟩);go_region_with (first|(go_at_call 72;(refine(CE.out _ HD0.out).mono ?_);rintro e w2 ⟨rfl,hb2⟩;have HB3:=Aa (HD0.out.trans hb2))|(go_at_call 121;refine(CR.out _ HB3.out).mono ?_;rintro e w3 ⟨q,rfl,hq⟩))
 all_goals (try go_wp2)
 all_goals go_ret
 all_goals exact⟨q,rfl,hq⟩
theorem OQ {x:De}(hx:(EM t.1 t.2 x).2.2=0)(h1:Au (Ac x)≤rm):Ck t sz rm x=(((EM t.1 t.2 x).1,rm-Au (Ac x)),(EM t.1 t.2 x).2.1,0):=by
 unfold Ck;rw[if_neg (by simpa using Qj hx),if_neg (by simpa using hx),if_pos h1]
theorem WK {x:De}(hx:(EM t.1 t.2 x).2.2=0)(h1:¬Au (Ac x)≤rm)(h2:sz<Au (BG t.1 t.2)):Ck t sz rm x=((t,rm),0,11):=by
 unfold Ck;rw[if_neg (by simpa using Qj hx),if_neg (by simpa using hx),if_neg h1,if_pos h2]
theorem OP {x:De}(hx:(EM t.1 t.2 x).2.2=0)(h1:¬Au (Ac x)≤rm)(h2:Au (BG t.1 t.2)≤sz)(h3:Au (Ac x)≤sz-Au (BG t.1 t.2)):Ck t sz rm x=(((EM t.1 t.2 x).1,sz-Au (BG t.1 t.2)-Au (Ac x)),(EM t.1 t.2 x).2.1,0):=by
 unfold Ck;rw[if_neg (by simpa using Qj hx),if_neg (by simpa using hx),if_neg h1,if_neg (by omega),if_pos h3]
theorem Sw {x:De}(hx:(EM t.1 t.2 x).2.2=0)(h1:¬Au (Ac x)≤rm)(h2:Au (BG t.1 t.2)≤sz)(h3:¬Au (Ac x)≤sz-Au (BG t.1 t.2)):Ck t sz rm x=((t,sz-Au (BG t.1 t.2)),0,11):=by
 unfold Ck;rw[if_neg (by simpa using Qj hx),if_neg (by simpa using hx),if_neg h1,if_neg (by omega),if_neg h3]
def lW (X:List Value)(w:World)(B b sb n:Nat)(sz rm:Int)(O:TI→Prop)(lm:Bool)(E:Nat)(t:TI)(x:De)(q:Int)(w':World):Prop:=
 (Below B w w'∧AX w w')∧∃(O':TI→Prop) (E':Nat),E'≤E+1∧(∀u,O' u→O u∨Ce t u∨Ce (Ck t sz rm x).1.1 u)∧((q=(Ck t sz rm x).2.2∧VL X w' B b sb n (Ck t sz rm x).1.2 O' lm E' (Ck t sz rm x).1.1)∨(q=13∧lm=true∧VD X w' B b sb n O' E'))
def KeP (X:List Value)(w:World)(B b sb n:Nat)(sz rm:Int)(O:TI→Prop)(lm:Bool)(E:Nat)(t:TI)(x:De)(e:Ending)(w':World):Prop:=
 ∃q:Int,e=.returned (.int .i64 q)∧lW X w B b sb n sz rm O lm E t x q w'
theorem lW.from {x:De}{q:Int}{w1:World}(h:lW X w1 B b sb n sz rm O lm E t x q w')(hb:Below w.heap.size w w1)(hB:B≤w.heap.size):lW X w B b sb n sz rm O lm E t x q w':=by
 obtain⟨⟨h1,h2⟩,h3⟩:=h;exact⟨⟨(hb.mono hB).trans h1,(AX.Ar hb).trans h2⟩,h3⟩
theorem qd {x:De}{q:Int}(hx:(EM t.1 t.2 x).2.2=0)(hq:q≠11)(h:uX X w B b sb n rm O lm E t (EM t.1 t.2 x).1 (Au (Ac x)) q w'):lW X w B b sb n sz rm O lm E t x q w':=by
 obtain⟨h0,h⟩:=h;refine⟨h0,?_⟩;rcases h with⟨rfl,hf,hv⟩|⟨rfl,hl,hv⟩|⟨h1,_⟩
 · refine⟨fun u=>O u∨Ce (EM t.1 t.2 x).1 u,E,by omega,fun u hu=>?_,Or.inl ⟨?_,?_⟩⟩;rotate_left
   · rw[OQ hx hf]
   · rw[OQ hx hf];exact hv
   · rw[OQ hx hf];rcases hu with h|h
     · exact Or.inl h
     · exact Or.inr (Or.inr h)
 · refine⟨fun u=>O u∨(Au (Ac x)≤rm∧Ce (EM t.1 t.2 x).1 u),E,by omega,fun u hu=>?_,Or.inr ⟨rfl,hl,hv⟩⟩;rcases hu with h|⟨hf,h⟩
   · exact Or.inl h
   · rw[OQ hx hf];exact Or.inr (Or.inr h)
 · exact absurd h1 hq
theorem qc {x:De}{q:Int}{w1:World}(hx:(EM t.1 t.2 x).2.2=0)(hsz:sz=((n/2:Nat):Int)-1)(hf:¬Au (Ac x)≤rm)(h0:Below B w w1∧AX w w1)(hq:q≠0)(h:RnQ X w1 B b sb n rm O lm E t q w'):lW X w B b sb n sz rm O lm E t x q w':=by
 obtain⟨h1,h⟩:=h;refine⟨⟨h0.1.trans h1.1,h0.2.trans h1.2⟩,?_⟩;rcases h with⟨h2,_⟩|⟨rfl,hl,hv⟩|⟨rfl,hk,hv⟩
 · exact absurd h2 hq
 · refine⟨fun u=>O u∨Ce t u,E,by omega,fun u hu=>?_,Or.inr ⟨rfl,hl,hv⟩⟩;rcases hu with h|h
   · exact Or.inl h
   · exact Or.inr (Or.inl h)
 · subst hsz;exact⟨O,E,by omega,fun u hu=>Or.inl hu,Or.inl ⟨by rw[WK hx hf hk],by rw[WK hx hf hk];exact hv⟩⟩
theorem qg {x:De}{q:Int}{w1:World}(hx:(EM t.1 t.2 x).2.2=0)(hf:¬Au (Ac x)≤rm)(hk:Au (BG t.1 t.2)≤sz)(h0:Below B w w1∧AX w w1)(h:uX X w1 B b sb n (sz-Au (BG t.1 t.2)) (Ce t) lm (E+1) t (EM t.1 t.2 x).1 (Au (Ac x)) q w'):lW X w B b sb n sz rm O lm E t x q w':=by
 obtain⟨h1,h⟩:=h;refine⟨⟨h0.1.trans h1.1,h0.2.trans h1.2⟩,?_⟩;rcases h with⟨rfl,hf2,hv⟩|⟨rfl,hl,hv⟩|⟨rfl,hf2,hv,_⟩
 · refine⟨fun u=>Ce t u∨Ce (EM t.1 t.2 x).1 u,E+1,Ae _,fun u hu=>?_,Or.inl ⟨?_,?_⟩⟩;rotate_left
   · rw[OP hx hf hk hf2]
   · rw[OP hx hf hk hf2];exact hv
   · rw[OP hx hf hk hf2];exact Or.inr hu
 · refine⟨fun u=>Ce t u∨(Au (Ac x)≤sz-Au (BG t.1 t.2)∧Ce (EM t.1 t.2 x).1 u),E+1,Ae _,fun u hu=>?_,Or.inr ⟨rfl,hl,hv⟩⟩;rcases hu with h|⟨hf2,h⟩
   · exact Or.inr (Or.inl h)
   · rw[OP hx hf hk hf2];exact Or.inr (Or.inr h)
 · exact⟨Ce t,E+1,Ae _,fun u hu=>Or.inr (Or.inl hu),Or.inl ⟨by rw[Sw hx hf hk hf2],by rw[Sw hx hf hk hf2];exact hv⟩⟩
set_option maxHeartbeats 4000000 in
theorem Abd {g1 g2:Nat}(x:De)(h:VL X w B b sb n rm O lm E t)(ht:Nu w X t.1 t.2)(hx:(EM t.1 t.2 x).2.2=0)(hxm:t.2≤9223372036854775807)(hE:E≤1000000)(hsz:sz=((n/2:Nat):Int)-1)
 (h1:w.heap[g1]?=some (.cells #[Ag sb] 27 (0,0))) (h2:w.heap[g2]?=some (.cells #[.string ⟨(Ac x).toArray⟩] 9 (0,0))) (a1:Aw w sb g1) (a2:Aw w sb g2) (hB:B≤w.heap.size) :
 Calls Tryz.prog 83 #[.agg #[.func (.func 81) #[] #[Ag g1,Ag g2],.func (.func 82) #[Ag sb] #[]]] w (KeP X w B b sb n sz rm O lm E t x):=by
 unfold KeP;have hb0:Below w.heap.size w (w.alloc (.cells #[.func (.func 81) #[] #[Ag g1,Ag g2],.func (.func 82) #[Ag sb] #[]] 156)):=(Ad _ _).alloc (Ae _) _;have hsb:=h.hB.2;have hnew:=Ai w (.cells #[.func (.func 81) #[] #[Ag g1,Ag g2],.func (.func 82) #[Ag sb] #[]] 156);have hga:Aw (w.alloc (.cells #[.func (.func 81) #[] #[Ag g1,Ag g2],.func (.func 82) #[Ag sb] #[]] 156)) sb w.heap.size:=h.aw hb0 (Ae _) hnew (by decide);go_enter Tryz.func83,Tryz.ntmps83;go_upto_region 1 with fail;generalize (w.alloc (.cells #[.func (.func 81) #[] #[Ag g1,Ag g2],.func (.func 82) #[Ag sb] #[]] 156))=W at *;have hBW:B≤W.heap.size:=Ao hB hb0.size;have hl1:=h.below hb0;have ht1:=ht.EO (AX.Ar hb0);have cK:=gz x hl1 hx (by rw[hb0.block g1 (Ab h1)];exact h1) (by rw[hb0.block g2 (Ab h2)];exact h2) hBW;unfold ApP at cK;have HAT:Hid (∀W',mh W W' sb→(W'.cell? ⟨w.heap.size,0,none⟩=some (.func (.func 81) #[] #[Ag g1,Ag g2])∧W'.cell? ⟨w.heap.size,1,none⟩=some (.func (.func 82) #[Ag sb] #[]))∧W'.heap[g1]?=some (.cells #[Ag sb] 27 (0,0))∧W'.heap[g2]?=some (.cells #[.string ⟨(Ac x).toArray⟩] 9 (0,0))):=Aa fun W' hk=>by
  have k0:=(hk w.heap.size hga).2.trans hnew;have k1:=(hk g1 (a1.below hb0 hsb).1).2.trans ((a1.below hb0 hsb).2.trans h1);have k2:=(hk g2 (a2.below hb0 hsb).1).2.trans ((a2.below hb0 hsb).2.trans h2);exact⟨⟨Ap k0 0,Ap k0 1⟩,k1,k2⟩
 have HT1:=Aa ht1;have AbZ:Hid (Below B w W∧AX w W):=Aa ⟨hb0.mono hB,AX.Ar hb0⟩;have HX:=Aa hx;have Qq:=Aa hsz;have HB:=Aa hBW;have UD:Hid (∀q w',q≠11→uX X W B b sb n rm O lm E t (EM t.1 t.2 x).1 (Au (Ac x)) q w'→lW X w B b sb n sz rm O lm E t x q w'):=Aa fun q w' hq hp=>(qd hx hq hp).from hb0 hB
 obtain⟨⟨c0,c1⟩,_,_⟩:=HAT.out W (fun k hk=>⟨hk,rfl⟩);clear h ht hx hsz h1 h2 a1 a2 hb0 hnew hga hl1 ht1 hBW;go_upto_region 2 with(go_at_call 81;refine cK.mono ?_;rintro e w2 ⟨q,rfl,hq⟩;have HQ:=Aa hq;clear hq);clear c0 c1 cK;by_cases hq:q=11
 · subst hq;obtain⟨hp,hc⟩:=HQ.out;obtain⟨hnf,hl2,hk2⟩:¬Au (Ac x)≤rm∧VL X w2 B b sb n rm O lm E t∧mh W w2 sb:=by
    rcases hc with⟨h1,_⟩|⟨h1,_⟩|⟨_,h2⟩
    · exact absurd h1 (by decide)
    · exact absurd h1 (by decide)
    · exact h2
   have ht2:=HT1.out.EO hp.2;have hB2:=Ao HB.out hp.1.size;have cR:=nN hl2 ht2 hxm (by omega) hB2;unfold RnP at cR;obtain⟨⟨c0,c1⟩,_,_⟩:=HAT.out w2 hk2;have zg:=Aa hnf;have mG:=Aa hk2;have HT2:=Aa ht2;have HB2:=Aa hB2;have AaZ:Hid (Below B w w2∧AX w w2):=Aa ⟨AbZ.out.1.trans hp.1,AbZ.out.2.trans hp.2⟩;clear hp hc hnf hl2 hk2 ht2 hB2;go_upto_region 5 with(go_at_call 82;refine cR.mono ?_;rintro e w3 ⟨q2,rfl,hq2⟩;have Kh:=Aa hq2;clear hq2);clear c0 c1 cR;by_cases hq2:q2=0
   · subst hq2;obtain⟨hp,hc⟩:=Kh.out;obtain⟨hkk,hl3,hk3⟩:Au (BG t.1 t.2)≤((n/2:Nat):Int)-1∧VL X w3 B b sb n (((n/2:Nat):Int)-1-Au (BG t.1 t.2)) (Ce t) lm (E+1) t∧mh w2 w3 sb:=by
      rcases hc with⟨_,h2⟩|⟨h1,_⟩|⟨h1,_⟩
      · exact h2
      · exact absurd h1 (by decide)
      · exact absurd h1 (by decide)
     obtain⟨⟨c0,c1⟩,k1,k2⟩:=HAT.out w3 (mG.out.trans hk3);have hB3:=Ao HB2.out hp.1.size;have cK:=gz x hl3 HX.out k1 k2 hB3;unfold ApP at cK;have Ex:Hid (∀q w',uX X w3 B b sb n (((n/2:Nat):Int)-1-Au (BG t.1 t.2)) (Ce t) lm (E+1) t (EM t.1 t.2 x).1 (Au (Ac x)) q w'→lW X w B b sb n sz rm O lm E t x q w'):=Aa fun q w' hp3=>by
      have h9:=Qq.out;subst h9;exact qg HX.out (Int.not_le.2 zg.out) hkk ⟨AaZ.out.1.trans hp.1,AaZ.out.2.trans hp.2⟩ hp3
     clear hp hc hkk hl3 hk3 k1 k2 hB3;go_wp2_with (go_at_call 81;refine cK.mono ?_;rintro e w4 ⟨q3,rfl,hq3⟩;have Nl:=Aa (Ex.out q3 w4 hq3);clear hq3);go_ret;exact⟨q3,rfl,Nl.out⟩
   · have hqz:(q2==0)=false:=Ba.2 hq2;have HE:=Aa (qc HX.out Qq.out (Int.not_le.2 zg.out) AaZ.out hq2 Kh.out);clear hq2;go_wp2;go_ret;exact⟨q2,rfl,HE.out⟩
 · have hqz:(q==11)=false:=Ba.2 hq;have HE:=Aa (UD.out q w2 hq HQ.out);clear hq;go_wp2;go_ret;exact⟨q,rfl,HE.out⟩
set_option maxHeartbeats 2000000 in
theorem Aai (x:De)(h:VL X w B b sb n rm O lm E t)(ht:Nu w X t.1 t.2)(hx:(EM t.1 t.2 x).2.2=0)(hxm:t.2≤9223372036854775807)(hE:E≤1000000)(hsz:sz=((n/2:Nat):Int)-1)(hB:B≤w.heap.size) :
 Calls Tryz.prog 37 #[Ag sb,.string ⟨(Ac x).toArray⟩] w (KeP X w B b sb n sz rm O lm E t x):=by
 unfold KeP;obtain⟨W,hW⟩:∃W,(w.alloc (.cells #[Ag sb] 27)).alloc (.cells #[.string ⟨(Ac x).toArray⟩] 9)=W:=⟨_,rfl⟩;have hbW:Below w.heap.size w W:=by rw[←hW];exact((Ad _ _).alloc (Ae _) _).alloc (by simp) _
 have h2:W.heap[w.heap.size+1]?=some (.cells #[.string ⟨(Ac x).toArray⟩] 9 (0,0)):=by
  rw[←hW];have:=Ai (w.alloc (.cells #[Ag sb] 27)) (.cells #[.string ⟨(Ac x).toArray⟩] 9);rwa[show(w.alloc (.cells #[Ag sb] 27)).heap.size=w.heap.size+1 by simp]at this
 have h1:W.heap[w.heap.size]?=some (.cells #[Ag sb] 27 (0,0)):=by
  rw[←hW,Ct _ _ _ (by simp)];exact Ai _ _
 have hBW:=Ao hB hbW.size;have cR:=Abd x (h.below hbW) (ht.EO (AX.Ar hbW)) hx hxm hE hsz h1 h2 (h.aw hbW (Ae _) h1 (by decide)) (h.aw hbW (by omega) h2 (by decide)) hBW;unfold KeP at cR;have k1:W.cell? ⟨w.heap.size,0,none⟩=some (Ag sb):=Ap h1 0;have HF:Hid (∀q w',lW X W B b sb n sz rm O lm E t x q w'→lW X w B b sb n sz rm O lm E t x q w'):=Aa fun q w' hq=>hq.from hbW hB
 generalize (⟨(Ac x).toArray⟩:ByteArray)=s at *;clear h ht hx hsz h1 h2 hBW hbW;go_enter Tryz.func37,Tryz.ntmps37;go_upto_region 1 with fail
 try rw[hW]
 clear hW;go_wp2_with (go_at_call 83;refine cR.mono ?_;rintro e w2 ⟨q,rfl,hq⟩;have HQ:=Aa (HF.out q w2 hq);clear hq);go_ret;exact⟨q,rfl,HQ.out⟩
end
theorem set_tail {a X Y:List Value}(ha:a.length=8)(hX:X.length=Y.length):(a++X).take 8++Y++(a++X).drop (8+Y.length)=a++Y:=by
 rw[List.take_append_of_le_length (by omega),CV (by omega),List.drop_eq_nil_of_le (by rw[A7];omega),Cz]
section
variable {B b sb n:Nat}{X:List Value}{rm sz:Int}{O:TI→Prop}{lm:Bool}{E:Nat}{t:TI}{w w':World}
theorem VL.vI {Y:List Value}(h:VL X w B b sb n rm O lm E t)(hX:X.length=406)(hY:Y.length=406):VL Y (w.setCells sb 8 Y) B b sb n rm O lm E t∧V.Off V.DT w (w.setCells sb 8 Y)∧Below B w (w.setCells sb 8 Y):=by
 obtain⟨h',k,A,img,rs,r1,r2,st,rv,a1,a⟩:=h;have hv:w.heap[sb]?=some (.cells _ 98 (0,0)):=a1.Md;have ho:V.Off V.DT w (w.setCells sb 8 Y):=(V.Off.refl V.DT w).setCells hv (by decide) Y;refine⟨⟨h',k,A,img,rs,r1,r2,st,rv,⟨a1.live,a1.dev.off ((V.Off.refl [82,84,98] w).setCells hv (by simp) Y) (by decide) (by decide) (by decide),?_,a1.row.off ho,a1.hvb⟩,a⟩,ho,Below.setCells (Ad _ _) a1.hvb 8 Y⟩;have e:∀Q:List Value,V.Xl b (V.BH h' k) h' A E++([.string img,rv,.bool true]++Q)=(V.Xl b (V.BH h' k) h' A E++[.string img,rv,.bool true])++Q:=fun Q=>(Ch _ _ _).symm
 have h8:=Cm sb 98 Y 8 w (V.Xl b (V.BH h' k) h' A E++([.string img,rv,.bool true]++X)) a1.Md (by simp[V.Xl,hX,hY]);rw[e X,set_tail (by simp[V.Xl]) (by omega)]at h8;show(w.setCells sb 8 Y).heap[sb]?=_
 rw[h8,e Y]
def SL (w:World)(B b sb n:Nat)(t:TI)(rm:Int)(O:TI→Prop)(lm:Bool)(E:Nat):Prop:=∃X,VL X w B b sb n rm O lm E t∧Nu w X t.1 t.2
def SD (w:World)(B b sb n:Nat)(O:TI→Prop)(E:Nat):Prop:=∃X,VD X w B b sb n O E
theorem SL.below (h:SL w B b sb n t rm O lm E)(hb:Below w.heap.size w w'):SL w' B b sb n t rm O lm E:=by
 obtain⟨X,h1,h2⟩:=h;exact⟨X,h1.below hb,h2.keep (EC.Ar hb)⟩
theorem nR {x:De}(hx:(EM t.1 t.2 x).2.2=0)(h:(Ck t sz rm x).2.2=0):(Ck t sz rm x).1.1=(EM t.1 t.2 x).1∧(Ck t sz rm x).2.1=(EM t.1 t.2 x).2.1:=by
 by_cases h1:Au (Ac x)≤rm
 · rw[OQ hx h1];exact⟨rfl,rfl⟩
 · by_cases h2:sz<Au (BG t.1 t.2)
   · rw[WK hx h1 h2]at h;exact absurd h (by show ¬(11:Int)=0;decide)
   · by_cases h3:Au (Ac x)≤sz-Au (BG t.1 t.2)
     · rw[OP hx h1 (by omega) h3];exact⟨rfl,rfl⟩
     · rw[Sw hx h1 (by omega) h3]at h;exact absurd h (by show ¬(11:Int)=0;decide)
theorem nT {x:De}(h:(Ck t sz rm x).2.2≠0):(Ck t sz rm x).2.1=0:=by
 unfold Ck at h ⊢;split
 · rfl
 · rename_i h1;rw[if_neg h1]at h;split
   · rfl
   · rename_i h2;rw[if_neg h2]at h;split
     · rename_i h3;rw[if_pos h3]at h;exact absurd rfl h
     · rename_i h3;rw[if_neg h3]at h;split
       · rfl
       · rename_i h4;rw[if_neg h4]at h;split
         · rename_i h5;rw[if_pos h5]at h;exact absurd rfl h
         · rfl
def DoX (w:World)(B b sb n:Nat)(t:TI)(rm:Int)(O:TI→Prop)(lm:Bool)(E:Nat)(x:De)(e:Ending)(w':World):Prop:=
 Below B w w'∧AX w w'∧∃(O':TI→Prop) (E':Nat),E'≤E+1∧(∀u,O' u→O u∨Ce t u∨Ce (Ck t (((n/2:Nat):Int)-1) rm x).1.1 u) ∧
  ((e=.returned (.tuple #[.int .i64 (Ck t (((n/2:Nat):Int)-1) rm x).2.1,.int .i64 (Ck t (((n/2:Nat):Int)-1) rm x).2.2])∧SL w' B b sb n (Ck t (((n/2:Nat):Int)-1) rm x).1.1 (Ck t (((n/2:Nat):Int)-1) rm x).1.2 O' lm E') ∨
   (lm=true∧e=.returned (.tuple #[.int .i64 0,.int .i64 13])∧SD w' B b sb n O' E'))
abbrev gZ (x:De):Obj:=.cells #[.int .i64 x.k,.int .i64 x.d,.int .i64 x.dt,.string x.s,.string x.ns,.bool x.Bg,.int .i64 x.sh] 38
set_option maxHeartbeats 4000000 in
theorem AbO (x:De)(hL:SL w B b sb n t rm O lm E)(hm:¬May x)(hB:B≤w.heap.size):Calls Tryz.prog 14 #[Ag sb,Ga x] w (DoX w B b sb n t rm O lm E x):=by
 unfold DoX;have hb0:Below w.heap.size w (w.alloc (gZ x)):=(Ad _ _).alloc (Ae _) _;obtain⟨X,hV,hT⟩:=hL;have cO:=Wv (hV.below hb0);have cE:=fun W=>TR x W hm
 unfold Us Ga at cE;have hR:Ck t (((n/2:Nat):Int)-1) rm x=((t,rm),0,1):=by unfold Ck;rw[if_pos hm]
 have ek:Hid (∀w',Below (w.alloc (gZ x)).heap.size (w.alloc (gZ x)) w'→Below B w w'∧AX w w'∧SL w' B b sb n t rm O lm E):=Aa fun w' hb=>by
  have h1:=hb0.trans (hb.mono hb0.size);exact⟨h1.mono hB,AX.Ar h1,SL.below ⟨X,hV,hT⟩ h1⟩
 have c0:=Ap (Ai w (gZ x));have cc:∀j v,#[Value.int .i64 x.k,.int .i64 x.d,.int .i64 x.dt,.string x.s,.string x.ns,.bool x.Bg,.int .i64 x.sh][j]?=some v→(w.alloc (gZ x)).cell? ⟨w.heap.size,j,none⟩=some v:=fun j v h=>(c0 j).trans h
 have k0:=cc 0 _ rfl;have k1:=cc 1 _ rfl;have k2:=cc 2 _ rfl;have k3:=cc 3 _ rfl;have k4:=cc 4 _ rfl;have k5:=cc 5 _ rfl;have k6:=cc 6 _ rfl;rw[hR];unfold gZ at *;clear c0 cc hV hT hb0 hR;obtain⟨k,d,dt,s,ns,Bg,shr⟩:=x;simp only[Ga]at *;go_enter Tryz.func14,Tryz.ntmps14;go_upto_region 1 with fail;generalize (w.alloc (.cells #[.int .i64 k,.int .i64 d,.int .i64 dt,.string s,.string ns,.bool Bg,.int .i64 shr] 38))=W at *;go_wp2_with (first
  | (go_at_call 32;refine cO.mono ?_;rintro e w1 ⟨rfl,rfl⟩)
  | (go_at_call 34;refine(cE _).mono ?_;rintro e w2 ⟨rfl,hb2⟩;have HX:=Aa (ek.out _ hb2);clear hb2))
 go_ret2;obtain⟨h1,h2,h3⟩:=HX.out;exact⟨h1,h2,O,E,by omega,fun u hu=>Or.inl hu,Or.inl ⟨rfl,h3⟩⟩
set_option maxHeartbeats 8000000 in
theorem AaH (x:De)(hL:SL w B b sb n t rm O lm E)(hm:May x)(hx:t.2≤9223372036854775000)(hE:E≤1000000)(hB:B≤w.heap.size):Calls Tryz.prog 14 #[Ag sb,Ga x] w (DoX w B b sb n t rm O lm E x):=by
 unfold DoX;have hb0:Below w.heap.size w (w.alloc (gZ x)):=(Ad _ _).alloc (Ae _) _;obtain⟨X,hV,hT⟩:=hL;have HV:=Aa hV;have HT:=Aa hT;have cO:=Wv (hV.below hb0);have cE:=fun W=>Lr x W hm
 unfold LA Ga at cE;have CC:Hid (∀W,Below w.heap.size w W→Calls Tryz.prog 35 #[Q9 sb] W fun e w'=>∃b2 S2,e=.returned (Ag b2)∧Bl.Is w' b2 t.1 t.2 S2∧(∀k,S2 k→W.heap.size≤k)∧Below W.heap.size W w'):=Aa fun W hW=>by
  obtain⟨F,S,A,img,rv,hv,_⟩:=(HV.out.below hW).at;exact yS.clone ((HT.out.keep (EC.Ar hW)).te hv)
 have CD:Hid (∀W b2 S2,Bl.Is W b2 t.1 t.2 S2→Calls Tryz.prog 36 #[Ag b2,Ga x] W (CS Bl W b2 S2 (EM t.1 t.2 x))):=Aa fun W b2 S2 hI=>Zw Bl x hI (by omega)
 have CK:Hid ((EM t.1 t.2 x).2.2=0→∀W,Below w.heap.size w W→Calls Tryz.prog 37 #[Ag sb,.string ⟨(Ac x).toArray⟩] W fun e w'=>∃q:Int,e=.returned (.int .i64 q)∧lW X W B b sb n (((n/2:Nat):Int)-1) rm O lm E t x q w'):=Aa fun h0 W hW=>Aai x (HV.out.below hW) (HT.out.keep (EC.Ar hW)) h0 (by omega) hE rfl (Ao hB hW.size)
 have JV:Hid (∀W,Below (w.alloc (gZ x)).heap.size (w.alloc (gZ x)) W→W.heap[w.heap.size]?=some (gZ x)):=Aa fun W hW=>by
  rw[hW.block w.heap.size (by simp)];exact Ai _ _
 have eu:Hid (∀W:World,W.heap[w.heap.size]?=some (gZ x)→W.cell? ⟨w.heap.size,0,none⟩=some (.int .i64 x.k)∧W.cell? ⟨w.heap.size,1,none⟩=some (.int .i64 x.d)∧W.cell? ⟨w.heap.size,2,none⟩=some (.int .i64 x.dt)∧W.cell? ⟨w.heap.size,3,none⟩=some (.string x.s)∧W.cell? ⟨w.heap.size,4,none⟩=some (.string x.ns)∧W.cell? ⟨w.heap.size,5,none⟩=some (.bool x.Bg)∧W.cell? ⟨w.heap.size,6,none⟩=some (.int .i64 x.sh)):=Aa fun W h=>⟨Ap h 0,Ap h 1,Ap h 2,Ap h 3,Ap h 4,Ap h 5,Ap h 6⟩
 have HM:=Aa hm;have HX0:=Aa hx;have zy:=Aa hE;have HB0:=Aa hb0;obtain⟨k0,k1,k2,k3,k4,k5,k6⟩:=eu.out _ (JV.out _ (Ad _ _));obtain⟨s0,hs0⟩:∃s0:ByteArray,(⟨(Ac x).toArray⟩:ByteArray)=s0:=⟨_,rfl⟩;obtain⟨R,hR⟩:∃R,EM t.1 t.2 x=R:=⟨_,rfl⟩;have HR:=Aa hR;rw[hs0]at cE CK;rw[hR]at CD CK;clear hV hT hb0 hm hx hE hs0 hR;obtain⟨Z,hZ⟩:∃Z,Ck t (((n/2:Nat):Int)-1) rm x=Z:=⟨_,rfl⟩;have HZ:=Aa hZ;rw[hZ];clear hZ;obtain⟨XX,hXX⟩:∃XX,x=XX:=⟨_,rfl⟩;have yX:=Aa hXX;rw[hXX]at HM HR HZ;have CK2:Hid (R.2.2=0→∀W,Below w.heap.size w W→Calls Tryz.prog 37 #[Ag sb,.string s0] W fun e w'=>∃q:Int,e=.returned (.int .i64 q)∧lW X W B b sb n (((n/2:Nat):Int)-1) rm O lm E t XX q w'):=Aa (by rw[←hXX];exact CK.out);clear CK hXX yX;unfold CS Ga at CD;unfold gZ at *;obtain⟨k,d,dt,s,ns,Bg,shr⟩:=x;simp only[Ga]at k0 k1 k2 k3 k4 k5 k6 cE ⊢;go_enter Tryz.func14,Tryz.ntmps14;go_upto_region 1 with fail;generalize (w.alloc (.cells #[.int .i64 k,.int .i64 d,.int .i64 dt,.string s,.string ns,.bool Bg,.int .i64 shr] 38))=W at *;go_upto_region 7 with(first
  | (go_at_call 32;refine cO.mono ?_;rintro e w1 ⟨rfl,rfl⟩)
  | (go_at_call 34;refine(cE _).mono ?_;rintro e w2 ⟨rfl,hb2⟩;have HB2:=Aa hb2;clear hb2)
  | (go_at_call 35;refine(CC.out _ (HB0.out.trans (HB2.out.mono HB0.out.size))).mono ?_;rintro e w3 ⟨b2,S2,rfl,hi2,hs2,hb3⟩;have HI3:=Aa hi2;have y9:=Aa hs2;have HB3:=Aa hb3;clear hi2 hs2 hb3))
 clear k0 k1 k2 k3 k4 k5 k6 cO cE;have cD:=CD.out _ b2 S2 HI3.out
 try simp only at cD
 obtain⟨k0,k1,k2,k3,k4,k5,k6⟩:=eu.out _ (JV.out _ (HB2.out.trans (HB3.out.mono HB2.out.size)))
 try simp only at k0 k1 k2 k3 k4 k5 k6
 go_upto_region 8 with(go_at_call 36;refine cD.mono ?_;rintro e w4 ⟨S4,rfl,hi4,yE⟩;have HI4:=Aa hi4;have ZU:=Aa yE;clear hi4 yE);clear k0 k1 k2 k3 k4 k5 k6 cD;have xw:=HB0.out.trans (HB2.out.mono HB0.out.size);have Aaz:=xw.trans (HB3.out.mono xw.size);have hlow:=ZU.out.low Aaz.size (fun k hk=>Ao xw.size (y9.out k hk));have LY:Hid (Below w.heap.size w w4):=Aa (Aaz.trans hlow.1);clear xw Aaz hlow eu JV CD CC HB2 HB3 y9 HI3 ZU;have hno:R.2.2≠0→(EM t.1 t.2 XX).2.2≠0:=fun h=>by rw[HR.out];exact h
 have Z9:=Aa hno;clear hno;by_cases h0:R.2.2=0
 · have cK:=CK2.out h0 w4 LY.out;have hHH:=Aa h0;obtain⟨⟨⟨l5,nx5⟩,n5⟩,rfl⟩:∃r:(TI×Int),R=(r.1,r.2,0):=⟨(R.1,R.2.1),by rw[←h0]⟩;clear h0 hHH
   try simp only at HI4 cK ⊢
   go_upto_region 11 with(go_at_call 37;refine cK.mono ?_;rintro e w5 ⟨q,rfl,hq⟩;have HQ:=Aa hq;clear hq);clear cK;by_cases hq:q=0
   · subst hq;have hdx:(EM t.1 t.2 XX).2.2=0:=by rw[HR.out]
     obtain⟨⟨hbq,yF⟩,O',E',hE',yN,⟨hz,hV5⟩|⟨MC,_⟩⟩:=HQ.out;rotate_left
     · exact absurd MC (by decide)
     obtain⟨hz1,hz2⟩:=nR hdx hz.symm;have hI5:=iQ HI4.out yF hbq.size;obtain⟨cs,hc,hcs,hone,hT5⟩:=Nu.of hI5;have hXl:=HT.out.len;obtain⟨hV6,ho6,hb6⟩:=hV5.vI (Y:=cs.toList) hXl (by rw[BQ];exact hcs);have hld:(Instr.loadAt 96 (.pointer (some ⟨b2,0,none⟩))).run Tryz.prog w5=.ok (.agg cs) w5:=by
      have:=run_loadAt_mid (P:=Tryz.prog) w5 b2 0 96 cs.toList _ (fun j x hx=>by
       rw[Gh,AB _ _ _ _ _ _ hc,←Array.getElem?_toList];exact hx) Tryz.underlying96 rfl (by rw[BQ,hcs];exact Tryz.Jl)
      rwa[Array.toArray_toList]at this
     obtain⟨F,S,A,img,rv,hv,_⟩:=hV5.at;have hst:(Instr.storeAt 96 (.pointer (some ⟨sb,8,none⟩)) (.agg cs)).run Tryz.prog w5=.ok () (w5.setCells sb 8 cs.toList):=
      run_storeAt_mid (P:=Tryz.prog) w5 sb 8 96 cs (C9 hv 8 cs.size (by rw[hcs];simp[V.Xl,hXl])) (by rw[hcs];exact Tryz.Jl) hone
     have Abt:(storeCells ⟨sb,8,none⟩ cs.toList 0).run Tryz.prog w5=.ok () (w5.setCells sb 8 cs.toList):=by
      have Abs:=C9 hv 8 cs.size (by rw[hcs];simp[V.Xl,hXl]);have:=run_storeCells_cells (P:=Tryz.prog) sb 8 cs.toList 0 w5 (fun j hj=>by simpa using (Abs j (by simpa using hj)).1) (fun j hj=>by simpa using (Abs j (by simpa using hj)).2) (fun v hv=>(Array.all_eq_true_iff_forall_mem.1 hone) v (by simpa using hv));simpa only[Nat.add_zero]using this
     have Ff:Hid (Below B w (w5.setCells sb 8 cs.toList)∧AX w (w5.setCells sb 8 cs.toList)∧∃(O':TI→Prop) (E':Nat),E'≤E+1∧(∀u,O' u→O u∨Ce t u∨Ce Z.1.1 u)∧n5=Z.2.1∧Z.2.2=0∧SL (w5.setCells sb 8 cs.toList) B b sb n Z.1.1 Z.1.2 O' lm E'):=Aa (by
      rw[HZ.out]at hz hz1 hz2 hV6 yN;rw[HR.out]at hz1 hz2;refine⟨((LY.out.mono hB).trans hbq).trans hb6,((AX.Ar LY.out).trans yF).trans (OJ ho6),O',E',hE',yN,hz2.symm,hz.symm,cs.toList,hV6,?_⟩;rw[hz1];exact hT5.EO (OJ ho6))
     clear hdx hbq yF hz hV5 hz1 hz2 hI5 hone hT5 hV6 ho6 hb6 hv hc yN hE' hXl;go_wp2_with (first
      | ((with_reducible refine Jt 96 _ (.pointer (some ⟨b2,0,none⟩)) (.agg cs) ?_ ?_ ?_);exact rfl;exact hld)
      | ((with_reducible refine U3 96 _ _ (.pointer (some ⟨sb,8,none⟩)) (.agg cs) ?_ ?_ ?_ ?_);exact rfl;exact rfl;exact hst))
     go_ret2;obtain⟨h1,h2,O',E',h3,h4,h5,h6,h7⟩:=Ff.out;exact⟨h1,h2,O',E',h3,h4,Or.inl ⟨by rw[h5,h6];rfl,h7⟩⟩
   · have hqz:(q==0)=false:=Ba.2 hq;have Ff:Hid (Below B w w5∧AX w w5∧∃(O':TI→Prop) (E':Nat),E'≤E+1∧(∀u,O' u→O u∨Ce t u∨Ce Z.1.1 u)∧((0=Z.2.1∧q=Z.2.2∧SL w5 B b sb n Z.1.1 Z.1.2 O' lm E')∨(lm=true∧q=13∧SD w5 B b sb n O' E'))):=Aa (by
      obtain⟨⟨hbq,yF⟩,O',E',hE',yN,h⟩:=HQ.out;refine⟨(LY.out.mono hB).trans hbq,(AX.Ar LY.out).trans yF,O',E',hE',by rw[HZ.out]at yN;exact yN,?_⟩;rcases h with⟨hz,hV5⟩|⟨MC,hl,hD⟩
      · have hz9:(Ck t (((n/2:Nat):Int)-1) rm XX).2.2≠0:=by rw[←hz];exact hq
        have h1:=fB hz9;have h2:=nT hz9;rw[HZ.out]at hz h1 h2 hV5;refine Or.inl ⟨h2.symm,hz,X,hV5,?_⟩;rw[h1];exact(HT.out.keep (EC.Ar LY.out)).EO yF
      · exact Or.inr ⟨hl,MC,X,hD⟩)
     clear hq;go_wp2;go_ret2;obtain⟨h1,h2,O',E',h3,h4,⟨h5,h6,h7⟩|⟨h5,h6,h7⟩⟩:=Ff.out
     · exact⟨h1,h2,O',E',h3,h4,Or.inl ⟨by rw[←h5,←h6];rfl,h7⟩⟩
     · exact⟨h1,h2,O',E',h3,h4,Or.inr ⟨h5,by rw[h6];rfl,h7⟩⟩
 · have hqz:(R.2.2==0)=false:=Ba.2 h0;have Ff:Hid (Z=((t,rm),0,R.2.2)∧SL w4 B b sb n t rm O lm E∧Below B w w4∧AX w w4):=Aa ⟨by
    rw[←HZ.out];unfold Ck;rw[if_neg (by simpa using HM.out),if_pos (Z9.out h0),HR.out],SL.below ⟨X,HV.out,HT.out⟩ LY.out,LY.out.mono hB,AX.Ar LY.out⟩
   clear h0;go_wp2;go_ret2;obtain⟨h1,h2,h3,h4⟩:=Ff.out;rw[h1];exact⟨h3,h4,O,E,by omega,fun u hu=>Or.inl hu,Or.inl ⟨rfl,h2⟩⟩
theorem kQ (x:De)(hD:SD w B b sb n O E):Calls Tryz.prog 14 #[Ag sb,Ga x] w fun e w'=>e=.returned (.tuple #[.int .i64 0,.int .i64 13])∧Below w.heap.size w w':=by
 have hb0:Below w.heap.size w (w.alloc (gZ x)):=(Ad _ _).alloc (Ae _) _;have HB0:=Aa hb0;obtain⟨X,hV⟩:=hD;have cO:=eU (hV.below hb0);clear hV hb0;unfold gZ at *;obtain⟨k,d,dt,s,ns,Bg,shr⟩:=x;simp only[Ga]at *;go_enter Tryz.func14,Tryz.ntmps14;go_upto_region 1 with fail;generalize (w.alloc (.cells #[.int .i64 k,.int .i64 d,.int .i64 dt,.string s,.string ns,.bool Bg,.int .i64 shr] 38))=W at *;go_wp2_with (go_at_call 32;refine cO.mono ?_;rintro e w1 ⟨rfl,rfl⟩);go_ret2;exact⟨rfl,HB0.out⟩
end
end Go.Proofs.YtdmkhmeaphaapaaGreat
