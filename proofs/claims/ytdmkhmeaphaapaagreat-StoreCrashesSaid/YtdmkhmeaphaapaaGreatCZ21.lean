/- Kit. -/
import Derived.Test.YtdmkhmeaphaapaaGreatCZ16
import Derived.Test.YtdmkhmeaphaapaaGreatCZ18
import Derived.Test.YtdmkhmeaphaapaaGreatCZ20
import Derived.Test.YtdmkhmeaphaapaaGreatCZ0
import Derived.Test.YtdmkhmeaphaapaaGreatCZ13
set_option maxRecDepth 100000
set_option linter.unusedVariables false
set_option linter.unusedSimpArgs false
namespace Go.Proofs.YtdmkhmeaphaapaaGreat
open Go.RowKit Go.Sort
abbrev TI:=List Az×Int
def Ce (a b:TI):Prop:=Twin a.1 b.1∧a.2=b.2
theorem Ce.refl (a:TI):Ce a a:=⟨Twin.refl _,rfl⟩
theorem Ce.symm {a b:TI}(h:Ce a b):Ce b a:=⟨h.1.symm,h.2.symm⟩
theorem Ce.trans {a b c:TI}(h:Ce a b)(h':Ce b c):Ce a c:=⟨h.1.trans h'.1,h.2.trans h'.2⟩
def Cj (t:TI):Prop:=Aq t.1 t.2
theorem Pk {t:TI}(h:Cj t)(x:De):Cj (EM t.1 t.2 x).1:=by
 unfold Cj EM;split
 · exact xA h _
 · exact h
theorem Qj {t:TI}{x:De}(h:(EM t.1 t.2 x).2.2=0):May x:=by
 unfold EM at h;split at h
 · assumption
 · exact absurd h (by show ¬(1:Int)=0;decide)
theorem Pt (t:TI)(x:De):t.2≤(EM t.1 t.2 x).1.2∧(EM t.1 t.2 x).1.2≤t.2+1:=by
 unfold EM;split
 · exact rO _ _ _
 · exact⟨Int.le_refl _,by show t.2≤t.2+1;omega⟩
theorem gu {a b:TI}(h:Ce a b)(ha:Cj a)(hb:Cj b)(x:De):(EM b.1 b.2 x).2=(EM a.1 a.2 x).2∧Ce (EM a.1 a.2 x).1 (EM b.1 b.2 x).1:=by
 obtain⟨h1,h2⟩:=h;unfold EM;split
 · rw[←h2];have h3:=h1.do ha hb a.2 (UL x);exact⟨h3.1,h3.2.2,h3.2.1.symm⟩
 · exact⟨rfl,h1,h2⟩
def Jw:TI→List De→Option TI
 | t,[]=>some t
 | t,x::r=>if(EM t.1 t.2 x).2.2=0 then Jw (EM t.1 t.2 x).1 r else none
theorem Ji (t:TI)(x:De)(r:List De):Jw t (x::r)=if(EM t.1 t.2 x).2.2=0 then Jw (EM t.1 t.2 x).1 r else none:=rfl
theorem SB:∀(t:TI) (a b:List De),Jw t (a++b)=(Jw t a).bind fun u=>Jw u b
 | t,[],b=>rfl
 | t,x::a,b=>by
  rw[List.cons_append,Ji,Ji];split
  · exact SB _ a b
  · rfl
theorem jg {t u:TI}{a:List De}{x:De}(h:Jw t a=some u):Jw t (a++[x])=if(EM u.1 u.2 x).2.2=0 then some (EM u.1 u.2 x).1 else none:=by
 rw[SB,h];show Jw u [x]=_
 rw[Ji];split
 · rfl
 · rfl
theorem Vh:∀{t u:TI} {a:List De},Cj t→Jw t a=some u→Cj u
 | t,u,[],h,hr=>by
  obtain rfl:=BS hr;exact h
 | t,u,x::a,h,hr=>by
  unfold Jw at hr;split at hr
  · exact Vh (Pk h x) hr
  · cases hr
theorem P5:∀{a b:TI} (ds:List De),Ce a b→Cj a→Cj b→(Jw a ds=none∧Jw b ds=none)∨∃u v,Jw a ds=some u∧Jw b ds=some v∧Ce u v
 | a,b,[],h,_,_=>Or.inr ⟨a,b,rfl,rfl,h⟩
 | a,b,x::ds,h,ha,hb=>by
  obtain⟨e1,e2⟩:=gu h ha hb x;unfold Jw;rw[e1];split
  · exact P5 ds e2 (Pk ha x) (Pk hb x)
  · exact Or.inl ⟨rfl,rfl⟩
theorem nX {t u:TI}{a b:List De}(h:Jw t (a++b)=some u):∃v,Jw t a=some v∧Jw v b=some u:=by
 rw[SB]at h;exact Iu.1 h
def Cv (img:List UInt8)(rs:List (List UInt8))(t:TI):Prop:=
 ∃(A:TI) (ds:List De),Cj A∧A.2≤9223372036854775807∧BG A.1 A.2=img∧rs=ds.map Ac∧(∀x∈ds,May x)∧Jw A ds=some t
def Ni (img:List UInt8)(rs:List (List UInt8)):Prop:=∀t,¬Cv img rs t
theorem Cv.good {img:List UInt8}{rs:List (List UInt8)}{t:TI}(h:Cv img rs t):Cj t:=by
 obtain⟨A,ds,h1,_,_,_,_,h2⟩:=h;exact Vh h1 h2
theorem Uc:∀{a b:List De},(∀x∈a,May x)→(∀x∈b,May x)→a.map Ac=b.map Ac→a=b
 | [],[],_,_,_=>rfl
 | [],_::_,_,_,h=>absurd h (by simp)
 | _::_,[],_,_,h=>absurd h (by simp)
 | x::a,y::b,ha,hb,h=>by
  rw[List.map_cons,List.map_cons]at h;obtain⟨h1,h2⟩:=List.cons.inj h;rw[ZC (r:=[]) (ha x (List.mem_cons_self ..)) (hb y (List.mem_cons_self ..)) (by rw[Cz];exact h1.symm),Uc (fun z hz=>ha z (List.mem_cons_of_mem _ hz)) (fun z hz=>hb z (List.mem_cons_of_mem _ hz)) h2]
theorem Cv.one {img:List UInt8}{rs:List (List UInt8)}{t u:TI}(h:Cv img rs t)(h':Cv img rs u):Ce t u:=by
 obtain⟨A,ds,a1,a2,a3,a4,a5,a6⟩:=h;obtain⟨B,es,b1,b2,b3,b4,b5,b6⟩:=h';have he:=Uc a5 b5 (a4.symm.trans b4);subst he;obtain⟨c1,_,c2⟩:=Sc a1 b1 a2 b2 (b3.trans a3.symm);rcases P5 ds ⟨c2,c1.symm⟩ a1 b1 with⟨h1,_⟩|⟨x,y,h1,h2,h3⟩
 · rw[h1]at a6;cases a6
 · rw[h1]at a6;rw[h2]at b6;obtain rfl:=BS a6;obtain rfl:=BS b6;exact h3
theorem Cv.own {t:TI}(h:Cj t)(hx:t.2≤9223372036854775807):Cv (BG t.1 t.2) [] t:=⟨t,[],h,hx,rfl,rfl,fun _ h=>absurd h (by simp),rfl⟩
theorem Cv.snoc {img:List UInt8}{rs:List (List UInt8)}{t:TI}(h:Cv img rs t){x:De}(hx:(EM t.1 t.2 x).2.2=0):Cv img (rs++[Ac x]) (EM t.1 t.2 x).1:=by
 obtain⟨A,ds,a1,a2,a3,a4,a5,a6⟩:=h;refine⟨A,ds++[x],a1,a2,a3,by rw[a4,List.map_append];rfl,fun y hy=>?_,?_⟩
 · rcases EI.1 hy with h|h
   · exact a5 y h
   · rw[Cn.1 h];exact Qj hx
 · rw[jg a6,if_pos hx]
theorem Cv.pre {img:List UInt8}{rs ss:List (List UInt8)}{t:TI}(h:Cv img (rs++ss) t):∃u,Cv img rs u:=by
 obtain⟨A,ds,a1,a2,a3,a4,a5,a6⟩:=h;obtain⟨d1,d2,rfl,e1,e2⟩:=List.map_eq_append_iff.1 a4.symm;obtain⟨v,v1,v2⟩:=nX a6;exact⟨v,A,d1,a1,a2,a3,e1.symm,fun x hx=>a5 x (List.mem_append_left _ hx),v1⟩
theorem pg {img:List UInt8}{rs:List (List UInt8)}(h:∀l nx,Aq l nx→nx≤9223372036854775807→img≠BG l nx):Ni img rs:=by
 rintro t ⟨A,ds,a1,a2,a3,_⟩;exact h A.1 A.2 a1 a2 a3.symm
def X0 (A l:List Az)(nx nx':Int):Prop:=AR A=AR l∧nx=nx'∧A.length=l.length∧∀q∈AR l,Ak A q=Ak l q
theorem nE {w:World}{b:Nat}{l:List Az}{nx:Int}{S:Nat→Prop}(h:Bl.Is w b l nx S):Calls Tryz.prog 67 #[Ag b] w fun e w'=>e=.returned (.int .i64 (l.length:Int))∧∃q,w'=w.drewN q:=by
 obtain⟨R,u,v,ys,hm,ho,hg,_⟩:=h;have h:=fP hm;rw[ho,hg.count]at h;exact h
theorem Vz {l:List Az}{q:Int}(h:q∈AR l):A9 l q=0∧D6 l q=Ak l q:=by
 have hk:=(Jo.1 h).2;have h1:A9 l q=0:=by unfold A9;rw[if_neg (by omega),if_neg (by omega)]
 exact⟨h1,by unfold D6;rw[if_pos h1]⟩
set_option maxHeartbeats 16000000 in
theorem tF {w:World}{b:Nat}{A l:List Az}{jF nx:Int}{S:Nat→Prop}(v:Value)(h:Bl.Is w b A jF S)(hv:Bi w v l)(hll:l.length≤200)(R:Bool)(hR:R=true↔X0 A l jF nx) :
 Calls Tryz.prog 28 #[Ag b,Bq v nx] w fun e w'=>e=.returned (.bool R)∧Below w.heap.size w w':=by
 have hlen:=Bl.len h;obtain⟨a,cap,rfl⟩:=hv.1.len;obtain⟨m,hm⟩:∃m,l.length=m:=⟨_,rfl⟩;have HM:=Aa hm;have HRR:=Aa hR;rw[hm]at hll hv ⊢;have hb0:Below w.heap.size w (w.alloc (.cells #[.slice a m cap,.int .i64 nx] 31)):=(Ad _ w).alloc (Ae _) _;have HB0:=Aa hb0;have HI0:=Aa (Bl.below h hb0);have HV0:=Aa (hv.kept hb0);have HO:Hid ((w.alloc (.cells #[.slice a m cap,.int .i64 nx] 31)).heap[w.heap.size]?=some (.cells #[.slice a m cap,.int .i64 nx] 31 (0,0))):=Aa (Ai _ _);unfold Bq;clear h hv hm hb0 hR;go_enter Tryz.func28,Tryz.ntmps28;go_upto_region 1 with fail;generalize (w.alloc (.cells #[.slice a m cap,.int .i64 nx] 31))=W0 at *;generalize hbx:w.heap.size=bx at *;have JV:=Aa hbx;have hlt:bx+1≤W0.heap.size:=Ab HO.out;have HIW:Hid (∀W,Below W0.heap.size W0 W→Bl.Is W b A jF S):=Aa (fun W hW=>Bl.below HI0.out hW);have mq:Hid (∀W,Below W0.heap.size W0 W→Bi W (.slice a m cap) l):=Aa (fun W hW=>HV0.out.kept hW);have Nj:Hid (∀W,Below W0.heap.size W0 W→Below W0.heap.size W0 W∧W.cell? ⟨bx,0,none⟩=some (.slice a m cap)∧W.cell? ⟨bx,1,none⟩=some (.int .i64 nx)):=Aa (fun W hW=>⟨hW,(BN ((hW.block bx (by omega)).trans HO.out)).1⟩);have cD:=fun W (h:Bi W (.slice a m cap) l)=>rQ (.slice a m cap) l nx W h (by rw[HM.out];omega)
 have cL:=fun n W (h:Bi W (.slice a m cap) l)=>O9 (.slice a m cap) l nx n W h.1 (by rw[HM.out];omega)
 unfold Uv Bq at cD;unfold PL Bq at cL;obtain⟨D,hD⟩:∃D,(AR l).length=D:=⟨_,rfl⟩;obtain⟨C,hC⟩:∃C,(AR A).length=C:=⟨_,rfl⟩;have HD:=Aa hD;have HC:=Aa hC;have hD1:D≤201:=by rw[←hD];exact Gn l 201
 have hC1:C≤201:=by rw[←hC];exact Gn A 201
 clear hbx hD hC;go_cut [5,6] from 12 to 15 (fun v5 v6 wx=>∃a5 c5 a6 c6,v5=.slice a5 C c5∧v6=.slice a6 D c6∧Kc wx (.slice a5 C c5) (AR A)∧Kc wx (.slice a6 D c6) (AR l)∧Below W0.heap.size W0 wx)
 case first =>
  have hs0:=Nj.out W0.drew (Ad _ _).drew;go_region_held3 (fun W=>Below W0.heap.size W0 W∧W.cell? ⟨bx,0,none⟩=some (.slice a m cap)∧W.cell? ⟨bx,1,none⟩=some (.int .i64 nx)) (first|assumption|(refine Nj.out _ ?_;first|assumption|exact(Ad _ _).drew|exact Cy ‹_›)) (first
   | (go_at_call 64;refine(Bl.XA (HIW.out _ (by first|assumption|exact(Ad _ _).drew))).mono ?_;rintro e w1 ⟨v1,rfl,hn1,_,hb1⟩;have hq1:Below W0.heap.size W0 w1:=Dk (Ae _) (by first|assumption|exact(Ad _ _).drew) hb1;obtain⟨a1,c1,hv1⟩:=hn1.len;subst hv1;have hk1:=fun W (h:Below w1.heap.size w1 W)=>AL.kept hn1 h;rw[HC.out])
   | (go_at_call 65;refine(cD _ (mq.out _ (by first|assumption|exact(Ad _ _).drew))).mono ?_;rintro e w2 ⟨v2,rfl,hn2,hb2⟩;have hq2:Below W0.heap.size W0 w2:=Dk (Ae _) (by first|assumption|exact(Ad _ _).drew) hb2;obtain⟨a2,c2,hv2⟩:=hn2.len;subst hv2;have hk2:=fun W (h:Below w2.heap.size w2 W)=>AL.kept hn2 h;rw[HD.out]))
  all_goals
   rw[HC.out]at hn1;rw[HD.out]at hn2;go_wp2;go_meet
   first
    | exact⟨_,_,_,_,rfl,rfl,AL.kept hn1 hb2,hn2,hq2⟩
    | exact⟨_,_,_,_,rfl,rfl,hn1,AL.kept hn2 hb1,hq1⟩
 case rest =>
  obtain⟨W2,hW2⟩:∃W,W=wc:=⟨_,rfl⟩;subst hW2;obtain⟨a5,c5,a6,c6,h5,h6,hn5,hn6,hb2⟩:=hcut;subst h5;subst h6;have HN5:=Aa hn5;have HN6:=Aa hn6;have HB2:=Aa hb2;have hs2:=Nj.out W2 hb2;clear hn5 hn6;obtain⟨nA,hnA⟩:∃nA,A.length=nA:=⟨_,rfl⟩;have HNA:=Aa hnA;rw[hnA]at hlen;obtain⟨Hd,hHd⟩:∃Hd:Bool,Hd=(!(decide (C=D))||(!(decide (jF=nx))||!(decide (nA=m)))):=⟨_,rfl⟩;have HHD:=Aa hHd;clear hHd;have cQ1:∀p,Calls Tryz.prog 66 #[Ag b] (W2.drewN p) fun e w'=>e=.returned (.int .i64 jF)∧∃q,w'=(W2.drewN p).drewN q:=fun p =>
   (fe (HIW.out _ (Am hb2 p))).mono fun e w' ⟨h1,h2⟩=>⟨h1,0,h2⟩
  have cQ2:∀p,Calls Tryz.prog 67 #[Ag b] (W2.drewN p) fun e w'=>e=.returned (.int .i64 (nA:Int))∧∃q,w'=(W2.drewN p).drewN q:=fun p=>by
   have h9:=nE (HIW.out _ (Am hb2 p));rw[hnA]at h9;exact h9
  clear hnA;go_upto_region 2 with fail;go_cut [35] from 16 to 35 (fun c wx=>c=.bool Hd∧Below W2.heap.size W2 wx)
  case first =>
   obtain⟨_,x0,x1⟩:=hs2;by_cases e1:C=D
   · subst e1;by_cases e2:jF=nx
     · subst e2;by_cases e3:nA=m
       · subst e3;have HHV:Hid (Hd=false):=Aa (by rw[HHD.out];simp);go_quiet ((first
          | (go_at_call 66;exact Calls.quiet_of (cQ1 _))
          | (go_at_call 67;exact Calls.quiet_of (cQ2 _))))
         go_wp2;go_meet;exact⟨by(rw[HHV.out]);try (congr 1;assumption),Am (Ad _ _) _⟩
       · have e3z:((nA:Int)==(m:Int))=false:=by rw[Ba];omega
         have e3c:((nA:Int)!=(m:Int))=true:=by simp[bne,e3z]
         have HHV:Hid (Hd=true):=Aa (by rw[HHD.out];simp[e3]);go_quiet ((first
          | (go_at_call 66;exact Calls.quiet_of (cQ1 _))
          | (go_at_call 67;exact Calls.quiet_of (cQ2 _))))
         go_wp2;go_meet;exact⟨by(rw[HHV.out]);try (congr 1;assumption),Am (Ad _ _) _⟩
     · have e2z:(jF==nx)=false:=Ba.2 e2;have e2a:decide (jF=nx)=false:=Bb e2;have e2c:(jF !=nx)=true:=by simp[bne,e2z]
       have HHV:Hid (Hd=true):=Aa (by rw[HHD.out];simp[e2]);go_quiet ((first
        | (go_at_call 66;exact Calls.quiet_of (cQ1 _))
        | (go_at_call 67;exact Calls.quiet_of (cQ2 _))))
       go_wp2;go_meet;exact⟨by(rw[HHV.out]);try (congr 1;assumption),Am (Ad _ _) _⟩
   · have e1y:¬(C:Int)=(D:Int):=by omega
     have e1z:((C:Int)==(D:Int))=false:=by rw[Ba];omega
     have e1a:decide ((C:Int)=(D:Int))=false:=Bb e1y;have e1c:((C:Int)!=(D:Int))=true:=by simp[bne,e1z]
     have HHV:Hid (Hd=true):=Aa (by rw[HHD.out];simp[e1]);go_quiet ((first
      | (go_at_call 66;exact Calls.quiet_of (cQ1 _))
      | (go_at_call 67;exact Calls.quiet_of (cQ2 _))))
     go_wp2;go_meet;exact⟨by(rw[HHV.out]);try (congr 1;assumption),Am (Ad _ _) _⟩
  case rest =>
   obtain⟨W3,hW3⟩:∃W,W=wc:=⟨_,rfl⟩;subst hW3;obtain⟨h35,hb3⟩:=hcut;subst h35;cases Hd with
   | true =>
    have hRf:Hid (R=false):=Aa (by
     cases R with
     | false=>rfl
     | true =>
      obtain⟨g1,g2,g3,_⟩:=HRR.out.1 rfl;have e1:C=D:=by rw[←HC.out,←HD.out,g1]
      have e3:nA=m:=by rw[←HNA.out,←HM.out,g3]
      have:=HHD.out;rw[A8 e1,A8 g2,A8 e3]at this;exact absurd this (by decide))
    go_wp2;go_ret;exact⟨by rw[hRf.out];rfl,by rw[JV.out];exact HB0.out.trans ((HB2.out.trans (hb3.mono HB2.out.size)).mono (by omega))⟩
   | false =>
    have hcd:C=D∧jF=nx∧nA=m:=by
     have h9:=HHD.out;by_cases e1:C=D
     · by_cases e2:jF=nx
       · by_cases e3:nA=m
         · exact⟨e1,e2,e3⟩
         · rw[A8 e1,A8 e2,Bb e3]at h9;exact absurd h9 (by decide)
       · rw[A8 e1,Bb e2]at h9;exact absurd h9 (by simp)
     · rw[Bb e1]at h9;exact absurd h9 (by simp)
    obtain⟨rfl,rfl,rfl⟩:=hcd;clear cQ1 cQ2 cD hC1 hll;go_wp2;go_loopw [7] (fun iv wr=>∃i:Nat,i≤C∧iv=.int .i64 i∧(∀j,j<i→(AR A)[j]?=(AR l)[j]?∧∀q,(AR l)[j]?=some q→Ak A q=Ak l q)∧Below W2.heap.size W2 wr) (fun iv _=>C-(intOf iv).toNat)
    case atStart=>exact⟨0,by omega,rfl,fun j hj=>absurd hj (by omega),hb3⟩
    case round =>
     obtain⟨i,hi,rfl,hpre,hb⟩:=hrel;clear hb3;have K4:=Aa hpre;have HB:=Aa hb;have hbw:Below W0.heap.size W0 wr:=hb2.trans (hb.mono hb2.size);have FU:=Aa hbw;clear hpre;by_cases hin:i<C
     · have hiz:(i:Int)<(C:Int):=by omega
       obtain⟨q,hq⟩:∃x,(AR A)[i]?=some x:=⟨_,Co (by rw[HC.out];omega)⟩;obtain⟨p,hp⟩:∃x,(AR l)[i]?=some x:=⟨_,Co (by rw[HD.out];omega)⟩;obtain⟨g5,o5,rfl,hg5,hr5⟩:=HN5.out.at hq;obtain⟨g6,o6,rfl,hg6,hr6⟩:=HN6.out.at hp;have eu:Hid (∀W,Below W2.heap.size W2 W→W.cell? ⟨g5,o5+i,none⟩=some (.int .i64 q)∧W.cell? ⟨g6,o6+i,none⟩=some (.int .i64 p)):=Aa (fun W hW=>by
        have h1:=Ta (DJ hr5 hg5 hW);have h2:=Ta (DJ hr6 hg6 hW);rw[Nat.mul_one]at h1 h2;exact⟨h1,h2⟩)
       obtain⟨p1,p2⟩:=eu.out wr hb;have hq0:=Vz (CU hq);have hp0:=Vz (CU hp);have HQ:=Aa hq;have HP:=Aa hp;obtain⟨nq,hnq⟩:∃n,(Ak A q).length=n:=⟨_,rfl⟩;obtain⟨np,hnp⟩:∃n,(Ak l p).length=n:=⟨_,rfl⟩;have HNQ:=Aa hnq;have HNP:=Aa hnp;have Adh:nq≤200:=by have:=IK A q;have:=HNA.out;omega
       have Adi:np≤200:=by have:=IK l p;have:=HM.out;omega
       have cT:=Bl.list q (HIW.out wr hbw);rw[hq0.1,hq0.2]at cT;have cLp:=cL p;rw[hp0.1,hp0.2]at cLp;have Nk:Hid (∀W,Below W2.heap.size W2 W→Below W2.heap.size W2 W∧W.cell? ⟨bx,0,none⟩=some (.slice a nA cap)∧W.cell? ⟨bx,1,none⟩=some (.int .i64 jF)∧W.cell? ⟨g6,o6+i,none⟩=some (.int .i64 p)):=Aa (fun W hW=>⟨hW,(Nj.out W (hb2.trans (hW.mono hb2.size))).2.1,(Nj.out W (hb2.trans (hW.mono hb2.size))).2.2,(eu.out W hW).2⟩);have Aa6:Hid (∀W,Below W2.heap.size W2 W→Below W0.heap.size W0 W):=Aa (fun W hW=>hb2.trans (hW.mono hb2.size));clear hr5 hr6 hg5 hg6 hq hp hnq hnp hb2 hbw hq0 hp0 cL;go_upto_region 8 with(go_at_call 68;refine cT.mono ?_;rintro e w4 ⟨v4,rfl,he4,_,hb4⟩;have hq4:Below W2.heap.size W2 w4:=Dk (Ae _) hb hb4;obtain⟨a4,c4,hv4⟩:=he4.len;subst hv4;rw[HNQ.out]at he4;have HE4:=Aa he4;rw[HNQ.out];clear he4 hb4 hb p1 p2);obtain⟨s0,s1,s2,s3⟩:=Nk.out w4.drew hq4.drew;go_region_held3 (fun W=>Below W2.heap.size W2 W∧W.cell? ⟨bx,0,none⟩=some (.slice a nA cap)∧W.cell? ⟨bx,1,none⟩=some (.int .i64 jF)∧W.cell? ⟨g6,o6+i,none⟩=some (.int .i64 p)) (first|assumption|(refine Nk.out _ ?_;first|assumption|exact hq4.drew|exact Cy ‹_›)) ((go_at_call 69;refine(cLp _ (mq.out _ (Aa6.out _ hq4.drew))).mono ?_;rintro e w5 ⟨v5,rfl,he5,hb5⟩;have UA:Below W2.heap.size W2 w5:=Dk (Ae _) hq4.drew hb5;obtain⟨a5',c5',hv5⟩:=he5.len;subst hv5;rw[HNP.out]at he5;rw[HNP.out]))
       all_goals
        have HE5:=Aa he5;have AcX:Hid (DD w5 (.slice a4 nq c4) (Ak A q)):=Aa (AL.kept (w:=w4.drew) (AL.kept HE4.out (Ad _ _).drew) hb5);obtain⟨Z,hZ⟩:∃Z,decide (Ak A q=Ak l p)=Z:=⟨_,rfl⟩;have HZ:=Aa hZ;have cS:∀p',Calls Tryz.prog 70 #[.slice a4 nq c4,.slice a5' np c5'] (w5.drewN p') fun e w'=>e=.returned (.bool Z)∧∃q,w'=(w5.drewN p').drewN q:=fun p'=>by
         have h:=nV (.slice a4 nq c4) (.slice a5' np c5') (Ak A q) (Ak l p) (w5.drewN p') (AL.kept AcX.out (Am (Ad _ _) p')) (AL.kept HE5.out (Am (Ad _ _) p')) (by rw[HNQ.out];omega) (by rw[HNP.out];omega);rw[hZ]at h;exact h
        obtain⟨p1,p2⟩:=eu.out w5 UA;have mD:=Aa UA;clear he5 hb5 UA hq4 s0 s1 s2 s3 hZ;by_cases hqp:q=p
        · subst hqp;cases Z with
          | true =>
           have HEQ:Hid (Ak A q=Ak l q):=Aa (FL HZ.out);go_wp2;go_quiet ((go_at_call 70;exact Calls.quiet_of (cS _)));go_wp2;go_roundw
           case rel=>exact⟨i+1,by omega,by first|rfl|go_num,(fun j hj=>by
            by_cases hji:j<i
            · exact K4.out j hji
            · obtain rfl:j=i:=by omega
              refine⟨HQ.out.trans HP.out.symm,fun q' hq'=>?_⟩;rw[HP.out]at hq';obtain rfl:=BS hq';exact HEQ.out),Am mD.out _⟩
           case measure=>simp[intOf];omega
          | false =>
           have hRf:Hid (R=false):=Aa (by
            cases R with
            | false=>rfl
            | true =>
             obtain⟨g1,g2,g3,g4⟩:=HRR.out.1 rfl;exact absurd (g4 q (CU HP.out)) (of_decide_eq_false HZ.out))
           go_wp2;go_quiet ((go_at_call 70;exact Calls.quiet_of (cS _)));go_wp2;go_ret;exact⟨by rw[hRf.out];rfl,by rw[JV.out];exact HB0.out.trans ((Aa6.out _ (Am mD.out _)).mono (by omega))⟩
        · have Adg:(q==p)=false:=Ba.2 hqp;have hRf:Hid (R=false):=Aa (by
           cases R with
           | false=>rfl
           | true =>
            obtain⟨g1,g2,g3,g4⟩:=HRR.out.1 rfl;have h9:=HQ.out;rw[g1,HP.out]at h9;exact absurd (BS h9).symm hqp)
          go_wp2;go_quiet ((go_at_call 70;exact Calls.quiet_of (cS _)));go_wp2;go_ret;exact⟨by rw[hRf.out];rfl,by rw[JV.out];exact HB0.out.trans ((Aa6.out _ (Am mD.out _)).mono (by omega))⟩
     · have hiz:¬(i:Int)<(C:Int):=by omega
       have hRt:Hid (R=true):=Aa (HRR.out.2 ⟨by
        apply List.ext_getElem?;intro j;by_cases hj:j<i
        · exact(K4.out j hj).1
        · rw[List.getElem?_eq_none (by rw[HC.out];omega),List.getElem?_eq_none (by rw[HD.out];omega)],rfl,by rw[HNA.out,HM.out],fun q hq=>by
        obtain⟨j,hj⟩:=List.getElem?_of_mem hq;have hji:j<i:=by
         have:=(DL.1 hj).1;rw[HD.out]at this;omega
        exact(K4.out j hji).2 q hj⟩)
       go_wp2;go_ret;exact⟨by rw[hRt.out];rfl,by rw[JV.out];exact HB0.out.trans (FU.out.mono (by omega))⟩
end Go.Proofs.YtdmkhmeaphaapaaGreat
namespace Go.Proofs.YtdmkhmeaphaapaaGreat
open Go.RowKit Go.Sort
theorem VV {l:List Az}{c:Int}(h:Aq l c){q:Int}(hq:q∉AR l):Ak l q=[]:=by
 unfold Ak;rw[List.map_eq_nil_iff,List.filter_eq_nil_iff];intro x hx;simp only[decide_eq_true_eq];rintro rfl;refine hq (Jo.2 ⟨?_,h.BD x hx⟩);by_cases hf:x.BD<0∨200<x.BD
 · have h1:=h.far hf;rw[h.BD x hx]at h1;exact absurd h1 (by decide)
 · exact⟨x.BD.toNat,by omega,by omega⟩
theorem kR {l l':List Az}{c c':Int}(ht:Twin l l')(hg:Aq l c)(hg':Aq l' c'):AR l'=AR l:=by
 unfold AR Cb;refine List.filter_congr fun x _=>?_
 rw[ht.kind hg hg']
theorem dM {A l:TI}(hA:Cj A)(hl:Cj l):X0 A.1 l.1 A.2 l.2↔Ce A l:=by
 constructor
 · rintro⟨h1,h2,h3,h4⟩;refine⟨⟨fun q=>?_⟩,h2⟩;by_cases hq:q∈AR l.1
   · exact(h4 q hq).symm
   · rw[VV hl hq,VV hA (by rw[h1];exact hq)]
 · rintro⟨h1,h2⟩;exact⟨(kR h1 hA hl).symm,h2,(h1.len hA hl).symm,fun q _=>(h1.Fy q).symm⟩
end Go.Proofs.YtdmkhmeaphaapaaGreat
