/- Kit. -/
import Derived.Test.YtdmkhmeaphaapaaGreatMZ16
import Derived.Test.YtdmkhmeaphaapaaGreatMZ18
import Derived.Test.YtdmkhmeaphaapaaGreatMZ20
import Derived.Test.YtdmkhmeaphaapaaGreatMZ0
import Derived.Test.YtdmkhmeaphaapaaGreatMZ13
set_option maxRecDepth 100000
set_option linter.unusedVariables false
set_option linter.unusedSimpArgs false
namespace Go.Proofs.YtdmkhmeaphaapaaGreat
open Go.RowKit Go.Sort
abbrev TI:=List Az×Int
def CG (a b:TI):Prop:=Twin a.1 b.1∧a.2=b.2
theorem CG.refl (a:TI):CG a a:=⟨Twin.refl _,rfl⟩
theorem CG.symm {a b:TI}(h:CG a b):CG b a:=⟨h.1.symm,h.2.symm⟩
theorem CG.trans {a b c:TI}(h:CG a b)(h':CG b c):CG a c:=⟨h.1.trans h'.1,h.2.trans h'.2⟩
def Cq (t:TI):Prop:=Aq t.1 t.2
theorem O3 {t:TI}(h:Cq t)(x:De):Cq (Eg t.1 t.2 x).1:=by
 unfold Cq Eg;split
 · exact vv h _
 · exact h
theorem zo (t:TI)(x:De)(h:(Eg t.1 t.2 x).2.2≠0):(Eg t.1 t.2 x).1=t∧(Eg t.1 t.2 x).2.1=0:=by
 unfold Eg at h ⊢;split
 · rename_i hm;rw[if_pos hm]at h;exact zk _ _ _ h
 · exact⟨rfl,rfl⟩
theorem P8 {t:TI}{x:De}(h:(Eg t.1 t.2 x).2.2=0):May x:=by
 unfold Eg at h;split at h
 · assumption
 · exact absurd h (by show ¬(1:Int)=0;decide)
theorem O9 (t:TI)(x:De):t.2≤(Eg t.1 t.2 x).1.2∧(Eg t.1 t.2 x).1.2≤t.2+1:=by
 unfold Eg;split
 · exact pR _ _ _
 · exact⟨Int.le_refl _,by show t.2≤t.2+1;omega⟩
theorem Ri {a b:TI}(h:CG a b)(ha:Cq a)(hb:Cq b)(x:De):(Eg b.1 b.2 x).2=(Eg a.1 a.2 x).2∧CG (Eg a.1 a.2 x).1 (Eg b.1 b.2 x).1:=by
 obtain⟨h1,h2⟩:=h;unfold Eg;split
 · rw[←h2];have h3:=h1.do ha hb a.2 (Ur x);exact⟨h3.1,h3.2.2,h3.2.1.symm⟩
 · exact⟨rfl,h1,h2⟩
def IZ:TI→List De→Option TI
 | t,[]=>some t
 | t,x::r=>if(Eg t.1 t.2 x).2.2=0 then IZ (Eg t.1 t.2 x).1 r else none
theorem I9 (t:TI)(x:De)(r:List De):IZ t (x::r)=if(Eg t.1 t.2 x).2.2=0 then IZ (Eg t.1 t.2 x).1 r else none:=rfl
theorem Sg:∀(t:TI) (a b:List De),IZ t (a++b)=(IZ t a).bind fun u=>IZ u b
 | t,[],b=>rfl
 | t,x::a,b=>by
  rw[List.cons_append,I9,I9];split
  · exact Sg _ a b
  · rfl
theorem gG {t u:TI}{a:List De}{x:De}(h:IZ t a=some u):IZ t (a++[x])=if(Eg u.1 u.2 x).2.2=0 then some (Eg u.1 u.2 x).1 else none:=by
 rw[Sg,h];show IZ u [x]=_
 rw[I9];split
 · rfl
 · rfl
theorem UQ:∀{t u:TI} {a:List De},Cq t→IZ t a=some u→Cq u
 | t,u,[],h,hr=>by
  obtain rfl:=Cm hr;exact h
 | t,u,x::a,h,hr=>by
  unfold IZ at hr;split at hr
  · exact UQ (O3 h x) hr
  · cases hr
theorem PO:∀{a b:TI} (ds:List De),CG a b→Cq a→Cq b→(IZ a ds=none∧IZ b ds=none)∨∃u v,IZ a ds=some u∧IZ b ds=some v∧CG u v
 | a,b,[],h,_,_=>Or.inr ⟨a,b,rfl,rfl,h⟩
 | a,b,x::ds,h,ha,hb=>by
  obtain⟨e1,e2⟩:=Ri h ha hb x;unfold IZ;rw[e1];split
  · exact PO ds e2 (O3 ha x) (O3 hb x)
  · exact Or.inl ⟨rfl,rfl⟩
theorem XO {t u:TI}{a b:List De}(h:IZ t (a++b)=some u):∃v,IZ t a=some v∧IZ v b=some u:=by
 rw[Sg]at h;exact Ig.1 h
def Cg (img:List UInt8)(rs:List (List UInt8))(t:TI):Prop:=
 ∃(A:TI) (ds:List De),Cq A∧A.2≤9223372036854775807∧BI A.1 A.2=img∧rs=ds.map Ac∧(∀x∈ds,May x)∧IZ A ds=some t
def G8 (img:List UInt8)(rs:List (List UInt8)):Prop:=∀t,¬Cg img rs t
theorem Cg.good {img:List UInt8}{rs:List (List UInt8)}{t:TI}(h:Cg img rs t):Cq t:=by
 obtain⟨A,ds,h1,_,_,_,_,h2⟩:=h;exact UQ h1 h2
theorem NY:∀{a b:List De},(∀x∈a,May x)→(∀x∈b,May x)→a.map Ac=b.map Ac→a=b
 | [],[],_,_,_=>rfl
 | [],_::_,_,_,h=>absurd h (by simp)
 | _::_,[],_,_,h=>absurd h (by simp)
 | x::a,y::b,ha,hb,h=>by
  rw[List.map_cons,List.map_cons]at h;obtain⟨h1,h2⟩:=List.cons.inj h;rw[Y0 (r:=[]) (ha x (List.mem_cons_self ..)) (hb y (List.mem_cons_self ..)) (by rw[Ct];exact h1.symm),NY (fun z hz=>ha z (List.mem_cons_of_mem _ hz)) (fun z hz=>hb z (List.mem_cons_of_mem _ hz)) h2]
theorem Cg.one {img:List UInt8}{rs:List (List UInt8)}{t u:TI}(h:Cg img rs t)(h':Cg img rs u):CG t u:=by
 obtain⟨A,ds,a1,a2,a3,a4,a5,a6⟩:=h;obtain⟨B,es,b1,b2,b3,b4,b5,b6⟩:=h';have he:=NY a5 b5 (a4.symm.trans b4);subst he;obtain⟨c1,_,c2⟩:=RJ a1 b1 a2 b2 (b3.trans a3.symm);rcases PO ds ⟨c2,c1.symm⟩ a1 b1 with⟨h1,_⟩|⟨x,y,h1,h2,h3⟩
 · rw[h1]at a6;cases a6
 · rw[h1]at a6;rw[h2]at b6;obtain rfl:=Cm a6;obtain rfl:=Cm b6;exact h3
theorem Cg.own {t:TI}(h:Cq t)(hx:t.2≤9223372036854775807):Cg (BI t.1 t.2) [] t:=⟨t,[],h,hx,rfl,rfl,fun _ h=>absurd h (by simp),rfl⟩
theorem Cg.snoc {img:List UInt8}{rs:List (List UInt8)}{t:TI}(h:Cg img rs t){x:De}(hx:(Eg t.1 t.2 x).2.2=0):Cg img (rs++[Ac x]) (Eg t.1 t.2 x).1:=by
 obtain⟨A,ds,a1,a2,a3,a4,a5,a6⟩:=h;refine⟨A,ds++[x],a1,a2,a3,by rw[a4,List.map_append];rfl,fun y hy=>?_,?_⟩
 · rcases FB.1 hy with h|h
   · exact a5 y h
   · rw[CU.1 h];exact P8 hx
 · rw[gG a6,if_pos hx]
theorem Cg.pre {img:List UInt8}{rs ss:List (List UInt8)}{t:TI}(h:Cg img (rs++ss) t):∃u,Cg img rs u:=by
 obtain⟨A,ds,a1,a2,a3,a4,a5,a6⟩:=h;obtain⟨d1,d2,rfl,e1,e2⟩:=List.map_eq_append_iff.1 a4.symm;obtain⟨v,v1,v2⟩:=XO a6;exact⟨v,A,d1,a1,a2,a3,e1.symm,fun x hx=>a5 x (List.mem_append_left _ hx),v1⟩
theorem U8 {img:List UInt8}{rs ss:List (List UInt8)}{t:TI}(h:Cg img rs t){r:List UInt8}(hr:∀x,May x→Ac x=r→(Eg t.1 t.2 x).2.2≠0):G8 img (rs++r::ss):=by
 intro u hu;have hpre:rs++r::ss=(rs++[r])++ss:=by rw[Cc];rfl
 rw[hpre]at hu;obtain⟨v,B,es,b1,b2,b3,b4,b5,b6⟩:=hu.pre;obtain⟨d1,d2,rfl,e1,e2⟩:=List.map_eq_append_iff.1 b4.symm;obtain⟨x,rfl,hx⟩:∃x,d2=[x]∧Ac x=r:=by
  rcases d2 with _|⟨x,d2⟩
  · exact absurd e2 (by simp)
  · rcases d2 with _|⟨y,d2⟩
    · exact⟨x,rfl,by simpa using e2⟩
    · exact absurd e2 (by simp)
 obtain⟨w,w1,w2⟩:=XO b6;have hm:Cg img rs w:=⟨B,d1,b1,b2,b3,e1.symm,fun y hy=>b5 y (List.mem_append_left _ hy),w1⟩;have hl:=h.one hm;have hmx:=b5 x (List.mem_append_right _ (CU.2 rfl));have h9:=hr x hmx hx;rw[←(Ri hl h.good hm.good x).1]at h9;unfold IZ at w2;rw[if_neg h9]at w2;cases w2
theorem mX {img:List UInt8}{rs:List (List UInt8)}(h:∀l nx,Aq l nx→nx≤9223372036854775807→img≠BI l nx):G8 img rs:=by
 rintro t ⟨A,ds,a1,a2,a3,_⟩;exact h A.1 A.2 a1 a2 a3.symm
def bM (A l:List Az)(nx nx':Int):Prop:=AQ A=AQ l∧nx=nx'∧A.length=l.length∧∀q∈AQ l,Ak A q=Ak l q
theorem ll {w:World}{b:Nat}{l:List Az}{nx:Int}{S:Nat→Prop}(h:Bp.Is w b l nx S):Calls Tryz.prog 67 #[Aj b] w fun e w'=>e=.returned (.int .i64 (l.length:Int))∧∃q,w'=w.drewN q:=by
 obtain⟨R,u,v,ys,hm,ho,hg,_⟩:=h;have h:=dF hm;rw[ho,hg.count]at h;exact h
theorem Ve {l:List Az}{q:Int}(h:q∈AQ l):Bc l q=0∧D5 l q=Ak l q:=by
 have hk:=(Jf.1 h).2;have h1:Bc l q=0:=by unfold Bc;rw[if_neg (by omega),if_neg (by omega)]
 exact⟨h1,by unfold D5;rw[if_pos h1]⟩
set_option maxHeartbeats 16000000 in
theorem qC {w:World}{b:Nat}{A l:List Az}{gZ nx:Int}{S:Nat→Prop}(v:Value)(h:Bp.Is w b A gZ S)(hv:Bi w v l)(hll:l.length≤200)(R:Bool)(hR:R=true↔bM A l gZ nx) :
 Calls Tryz.prog 28 #[Aj b,Bo v nx] w fun e w'=>e=.returned (.bool R)∧Below w.heap.size w w':=by
 have hlen:=Bp.len h;obtain⟨a,cap,rfl⟩:=hv.1.len;obtain⟨m,hm⟩:∃m,l.length=m:=⟨_,rfl⟩;have HM:=Aa hm;have HRR:=Aa hR;rw[hm]at hll hv ⊢;have hb0:Below w.heap.size w (w.alloc (.cells #[.slice a m cap,.int .i64 nx] 31)):=(Ad _ w).alloc (Ae _) _;have HB0:=Aa hb0;have HI0:=Aa (Bp.below h hb0);have HV0:=Aa (hv.kept hb0);have HO:Hid ((w.alloc (.cells #[.slice a m cap,.int .i64 nx] 31)).heap[w.heap.size]?=some (.cells #[.slice a m cap,.int .i64 nx] 31 (0,0))):=Aa (Ai _ _);unfold Bo;clear h hv hm hb0 hR;go_enter Tryz.func28,Tryz.ntmps28;go_upto_region 1 with fail;generalize (w.alloc (.cells #[.slice a m cap,.int .i64 nx] 31))=W0 at *;generalize hbx:w.heap.size=bx at *;have JK:=Aa hbx;have hlt:bx+1≤W0.heap.size:=Ab HO.out;have HIW:Hid (∀W,Below W0.heap.size W0 W→Bp.Is W b A gZ S):=Aa (fun W hW=>Bp.below HI0.out hW);have Zg:Hid (∀W,Below W0.heap.size W0 W→Bi W (.slice a m cap) l):=Aa (fun W hW=>HV0.out.kept hW);have M4:Hid (∀W,Below W0.heap.size W0 W→Below W0.heap.size W0 W∧W.cell? ⟨bx,0,none⟩=some (.slice a m cap)∧W.cell? ⟨bx,1,none⟩=some (.int .i64 nx)):=Aa (fun W hW=>⟨hW,(BM ((hW.block bx (by omega)).trans HO.out)).1⟩);have cD:=fun W (h:Bi W (.slice a m cap) l)=>pV (.slice a m cap) l nx W h (by rw[HM.out];omega)
 have cL:=fun n W (h:Bi W (.slice a m cap) l)=>OU (.slice a m cap) l nx n W h.1 (by rw[HM.out];omega)
 unfold Ua Bo at cD;unfold Pq Bo at cL;obtain⟨D,hD⟩:∃D,(AQ l).length=D:=⟨_,rfl⟩;obtain⟨C,hC⟩:∃C,(AQ A).length=C:=⟨_,rfl⟩;have HD:=Aa hD;have HC:=Aa hC;have hD1:D≤201:=by rw[←hD];exact Gb l 201
 have hC1:C≤201:=by rw[←hC];exact Gb A 201
 clear hbx hD hC;go_cut [5,6] from 12 to 15 (fun v5 v6 wx=>∃a5 c5 a6 c6,v5=.slice a5 C c5∧v6=.slice a6 D c6∧JZ wx (.slice a5 C c5) (AQ A)∧JZ wx (.slice a6 D c6) (AQ l)∧Below W0.heap.size W0 wx)
 case first =>
  have hs0:=M4.out W0.drew (Ad _ _).drew;go_region_held3 (fun W=>Below W0.heap.size W0 W∧W.cell? ⟨bx,0,none⟩=some (.slice a m cap)∧W.cell? ⟨bx,1,none⟩=some (.int .i64 nx)) (first|assumption|(refine M4.out _ ?_;first|assumption|exact(Ad _ _).drew|exact CL ‹_›)) (first
   | (go_at_call 64;refine(Bp.WZ (HIW.out _ (by first|assumption|exact(Ad _ _).drew))).mono ?_;rintro e w1 ⟨v1,rfl,hn1,_,hb1⟩;have hq1:Below W0.heap.size W0 w1:=CV (Ae _) (by first|assumption|exact(Ad _ _).drew) hb1;obtain⟨a1,c1,hv1⟩:=hn1.len;subst hv1;have hk1:=fun W (h:Below w1.heap.size w1 W)=>AU.kept hn1 h;rw[HC.out])
   | (go_at_call 65;refine(cD _ (Zg.out _ (by first|assumption|exact(Ad _ _).drew))).mono ?_;rintro e w2 ⟨v2,rfl,hn2,hb2⟩;have hq2:Below W0.heap.size W0 w2:=CV (Ae _) (by first|assumption|exact(Ad _ _).drew) hb2;obtain⟨a2,c2,hv2⟩:=hn2.len;subst hv2;have hk2:=fun W (h:Below w2.heap.size w2 W)=>AU.kept hn2 h;rw[HD.out]))
  all_goals
   rw[HC.out]at hn1;rw[HD.out]at hn2;go_wp2;go_meet
   first
    | exact⟨_,_,_,_,rfl,rfl,AU.kept hn1 hb2,hn2,hq2⟩
    | exact⟨_,_,_,_,rfl,rfl,hn1,AU.kept hn2 hb1,hq1⟩
 case rest =>
  obtain⟨W2,hW2⟩:∃W,W=wc:=⟨_,rfl⟩;subst hW2;obtain⟨a5,c5,a6,c6,h5,h6,hn5,hn6,hb2⟩:=hcut;subst h5;subst h6;have HN5:=Aa hn5;have HN6:=Aa hn6;have HB2:=Aa hb2;have hs2:=M4.out W2 hb2;clear hn5 hn6;obtain⟨nA,hnA⟩:∃nA,A.length=nA:=⟨_,rfl⟩;have HNA:=Aa hnA;rw[hnA]at hlen;obtain⟨Hd,hHd⟩:∃Hd:Bool,Hd=(!(decide (C=D))||(!(decide (gZ=nx))||!(decide (nA=m)))):=⟨_,rfl⟩;have HHD:=Aa hHd;clear hHd;have cQ1:∀p,Calls Tryz.prog 66 #[Aj b] (W2.drewN p) fun e w'=>e=.returned (.int .i64 gZ)∧∃q,w'=(W2.drewN p).drewN q:=fun p =>
   (bW (HIW.out _ (Ao hb2 p))).mono fun e w' ⟨h1,h2⟩=>⟨h1,0,h2⟩
  have cQ2:∀p,Calls Tryz.prog 67 #[Aj b] (W2.drewN p) fun e w'=>e=.returned (.int .i64 (nA:Int))∧∃q,w'=(W2.drewN p).drewN q:=fun p=>by
   have h9:=ll (HIW.out _ (Ao hb2 p));rw[hnA]at h9;exact h9
  clear hnA;go_upto_region 2 with fail;go_cut [35] from 16 to 35 (fun c wx=>c=.bool Hd∧Below W2.heap.size W2 wx)
  case first =>
   obtain⟨_,x0,x1⟩:=hs2;by_cases e1:C=D
   · subst e1;by_cases e2:gZ=nx
     · subst e2;by_cases e3:nA=m
       · subst e3;have zW:Hid (Hd=false):=Aa (by rw[HHD.out];simp);go_quiet ((first
          | (go_at_call 66;exact Calls.quiet_of (cQ1 _))
          | (go_at_call 67;exact Calls.quiet_of (cQ2 _))))
         go_wp2;go_meet;exact⟨by(rw[zW.out]);try (congr 1;assumption),Ao (Ad _ _) _⟩
       · have e3z:((nA:Int)==(m:Int))=false:=by rw[A8];omega
         have e3c:((nA:Int)!=(m:Int))=true:=by simp[bne,e3z]
         have zW:Hid (Hd=true):=Aa (by rw[HHD.out];simp[e3]);go_quiet ((first
          | (go_at_call 66;exact Calls.quiet_of (cQ1 _))
          | (go_at_call 67;exact Calls.quiet_of (cQ2 _))))
         go_wp2;go_meet;exact⟨by(rw[zW.out]);try (congr 1;assumption),Ao (Ad _ _) _⟩
     · have e2z:(gZ==nx)=false:=A8.2 e2;have e2a:decide (gZ=nx)=false:=A7 e2;have e2c:(gZ !=nx)=true:=by simp[bne,e2z]
       have zW:Hid (Hd=true):=Aa (by rw[HHD.out];simp[e2]);go_quiet ((first
        | (go_at_call 66;exact Calls.quiet_of (cQ1 _))
        | (go_at_call 67;exact Calls.quiet_of (cQ2 _))))
       go_wp2;go_meet;exact⟨by(rw[zW.out]);try (congr 1;assumption),Ao (Ad _ _) _⟩
   · have e1y:¬(C:Int)=(D:Int):=by omega
     have e1z:((C:Int)==(D:Int))=false:=by rw[A8];omega
     have e1a:decide ((C:Int)=(D:Int))=false:=A7 e1y;have e1c:((C:Int)!=(D:Int))=true:=by simp[bne,e1z]
     have zW:Hid (Hd=true):=Aa (by rw[HHD.out];simp[e1]);go_quiet ((first
      | (go_at_call 66;exact Calls.quiet_of (cQ1 _))
      | (go_at_call 67;exact Calls.quiet_of (cQ2 _))))
     go_wp2;go_meet;exact⟨by(rw[zW.out]);try (congr 1;assumption),Ao (Ad _ _) _⟩
  case rest =>
   obtain⟨W3,hW3⟩:∃W,W=wc:=⟨_,rfl⟩;subst hW3;obtain⟨h35,hb3⟩:=hcut;subst h35;cases Hd with
   | true =>
    have hRf:Hid (R=false):=Aa (by
     cases R with
     | false=>rfl
     | true =>
      obtain⟨g1,g2,g3,_⟩:=HRR.out.1 rfl;have e1:C=D:=by rw[←HC.out,←HD.out,g1]
      have e3:nA=m:=by rw[←HNA.out,←HM.out,g3]
      have:=HHD.out;rw[AX e1,AX g2,AX e3]at this;exact absurd this (by decide))
    go_wp2;go_ret;exact⟨by rw[hRf.out];rfl,by rw[JK.out];exact HB0.out.trans ((HB2.out.trans (hb3.mono HB2.out.size)).mono (by omega))⟩
   | false =>
    have hcd:C=D∧gZ=nx∧nA=m:=by
     have h9:=HHD.out;by_cases e1:C=D
     · by_cases e2:gZ=nx
       · by_cases e3:nA=m
         · exact⟨e1,e2,e3⟩
         · rw[AX e1,AX e2,A7 e3]at h9;exact absurd h9 (by decide)
       · rw[AX e1,A7 e2]at h9;exact absurd h9 (by simp)
     · rw[A7 e1]at h9;exact absurd h9 (by simp)
    obtain⟨rfl,rfl,rfl⟩:=hcd;clear cQ1 cQ2 cD hC1 hll;go_wp2;go_loopw [7] (fun iv wr=>∃i:Nat,i≤C∧iv=.int .i64 i∧(∀j,j<i→(AQ A)[j]?=(AQ l)[j]?∧∀q,(AQ l)[j]?=some q→Ak A q=Ak l q)∧Below W2.heap.size W2 wr) (fun iv _=>C-(intOf iv).toNat)
    case atStart=>exact⟨0,by omega,rfl,fun j hj=>absurd hj (by omega),hb3⟩
    case round =>
     obtain⟨i,hi,rfl,hpre,hb⟩:=hrel;clear hb3;have KQ:=Aa hpre;have HB:=Aa hb;have hbw:Below W0.heap.size W0 wr:=hb2.trans (hb.mono hb2.size);have FJ:=Aa hbw;clear hpre;by_cases hin:i<C
     · have hiz:(i:Int)<(C:Int):=by omega
       obtain⟨q,hq⟩:∃x,(AQ A)[i]?=some x:=⟨_,Ci (by rw[HC.out];omega)⟩;obtain⟨p,hp⟩:∃x,(AQ l)[i]?=some x:=⟨_,Ci (by rw[HD.out];omega)⟩;obtain⟨g5,o5,rfl,hg5,hr5⟩:=HN5.out.at hq;obtain⟨g6,o6,rfl,hg6,hr6⟩:=HN6.out.at hp;have bJ:Hid (∀W,Below W2.heap.size W2 W→W.cell? ⟨g5,o5+i,none⟩=some (.int .i64 q)∧W.cell? ⟨g6,o6+i,none⟩=some (.int .i64 p)):=Aa (fun W hW=>by
        have h1:=SA (DI hr5 hg5 hW);have h2:=SA (DI hr6 hg6 hW);rw[Nat.mul_one]at h1 h2;exact⟨h1,h2⟩)
       obtain⟨p1,p2⟩:=bJ.out wr hb;have hq0:=Ve (Dr hq);have hp0:=Ve (Dr hp);have HQ:=Aa hq;have HP:=Aa hp;obtain⟨nq,hnq⟩:∃n,(Ak A q).length=n:=⟨_,rfl⟩;obtain⟨np,yI⟩:∃n,(Ak l p).length=n:=⟨_,rfl⟩;have HNQ:=Aa hnq;have HNP:=Aa yI;have AcC:nq≤200:=by have:=Iu A q;have:=HNA.out;omega
       have AcD:np≤200:=by have:=Iu l p;have:=HM.out;omega
       have cT:=Bp.list q (HIW.out wr hbw);rw[hq0.1,hq0.2]at cT;have cLp:=cL p;rw[hp0.1,hp0.2]at cLp;have LF:Hid (∀W,Below W2.heap.size W2 W→Below W2.heap.size W2 W∧W.cell? ⟨bx,0,none⟩=some (.slice a nA cap)∧W.cell? ⟨bx,1,none⟩=some (.int .i64 gZ)∧W.cell? ⟨g6,o6+i,none⟩=some (.int .i64 p)):=Aa (fun W hW=>⟨hW,(M4.out W (hb2.trans (hW.mono hb2.size))).2.1,(M4.out W (hb2.trans (hW.mono hb2.size))).2.2,(bJ.out W hW).2⟩);have Aaf:Hid (∀W,Below W2.heap.size W2 W→Below W0.heap.size W0 W):=Aa (fun W hW=>hb2.trans (hW.mono hb2.size));clear hr5 hr6 hg5 hg6 hq hp hnq yI hb2 hbw hq0 hp0 cL;go_upto_region 8 with(go_at_call 68;refine cT.mono ?_;rintro e w4 ⟨v4,rfl,he4,_,hb4⟩;have hq4:Below W2.heap.size W2 w4:=CV (Ae _) hb hb4;obtain⟨a4,c4,hv4⟩:=he4.len;subst hv4;rw[HNQ.out]at he4;have HE4:=Aa he4;rw[HNQ.out];clear he4 hb4 hb p1 p2);obtain⟨s0,s1,s2,s3⟩:=LF.out w4.drew hq4.drew;go_region_held3 (fun W=>Below W2.heap.size W2 W∧W.cell? ⟨bx,0,none⟩=some (.slice a nA cap)∧W.cell? ⟨bx,1,none⟩=some (.int .i64 gZ)∧W.cell? ⟨g6,o6+i,none⟩=some (.int .i64 p)) (first|assumption|(refine LF.out _ ?_;first|assumption|exact hq4.drew|exact CL ‹_›)) ((go_at_call 69;refine(cLp _ (Zg.out _ (Aaf.out _ hq4.drew))).mono ?_;rintro e w5 ⟨v5,rfl,he5,hb5⟩;have Ue:Below W2.heap.size W2 w5:=CV (Ae _) hq4.drew hb5;obtain⟨a5',c5',hv5⟩:=he5.len;subst hv5;rw[HNP.out]at he5;rw[HNP.out]))
       all_goals
        have HE5:=Aa he5;have Ach:Hid (DC w5 (.slice a4 nq c4) (Ak A q)):=Aa (AU.kept (w:=w4.drew) (AU.kept HE4.out (Ad _ _).drew) hb5);obtain⟨Z,hZ⟩:∃Z,decide (Ak A q=Ak l p)=Z:=⟨_,rfl⟩;have HZ:=Aa hZ;have cS:∀p',Calls Tryz.prog 70 #[.slice a4 nq c4,.slice a5' np c5'] (w5.drewN p') fun e w'=>e=.returned (.bool Z)∧∃q,w'=(w5.drewN p').drewN q:=fun p'=>by
         have h:=lT (.slice a4 nq c4) (.slice a5' np c5') (Ak A q) (Ak l p) (w5.drewN p') (AU.kept Ach.out (Ao (Ad _ _) p')) (AU.kept HE5.out (Ao (Ad _ _) p')) (by rw[HNQ.out];omega) (by rw[HNP.out];omega);rw[hZ]at h;exact h
        obtain⟨p1,p2⟩:=bJ.out w5 Ue;have kE:=Aa Ue;clear he5 hb5 Ue hq4 s0 s1 s2 s3 hZ;by_cases hqp:q=p
        · subst hqp;cases Z with
          | true =>
           have HEQ:Hid (Ak A q=Ak l q):=Aa (Fj HZ.out);go_wp2;go_quiet ((go_at_call 70;exact Calls.quiet_of (cS _)));go_wp2;go_roundw
           case rel=>exact⟨i+1,by omega,by first|rfl|go_num,(fun j hj=>by
            by_cases hji:j<i
            · exact KQ.out j hji
            · obtain rfl:j=i:=by omega
              refine⟨HQ.out.trans HP.out.symm,fun q' hq'=>?_⟩;rw[HP.out]at hq';obtain rfl:=Cm hq';exact HEQ.out),Ao kE.out _⟩
           case measure=>simp[intOf];omega
          | false =>
           have hRf:Hid (R=false):=Aa (by
            cases R with
            | false=>rfl
            | true =>
             obtain⟨g1,g2,g3,g4⟩:=HRR.out.1 rfl;exact absurd (g4 q (Dr HP.out)) (of_decide_eq_false HZ.out))
           go_wp2;go_quiet ((go_at_call 70;exact Calls.quiet_of (cS _)));go_wp2;go_ret;exact⟨by rw[hRf.out];rfl,by rw[JK.out];exact HB0.out.trans ((Aaf.out _ (Ao kE.out _)).mono (by omega))⟩
        · have AcB:(q==p)=false:=A8.2 hqp;have hRf:Hid (R=false):=Aa (by
           cases R with
           | false=>rfl
           | true =>
            obtain⟨g1,g2,g3,g4⟩:=HRR.out.1 rfl;have h9:=HQ.out;rw[g1,HP.out]at h9;exact absurd (Cm h9).symm hqp)
          go_wp2;go_quiet ((go_at_call 70;exact Calls.quiet_of (cS _)));go_wp2;go_ret;exact⟨by rw[hRf.out];rfl,by rw[JK.out];exact HB0.out.trans ((Aaf.out _ (Ao kE.out _)).mono (by omega))⟩
     · have hiz:¬(i:Int)<(C:Int):=by omega
       have hRt:Hid (R=true):=Aa (HRR.out.2 ⟨by
        apply List.ext_getElem?;intro j;by_cases hj:j<i
        · exact(KQ.out j hj).1
        · rw[List.getElem?_eq_none (by rw[HC.out];omega),List.getElem?_eq_none (by rw[HD.out];omega)],rfl,by rw[HNA.out,HM.out],fun q hq=>by
        obtain⟨j,hj⟩:=List.getElem?_of_mem hq;have hji:j<i:=by
         have:=(Ed.1 hj).1;rw[HD.out]at this;omega
        exact(KQ.out j hji).2 q hj⟩)
       go_wp2;go_ret;exact⟨by rw[hRt.out];rfl,by rw[JK.out];exact HB0.out.trans (FJ.out.mono (by omega))⟩
end Go.Proofs.YtdmkhmeaphaapaaGreat
namespace Go.Proofs.YtdmkhmeaphaapaaGreat
open Go.RowKit Go.Sort
theorem Vx {l:List Az}{c:Int}(h:Aq l c){q:Int}(hq:q∉AQ l):Ak l q=[]:=by
 unfold Ak;rw[List.map_eq_nil_iff,List.filter_eq_nil_iff];intro x hx;simp only[decide_eq_true_eq];rintro rfl;refine hq (Jf.2 ⟨?_,h.BG x hx⟩);by_cases hf:x.BG<0∨200<x.BG
 · have h1:=h.far hf;rw[h.BG x hx]at h1;exact absurd h1 (by decide)
 · exact⟨x.BG.toNat,by omega,by omega⟩
theorem jm {l l':List Az}{c c':Int}(ht:Twin l l')(hg:Aq l c)(hg':Aq l' c'):AQ l'=AQ l:=by
 unfold AQ Ca;refine List.filter_congr fun x _=>?_
 rw[ht.kind hg hg']
theorem bq {A l:TI}(hA:Cq A)(hl:Cq l):bM A.1 l.1 A.2 l.2↔CG A l:=by
 constructor
 · rintro⟨h1,h2,h3,h4⟩;refine⟨⟨fun q=>?_⟩,h2⟩;by_cases hq:q∈AQ l.1
   · exact(h4 q hq).symm
   · rw[Vx hl hq,Vx hA (by rw[h1];exact hq)]
 · rintro⟨h1,h2⟩;exact⟨(jm h1 hA hl).symm,h2,(h1.len hA hl).symm,fun q _=>(h1.Fw q).symm⟩
end Go.Proofs.YtdmkhmeaphaapaaGreat
