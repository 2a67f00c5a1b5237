/- Kit. -/
import Derived.Test.YtdmkhmeaphaapaaGreatMZ15
import Derived.Test.YtdmkhmeaphaapaaGreatMZ16
import Derived.Test.YtdmkhmeaphaapaaGreatMZ13
import Derived.Test.YtdmkhmeaphaapaaGreatMZ14
import Derived.Test.YtdmkhmeaphaapaaGreatMZ17
import Derived.Carry
import Derived.Test.YtdmkhmeaphaapaaGreatMZ0
set_option maxRecDepth 100000
set_option linter.unusedVariables false
set_option linter.unusedSimpArgs false
namespace Go.Proofs.YtdmkhmeaphaapaaGreat
open Go.RowKit Go.Sort
theorem RL {w:World}{b:Nat}{l:List Az}{nx:Int}{S:Nat→Prop}(h:Bp.Is w b l nx S){d:Int}(hd:AO l d=2) :
 Calls Tryz.prog 68 #[Aj b,.int .i64 d] w fun e w'=>∃v,e=.returned (.tuple #[v,.int .i64 0])∧w'.ownsRow w.heap.size 112 5 v (Ak l d).length ((Ak l d).flatMap DU)∧Below w.heap.size w w':=by
 obtain⟨R,u,v,ys,hm,ho,hg,_⟩:=h;have h:=JM hm (fun n hn=>Al (hg.NR n) (by omega)) d;unfold KM PL at h;rw[hg.open']at h;have hE:Bc l d=0:=by
  unfold Bc;rw[if_neg (by rw[hd];decide),if_neg (by rw[hd];decide)]
 obtain⟨n,rfl,_,_⟩:=hg.dir hE;rw[hE,if_pos rfl,DW]at h;exact h
theorem RN {w:World}{b:Nat}{l:List Az}{nx:Int}{S:Nat→Prop}(h:Bp.Is w b l nx S) :
 Calls Tryz.prog 64 #[Aj b] w fun e w'=>∃v,e=.returned v∧w'.ownsRow w.heap.size 3 1 v (AQ l).length ((AQ l).flatMap Gx)∧Below w.heap.size w w':=by
 obtain⟨R,u,v,ys,hm,ho,hg,_⟩:=h;have h:=JN hm;unfold KN at h;rw[O7]at h;exact h
theorem Wp {l:List Az}{nx:Int}(h:Aq l nx)(hx:nx≤9223372036854775807){d:Int×List Bq}(hd:d∈AR l):Od d:=by
 refine⟨(WI h (by omega)).2.2 d hd,fun e he=>?_⟩;unfold AR at hd;obtain⟨q,hq,rfl⟩:=Cy.1 hd;obtain⟨x,hx2,_,rfl⟩:=Dy.1 he;have h3:=h.GL x hx2;omega
structure MH (w:World)(bw:Nat)(u:List UInt8)(W:World):Prop where
 wr:Q3 IW bw bw (Lib.byteCells u) W
 b:Below bw w W
 s:bw≤W.heap.size
section
variable {w W W':World}{bw:Nat}{u:List UInt8}
theorem MH.step (h:MH w bw u W){u':List UInt8}{e:Ending}(hp:F5 IW bw bw W u' e W'):e=.returned (.tuple #[])∧MH w bw u' W'∧I7 IW W W':=
 ⟨hp.1,⟨hp.2.1,h.b.trans hp.2.2.1,Al h.s hp.2.2.1.size⟩,hp.2.2.2⟩
theorem MH.below (h:MH w bw u W)(hb:Below W.heap.size W W'):MH w bw u W':=⟨h.wr.below hb,h.b.trans (hb.mono h.s),Al h.s hb.size⟩
theorem MH.num (h:MH w bw u W)(z kk:Int)(k:Nat)(hk:kk=(k:Int))(uW:k≤8)(hz:0≤z∧z≤9223372036854775807)(hu:u.length≤1000000) :
 Calls Tryz.prog 75 #[DD bw,.int .i64 z,.int .i64 kk] W fun e w'=>e=.returned (.tuple #[])∧MH w bw (u++BB z.toNat k) w'∧I7 IW W w':=by
 subst hk;have h9:=Kq Yx bw bw z.toNat k u W h.wr (by omega) uW hu h.s;rw[show((z.toNat:Nat):Int)=z by omega]at h9;exact h9.mono fun e w' hp=>h.step hp
end
set_option maxHeartbeats 8000000 in
theorem O6 {w:World}{b:Nat}{l:List Az}{nx:Int}{S:Nat→Prop}(h:Bp.Is w b l nx S)(hx:nx≤9223372036854775807) :
 Calls Tryz.prog 72 #[Aj b] w fun e w'=>e=.returned (.string ⟨(BI l nx).toArray⟩)∧Below w.heap.size w w':=by
 have hgood:=bV h;have hshort:=Jd hgood;have hnx:=Bp.next h;obtain⟨L,hL⟩:∃L,BI l nx=L:=⟨_,rfl⟩;have LJ:Hid (∀d∈AR l,Od d):=Aa fun d hd=>Wp hgood hx hd
 have xA:Hid (∀q∈AQ l,AO l q=2):=Aa fun q hq=>(Jf.1 hq).2
 have HRG:Hid (∀q∈AQ l,0≤q∧q≤200):=Aa fun q hq=>JU hq
 rw[hL]at hshort ⊢;unfold BI NH at hL;have hdl:(AR l).length=(AQ l).length:=by unfold AR;rw[Em]
 rw[hdl]at hL;obtain⟨n,hn⟩:∃n,(AQ l).length=n:=⟨_,rfl⟩;have hn1:n≤201:=by rw[←hn];exact Gb l 201
 rw[hn]at hL;have hlen:=Gu List.length hL;simp only[List.length_append,Ag]at hlen;have HL:=Aa hL;have HN:=Aa hn;have HLEN:Hid (((AR l).flatMap Cv).length≤60000):=Aa (by omega);have HT:Hid (∀W,Below w.heap.size w W→Bp.Is W b l nx S):=Aa fun W hW=>Bp.below h hW
 have xE:Hid (MH w w.heap.size [] (w.alloc (.cells #[.pointer none,.slice none 0 0] 197))):=Aa
  ⟨Or.inl ⟨Ae _,.slice none 0 0,Ai w _,FM _ _ _ _,by simp[Value.ownBlock]⟩,(Ad _ _).alloc (Ae _) _,by simp⟩
 have cC:=bW (HT.out _ xE.out.b);clear h hgood hshort hL hdl hlen hn;go_enter Tryz.func72,Tryz.ntmps72;go_upto_region 2 with fail;generalize (w.alloc (.cells #[.pointer none,.slice none 0 0] 197))=W0 at *;obtain⟨bw,hbw⟩:∃bw,w.heap.size=bw:=⟨_,rfl⟩;rw[hbw]at xE HT ⊢;have FJ:=Aa hbw;clear hbw;go_upto_region 3 with(first
  | (go_at_call 66;refine cC.mono ?_;rintro e w1 ⟨rfl,rfl⟩)
  | (go_at_call 75;(with_reducible refine(xE.out.num _ 8 8 rfl (by omega) (by omega) (by simp)).mono ?_);rintro e w2 ⟨rfl,he,_⟩;have HE:=Aa he;clear he))
 clear cC;have cD:=RN (HT.out _ HE.out.b);have cD2:=HN.out;rw[cD2]at cD;go_upto_region 4 with(go_at_call 64;refine cD.mono ?_;rintro e w3 ⟨v3,rfl,ho3,hb3⟩;obtain⟨a3,c3,hv3⟩:=Au ho3;have HE:=Aa (HE.out.below hb3);have I6:=Aa ho3;clear ho3 hb3;subst hv3);clear cD;go_upto_region 5 with(go_at_call 75;(with_reducible refine(HE.out.num _ 2 2 rfl (by omega) (by omega) (by simp only[List.length_append,Ag,List.length_nil];omega)).mono ?_);rintro e w4 ⟨rfl,he,hf4⟩;have HE:=Aa he;have qY:=Aa (KZ (T:=IW) (T0:=3) hf4 (by decide) (by decide) I6.out);clear he hf4);have wJ:([]:List UInt8)++BB nx.toNat 8++BB (Int.toNat (n:Int)) 2=BB nx.toNat 8++BB n 2:=by simp
 rw[wJ]at HE;clear wJ I6;obtain⟨B3,hB3⟩:∃B3,w2.heap.size=B3:=⟨_,rfl⟩;rw[hB3]at qY;have HAT:Hid (∀(W:World) (i:Nat) (x:Int),W.ownsRow B3 3 1 (.slice a3 n c3) n ((AQ l).flatMap Gx)→(AQ l)[i]?=some x→∃g off,a3=some ⟨g,off,none⟩∧g<W.heap.size∧W.rangeAt g (off+i*1) (Gx x)):=Aa fun W i x hW hi=>AU.at (AU.own (Du _) hW HN.out.symm) hi
 go_wp2_with fail;go_loopw [21] (fun iv wr=>∃i:Nat,i≤n∧iv=.int .i64 i∧MH w bw (BB nx.toNat 8++BB n 2++((AR l).take i).flatMap Cv) wr∧wr.ownsRow B3 3 1 (.slice a3 n c3) n ((AQ l).flatMap Gx)) (fun iv _=>n-(intOf iv).toNat)
 case atStart=>exact⟨0,by omega,rfl,by simpa using HE.out,qY.out⟩
 case round =>
  obtain⟨i,hi,rfl,he,ho⟩:=hrel;have HE:=Aa he;have HO:=Aa ho;clear he ho;by_cases him:i<n
  · have hiz:(i:Int)<(n:Int):=by omega
    have hi0:(0:Int)≤(i:Int):=by omega
    obtain⟨q,hq⟩:∃q,(AQ l)[i]?=some q:=⟨_,Ci (by rw[HN.out];omega)⟩;have hqm:=Dr hq;obtain⟨g,off,rfl,hg,hr⟩:=HAT.out wr i q HO.out hq;have d0:=SA hr;rw[Nat.mul_one]at d0;have hd:(AR l)[i]?=some (q,Ak l q):=by
     unfold AR;rw[Hl,hq];rfl
    have LG:=Aa (LJ.out _ (Dr hd));have Xo:=Aa (Jy (f:=Cv) hd);have hle:=Gr Cv (AR l) (i+1);rw[Xo.out,Bg]at hle;have hln:((BB nx.toNat 8++BB n 2)++((AR l).take i).flatMap Cv).length+(Cv (q,Ak l q)).length≤900000:=by
     have:=HLEN.out;simp only[List.length_append,Ag];omega
    have cL:=RL (HT.out wr (by first|exact HE.out.b|(rw[FJ.out];exact HE.out.b))) (xA.out q hqm);have cW:Hid (∀(W:World) (B2:Nat) (v:Value),MH w bw (BB nx.toNat 8++BB n 2++((AR l).take i).flatMap Cv) W→W.ownsRow B2 112 5 v (Ak l q).length ((Ak l q).flatMap DU)→Calls Tryz.prog 113 #[DD bw,.agg #[.int .i64 q,v]] W fun e w'=>e=.returned (.tuple #[])∧MH w bw (BB nx.toNat 8++BB n 2++((AR l).take (i+1)).flatMap Cv) w'∧I7 IW W w'):=Aa fun W B2 v hW hv=>by
     rw[Xo.out,←Cc];exact(kT bw bw q v B2 (Ak l q) _ W hW.wr hv LG.out hln hW.s).mono fun e w' hp=>hW.step hp
    clear hr hq hqm hd hle hln;go_wp2_with (first
     | (go_at_call 68;refine cL.mono ?_;rintro e w5 ⟨v5,rfl,WL,hb5⟩;obtain⟨a5,c5,hv5⟩:=Au WL;have HE5:=Aa (HE.out.below hb5);have qW:=Aa WL;have Ze:=Aa (KZ (T:=IW) (T0:=3) (I7.below hb5) (by decide) (by decide) HO.out);clear WL hb5;subst hv5)
     | (go_at_call 113;refine(cW.out _ _ _ HE5.out qW.out).mono ?_;rintro e w6 ⟨rfl,he6,hf6⟩;have HE6:=Aa he6;have vZ:=Aa (KZ (T:=IW) (T0:=3) hf6 (by decide) (by decide) Ze.out);clear he6 hf6))
    go_roundw
    case rel=>exact⟨i+1,by omega,by first|rfl|go_num,HE6.out,vZ.out⟩
    case measure=>simp[intOf];omega
  · have hiz:¬(i:Int)<(n:Int):=by omega
    have HA:Hid ((AR l).take i=AR l):=Aa (CO (by unfold AR;rw[Em,HN.out];omega));rw[HA.out]at HE;have hfin:BB nx.toNat 8++BB n 2++(AR l).flatMap Cv=L:=by
     rw[←HL.out];simp only[List.append_assoc]
    rw[hfin]at HE;have cT:=VS bw bw L wr HE.out.wr HE.out.s;clear hfin;go_wp2_with (go_at_call 78;refine cT.mono ?_;rintro e w7 ⟨rfl,IG⟩;have kH:=Aa IG;clear IG);go_ret;exact⟨rfl,by first|exact HE.out.b.trans kH.out|(rw[FJ.out];exact HE.out.b.trans kH.out)⟩
structure RS where
 l:List UInt8
 p:Bool
def RS.num (k:Nat)(r:RS):RS:=⟨r.l.drop k,r.p||decide (r.l.length<k)⟩
def RS.ku (r:RS):RS:=⟨X5 r.l,r.p||nmP r.l⟩
def Le (r:RS):Bq×RS:=
 (⟨QV r.l,(Fq 2 r.ku.l:Int),decide (Fq 1 (r.ku.num 2).l=1),RD 8 ((r.ku.num 2).num 1).l,(Fq 4 (((r.ku.num 2).num 1).num 8).l:Int)⟩,(((r.ku.num 2).num 1).num 8).num 4)
section
variable {α:Type}
def EJ (R:RS→α×RS):Nat→RS→List α×RS
 | 0,r=>([],r)
 | n+1,r=>if r.p=true then([],r) else((R r).1::(EJ R n (R r).2).1,(EJ R n (R r).2).2)
def M8 (R:RS→α×RS)(r:RS):List α×RS:=EJ R (Fq 2 r.l) (r.num 2)
end
def KG (r:RS):(Int×List Bq)×RS:=(((Fq 2 r.l:Int),(M8 Le (r.num 2)).1),(M8 Le (r.num 2)).2)
def Nr (b:List UInt8):Int:=RD 8 b
def LB (b:List UInt8):List (Int×List Bq):=(M8 KG (RS.num 8 ⟨b,false⟩)).1
theorem Fg (k:Nat)(r:RS):(r.num k).l.length≤r.l.length:=by
 unfold RS.num;simp only[List.length_drop];omega
theorem ni (r:RS):r.ku.l.length≤r.l.length:=by
 unfold RS.ku X5;simp only[List.length_drop];omega
theorem WX (r:RS):(Le r).2.l.length≤r.l.length:=
 Al (Fg 4 _) (Al (Fg 8 _) (Al (Fg 1 _) (Al (Fg 2 _) (ni r))))
theorem XJ {α:Type}{R:RS→α×RS}(hR:∀r,(R r).2.l.length≤r.l.length):∀n r,(EJ R n r).2.l.length≤r.l.length
 | 0,r=>Ae _
 | n+1,r=>by
  unfold EJ;split
  · exact Ae _
  · exact Al (XJ hR n _) (hR r)
theorem UM {α:Type}{R:RS→α×RS}:∀n r,(EJ R n r).1.length≤n
 | 0,r=>Ae _
 | n+1,r=>by
  unfold EJ;split
  · exact Nat.zero_le _
  · have:=UM (R:=R) n (R r).2;simp only[List.length_cons];omega
theorem MM {α:Type}{R:RS→α×RS}{P:α→Prop}(hR:∀r,(R r).2.l.length≤r.l.length)(m:Nat)(hP:∀r,r.l.length≤m→P (R r).1):∀n r,r.l.length≤m→∀x∈(EJ R n r).1,P x
 | 0,r,_,x,hx=>absurd hx (by simp[EJ])
 | n+1,r,hm,x,hx=>by
  unfold EJ at hx;split at hx
  · exact absurd hx (by simp)
  · rcases Er.1 hx with rfl|hx
    · exact hP r hm
    · exact MM hR m hP n _ (Al (hR r) hm) x hx
theorem tC {α:Type}{R:RS→α×RS}(hR:∀r,(R r).2.l.length≤r.l.length)(r:RS):(M8 R r).2.l.length≤r.l.length:=Al (XJ hR _ _) (Fg 2 r)
theorem Xa (r:RS):(KG r).2.l.length≤r.l.length:=Al (tC WX _) (Fg 2 r)
theorem XI {α:Type}{R:RS→α×RS}(r:RS):(M8 R r).1.length≤65535:=by
 have h1:=UM (R:=R) (Fq 2 r.l) (r.num 2);have h2:=PR 2 r.l;show(EJ R _ _).1.length≤_
 omega
theorem mZ (l:List UInt8):(QV l).size≤l.length:=by
 show(QV l).data.size≤_
 unfold QV;rw[←BP];simp only[List.length_take,List.length_drop];omega
theorem jr (r:RS)(h:r.l.length≤100000):∀e∈(KG r).1.2,e.name.size≤9223372036854775807:=by
 intro e he;exact MM (P:=fun e:Bq=>e.name.size≤9223372036854775807) WX 100000 (fun r hr=>by have:=mZ r.l;show(QV r.l).size≤_;omega) _ _ (Al (Fg 2 _) (Al (Fg 2 r) h)) e he
def Qp (ds:List (Int×List Bq)):Cr:=ds.foldl (fun G d=>fun q=>if q=d.1 then some d.2 else G q) fun _=>none
theorem RX (ds:List (Int×List Bq))(d:Int×List Bq):Qp (ds++[d])=fun q=>if q=d.1 then some d.2 else Qp ds q:=by
 unfold Qp;rw[List.foldl_append];rfl
theorem ML:∀(n:Nat) (ds:List (Int×List Bq)),ds.length=n→∀{q:Int} {es:List Bq},Qp ds q=some es→(q,es)∈ds
 | 0,ds,hn,q,es,h=>by
  obtain rfl:=Kj hn;exact absurd h (by simp[Qp])
 | n+1,ds,hn,q,es,h=>by
  obtain⟨ds',d,rfl⟩:∃ds' d,ds=ds'++[d]:=⟨ds.dropLast,ds.getLast (by intro e;rw[e]at hn;exact absurd hn (by simp)),(List.dropLast_concat_getLast _).symm⟩;rw[RX]at h;simp only at h;rw[Bg,Rx]at hn;split at h
  · rename_i hq;obtain rfl:=Cm h;rw[hq];exact List.mem_append_right _ (CU.2 rfl)
  · exact List.mem_append_left _ (ML n ds' (by omega) h)
theorem XE:∀(n:Nat) (ds:List (Int×List Bq)),ds.length=n→∀{q:Int},(∃d∈ds,d.1=q)→(Qp ds q).isSome=true
 | 0,ds,hn,q,⟨d,hd,_⟩=>by
  obtain rfl:=Kj hn;exact absurd hd (by simp)
 | n+1,ds,hn,q,⟨e,he,hq⟩=>by
  obtain⟨ds',d,rfl⟩:∃ds' d,ds=ds'++[d]:=⟨ds.dropLast,ds.getLast (by intro e;rw[e]at hn;exact absurd hn (by simp)),(List.dropLast_concat_getLast _).symm⟩;rw[RX];rw[Bg,Rx]at hn;simp only;split
  · rfl
  · rename_i hne;rcases FB.1 he with h|h
    · exact XE n ds' (by omega) ⟨e,h,hq⟩
    · obtain rfl:=CU.1 h;exact absurd hq.symm hne
theorem cz (l:List Az):Qp (AR l)=M9 l:=by
 funext q;unfold M9;by_cases h:q∈AQ l
 · rw[if_pos h];have h1:=XE _ (AR l) rfl (q:=q) ⟨(q,Ak l q),Cy.2 ⟨q,h,rfl⟩,rfl⟩;obtain⟨es,he⟩:=Option.isSome_iff_exists.1 h1;have h2:=ML _ _ rfl he;unfold AR at h2;obtain⟨q',_,h3⟩:=Cy.1 h2;obtain⟨rfl,rfl⟩:=Prod.mk.inj h3;exact he
 · rw[if_neg h];cases he:Qp (AR l) q with
   | none=>rfl
   | some es =>
    have h2:=ML _ _ rfl he;unfold AR at h2;obtain⟨q',h4,h3⟩:=Cy.1 h2;obtain⟨rfl,rfl⟩:=Prod.mk.inj h3;exact absurd h4 h
theorem ZE (b:List UInt8)(h:b.length≤100000):bu (Qp (LB b)):=by
 have key:∀d∈LB b,d.2.length≤100000∧∀e∈d.2,e.name.size≤9223372036854775807:=
  MM (P:=fun d:Int×List Bq=>d.2.length≤100000∧∀e∈d.2,e.name.size≤9223372036854775807) Xa 100000
   (fun r hr=>⟨by have:=XI (R:=Le) (r.num 2);show(M8 Le (r.num 2)).1.length≤_;omega,jr r hr⟩) _ _ (Al (Fg 2 _) (Al (Fg 8 _) h))
 exact⟨fun q es he=>(key _ (ML _ _ rfl he)).1,fun q es he=>(key _ (ML _ _ rfl he)).2⟩
theorem xZ (n k:Nat)(h:n<256^k)(r:List UInt8):Fq k (BB n k++r)=n:=by
 rw[rd_val,MB,bR n k h]
theorem Hz (n k:Nat)(r:List UInt8):RS.num k ⟨BB n k++r,false⟩=⟨r,false⟩:=by
 unfold RS.num;simp only[IA,List.length_append,Ag,Bool.false_or];rw[A7 (by omega)]
theorem ig (s:ByteArray)(hs:s.size<256)(r:List UInt8):RS.ku ⟨EN s++r,false⟩=⟨r,false⟩:=by
 unfold RS.ku nmP;have hl:((EN s++r).drop 1).length=s.size+r.length:=by
  rw[D8,Bg,BN];omega
 have hr:Fq 1 (EN s++r)=s.size:=by
  unfold EN;rw[Cc,x8 _ hs]
 simp only[yg s hs,hl,hr,Bool.false_or];rw[A7 (by rw[Bg,BN];omega),A7 (by omega)];rfl
theorem Aan (n:Nat)(h:n≤9223372036854775807)(r:List UInt8):RD 8 (BB n 8++r)=(n:Int):=by
 unfold RD;rw[xZ n 8 (by omega),IntWalk.wrap64_in _ (by omega)]
theorem jh (e:Bq)(h:bL e)(r:List UInt8):Le ⟨Gs e++r,false⟩=(e,⟨r,false⟩):=by
 obtain⟨⟨k1,⟨k2,k3⟩,⟨k4,k5⟩,⟨k6,k7⟩⟩,k8⟩:=h;obtain⟨s,n,d,c,q⟩:=e;simp only at k1 k2 k3 k4 k5 k6 k7 k8;obtain⟨n,rfl⟩:∃m:Nat,n=m:=⟨n.toNat,by omega⟩;obtain⟨c,rfl⟩:∃m:Nat,c=m:=⟨c.toNat,by omega⟩;obtain⟨q,rfl⟩:∃m:Nat,q=m:=⟨q.toNat,by omega⟩;have hb:DF d<2:=by unfold DF;split<;>omega
 unfold Le Gs;simp only[Int.toNat_natCast,List.append_assoc];rw[ig s k1,Hz,Hz,Hz,Hz];simp only;rw[yh s k1,rd2 n (by omega),x8 _ (by omega),Aan c (by omega),rd4 q (by omega)];cases d<;>simp[DF]
theorem fU {α:Type}{R:RS→α×RS}{B:α→List UInt8}(xs:List α)(hR:∀x∈xs,∀r,R ⟨B x++r,false⟩=(x,⟨r,false⟩))(r:List UInt8):EJ R xs.length ⟨xs.flatMap B++r,false⟩=(xs,⟨r,false⟩):=by
 induction xs with
 | nil=>rfl
 | cons x xs ih =>
  rw[List.flatMap_cons,Cc,GM];unfold EJ;rw[if_neg (by simp),hR x (List.mem_cons_self ..)];simp only;rw[ih fun y hy=>hR y (List.mem_cons_of_mem _ hy)]
theorem R7 {α:Type}{R:RS→α×RS}{B:α→List UInt8}(xs:List α)(hl:xs.length<65536)(hR:∀x∈xs,∀r,R ⟨B x++r,false⟩=(x,⟨r,false⟩))(r:List UInt8):M8 R ⟨BB xs.length 2++(xs.flatMap B++r),false⟩=(xs,⟨r,false⟩):=by
 unfold M8;rw[Hz];simp only;rw[rd2 _ hl,fU xs hR r]
theorem jw (d:Int×List Bq)(h:fw d)(hc:∀e∈d.2,e.Am≤9223372036854775807)(r:List UInt8):KG ⟨Cv d++r,false⟩=(d,⟨r,false⟩):=by
 obtain⟨⟨k1,k2⟩,k3,o⟩:=h;obtain⟨q,es⟩:=d;simp only at k1 k2 k3 o hc;obtain⟨q,rfl⟩:∃m:Nat,q=m:=⟨q.toNat,by omega⟩;unfold KG Cv;simp only[Int.toNat_natCast,List.append_assoc];rw[Hz,R7 es k3 (fun e he r=>jh e ⟨o e he,hc e he⟩ r)];simp only;rw[rd2 q (by omega)]
theorem iK {nx:Int}{ds:List (Int×List Bq)}(h:Y8 nx ds)(hx:nx≤9223372036854775807)(hc:∀d∈ds,∀e∈d.2,e.Am≤9223372036854775807):Nr (NH nx ds)=nx∧LB (NH nx ds)=ds:=by
 obtain⟨⟨k1,_⟩,k3,o⟩:=h;obtain⟨c,rfl⟩:∃m:Nat,nx=m:=⟨nx.toNat,by omega⟩;unfold Nr LB NH;simp only[Int.toNat_natCast];refine⟨Aan c (by omega) _,?_⟩;rw[Hz];have h9:=R7 (R:=KG) (B:=Cv) ds k3 (fun d hd r=>jw d (o d hd) (hc d hd) r) [];rw[Ct]at h9;rw[h9]
theorem mM {l:List Az}{nx:Int}(h:Aq l nx)(hx:nx≤9223372036854775807):∀d∈AR l,∀e∈d.2,e.Am≤9223372036854775807:=by
 intro d hd e he;unfold AR at hd;obtain⟨q,hq,rfl⟩:=Cy.1 hd;obtain⟨x,hx2,_,rfl⟩:=Dy.1 he;have h3:=h.GL x hx2;omega
theorem XY {l:List Az}{nx:Int}(h:Aq l nx)(hx:nx≤9223372036854775807):Nr (BI l nx)=nx∧LB (BI l nx)=AR l:=
 iK (WI h (by omega)) hx (mM h hx)
theorem RJ {l l':List Az}{nx nx':Int}(h:Aq l nx)(h':Aq l' nx')(hx:nx≤9223372036854775807)(hx':nx'≤9223372036854775807)(he:BI l' nx'=BI l nx):nx'=nx∧AQ l'=AQ l∧Twin l l':=by
 obtain⟨e1,e2⟩:=uM (WI h' (by omega)) (WI h (by omega)) he;have hd:AQ l'=AQ l:=by
  have:=Gu (List.map Prod.fst) e2;unfold AR at this;rw[List.map_map,List.map_map]at this;simpa[Function.comp_def]using this
 refine⟨e1,hd,⟨fun q=>?_⟩⟩;by_cases hq:q∈AQ l
 · have h1:(q,Ak l' q)∈AR l:=by
    rw[←e2];exact Cy.2 ⟨q,by rw[hd];exact hq,rfl⟩
   obtain⟨q2,_,h2⟩:=Cy.1 h1;obtain⟨rfl,h3⟩:=Prod.mk.inj h2;exact h3.symm
 · have key:∀{m:List Az} {c:Int},Aq m c→q∉AQ m→Ak m q=[]:=fun {m c} hg hn=>by
    apply List.eq_nil_iff_forall_not_mem.2;intro e he;obtain⟨x,hx2,hxi,_⟩:=Dy.1 he;exact hn (hg.WZ.2 (by rw[←hxi];exact hg.BG x hx2))
   rw[key h hq,key h' (by rw[hd];exact hq)]
theorem mK {l:List Az}{nx:Int}(h:Aq l nx):1≤nx∧(Fh (Qp (AR l)) nx).1=true∧(Fh (Qp (AR l)) nx).2.2=(AR l).length:=by
 rw[cz];have h1:=Ya (Su h) (Sr l) (JV l);refine⟨h.Md,h1.1,?_⟩;rw[h1.2,Km];unfold AR;rw[Em]
abbrev IR:TypeId:=233
theorem Ey {w W:World}{row:Option Nat}(h:w.grownBy W row){g j:Nat}(hg:w.heap.size≤g)(v:Value):w.grownBy (W.setCell ⟨g,j,none⟩ v) row:=
 ⟨h.os,h.tape,h.output,Al h.size (by simp[World.setCell]),fun k hk hn=>(Bw W ⟨g,j,none⟩ v k (by show k≠g;omega)).trans (h.block k hk hn)⟩
theorem FT {w W:World}{row:Option Nat}(h:w.grownBy W row)(o:Obj):w.grownBy (W.alloc o) row:=Db h (FQ ((Ad _ _).alloc (Ae _) _) row)
theorem OG {w W W':World}{row row':Option Nat}(h:w.grownBy W row)(k:W.grownBy W' row')(hr:∀g,row'=some g→w.heap.size≤g):w.grownBy W' row:=
 ⟨k.os.trans h.os,k.tape.trans h.tape,k.output.trans h.output,Al h.size k.size,fun j hj hn=>(k.block j (Nat.lt_of_lt_of_le hj h.size) (fun e=>by have:=hr j e.symm;omega)).trans (h.block j hj hn)⟩
structure Lm (w:World)(b q:Nat)(x:Bq)(r:RS)(W:World):Prop where
 z:W.heap[q]?=some YN
 d:W.heap[q+1]?=some (.cells #[.string x.name,.int .i64 x.node,.bool x.dir,.int .i64 x.Am,.int .i64 x.short] 112 (0,0))
 rd:Ej IR b r.l r.p W
 g:w.grownBy W (some b)
 lt:b<q
 hq:w.heap.size≤q
 len:r.l.length≤100000
section
variable {w W W':World}{b q:Nat}{x:Bq}{r:RS}
theorem Lm.step (h:Lm w b q x r W){r':RS}{v:Value}{e:Ending}(hl:r'.l.length≤r.l.length)(hp:Ew IR b W r'.l r'.p v e W'):e=.returned v∧Lm w b q x r' W':=by
 obtain⟨he,hw,hg⟩:=hp;have hlt:=h.lt;exact⟨he,(hg.block _ (Ab h.z) (fun e=>by have:=Cm e;omega)).trans h.z,(hg.block _ (Ab h.d) (fun e=>by have:=Cm e;omega)).trans h.d,hw,Db h.g hg,h.lt,h.hq,Al hl h.len⟩
theorem Lm.num (h:Lm w b q x r W)(kk:Int)(k:Nat)(hk:kk=(k:Int))(uW:k≤7){n:Int}{r':RS}(hn:Hid ((Fq k r.l:Int)=n))(hr:Hid (r.num k=r')) :
 Calls Tryz.prog 57 #[DD b,.int .i64 kk] W fun e w'=>e=.returned (.int .i64 n)∧Lm w b q x r' w':=by
 subst hk;obtain rfl:=hn.out;obtain rfl:=hr.out;have h9:=Ja b k r.l r.p W h.rd (by omega) h.len;rw[Gv k r.l uW]at h9;exact h9.mono fun e w' hp=>h.step (r':=r.num k) (Fg k r) hp
theorem Lm.Abq (h:Lm w b q x r W){n:Int}{r':RS}(hn:Hid (RD 8 r.l=n))(hr:Hid (r.num 8=r')) :
 Calls Tryz.prog 57 #[DD b,.int .i64 8] W fun e w'=>e=.returned (.int .i64 n)∧Lm w b q x r' w':=by
 obtain rfl:=hn.out;obtain rfl:=hr.out;exact(Ja b 8 r.l r.p W h.rd (by omega) h.len).mono fun e w' hp=>h.step (r':=r.num 8) (Fg 8 r) hp
theorem Lm.name (h:Lm w b q x r W){s:ByteArray}{r':RS}(hn:Hid (QV r.l=s))(hr:Hid (r.ku=r')) :
 Calls Tryz.prog 58 #[DD b] W fun e w'=>e=.returned (.string s)∧Lm w b q x r' w':=by
 obtain rfl:=hn.out;obtain rfl:=hr.out;exact(tT b r.l r.p W h.rd h.len).mono fun e w' hp=>h.step (r':=r.ku) (ni r) hp
theorem Lm.flag (h:Lm w b q x r W){t:Bool}{r':RS}(hn:Hid (decide (Fq 1 r.l=1)=t))(hr:Hid (r.num 1=r')) :
 Calls Tryz.prog 60 #[DD b] W fun e w'=>e=.returned (.bool t)∧Lm w b q x r' w':=by
 obtain rfl:=hn.out;obtain rfl:=hr.out;exact(tV b r.l r.p W h.rd h.len).mono fun e w' hp=>h.step (r':=r.num 1) (Fg 1 r) hp
theorem Lm.put (h:Lm w b q x r W)(j:Nat)(v:Value){x':Bq}(hx:(⟨DU x⟩:Array Value).setIfInBounds j v=⟨DU x'⟩):Lm w b q x' r (W.setCell ⟨q+1,j,none⟩ v):=by
 have hne:∀g,g≠q+1→(W.setCell ⟨q+1,j,none⟩ v).heap[g]?=W.heap[g]?:=fun g hg=>Bw _ _ _ _ hg
 have hlt:=h.lt;refine⟨by rw[hne _ (by omega)];exact h.z,?_,by unfold Ej;rw[hne _ (by omega)];exact h.rd,Ey h.g (by have:=h.hq;omega) v,h.lt,h.hq,h.len⟩;rw[Bj _ (q+1) j _ _ _ h.d];exact Gu (fun a=>some (Obj.cells a 112 (0,0))) hx
end
theorem mf {b:Nat}{r:RS}{w:World}(h:Ej IR b r.l r.p w)(hl:r.l.length≤100000):Lm w b w.heap.size Hq r ((w.alloc YN).alloc YN):=by
 have hb:=Ab h;refine⟨?_,?_,?_,FT (FT (World.grownBy.refl w _) _) _,hb,Ae _,hl⟩
 · rw[Lib.alloc_old _ _ _ (by simp)];exact Ai _ _
 · have h9:=Ai (w.alloc YN) YN;rwa[show(w.alloc YN).heap.size=w.heap.size+1 by simp]at h9
 · unfold Ej;rw[Lib.alloc_old _ _ _ (by simp;omega),Lib.alloc_old _ _ _ hb];exact h
def bA (b:Nat)(w:World)(f:Bq×RS)(e:Ending)(w':World):Prop:=e=.returned (Df f.1)∧Ej IR b f.2.l f.2.p w'∧w.grownBy w' (some b)
set_option maxHeartbeats 8000000 in
theorem ma (b:Nat)(r:RS)(w:World)(h:Ej IR b r.l r.p w)(hl:r.l.length≤100000) :
 Calls Tryz.prog 178 #[DD b] w (bA b w (Le r)):=by
 unfold bA;obtain⟨F,hF⟩:∃F,Le r=F:=⟨_,rfl⟩;rw[hF];unfold Le at hF;obtain⟨s1,hs1⟩:∃s1,QV r.l=s1:=⟨_,rfl⟩;obtain⟨r1,hr1⟩:∃r1,r.ku=r1:=⟨_,rfl⟩;rw[hs1,hr1]at hF;obtain⟨n2,hn2⟩:∃n2:Int,(Fq 2 r1.l:Int)=n2:=⟨_,rfl⟩;obtain⟨r2,hr2⟩:∃r2,r1.num 2=r2:=⟨_,rfl⟩;rw[hn2,hr2]at hF;obtain⟨t3,ht3⟩:∃t3,decide (Fq 1 r2.l=1)=t3:=⟨_,rfl⟩;obtain⟨r3,hr3⟩:∃r3,r2.num 1=r3:=⟨_,rfl⟩;rw[ht3,hr3]at hF;obtain⟨n4,Ki⟩:∃n4:Int,RD 8 r3.l=n4:=⟨_,rfl⟩;obtain⟨r4,hr4⟩:∃r4,r3.num 8=r4:=⟨_,rfl⟩;rw[Ki,hr4]at hF;obtain⟨n5,hn5⟩:∃n5:Int,(Fq 4 r4.l:Int)=n5:=⟨_,rfl⟩;obtain⟨r5,hr5⟩:∃r5,r4.num 4=r5:=⟨_,rfl⟩;rw[hn5,hr5]at hF;have jZ:=Aa hs1;have Hr1:=Aa hr1;have Hn2:=Aa hn2;have Hr2:=Aa hr2;have Ht3:=Aa ht3;have Hr3:=Aa hr3;have Hn4:=Aa Ki;have Hr4:=Aa hr4;have Hn5:=Aa hn5;have Hr5:=Aa hr5;have HF:=Aa hF;have HD:=Aa (mf h hl);clear h hl hs1 hr1 hn2 hr2 ht3 hr3 Ki hr4 hn5 hr5 hF;unfold Hq YN at HD;go_enter Tryz.func178,Tryz.ntmps178;go_upto_region 2 with fail;generalize ((w.alloc (.cells #[.string ⟨#[]⟩,.int .i64 0,.bool false,.int .i64 0,.int .i64 0] 112)).alloc (.cells #[.string ⟨#[]⟩,.int .i64 0,.bool false,.int .i64 0,.int .i64 0] 112))=W0 at *;generalize w.heap.size=q at *;go_upto_region 3 with(go_at_call 58;refine(HD.out.name jZ Hr1).mono ?_;rintro e w1 ⟨rfl,hd⟩;have HD:=Aa hd;clear hd;obtain⟨⟨_,_,_,_,_⟩,⟨f0,f1,f2,f3,f4⟩⟩:=Ah HD.out.d);have HD:=Aa (HD.out.put 0 (.string s1) (x':=⟨s1,0,false,0,0⟩) rfl);generalize (w1.setCell ⟨q+1,0,none⟩ (.string s1))=W1 at *;clear f0 f1 f2 f3 f4;go_upto_region 4 with(go_at_call 57;refine(HD.out.num 2 2 rfl (by omega) Hn2 Hr2).mono ?_;rintro e w2 ⟨rfl,hd⟩;have HD:=Aa hd;clear hd;obtain⟨⟨_,_,_,_,_⟩,⟨f0,f1,f2,f3,f4⟩⟩:=Ah HD.out.d);have HD:=Aa (HD.out.put 1 (.int .i64 n2) (x':=⟨s1,n2,false,0,0⟩) rfl);generalize (w2.setCell ⟨q+1,1,none⟩ (.int .i64 n2))=W2 at *;clear f0 f1 f2 f3 f4;go_upto_region 5 with(go_at_call 60;refine(HD.out.flag Ht3 Hr3).mono ?_;rintro e w3 ⟨rfl,hd⟩;have HD:=Aa hd;clear hd;obtain⟨⟨_,_,_,_,_⟩,⟨f0,f1,f2,f3,f4⟩⟩:=Ah HD.out.d);have HD:=Aa (HD.out.put 2 (.bool t3) (x':=⟨s1,n2,t3,0,0⟩) rfl);generalize (w3.setCell ⟨q+1,2,none⟩ (.bool t3))=W3 at *;clear f0 f1 f2 f3 f4;go_upto_region 6 with(go_at_call 57;refine(HD.out.Abq Hn4 Hr4).mono ?_;rintro e w4 ⟨rfl,hd⟩;have HD:=Aa hd;clear hd;obtain⟨⟨_,_,_,_,_⟩,⟨f0,f1,f2,f3,f4⟩⟩:=Ah HD.out.d);have HD:=Aa (HD.out.put 3 (.int .i64 n4) (x':=⟨s1,n2,t3,n4,0⟩) rfl);generalize (w4.setCell ⟨q+1,3,none⟩ (.int .i64 n4))=W4 at *;clear f0 f1 f2 f3 f4;go_upto_region 7 with(go_at_call 57;refine(HD.out.num 4 4 rfl (by omega) Hn5 Hr5).mono ?_;rintro e w5 ⟨rfl,hd⟩;have HD:=Aa hd;clear hd;obtain⟨⟨_,_,_,_,_⟩,⟨f0,f1,f2,f3,f4⟩⟩:=Ah HD.out.d);have HD:=Aa (HD.out.put 4 (.int .i64 n5) (x':=⟨s1,n2,t3,n4,n5⟩) rfl);generalize (w5.setCell ⟨q+1,4,none⟩ (.int .i64 n5))=W5 at *;clear f0 f1 f2 f3 f4;obtain⟨⟨p0,p1,p2,p3,p4⟩,_⟩:=Ah HD.out.d;obtain⟨⟨z0,z1,z2,z3,z4⟩,⟨y0,y1,y2,y3,y4⟩⟩:=Ah HD.out.z;go_wp2_with fail
 (try simp only[Exit.inBlock,Exit.then])
 have hz:=vH HD.out.z (.string s1) (.int .i64 n2) (.bool t3) (.int .i64 n4) (.int .i64 n5);refine Br (results_cell_row Tryz.results178 _ _ _ _ _ _ _ rfl hz Tryz.underlying112 rfl (by kernel_rfl)) rfl ⟨by rw[←HF.out];rfl,?_,?_⟩
 · have hlt:=HD.out.lt;rw[←HF.out];show Ej IR b r5.l r5.p _
   unfold Ej;rw[Bw _ _ _ _ (show b≠q by omega),Bw _ _ _ _ (show b≠q by omega),Bw _ _ _ _ (show b≠q by omega),Bw _ _ _ _ (show b≠q by omega),Bw _ _ _ _ (show b≠q by omega)];exact HD.out.rd
 · have hq:=HD.out.hq;exact Ey (Ey (Ey (Ey (Ey HD.out.g hq _) hq _) hq _) hq _) hq _
theorem ZJ {w w':World}{b B c n:Nat}{T0:TypeId}{v:Value}{xs:List Value}(hg:w.grownBy w' (some b))(hb:b<B)(h:w.ownsRow B T0 c v n xs):w'.ownsRow B T0 c v n xs:=
 AV h fun g hg'=>hg.block g (h.lt g hg').2 (fun e=>by have:=Cm e;have:=(h.lt g hg').1;omega)
theorem OC {b:Nat}{l:List UInt8}{p:Bool}{w w':World}{row:Option Nat}(h:Ej IR b l p w)(hg:w.grownBy w' row)(hr:row≠some b):Ej IR b l p w':=(hg.block b (Ab h) (fun e=>hr e.symm)).trans h
abbrev zg (b:Nat):Value:=.func (.func 178) #[DD b] #[]
def Xk (b:Nat)(w:World)(f:List Bq×RS)(e:Ending)(w':World):Prop:=
 ∃v,e=.returned v∧w'.ownsRow w.heap.size 112 5 v f.1.length (f.1.flatMap DU)∧Ej IR b f.2.l f.2.p w'∧w.grownBy w' (some b)
set_option maxHeartbeats 8000000 in
theorem xS (b:Nat)(r:RS)(w:World)(h:Ej IR b r.l r.p w)(hl:r.l.length≤100000) :
 Calls Tryz.prog 177 #[DD b,zg b] w (Xk b w (M8 Le r)):=by
 unfold Xk;obtain⟨i0,hi0,hz0,hz1,hz2⟩:=info_parts Tryz.MS;obtain⟨F,hF⟩:∃F,M8 Le r=F:=⟨_,rfl⟩;rw[hF];unfold M8 at hF;have cN:=Ja b 2 r.l r.p w h (by omega) hl;have hn0:=PR 2 r.l;rw[Gv 2 r.l (by omega)]at cN;obtain⟨n0,hn⟩:∃n0,Fq 2 r.l=n0:=⟨_,rfl⟩;rw[hn]at cN hF hn0;obtain⟨r0,hr0⟩:∃r0,r.num 2=r0:=⟨_,rfl⟩;have hl0:r0.l.length≤100000:=by rw[←hr0];exact Al (Fg 2 r) hl
 have aO:Calls Tryz.prog 57 #[DD b,.int .i64 2] w (Ew IR b w r0.l r0.p (.int .i64 (n0:Int))):=by
  rw[←hr0];exact cN
 rw[hr0]at hF;have hb:=Ab h;have HF:=Aa hF;have HB:=Aa hb;obtain⟨B,y8⟩:∃B,w.heap.size=B:=⟨_,rfl⟩;have Pt:=Aa y8;rw[y8]at hb ⊢;unfold Ew at aO;clear h hl hF cN hn hr0 y8;go_enter Tryz.func177,Tryz.ntmps177;go_wp2_with (go_at_call 57;refine aO.mono ?_;rintro e w1 ⟨rfl,hr1,hg1⟩;have HR1:=Aa hr1;have Nf:=Aa hg1;clear hr1 hg1);clear aO;go_loopw [5,6] (fun lv nv wr=>∃(xs:List Bq) (n:Nat) (z:Int) (r':RS),nv=.int .i64 z∧z=(n:Int)∧wr.ownsRow B 112 5 lv xs.length (xs.flatMap DU)∧Ej IR b r'.l r'.p wr∧w.grownBy wr (some b)∧(xs++(EJ Le n r').1,(EJ Le n r').2)=F∧xs.length+n≤65535∧r'.l.length≤100000) (fun _ nv _=>(intOf nv).toNat)
 case atStart=>exact⟨[],n0,n0,r0,rfl,rfl,FM _ _ _ _,HR1.out,Nf.out,by rw[Hm];exact HF.out,by simp only[List.length_nil];omega,hl0⟩
 case round =>
  obtain⟨xs,n,z,r',rfl,hz,ho,hr,hg,hf,hn,hl⟩:=hrel;have HO:=Aa ho;have HR:=Aa hr;have HG:=Aa hg;have zZ:=Aa hf;have HN:=Aa hn;have Ux:=Aa hl;have hsz:=hg.size;obtain⟨a3,c3,hv3⟩:=Au ho;subst hv3;clear ho hr hg hf hn hl;cases n with
  | zero =>
   have hzn:¬(0:Int)<z:=by omega
   clear hz;have hfin:F=(xs,r'):=by
    have h9:=zZ.out;unfold EJ at h9;rw[←h9,Ct]
   have EZ:=Aa hfin;clear hfin;go_wp2;go_ret;exact⟨_,rfl,by rw[EZ.out];exact HO.out,by rw[EZ.out];exact HR.out,HG.out⟩
  | succ n =>
   have hzp:(0:Int)<z:=by omega
   have hzq:z≤65535:=by have:=HN.out;omega
   have HZ:=Aa hz;clear hz;obtain⟨p,hp⟩:∃p,r'.p=p:=⟨_,rfl⟩;have cP:=dh b r'.l r'.p wr HR.out;rw[hp]at cP;have HP:=Aa hp;clear hp;cases p with
   | true =>
    have hfin:F=(xs,r'):=by
     have h9:=zZ.out;unfold EJ at h9;rw[if_pos HP.out]at h9;rw[←h9,Ct]
    have EZ:=Aa hfin;clear hfin;go_wp2_with (go_at_call 176;refine cP.mono ?_;rintro e w2 ⟨rfl,rfl⟩);go_ret;exact⟨_,rfl,by rw[EZ.out];exact HO.out,by rw[EZ.out];exact HR.out,HG.out⟩
   | false =>
    obtain⟨x,hx⟩:∃x,(Le r').1=x:=⟨_,rfl⟩;obtain⟨r2,hr2⟩:∃r2,(Le r').2=r2:=⟨_,rfl⟩;have hfin:(xs++[x]++(EJ Le n r2).1,(EJ Le n r2).2)=F:=by
     have h9:=zZ.out;unfold EJ at h9;rw[if_neg (by rw[HP.out];decide),hx,hr2]at h9;rw[←h9,Cc];rfl
    have EZ:=Aa hfin;have hl2:r2.l.length≤100000:=by rw[←hr2];exact Al (WX r') Ux.out
    have HL2:=Aa hl2;have cE:=ma b r' wr HR.out Ux.out;unfold bA at cE;rw[hx,hr2]at cE;clear hfin hx hr2 hl2;obtain⟨nm,nd,dr,ck,sh⟩:=x;unfold Df at cE;simp only at cE;go_wp2_with (first
     | (go_at_call 176;refine cP.mono ?_;rintro e w2 ⟨rfl,rfl⟩)
     | (go_at_call 178;refine cE.mono ?_;rintro e w3 ⟨rfl,hr3,hg3⟩;have HR3:=Aa hr3;have zX:=Aa (Db HG.out hg3);have I6:=Aa (ZJ hg3 (by omega) HO.out);have hs3:=hg3.size;clear hr3 hg3)
     | (at_builtin;refine wpList_append_own _ rfl _ _ 86 rfl B 112 i0 (.agg #[.string ⟨#[]⟩,.int .i64 0,.bool false,.int .i64 0,.int .i64 0]) 5 48 Tryz.underlying86 hi0 hz0 hz1 hz2 rfl (by decide) _ _ _ rfl (I6.out.alloc _) ⟨w3.heap.size,0,none⟩ 1 1 (DU ⟨nm,nd,dr,ck,sh⟩) rfl rfl ?c1 (Iw _) ?c3 ?c4 ?c5 ?_))
    case c1 =>
     intro j u hj;rw[Addr.add_mid,AB _ _ _ _ _ _ (Ai _ _),Gl,Gd];exact hj
    case c3=>have:=HN.out;unfold maxLen;omega
    case c4=>have:=HN.out;omega
    case c5=>have:=Pt.out;simp;omega
    intro v' w4 hown' hgrow _;have hga:=FT zX.out (.cells #[.string nm,.int .i64 nd,.bool dr,.int .i64 ck,.int .i64 sh] 112);have HG4:=Aa (OG hga hgrow (fun g hg=>by rw[Pt.out];exact(I6.out.lt g hg).1));have HR4:Hid (Ej IR b r2.l r2.p w4):=Aa (OC (OC HR3.out (FQ ((Ad _ _).alloc (Ae _) _) none) (by simp)) hgrow (fun e=>by have:=(I6.out.lt b e).1;omega));have qY:=Aa hown';clear hown' hgrow hga;go_wp2;go_roundw
    case rel=>exact⟨xs++[⟨nm,nd,dr,ck,sh⟩],n,z-1,r2,by first|rfl|go_num,by have:=HZ.out;omega,by rw[FL,Bg];exact qY.out,HR4.out,HG4.out,EZ.out,by have:=HN.out;simp only[List.length_append,List.length_singleton];omega,HL2.out⟩
    case measure=>have:=HZ.out;simp[intOf];omega
def bB (b:Nat)(w:World)(f:(Int×List Bq)×RS)(e:Ending)(w':World):Prop:=
 ∃v,e=.returned (.agg #[.int .i64 f.1.1,v])∧w'.ownsRow w.heap.size 112 5 v f.1.2.length (f.1.2.flatMap DU)∧Ej IR b f.2.l f.2.p w'∧w.grownBy w' (some b)
theorem xY (b:Nat)(r:RS)(w:World)(h:Ej IR b r.l r.p w)(hl:r.l.length≤100000) :
 Calls Tryz.prog 151 #[DD b] w (bB b w (KG r)):=by
 unfold bB;obtain⟨F,hF⟩:∃F,KG r=F:=⟨_,rfl⟩;rw[hF];unfold KG at hF;obtain⟨n0,hn⟩:∃n0:Int,(Fq 2 r.l:Int)=n0:=⟨_,rfl⟩;obtain⟨r0,hr0⟩:∃r0,r.num 2=r0:=⟨_,rfl⟩;obtain⟨G,hG⟩:∃G,M8 Le r0=G:=⟨_,rfl⟩;have hl0:r0.l.length≤100000:=by rw[←hr0];exact Al (Fg 2 r) hl
 have hb:=Ab h;have hA:Ej IR b r.l r.p (w.alloc (.cells #[.int .i64 0,.slice none 0 0] 200)):=OC h (FQ ((Ad _ _).alloc (Ae _) _) none) (by simp);have cN:=Ja b 2 r.l r.p _ hA (by omega) hl;rw[Gv 2 r.l (by omega),hn]at cN;have aO:Calls Tryz.prog 57 #[DD b,.int .i64 2] (w.alloc (.cells #[.int .i64 0,.slice none 0 0] 200)) (Ew IR b (w.alloc (.cells #[.int .i64 0,.slice none 0 0] 200)) r0.l r0.p (.int .i64 n0)):=by
  rw[←hr0];exact cN
 rw[hn,hr0,hG]at hF;have cS:Hid (∀W,Ej IR b r0.l r0.p W→Calls Tryz.prog 177 #[DD b,zg b] W (Xk b W G)):=Aa fun W hW=>by
  rw[←hG];exact xS b r0 W hW hl0
 unfold Xk zg at cS;unfold Ew at aO;have HF:=Aa hF;have HG0:Hid (w.grownBy (w.alloc (.cells #[.int .i64 0,.slice none 0 0] 200)) (some b)):=Aa (FT (World.grownBy.refl w _) _);have HZ0:Hid ((w.alloc (.cells #[.int .i64 0,.slice none 0 0] 200)).heap[w.heap.size]?=some (.cells #[.int .i64 0,.slice none 0 0] 200 (0,0))):=Aa (Ai _ _);clear h hl hF cN hn hr0 hG hA hl0;go_enter Tryz.func151,Tryz.ntmps151;go_upto_region 1 with fail;generalize (w.alloc (.cells #[.int .i64 0,.slice none 0 0] 200))=W0 at *;obtain⟨q,hq⟩:∃q,w.heap.size=q:=⟨_,rfl⟩;rw[hq]at HZ0 hb ⊢;have HQ:=Aa hq;clear hq;go_upto_region 2 with(go_at_call 57;refine aO.mono ?_;rintro e w1 ⟨rfl,hr1,hg1⟩;have HR1:=Aa hr1;have Nf:=Aa (Db HG0.out hg1);have HZ1:=Aa ((hg1.block q (Ab HZ0.out) (fun e=>by have:=Cm e;omega)).trans HZ0.out);clear hr1 hg1);have cSS:=cS.out w1 HR1.out;go_wp2_with (go_at_call 177;refine cSS.mono ?_;rintro e w2 ⟨v2,rfl,ho2,hr2,hg2⟩;obtain⟨a2,c2,hv2⟩:=Au ho2;have IL:=Aa ho2;have HR2:=Aa hr2;have HG2:=Aa (Db Nf.out hg2);have HZ2:=Aa ((hg2.block q (Ab HZ1.out) (fun e=>by have:=Cm e;omega)).trans HZ1.out);subst hv2;clear ho2 hr2 hg2;have z0:=Av HZ2.out 0;have z1:=Av HZ2.out 1;have y0:=BA HZ2.out 0;have y1:=BA HZ2.out 1)
 (try simp only[Exit.inBlock,Exit.then])
 have hz:((w2.setCell ⟨q,0,none⟩ (.int .i64 n0)).setCell ⟨q,1,none⟩ (.slice a2 G.1.length c2)).heap[q]?=some (.cells #[.int .i64 n0,.slice a2 G.1.length c2] 200 (0,0)):=by
  rw[Bj _ q 1 _ _ _ (Bj _ q 0 _ _ _ HZ2.out)];rfl
 have hne:∀g,g≠q→((w2.setCell ⟨q,0,none⟩ (.int .i64 n0)).setCell ⟨q,1,none⟩ (.slice a2 G.1.length c2)).heap[g]?=w2.heap[g]?:=fun g hg=>by
  rw[Bw _ _ _ _ hg,Bw _ _ _ _ hg]
 have hq1:q<w1.heap.size:=Ab HZ1.out;refine Br (results_cell_row Tryz.results151 _ _ _ _ _ _ _ rfl hz Tryz.underlying200 rfl (by kernel_rfl)) rfl ⟨.slice a2 G.1.length c2,by rw[←HF.out],?_,?_,?_⟩
 · rw[←HF.out];exact Ij (AV IL.out fun g hg=>hne g (by have:=(IL.out.lt g hg).1;omega)) (by have:=HQ.out;omega)
 · rw[←HF.out];show Ej IR b G.2.l G.2.p _
   unfold Ej;rw[hne b (by omega)];exact HR2.out
 · exact Ey (Ey HG2.out (by rw[HQ.out];exact Ae _) _) (by rw[HQ.out];exact Ae _) _
abbrev ZD:=Int×Value×List Bq
def zC (z:ZD):List Value:=[.int .i64 z.1,z.2.1]
def zD (z:ZD):Int×List Bq:=(z.1,z.2.2)
theorem xK (l:List ZD):∀x∈l,(zC x).length=2:=fun _ _=>rfl
def Y7 (w:World)(B:Nat)(zs:List ZD):Prop:=∀z∈zs,w.ownsRow B 112 5 z.2.1 z.2.2.length (z.2.2.flatMap DU)
theorem Y7.grown {w w':World}{B B' c n:Nat}{zs:List ZD}{v:Value}{xs:List Value}(h:Y7 w B zs)(ho:w.ownsRow B' 200 c v n xs)(hg:w.grownBy w' v.ownBlock):Y7 w' B zs:=fun z hz =>
 AV (h z hz) fun g hg'=>hg.block g ((h z hz).lt g hg').2 fun e=>by
  obtain⟨cur,h1⟩:=Cz (h z hz) hg';obtain⟨AbT,h2⟩:=Cz ho e.symm;rw[h1]at h2;injection h2 with h2;injection h2 with _ h3 _;exact absurd h3 (by decide)
theorem Y7.rd {w w':World}{b B:Nat}{zs:List ZD}(h:Y7 w B zs)(hg:w.grownBy w' (some b))(hb:b<B):Y7 w' B zs:=fun z hz=>ZJ hg hb (h z hz)
theorem Y7.alloc {w:World}{B:Nat}{zs:List ZD}(h:Y7 w B zs)(o:Obj):Y7 (w.alloc o) B zs:=fun z hz=>(h z hz).alloc o
theorem Y7.below {w w':World}{B:Nat}{zs:List ZD}(h:Y7 w B zs)(hb:Below w.heap.size w w'):Y7 w' B zs:=fun z hz=>AV (h z hz) fun g hg=>hb.block g ((h z hz).lt g hg).2
theorem Tryz.nY:(Tryz.prog.info? 200).map (fun i=>(i.zero,i.size,i.bytes))=some (some (.agg #[.int .i64 0,.slice none 0 0]),2,32):=by kernel_rfl
abbrev Aa3 (b:Nat):Value:=.func (.func 151) #[DD b] #[]
def bz (b:Nat)(w:World)(f:List (Int×List Bq)×RS)(e:Ending)(w':World):Prop:=
 ∃v zs,e=.returned v∧w'.ownsRow w.heap.size 200 2 v zs.length (zs.flatMap zC)∧Y7 w' w.heap.size zs∧zs.map zD=f.1∧Ej IR b f.2.l f.2.p w'∧w.grownBy w' (some b)
set_option maxHeartbeats 8000000 in
theorem xU (b:Nat)(r:RS)(w:World)(h:Ej IR b r.l r.p w)(hl:r.l.length≤100000) :
 Calls Tryz.prog 150 #[DD b,Aa3 b] w (bz b w (M8 KG r)):=by
 unfold bz;obtain⟨i0,hi0,hz0,hz1,hz2⟩:=info_parts Tryz.nY;obtain⟨F,hF⟩:∃F,M8 KG r=F:=⟨_,rfl⟩;rw[hF];unfold M8 at hF;have cN:=Ja b 2 r.l r.p w h (by omega) hl;have hn0:=PR 2 r.l;rw[Gv 2 r.l (by omega)]at cN;obtain⟨n0,hn⟩:∃n0,Fq 2 r.l=n0:=⟨_,rfl⟩;rw[hn]at cN hF hn0;obtain⟨r0,hr0⟩:∃r0,r.num 2=r0:=⟨_,rfl⟩;have hl0:r0.l.length≤100000:=by rw[←hr0];exact Al (Fg 2 r) hl
 have aO:Calls Tryz.prog 57 #[DD b,.int .i64 2] w (Ew IR b w r0.l r0.p (.int .i64 (n0:Int))):=by
  rw[←hr0];exact cN
 rw[hr0]at hF;have hb:=Ab h;have HF:=Aa hF;obtain⟨B,y8⟩:∃B,w.heap.size=B:=⟨_,rfl⟩;have Pt:=Aa y8;rw[y8]at hb ⊢;unfold Ew at aO;clear h hl hF cN hn hr0 y8;go_enter Tryz.func150,Tryz.ntmps150;go_wp2_with (go_at_call 57;refine aO.mono ?_;rintro e w1 ⟨rfl,hr1,hg1⟩;have HR1:=Aa hr1;have Nf:=Aa hg1;clear hr1 hg1);clear aO;go_loopw [5,6] (fun lv nv wr=>∃(xs:List ZD) (n:Nat) (z:Int) (r':RS),nv=.int .i64 z∧z=(n:Int)∧wr.ownsRow B 200 2 lv xs.length (xs.flatMap zC)∧Y7 wr B xs∧Ej IR b r'.l r'.p wr∧w.grownBy wr (some b)∧(xs.map zD++(EJ KG n r').1,(EJ KG n r').2)=F∧xs.length+n≤65535∧r'.l.length≤100000) (fun _ nv _=>(intOf nv).toNat)
 case atStart=>exact⟨[],n0,n0,r0,rfl,rfl,FM _ _ _ _,(fun z hz=>absurd hz (by simp)),HR1.out,Nf.out,by rw[List.map_nil,Hm];exact HF.out,by simp only[List.length_nil];omega,hl0⟩
 case round =>
  obtain⟨xs,n,z,r',rfl,hz,ho,hzk,hr,hg,hf,hn,hl⟩:=hrel;have HO:=Aa ho;have HZK:=Aa hzk;have HR:=Aa hr;have HG:=Aa hg;have zZ:=Aa hf;have HN:=Aa hn;have Ux:=Aa hl;have hsz:=hg.size;obtain⟨a3,c3,hv3⟩:=Au ho;subst hv3;clear ho hzk hr hg hf hn hl;cases n with
  | zero =>
   have hzn:¬(0:Int)<z:=by omega
   clear hz;have hfin:F=(xs.map zD,r'):=by
    have h9:=zZ.out;unfold EJ at h9;rw[←h9,Ct]
   have EZ:=Aa hfin;clear hfin;go_wp2;go_ret
   first
    | exact⟨_,xs,rfl,HO.out,HZK.out,by rw[EZ.out],by rw[EZ.out];exact HR.out,HG.out⟩
    | exact⟨_,rfl,xs,HO.out,HZK.out,by rw[EZ.out],by rw[EZ.out];exact HR.out,HG.out⟩
  | succ n =>
   have hzp:(0:Int)<z:=by omega
   have hzq:z≤65535:=by have:=HN.out;omega
   have HZ:=Aa hz;clear hz;obtain⟨p,hp⟩:∃p,r'.p=p:=⟨_,rfl⟩;have cP:=dh b r'.l r'.p wr HR.out;rw[hp]at cP;have HP:=Aa hp;clear hp;cases p with
   | true =>
    have hfin:F=(xs.map zD,r'):=by
     have h9:=zZ.out;unfold EJ at h9;rw[if_pos HP.out]at h9;rw[←h9,Ct]
    have EZ:=Aa hfin;clear hfin;go_wp2_with (go_at_call 176;refine cP.mono ?_;rintro e w2 ⟨rfl,rfl⟩);go_ret
    first
     | exact⟨_,xs,rfl,HO.out,HZK.out,by rw[EZ.out],by rw[EZ.out];exact HR.out,HG.out⟩
     | exact⟨_,rfl,xs,HO.out,HZK.out,by rw[EZ.out],by rw[EZ.out];exact HR.out,HG.out⟩
   | false =>
    obtain⟨x,hx⟩:∃x,(KG r').1=x:=⟨_,rfl⟩;obtain⟨r2,hr2⟩:∃r2,(KG r').2=r2:=⟨_,rfl⟩;have hfin:(xs.map zD++[x]++(EJ KG n r2).1,(EJ KG n r2).2)=F:=by
     have h9:=zZ.out;unfold EJ at h9;rw[if_neg (by rw[HP.out];decide),hx,hr2]at h9;rw[←h9,Cc];rfl
    have EZ:=Aa hfin;have hl2:r2.l.length≤100000:=by rw[←hr2];exact Al (Xa r') Ux.out
    have HL2:=Aa hl2;have cE:=xY b r' wr HR.out Ux.out;unfold bB at cE;rw[hx,hr2]at cE;clear hfin hx hr2 hl2;obtain⟨dn,es⟩:=x;simp only at cE;go_wp2_with (first
     | (go_at_call 176;refine cP.mono ?_;rintro e w2 ⟨rfl,rfl⟩)
     | (go_at_call 151;refine cE.mono ?_;rintro e w3 ⟨v9,rfl,H8,hr3,hg3⟩;obtain⟨a9,c9,FI⟩:=Au H8;subst FI;have HR3:=Aa hr3;have zX:=Aa (Db HG.out hg3);have I6:=Aa (ZJ hg3 (by omega) HO.out);have HZ3:Hid (Y7 w3 B (xs++[(dn,.slice a9 es.length c9,es)])):=Aa (fun z hz=>(FB.1 hz).elim (fun h=>(HZK.out.rd hg3 (by omega)) z h) (fun h=>by obtain rfl:=CU.1 h;exact Ij H8 (by have:=Pt.out;omega)));have hs3:=hg3.size;clear hr3 hg3 H8)
     | (at_builtin;refine wpList_append_own _ rfl _ _ 237 rfl B 200 i0 (.agg #[.int .i64 0,.slice none 0 0]) 2 32 Tryz.underlying237 hi0 hz0 hz1 hz2 rfl (by decide) _ _ _ rfl (I6.out.alloc _) ⟨w3.heap.size,0,none⟩ 1 1 [.int .i64 dn,.slice a9 es.length c9] rfl rfl ?c1 ?c2 ?c3 ?c4 ?c5 ?_))
    case c1 =>
     intro j u hj;rw[Addr.add_mid,AB _ _ _ _ _ _ (Ai _ _),Gl,Gd];exact hj
    case c2 =>
     intro u hu;simp at hu;rcases hu with rfl|rfl<;>rfl
    case c3=>have:=HN.out;unfold maxLen;omega
    case c4=>have:=HN.out;omega
    case c5=>have:=Pt.out;simp;omega
    intro v' w4 hown' hgrow _;have hga:=FT zX.out (.cells #[.int .i64 dn,.slice a9 es.length c9] 200);have HG4:=Aa (OG hga hgrow (fun g hg=>by rw[Pt.out];exact(I6.out.lt g hg).1));have HR4:Hid (Ej IR b r2.l r2.p w4):=Aa (OC (OC HR3.out (FQ ((Ad _ _).alloc (Ae _) _) none) (by simp)) hgrow (fun e=>by have:=(I6.out.lt b e).1;omega));have HZ4:=Aa ((HZ3.out.alloc (.cells #[.int .i64 dn,.slice a9 es.length c9] 200)).grown (I6.out.alloc _) hgrow);have qY:=Aa hown';clear hown' hgrow hga;go_wp2;go_roundw
    case rel=>exact⟨xs++[(dn,.slice a9 es.length c9,es)],n,z-1,r2,by first|rfl|go_num,by have:=HZ.out;omega,by rw[FL,Bg];exact qY.out,HZ4.out,HR4.out,HG4.out,by rw[List.map_append];exact EZ.out,by have:=HN.out;simp only[List.length_append,List.length_singleton];omega,HL2.out⟩
    case measure=>have:=HZ.out;simp[intOf];omega
theorem lH {ds:List (Int×List Bq)}{i:Nat}{d:Int×List Bq}(h:ds[i]?=some d):Qp (ds.take (i+1))=xM (Qp (ds.take i)) d.1 (some d.2):=by
 rw[Hw h,RX];rfl
theorem tq {ds:List (Int×List Bq)}(hn:(ds.map Prod.fst).Nodup){i:Nat}{d:Int×List Bq}(h:ds[i]?=some d):Qp (ds.take i) d.1=none:=by
 cases he:Qp (ds.take i) d.1 with
 | none=>rfl
 | some es =>
  have h1:=ML _ _ rfl he;obtain⟨j,hj⟩:=List.getElem?_of_mem h1;rw[Jh]at hj;split at hj
  · rename_i hji;have e1:(ds.map Prod.fst)[j]?=some d.1:=by rw[Hl,hj];rfl
    have e2:(ds.map Prod.fst)[i]?=some d.1:=by rw[Hl,h];rfl
    have hjl:=(Ed.1 e1).1;have:=(List.getElem?_inj hjl hn).1 (e1.trans e2.symm);omega
  · cases hj
theorem uY {B:Nat}{w:World}{mb n cnt:Nat}{F:Int→Option Value}{G:Cr}(h:Ib B w mb n F cnt G){x:Int}(hx:GY x):(F x).isSome=(G x).isSome:=by
 have hg:=h.g x hx;cases hF:F x with
 | none=>rw[hF]at hg;rw[hg];rfl
 | some v =>
  rw[hF]at hg;obtain⟨l,g1,_⟩:=hg;rw[g1];rfl
theorem VZ {B:Nat}{a w w':World}{mb:Nat}(h:Below B a w)(ht:w.mapTurned w' mb)(hB:B≤mb)(hs:B≤w.heap.size):Below B a w':=by
 obtain⟨t1,t2,t3,t4,t5⟩:=Om ht;exact h.grown (row:=some mb) ⟨t3,t4,t5,Nat.le_of_eq t1.symm,fun k _ hn=>t2 k fun e=>hn (by rw[e])⟩ hs fun k hk=>by
  obtain rfl:=Cm hk;exact hB
def Xu (zs:List ZD)(w:World)(e:Ending)(w':World):Prop:=
 ∃mb F cnt,e=.returned (.map (some mb))∧Ib 0 w' mb zs.length F cnt (Qp (zs.map zD))∧((zs.map Prod.fst).Nodup→cnt=zs.length)∧Below w.heap.size w w'
set_option maxHeartbeats 8000000 in
theorem qj (v:Value)(zs:List ZD)(B B0:Nat)(w:World)(hv:w.ownsRow B 200 2 v zs.length (zs.flatMap zC))(hz:Y7 w B0 zs)(hk:∀z∈zs,GY z.1)(hl:zs.length≤65535) :
 Calls Tryz.prog 149 #[v] w (Xu zs w):=by
 unfold Xu;obtain⟨a,cap,hvs⟩:=Au hv;subst hvs;obtain⟨n,hn⟩:∃n,zs.length=n:=⟨_,rfl⟩;have HN:=Aa hn;have HK:=Aa hk;have HV:=Aa hv;have HZ:=Aa hz;have HAT:Hid (∀(W:World) (i:Nat) (x:ZD),W.ownsRow B 200 2 (.slice a n cap) zs.length (zs.flatMap zC)→zs[i]?=some x→∃g off,a=some ⟨g,off,none⟩∧g<W.heap.size∧W.rangeAt g (off+i*2) (zC x)):=Aa fun W i x hW hi=>AU.at (AU.own (xK _) hW rfl) hi
 rw[hn]at hl ⊢;have hmm:=@run_makeMap Tryz.prog;have HM0:Hid (Ib 0 (w.alloc (.map #[] 0)) w.heap.size 0 (fun _=>none) 0 (Qp ((zs.map zD).take 0))):=Aa ⟨IC.made w,fun x hx=>by rw[List.take_zero];rfl,Nat.zero_le _⟩;have HB0:Hid (Below w.heap.size w (w.alloc (.map #[] 0))):=Aa ((Ad _ _).alloc (Ae _) _);rw[hn]at HV;clear hk hv hz;go_enter Tryz.func149,Tryz.ntmps149;go_wp2;generalize (w.alloc (.map #[] 0))=W1 at *;obtain⟨mb,hmb⟩:∃mb,w.heap.size=mb:=⟨_,rfl⟩;have HMB:=Aa hmb;rw[hmb]at HM0 HB0 ⊢;clear hmm hmb;go_loopw [9] (fun iv wr=>∃(i:Nat) (F:Int→Option Value) (cnt:Nat),i≤n∧iv=.int .i64 i∧Ib 0 wr mb i F cnt (Qp ((zs.map zD).take i))∧((zs.map Prod.fst).Nodup→cnt=i)∧Below mb w wr) (fun iv _=>n-(intOf iv).toNat)
 case atStart=>exact⟨0,_,0,by omega,rfl,HM0.out,fun _=>rfl,HB0.out⟩
 case round =>
  obtain⟨i,F,cnt,hi,rfl,hd,hc,hb⟩:=hrel;have HD:=Aa hd;have HC:=Aa hc;have HB:=Aa hb;have hbs:=hb.size;have hmw:mb≤wr.heap.size:=by have:=HMB.out;omega
  clear hd hc hb;by_cases him:i<n
  · have hiz:(i:Int)<(n:Int):=by omega
    have hi0:(0:Int)≤(i:Int):=by omega
    obtain⟨x,hx⟩:∃x,zs[i]?=some x:=⟨_,Ci (by rw[HN.out];omega)⟩;have hbw:Below w.heap.size w wr:=by rw[HMB.out];exact HB.out
    have hVw:wr.ownsRow B 200 2 (.slice a n cap) zs.length (zs.flatMap zC):=by rw[HN.out];exact AV HV.out fun g hg=>hbw.block g (HV.out.lt g hg).2
    obtain⟨g,off,rfl,hg,hr⟩:=HAT.out wr i x hVw hx;have hxm:=Dr hx;have hze:=(HZ.out.below hbw) x hxm;have h64:=HK.out x hxm;obtain⟨q,vq,es⟩:=x;have d0:wr.cell? ⟨g,off+i*2,none⟩=some (.int .i64 q):=hr 0 _ rfl;have d1:wr.cell? ⟨g,off+i*2+1,none⟩=some vq:=hr 1 _ rfl;simp only at hze h64;obtain⟨a9,c9,FI⟩:=Au hze;subst FI;have QY:Below wr.heap.size wr (wr.alloc (.cells #[.int .i64 q,.slice a9 es.length c9] 200)):=(Ad _ _).alloc (Ae _) _;have hd5:=HD.out.hi (Hi.of_below (B:=0) QY);have yA:=hze.alloc (.cells #[.int .i64 q,.slice a9 es.length c9] 200);obtain⟨w6,hrun,hd6,hturn⟩:=hd5.set (show i<maxLen by unfold maxLen;omega) h64 (AU.own (D9 _) yA rfl) (fun _ g hg=>⟨Nat.zero_le _,(yA.lt g hg).2⟩);have hzd:(zs.map zD)[i]?=some (q,es):=by rw[Hl,hx];rfl
    have hc6:(zs.map Prod.fst).Nodup→(if(F q).isSome=true then cnt else cnt+1)=i+1:=fun hnd=>by
     have e1:=tq (ds:=zs.map zD) (by rw[List.map_map];exact hnd) hzd;rw[uY HD.out h64,e1,HC.out hnd];rfl
    rw[←lH hzd]at hd6;have HD6:=Aa hd6;have rF:=Aa hc6;have VO:=Aa (VZ (HB.out.trans (QY.mono hmw)) hturn (Ae _) (Al hmw QY.size));clear hd6 hc6 hturn hd5 hze yA hzd QY hr hxm hVw hx h64 hbw;go_wp2;go_roundw
    case rel=>exact⟨i+1,_,_,by omega,by first|rfl|go_num,HD6.out,rF.out,VO.out⟩
    case measure=>simp[intOf];omega
  · have hiz:¬(i:Int)<(n:Int):=by omega
    obtain rfl:i=n:=by omega
    have HA:Hid ((zs.map zD).take i=zs.map zD):=Aa (CO (by rw[Em,HN.out];omega));rw[HA.out]at HD;go_wp2;go_ret;exact⟨mb,rfl,F,cnt,HD.out,HC.out,by rw[HMB.out];exact HB.out⟩
set_option maxHeartbeats 2000000 in
theorem WH (s:ByteArray)(w:World) :
 Calls Tryz.prog 147 #[.string s] w fun e w'=>∃rb,e=.returned (DD rb)∧Ej IR rb s.data.toList false w'∧w.heap.size≤rb∧Below w.heap.size w w':=by
 have cR:=Ik s w;go_enter Tryz.func147,Tryz.ntmps147;go_wp2_with (go_at_call 56;refine cR.mono ?_;rintro e w1 ⟨rfl,hb1⟩;have HB1:=Aa hb1;clear hb1);go_ret;exact⟨_,rfl,Ai _ _,HB1.out.size,HB1.out.alloc HB1.out.size _⟩
theorem jy (r:RS):GY (KG r).1.1:=by
 have h1:=PR 2 r.l;show GY (Fq 2 r.l:Int)
 unfold GY;omega
theorem aL (bs:List UInt8):∀d∈LB bs,GY d.1:=by
 have h:=MM (P:=fun d:Int×List Bq=>GY d.1) (R:=KG) Xa bs.length (fun r _=>jy r);intro d hd;exact h _ _ (Al (Fg 2 _) (Fg 8 _)) d hd
theorem jo (bs:List UInt8):(LB bs).length≤65535:=XI _
theorem jF (bs:List UInt8):Nr bs≤9223372036854775807:=by
 unfold Nr RD wrap64;omega
def TP (bs:List UInt8):Prop:=∀l nx,Aq l nx→nx≤9223372036854775807→bs≠BI l nx
def bC (bs:List UInt8)(w:World)(e:Ending)(w':World):Prop:=
 (e=.returned (.tuple #[.pointer none,.int .i64 2])∧Below w.heap.size w w'∧TP bs) ∨
 (∃b A nx S,e=.returned (.tuple #[Aj b,.int .i64 0])∧Bp.Is w' b A nx S∧(∀k,S k→w.heap.size≤k)∧Below w.heap.size w w'∧BI A nx=bs∧nx≤9223372036854775807)
theorem uw {bs:List UInt8}(h:60000<bs.length):TP bs:=fun l nx hg _ e=>by
 have:=Jd hg;rw[←e]at this;omega
theorem Z6 {zs:List ZD}{l:List Az}{nx:Int}(h:zs.map zD=AR l):(zs.map Prod.fst).Nodup∧zs.length=(AR l).length:=by
 have h1:=Gu (List.map Prod.fst) h;rw[List.map_map]at h1;unfold AR at h1;rw[List.map_map]at h1;have h2:zs.map Prod.fst=AQ l:=by
  have e1:List.map (Prod.fst∘zD) zs=zs.map Prod.fst:=rfl;have e2:List.map (Prod.fst∘fun q=>(q,Ak l q)) (AQ l)=AQ l:=by simp[Function.comp_def]
  rw[e1,e2]at h1;exact h1
 refine⟨by rw[h2];exact JV l,?_⟩;have:=Gu List.length h;rwa[Em]at this
theorem uu {bs:List UInt8}{zs:List ZD}{cnt:Nat}(hz:zs.map zD=LB bs)(hc:(zs.map Prod.fst).Nodup→cnt=zs.length)(hn:¬X9 (Qp (zs.map zD)) (Nr bs) cnt):TP bs:=fun l nx hg hx e=>by
 obtain⟨h1,h2⟩:=XY hg hx;rw[←e]at h1 h2;rw[h2]at hz;obtain⟨k1,k2⟩:=Z6 (nx:=nx) hz;apply hn;rw[hz,h1,hc k1,k2];exact mK hg
theorem uq {bs:List UInt8}{zs:List ZD}(hz:zs.map zD=LB bs)(hn:BI (Fh (Qp (zs.map zD)) (Nr bs)).2.1 (Nr bs)≠bs):TP bs:=fun l nx hg hx e=>by
 obtain⟨h1,h2⟩:=XY hg hx;rw[←e]at h1 h2;rw[h2]at hz;apply hn;obtain⟨l',e1,hg',ht⟩:=mJ hg;rw[hz,h1,cz,e1,e];exact Ym hg hg' ht
theorem jO {a b:List UInt8}(h:a≠b):((⟨a.toArray⟩:ByteArray).toList==(⟨b.toArray⟩:ByteArray).toList)=false:=by
 rw[A8,ByteArray.toList_eq,ByteArray.toList_eq];exact h
set_option maxHeartbeats 8000000 in
theorem jC (bs:List UInt8)(w:World)(hbs:bs.length≤9223372036854775807) :
 Calls Tryz.prog 104 #[.string ⟨bs.toArray⟩] w (bC bs w):=by
 unfold bC;have hsz:(⟨bs.toArray⟩:ByteArray).size=bs.length:=rfl;by_cases hlong:60000<bs.length
 · have hi:(60000:Int)<(bs.length:Int):=by omega
   have HN:=Aa (uw hlong);go_enter Tryz.func104,Tryz.ntmps104;go_wp2_with fail;go_ret2;exact Or.inl ⟨rfl,Ad _ _,HN.out⟩
 · have hi:¬(60000:Int)<(bs.length:Int):=by omega
   have hlen:bs.length≤60000:=by omega
   have HLEN:=Aa hlen;have cR:=WH ⟨bs.toArray⟩ w;clear hlong hlen hbs;go_enter Tryz.func104,Tryz.ntmps104;go_upto_region 4 with(go_at_call 147;refine cR.mono ?_;rintro e w1 ⟨rb,rfl,hr1,hrb,hb1⟩;have HR1:=Aa hr1;have HB1:=Aa hb1;have HRB:=Aa hrb;clear hr1 hb1 hrb);clear cR;have cN:=Ja rb 8 bs false w1 HR1.out (by omega) (by have:=HLEN.out;omega);obtain⟨r1,hr1⟩:∃r1,RS.num 8 ⟨bs,false⟩=r1:=⟨_,rfl⟩;have hl1:r1.l.length≤100000:=by
    rw[←hr1];exact Al (Fg 8 _) (by have:=HLEN.out;show bs.length≤_;omega)
   have aO:Calls Tryz.prog 57 #[DD rb,.int .i64 8] w1 (Ew IR rb w1 r1.l r1.p (.int .i64 (Nr bs))):=by
    rw[←hr1];exact cN
   unfold Ew at aO;clear cN;obtain⟨ck,hck⟩:∃ck,Nr bs=ck:=⟨_,rfl⟩;have HCK:=Aa hck;rw[hck]at aO;have Ab6:=Aa hr1;clear hck hr1;go_upto_region 5 with(go_at_call 57;refine aO.mono ?_;rintro e w2 ⟨rfl,hr2,hg2⟩;have HR2:=Aa hr2;have HB2:=Aa (HB1.out.grown hg2 HB1.out.size (fun k hk=>by have:=Cm hk;have:=HRB.out;omega));clear hr2 hg2);clear aO;have cS:=xU rb r1 w2 HR2.out hl1;unfold bz Aa3 at cS;have cB:Hid (∀(v:Value) (zs:List ZD) (B B0:Nat) (W:World),W.ownsRow B 200 2 v zs.length (zs.flatMap zC)→Y7 W B0 zs→zs.map zD=LB bs→Calls Tryz.prog 149 #[v] W (Xu zs W)):=Aa fun v zs B B0 W hv hz hm=>by
    refine qj v zs B B0 W hv hz (fun z hz'=>?_) ?_
    · exact aL bs (zD z) (by rw[←hm];exact List.mem_map_of_mem hz')
    · have:=jo bs;rw[←hm,Em]at this;exact this
   unfold Xu at cB;have cM:Hid (∀(W:World) (mb n cnt:Nat) (F:Int→Option Value) (zs:List ZD) (t:Bool),Ib 0 W mb n F cnt (Qp (zs.map zD))→zs.map zD=LB bs→(t=true↔X9 (Qp (zs.map zD)) ck cnt)→Calls Tryz.prog 148 #[.int .i64 ck,.map (some mb)] W (Pp (Qp (zs.map zD)) ck t W)):=Aa fun W mb n cnt F zs t hd hm ht =>
    ym W mb n cnt F _ ck hd.at' hd.f (by rw[hm];exact ZE bs (by have:=HLEN.out;omega)) t ht
   unfold Pp at cM;have HDR:Hid ((M8 KG r1).1=LB bs):=Aa (by rw[←Ab6.out];rfl);rw[HDR.out]at cS;go_wp2_with (first
    | (go_at_call 150;refine cS.mono ?_;rintro e w3 ⟨v3,zs,rfl,ho3,hz3,hm3,_,hg3⟩;have I6:=Aa ho3;have HZ3:=Aa hz3;have HM3:=Aa hm3;have HB3:=Aa (HB2.out.grown hg3 HB2.out.size (fun k hk=>by have:=Cm hk;have:=HRB.out;omega));clear ho3 hz3 hm3 hg3;have cBB:=cB.out v3 zs _ _ w3 I6.out HZ3.out HM3.out;obtain⟨a3,c3,hv3⟩:=Au I6.out;subst hv3)
    | (go_at_call 149;refine cBB.mono ?_;rintro e w4 ⟨mb,F,cnt,rfl,hd4,hc4,hb4⟩;have HD4:=Aa hd4;have HC4:=Aa hc4;have KT:=Aa (HB3.out.trans (hb4.mono HB3.out.size));clear hd4 hc4 hb4;obtain⟨t,ht⟩:∃t:Bool,t=true↔X9 (Qp (zs.map zD)) ck cnt:=(Classical.em (X9 (Qp (zs.map zD)) ck cnt)).elim (fun h=>⟨true,by simp[h]⟩) (fun h=>⟨false,by simp[h]⟩);have HT:=Aa ht;have cMM:=cM.out w4 mb _ cnt F zs t HD4.out HM3.out ht;clear ht))
   have Acv:True:=trivial;cases t with
   | false =>
    refine cMM.mono ?_;rintro e w5 ⟨hno,_⟩;obtain⟨rfl,hb5⟩:=hno rfl;have JG:=Aa (KT.out.trans (hb5.mono KT.out.size));have Zk:Hid (TP bs):=Aa (uu HM3.out HC4.out (by rw[HCK.out];intro h;have:=HT.out.2 h;cases this));clear hb5 hno cMM cBB cS;go_wp2;go_ret2;exact Or.inl ⟨rfl,JG.out,Zk.out⟩
   | true =>
    refine cMM.mono ?_;rintro e w5 ⟨_,Aax⟩;obtain⟨tb,S,rfl,hi5,hf5,hb5⟩:=Aax rfl;have HI5:=Aa hi5;have j6:Hid (∀k,S k→w.heap.size≤k):=Aa fun k hk=>Al KT.out.size (hf5 k hk)
    have JG:=Aa (KT.out.trans (hb5.mono KT.out.size));have yU:ck≤9223372036854775807:=by rw[←HCK.out];exact jF bs
    have HC9:=Aa yU;have cE:=O6 hi5 yU;clear Aax hi5 hf5 hb5 yU cMM cBB cS;obtain⟨L,hL⟩:∃L,BI (Fh (Qp (zs.map zD)) ck).2.1 ck=L:=⟨_,rfl⟩;have HL:=Aa hL;rw[hL]at cE;by_cases heq:L=bs
    · subst heq;clear hL;go_wp2_with (go_at_call 72;refine cE.mono ?_;rintro e w6 ⟨rfl,hb6⟩;have VO:=Aa hb6;clear hb6);go_ret2;exact Or.inr ⟨tb,_,ck,S,rfl,Bp.below HI5.out VO.out,j6.out,JG.out.trans (VO.out.mono JG.out.size),HL.out,HC9.out⟩
    · have hne:=jO heq;have hne2:(L==bs)=false:=A8.2 heq;have Zk:Hid (TP bs):=Aa (uq HM3.out (by rw[HCK.out,hL];exact heq));clear hL;go_wp2_with (go_at_call 72;refine cE.mono ?_;rintro e w6 ⟨rfl,hb6⟩;have VO:=Aa hb6;clear hb6);go_ret2;exact Or.inl ⟨rfl,JG.out.trans (VO.out.mono JG.out.size),Zk.out⟩
end Go.Proofs.YtdmkhmeaphaapaaGreat
