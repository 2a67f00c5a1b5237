/- Kit. -/
import Derived.Test.YtdmkhmeaphaapaaGreatCZ15
import Derived.Test.YtdmkhmeaphaapaaGreatCZ16
import Derived.Test.YtdmkhmeaphaapaaGreatCZ13
import Derived.Test.YtdmkhmeaphaapaaGreatCZ14
import Derived.Test.YtdmkhmeaphaapaaGreatCZ17
import Derived.Carry
import Derived.Test.YtdmkhmeaphaapaaGreatCZ0
set_option maxRecDepth 100000
set_option linter.unusedVariables false
set_option linter.unusedSimpArgs false
namespace Go.Proofs.YtdmkhmeaphaapaaGreat
open Go.RowKit Go.Sort
theorem Sd {w:World}{b:Nat}{l:List Az}{nx:Int}{S:Nat→Prop}(h:Bl.Is w b l nx S){d:Int}(hd:AP l d=2) :
 Calls Tryz.prog 68 #[Ag b,.int .i64 d] w fun e w'=>∃v,e=.returned (.tuple #[v,.int .i64 0])∧w'.ownsRow w.heap.size 112 5 v (Ak l d).length ((Ak l d).flatMap DU)∧Below w.heap.size w w':=by
 obtain⟨R,u,v,ys,hm,ho,hg,_⟩:=h;have h:=JY hm (fun n hn=>Ao (hg.Nt n) (by omega)) d;unfold KW PX at h;rw[hg.open']at h;have hE:A9 l d=0:=by
  unfold A9;rw[if_neg (by rw[hd];decide),if_neg (by rw[hd];decide)]
 obtain⟨n,rfl,_,_⟩:=hg.dir hE;rw[hE,if_pos rfl,DY]at h;exact h
theorem Sg {w:World}{b:Nat}{l:List Az}{nx:Int}{S:Nat→Prop}(h:Bl.Is w b l nx S) :
 Calls Tryz.prog 64 #[Ag b] w fun e w'=>∃v,e=.returned v∧w'.ownsRow w.heap.size 3 1 v (AR l).length ((AR l).flatMap GK)∧Below w.heap.size w w':=by
 obtain⟨R,u,v,ys,hm,ho,hg,_⟩:=h;have h:=JZ hm;unfold KX at h;rw[Po]at h;exact h
theorem WU {l:List Az}{nx:Int}(h:Aq l nx)(hx:nx≤9223372036854775807){d:Int×List Br}(hd:d∈AU l):Oy d:=by
 refine⟨(Xk h (by omega)).2.2 d hd,fun e he=>?_⟩;unfold AU at hd;obtain⟨q,hq,rfl⟩:=CG.1 hd;obtain⟨x,hx2,_,rfl⟩:=Dz.1 he;have h3:=h.Ho x hx2;omega
structure MR (w:World)(bw:Nat)(u:List UInt8)(W:World):Prop where
 wr:Rk IW bw bw (Lib.byteCells u) W
 b:Below bw w W
 s:bw≤W.heap.size
section
variable {w W W':World}{bw:Nat}{u:List UInt8}
theorem MR.step (h:MR w bw u W){u':List UInt8}{e:Ending}(hp:Gd IW bw bw W u' e W'):e=.returned (.tuple #[])∧MR w bw u' W'∧Jg IW W W':=
 ⟨hp.1,⟨hp.2.1,h.b.trans hp.2.2.1,Ao h.s hp.2.2.1.size⟩,hp.2.2.2⟩
theorem MR.below (h:MR w bw u W)(hb:Below W.heap.size W W'):MR w bw u W':=⟨h.wr.below hb,h.b.trans (hb.mono h.s),Ao h.s hb.size⟩
theorem MR.num (h:MR w bw u W)(z kk:Int)(k:Nat)(hk:kk=(k:Int))(xh:k≤8)(hz:0≤z∧z≤9223372036854775807)(hu:u.length≤1000000) :
 Calls Tryz.prog 75 #[DF bw,.int .i64 z,.int .i64 kk] W fun e w'=>e=.returned (.tuple #[])∧MR w bw (u++BB z.toNat k) w'∧Jg IW W w':=by
 subst hk;have h9:=KE Za bw bw z.toNat k u W h.wr (by omega) xh hu h.s;rw[show((z.toNat:Nat):Int)=z by omega]at h9;exact h9.mono fun e w' hp=>h.step hp
end
set_option maxHeartbeats 8000000 in
theorem Pn {w:World}{b:Nat}{l:List Az}{nx:Int}{S:Nat→Prop}(h:Bl.Is w b l nx S)(hx:nx≤9223372036854775807) :
 Calls Tryz.prog 72 #[Ag b] w fun e w'=>e=.returned (.string ⟨(BG l nx).toArray⟩)∧Below w.heap.size w w':=by
 have hgood:=eZ h;have hshort:=Jm hgood;have hnx:=Bl.next h;obtain⟨L,hL⟩:∃L,BG l nx=L:=⟨_,rfl⟩;have Ny:Hid (∀d∈AU l,Oy d):=Aa fun d hd=>WU hgood hx hd
 have zo:Hid (∀q∈AR l,AP l q=2):=Aa fun q hq=>(Jo.1 hq).2
 have HRG:Hid (∀q∈AR l,0≤q∧q≤200):=Aa fun q hq=>J7 hq
 rw[hL]at hshort ⊢;unfold BG N8 at hL;have hdl:(AU l).length=(AR l).length:=by unfold AU;rw[DW]
 rw[hdl]at hL;obtain⟨n,hn⟩:∃n,(AR l).length=n:=⟨_,rfl⟩;have hn1:n≤201:=by rw[←hn];exact Gn l 201
 rw[hn]at hL;have hlen:=Gu List.length hL;simp only[List.length_append,Ah]at hlen;have HL:=Aa hL;have HN:=Aa hn;have HLEN:Hid (((AU l).flatMap CB).length≤60000):=Aa (by omega);have HT:Hid (∀W,Below w.heap.size w W→Bl.Is W b l nx S):=Aa fun W hW=>Bl.below h hW
 have zy:Hid (MR w w.heap.size [] (w.alloc (.cells #[.pointer none,.slice none 0 0] 197))):=Aa
  ⟨Or.inl ⟨Ae _,.slice none 0 0,Ai w _,FV _ _ _ _,by simp[Value.ownBlock]⟩,(Ad _ _).alloc (Ae _) _,by simp⟩
 have cC:=fe (HT.out _ zy.out.b);clear h hgood hshort hL hdl hlen hn;go_enter Tryz.func72,Tryz.ntmps72;go_upto_region 2 with fail;generalize (w.alloc (.cells #[.pointer none,.slice none 0 0] 197))=W0 at *;obtain⟨bw,hbw⟩:∃bw,w.heap.size=bw:=⟨_,rfl⟩;rw[hbw]at zy HT ⊢;have FU:=Aa hbw;clear hbw;go_upto_region 3 with(first
  | (go_at_call 66;refine cC.mono ?_;rintro e w1 ⟨rfl,rfl⟩)
  | (go_at_call 75;(with_reducible refine(zy.out.num _ 8 8 rfl (by omega) (by omega) (by simp)).mono ?_);rintro e w2 ⟨rfl,he,_⟩;have HE:=Aa he;clear he))
 clear cC;have cD:=Sg (HT.out _ HE.out.b);have cD2:=HN.out;rw[cD2]at cD;go_upto_region 4 with(go_at_call 64;refine cD.mono ?_;rintro e w3 ⟨v3,rfl,ho3,hb3⟩;obtain⟨a3,c3,hv3⟩:=Av ho3;have HE:=Aa (HE.out.below hb3);have Jf:=Aa ho3;clear ho3 hb3;subst hv3);clear cD;go_upto_region 5 with(go_at_call 75;(with_reducible refine(HE.out.num _ 2 2 rfl (by omega) (by omega) (by simp only[List.length_append,Ah,List.length_nil];omega)).mono ?_);rintro e w4 ⟨rfl,he,hf4⟩;have HE:=Aa he;have uq:=Aa (La (T:=IW) (T0:=3) hf4 (by decide) (by decide) Jf.out);clear he hf4);have yB:([]:List UInt8)++BB nx.toNat 8++BB (Int.toNat (n:Int)) 2=BB nx.toNat 8++BB n 2:=by simp
 rw[yB]at HE;clear yB Jf;obtain⟨B3,hB3⟩:∃B3,w2.heap.size=B3:=⟨_,rfl⟩;rw[hB3]at uq;have HAT:Hid (∀(W:World) (i:Nat) (x:Int),W.ownsRow B3 3 1 (.slice a3 n c3) n ((AR l).flatMap GK)→(AR l)[i]?=some x→∃g off,a3=some ⟨g,off,none⟩∧g<W.heap.size∧W.rangeAt g (off+i*1) (GK x)):=Aa fun W i x hW hi=>AL.at (AL.own (Dv _) hW HN.out.symm) hi
 go_wp2_with fail;go_loopw [21] (fun iv wr=>∃i:Nat,i≤n∧iv=.int .i64 i∧MR w bw (BB nx.toNat 8++BB n 2++((AU l).take i).flatMap CB) wr∧wr.ownsRow B3 3 1 (.slice a3 n c3) n ((AR l).flatMap GK)) (fun iv _=>n-(intOf iv).toNat)
 case atStart=>exact⟨0,by omega,rfl,by simpa using HE.out,uq.out⟩
 case round =>
  obtain⟨i,hi,rfl,he,ho⟩:=hrel;have HE:=Aa he;have HO:=Aa ho;clear he ho;by_cases him:i<n
  · have hiz:(i:Int)<(n:Int):=by omega
    have hi0:(0:Int)≤(i:Int):=by omega
    obtain⟨q,hq⟩:∃q,(AR l)[i]?=some q:=⟨_,Co (by rw[HN.out];omega)⟩;have hqm:=CU hq;obtain⟨g,off,rfl,hg,hr⟩:=HAT.out wr i q HO.out hq;have d0:=Ta hr;rw[Nat.mul_one]at d0;have hd:(AU l)[i]?=some (q,Ak l q):=by
     unfold AU;rw[GZ,hq];rfl
    have LQ:=Aa (Ny.out _ (CU hd));have UT:=Aa (JI (f:=CB) hd);have hle:=GA CB (AU l) (i+1);rw[UT.out,A7]at hle;have hln:((BB nx.toNat 8++BB n 2)++((AU l).take i).flatMap CB).length+(CB (q,Ak l q)).length≤900000:=by
     have:=HLEN.out;simp only[List.length_append,Ah];omega
    have cL:=Sd (HT.out wr (by first|exact HE.out.b|(rw[FU.out];exact HE.out.b))) (zo.out q hqm);have cW:Hid (∀(W:World) (B2:Nat) (v:Value),MR w bw (BB nx.toNat 8++BB n 2++((AU l).take i).flatMap CB) W→W.ownsRow B2 112 5 v (Ak l q).length ((Ak l q).flatMap DU)→Calls Tryz.prog 113 #[DF bw,.agg #[.int .i64 q,v]] W fun e w'=>e=.returned (.tuple #[])∧MR w bw (BB nx.toNat 8++BB n 2++((AU l).take (i+1)).flatMap CB) w'∧Jg IW W w'):=Aa fun W B2 v hW hv=>by
     rw[UT.out,←Ch];exact(mX bw bw q v B2 (Ak l q) _ W hW.wr hv LQ.out hln hW.s).mono fun e w' hp=>hW.step hp
    clear hr hq hqm hd hle hln;go_wp2_with (first
     | (go_at_call 68;refine cL.mono ?_;rintro e w5 ⟨v5,rfl,Xn,hb5⟩;obtain⟨a5,c5,hv5⟩:=Av Xn;have HE5:=Aa (HE.out.below hb5);have dX:=Aa Xn;have ZX:=Aa (La (T:=IW) (T0:=3) (Jg.below hb5) (by decide) (by decide) HO.out);clear Xn hb5;subst hv5)
     | (go_at_call 113;refine(cW.out _ _ _ HE5.out dX.out).mono ?_;rintro e w6 ⟨rfl,he6,hf6⟩;have HE6:=Aa he6;have x8:=Aa (La (T:=IW) (T0:=3) hf6 (by decide) (by decide) ZX.out);clear he6 hf6))
    go_roundw
    case rel=>exact⟨i+1,by omega,by first|rfl|go_num,HE6.out,x8.out⟩
    case measure=>simp[intOf];omega
  · have hiz:¬(i:Int)<(n:Int):=by omega
    have HA:Hid ((AU l).take i=AU l):=Aa (CV (by unfold AU;rw[DW,HN.out];omega));rw[HA.out]at HE;have hfin:BB nx.toNat 8++BB n 2++(AU l).flatMap CB=L:=by
     rw[←HL.out];simp only[List.append_assoc]
    rw[hfin]at HE;have cT:=Ws bw bw L wr HE.out.wr HE.out.s;clear hfin;go_wp2_with (go_at_call 78;refine cT.mono ?_;rintro e w7 ⟨rfl,Er⟩;have yo:=Aa Er;clear Er);go_ret;exact⟨rfl,by first|exact HE.out.b.trans yo.out|(rw[FU.out];exact HE.out.b.trans yo.out)⟩
structure RS where
 l:List UInt8
 p:Bool
def RS.num (k:Nat)(r:RS):RS:=⟨r.l.drop k,r.p||decide (r.l.length<k)⟩
def RS.mi (r:RS):RS:=⟨YG r.l,r.p||nmP r.l⟩
def Lp (r:RS):Br×RS:=
 (⟨Rc r.l,(FD 2 r.mi.l:Int),decide (FD 1 (r.mi.num 2).l=1),RY 8 ((r.mi.num 2).num 1).l,(FD 4 (((r.mi.num 2).num 1).num 8).l:Int)⟩,(((r.mi.num 2).num 1).num 8).num 4)
section
variable {α:Type}
def EP (R:RS→α×RS):Nat→RS→List α×RS
 | 0,r=>([],r)
 | n+1,r=>if r.p=true then([],r) else((R r).1::(EP R n (R r).2).1,(EP R n (R r).2).2)
def Nq (R:RS→α×RS)(r:RS):List α×RS:=EP R (FD 2 r.l) (r.num 2)
end
def KR (r:RS):(Int×List Br)×RS:=(((FD 2 r.l:Int),(Nq Lp (r.num 2)).1),(Nq Lp (r.num 2)).2)
def NI (b:List UInt8):Int:=RY 8 b
def LK (b:List UInt8):List (Int×List Br):=(Nq KR (RS.num 8 ⟨b,false⟩)).1
theorem Fw (k:Nat)(r:RS):(r.num k).l.length≤r.l.length:=by
 unfold RS.num;simp only[List.length_drop];omega
theorem pF (r:RS):r.mi.l.length≤r.l.length:=by
 unfold RS.mi YG;simp only[List.length_drop];omega
theorem Xy (r:RS):(Lp r).2.l.length≤r.l.length:=
 Ao (Fw 4 _) (Ao (Fw 8 _) (Ao (Fw 1 _) (Ao (Fw 2 _) (pF r))))
theorem Yk {α:Type}{R:RS→α×RS}(hR:∀r,(R r).2.l.length≤r.l.length):∀n r,(EP R n r).2.l.length≤r.l.length
 | 0,r=>Ae _
 | n+1,r=>by
  unfold EP;split
  · exact Ae _
  · exact Ao (Yk hR n _) (hR r)
theorem Ve {α:Type}{R:RS→α×RS}:∀n r,(EP R n r).1.length≤n
 | 0,r=>Ae _
 | n+1,r=>by
  unfold EP;split
  · exact Nat.zero_le _
  · have:=Ve (R:=R) n (R r).2;simp only[List.length_cons];omega
theorem MZ {α:Type}{R:RS→α×RS}{P:α→Prop}(hR:∀r,(R r).2.l.length≤r.l.length)(m:Nat)(hP:∀r,r.l.length≤m→P (R r).1):∀n r,r.l.length≤m→∀x∈(EP R n r).1,P x
 | 0,r,_,x,hx=>absurd hx (by simp[EP])
 | n+1,r,hm,x,hx=>by
  unfold EP at hx;split at hx
  · exact absurd hx (by simp)
  · rcases Em.1 hx with rfl|hx
    · exact hP r hm
    · exact MZ hR m hP n _ (Ao (hR r) hm) x hx
theorem vG {α:Type}{R:RS→α×RS}(hR:∀r,(R r).2.l.length≤r.l.length)(r:RS):(Nq R r).2.l.length≤r.l.length:=Ao (Yk hR _ _) (Fw 2 r)
theorem XB (r:RS):(KR r).2.l.length≤r.l.length:=Ao (vG Xy _) (Fw 2 r)
theorem Yj {α:Type}{R:RS→α×RS}(r:RS):(Nq R r).1.length≤65535:=by
 have h1:=Ve (R:=R) (FD 2 r.l) (r.num 2);have h2:=P7 2 r.l;show(EP R _ _).1.length≤_
 omega
theorem pz (l:List UInt8):(Rc l).size≤l.length:=by
 show(Rc l).data.size≤_
 unfold Rc;rw[←BQ];simp only[List.length_take,List.length_drop];omega
theorem kU (r:RS)(h:r.l.length≤100000):∀e∈(KR r).1.2,e.name.size≤9223372036854775807:=by
 intro e he;exact MZ (P:=fun e:Br=>e.name.size≤9223372036854775807) Xy 100000 (fun r hr=>by have:=pz r.l;show(Rc r.l).size≤_;omega) _ _ (Ao (Fw 2 _) (Ao (Fw 2 r) h)) e he
def Qz (ds:List (Int×List Br)):Cw:=ds.foldl (fun G d=>fun q=>if q=d.1 then some d.2 else G q) fun _=>none
theorem Sq (ds:List (Int×List Br))(d:Int×List Br):Qz (ds++[d])=fun q=>if q=d.1 then some d.2 else Qz ds q:=by
 unfold Qz;rw[List.foldl_append];rfl
theorem MX:∀(n:Nat) (ds:List (Int×List Br)),ds.length=n→∀{q:Int} {es:List Br},Qz ds q=some es→(q,es)∈ds
 | 0,ds,hn,q,es,h=>by
  obtain rfl:=Kw hn;exact absurd h (by simp[Qz])
 | n+1,ds,hn,q,es,h=>by
  obtain⟨ds',d,rfl⟩:∃ds' d,ds=ds'++[d]:=⟨ds.dropLast,ds.getLast (by intro e;rw[e]at hn;exact absurd hn (by simp)),(List.dropLast_concat_getLast _).symm⟩;rw[Sq]at h;simp only at h;rw[A7,RP]at hn;split at h
  · rename_i hq;obtain rfl:=BS h;rw[hq];exact List.mem_append_right _ (Cn.2 rfl)
  · exact List.mem_append_left _ (MX n ds' (by omega) h)
theorem Yf:∀(n:Nat) (ds:List (Int×List Br)),ds.length=n→∀{q:Int},(∃d∈ds,d.1=q)→(Qz ds q).isSome=true
 | 0,ds,hn,q,⟨d,hd,_⟩=>by
  obtain rfl:=Kw hn;exact absurd hd (by simp)
 | n+1,ds,hn,q,⟨e,he,hq⟩=>by
  obtain⟨ds',d,rfl⟩:∃ds' d,ds=ds'++[d]:=⟨ds.dropLast,ds.getLast (by intro e;rw[e]at hn;exact absurd hn (by simp)),(List.dropLast_concat_getLast _).symm⟩;rw[Sq];rw[A7,RP]at hn;simp only;split
  · rfl
  · rename_i hne;rcases EI.1 he with h|h
    · exact Yf n ds' (by omega) ⟨e,h,hq⟩
    · obtain rfl:=Cn.1 h;exact absurd hq.symm hne
theorem fu (l:List Az):Qz (AU l)=Nr l:=by
 funext q;unfold Nr;by_cases h:q∈AR l
 · rw[if_pos h];have h1:=Yf _ (AU l) rfl (q:=q) ⟨(q,Ak l q),CG.2 ⟨q,h,rfl⟩,rfl⟩;obtain⟨es,he⟩:=Option.isSome_iff_exists.1 h1;have h2:=MX _ _ rfl he;unfold AU at h2;obtain⟨q',_,h3⟩:=CG.1 h2;obtain⟨rfl,rfl⟩:=Prod.mk.inj h3;exact he
 · rw[if_neg h];cases he:Qz (AU l) q with
   | none=>rfl
   | some es =>
    have h2:=MX _ _ rfl he;unfold AU at h2;obtain⟨q',h4,h3⟩:=CG.1 h2;obtain⟨rfl,rfl⟩:=Prod.mk.inj h3;exact absurd h4 h
theorem aN (b:List UInt8)(h:b.length≤100000):dN (Qz (LK b)):=by
 have key:∀d∈LK b,d.2.length≤100000∧∀e∈d.2,e.name.size≤9223372036854775807:=
  MZ (P:=fun d:Int×List Br=>d.2.length≤100000∧∀e∈d.2,e.name.size≤9223372036854775807) XB 100000
   (fun r hr=>⟨by have:=Yj (R:=Lp) (r.num 2);show(Nq Lp (r.num 2)).1.length≤_;omega,kU r hr⟩) _ _ (Ao (Fw 2 _) (Ao (Fw 8 _) h))
 exact⟨fun q es he=>(key _ (MX _ _ rfl he)).1,fun q es he=>(key _ (MX _ _ rfl he)).2⟩
theorem zV (n k:Nat)(h:n<256^k)(r:List UInt8):FD k (BB n k++r)=n:=by
 rw[rd_val,ML,eX n k h]
theorem Ic (n k:Nat)(r:List UInt8):RS.num k ⟨BB n k++r,false⟩=⟨r,false⟩:=by
 unfold RS.num;simp only[IQ,List.length_append,Ah,Bool.false_or];rw[Bb (by omega)]
theorem jK (s:ByteArray)(hs:s.size<256)(r:List UInt8):RS.mi ⟨EU s++r,false⟩=⟨r,false⟩:=by
 unfold RS.mi nmP;have hl:((EU s++r).drop 1).length=s.size+r.length:=by
  rw[Ea,A7,BP];omega
 have hr:FD 1 (EU s++r)=s.size:=by
  unfold EU;rw[Ch,zW _ hs]
 simp only[z8 s hs,hl,hr,Bool.false_or];rw[Bb (by rw[A7,BP];omega),Bb (by omega)];rfl
theorem Abc (n:Nat)(h:n≤9223372036854775807)(r:List UInt8):RY 8 (BB n 8++r)=(n:Int):=by
 unfold RY;rw[zV n 8 (by omega),IntWalk.wrap64_in _ (by omega)]
theorem kN (e:Br)(h:eH e)(r:List UInt8):Lp ⟨GD e++r,false⟩=(e,⟨r,false⟩):=by
 obtain⟨⟨k1,⟨k2,k3⟩,⟨k4,k5⟩,⟨k6,k7⟩⟩,k8⟩:=h;obtain⟨s,n,d,c,q⟩:=e;simp only at k1 k2 k3 k4 k5 k6 k7 k8;obtain⟨n,rfl⟩:∃m:Nat,n=m:=⟨n.toNat,by omega⟩;obtain⟨c,rfl⟩:∃m:Nat,c=m:=⟨c.toNat,by omega⟩;obtain⟨q,rfl⟩:∃m:Nat,q=m:=⟨q.toNat,by omega⟩;have hb:DI d<2:=by unfold DI;split<;>omega
 unfold Lp GD;simp only[Int.toNat_natCast,List.append_assoc];rw[jK s k1,Ic,Ic,Ic,Ic];simp only;rw[Aaa s k1,rd2 n (by omega),zW _ (by omega),Abc c (by omega),rd4 q (by omega)];cases d<;>simp[DI]
theorem iX {α:Type}{R:RS→α×RS}{B:α→List UInt8}(xs:List α)(hR:∀x∈xs,∀r,R ⟨B x++r,false⟩=(x,⟨r,false⟩))(r:List UInt8):EP R xs.length ⟨xs.flatMap B++r,false⟩=(xs,⟨r,false⟩):=by
 induction xs with
 | nil=>rfl
 | cons x xs ih =>
  rw[List.flatMap_cons,Ch,GY];unfold EP;rw[if_neg (by simp),hR x (List.mem_cons_self ..)];simp only;rw[ih fun y hy=>hR y (List.mem_cons_of_mem _ hy)]
theorem Sv {α:Type}{R:RS→α×RS}{B:α→List UInt8}(xs:List α)(hl:xs.length<65536)(hR:∀x∈xs,∀r,R ⟨B x++r,false⟩=(x,⟨r,false⟩))(r:List UInt8):Nq R ⟨BB xs.length 2++(xs.flatMap B++r),false⟩=(xs,⟨r,false⟩):=by
 unfold Nq;rw[Ic];simp only;rw[rd2 _ hl,iX xs hR r]
theorem kV (d:Int×List Br)(h:iE d)(hc:∀e∈d.2,e.Al≤9223372036854775807)(r:List UInt8):KR ⟨CB d++r,false⟩=(d,⟨r,false⟩):=by
 obtain⟨⟨k1,k2⟩,k3,o⟩:=h;obtain⟨q,es⟩:=d;simp only at k1 k2 k3 o hc;obtain⟨q,rfl⟩:∃m:Nat,q=m:=⟨q.toNat,by omega⟩;unfold KR CB;simp only[Int.toNat_natCast,List.append_assoc];rw[Ic,Sv es k3 (fun e he r=>kN e ⟨o e he,hc e he⟩ r)];simp only;rw[rd2 q (by omega)]
theorem jY {nx:Int}{ds:List (Int×List Br)}(h:ZN nx ds)(hx:nx≤9223372036854775807)(hc:∀d∈ds,∀e∈d.2,e.Al≤9223372036854775807):NI (N8 nx ds)=nx∧LK (N8 nx ds)=ds:=by
 obtain⟨⟨k1,_⟩,k3,o⟩:=h;obtain⟨c,rfl⟩:∃m:Nat,nx=m:=⟨nx.toNat,by omega⟩;unfold NI LK N8;simp only[Int.toNat_natCast];refine⟨Abc c (by omega) _,?_⟩;rw[Ic];have h9:=Sv (R:=KR) (B:=CB) ds k3 (fun d hd r=>kV d (o d hd) (hc d hd) r) [];rw[Cz]at h9;rw[h9]
theorem oQ {l:List Az}{nx:Int}(h:Aq l nx)(hx:nx≤9223372036854775807):∀d∈AU l,∀e∈d.2,e.Al≤9223372036854775807:=by
 intro d hd e he;unfold AU at hd;obtain⟨q,hq,rfl⟩:=CG.1 hd;obtain⟨x,hx2,_,rfl⟩:=Dz.1 he;have h3:=h.Ho x hx2;omega
theorem YB {l:List Az}{nx:Int}(h:Aq l nx)(hx:nx≤9223372036854775807):NI (BG l nx)=nx∧LK (BG l nx)=AU l:=
 jY (Xk h (by omega)) hx (oQ h hx)
theorem Sc {l l':List Az}{nx nx':Int}(h:Aq l nx)(h':Aq l' nx')(hx:nx≤9223372036854775807)(hx':nx'≤9223372036854775807)(he:BG l' nx'=BG l nx):nx'=nx∧AR l'=AR l∧Twin l l':=by
 obtain⟨e1,e2⟩:=wR (Xk h' (by omega)) (Xk h (by omega)) he;have hd:AR l'=AR l:=by
  have:=Gu (List.map Prod.fst) e2;unfold AU at this;rw[List.map_map,List.map_map]at this;simpa[Function.comp_def]using this
 refine⟨e1,hd,⟨fun q=>?_⟩⟩;by_cases hq:q∈AR l
 · have h1:(q,Ak l' q)∈AU l:=by
    rw[←e2];exact CG.2 ⟨q,by rw[hd];exact hq,rfl⟩
   obtain⟨q2,_,h2⟩:=CG.1 h1;obtain⟨rfl,h3⟩:=Prod.mk.inj h2;exact h3.symm
 · have key:∀{m:List Az} {c:Int},Aq m c→q∉AR m→Ak m q=[]:=fun {m c} hg hn=>by
    apply List.eq_nil_iff_forall_not_mem.2;intro e he;obtain⟨x,hx2,hxi,_⟩:=Dz.1 he;exact hn (hg.XA.2 (by rw[←hxi];exact hg.BD x hx2))
   rw[key h hq,key h' (by rw[hd];exact hq)]
theorem oP {l:List Az}{nx:Int}(h:Aq l nx):1≤nx∧(Fx (Qz (AU l)) nx).1=true∧(Fx (Qz (AU l)) nx).2.2=(AU l).length:=by
 rw[fu];have h1:=YM (SS h) (SQ l) (J8 l);refine⟨h.Ml,h1.1,?_⟩;rw[h1.2,KC];unfold AU;rw[DW]
abbrev IR:TypeId:=233
theorem Ez {w W:World}{row:Option Nat}(h:w.grownBy W row){g j:Nat}(hg:w.heap.size≤g)(v:Value):w.grownBy (W.setCell ⟨g,j,none⟩ v) row:=
 ⟨h.os,h.tape,h.output,Ao h.size (by simp[World.setCell]),fun k hk hn=>(Bw W ⟨g,j,none⟩ v k (by show k≠g;omega)).trans (h.block k hk hn)⟩
theorem FZ {w W:World}{row:Option Nat}(h:w.grownBy W row)(o:Obj):w.grownBy (W.alloc o) row:=Db h (FY ((Ad _ _).alloc (Ae _) _) row)
theorem OZ {w W W':World}{row row':Option Nat}(h:w.grownBy W row)(k:W.grownBy W' row')(hr:∀g,row'=some g→w.heap.size≤g):w.grownBy W' row:=
 ⟨k.os.trans h.os,k.tape.trans h.tape,k.output.trans h.output,Ao h.size k.size,fun j hj hn=>(k.block j (Nat.lt_of_lt_of_le hj h.size) (fun e=>by have:=hr j e.symm;omega)).trans (h.block j hj hn)⟩
structure Lv (w:World)(b q:Nat)(x:Br)(r:RS)(W:World):Prop where
 z:W.heap[q]?=some Zp
 d:W.heap[q+1]?=some (.cells #[.string x.name,.int .i64 x.node,.bool x.dir,.int .i64 x.Al,.int .i64 x.short] 112 (0,0))
 rd:Ej IR b r.l r.p W
 g:w.grownBy W (some b)
 lt:b<q
 hq:w.heap.size≤q
 len:r.l.length≤100000
section
variable {w W W':World}{b q:Nat}{x:Br}{r:RS}
theorem Lv.step (h:Lv w b q x r W){r':RS}{v:Value}{e:Ending}(hl:r'.l.length≤r.l.length)(hp:Ew IR b W r'.l r'.p v e W'):e=.returned v∧Lv w b q x r' W':=by
 obtain⟨he,hw,hg⟩:=hp;have hlt:=h.lt;exact⟨he,(hg.block _ (Ab h.z) (fun e=>by have:=BS e;omega)).trans h.z,(hg.block _ (Ab h.d) (fun e=>by have:=BS e;omega)).trans h.d,hw,Db h.g hg,h.lt,h.hq,Ao hl h.len⟩
theorem Lv.num (h:Lv w b q x r W)(kk:Int)(k:Nat)(hk:kk=(k:Int))(xh:k≤7){n:Int}{r':RS}(hn:Hid ((FD k r.l:Int)=n))(hr:Hid (r.num k=r')) :
 Calls Tryz.prog 57 #[DF b,.int .i64 kk] W fun e w'=>e=.returned (.int .i64 n)∧Lv w b q x r' w':=by
 subst hk;obtain rfl:=hn.out;obtain rfl:=hr.out;have h9:=Jj b k r.l r.p W h.rd (by omega) h.len;rw[GI k r.l xh]at h9;exact h9.mono fun e w' hp=>h.step (r':=r.num k) (Fw k r) hp
theorem Lv.Ab' (h:Lv w b q x r W){n:Int}{r':RS}(hn:Hid (RY 8 r.l=n))(hr:Hid (r.num 8=r')) :
 Calls Tryz.prog 57 #[DF b,.int .i64 8] W fun e w'=>e=.returned (.int .i64 n)∧Lv w b q x r' w':=by
 obtain rfl:=hn.out;obtain rfl:=hr.out;exact(Jj b 8 r.l r.p W h.rd (by omega) h.len).mono fun e w' hp=>h.step (r':=r.num 8) (Fw 8 r) hp
theorem Lv.name (h:Lv w b q x r W){s:ByteArray}{r':RS}(hn:Hid (Rc r.l=s))(hr:Hid (r.mi=r')) :
 Calls Tryz.prog 58 #[DF b] W fun e w'=>e=.returned (.string s)∧Lv w b q x r' w':=by
 obtain rfl:=hn.out;obtain rfl:=hr.out;exact(vO b r.l r.p W h.rd h.len).mono fun e w' hp=>h.step (r':=r.mi) (pF r) hp
theorem Lv.flag (h:Lv w b q x r W){t:Bool}{r':RS}(hn:Hid (decide (FD 1 r.l=1)=t))(hr:Hid (r.num 1=r')) :
 Calls Tryz.prog 60 #[DF b] W fun e w'=>e=.returned (.bool t)∧Lv w b q x r' w':=by
 obtain rfl:=hn.out;obtain rfl:=hr.out;exact(vP b r.l r.p W h.rd h.len).mono fun e w' hp=>h.step (r':=r.num 1) (Fw 1 r) hp
theorem Lv.put (h:Lv w b q x r W)(j:Nat)(v:Value){x':Br}(hx:(⟨DU x⟩:Array Value).setIfInBounds j v=⟨DU x'⟩):Lv w b q x' r (W.setCell ⟨q+1,j,none⟩ v):=by
 have hne:∀g,g≠q+1→(W.setCell ⟨q+1,j,none⟩ v).heap[g]?=W.heap[g]?:=fun g hg=>Bw _ _ _ _ hg
 have hlt:=h.lt;refine⟨by rw[hne _ (by omega)];exact h.z,?_,by unfold Ej;rw[hne _ (by omega)];exact h.rd,Ez h.g (by have:=h.hq;omega) v,h.lt,h.hq,h.len⟩;rw[Bn _ (q+1) j _ _ _ h.d];exact Gu (fun a=>some (Obj.cells a 112 (0,0))) hx
end
theorem ou {b:Nat}{r:RS}{w:World}(h:Ej IR b r.l r.p w)(hl:r.l.length≤100000):Lv w b w.heap.size H6 r ((w.alloc Zp).alloc Zp):=by
 have hb:=Ab h;refine⟨?_,?_,?_,FZ (FZ (World.grownBy.refl w _) _) _,hb,Ae _,hl⟩
 · rw[Lib.alloc_old _ _ _ (by simp)];exact Ai _ _
 · have h9:=Ai (w.alloc Zp) Zp;rwa[show(w.alloc Zp).heap.size=w.heap.size+1 by simp]at h9
 · unfold Ej;rw[Lib.alloc_old _ _ _ (by simp;omega),Lib.alloc_old _ _ _ hb];exact h
def dP (b:Nat)(w:World)(f:Br×RS)(e:Ending)(w':World):Prop:=e=.returned (Di f.1)∧Ej IR b f.2.l f.2.p w'∧w.grownBy w' (some b)
set_option maxHeartbeats 8000000 in
theorem oq (b:Nat)(r:RS)(w:World)(h:Ej IR b r.l r.p w)(hl:r.l.length≤100000) :
 Calls Tryz.prog 178 #[DF b] w (dP b w (Lp r)):=by
 unfold dP;obtain⟨F,hF⟩:∃F,Lp r=F:=⟨_,rfl⟩;rw[hF];unfold Lp at hF;obtain⟨s1,hs1⟩:∃s1,Rc r.l=s1:=⟨_,rfl⟩;obtain⟨r1,hr1⟩:∃r1,r.mi=r1:=⟨_,rfl⟩;rw[hs1,hr1]at hF;obtain⟨n2,hn2⟩:∃n2:Int,(FD 2 r1.l:Int)=n2:=⟨_,rfl⟩;obtain⟨r2,hr2⟩:∃r2,r1.num 2=r2:=⟨_,rfl⟩;rw[hn2,hr2]at hF;obtain⟨t3,ht3⟩:∃t3,decide (FD 1 r2.l=1)=t3:=⟨_,rfl⟩;obtain⟨r3,hr3⟩:∃r3,r2.num 1=r3:=⟨_,rfl⟩;rw[ht3,hr3]at hF;obtain⟨n4,Kv⟩:∃n4:Int,RY 8 r3.l=n4:=⟨_,rfl⟩;obtain⟨r4,hr4⟩:∃r4,r3.num 8=r4:=⟨_,rfl⟩;rw[Kv,hr4]at hF;obtain⟨n5,hn5⟩:∃n5:Int,(FD 4 r4.l:Int)=n5:=⟨_,rfl⟩;obtain⟨r5,hr5⟩:∃r5,r4.num 4=r5:=⟨_,rfl⟩;rw[hn5,hr5]at hF;have lX:=Aa hs1;have Hr1:=Aa hr1;have Hn2:=Aa hn2;have Hr2:=Aa hr2;have Ht3:=Aa ht3;have Hr3:=Aa hr3;have Hn4:=Aa Kv;have Hr4:=Aa hr4;have Hn5:=Aa hn5;have Hr5:=Aa hr5;have HF:=Aa hF;have HD:=Aa (ou h hl);clear h hl hs1 hr1 hn2 hr2 ht3 hr3 Kv hr4 hn5 hr5 hF;unfold H6 Zp at HD;go_enter Tryz.func178,Tryz.ntmps178;go_upto_region 2 with fail;generalize ((w.alloc (.cells #[.string ⟨#[]⟩,.int .i64 0,.bool false,.int .i64 0,.int .i64 0] 112)).alloc (.cells #[.string ⟨#[]⟩,.int .i64 0,.bool false,.int .i64 0,.int .i64 0] 112))=W0 at *;generalize w.heap.size=q at *;go_upto_region 3 with(go_at_call 58;refine(HD.out.name lX Hr1).mono ?_;rintro e w1 ⟨rfl,hd⟩;have HD:=Aa hd;clear hd;obtain⟨⟨_,_,_,_,_⟩,⟨f0,f1,f2,f3,f4⟩⟩:=Aj HD.out.d);have HD:=Aa (HD.out.put 0 (.string s1) (x':=⟨s1,0,false,0,0⟩) rfl);generalize (w1.setCell ⟨q+1,0,none⟩ (.string s1))=W1 at *;clear f0 f1 f2 f3 f4;go_upto_region 4 with(go_at_call 57;refine(HD.out.num 2 2 rfl (by omega) Hn2 Hr2).mono ?_;rintro e w2 ⟨rfl,hd⟩;have HD:=Aa hd;clear hd;obtain⟨⟨_,_,_,_,_⟩,⟨f0,f1,f2,f3,f4⟩⟩:=Aj HD.out.d);have HD:=Aa (HD.out.put 1 (.int .i64 n2) (x':=⟨s1,n2,false,0,0⟩) rfl);generalize (w2.setCell ⟨q+1,1,none⟩ (.int .i64 n2))=W2 at *;clear f0 f1 f2 f3 f4;go_upto_region 5 with(go_at_call 60;refine(HD.out.flag Ht3 Hr3).mono ?_;rintro e w3 ⟨rfl,hd⟩;have HD:=Aa hd;clear hd;obtain⟨⟨_,_,_,_,_⟩,⟨f0,f1,f2,f3,f4⟩⟩:=Aj HD.out.d);have HD:=Aa (HD.out.put 2 (.bool t3) (x':=⟨s1,n2,t3,0,0⟩) rfl);generalize (w3.setCell ⟨q+1,2,none⟩ (.bool t3))=W3 at *;clear f0 f1 f2 f3 f4;go_upto_region 6 with(go_at_call 57;refine(HD.out.Ab' Hn4 Hr4).mono ?_;rintro e w4 ⟨rfl,hd⟩;have HD:=Aa hd;clear hd;obtain⟨⟨_,_,_,_,_⟩,⟨f0,f1,f2,f3,f4⟩⟩:=Aj HD.out.d);have HD:=Aa (HD.out.put 3 (.int .i64 n4) (x':=⟨s1,n2,t3,n4,0⟩) rfl);generalize (w4.setCell ⟨q+1,3,none⟩ (.int .i64 n4))=W4 at *;clear f0 f1 f2 f3 f4;go_upto_region 7 with(go_at_call 57;refine(HD.out.num 4 4 rfl (by omega) Hn5 Hr5).mono ?_;rintro e w5 ⟨rfl,hd⟩;have HD:=Aa hd;clear hd;obtain⟨⟨_,_,_,_,_⟩,⟨f0,f1,f2,f3,f4⟩⟩:=Aj HD.out.d);have HD:=Aa (HD.out.put 4 (.int .i64 n5) (x':=⟨s1,n2,t3,n4,n5⟩) rfl);generalize (w5.setCell ⟨q+1,4,none⟩ (.int .i64 n5))=W5 at *;clear f0 f1 f2 f3 f4;obtain⟨⟨p0,p1,p2,p3,p4⟩,_⟩:=Aj HD.out.d;obtain⟨⟨z0,z1,z2,z3,z4⟩,⟨y0,y1,y2,y3,y4⟩⟩:=Aj HD.out.z;go_wp2_with fail
 (try simp only[Exit.inBlock,Exit.then])
 have hz:=xK HD.out.z (.string s1) (.int .i64 n2) (.bool t3) (.int .i64 n4) (.int .i64 n5);refine Bv (results_cell_row Tryz.results178 _ _ _ _ _ _ _ rfl hz Tryz.underlying112 rfl (by kernel_rfl)) rfl ⟨by rw[←HF.out];rfl,?_,?_⟩
 · have hlt:=HD.out.lt;rw[←HF.out];show Ej IR b r5.l r5.p _
   unfold Ej;rw[Bw _ _ _ _ (show b≠q by omega),Bw _ _ _ _ (show b≠q by omega),Bw _ _ _ _ (show b≠q by omega),Bw _ _ _ _ (show b≠q by omega),Bw _ _ _ _ (show b≠q by omega)];exact HD.out.rd
 · have hq:=HD.out.hq;exact Ez (Ez (Ez (Ez (Ez HD.out.g hq _) hq _) hq _) hq _) hq _
theorem aS {w w':World}{b B c n:Nat}{T0:TypeId}{v:Value}{xs:List Value}(hg:w.grownBy w' (some b))(hb:b<B)(h:w.ownsRow B T0 c v n xs):w'.ownsRow B T0 c v n xs:=
 AV h fun g hg'=>hg.block g (h.lt g hg').2 (fun e=>by have:=BS e;have:=(h.lt g hg').1;omega)
theorem OW {b:Nat}{l:List UInt8}{p:Bool}{w w':World}{row:Option Nat}(h:Ej IR b l p w)(hg:w.grownBy w' row)(hr:row≠some b):Ej IR b l p w':=(hg.block b (Ab h) (fun e=>hr e.symm)).trans h
abbrev AaF (b:Nat):Value:=.func (.func 178) #[DF b] #[]
def XM (b:Nat)(w:World)(f:List Br×RS)(e:Ending)(w':World):Prop:=
 ∃v,e=.returned v∧w'.ownsRow w.heap.size 112 5 v f.1.length (f.1.flatMap DU)∧Ej IR b f.2.l f.2.p w'∧w.grownBy w' (some b)
set_option maxHeartbeats 8000000 in
theorem zO (b:Nat)(r:RS)(w:World)(h:Ej IR b r.l r.p w)(hl:r.l.length≤100000) :
 Calls Tryz.prog 177 #[DF b,AaF b] w (XM b w (Nq Lp r)):=by
 unfold XM;obtain⟨i0,hi0,hz0,hz1,hz2⟩:=info_parts Tryz.M9;obtain⟨F,hF⟩:∃F,Nq Lp r=F:=⟨_,rfl⟩;rw[hF];unfold Nq at hF;have cN:=Jj b 2 r.l r.p w h (by omega) hl;have hn0:=P7 2 r.l;rw[GI 2 r.l (by omega)]at cN;obtain⟨n0,hn⟩:∃n0,FD 2 r.l=n0:=⟨_,rfl⟩;rw[hn]at cN hF hn0;obtain⟨r0,hr0⟩:∃r0,r.num 2=r0:=⟨_,rfl⟩;have hl0:r0.l.length≤100000:=by rw[←hr0];exact Ao (Fw 2 r) hl
 have dz:Calls Tryz.prog 57 #[DF b,.int .i64 2] w (Ew IR b w r0.l r0.p (.int .i64 (n0:Int))):=by
  rw[←hr0];exact cN
 rw[hr0]at hF;have hb:=Ab h;have HF:=Aa hF;have HB:=Aa hb;obtain⟨B,hBB⟩:∃B,w.heap.size=B:=⟨_,rfl⟩;have PN:=Aa hBB;rw[hBB]at hb ⊢;unfold Ew at dz;clear h hl hF cN hn hr0 hBB;go_enter Tryz.func177,Tryz.ntmps177;go_wp2_with (go_at_call 57;refine dz.mono ?_;rintro e w1 ⟨rfl,hr1,hg1⟩;have HR1:=Aa hr1;have Nw:=Aa hg1;clear hr1 hg1);clear dz;go_loopw [5,6] (fun lv nv wr=>∃(xs:List Br) (n:Nat) (z:Int) (r':RS),nv=.int .i64 z∧z=(n:Int)∧wr.ownsRow B 112 5 lv xs.length (xs.flatMap DU)∧Ej IR b r'.l r'.p wr∧w.grownBy wr (some b)∧(xs++(EP Lp n r').1,(EP Lp n r').2)=F∧xs.length+n≤65535∧r'.l.length≤100000) (fun _ nv _=>(intOf nv).toNat)
 case atStart=>exact⟨[],n0,n0,r0,rfl,rfl,FV _ _ _ _,HR1.out,Nw.out,by rw[G5];exact HF.out,by simp only[List.length_nil];omega,hl0⟩
 case round =>
  obtain⟨xs,n,z,r',rfl,hz,ho,hr,hg,hf,hn,hl⟩:=hrel;have HO:=Aa ho;have HR:=Aa hr;have HG:=Aa hg;have HFF:=Aa hf;have HN:=Aa hn;have XV:=Aa hl;have hsz:=hg.size;obtain⟨a3,c3,hv3⟩:=Av ho;subst hv3;clear ho hr hg hf hn hl;cases n with
  | zero =>
   have hzn:¬(0:Int)<z:=by omega
   clear hz;have hfin:F=(xs,r'):=by
    have h9:=HFF.out;unfold EP at h9;rw[←h9,Cz]
   have Ff:=Aa hfin;clear hfin;go_wp2;go_ret;exact⟨_,rfl,by rw[Ff.out];exact HO.out,by rw[Ff.out];exact HR.out,HG.out⟩
  | succ n =>
   have hzp:(0:Int)<z:=by omega
   have hzq:z≤65535:=by have:=HN.out;omega
   have HZ:=Aa hz;clear hz;obtain⟨p,hp⟩:∃p,r'.p=p:=⟨_,rfl⟩;have cP:=fC b r'.l r'.p wr HR.out;rw[hp]at cP;have HP:=Aa hp;clear hp;cases p with
   | true =>
    have hfin:F=(xs,r'):=by
     have h9:=HFF.out;unfold EP at h9;rw[if_pos HP.out]at h9;rw[←h9,Cz]
    have Ff:=Aa hfin;clear hfin;go_wp2_with (go_at_call 176;refine cP.mono ?_;rintro e w2 ⟨rfl,rfl⟩);go_ret;exact⟨_,rfl,by rw[Ff.out];exact HO.out,by rw[Ff.out];exact HR.out,HG.out⟩
   | false =>
    obtain⟨x,hx⟩:∃x,(Lp r').1=x:=⟨_,rfl⟩;obtain⟨r2,hr2⟩:∃r2,(Lp r').2=r2:=⟨_,rfl⟩;have hfin:(xs++[x]++(EP Lp n r2).1,(EP Lp n r2).2)=F:=by
     have h9:=HFF.out;unfold EP at h9;rw[if_neg (by rw[HP.out];decide),hx,hr2]at h9;rw[←h9,Ch];rfl
    have Ff:=Aa hfin;have hl2:r2.l.length≤100000:=by rw[←hr2];exact Ao (Xy r') XV.out
    have HL2:=Aa hl2;have cE:=oq b r' wr HR.out XV.out;unfold dP at cE;rw[hx,hr2]at cE;clear hfin hx hr2 hl2;obtain⟨nm,nd,dr,ck,sh⟩:=x;unfold Di at cE;simp only at cE;go_wp2_with (first
     | (go_at_call 176;refine cP.mono ?_;rintro e w2 ⟨rfl,rfl⟩)
     | (go_at_call 178;refine cE.mono ?_;rintro e w3 ⟨rfl,hr3,hg3⟩;have HR3:=Aa hr3;have HG3:=Aa (Db HG.out hg3);have Jf:=Aa (aS hg3 (by omega) HO.out);have hs3:=hg3.size;clear hr3 hg3)
     | (at_builtin;refine wpList_append_own _ rfl _ _ 86 rfl B 112 i0 (.agg #[.string ⟨#[]⟩,.int .i64 0,.bool false,.int .i64 0,.int .i64 0]) 5 48 Tryz.underlying86 hi0 hz0 hz1 hz2 rfl (by decide) _ _ _ rfl (Jf.out.alloc _) ⟨w3.heap.size,0,none⟩ 1 1 (DU ⟨nm,nd,dr,ck,sh⟩) rfl rfl ?c1 (IL _) ?c3 ?c4 ?c5 ?_))
    case c1 =>
     intro j u hj;rw[Addr.add_mid,AB _ _ _ _ _ _ (Ai _ _),Gh,Gp];exact hj
    case c3=>have:=HN.out;unfold maxLen;omega
    case c4=>have:=HN.out;omega
    case c5=>have:=PN.out;simp;omega
    intro v' w4 hown' hgrow _;have hga:=FZ HG3.out (.cells #[.string nm,.int .i64 nd,.bool dr,.int .i64 ck,.int .i64 sh] 112);have HG4:=Aa (OZ hga hgrow (fun g hg=>by rw[PN.out];exact(Jf.out.lt g hg).1));have HR4:Hid (Ej IR b r2.l r2.p w4):=Aa (OW (OW HR3.out (FY ((Ad _ _).alloc (Ae _) _) none) (by simp)) hgrow (fun e=>by have:=(Jf.out.lt b e).1;omega));have uq:=Aa hown';clear hown' hgrow hga;go_wp2;go_roundw
    case rel=>exact⟨xs++[⟨nm,nd,dr,ck,sh⟩],n,z-1,r2,by first|rfl|go_num,by have:=HZ.out;omega,by rw[FB,A7];exact uq.out,HR4.out,HG4.out,Ff.out,by have:=HN.out;simp only[List.length_append,List.length_singleton];omega,HL2.out⟩
    case measure=>have:=HZ.out;simp[intOf];omega
def dQ (b:Nat)(w:World)(f:(Int×List Br)×RS)(e:Ending)(w':World):Prop:=
 ∃v,e=.returned (.agg #[.int .i64 f.1.1,v])∧w'.ownsRow w.heap.size 112 5 v f.1.2.length (f.1.2.flatMap DU)∧Ej IR b f.2.l f.2.p w'∧w.grownBy w' (some b)
theorem zU (b:Nat)(r:RS)(w:World)(h:Ej IR b r.l r.p w)(hl:r.l.length≤100000) :
 Calls Tryz.prog 151 #[DF b] w (dQ b w (KR r)):=by
 unfold dQ;obtain⟨F,hF⟩:∃F,KR r=F:=⟨_,rfl⟩;rw[hF];unfold KR at hF;obtain⟨n0,hn⟩:∃n0:Int,(FD 2 r.l:Int)=n0:=⟨_,rfl⟩;obtain⟨r0,hr0⟩:∃r0,r.num 2=r0:=⟨_,rfl⟩;obtain⟨G,hG⟩:∃G,Nq Lp r0=G:=⟨_,rfl⟩;have hl0:r0.l.length≤100000:=by rw[←hr0];exact Ao (Fw 2 r) hl
 have hb:=Ab h;have hA:Ej IR b r.l r.p (w.alloc (.cells #[.int .i64 0,.slice none 0 0] 200)):=OW h (FY ((Ad _ _).alloc (Ae _) _) none) (by simp);have cN:=Jj b 2 r.l r.p _ hA (by omega) hl;rw[GI 2 r.l (by omega),hn]at cN;have dz:Calls Tryz.prog 57 #[DF b,.int .i64 2] (w.alloc (.cells #[.int .i64 0,.slice none 0 0] 200)) (Ew IR b (w.alloc (.cells #[.int .i64 0,.slice none 0 0] 200)) r0.l r0.p (.int .i64 n0)):=by
  rw[←hr0];exact cN
 rw[hn,hr0,hG]at hF;have cS:Hid (∀W,Ej IR b r0.l r0.p W→Calls Tryz.prog 177 #[DF b,AaF b] W (XM b W G)):=Aa fun W hW=>by
  rw[←hG];exact zO b r0 W hW hl0
 unfold XM AaF at cS;unfold Ew at dz;have HF:=Aa hF;have HG0:Hid (w.grownBy (w.alloc (.cells #[.int .i64 0,.slice none 0 0] 200)) (some b)):=Aa (FZ (World.grownBy.refl w _) _);have HZ0:Hid ((w.alloc (.cells #[.int .i64 0,.slice none 0 0] 200)).heap[w.heap.size]?=some (.cells #[.int .i64 0,.slice none 0 0] 200 (0,0))):=Aa (Ai _ _);clear h hl hF cN hn hr0 hG hA hl0;go_enter Tryz.func151,Tryz.ntmps151;go_upto_region 1 with fail;generalize (w.alloc (.cells #[.int .i64 0,.slice none 0 0] 200))=W0 at *;obtain⟨q,hq⟩:∃q,w.heap.size=q:=⟨_,rfl⟩;rw[hq]at HZ0 hb ⊢;have HQ:=Aa hq;clear hq;go_upto_region 2 with(go_at_call 57;refine dz.mono ?_;rintro e w1 ⟨rfl,hr1,hg1⟩;have HR1:=Aa hr1;have Nw:=Aa (Db HG0.out hg1);have HZ1:=Aa ((hg1.block q (Ab HZ0.out) (fun e=>by have:=BS e;omega)).trans HZ0.out);clear hr1 hg1);have cSS:=cS.out w1 HR1.out;go_wp2_with (go_at_call 177;refine cSS.mono ?_;rintro e w2 ⟨v2,rfl,ho2,hr2,hg2⟩;obtain⟨a2,c2,hv2⟩:=Av ho2;have JQ:=Aa ho2;have HR2:=Aa hr2;have HG2:=Aa (Db Nw.out hg2);have HZ2:=Aa ((hg2.block q (Ab HZ1.out) (fun e=>by have:=BS e;omega)).trans HZ1.out);subst hv2;clear ho2 hr2 hg2;have z0:=Ap HZ2.out 0;have z1:=Ap HZ2.out 1;have y0:=BA HZ2.out 0;have y1:=BA HZ2.out 1)
 (try simp only[Exit.inBlock,Exit.then])
 have hz:((w2.setCell ⟨q,0,none⟩ (.int .i64 n0)).setCell ⟨q,1,none⟩ (.slice a2 G.1.length c2)).heap[q]?=some (.cells #[.int .i64 n0,.slice a2 G.1.length c2] 200 (0,0)):=by
  rw[Bn _ q 1 _ _ _ (Bn _ q 0 _ _ _ HZ2.out)];rfl
 have hne:∀g,g≠q→((w2.setCell ⟨q,0,none⟩ (.int .i64 n0)).setCell ⟨q,1,none⟩ (.slice a2 G.1.length c2)).heap[g]?=w2.heap[g]?:=fun g hg=>by
  rw[Bw _ _ _ _ hg,Bw _ _ _ _ hg]
 have hq1:q<w1.heap.size:=Ab HZ1.out;refine Bv (results_cell_row Tryz.results151 _ _ _ _ _ _ _ rfl hz Tryz.underlying200 rfl (by kernel_rfl)) rfl ⟨.slice a2 G.1.length c2,by rw[←HF.out],?_,?_,?_⟩
 · rw[←HF.out];exact Iz (AV JQ.out fun g hg=>hne g (by have:=(JQ.out.lt g hg).1;omega)) (by have:=HQ.out;omega)
 · rw[←HF.out];show Ej IR b G.2.l G.2.p _
   unfold Ej;rw[hne b (by omega)];exact HR2.out
 · exact Ez (Ez HG2.out (by rw[HQ.out];exact Ae _) _) (by rw[HQ.out];exact Ae _) _
abbrev ZD:=Int×Value×List Br
def zC (z:ZD):List Value:=[.int .i64 z.1,z.2.1]
def zD (z:ZD):Int×List Br:=(z.1,z.2.2)
theorem zH (l:List ZD):∀x∈l,(zC x).length=2:=fun _ _=>rfl
def ZL (w:World)(B:Nat)(zs:List ZD):Prop:=∀z∈zs,w.ownsRow B 112 5 z.2.1 z.2.2.length (z.2.2.flatMap DU)
theorem ZL.grown {w w':World}{B B' c n:Nat}{zs:List ZD}{v:Value}{xs:List Value}(h:ZL w B zs)(ho:w.ownsRow B' 200 c v n xs)(hg:w.grownBy w' v.ownBlock):ZL w' B zs:=fun z hz =>
 AV (h z hz) fun g hg'=>hg.block g ((h z hz).lt g hg').2 fun e=>by
  obtain⟨cur,h1⟩:=CJ (h z hz) hg';obtain⟨AcI,h2⟩:=CJ ho e.symm;rw[h1]at h2;injection h2 with h2;injection h2 with _ h3 _;exact absurd h3 (by decide)
theorem ZL.rd {w w':World}{b B:Nat}{zs:List ZD}(h:ZL w B zs)(hg:w.grownBy w' (some b))(hb:b<B):ZL w' B zs:=fun z hz=>aS hg hb (h z hz)
theorem ZL.alloc {w:World}{B:Nat}{zs:List ZD}(h:ZL w B zs)(o:Obj):ZL (w.alloc o) B zs:=fun z hz=>(h z hz).alloc o
theorem ZL.below {w w':World}{B:Nat}{zs:List ZD}(h:ZL w B zs)(hb:Below w.heap.size w w'):ZL w' B zs:=fun z hz=>AV (h z hz) fun g hg=>hb.block g ((h z hz).lt g hg).2
theorem Tryz.qo:(Tryz.prog.info? 200).map (fun i=>(i.zero,i.size,i.bytes))=some (some (.agg #[.int .i64 0,.slice none 0 0]),2,32):=by kernel_rfl
abbrev AbP (b:Nat):Value:=.func (.func 151) #[DF b] #[]
def dO (b:Nat)(w:World)(f:List (Int×List Br)×RS)(e:Ending)(w':World):Prop:=
 ∃v zs,e=.returned v∧w'.ownsRow w.heap.size 200 2 v zs.length (zs.flatMap zC)∧ZL w' w.heap.size zs∧zs.map zD=f.1∧Ej IR b f.2.l f.2.p w'∧w.grownBy w' (some b)
set_option maxHeartbeats 8000000 in
theorem zP (b:Nat)(r:RS)(w:World)(h:Ej IR b r.l r.p w)(hl:r.l.length≤100000) :
 Calls Tryz.prog 150 #[DF b,AbP b] w (dO b w (Nq KR r)):=by
 unfold dO;obtain⟨i0,hi0,hz0,hz1,hz2⟩:=info_parts Tryz.qo;obtain⟨F,hF⟩:∃F,Nq KR r=F:=⟨_,rfl⟩;rw[hF];unfold Nq at hF;have cN:=Jj b 2 r.l r.p w h (by omega) hl;have hn0:=P7 2 r.l;rw[GI 2 r.l (by omega)]at cN;obtain⟨n0,hn⟩:∃n0,FD 2 r.l=n0:=⟨_,rfl⟩;rw[hn]at cN hF hn0;obtain⟨r0,hr0⟩:∃r0,r.num 2=r0:=⟨_,rfl⟩;have hl0:r0.l.length≤100000:=by rw[←hr0];exact Ao (Fw 2 r) hl
 have dz:Calls Tryz.prog 57 #[DF b,.int .i64 2] w (Ew IR b w r0.l r0.p (.int .i64 (n0:Int))):=by
  rw[←hr0];exact cN
 rw[hr0]at hF;have hb:=Ab h;have HF:=Aa hF;obtain⟨B,hBB⟩:∃B,w.heap.size=B:=⟨_,rfl⟩;have PN:=Aa hBB;rw[hBB]at hb ⊢;unfold Ew at dz;clear h hl hF cN hn hr0 hBB;go_enter Tryz.func150,Tryz.ntmps150;go_wp2_with (go_at_call 57;refine dz.mono ?_;rintro e w1 ⟨rfl,hr1,hg1⟩;have HR1:=Aa hr1;have Nw:=Aa hg1;clear hr1 hg1);clear dz;go_loopw [5,6] (fun lv nv wr=>∃(xs:List ZD) (n:Nat) (z:Int) (r':RS),nv=.int .i64 z∧z=(n:Int)∧wr.ownsRow B 200 2 lv xs.length (xs.flatMap zC)∧ZL wr B xs∧Ej IR b r'.l r'.p wr∧w.grownBy wr (some b)∧(xs.map zD++(EP KR n r').1,(EP KR n r').2)=F∧xs.length+n≤65535∧r'.l.length≤100000) (fun _ nv _=>(intOf nv).toNat)
 case atStart=>exact⟨[],n0,n0,r0,rfl,rfl,FV _ _ _ _,(fun z hz=>absurd hz (by simp)),HR1.out,Nw.out,by rw[List.map_nil,G5];exact HF.out,by simp only[List.length_nil];omega,hl0⟩
 case round =>
  obtain⟨xs,n,z,r',rfl,hz,ho,hzk,hr,hg,hf,hn,hl⟩:=hrel;have HO:=Aa ho;have HZK:=Aa hzk;have HR:=Aa hr;have HG:=Aa hg;have HFF:=Aa hf;have HN:=Aa hn;have XV:=Aa hl;have hsz:=hg.size;obtain⟨a3,c3,hv3⟩:=Av ho;subst hv3;clear ho hzk hr hg hf hn hl;cases n with
  | zero =>
   have hzn:¬(0:Int)<z:=by omega
   clear hz;have hfin:F=(xs.map zD,r'):=by
    have h9:=HFF.out;unfold EP at h9;rw[←h9,Cz]
   have Ff:=Aa hfin;clear hfin;go_wp2;go_ret
   first
    | exact⟨_,xs,rfl,HO.out,HZK.out,by rw[Ff.out],by rw[Ff.out];exact HR.out,HG.out⟩
    | exact⟨_,rfl,xs,HO.out,HZK.out,by rw[Ff.out],by rw[Ff.out];exact HR.out,HG.out⟩
  | succ n =>
   have hzp:(0:Int)<z:=by omega
   have hzq:z≤65535:=by have:=HN.out;omega
   have HZ:=Aa hz;clear hz;obtain⟨p,hp⟩:∃p,r'.p=p:=⟨_,rfl⟩;have cP:=fC b r'.l r'.p wr HR.out;rw[hp]at cP;have HP:=Aa hp;clear hp;cases p with
   | true =>
    have hfin:F=(xs.map zD,r'):=by
     have h9:=HFF.out;unfold EP at h9;rw[if_pos HP.out]at h9;rw[←h9,Cz]
    have Ff:=Aa hfin;clear hfin;go_wp2_with (go_at_call 176;refine cP.mono ?_;rintro e w2 ⟨rfl,rfl⟩);go_ret
    first
     | exact⟨_,xs,rfl,HO.out,HZK.out,by rw[Ff.out],by rw[Ff.out];exact HR.out,HG.out⟩
     | exact⟨_,rfl,xs,HO.out,HZK.out,by rw[Ff.out],by rw[Ff.out];exact HR.out,HG.out⟩
   | false =>
    obtain⟨x,hx⟩:∃x,(KR r').1=x:=⟨_,rfl⟩;obtain⟨r2,hr2⟩:∃r2,(KR r').2=r2:=⟨_,rfl⟩;have hfin:(xs.map zD++[x]++(EP KR n r2).1,(EP KR n r2).2)=F:=by
     have h9:=HFF.out;unfold EP at h9;rw[if_neg (by rw[HP.out];decide),hx,hr2]at h9;rw[←h9,Ch];rfl
    have Ff:=Aa hfin;have hl2:r2.l.length≤100000:=by rw[←hr2];exact Ao (XB r') XV.out
    have HL2:=Aa hl2;have cE:=zU b r' wr HR.out XV.out;unfold dQ at cE;rw[hx,hr2]at cE;clear hfin hx hr2 hl2;obtain⟨dn,es⟩:=x;simp only at cE;go_wp2_with (first
     | (go_at_call 176;refine cP.mono ?_;rintro e w2 ⟨rfl,rfl⟩)
     | (go_at_call 151;refine cE.mono ?_;rintro e w3 ⟨v9,rfl,H7,hr3,hg3⟩;obtain⟨a9,c9,FQ⟩:=Av H7;subst FQ;have HR3:=Aa hr3;have HG3:=Aa (Db HG.out hg3);have Jf:=Aa (aS hg3 (by omega) HO.out);have HZ3:Hid (ZL w3 B (xs++[(dn,.slice a9 es.length c9,es)])):=Aa (fun z hz=>(EI.1 hz).elim (fun h=>(HZK.out.rd hg3 (by omega)) z h) (fun h=>by obtain rfl:=Cn.1 h;exact Iz H7 (by have:=PN.out;omega)));have hs3:=hg3.size;clear hr3 hg3 H7)
     | (at_builtin;refine wpList_append_own _ rfl _ _ 237 rfl B 200 i0 (.agg #[.int .i64 0,.slice none 0 0]) 2 32 Tryz.underlying237 hi0 hz0 hz1 hz2 rfl (by decide) _ _ _ rfl (Jf.out.alloc _) ⟨w3.heap.size,0,none⟩ 1 1 [.int .i64 dn,.slice a9 es.length c9] rfl rfl ?c1 ?c2 ?c3 ?c4 ?c5 ?_))
    case c1 =>
     intro j u hj;rw[Addr.add_mid,AB _ _ _ _ _ _ (Ai _ _),Gh,Gp];exact hj
    case c2 =>
     intro u hu;simp at hu;rcases hu with rfl|rfl<;>rfl
    case c3=>have:=HN.out;unfold maxLen;omega
    case c4=>have:=HN.out;omega
    case c5=>have:=PN.out;simp;omega
    intro v' w4 hown' hgrow _;have hga:=FZ HG3.out (.cells #[.int .i64 dn,.slice a9 es.length c9] 200);have HG4:=Aa (OZ hga hgrow (fun g hg=>by rw[PN.out];exact(Jf.out.lt g hg).1));have HR4:Hid (Ej IR b r2.l r2.p w4):=Aa (OW (OW HR3.out (FY ((Ad _ _).alloc (Ae _) _) none) (by simp)) hgrow (fun e=>by have:=(Jf.out.lt b e).1;omega));have HZ4:=Aa ((HZ3.out.alloc (.cells #[.int .i64 dn,.slice a9 es.length c9] 200)).grown (Jf.out.alloc _) hgrow);have uq:=Aa hown';clear hown' hgrow hga;go_wp2;go_roundw
    case rel=>exact⟨xs++[(dn,.slice a9 es.length c9,es)],n,z-1,r2,by first|rfl|go_num,by have:=HZ.out;omega,by rw[FB,A7];exact uq.out,HZ4.out,HR4.out,HG4.out,by rw[List.map_append];exact Ff.out,by have:=HN.out;simp only[List.length_append,List.length_singleton];omega,HL2.out⟩
    case measure=>have:=HZ.out;simp[intOf];omega
theorem nM {ds:List (Int×List Br)}{i:Nat}{d:Int×List Br}(h:ds[i]?=some d):Qz (ds.take (i+1))=zJ (Qz (ds.take i)) d.1 (some d.2):=by
 rw[GQ h,Sq];rfl
theorem vE {ds:List (Int×List Br)}(hn:(ds.map Prod.fst).Nodup){i:Nat}{d:Int×List Br}(h:ds[i]?=some d):Qz (ds.take i) d.1=none:=by
 cases he:Qz (ds.take i) d.1 with
 | none=>rfl
 | some es =>
  have h1:=MX _ _ rfl he;obtain⟨j,hj⟩:=List.getElem?_of_mem h1;rw[JR]at hj;split at hj
  · rename_i hji;have e1:(ds.map Prod.fst)[j]?=some d.1:=by rw[GZ,hj];rfl
    have e2:(ds.map Prod.fst)[i]?=some d.1:=by rw[GZ,h];rfl
    have hjl:=(DL.1 e1).1;have:=(List.getElem?_inj hjl hn).1 (e1.trans e2.symm);omega
  · cases hj
theorem xq {B:Nat}{w:World}{mb n cnt:Nat}{F:Int→Option Value}{G:Cw}(h:Ik B w mb n F cnt G){x:Int}(hx:Hf x):(F x).isSome=(G x).isSome:=by
 have hg:=h.g x hx;cases hF:F x with
 | none=>rw[hF]at hg;rw[hg];rfl
 | some v =>
  rw[hF]at hg;obtain⟨l,g1,_⟩:=hg;rw[g1];rfl
theorem Wy {B:Nat}{a w w':World}{mb:Nat}(h:Below B a w)(ht:w.mapTurned w' mb)(hB:B≤mb)(hs:B≤w.heap.size):Below B a w':=by
 obtain⟨t1,t2,t3,t4,t5⟩:=OG ht;exact h.grown (row:=some mb) ⟨t3,t4,t5,Nat.le_of_eq t1.symm,fun k _ hn=>t2 k fun e=>hn (by rw[e])⟩ hs fun k hk=>by
  obtain rfl:=BS hk;exact hB
def XZ (zs:List ZD)(w:World)(e:Ending)(w':World):Prop:=
 ∃mb F cnt,e=.returned (.map (some mb))∧Ik 0 w' mb zs.length F cnt (Qz (zs.map zD))∧((zs.map Prod.fst).Nodup→cnt=zs.length)∧Below w.heap.size w w'
set_option maxHeartbeats 8000000 in
theorem sO (v:Value)(zs:List ZD)(B B0:Nat)(w:World)(hv:w.ownsRow B 200 2 v zs.length (zs.flatMap zC))(hz:ZL w B0 zs)(hk:∀z∈zs,Hf z.1)(hl:zs.length≤65535) :
 Calls Tryz.prog 149 #[v] w (XZ zs w):=by
 unfold XZ;obtain⟨a,cap,hvs⟩:=Av hv;subst hvs;obtain⟨n,hn⟩:∃n,zs.length=n:=⟨_,rfl⟩;have HN:=Aa hn;have HK:=Aa hk;have HV:=Aa hv;have HZ:=Aa hz;have HAT:Hid (∀(W:World) (i:Nat) (x:ZD),W.ownsRow B 200 2 (.slice a n cap) zs.length (zs.flatMap zC)→zs[i]?=some x→∃g off,a=some ⟨g,off,none⟩∧g<W.heap.size∧W.rangeAt g (off+i*2) (zC x)):=Aa fun W i x hW hi=>AL.at (AL.own (zH _) hW rfl) hi
 rw[hn]at hl ⊢;have hmm:=@run_makeMap Tryz.prog;have HM0:Hid (Ik 0 (w.alloc (.map #[] 0)) w.heap.size 0 (fun _=>none) 0 (Qz ((zs.map zD).take 0))):=Aa ⟨IV.made w,fun x hx=>by rw[List.take_zero];rfl,Nat.zero_le _⟩;have HB0:Hid (Below w.heap.size w (w.alloc (.map #[] 0))):=Aa ((Ad _ _).alloc (Ae _) _);rw[hn]at HV;clear hk hv hz;go_enter Tryz.func149,Tryz.ntmps149;go_wp2;generalize (w.alloc (.map #[] 0))=W1 at *;obtain⟨mb,hmb⟩:∃mb,w.heap.size=mb:=⟨_,rfl⟩;have HMB:=Aa hmb;rw[hmb]at HM0 HB0 ⊢;clear hmm hmb;go_loopw [9] (fun iv wr=>∃(i:Nat) (F:Int→Option Value) (cnt:Nat),i≤n∧iv=.int .i64 i∧Ik 0 wr mb i F cnt (Qz ((zs.map zD).take i))∧((zs.map Prod.fst).Nodup→cnt=i)∧Below mb w wr) (fun iv _=>n-(intOf iv).toNat)
 case atStart=>exact⟨0,_,0,by omega,rfl,HM0.out,fun _=>rfl,HB0.out⟩
 case round =>
  obtain⟨i,F,cnt,hi,rfl,hd,hc,hb⟩:=hrel;have HD:=Aa hd;have HC:=Aa hc;have HB:=Aa hb;have hbs:=hb.size;have hmw:mb≤wr.heap.size:=by have:=HMB.out;omega
  clear hd hc hb;by_cases him:i<n
  · have hiz:(i:Int)<(n:Int):=by omega
    have hi0:(0:Int)≤(i:Int):=by omega
    obtain⟨x,hx⟩:∃x,zs[i]?=some x:=⟨_,Co (by rw[HN.out];omega)⟩;have hbw:Below w.heap.size w wr:=by rw[HMB.out];exact HB.out
    have hVw:wr.ownsRow B 200 2 (.slice a n cap) zs.length (zs.flatMap zC):=by rw[HN.out];exact AV HV.out fun g hg=>hbw.block g (HV.out.lt g hg).2
    obtain⟨g,off,rfl,hg,hr⟩:=HAT.out wr i x hVw hx;have hxm:=CU hx;have hze:=(HZ.out.below hbw) x hxm;have h64:=HK.out x hxm;obtain⟨q,vq,es⟩:=x;have d0:wr.cell? ⟨g,off+i*2,none⟩=some (.int .i64 q):=hr 0 _ rfl;have d1:wr.cell? ⟨g,off+i*2+1,none⟩=some vq:=hr 1 _ rfl;simp only at hze h64;obtain⟨a9,c9,FQ⟩:=Av hze;subst FQ;have Rh:Below wr.heap.size wr (wr.alloc (.cells #[.int .i64 q,.slice a9 es.length c9] 200)):=(Ad _ _).alloc (Ae _) _;have hd5:=HD.out.hi (Hi.of_below (B:=0) Rh);have Aak:=hze.alloc (.cells #[.int .i64 q,.slice a9 es.length c9] 200);obtain⟨w6,hrun,hd6,hturn⟩:=hd5.set (show i<maxLen by unfold maxLen;omega) h64 (AL.own (Eb _) Aak rfl) (fun _ g hg=>⟨Nat.zero_le _,(Aak.lt g hg).2⟩);have hzd:(zs.map zD)[i]?=some (q,es):=by rw[GZ,hx];rfl
    have hc6:(zs.map Prod.fst).Nodup→(if(F q).isSome=true then cnt else cnt+1)=i+1:=fun hnd=>by
     have e1:=vE (ds:=zs.map zD) (by rw[List.map_map];exact hnd) hzd;rw[xq HD.out h64,e1,HC.out hnd];rfl
    rw[←nM hzd]at hd6;have HD6:=Aa hd6;have yl:=Aa hc6;have RJ:=Aa (Wy (HB.out.trans (Rh.mono hmw)) hturn (Ae _) (Ao hmw Rh.size));clear hd6 hc6 hturn hd5 hze Aak hzd Rh hr hxm hVw hx h64 hbw;go_wp2;go_roundw
    case rel=>exact⟨i+1,_,_,by omega,by first|rfl|go_num,HD6.out,yl.out,RJ.out⟩
    case measure=>simp[intOf];omega
  · have hiz:¬(i:Int)<(n:Int):=by omega
    obtain rfl:i=n:=by omega
    have HA:Hid ((zs.map zD).take i=zs.map zD):=Aa (CV (by rw[DW,HN.out];omega));rw[HA.out]at HD;go_wp2;go_ret;exact⟨mb,rfl,F,cnt,HD.out,HC.out,by rw[HMB.out];exact HB.out⟩
set_option maxHeartbeats 2000000 in
theorem Xj (s:ByteArray)(w:World) :
 Calls Tryz.prog 147 #[.string s] w fun e w'=>∃rb,e=.returned (DF rb)∧Ej IR rb s.data.toList false w'∧w.heap.size≤rb∧Below w.heap.size w w':=by
 have cR:=IA s w;go_enter Tryz.func147,Tryz.ntmps147;go_wp2_with (go_at_call 56;refine cR.mono ?_;rintro e w1 ⟨rfl,hb1⟩;have HB1:=Aa hb1;clear hb1);go_ret;exact⟨_,rfl,Ai _ _,HB1.out.size,HB1.out.alloc HB1.out.size _⟩
theorem kW (r:RS):Hf (KR r).1.1:=by
 have h1:=P7 2 r.l;show Hf (FD 2 r.l:Int)
 unfold Hf;omega
theorem dm (bs:List UInt8):∀d∈LK bs,Hf d.1:=by
 have h:=MZ (P:=fun d:Int×List Br=>Hf d.1) (R:=KR) XB bs.length (fun r _=>kW r);intro d hd;exact h _ _ (Ao (Fw 2 _) (Fw 8 _)) d hd
theorem kS (bs:List UInt8):(LK bs).length≤65535:=Yj _
theorem ll (bs:List UInt8):NI bs≤9223372036854775807:=by
 unfold NI RY wrap64;omega
def Uk (bs:List UInt8):Prop:=∀l nx,Aq l nx→nx≤9223372036854775807→bs≠BG l nx
def dS (bs:List UInt8)(w:World)(e:Ending)(w':World):Prop:=
 (e=.returned (.tuple #[.pointer none,.int .i64 2])∧Below w.heap.size w w'∧Uk bs) ∨
 (∃b A nx S,e=.returned (.tuple #[Ag b,.int .i64 0])∧Bl.Is w' b A nx S∧(∀k,S k→w.heap.size≤k)∧Below w.heap.size w w'∧BG A nx=bs∧nx≤9223372036854775807)
theorem wu {bs:List UInt8}(h:60000<bs.length):Uk bs:=fun l nx hg _ e=>by
 have:=Jm hg;rw[←e]at this;omega
theorem bG {zs:List ZD}{l:List Az}{nx:Int}(h:zs.map zD=AU l):(zs.map Prod.fst).Nodup∧zs.length=(AU l).length:=by
 have h1:=Gu (List.map Prod.fst) h;rw[List.map_map]at h1;unfold AU at h1;rw[List.map_map]at h1;have h2:zs.map Prod.fst=AR l:=by
  have e1:List.map (Prod.fst∘zD) zs=zs.map Prod.fst:=rfl;have e2:List.map (Prod.fst∘fun q=>(q,Ak l q)) (AR l)=AR l:=by simp[Function.comp_def]
  rw[e1,e2]at h1;exact h1
 refine⟨by rw[h2];exact J8 l,?_⟩;have:=Gu List.length h;rwa[DW]at this
theorem wo {bs:List UInt8}{zs:List ZD}{cnt:Nat}(hz:zs.map zD=LK bs)(hc:(zs.map Prod.fst).Nodup→cnt=zs.length)(hn:¬YL (Qz (zs.map zD)) (NI bs) cnt):Uk bs:=fun l nx hg hx e=>by
 obtain⟨h1,h2⟩:=YB hg hx;rw[←e]at h1 h2;rw[h2]at hz;obtain⟨k1,k2⟩:=bG (nx:=nx) hz;apply hn;rw[hz,h1,hc k1,k2];exact oP hg
theorem wm {bs:List UInt8}{zs:List ZD}(hz:zs.map zD=LK bs)(hn:BG (Fx (Qz (zs.map zD)) (NI bs)).2.1 (NI bs)≠bs):Uk bs:=fun l nx hg hx e=>by
 obtain⟨h1,h2⟩:=YB hg hx;rw[←e]at h1 h2;rw[h2]at hz;apply hn;obtain⟨l',e1,hg',ht⟩:=oO hg;rw[hz,h1,fu,e1,e];exact YY hg hg' ht
theorem lI {a b:List UInt8}(h:a≠b):((⟨a.toArray⟩:ByteArray).toList==(⟨b.toArray⟩:ByteArray).toList)=false:=by
 rw[Ba,ByteArray.toList_eq,ByteArray.toList_eq];exact h
set_option maxHeartbeats 8000000 in
theorem kZ (bs:List UInt8)(w:World)(hbs:bs.length≤9223372036854775807) :
 Calls Tryz.prog 104 #[.string ⟨bs.toArray⟩] w (dS bs w):=by
 unfold dS;have hsz:(⟨bs.toArray⟩:ByteArray).size=bs.length:=rfl;by_cases hlong:60000<bs.length
 · have hi:(60000:Int)<(bs.length:Int):=by omega
   have HN:=Aa (wu hlong);go_enter Tryz.func104,Tryz.ntmps104;go_wp2_with fail;go_ret2;exact Or.inl ⟨rfl,Ad _ _,HN.out⟩
 · have hi:¬(60000:Int)<(bs.length:Int):=by omega
   have hlen:bs.length≤60000:=by omega
   have HLEN:=Aa hlen;have cR:=Xj ⟨bs.toArray⟩ w;clear hlong hlen hbs;go_enter Tryz.func104,Tryz.ntmps104;go_upto_region 4 with(go_at_call 147;refine cR.mono ?_;rintro e w1 ⟨rb,rfl,hr1,hrb,hb1⟩;have HR1:=Aa hr1;have HB1:=Aa hb1;have uS:=Aa hrb;clear hr1 hb1 hrb);clear cR;have cN:=Jj rb 8 bs false w1 HR1.out (by omega) (by have:=HLEN.out;omega);obtain⟨r1,hr1⟩:∃r1,RS.num 8 ⟨bs,false⟩=r1:=⟨_,rfl⟩;have hl1:r1.l.length≤100000:=by
    rw[←hr1];exact Ao (Fw 8 _) (by have:=HLEN.out;show bs.length≤_;omega)
   have dz:Calls Tryz.prog 57 #[DF rb,.int .i64 8] w1 (Ew IR rb w1 r1.l r1.p (.int .i64 (NI bs))):=by
    rw[←hr1];exact cN
   unfold Ew at dz;clear cN;obtain⟨ck,hck⟩:∃ck,NI bs=ck:=⟨_,rfl⟩;have HCK:=Aa hck;rw[hck]at dz;have AcQ:=Aa hr1;clear hck hr1;go_upto_region 5 with(go_at_call 57;refine dz.mono ?_;rintro e w2 ⟨rfl,hr2,hg2⟩;have HR2:=Aa hr2;have HB2:=Aa (HB1.out.grown hg2 HB1.out.size (fun k hk=>by have:=BS hk;have:=uS.out;omega));clear hr2 hg2);clear dz;have cS:=zP rb r1 w2 HR2.out hl1;unfold dO AbP at cS;have cB:Hid (∀(v:Value) (zs:List ZD) (B B0:Nat) (W:World),W.ownsRow B 200 2 v zs.length (zs.flatMap zC)→ZL W B0 zs→zs.map zD=LK bs→Calls Tryz.prog 149 #[v] W (XZ zs W)):=Aa fun v zs B B0 W hv hz hm=>by
    refine sO v zs B B0 W hv hz (fun z hz'=>?_) ?_
    · exact dm bs (zD z) (by rw[←hm];exact List.mem_map_of_mem hz')
    · have:=kS bs;rw[←hm,DW]at this;exact this
   unfold XZ at cB;have cM:Hid (∀(W:World) (mb n cnt:Nat) (F:Int→Option Value) (zs:List ZD) (t:Bool),Ik 0 W mb n F cnt (Qz (zs.map zD))→zs.map zD=LK bs→(t=true↔YL (Qz (zs.map zD)) ck cnt)→Calls Tryz.prog 148 #[.int .i64 ck,.map (some mb)] W (PK (Qz (zs.map zD)) ck t W)):=Aa fun W mb n cnt F zs t hd hm ht =>
    Aad W mb n cnt F _ ck hd.at' hd.f (by rw[hm];exact aN bs (by have:=HLEN.out;omega)) t ht
   unfold PK at cM;have HDR:Hid ((Nq KR r1).1=LK bs):=Aa (by rw[←AcQ.out];rfl);rw[HDR.out]at cS;go_wp2_with (first
    | (go_at_call 150;refine cS.mono ?_;rintro e w3 ⟨v3,zs,rfl,ho3,hz3,hm3,_,hg3⟩;have Jf:=Aa ho3;have HZ3:=Aa hz3;have HM3:=Aa hm3;have HB3:=Aa (HB2.out.grown hg3 HB2.out.size (fun k hk=>by have:=BS hk;have:=uS.out;omega));clear ho3 hz3 hm3 hg3;have cBB:=cB.out v3 zs _ _ w3 Jf.out HZ3.out HM3.out;obtain⟨a3,c3,hv3⟩:=Av Jf.out;subst hv3)
    | (go_at_call 149;refine cBB.mono ?_;rintro e w4 ⟨mb,F,cnt,rfl,hd4,hc4,hb4⟩;have HD4:=Aa hd4;have HC4:=Aa hc4;have LY:=Aa (HB3.out.trans (hb4.mono HB3.out.size));clear hd4 hc4 hb4;obtain⟨t,ht⟩:∃t:Bool,t=true↔YL (Qz (zs.map zD)) ck cnt:=(Classical.em (YL (Qz (zs.map zD)) ck cnt)).elim (fun h=>⟨true,by simp[h]⟩) (fun h=>⟨false,by simp[h]⟩);have HT:=Aa ht;have cMM:=cM.out w4 mb _ cnt F zs t HD4.out HM3.out ht;clear ht))
   have Ac9:True:=trivial;cases t with
   | false =>
    refine cMM.mono ?_;rintro e w5 ⟨hno,_⟩;obtain⟨rfl,hb5⟩:=hno rfl;have I4:=Aa (LY.out.trans (hb5.mono LY.out.size));have Z9:Hid (Uk bs):=Aa (wo HM3.out HC4.out (by rw[HCK.out];intro h;have:=HT.out.2 h;cases this));clear hb5 hno cMM cBB cS;go_wp2;go_ret2;exact Or.inl ⟨rfl,I4.out,Z9.out⟩
   | true =>
    refine cMM.mono ?_;rintro e w5 ⟨_,Abm⟩;obtain⟨tb,S,rfl,hi5,hf5,hb5⟩:=Abm rfl;have HI5:=Aa hi5;have l7:Hid (∀k,S k→w.heap.size≤k):=Aa fun k hk=>Ao LY.out.size (hf5 k hk)
    have I4:=Aa (LY.out.trans (hb5.mono LY.out.size));have Aax:ck≤9223372036854775807:=by rw[←HCK.out];exact ll bs
    have eB:=Aa Aax;have cE:=Pn hi5 Aax;clear Abm hi5 hf5 hb5 Aax cMM cBB cS;obtain⟨L,hL⟩:∃L,BG (Fx (Qz (zs.map zD)) ck).2.1 ck=L:=⟨_,rfl⟩;have HL:=Aa hL;rw[hL]at cE;by_cases heq:L=bs
    · subst heq;clear hL;go_wp2_with (go_at_call 72;refine cE.mono ?_;rintro e w6 ⟨rfl,hb6⟩;have RJ:=Aa hb6;clear hb6);go_ret2;exact Or.inr ⟨tb,_,ck,S,rfl,Bl.below HI5.out RJ.out,l7.out,I4.out.trans (RJ.out.mono I4.out.size),HL.out,eB.out⟩
    · have hne:=lI heq;have hne2:(L==bs)=false:=Ba.2 heq;have Z9:Hid (Uk bs):=Aa (wm HM3.out (by rw[HCK.out,hL];exact heq));clear hL;go_wp2_with (go_at_call 72;refine cE.mono ?_;rintro e w6 ⟨rfl,hb6⟩;have RJ:=Aa hb6;clear hb6);go_ret2;exact Or.inl ⟨rfl,I4.out.trans (RJ.out.mono I4.out.size),Z9.out⟩
end Go.Proofs.YtdmkhmeaphaapaaGreat
