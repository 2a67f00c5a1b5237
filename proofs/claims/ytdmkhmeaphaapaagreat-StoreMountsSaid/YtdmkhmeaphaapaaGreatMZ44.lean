/- Kit. -/
import Derived.Test.YtdmkhmeaphaapaaGreatMZ43
import Derived.Test.YtdmkhmeaphaapaaGreatMZ36
import Derived.Test.YtdmkhmeaphaapaaGreatMZ0
import Derived.Test.YtdmkhmeaphaapaaGreatRows
import Derived.WalkKit
import Derived.ProofKit
import Derived.OpenShut
import Derived.Test.YtdmkhmeaphaapaaGreatMZ20
import Derived.ChangeArms
import Derived.ChangeSlices
import Derived.SliceStrings
import Derived.ChangeMaps5
import Derived.Deep.Slices
import Derived.Carry
import Derived.Test.YtdmkhmeaphaapaaGreatMZ35
import Derived.Test.YtdmkhmeaphaapaaGreatMZ24
import Derived.Test.YtdmkhmeaphaapaaGreatMZ26
set_option maxRecDepth 100000
set_option linter.unusedVariables false
set_option linter.unusedSimpArgs false
namespace Go.Proofs.YtdmkhmeaphaapaaGreat
open Go.RowKit Go.Sort
section
variable {B b sb n:Nat}{rm:Int}{O:TI→Prop}{lm:Bool}{E:Nat}{t:TI}{w w':World}
theorem SL.off (h:SL w B b sb n t rm O lm E)(ho:V.Off Nj w w'):SL w' B b sb n t rm O lm E:=by
 obtain⟨X,h1,h2⟩:=h;exact⟨X,h1.off ho,h2.keep (EB.Aav ho)⟩
theorem SL.te (h:SL w B b sb n t rm O lm E):TN w sb t.1 t.2:=by
 obtain⟨X,h1,h2⟩:=h;obtain⟨F,S,A,img,rv,hv,_⟩:=h1.at;exact h2.te hv
theorem sW (h:SL w B b sb n t rm O lm E):Calls Tryz.prog 20 #[Aj sb] w fun e w'=>∃tb S,e=.returned (Aj tb)∧Bp.Is w' tb t.1 t.2 S∧(∀k,S k→w.heap.size≤k)∧Below w.heap.size w w':=by
 have cC:=xe.clone h.te;clear h;go_enter Tryz.func20,Tryz.ntmps20;go_wp2_with (go_at_call 35;refine cC.mono ?_;rintro e w1 ⟨tb,S,rfl,hi,hs,hb⟩;have HI:=Aa hi;have HS:=Aa hs;have HB:=Aa hb;clear hi hs hb);go_ret
 first|exact⟨tb,S,rfl,HI.out,HS.out,HB.out⟩|exact⟨tb,rfl,S,HI.out,HS.out,HB.out⟩|exact⟨tb,rfl,⟨S,HI.out,HS.out⟩,HB.out⟩
theorem tu (h:SL w B b sb n t rm O lm E):Calls Tryz.prog 18 #[Aj sb] w fun e w'=>e=.returned (.int .i64 rm)∧Below w.heap.size w w':=by
 obtain⟨X,hV,_⟩:=h;have cC:=sO hV;clear hV;go_enter Tryz.func18,Tryz.ntmps18;go_wp2_with (go_at_call 43;refine cC.mono ?_;rintro e w1 ⟨rfl,hb⟩;have HB:=Aa hb;clear hb);go_ret;exact⟨rfl,HB.out⟩
theorem XG (o:Bool)(hc:Calls Tryz.prog 32 #[Aj sb] w fun e w'=>e=.returned (.bool o)∧w'=w):Calls Tryz.prog 12 #[Aj sb] w fun e w'=>e=.returned (.bool o)∧Below w.heap.size w w':=by
 go_enter Tryz.func12,Tryz.ntmps12;go_wp2_with (go_at_call 32;refine hc.mono ?_;rintro e w1 ⟨rfl,rfl⟩);go_ret;exact⟨rfl,Ad _ _⟩
theorem XF {Q:Int→World→Prop}(hc:Calls Tryz.prog 33 #[Aj sb] w fun e w'=>∃q:Int,e=.returned (.int .i64 q)∧Q q w'):Calls Tryz.prog 13 #[Aj sb] w fun e w'=>∃q:Int,e=.returned (.int .i64 q)∧Q q w':=by
 go_enter Tryz.func13,Tryz.ntmps13;go_wp2_with (go_at_call 33;refine hc.mono ?_;rintro e w1 ⟨q,rfl,hq⟩;have HQ:=Aa hq;clear hq);go_ret;exact⟨q,rfl,HQ.out⟩
theorem nZ:(BI [] 1).length≤62:=by decide +kernel
set_option maxHeartbeats 2000000 in
theorem fT (hd:V.Dev B w b (V.Ho n))(h4:4≤n)(hn:n≤400)(hB:B≤w.heap.size) :
 Calls Tryz.prog 29 #[Aj b] w fun e w'=>e=.returned (.int .i64 0)∧zA w' B b n ([],1) (((n/2:Nat):Int)-2) 1∧Below B w w'∧Be w w':=by
 have cN:=Bp.new w;have CE:Hid (∀W bt S,Bp.Is W bt [] 1 S→Calls Tryz.prog 72 #[Aj bt] W fun e w'=>e=.returned (.string ⟨(BI [] 1).toArray⟩)∧Below W.heap.size W w'):=Aa fun W bt S h=>O6 h (by decide)
 have hl:=nZ;have hp:=Yo [] 1;have hsz:=size_bytes (BI [] 1);have CF:Hid (∀W,Below w.heap.size w W→Calls Tryz.prog 71 #[Aj b,.string ⟨(BI [] 1).toArray⟩] W fun e w'=>e=.returned (.int .i64 0)∧zA w' B b n ([],1) (((n/2:Nat):Int)-2) 1∧Below B w w'∧Be w w'):=Aa fun W hW=>by
  have hfr:((⟨(BI [] 1).toArray⟩:ByteArray).size+61)/62=1:=by rw[hsz];omega
  have hfit:V.Cu (n/2) 1 ⟨(BI [] 1).toArray⟩=0:=by
   rw[WW (by rw[hsz];exact hp) (by rw[hsz];omega),if_neg (by rw[hfr];omega)]
  refine(V.oQ (h:=n/2) ⟨(BI [] 1).toArray⟩ (hd.below hW) (V.Aa0 n hn) rfl hn (by rw[hsz];omega) (Al hB hW.size)).mono ?_;rintro e w' ⟨q,rfl,hb,ho,hx⟩;rcases hx with⟨h1,_⟩|⟨_,h1,h3,_⟩|⟨_,h1,_,st',h3,hL,_⟩
  · omega
  · rw[hfit]at h3;exact absurd h3.symm h1
  · refine⟨by rw[h1],⟨false,⟨(BI [] 1).toArray⟩,[],st',h3,hL.kn rfl,Cg.own NN (by decide),?_⟩,(hW.mono hB).trans hb,(Be.Ar hW).trans (Ou ho)⟩;rw[V.Jq,V.Pb,hfr];omega
 generalize (⟨(BI [] 1).toArray⟩:ByteArray)=s at *;clear hd hl hp hsz;go_enter Tryz.func29,Tryz.ntmps29;go_wp2_with (first
  | (go_at_call 73;refine cN.mono ?_;rintro e w1 ⟨bt,S,rfl,hi,hs,hb1⟩;have HI:=Aa hi;have HB1:=Aa hb1;clear hi hs hb1)
  | (go_at_call 72;refine(CE.out _ _ _ HI.out).mono ?_;rintro e w2 ⟨rfl,hb2⟩;have HB2:=Aa (HB1.out.trans (hb2.mono HB1.out.size));clear hb2)
  | (go_at_call 71;refine(CF.out _ HB2.out).mono ?_;rintro e w3 ⟨rfl,hk⟩;have HK:=Aa hk;clear hk))
 go_ret;exact⟨rfl,HK.out⟩
theorem Xc {img:ByteArray}{rs:List ByteArray}(hm:Cg (bl img) (rs.map bl) t)(ht:t.2≤9223372036854775000):∀A:TI,Cq A→A.2≤9223372036854775807→BI A.1 A.2=bl img→A.2≤9223372036854775000:=fun A h1 h2 h3=>by
 have:=hm.GL A h1 h2 h3;omega
theorem ZK {W W':World}{v:Value}{l:List ByteArray}(h:V.Cw B W v l)(ho:V.Gj W.heap.size W W'):V.Cw B W' v l:=by
 rcases h with h|⟨g,off,cap,cur,hv,hB,h1,h2,hg,h3,h4⟩
 · exact Or.inl h
 · exact Or.inr ⟨g,off,cap,cur,hv,hB,h1,h2,ho _ (by decide) _ _ _ (Ab hg) hg,h3,h4⟩
theorem lU (h:SL w B b sb n t rm O false E)(ht:t.2≤9223372036854775000)(hB:B≤w.heap.size) :
 Calls Tryz.prog 27 #[Aj b] w fun e w'=>∃kr t',e=.returned (.tuple #[Aj kr,.int .i64 0])∧SL w' B b sb n t rm (CG t) false E∧SL w' B b kr n t' rm (CG t') false E∧CG t t'∧Below B w w'∧Be w w':=by
 obtain⟨X,⟨h',k,A,img,rs,r1,r2,st,rv,a1,rfl,hne,hm,hrm,hO⟩,hT⟩:=h;have hA:=a1.live.end_;refine(OQ a1.dev (a1.live.kn rfl) (Xc hm ht) hB).mono ?_;rintro e w' ⟨⟨⟨hb,hs,ho⟩,st',hd',hl'⟩,⟨rfl,hno⟩|⟨kr,rfl,t',hm',hL'⟩⟩
 · exact absurd hm (hno t)
 · rw[←hA]at hl' hL';refine⟨kr,t',rfl,⟨X,⟨n/2,k,A,img,rs,img::rs,[],st',rv,⟨hl',hd',ho _ (by decide) _ _ _ (Ab a1.KW) a1.KW,ZK a1.row ho,a1.hvb⟩,rfl,by simp,hm,hrm,fun u hu=>Pn.all rfl hm u hu⟩,hT.II hs⟩,?_,hm.one hm',hb,hs⟩;rw[hrm];exact hL'
theorem lJ {t0:TI}(h:zA w B b n t0 rm E)(ht:t0.2≤9223372036854775000)(hB:B≤w.heap.size) :
 Calls Tryz.prog 27 #[Aj b] w fun e w'=>∃sb t',e=.returned (.tuple #[Aj sb,.int .i64 0])∧SL w' B b sb n t' rm (CG t') false E∧CG t0 t'∧Below B w w'∧Be w w':=by
 obtain⟨k,img,rs,st,hd,hk,hm,hrm⟩:=h;refine(OQ hd hk (Xc hm ht) hB).mono ?_;rintro e w' ⟨⟨⟨hb,hs,ho⟩,_⟩,⟨rfl,hno⟩|⟨kr,rfl,t',hm',hL'⟩⟩
 · exact absurd hm (hno t0)
 · exact⟨kr,t',rfl,by rw[hrm];exact hL',hm.one hm',hb,hs⟩
end
def lh:qG where
 Live:=fun w B b sb n t rm O lm E=>SL w B b sb n t rm O lm E
 Over:=fun w B b sb n O E=>SD w B b sb n O E
 Kn:=fun w B b n t rm E=>zA w B b n t rm E
 good:=by
  rintro w B b sb n t rm O lm E ⟨X,h,_⟩;exact h.good
 off:=by
  rintro w w' B b sb n t rm O lm E h ho _;exact SL.off h ho
 Abp:=by
  rintro w w' B b sb n O E ⟨X,h⟩ ho _;exact⟨X,h.off ho⟩
 weak:=by
  rintro w B b sb n t rm O O' lm E ⟨X,h,hT⟩ hO;exact⟨X,h.weak hO,hT⟩
 Aam:=by
  rintro w B b sb n O O' E ⟨X,h⟩ hO;exact⟨X,h.weak hO⟩
 format:=by
  rintro w B b n hd h4 hn hB;exact fT hd h4 hn hB
 mount:=by
  rintro w B b n t rm E h ht hB;exact lJ h ht hB
 again:=by
  rintro w B b sb n t rm O E h ht hB;exact lU h ht hB
 kn:=by
  rintro w B b sb n t rm O E ⟨X,h,_⟩;obtain⟨k,img,rs,st,h1,h2,h3,_⟩:=h.kn;exact⟨k,img,rs,st,t,h1,h2,h3,CG.refl t⟩
 dK:=by
  rintro w B b n k E img rs st t hd hk hm ht hB;refine(OQ hd hk (Xc hm ht) hB).mono ?_;rintro e w' ⟨⟨⟨hb,hs,ho⟩,_⟩,⟨rfl,hno⟩|⟨kr,rfl,t',hm',hL'⟩⟩
  · exact absurd hm (hno t)
  · exact⟨kr,t',_,rfl,hL',hm.one hm',hb,hs⟩
 dL:=by
  rintro w B b n k E img rs st hd hk hno hck hB;refine(OQ hd hk hck hB).mono ?_;rintro e w' ⟨⟨⟨hb,hs,ho⟩,_⟩,⟨rfl,_⟩|⟨kr,rfl,t',hm',hL'⟩⟩
  · exact⟨rfl,hb,hs⟩
  · exact absurd hm' (hno t')
 tree:=by
  rintro w B b sb n t rm O lm E h;exact sW h
 room:=by
  rintro w B b sb n t rm O lm E h;exact tu h
 over:=by
  rintro w B b sb n t rm O lm E ⟨X,h,_⟩;exact XG false (VV h)
 Aat:=by
  rintro w B b sb n O E ⟨X,h⟩;exact XG true (bQ h)
 sync:=by
  rintro w B b sb n t rm O lm E ⟨X,h,hT⟩ hB;refine(XF (sN h hB)).mono ?_;rintro e w' ⟨q,rfl,⟨hb,hs⟩,⟨rfl,hv⟩|⟨rfl,hl,hv⟩⟩
  · exact⟨hb,hs,Or.inl ⟨rfl,X,hv,hT.II hs⟩⟩
  · exact⟨hb,hs,Or.inr ⟨hl,rfl,X,hv⟩⟩
 Aao:=by
  rintro w B b sb n O E ⟨X,h⟩ hB;refine(XF (Q:=fun q w'=>q=13∧Below w.heap.size w w') ((sP h).mono fun e w' ⟨h1,h2⟩=>⟨13,h1,rfl,h2⟩)).mono ?_;rintro e w' ⟨q,rfl,rfl,hb⟩;exact⟨rfl,hb⟩
 do':=by
  rintro w B b sb n t rm O lm E x h hs hns ht hE hB;by_cases hm:May x
  · exact zi x h hm ht hE hB
  · exact Aa2 x h hm hB
 doO:=by
  rintro w B b sb n O E x h hB;exact jk x h
 cut:=by
  rintro w B b sb n t rm O lm E N ⟨X,h,hT⟩ h1 h2;refine(h.cut h1 h2).mono ?_;rintro e w' ⟨he,hv,hb,hs⟩;exact⟨he,⟨X,hv,hT.II hs⟩,hb,hs⟩
 AbS:=by
  rintro w B b sb n O E N ⟨X,h⟩ h1 h2;refine(h.cut h1 h2).mono ?_;rintro e w' ⟨he,hv,hb,hs⟩;exact⟨he,⟨X,hv⟩,hb,hs⟩
 I1:=by
  rintro w B b sb n t rm O lm E v l ⟨X,h,hT⟩ hv hl hB;exact h.I1 v l hv hl hB
 lY:=by
  rintro w B b sb n O E v l ⟨X,h⟩ hv hl hB;exact h.I1 v l hv hl hB
end Go.Proofs.YtdmkhmeaphaapaaGreat
namespace Go.Proofs.YtdmkhmeaphaapaaGreat
theorem own:ownKnob Tryz.prog.godebug=none:=by kernel_rfl
end Go.Proofs.YtdmkhmeaphaapaaGreat
namespace Go.Proofs.YtdmkhmeaphaapaaGreat
open Go.ChangeShapes Go.WideShapes Go.ChangeAt Go.RowKit Go.Lib
theorem laidOut:laidOutB Tryz.prog=true:=by kernel_rfl
theorem MX:Tryz.prog.cellsOf 3=1:=by kernel_rfl
theorem aN:Tryz.prog.cellsOf 4=1:=by kernel_rfl
theorem Qb:Tryz.prog.cellsOf 9=1:=by kernel_rfl
theorem YX:Tryz.prog.cellsOf 38=7:=by kernel_rfl
def Abn (o:De):Prop:=o.s.size≤9223372036854775807∧o.ns.size≤9223372036854775807
section
variable {H:Type}{enc:TypeId×Value→H}{W:World}{base:Nat}
theorem vN {v:Value}{d:DataW H}{p:List MemPlace}(hval:Value.okWide Tryz.prog W .any base 53 v)
 (h:DataW.Trod enc Tryz.prog W 0 (fun _=>true) true 53 v d p) (hlt:∀x∈p,x.block<W.heap.size) :
 ∃l,wD W v l∧(l.length≤9223372036854775807∧∀o∈l,Abn o):=by
 obtain⟨a0,len,cap,rfl⟩:=okWide_slice Tryz.underlying53 hval;obtain⟨fuel,hf⟩:=h;rcases Go.Deep.open_slice Tryz.underlying53 hf with⟨hcs,_⟩|⟨a,len',cap',m,n,D,Pl,hcs,_,hl,hm,hmm,hx,hel⟩
 · simp[Value.cells]at hcs;obtain⟨rfl,rfl,rfl⟩:=hcs;exact⟨[],Or.inl ⟨rfl,none,0,rfl⟩,by simp,fun q hq=>by cases hq⟩
 · simp[Value.cells]at hcs;obtain⟨rfl,rfl,rfl⟩:=hcs;simp only[if_true]at hmm;subst hmm;have hp:p=MemPlace.row a (m*Tryz.prog.cellsOf 38)++(List.range m).flatMap Pl:=Gu Prod.snd hx;have each:∀i,i<m→∃o:De,W.cell? (a.add (i*7))=some (.int .i64 o.k)∧W.cell? (a.add (i*7+1))=some (.int .i64 o.d)∧W.cell? (a.add (i*7+2))=some (.int .i64 o.dt)∧W.cell? (a.add (i*7+3))=some (.string o.s)∧W.cell? (a.add (i*7+4))=some (.string o.ns)∧W.cell? (a.add (i*7+5))=some (.bool o.Ba)∧W.cell? (a.add (i*7+6))=some (.int .i64 o.sh)∧Abn o:=by
    intro i hi;obtain⟨cs',h1,h2⟩:=hel i hi;rw[YX]at h1;obtain⟨_,hlen,hcell⟩:=World.cells?_some h1;obtain⟨xs,k,_,hxy,_,hxl,hg⟩:=DataW.trod_struct Tryz.underlying38 h2
    match xs,hxl,cs',hlen with
    | [x0,x1,x2,x3,x4,x5,x6],_,[v0,v1,v2,v3,v4,v5,v6],_ =>
     have g0:DataW.trod enc Tryz.prog W 0 (fun _=>true) true k 3 (([v0,v1,v2,v3,v4,v5,v6].drop 0).take (Tryz.prog.cellsOf 3))=some x0:=hg 0 _ rfl;have g1:DataW.trod enc Tryz.prog W 0 (fun _=>true) true k 3 (([v0,v1,v2,v3,v4,v5,v6].drop 1).take (Tryz.prog.cellsOf 3))=some x1:=hg 1 _ rfl;have g2:DataW.trod enc Tryz.prog W 0 (fun _=>true) true k 3 (([v0,v1,v2,v3,v4,v5,v6].drop 2).take (Tryz.prog.cellsOf 3))=some x2:=hg 2 _ rfl;have g3:DataW.trod enc Tryz.prog W 0 (fun _=>true) true k 9 (([v0,v1,v2,v3,v4,v5,v6].drop 3).take (Tryz.prog.cellsOf 9))=some x3:=hg 3 _ rfl;have g4:DataW.trod enc Tryz.prog W 0 (fun _=>true) true k 9 (([v0,v1,v2,v3,v4,v5,v6].drop 4).take (Tryz.prog.cellsOf 9))=some x4:=hg 4 _ rfl;have g5:DataW.trod enc Tryz.prog W 0 (fun _=>true) true k 4 (([v0,v1,v2,v3,v4,v5,v6].drop 5).take (Tryz.prog.cellsOf 4))=some x5:=hg 5 _ rfl;have g6:DataW.trod enc Tryz.prog W 0 (fun _=>true) true k 3 (([v0,v1,v2,v3,v4,v5,v6].drop 6).take (Tryz.prog.cellsOf 3))=some x6:=hg 6 _ rfl;rw[MX]at g0;rw[MX]at g1;rw[MX]at g2;rw[Qb]at g3;rw[Qb]at g4;rw[aN]at g5;rw[MX]at g6;obtain⟨q0,hq0,_,w0⟩:=DataW.trod_int Tryz.underlying3 g0;obtain⟨q1,hq1,_,w1⟩:=DataW.trod_int Tryz.underlying3 g1;obtain⟨q2,hq2,_,w2⟩:=DataW.trod_int Tryz.underlying3 g2;obtain⟨q3,hq3,_,w3⟩:=DataW.trod_string Tryz.underlying9 g3;obtain⟨q4,hq4,_,w4⟩:=DataW.trod_string Tryz.underlying9 g4;obtain⟨q5,Ue,_⟩:=DataW.trod_bool Tryz.underlying4 g5;obtain⟨q6,wN,_,w6⟩:=DataW.trod_int Tryz.underlying3 g6;injection hq0 with hq0 _;injection hq1 with hq1 _;injection hq2 with hq2 _;injection hq3 with hq3 _;injection hq4 with hq4 _;injection Ue with Ue _;injection wN with wN _;subst hq0 hq1 hq2 hq3 hq4 Ue wN;have e0:=hcell 0 (by omega);have e1:=hcell 1 (by omega);have e2:=hcell 2 (by omega);have e3:=hcell 3 (by omega);have e4:=hcell 4 (by omega);have e5:=hcell 5 (by omega);have e6:=hcell 6 (by omega);rw[Go.Deep.add_add]at e0 e1 e2 e3 e4 e5 e6;have r3:q3.size≤9223372036854775807:=by
      have hx:=w3;unfold maxLen at hx;omega
     have r4:q4.size≤9223372036854775807:=by
      have hx:=w4;unfold maxLen at hx;omega
     exact⟨⟨q0,q1,q2,q3,q4,q5,q6⟩,e0,e1,e2,e3,e4,e5,e6,r3,r4⟩
   obtain⟨q,hq⟩:=Go.Deep.choose_lt each;have hlen:((List.range len).map q).length=len:=by simp
   refine⟨(List.range len).map q,?_,by rw[hlen];unfold maxLen at hm;omega,fun r hr=>?_⟩
   · by_cases hl0:len=0
     · subst hl0;exact Or.inl ⟨rfl,some a,m,rfl⟩
     · obtain⟨b,off,spot⟩:=a;have hspot:spot=none:=by simpa[Addr.add]using World.cell?_spot (hq 0 (by omega)).1
       subst hspot;have hbW:b<W.heap.size:=hlt (.cell b off) (by
        rw[hp,YX];exact List.mem_append_left _ (MemPlace.mem_row.2 ⟨0,by omega,by simp⟩))
       refine Or.inr ⟨b,off,m,hbW,by rw[hlen],fun j o hj=>?_⟩;have hjl:j<len:=by
        have:=(Ed.1 hj).1;rwa[hlen]at this
       have ho:q j=o:=by
        rw[Hl,List.getElem?_range hjl]at hj;exact Cm hj
       obtain⟨e0,e1,e2,e3,e4,e5,e6,_⟩:=hq j (by omega);rw[ho]at e0 e1 e2 e3 e4 e5 e6;rw[Addr.add_mid]at e0 e1 e2 e3 e4 e5 e6;intro z x hz;rcases z with _ | _ | _ | _ | _ | _ | _|z
       all_goals first|(obtain rfl:=Cm hz;assumption)|(cases hz)
   · obtain⟨i,hi,rfl⟩:=Cy.1 hr;exact(hq i (by have:=List.mem_range.1 hi;omega)).2.2.2.2.2.2.2
end
instance:Inhabited OpX:=⟨⟨OP,false,false,0,false,.pointer none,[]⟩⟩
section
variable {H:Type}{enc:TypeId×Value→H}{W:World}{base:Nat}
theorem fP {fuel:Nat}{v:Value}{x:DataW H×List MemPlace}(hf:DataW.trod enc Tryz.prog W base (fun _=>true) true fuel 59 [v]=some x)(hlt:∀y∈x.2,y.block<W.heap.size) :
 ∃l,V.DL W v l∧l.length≤9223372036854775807∧∀s∈l,s.size≤9223372036854775807:=by
 rcases open_strings Tryz.underlying59 Tryz.underlying9 Qb hf with⟨hcs,hx⟩|⟨a,len',cap',ss,hcs,_,hl,hm,hz,hx,hcell,hsz⟩
 · injection hcs with hcs _;subst hcs;exact⟨[],Or.inl ⟨rfl,none,0,rfl⟩,by simp,fun s hs=>by cases hs⟩
 · injection hcs with hcs _;subst hcs;subst hx;simp only[if_true]at hz;have hlen:(ss.take len').length=len':=by rw[BV];omega
   refine⟨ss.take len',?_,by rw[hlen];unfold maxLen at hm;omega,fun s hs=>by
    have:=hsz s (List.mem_of_mem_take hs);unfold maxLen at this;omega⟩
   by_cases hl0:len'=0
   · subst hl0;exact Or.inl ⟨rfl,some a,cap',rfl⟩
   · obtain⟨b,off,spot⟩:=a;have hspot:spot=none:=by simpa[Addr.add]using World.cell?_spot (hcell 0 (by omega))
     subst hspot;have hbW:b<W.heap.size:=hlt (.cell b off) (MemPlace.mem_row.2 ⟨0,by omega,by simp⟩);refine Or.inr ⟨b,off,cap',hbW,by rw[hlen],fun j s hj=>?_⟩;rw[Jh]at hj;split at hj
     case isFalse=>cases hj
     have:=hcell j (by omega);rw[Addr.add_mid]at this;rw[this,FK,hj];rfl
theorem bf {v:Value}{d:DataW H}{p:List MemPlace}(hval:Value.okWide Tryz.prog W .any base 59 v)
 (h:DataW.Trod enc Tryz.prog W 0 (fun _=>true) true 59 v d p) (hlt:∀x∈p,x.block<W.heap.size) :
 ∃l,V.DL W v l∧l.length≤9223372036854775807∧∀s∈l,s.size≤9223372036854775807:=by
 obtain⟨a0,len,cap,rfl⟩:=okWide_slice Tryz.underlying59 hval;obtain⟨fuel,hf⟩:=h;exact fP hf hlt
end
end Go.Proofs.YtdmkhmeaphaapaaGreat
