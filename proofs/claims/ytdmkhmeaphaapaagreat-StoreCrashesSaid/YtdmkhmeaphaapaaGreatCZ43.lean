/- Kit. -/
import Derived.Test.YtdmkhmeaphaapaaGreatCZ41
import Derived.Test.YtdmkhmeaphaapaaGreatCZ42
import Derived.Test.YtdmkhmeaphaapaaGreatCZ18
import Derived.Test.YtdmkhmeaphaapaaGreatCZ0
import Derived.Test.YtdmkhmeaphaapaaGreatCZ35
import Derived.Great.FillDense
import Derived.StillTailTactics
import Derived.Deep.MidRow
import Derived.Test.YtdmkhmeaphaapaaGreatCZ40
import Derived.Test.YtdmkhmeaphaapaaGreatRows
import Derived.WalkKit
import Derived.ProofKit
import Derived.OpenShut
import Derived.Test.YtdmkhmeaphaapaaGreatCZ20
import Derived.ChangeArms
import Derived.ChangeSlices
import Derived.SliceStrings
import Derived.ChangeMaps5
import Derived.Deep.Slices
import Derived.Carry
import Derived.Test.YtdmkhmeaphaapaaGreatCZ36
import Derived.Test.YtdmkhmeaphaapaaGreatCZ24
import Derived.Test.YtdmkhmeaphaapaaGreatCZ26
set_option maxRecDepth 100000
set_option linter.unusedVariables false
set_option linter.unusedSimpArgs false
namespace Go.Proofs.YtdmkhmeaphaapaaGreat
open Go.RowKit Go.Sort
def I7 (t:TI)(L:List UInt8):TI×Int:=if(Fh L).2=0 then((EM t.1 t.2 (Fh L).1).1,(EM t.1 t.2 (Fh L).1).2.2) else(t,2)
def PZ:TI→List (List UInt8)→Option TI
 | t,[]=>some t
 | t,L::r=>if(I7 t L).2=0 then PZ (I7 t L).1 r else none
theorem su {L:List UInt8}(h:(Fh L).2=0):May (Fh L).1∧Ac (Fh L).1=L:=by
 unfold Fh at h ⊢;split
 · assumption
 · rename_i hc;rw[if_neg hc]at h;exact absurd h (by decide)
theorem xN {x:De}(h:May x):Fh (Ac x)=(x,0):=by
 have hd:Pq (Ac x)=x:=by
  have h1:=Ol x h [];rwa[Cz]at h1
 unfold Fh;rw[hd,if_pos ⟨h,rfl⟩]
theorem jl (t:TI)(L:List UInt8):t.2≤(I7 t L).1.2∧(I7 t L).1.2≤t.2+1:=by
 unfold I7;split
 · exact Pt t _
 · exact⟨Int.le_refl _,by show t.2≤t.2+1;omega⟩
theorem Vk {x:De}(h:May x)(t:TI):I7 t (Ac x)=((EM t.1 t.2 x).1,(EM t.1 t.2 x).2.2):=by
 unfold I7;rw[xN h,if_pos rfl]
theorem SA:∀(ds:List De) (t:TI),(∀x∈ds,May x)→PZ t (ds.map Ac)=Jw t ds
 | [],t,_=>rfl
 | x::ds,t,h=>by
  rw[List.map_cons];unfold PZ;rw[Vk (h x (List.mem_cons_self ..)),Ji,SA ds _ (fun y hy=>h y (List.mem_cons_of_mem _ hy))]
theorem Vg:∀{rs:List (List UInt8)} {t u:TI},PZ t rs=some u→∃ds:List De,rs=ds.map Ac∧(∀x∈ds,May x)∧Jw t ds=some u
 | [],t,u,h=>⟨[],rfl,fun x hx=>(by cases hx),h⟩
 | L::rs,t,u,h=>by
  unfold PZ at h;split at h
  · rename_i h0;obtain⟨ds,e1,e2,e3⟩:=Vg h;have hd:(Fh L).2=0:=by
     unfold I7 at h0;split at h0
     · assumption
     · exact absurd h0 (by show ¬(2:Int)=0;decide)
    obtain⟨m1,m2⟩:=su hd;have hr:=Vk m1 t;rw[m2]at hr;rw[hr]at h0 e3;refine⟨(Fh L).1::ds,by rw[List.map_cons,m2,←e1],fun x hx=>?_,?_⟩
    · rcases Em.1 hx with rfl|hx
      · exact m1
      · exact e2 x hx
    · rw[Ji,if_pos h0];exact e3
  · cases h
theorem Yr {A t:TI}{img:List UInt8}{rs:List (List UInt8)}(hg:Cj A)(hx:A.2≤9223372036854775807)(hi:BG A.1 A.2=img)(h:PZ A rs=some t):Cv img rs t:=by
 obtain⟨ds,e1,e2,e3⟩:=Vg h;exact⟨A,ds,hg,hx,hi,e1,e2,e3⟩
theorem vN {A:TI}{img:List UInt8}{rs:List (List UInt8)}(hg:Cj A)(hx:A.2≤9223372036854775807)(hi:BG A.1 A.2=img)(h:PZ A rs=none):Ni img rs:=by
 rintro u ⟨C,ds,c1,c2,c3,c4,c5,c6⟩;obtain⟨e1,_,e2⟩:=Sc hg c1 hx c2 (c3.trans hi.symm);rcases P5 ds ⟨e2,e1.symm⟩ hg c1 with⟨_,h2⟩|⟨x,y,h1,h2,h3⟩
 · rw[h2]at c6;cases c6
 · rw[c4,SA ds A c5,h1]at h;cases h
section
variable {w:World}{b:Nat}{l:List Az}{nx:Int}{S:Nat→Prop}
set_option maxHeartbeats 4000000 in
theorem zS (L:List UInt8)(h:Bl.Is w b l nx S)(hL:L.length≤9223372036854775807)(hnx:nx+1≤9223372036854775807) :
 Calls Tryz.prog 105 #[Ag b,.string ⟨L.toArray⟩] w fun e w'=>∃S',e=.returned (.int .i64 (I7 (l,nx) L).2)∧Bl.Is w' b (I7 (l,nx) L).1.1 (I7 (l,nx) L).1.2 S'∧Trod w w' S S':=by
 have cD:=rX L w hL;unfold Ir Ga at cD;obtain⟨R,hR⟩:∃R,I7 (l,nx) L=R:=⟨_,rfl⟩;rw[hR];unfold I7 at hR;have hq2:(Fh L).2=0∨(Fh L).2=2:=by
  unfold Fh;split<;>simp
 obtain⟨⟨⟨k,d,dt,s,ns,Bg,shr⟩,q⟩,hA⟩:∃A,Fh L=A:=⟨_,rfl⟩;rw[hA]at cD hR hq2;simp only at cD hR hq2;have Kh:=Aa hq2;generalize (⟨L.toArray⟩:ByteArray)=text at *;have HR:=Aa hR;have HT:=Aa h;clear hR h hA hq2;go_enter Tryz.func105,Tryz.ntmps105;go_upto_region 2 with(go_at_call 26;refine cD.mono ?_;rintro e w1 ⟨rfl,hb1⟩;have HB1:=Aa hb1;clear hb1);have HB2:Hid (Below w.heap.size w (w1.alloc (.cells #[.int .i64 k,.int .i64 d,.int .i64 dt,.string s,.string ns,.bool Bg,.int .i64 shr] 38))):=Aa (HB1.out.alloc HB1.out.size _);have hc:=Ai w1 (.cells #[.int .i64 k,.int .i64 d,.int .i64 dt,.string s,.string ns,.bool Bg,.int .i64 shr] 38);generalize (w1.alloc (.cells #[.int .i64 k,.int .i64 d,.int .i64 dt,.string s,.string ns,.bool Bg,.int .i64 shr] 38))=W at *;obtain⟨k0,k1,k2,k3,k4,k5,k6⟩:W.cell? ⟨w1.heap.size,0,none⟩=some (.int .i64 k)∧W.cell? ⟨w1.heap.size,1,none⟩=some (.int .i64 d)∧W.cell? ⟨w1.heap.size,2,none⟩=some (.int .i64 dt)∧W.cell? ⟨w1.heap.size,3,none⟩=some (.string s)∧W.cell? ⟨w1.heap.size,4,none⟩=some (.string ns)∧W.cell? ⟨w1.heap.size,5,none⟩=some (.bool Bg)∧W.cell? ⟨w1.heap.size,6,none⟩=some (.int .i64 shr):=⟨Ap hc 0,Ap hc 1,Ap hc 2,Ap hc 3,Ap hc 4,Ap hc 5,Ap hc 6⟩;clear hc cD HB1;by_cases h0:q=0
 · subst h0;have cO:=Zw Bl ⟨k,d,dt,s,ns,Bg,shr⟩ (Bl.below HT.out HB2.out) hnx;unfold CS Ga at cO;have HR2:Hid (EM l nx ⟨k,d,dt,s,ns,Bg,shr⟩=(R.1,(EM l nx ⟨k,d,dt,s,ns,Bg,shr⟩).2.1,R.2)):=Aa (by
    have h9:=HR.out;rw[if_pos rfl]at h9;rw[←h9])
   obtain⟨n9,xe⟩:∃n9,(EM l nx ⟨k,d,dt,s,ns,Bg,shr⟩).2.1=n9:=⟨_,rfl⟩;rw[xe]at HR2;rw[HR2.out]at cO;simp only at cO;clear xe HR HR2;go_wp2_with (go_at_call 36;refine cO.mono ?_;rintro e w2 ⟨S2,rfl,hi2,ht2⟩;have HI2:=Aa hi2;have HT2:=Aa ht2;clear hi2 ht2);go_ret;exact⟨S2,rfl,HI2.out,(Trod.of_below HB2.out).trans HT2.out⟩
 · have hqz:(q==0)=false:=Ba.2 h0;have HR2:Hid (R=((l,nx),2)):=Aa (by
    have h9:=HR.out;rw[if_neg h0]at h9;exact h9.symm)
   have HQ:Hid (q=2):=Aa (Kh.out.resolve_left h0);clear h0 HR;go_wp2;go_ret;rw[HR2.out,HQ.out];exact⟨S,rfl,Bl.below HT.out HB2.out,Trod.of_below HB2.out⟩
end
theorem ig (s:ByteArray):(⟨(bl s).toArray⟩:ByteArray)=s:=by
 unfold bl;rw[Array.toArray_toList]
def AcJ (img:ByteArray)(rs:List ByteArray)(w w':World)(b:Nat):Prop:=∃(t:TI) (S:Nat→Prop),Bl.Is w' b t.1 t.2 S∧(∀k,S k→w.heap.size≤k)∧Cv (bl img) (rs.map bl) t
def xS (img:ByteArray)(rs:List ByteArray)(w:World)(e:Ending)(w':World):Prop:=
 Below w.heap.size w w'∧((∃q:Int,q≠0∧e=.returned (.tuple #[.pointer none,.int .i64 q])∧Ni (bl img) (rs.map bl)) ∨
  (∃b:Nat,e=.returned (.tuple #[Ag b,.int .i64 0])∧AcJ img rs w w' b))
set_option maxHeartbeats 8000000 in
theorem oh (img:ByteArray)(rs:List ByteArray)(v:Value)(w:World)(hv:V.Eo w v rs)(hi:img.size≤9223372036854775807)(hs:∀s∈rs,s.size≤60000)(hn:rs.length≤400)(hck:∀A:TI,Cj A→A.2≤9223372036854775807→BG A.1 A.2=bl img→A.2≤9223372036854775000) :
 Calls Tryz.prog 61 #[.string img,v] w (xS img rs w):=by
 unfold xS;have cI:=kZ (bl img) w (by show img.data.toList.length≤_;rw[BQ];exact hi);rw[ig]at cI;unfold dS at cI;obtain⟨n,hnl⟩:∃n,rs.length=n:=⟨_,rfl⟩;obtain⟨a,cap,rfl⟩:∃a cap,v=.slice a n cap:=by
  rcases hv with⟨rfl,a,cap,rfl⟩|⟨g,off,cap,_,rfl,_⟩
  · exact⟨a,cap,by rw[←hnl];rfl⟩
  · exact⟨_,cap,by rw[hnl]⟩
 have HV:=Aa hv;have HN:=Aa hnl;have HS:=Aa hs;have HCK:=Aa hck;rw[hnl]at hn;clear hv hnl hs hck hi;go_enter Tryz.func61,Tryz.ntmps61;go_upto_region 2 with(go_at_call 104;refine cI.mono ?_;rintro e w1 h1;have H1:=Aa h1;rcases h1 with⟨rfl,_⟩|⟨b,A,nx,S,rfl,_⟩)
 · obtain⟨hb1,hno⟩:Below w.heap.size w w1∧Uk (bl img):=by
    rcases H1.out with⟨_,h1,h2⟩|⟨b,A,nx,S,h1,_⟩
    · exact⟨h1,h2⟩
    · exact absurd h1 (by simp)
   have HF:=Aa (And.intro hb1 (pg (rs:=rs.map bl) hno));clear hb1 hno cI H1;go_wp2;go_ret2;exact⟨HF.out.1,Or.inl ⟨2,by decide,rfl,HF.out.2⟩⟩
 · obtain⟨A,nx,S,hI,hS,hb1,Ns,hnx⟩:∃A nx S,Bl.Is w1 b A nx S∧(∀k,S k→w.heap.size≤k)∧Below w.heap.size w w1∧BG A nx=bl img∧nx≤9223372036854775807:=by
    rcases H1.out with⟨h1,_⟩|⟨b',A,nx,S,h1,h2,h3,h4,h5,h6⟩
    · exact absurd h1 (by simp)
    · injection h1 with h1;simp at h1;obtain rfl:=h1;exact⟨A,nx,S,h2,h3,h4,h5,h6⟩
   have hgood:Cj (A,nx):=eZ hI;have hck:=HCK.out (A,nx) hgood hnx Ns;have HI1:=Aa hI;have Rm:=Aa hS;have HB1:=Aa hb1;have HIM:=Aa Ns;have HG:=Aa hgood;have HNX:=Aa hnx;have AcY:Hid (nx≤9223372036854775000):=Aa hck;clear hI hS hb1 Ns hgood hnx hck H1 cI;go_wp2_with fail;go_loopw [21] (fun iv wr=>∃i:Nat,i≤n∧iv=.int .i64 i∧∃(T:TI) (S:Nat→Prop),Bl.Is wr b T.1 T.2 S∧(∀k,S k→w.heap.size≤k)∧Below w.heap.size w wr∧PZ (A,nx) (rs.map bl)=PZ T ((rs.drop i).map bl)∧T.2≤nx+i) (fun iv _=>n-(intOf iv).toNat)
   case atStart=>exact⟨0,Nat.zero_le _,rfl,(A,nx),S,HI1.out,Rm.out,HB1.out,rfl,by simp⟩
   case round =>
    obtain⟨i,hin,rfl,T,S',hI,hS,hb,hrun,hT⟩:=hrel;have HI:=Aa hI;have HS2:=Aa hS;have HB:=Aa hb;have Ab0:=Aa hrun;have HTX:=Aa hT;clear hI hS hb hrun hT;by_cases hlt:i<n
    · have hiz:(i:Int)<(n:Int):=by omega
      have hi0:(0:Int)≤(i:Int):=by omega
      obtain⟨s,hsi⟩:∃s,rs[i]?=some s:=⟨_,Co (by rw[HN.out];exact hlt)⟩;have hvr:=V.Eo.kept HV.out HB.out;obtain⟨g,off,rfl,hc⟩:∃g off,a=some ⟨g,off,none⟩∧wr.cell? ⟨g,off+i,none⟩=some (.string s):=by
       rcases hvr with⟨h1,_⟩|⟨g,off,cap',_,h1,h2⟩
       · rw[h1]at hsi;cases hsi
       · injection h1 with h1 _ _;exact⟨g,off,h1,h2 i s hsi⟩
      have hsz:=HS.out s (CU hsi);have cR:=zS (bl s) HI.out (by show s.data.toList.length≤_;rw[BQ];exact Ao hsz (by omega)) (by have:=HTX.out;have:=AcY.out;omega);rw[ig]at cR;have hdrop:(rs.drop i).map bl=bl s::(rs.drop (i+1)).map bl:=by
       have:rs.drop i=s::rs.drop (i+1):=by
        have h9:=List.drop_eq_getElem_cons (l:=rs) (i:=i) (by rw[HN.out];exact hlt);rw[Co (by rw[HN.out];exact hlt)]at hsi;rw[h9,BS hsi]
       rw[this];rfl
      have HDR:Hid (PZ (A,nx) (rs.map bl)=if(I7 T (bl s)).2=0 then PZ (I7 T (bl s)).1 ((rs.drop (i+1)).map bl) else none):=Aa (by rw[Ab0.out,hdrop];rfl);have HGR:=Aa (jl T (bl s));have hTe:(T.1,T.2)=T:=rfl;rw[hTe]at cR;generalize I7 T (bl s)=Q at *;clear hvr hsi hsz hdrop hTe;go_upto_region 8 with(go_at_call 105;refine cR.mono ?_;rintro e w3 ⟨S3,rfl,hi3,ht3⟩;have HI3:=Aa hi3;have HT3:=Aa ht3;clear hi3 ht3);have hlow:=HT3.out.low HB.out.size HS2.out;have HB3:Hid (Below w.heap.size w w3):=Aa (HB.out.trans hlow.1);have y9:=Aa hlow.2;clear hlow cR hc;by_cases hq:Q.2=0
      · have HRU:Hid (PZ (A,nx) (rs.map bl)=PZ Q.1 ((rs.drop (i+1)).map bl)):=Aa (by rw[HDR.out,if_pos hq]);clear HDR;go_wp2;go_roundw
        case rel=>exact⟨i+1,by omega,by first|rfl|go_num,Q.1,S3,HI3.out,y9.out,HB3.out,HRU.out,by have:=HGR.out.2;have:=HTX.out;omega⟩
        case measure=>simp[intOf];omega
      · have hqz:(Q.2==0)=false:=Ba.2 hq;have HF:Hid (Q.2≠0∧Ni (bl img) (rs.map bl)):=Aa ⟨hq,vN HG.out HNX.out HIM.out (by rw[HDR.out,if_neg hq])⟩;clear hq;go_wp2;go_ret2;exact⟨HB3.out,Or.inl ⟨_,HF.out.1,rfl,HF.out.2⟩⟩
    · have hiz:¬(i:Int)<(n:Int):=by omega
      have HF:Hid (Cv (bl img) (rs.map bl) T):=Aa (Yr HG.out HNX.out HIM.out (by rw[Ab0.out,JW (by rw[HN.out];omega)];rfl));go_wp2;go_ret2;exact⟨HB.out,Or.inr ⟨b,rfl,T,S',HI.out,HS2.out,HF.out⟩⟩
def NP:Array Value:=(([.pointer none,.int .i64 0,.int .i64 0,.int .i64 0,.int .u64 0,.string ⟨#[]⟩,.slice none 0 0,.bool false]:List Value)++(Gz 201++([.int .i64 0,.int .i64 0,.slice none 0 0,.int .i64 0]:List Value))).toArray
theorem LZ:NP.size=414:=by
 unfold NP;rw[Gq,A7,A7,EA];rfl
theorem lK (parts:List (Nat×Value)):Tryz.prog.built 98 parts=Instr.fill ((#[(0,8),(8,406)]:Array (Nat×Nat))[·]?) NP parts:=by kernel_rfl
theorem ry (v8:List Value)(cs:Array Value)(h8:v8.length=8)(hc:cs.size=406):Instr.fill ((#[(0,8),(8,406)]:Array (Nat×Nat))[·]?) NP [(0,.agg v8.toArray),(1,.agg cs)]=some (v8++cs.toList).toArray:=by
 have h1:(Value.agg v8.toArray).cells=v8.toArray:=rfl;have h2:(Value.agg cs).cells=cs:=rfl;have hl:cs.toList.length=406:=by rw[BQ];exact hc
 obtain⟨f1,f2⟩:=Go.Great.foldl_set 0 v8 0 NP;obtain⟨g1,g2⟩:=Go.Great.foldl_set 8 cs.toList 0 ((v8.zipIdx 0).foldl (fun cs (x:Value×Nat)=>cs.setIfInBounds (0+x.2) x.1) NP);unfold Instr.fill;simp only[List.getElem?_toArray,List.getElem?_cons_zero,h1];rw[if_neg (by simp[h8,LZ])];unfold Instr.fill;simp only[List.getElem?_cons_succ,List.getElem?_cons_zero,h2];rw[←Array.foldl_toList,Array.toList_zipIdx,Iw];generalize (List.foldl (fun cs (x:Value×Nat)=>cs.setIfInBounds (0+x.2) x.1) NP v8.zipIdx)=Z at *;rw[LZ]at f1 f2;rw[h8]at f2;rw[hl,f1]at g2;rw[if_neg (by rw[f1,hc];decide)];unfold Instr.fill;congr 1;rw[←Array.foldl_toList,Array.toList_zipIdx];apply Array.ext_getElem?;intro j;refine Eq.trans (g2 j) ?_;refine Eq.trans ?_ (Gp (xs:=v8++cs.toList) (i:=j)).symm;by_cases hj:8+0≤j∧j<8+0+406∧j<414
 · rw[if_pos hj,List.getElem?_append_right (by omega),h8]
 · rw[if_neg hj,f2 j];by_cases hj0:0+0≤j∧j<0+0+8∧j<414
   · rw[if_pos hj0,LG (by omega)];rfl
   · rw[if_neg hj0,Array.getElem?_eq_none (by rw[LZ];omega),List.getElem?_eq_none (by rw[A7,h8,hl];omega)]
theorem lL (v8:List Value)(cs:Array Value)(h8:v8.length=8)(hc:cs.size=406)(W:World):(Instr.build 98 #[(0,.agg v8.toArray),(1,.agg cs)]).run Tryz.prog W=.ok (.agg (v8++cs.toList).toArray) W:=
 run_build W _ _ _ (by rw[lK];exact ry v8 cs h8 hc)
theorem Tryz.bI:(Tryz.prog.info? 84).map (·.size)=some 8:=by kernel_rfl
section
variable {P:Program}{ops:Array Oper}{rest:List Oper}{d:Option Tmp}{T:TypeId}{pos:String}{af:Array Edge}{a:Act}{w:World}{Q:Act→Prop}
theorem UF {o:Oper}{ys:Nat→Option Bool}(hgd:o.guard=none):Region.wanted o ys=true:=by simp[Region.wanted,hgd]
theorem L6 (ty:TypeId)(x:Operand)(px v:Value)(hx:a.eval x=px)(hr:(Instr.loadAt ty px).run P w=.ok v w)(h:wpStill P ops w Q rest (a.put d v)) :
 wpStill P ops w Q ({ dst:=d,op:=.load ty x,type:=T,pos:=pos,after:=af,guard:=none }::rest) a:=by
 unfold wpStill;rw[if_pos (UF rfl)];unfold Oper.still execOp;simp only[hx,Sem.run_bind,hr,Result.andThen_ok];exact⟨rfl,h⟩
end
section
variable {B b n:Nat}{k:Bool}{E:Nat}{img:ByteArray}{rs:List ByteArray}{st:V.St}{w:World}
def MoT (B b n sb E:Nat)(img:ByteArray)(rs:List ByteArray)(w':World):Prop:=∃t:TI,Cv (bl img) (rs.map bl) t∧SL w' B b sb n t (((n/2:Nat):Int)-((1+(V.BZ (V.recs (img::rs))).length:Nat):Int)) (Ce t) false E
def MoD (B b n:Nat)(k:Bool)(E:Nat)(img:ByteArray)(rs:List ByteArray)(w w':World):Prop:=
 (Below B w w'∧AX w w'∧V.Gt w.heap.size w w')∧∃st',V.Dev B w' b st'∧V.Dx n (n/2) k E (1+(V.BZ (V.recs (img::rs))).length) img rs (img::rs) [] false st'
def MoP (B b n:Nat)(k:Bool)(E:Nat)(img:ByteArray)(rs:List ByteArray)(w:World)(e:Ending)(w':World):Prop:=
 MoD B b n k E img rs w w'∧((e=.returned (.tuple #[.pointer none,.int .i64 2])∧Ni (bl img) (rs.map bl))∨(∃sb:Nat,e=.returned (.tuple #[Ag sb,.int .i64 0])∧MoT B b n sb E img rs w'))
theorem MoD.below {w1 w2:World}(h:MoD B b n k E img rs w w1)(hb:Below w1.heap.size w1 w2)(hB:B≤w.heap.size):MoD B b n k E img rs w w2:=by
 obtain⟨⟨h1,h2,h3⟩,st',hd,hl⟩:=h;have h9:=hb.mono h1.size;exact⟨⟨h1.trans (h9.mono hB),h2.trans (AX.Ar hb),h3.trans (V.Gt.Ar h9)⟩,st',hd.below hb,hl⟩
set_option maxHeartbeats 8000000 in
theorem O7 (hd:V.Dev B w b st)(hk:V.xU n (n/2) k E img rs st)(hck:∀A:TI,Cj A→A.2≤9223372036854775807→BG A.1 A.2=bl img→A.2≤9223372036854775000)(hB:B≤w.heap.size) :
 Calls Tryz.prog 27 #[Ag b] w (MoP B b n k E img rs w):=by
 unfold MoP;have cO:=V.oo hd hk hB;unfold V.ReX at cO;have HCK:=Aa hck;clear hd hk hck;go_enter Tryz.func27,Tryz.ntmps27;go_upto_region 4 with(go_at_call 22;refine cO.mono ?_;rintro e w1 ⟨vb,rv,st',rfl,hb1,ho1,hvb,hrow,hL,hpe⟩;have HL:=Aa hL;have HB1:=Aa hb1;have ZY:=Aa ho1;have ZP:=Aa hvb;clear hb1 ho1 hvb hrow hL hpe);have hsz:=HL.out.live.sizes;have hrl:=nY HL.out.live;have cI:=V.wS HL.out.Md;have cR:=V.jm HL.out.Md HL.out.row (by omega);have HRP:Hid (∀W v,W.ownsRow w1.heap.size 9 1 v rs.length (rs.map Value.string)→Calls Tryz.prog 61 #[.string img,v] W (xS img rs W)):=Aa fun W v hv =>
  oh img rs v W (V.WT hv rfl).strs (Ao (hsz img (List.mem_cons_self ..)).2 (by decide)) (fun s hs=>(hsz s (List.mem_cons_of_mem _ hs)).2) hrl HCK.out
 unfold xS at HRP;have HMD:Hid (MoD B b n k E img rs w w1):=Aa ⟨⟨HB1.out,OJ ZY.out.1,ZY.out.2⟩,st',HL.out.dev,HL.out.live⟩;obtain⟨rl,hrl2⟩:∃rl,rs.length=rl:=⟨_,rfl⟩;rw[hrl2]at cR HRP;clear hsz hrl hrl2 cO;go_upto_region 5 with(first
  | (go_at_call 62;refine cI.mono ?_;rintro e w2 ⟨rfl,rfl⟩)
  | (go_at_call 63;refine cR.mono ?_;rintro e w3 ⟨v3,rfl,ho3,hb3⟩;obtain⟨a3,c3,hv3⟩:=Av ho3;have Jf:=Aa ho3;have HB3:=Aa hb3;clear ho3 hb3;subst hv3)
  | (go_at_call 61;refine(HRP.out _ _ Jf.out).mono ?_;rintro e w4 ⟨hb4,hc4⟩;have LY:=Aa hb4;clear hb4;rcases hc4 with⟨q,hq,rfl,hno⟩|⟨bt,rfl,ht⟩))
 · have Z9:=Aa hno;have hqz:(q==0)=false:=Ba.2 hq;have x9:=Aa ((HMD.out.below HB3.out hB).below LY.out hB);clear hno hq cI cR;go_wp2;go_ret2;exact⟨x9.out,Or.inl ⟨rfl,Z9.out⟩⟩
 · obtain⟨t,S,hI,hS,hM⟩:=ht;have AaA:=HB3.out.trans (LY.out.mono HB3.out.size);have x9:=Aa ((HMD.out.below HB3.out hB).below LY.out hB);have hL4:=HL.out.below AaA;obtain⟨cs,hc,hcs,hone,hT⟩:=Nu.of hI;obtain⟨V8,hV8⟩:∃V8:List Value,V.Xl b (V.BH (n/2) k) (n/2) (1+(V.BZ (V.recs (img::rs))).length) E++[.string img,rv,.bool true]=V8:=⟨_,rfl⟩;have N9:V8.length=8:=by rw[←hV8];simp[V.Xl]
   have hvl:w4.heap[vb]?=some (.cells V8.toArray 84 (0,0)):=by rw[←hV8];exact hL4.Md
   have Aar:(Instr.loadAt 84 (.pointer (some ⟨vb,0,none⟩))).run Tryz.prog w4.drew=.ok (.agg V8.toArray) w4.drew:=run_loadAt_mid (P:=Tryz.prog) w4.drew vb 0 84 V8 _ (fun j x hx=>by
    rw[Gh,show w4.drew.cell? ⟨vb,j,none⟩=w4.cell? ⟨vb,j,none⟩ from rfl,AB _ _ _ _ _ _ hvl,Gp];exact hx) Tryz.underlying84 rfl (by rw[N9];exact Tryz.bI)
   have Aas:(Instr.loadAt 96 (.pointer (some ⟨bt,0,none⟩))).run Tryz.prog w4.drew=.ok (.agg cs) w4.drew:=by
    have:=run_loadAt_mid (P:=Tryz.prog) w4.drew bt 0 96 cs.toList _ (fun j x hx=>by
     rw[Gh,show w4.drew.cell? ⟨bt,j,none⟩=w4.cell? ⟨bt,j,none⟩ from rfl,AB _ _ _ _ _ _ hc,←Array.getElem?_toList];exact hx) Tryz.underlying96 rfl (by rw[BQ,hcs];exact Tryz.Jl)
    rwa[Array.toArray_toList]at this
   have Wn:Hid (∀W:World,(Instr.build 98 #[(0,.agg V8.toArray),(1,.agg cs)]).run Tryz.prog W=.ok (.agg (V8++cs.toList).toArray) W):=Aa fun W=>lL V8 cs N9 hcs W
   have hsize:(V8++cs.toList).toArray.size=414:=by rw[Gq,A7,N9,BQ,hcs]
   have Ff:Hid (∀W',W'=w4.drew.alloc (.cells (V8++cs.toList).toArray 98)→MoD B b n k E img rs w W'∧MoT B b n w4.heap.size E img rs W'):=Aa (by
    intro W' hW';have hbN:Below w4.heap.size w4 W':=by rw[hW'];exact(Cy (Ad _ _)).alloc (Ae _) _
    have hnew:W'.heap[w4.heap.size]?=some (.cells (V8++cs.toList).toArray 98 (0,0)):=by rw[hW'];exact Ai w4.drew _
    have hL5:=hL4.below hbN;refine⟨x9.out.below hbN hB,t,hM,cs.toList,⟨n/2,k,_,img,rs,img::rs,[],st',rv,⟨hL5.live,hL5.dev,?_,hL5.row,?_⟩,rfl,by simp,hM,rfl,fun u hu=>PH.all rfl hM u hu⟩,hT.keep (EC.Ar hbN)⟩
    · show W'.heap[w4.heap.size]?=_
      rw[hnew,←hV8,Ch]
    · have:=HB1.out.size;have:=AaA.size;omega)
   generalize (V8++cs.toList).toArray=AA at *;clear hI hS hM AaA hL4 hc hcs hone hT hV8 N9 hvl cI cR HMD x9 HL HRP;go_wp2_with fail;refine wp_region_still_tail 6 (by kernel_rfl) (by kernel_rfl) ?_;simp only[List.take_succ_cons,List.take_zero,List.drop_succ_cons,List.drop_zero];change wpStill _ _ w4.drew _ _ _;obtain⟨W5,hW5⟩:∃W5,w4.drew=W5:=⟨_,rfl⟩;rw[hW5]at Aar Aas Ff ⊢
   still_step
   still_step
   refine L6 84 _ (.pointer (some ⟨vb,0,none⟩)) (.agg V8.toArray) rfl Aar ?_;simp only[Act.put,List.setIfInBounds_toArray,List.set_cons_zero,List.set_cons_succ]
   still_step
   still_step
   refine L6 96 _ (.pointer (some ⟨bt,0,none⟩)) (.agg cs) rfl Aas ?_;simp only[Act.put,List.setIfInBounds_toArray,List.set_cons_zero,List.set_cons_succ];refine wpStill_nil ?_;have hsz5:W5.heap.size=w4.heap.size:=by rw[←hW5];rfl
   have AdG:=Aa hsz5;have X5:=Aa hW5;clear Aar Aas hW5 hsz5;go_wp2_with ((with_reducible refine PT 98 _ #[(0,.agg V8.toArray),(1,.agg cs)] (.agg AA) ?_ ?_ ?_);exact rfl;exact Wn.out _);go_ret2;have hF:=Ff.out (w4.alloc (.cells AA 98)).drew (by rw[←X5.out];rfl);exact⟨hF.1,Or.inr ⟨w4.heap.size,rfl,hF.2⟩⟩
end
section
variable {B b sb n:Nat}{rm:Int}{O:TI→Prop}{lm:Bool}{E:Nat}{t:TI}{w w':World}
theorem SL.off (h:SL w B b sb n t rm O lm E)(ho:V.Off Mh w w'):SL w' B b sb n t rm O lm E:=by
 obtain⟨X,h1,h2⟩:=h;exact⟨X,h1.off ho,h2.keep (EC.Abj ho)⟩
theorem SL.te (h:SL w B b sb n t rm O lm E):Uj w sb t.1 t.2:=by
 obtain⟨X,h1,h2⟩:=h;obtain⟨F,S,A,img,rv,hv,_⟩:=h1.at;exact h2.te hv
theorem vC (h:SL w B b sb n t rm O lm E):Calls Tryz.prog 20 #[Ag sb] w fun e w'=>∃tb S,e=.returned (Ag tb)∧Bl.Is w' tb t.1 t.2 S∧(∀k,S k→w.heap.size≤k)∧Below w.heap.size w w':=by
 have cC:=yS.clone h.te;clear h;go_enter Tryz.func20,Tryz.ntmps20;go_wp2_with (go_at_call 35;refine cC.mono ?_;rintro e w1 ⟨tb,S,rfl,hi,hs,hb⟩;have HI:=Aa hi;have HS:=Aa hs;have HB:=Aa hb;clear hi hs hb);go_ret
 first|exact⟨tb,S,rfl,HI.out,HS.out,HB.out⟩|exact⟨tb,rfl,S,HI.out,HS.out,HB.out⟩|exact⟨tb,rfl,⟨S,HI.out,HS.out⟩,HB.out⟩
theorem vF (h:SL w B b sb n t rm O lm E):Calls Tryz.prog 18 #[Ag sb] w fun e w'=>e=.returned (.int .i64 rm)∧Below w.heap.size w w':=by
 obtain⟨X,hV,_⟩:=h;have cC:=vk hV;clear hV;go_enter Tryz.func18,Tryz.ntmps18;go_wp2_with (go_at_call 43;refine cC.mono ?_;rintro e w1 ⟨rfl,hb⟩;have HB:=Aa hb;clear hb);go_ret;exact⟨rfl,HB.out⟩
theorem Yh (o:Bool)(hc:Calls Tryz.prog 32 #[Ag sb] w fun e w'=>e=.returned (.bool o)∧w'=w):Calls Tryz.prog 12 #[Ag sb] w fun e w'=>e=.returned (.bool o)∧Below w.heap.size w w':=by
 go_enter Tryz.func12,Tryz.ntmps12;go_wp2_with (go_at_call 32;refine hc.mono ?_;rintro e w1 ⟨rfl,rfl⟩);go_ret;exact⟨rfl,Ad _ _⟩
theorem Yg {Q:Int→World→Prop}(hc:Calls Tryz.prog 33 #[Ag sb] w fun e w'=>∃q:Int,e=.returned (.int .i64 q)∧Q q w'):Calls Tryz.prog 13 #[Ag sb] w fun e w'=>∃q:Int,e=.returned (.int .i64 q)∧Q q w':=by
 go_enter Tryz.func13,Tryz.ntmps13;go_wp2_with (go_at_call 33;refine hc.mono ?_;rintro e w1 ⟨q,rfl,hq⟩;have HQ:=Aa hq;clear hq);go_ret;exact⟨q,rfl,HQ.out⟩
theorem qp:(BG [] 1).length≤62:=by decide +kernel
set_option maxHeartbeats 2000000 in
theorem iW (hd:V.Dev B w b (V.Hz n))(h4:4≤n)(hn:n≤400)(hB:B≤w.heap.size) :
 Calls Tryz.prog 29 #[Ag b] w fun e w'=>e=.returned (.int .i64 0)∧KnD w' B b n ([],1) (((n/2:Nat):Int)-2) 1∧Below B w w'∧AX w w':=by
 have cN:=Bl.new w;have CE:Hid (∀W bt S,Bl.Is W bt [] 1 S→Calls Tryz.prog 72 #[Ag bt] W fun e w'=>e=.returned (.string ⟨(BG [] 1).toArray⟩)∧Below W.heap.size W w'):=Aa fun W bt S h=>Pn h (by decide)
 have hl:=qp;have hp:=Y0 [] 1;have hsz:=size_bytes (BG [] 1);have CF:Hid (∀W,Below w.heap.size w W→Calls Tryz.prog 71 #[Ag b,.string ⟨(BG [] 1).toArray⟩] W fun e w'=>e=.returned (.int .i64 0)∧KnD w' B b n ([],1) (((n/2:Nat):Int)-2) 1∧Below B w w'∧AX w w'):=Aa fun W hW=>by
  have hfr:((⟨(BG [] 1).toArray⟩:ByteArray).size+61)/62=1:=by rw[hsz];omega
  have hfit:V.Df (n/2) 1 ⟨(BG [] 1).toArray⟩=0:=by
   rw[Xx (by rw[hsz];exact hp) (by rw[hsz];omega),if_neg (by rw[hfr];omega)]
  refine(V.qP (h:=n/2) ⟨(BG [] 1).toArray⟩ (hd.below hW) (V.AbM n hn) rfl hn (by rw[hsz];omega) (Ao hB hW.size)).mono ?_;rintro e w' ⟨q,rfl,hb,ho,hx⟩;rcases hx with⟨h1,_⟩|⟨_,h1,h3,_⟩|⟨_,h1,_,st',h3,hL,_⟩
  · omega
  · rw[hfit]at h3;exact absurd h3.symm h1
  · refine⟨by rw[h1],⟨false,⟨(BG [] 1).toArray⟩,[],st',h3,hL.kn rfl,Cv.own JH (by decide),?_⟩,(hW.mono hB).trans hb,(AX.Ar hW).trans (OJ ho)⟩;rw[V.JA,V.Pv,hfr];omega
 generalize (⟨(BG [] 1).toArray⟩:ByteArray)=s at *;clear hd hl hp hsz;go_enter Tryz.func29,Tryz.ntmps29;go_wp2_with (first
  | (go_at_call 73;refine cN.mono ?_;rintro e w1 ⟨bt,S,rfl,hi,hs,hb1⟩;have HI:=Aa hi;have HB1:=Aa hb1;clear hi hs hb1)
  | (go_at_call 72;refine(CE.out _ _ _ HI.out).mono ?_;rintro e w2 ⟨rfl,hb2⟩;have HB2:=Aa (HB1.out.trans (hb2.mono HB1.out.size));clear hb2)
  | (go_at_call 71;refine(CF.out _ HB2.out).mono ?_;rintro e w3 ⟨rfl,hk⟩;have HK:=Aa hk;clear hk))
 go_ret;exact⟨rfl,HK.out⟩
theorem XD {img:ByteArray}{rs:List ByteArray}(hm:Cv (bl img) (rs.map bl) t)(ht:t.2≤9223372036854775000):∀A:TI,Cj A→A.2≤9223372036854775807→BG A.1 A.2=bl img→A.2≤9223372036854775000:=fun A h1 h2 h3=>by
 have:=hm.Ho A h1 h2 h3;omega
theorem aU {W W':World}{v:Value}{l:List ByteArray}(h:V.CX B W v l)(ho:V.Gt W.heap.size W W'):V.CX B W' v l:=by
 rcases h with h|⟨g,off,cap,cur,hv,hB,h1,h2,hg,h3,h4⟩
 · exact Or.inl h
 · exact Or.inr ⟨g,off,cap,cur,hv,hB,h1,h2,ho _ (by decide) _ _ _ (Ab hg) hg,h3,h4⟩
theorem nW (h:SL w B b sb n t rm O false E)(ht:t.2≤9223372036854775000)(hB:B≤w.heap.size) :
 Calls Tryz.prog 27 #[Ag b] w fun e w'=>∃X3 t',e=.returned (.tuple #[Ag X3,.int .i64 0])∧SL w' B b sb n t rm (Ce t) false E∧SL w' B b X3 n t' rm (Ce t') false E∧Ce t t'∧Below B w w'∧AX w w':=by
 obtain⟨X,⟨h',k,A,img,rs,r1,r2,st,rv,a1,rfl,hne,hm,hrm,hO⟩,hT⟩:=h;have hA:=a1.live.end_;refine(O7 a1.dev (a1.live.kn rfl) (XD hm ht) hB).mono ?_;rintro e w' ⟨⟨⟨hb,hs,ho⟩,st',hd',hl'⟩,⟨rfl,hno⟩|⟨X3,rfl,t',hm',hL'⟩⟩
 · exact absurd hm (hno t)
 · rw[←hA]at hl' hL';refine⟨X3,t',rfl,⟨X,⟨n/2,k,A,img,rs,img::rs,[],st',rv,⟨hl',hd',ho _ (by decide) _ _ _ (Ab a1.Md) a1.Md,aU a1.row ho,a1.hvb⟩,rfl,by simp,hm,hrm,fun u hu=>PH.all rfl hm u hu⟩,hT.EO hs⟩,?_,hm.one hm',hb,hs⟩;rw[hrm];exact hL'
theorem nO {t0:TI}(h:KnD w B b n t0 rm E)(ht:t0.2≤9223372036854775000)(hB:B≤w.heap.size) :
 Calls Tryz.prog 27 #[Ag b] w fun e w'=>∃sb t',e=.returned (.tuple #[Ag sb,.int .i64 0])∧SL w' B b sb n t' rm (Ce t') false E∧Ce t0 t'∧Below B w w'∧AX w w':=by
 obtain⟨k,img,rs,st,hd,hk,hm,hrm⟩:=h;refine(O7 hd hk (XD hm ht) hB).mono ?_;rintro e w' ⟨⟨⟨hb,hs,ho⟩,_⟩,⟨rfl,hno⟩|⟨X3,rfl,t',hm',hL'⟩⟩
 · exact absurd hm (hno t0)
 · exact⟨X3,t',rfl,by rw[hrm];exact hL',hm.one hm',hb,hs⟩
end
def nC:Z6 where
 Live:=fun w B b sb n t rm O lm E=>SL w B b sb n t rm O lm E
 Over:=fun w B b sb n O E=>SD w B b sb n O E
 Kn:=fun w B b n t rm E=>KnD w B b n t rm E
 good:=by
  rintro w B b sb n t rm O lm E ⟨X,h,_⟩;exact h.good
 off:=by
  rintro w w' B b sb n t rm O lm E h ho _;exact SL.off h ho
 Abi:=by
  rintro w w' B b sb n O E ⟨X,h⟩ ho _;exact⟨X,h.off ho⟩
 weak:=by
  rintro w B b sb n t rm O O' lm E ⟨X,h,hT⟩ hO;exact⟨X,h.weak hO,hT⟩
 Abb:=by
  rintro w B b sb n O O' E ⟨X,h⟩ hO;exact⟨X,h.weak hO⟩
 format:=by
  rintro w B b n hd h4 hn hB;exact iW hd h4 hn hB
 mount:=by
  rintro w B b n t rm E h ht hB;exact nO h ht hB
 again:=by
  rintro w B b sb n t rm O E h ht hB;exact nW h ht hB
 kn:=by
  rintro w B b sb n t rm O E ⟨X,h,_⟩;obtain⟨k,img,rs,st,h1,h2,h3,_⟩:=h.kn;exact⟨k,img,rs,st,t,h1,h2,h3,Ce.refl t⟩
 wE:=by
  rintro w B b n k E img rs st t hd hk hm ht hB;refine(O7 hd hk (XD hm ht) hB).mono ?_;rintro e w' ⟨⟨⟨hb,hs,ho⟩,_⟩,⟨rfl,hno⟩|⟨X3,rfl,t',hm',hL'⟩⟩
  · exact absurd hm (hno t)
  · exact⟨X3,t',_,rfl,hL',hm.one hm',hb,hs⟩
 wF:=by
  rintro w B b n k E img rs st hd hk hno hck hB;refine(O7 hd hk hck hB).mono ?_;rintro e w' ⟨⟨⟨hb,hs,ho⟩,_⟩,⟨rfl,_⟩|⟨X3,rfl,t',hm',hL'⟩⟩
  · exact⟨rfl,hb,hs⟩
  · exact absurd hm' (hno t')
 tree:=by
  rintro w B b sb n t rm O lm E h;exact vC h
 room:=by
  rintro w B b sb n t rm O lm E h;exact vF h
 over:=by
  rintro w B b sb n t rm O lm E ⟨X,h,_⟩;exact Yh false (Wv h)
 yz:=by
  rintro w B b sb n O E ⟨X,h⟩;exact Yh true (eU h)
 sync:=by
  rintro w B b sb n t rm O lm E ⟨X,h,hT⟩ hB;refine(Yg (vg h hB)).mono ?_;rintro e w' ⟨q,rfl,⟨hb,hs⟩,⟨rfl,hv⟩|⟨rfl,hl,hv⟩⟩
  · exact⟨hb,hs,Or.inl ⟨rfl,X,hv,hT.EO hs⟩⟩
  · exact⟨hb,hs,Or.inr ⟨hl,rfl,X,hv⟩⟩
 yw:=by
  rintro w B b sb n O E ⟨X,h⟩ hB;refine(Yg (Q:=fun q w'=>q=13∧Below w.heap.size w w') ((vv h).mono fun e w' ⟨h1,h2⟩=>⟨13,h1,rfl,h2⟩)).mono ?_;rintro e w' ⟨q,rfl,rfl,hb⟩;exact⟨rfl,hb⟩
 do':=by
  rintro w B b sb n t rm O lm E x h hs hns ht hE hB;by_cases hm:May x
  · exact AaH x h hm ht hE hB
  · exact AbO x h hm hB
 doO:=by
  rintro w B b sb n O E x h hB;exact kQ x h
 cut:=by
  rintro w B b sb n t rm O lm E N ⟨X,h,hT⟩ h1 h2;refine(h.cut h1 h2).mono ?_;rintro e w' ⟨he,hv,hb,hs⟩;exact⟨he,⟨X,hv,hT.EO hs⟩,hb,hs⟩
 AbQ:=by
  rintro w B b sb n O E N ⟨X,h⟩ h1 h2;refine(h.cut h1 h2).mono ?_;rintro e w' ⟨he,hv,hb,hs⟩;exact⟨he,⟨X,hv⟩,hb,hs⟩
 Im:=by
  rintro w B b sb n t rm O lm E v l ⟨X,h,hT⟩ hv hl hB;exact h.Im v l hv hl hB
 Yt:=by
  rintro w B b sb n O E v l ⟨X,h⟩ hv hl hB;exact h.Im v l hv hl hB
end Go.Proofs.YtdmkhmeaphaapaaGreat
namespace Go.Proofs.YtdmkhmeaphaapaaGreat
theorem own:ownKnob Tryz.prog.godebug=none:=by kernel_rfl
end Go.Proofs.YtdmkhmeaphaapaaGreat
namespace Go.Proofs.YtdmkhmeaphaapaaGreat
open Go.ChangeShapes Go.WideShapes Go.ChangeAt Go.RowKit Go.Lib
theorem laidOut:laidOutB Tryz.prog=true:=by kernel_rfl
theorem Jp:Tryz.prog.cellsOf 3=1:=by kernel_rfl
theorem Ls:Tryz.prog.cellsOf 4=1:=by kernel_rfl
theorem V4:Tryz.prog.cellsOf 9=1:=by kernel_rfl
theorem sN:Tryz.prog.cellsOf 38=7:=by kernel_rfl
section
variable {H:Type}{enc:TypeId×Value→H}{W:World}{base:Nat}
end
theorem sM:Tryz.prog.cellsOf 39=1:=by kernel_rfl
theorem V5:Tryz.prog.cellsOf 41=12:=by kernel_rfl
instance:Inhabited dR:=⟨⟨O6,false,false,0,false,.pointer none,[]⟩⟩
section
variable {H:Type}{enc:TypeId×Value→H}{W:World}{base:Nat}
theorem jG {fuel:Nat}{v:Value}{x:DataW H×List MemPlace}(hf:DataW.trod enc Tryz.prog W base (fun _=>true) true fuel 39 [v]=some x)(hlt:∀y∈x.2,y.block<W.heap.size) :
 ∃l,CQ W v l∧l.length≤9223372036854775807:=by
 rcases open_ints Tryz.underlying39 Tryz.underlying3 Jp hf with⟨hcs,hx⟩|⟨a,len',cap',zs,hcs,_,hl,hm,hz,hx,hcell,hwz⟩
 · injection hcs with hcs _;subst hcs;exact⟨[],Or.inl ⟨rfl,none,0,rfl⟩,by simp⟩
 · injection hcs with hcs _;subst hcs;subst hx;simp only[if_true]at hz;have hlen:(zs.take len').length=len':=by rw[Cc];omega
   refine⟨zs.take len',?_,by rw[hlen];unfold maxLen at hm;omega⟩;by_cases hl0:len'=0
   · subst hl0;exact Or.inl ⟨rfl,some a,cap',rfl⟩
   · obtain⟨b,off,spot⟩:=a;have hspot:spot=none:=by simpa[Addr.add]using World.cell?_spot (hcell 0 (by omega))
     subst hspot;have hbW:b<W.heap.size:=hlt (.cell b off) (MemPlace.mem_row.2 ⟨0,by omega,by simp⟩);refine Or.inr ⟨b,off,cap',hbW,by rw[hlen],fun j hj=>?_⟩;rw[hlen]at hj;have:=hcell j (by omega);rw[Addr.add_mid]at this;rw[this];simp[List.getD_eq_getElem?_getD,hj,List.getElem?_eq_getElem (show j<zs.length by omega)]
set_option maxHeartbeats 4000000 in
theorem tq {v:Value}{d:DataW H}{p:List MemPlace}(hval:Value.okWide Tryz.prog W .any base 22 v)
 (h:DataW.Trod enc Tryz.prog W 0 (fun _=>true) true 22 v d p) (hlt:∀x∈p,x.block<W.heap.size) :
 ∃l,Ku W v l∧(l.length≤9223372036854775807∧∀o∈l,tO o):=by
 obtain⟨a0,len,cap,rfl⟩:=okWide_slice Tryz.underlying22 hval;obtain⟨fuel,hf⟩:=h;rcases Go.Deep.open_slice Tryz.underlying22 hf with⟨hcs,_⟩|⟨a,len',cap',m,n,D,Pl,hcs,_,hl,hm,hmm,hx,hel⟩
 · simp[Value.cells]at hcs;obtain⟨rfl,rfl,rfl⟩:=hcs;exact⟨[],Or.inl ⟨rfl,none,0,rfl⟩,by simp,fun q hq=>by cases hq⟩
 · simp[Value.cells]at hcs;obtain⟨rfl,rfl,rfl⟩:=hcs;simp only[if_true]at hmm;subst hmm;have hp:p=MemPlace.row a (m*Tryz.prog.cellsOf 41)++(List.range m).flatMap Pl:=Gu Prod.snd hx;have each:∀i,i<m→∃o:dR,W.cell? (a.add (i*12))=some (.int .i64 o.x.k)∧W.cell? (a.add (i*12+1))=some (.int .i64 o.x.d)∧W.cell? (a.add (i*12+2))=some (.int .i64 o.x.dt)∧W.cell? (a.add (i*12+3))=some (.string o.x.s)∧W.cell? (a.add (i*12+4))=some (.string o.x.ns)∧W.cell? (a.add (i*12+5))=some (.bool o.x.Bg)∧W.cell? (a.add (i*12+6))=some (.int .i64 o.x.sh)∧W.cell? (a.add (i*12+7))=some (.bool o.sync)∧W.cell? (a.add (i*12+8))=some (.bool o.cut)∧W.cell? (a.add (i*12+9))=some (.int .i64 o.N)∧W.cell? (a.add (i*12+10))=some (.bool o.yP)∧W.cell? (a.add (i*12+11))=some o.kv∧CQ W o.kv o.l∧tO o:=by
    intro i hi;obtain⟨cs',h1,h2⟩:=hel i hi;rw[V5]at h1;obtain⟨_,hlen,hcell⟩:=World.cells?_some h1;obtain⟨xs,k,_,hxy,_,hxl,hg⟩:=DataW.trod_struct Tryz.underlying41 h2
    match xs,hxl,cs',hlen with
    | [x0,x1,x2,x3,x4,x5],_,[v0,v1,v2,v3,v4,v5,v6,v7,v8,v9,v10,v11],_ =>
     have g0:DataW.trod enc Tryz.prog W 0 (fun _=>true) true k 38 (([v0,v1,v2,v3,v4,v5,v6,v7,v8,v9,v10,v11].drop 0).take (Tryz.prog.cellsOf 38))=some x0:=hg 0 _ rfl;have g1:DataW.trod enc Tryz.prog W 0 (fun _=>true) true k 4 (([v0,v1,v2,v3,v4,v5,v6,v7,v8,v9,v10,v11].drop 7).take (Tryz.prog.cellsOf 4))=some x1:=hg 1 _ rfl;have g2:DataW.trod enc Tryz.prog W 0 (fun _=>true) true k 4 (([v0,v1,v2,v3,v4,v5,v6,v7,v8,v9,v10,v11].drop 8).take (Tryz.prog.cellsOf 4))=some x2:=hg 2 _ rfl;have g3:DataW.trod enc Tryz.prog W 0 (fun _=>true) true k 3 (([v0,v1,v2,v3,v4,v5,v6,v7,v8,v9,v10,v11].drop 9).take (Tryz.prog.cellsOf 3))=some x3:=hg 3 _ rfl;have g4:DataW.trod enc Tryz.prog W 0 (fun _=>true) true k 4 (([v0,v1,v2,v3,v4,v5,v6,v7,v8,v9,v10,v11].drop 10).take (Tryz.prog.cellsOf 4))=some x4:=hg 4 _ rfl;have g5:DataW.trod enc Tryz.prog W 0 (fun _=>true) true k 39 (([v0,v1,v2,v3,v4,v5,v6,v7,v8,v9,v10,v11].drop 11).take (Tryz.prog.cellsOf 39))=some x5:=hg 5 _ rfl;rw[sN]at g0;rw[Ls]at g1;rw[Ls]at g2;rw[Jp]at g3;rw[Ls]at g4;rw[sM]at g5;obtain⟨ys,k2,_,_,_,hyl,hh⟩:=DataW.trod_struct Tryz.underlying38 g0
     match ys,hyl with
     | [y0,y1,y2,y3,y4,y5,y6],_ =>
      have f0:DataW.trod enc Tryz.prog W 0 (fun _=>true) true k2 3 (([v0,v1,v2,v3,v4,v5,v6].drop 0).take (Tryz.prog.cellsOf 3))=some y0:=hh 0 _ rfl;have f1:DataW.trod enc Tryz.prog W 0 (fun _=>true) true k2 3 (([v0,v1,v2,v3,v4,v5,v6].drop 1).take (Tryz.prog.cellsOf 3))=some y1:=hh 1 _ rfl;have f2:DataW.trod enc Tryz.prog W 0 (fun _=>true) true k2 3 (([v0,v1,v2,v3,v4,v5,v6].drop 2).take (Tryz.prog.cellsOf 3))=some y2:=hh 2 _ rfl;have f3:DataW.trod enc Tryz.prog W 0 (fun _=>true) true k2 9 (([v0,v1,v2,v3,v4,v5,v6].drop 3).take (Tryz.prog.cellsOf 9))=some y3:=hh 3 _ rfl;have f4:DataW.trod enc Tryz.prog W 0 (fun _=>true) true k2 9 (([v0,v1,v2,v3,v4,v5,v6].drop 4).take (Tryz.prog.cellsOf 9))=some y4:=hh 4 _ rfl;have f5:DataW.trod enc Tryz.prog W 0 (fun _=>true) true k2 4 (([v0,v1,v2,v3,v4,v5,v6].drop 5).take (Tryz.prog.cellsOf 4))=some y5:=hh 5 _ rfl;have f6:DataW.trod enc Tryz.prog W 0 (fun _=>true) true k2 3 (([v0,v1,v2,v3,v4,v5,v6].drop 6).take (Tryz.prog.cellsOf 3))=some y6:=hh 6 _ rfl;rw[Jp]at f0;rw[Jp]at f1;rw[Jp]at f2;rw[V4]at f3;rw[V4]at f4;rw[Ls]at f5;rw[Jp]at f6;obtain⟨q0,hq0,_,w0⟩:=DataW.trod_int Tryz.underlying3 f0;obtain⟨q1,hq1,_,w1⟩:=DataW.trod_int Tryz.underlying3 f1;obtain⟨q2,hq2,_,w2⟩:=DataW.trod_int Tryz.underlying3 f2;obtain⟨q3,hq3,_,w3⟩:=DataW.trod_string Tryz.underlying9 f3;obtain⟨q4,hq4,_,w4⟩:=DataW.trod_string Tryz.underlying9 f4;obtain⟨q5,UA,_⟩:=DataW.trod_bool Tryz.underlying4 f5;obtain⟨q6,yG,_,w6⟩:=DataW.trod_int Tryz.underlying3 f6;obtain⟨q7,Uz,_⟩:=DataW.trod_bool Tryz.underlying4 g1;obtain⟨q8,hq8,_⟩:=DataW.trod_bool Tryz.underlying4 g2;obtain⟨q9,hq9,_,w9⟩:=DataW.trod_int Tryz.underlying3 g3;obtain⟨WQ,Aam,_⟩:=DataW.trod_bool Tryz.underlying4 g4;have yH:∀y∈x5.2,y.block<W.heap.size:=fun y hy=>hlt y (by
       rw[hp];refine List.mem_append_right _ (List.mem_flatMap.2 ⟨i,List.mem_range.2 hi,?_⟩);have:Pl i=_:=Gu Prod.snd hxy;rw[this];simp[hy])
      obtain⟨kl,hkl,hkn⟩:=jG g5 yH;injection hq0 with hq0 _;injection hq1 with hq1 _;injection hq2 with hq2 _;injection hq3 with hq3 _;injection hq4 with hq4 _;injection UA with UA _;injection yG with yG _;injection Uz with Uz _;injection hq8 with hq8 _;injection hq9 with hq9 _;injection Aam with Aam _;subst hq0 hq1 hq2 hq3 hq4 UA yG Uz hq8 hq9 Aam;have e0:=hcell 0 (by omega);have e1:=hcell 1 (by omega);have e2:=hcell 2 (by omega);have e3:=hcell 3 (by omega);have e4:=hcell 4 (by omega);have e5:=hcell 5 (by omega);have e6:=hcell 6 (by omega);have e7:=hcell 7 (by omega);have e8:=hcell 8 (by omega);have e9:=hcell 9 (by omega);have e10:=hcell 10 (by omega);have e11:=hcell 11 (by omega);rw[Go.Deep.add_add]at e0 e1 e2 e3 e4 e5 e6 e7 e8 e9 e10 e11;have r9:-9223372036854775808≤q9∧q9≤9223372036854775807:=by simpa[Lit.wf,IntKind.min,IntKind.max,IntKind.signed,IntKind.bits]using w9
      have r3:q3.size≤9223372036854775807:=by
       have hx:=w3;unfold maxLen at hx;omega
      have r4:q4.size≤9223372036854775807:=by
       have hx:=w4;unfold maxLen at hx;omega
      exact⟨⟨⟨q0,q1,q2,q3,q4,q5,q6⟩,q7,q8,q9,WQ,v11,kl⟩,e0,e1,e2,e3,e4,e5,e6,e7,e8,e9,e10,e11,hkl,⟨r9.1,r9.2,r3,r4,hkn⟩⟩
   obtain⟨q,hq⟩:=Go.Deep.choose_lt each;have hlen:((List.range len).map q).length=len:=by simp
   refine⟨(List.range len).map q,?_,by rw[hlen];unfold maxLen at hm;omega,fun r hr=>?_⟩
   · by_cases hl0:len=0
     · subst hl0;exact Or.inl ⟨rfl,some a,m,rfl⟩
     · obtain⟨b,off,spot⟩:=a;have hspot:spot=none:=by simpa[Addr.add]using World.cell?_spot (hq 0 (by omega)).1
       subst hspot;have hbW:b<W.heap.size:=hlt (.cell b off) (by
        rw[hp,V5];exact List.mem_append_left _ (MemPlace.mem_row.2 ⟨0,by omega,by simp⟩))
       refine Or.inr ⟨b,off,m,hbW,by rw[hlen],fun j o hj=>?_⟩;have hjl:j<len:=by
        have:=(DL.1 hj).1;rwa[hlen]at this
       have ho:q j=o:=by
        rw[GZ,List.getElem?_range hjl]at hj;exact BS hj
       obtain⟨e0,e1,e2,e3,e4,e5,e6,e7,e8,e9,e10,e11,hn,_⟩:=hq j (by omega);rw[ho]at e0 e1 e2 e3 e4 e5 e6 e7 e8 e9 e10 e11 hn;rw[Addr.add_mid]at e0 e1 e2 e3 e4 e5 e6 e7 e8 e9 e10 e11;refine⟨fun z x hz=>?_,hn⟩;unfold Abh Qk at hz;rcases z with _ | _ | _ | _ | _ | _ | _ | _ | _ | _ | _ | _|z
       all_goals first|(obtain rfl:=BS hz;assumption)|(cases hz)
   · obtain⟨i,hi,rfl⟩:=CG.1 hr;exact(hq i (by have:=List.mem_range.1 hi;omega)).2.2.2.2.2.2.2.2.2.2.2.2.2
end
end Go.Proofs.YtdmkhmeaphaapaaGreat
