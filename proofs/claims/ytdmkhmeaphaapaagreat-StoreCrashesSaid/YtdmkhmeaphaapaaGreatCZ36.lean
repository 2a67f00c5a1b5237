/- Kit. -/
import Derived.Test.YtdmkhmeaphaapaaGreatCZ35
import Derived.Test.YtdmkhmeaphaapaaGreatCZ0
import Derived.Laws.ResultCell
set_option maxRecDepth 100000
set_option linter.unusedVariables false
set_option linter.unusedSimpArgs false
namespace Go.Proofs.YtdmkhmeaphaapaaGreat
open Go.RowKit Go.Sort
def Rq (p:Value×TI):List Value:=[p.1,.int .i64 p.2.2]
theorem Ey (l:List (Value×TI)):∀p∈l,(Rq p).length=2:=fun _ _=>rfl
def Fe (w:World)(v:Value)(ts:List TI):Prop:=
 ∃ps:List (Value×TI),ps.map Prod.snd=ts∧AL Rq 2 w v ps∧(∀p∈ps,Bi w p.1 p.2.1)∧∀g,v.ownBlock=some g→∃cs,w.heap[g]?=some (.cells cs 31 (0,0))
section
variable {w w':World}{v:Value}{ts:List TI}
theorem Fe.len (h:Fe w v ts):∃a cap,v=.slice a ts.length cap:=by
 obtain⟨ps,h1,h2,_⟩:=h;obtain⟨a,cap,h3⟩:=h2.len;exact⟨a,cap,by rw[h3,←h1,DW]⟩
theorem Fe.EO (h:Fe w v ts)(hk:AX w w')(hs:w.heap.size≤w'.heap.size):Fe w' v ts:=by
 obtain⟨ps,h1,h2,h3,h4⟩:=h;refine⟨ps,h1,h2.only hs fun g hg=>?_,fun p hp=>(h3 p hp).EO hk hs,fun g hg=>?_⟩
 · obtain⟨cs,hc⟩:=h4 g hg;rw[hk _ (by simp[JD]) _ _ _ hc,hc]
 · obtain⟨cs,hc⟩:=h4 g hg;exact⟨cs,hk _ (by simp[JD]) _ _ _ hc⟩
theorem Fe.below (h:Fe w v ts)(hb:Below w.heap.size w w'):Fe w' v ts:=h.EO (AX.Ar hb) hb.size
theorem Fe.at {a:Option Addr}{n cap i:Nat}{t:TI}(h:Fe w (.slice a n cap) ts)(hi:ts[i]?=some t) :
 ∃g off vi,a=some ⟨g,off,none⟩∧g<w.heap.size∧Bi w vi t.1∧w.cell? ⟨g,off+i*2,none⟩=some vi∧w.cell? ⟨g,off+i*2+1,none⟩=some (.int .i64 t.2):=by
 obtain⟨ps,h1,h2,h3,h4⟩:=h;rw[←h1,GZ]at hi;obtain⟨p,hp,rfl⟩:=Option.map_eq_some_iff.1 hi;obtain⟨g,off,e1,e2,e3⟩:=AL.at h2 hp;exact⟨g,off,p.1,e1,e2,h3 p (CU hp),e3 0 _ rfl,e3 1 _ rfl⟩
end
def Any (S:Z6)(w:World)(B b sb n:Nat)(O:TI→Prop)(E:Nat):Prop:=(∃t rm lm,S.Live w B b sb n t rm O lm E)∨S.Over w B b sb n O E
set_option maxHeartbeats 4000000 in
theorem YI (S:Z6){w:World}{B b sb n:Nat}{O:TI→Prop}{E:Nat}(v:Value)(l:List Int)(h:Any S w B b sb n O E)(hO:∀u,O u→u.2≤9223372036854775000)(hv:CQ w v l)(hl:l.length≤9223372036854775807)(hB:B≤w.heap.size) :
 Calls Tryz.prog 16 #[Ag b,v] w fun e w'=>∃sb' t' rm' E' t0,e=.returned (Ag sb')∧S.Live w' B b sb' n t' rm' (Ce t') false E'∧O t0∧Ce t0 t'∧E'≤E+1∧Below B w w'∧AX w w':=by
 have cR:Calls Tryz.prog 42 #[Ag b,v] w fun e w'=>e=.returned (.tuple #[])∧(∃t' rm' E',S.Kn w' B b n t' rm' E'∧O t'∧E'≤E+1)∧Below B w w'∧AX w w':=by
  rcases h with⟨t,rm,lm,h⟩|h
  · exact S.Im v l h hv hl hB
  · exact S.Yt v l h hv hl hB
 clear h hv;go_enter Tryz.func16,Tryz.ntmps16;go_upto_region 2 with(go_at_call 42;refine cR.mono ?_;rintro e w1 ⟨rfl,⟨t0,og,E0,hk,h0,hE0⟩,hb1,hp1⟩);have cM:=S.mount hk (hO _ h0) (Ao hB hb1.size);have HB1:=Aa hb1;have UC:=Aa hp1;have HO0:=Aa h0;clear hk hb1 hp1 cR;go_upto_region 3 with(go_at_call 27;refine cM.mono ?_;rintro e w2 ⟨X3,t2,rfl,hl2,hk2,hb2,hp2⟩);have HB2:=Aa (HB1.out.trans hb2);have XT:=Aa (UC.out.trans hp2);have hn2:t2.2≤9223372036854775000:=by rw[←hk2.2];exact hO _ h0
 have cG:=S.again hl2 hn2 (Ao hB HB2.out.size);have mG:=Aa hk2;clear hl2 hb2 hp2 cM HB1 UC hk2 h0;go_upto_region 4 with(go_at_call 27;refine cG.mono ?_;rintro e w3 ⟨sb3,t3,rfl,hl3,hm3,hk3,hb3,hp3⟩);have HB3:=Aa (HB2.out.trans hb3);have LX:=Aa (XT.out.trans hp3);have HL3:=Aa hl3;have HM3:=Aa hm3;have HK3:=Aa hk3;have cT:=S.tree hl3;clear hl3 hm3 hk3 hb3 hp3 cG HB2 XT;go_wp2_with (first
  | (go_at_call 20;refine cT.mono ?_;rintro e w4 ⟨tb4,S4,rfl,hi4,hs4,hb4⟩;have cU:=S.tree (S.below HM3.out hb4))
  | (go_at_call 20;refine cU.mono ?_;rintro e w5 ⟨tb5,S5,rfl,hi5,hs5,hb5⟩;rw[←HK3.out.2]at hi5;have cS:=nD hi5 (Bl.below hi4 hb5) HK3.out.1.symm)
  | (go_at_call 21;refine cS.mono ?_;rintro e w6 ⟨rfl,hb6⟩))
 go_ret;have hb:=hb4.trans ((hb5.trans (hb6.mono hb5.size)).mono hb4.size);exact⟨X3,t2,og,E0,t0,rfl,S.below HL3.out hb,HO0.out,mG.out,hE0,HB3.out.trans (hb.mono (Ao hB HB3.out.size)),LX.out.trans (AX.Ar hb)⟩
set_option maxHeartbeats 8000000 in
theorem iM (S:Z6){w:World}{B b sb n:Nat}{t:TI}{rm:Int}{O:TI→Prop}{lm:Bool}{E:Nat}(hl:S.Live w B b sb n t rm O lm E)(v:Value)(ts:List TI)(hv:Fe w v ts)(hg:∀u∈ts,Cj u)(m0:Nat)
 (hex:∃j u,m0≤j∧ts[j]?=some u∧Ce t u) (hn:ts.length≤1000) :
 Calls Tryz.prog 17 #[Ag sb,v,.int .i64 (m0:Int)] w fun e w'=>∃(k:Nat) (u:TI),e=.returned (.int .i64 (k:Int))∧m0≤k∧ts[k]?=some u∧Ce t u∧Below w.heap.size w w':=by
 obtain⟨j,uj,hj,hju,hjl⟩:=hex;obtain⟨a,cap,rfl⟩:=hv.len;obtain⟨m,hm⟩:∃m,ts.length=m:=⟨_,rfl⟩;have HM:=Aa hm;have hjm:j<m:=by rw[←hm];exact(DL.1 hju).1
 rw[hm]at hv hn ⊢;have HL:=Aa hl;have HV:=Aa hv;have HG:=Aa hg;have HJU:=Aa hju;have HJL:=Aa hjl;have hgt:=(S.good hl).1;clear hm hl hv hg hju hjl;go_enter Tryz.func17,Tryz.ntmps17;go_upto_region 4 with fail;go_loopw [7] (fun iv wr=>∃k:Nat,m0≤k∧k≤j∧iv=.int .i64 k∧Below w.heap.size w wr) (fun iv wr=>m-(intOf iv).toNat)
 case atStart=>exact⟨m0,Ae _,hj,rfl,Ad _ _⟩
 case round =>
  obtain⟨k,hk0,hkj,rfl,hb⟩:=hrel;have hiz:(k:Int)<(m:Int):=by omega
  obtain⟨u,hu⟩:∃u,ts[k]?=some u:=⟨_,Co (by rw[HM.out];omega)⟩;obtain⟨g,off,vu,rfl,hgl,hvu,u0,u1⟩:=HV.out.at hu;obtain⟨Rb,hRb⟩:∃Rb:Bool,Rb=true↔X0 t.1 u.1 t.2 u.2:=by
   by_cases hx:X0 t.1 u.1 t.2 u.2
   · exact⟨true,by simp[hx]⟩
   · exact⟨false,by simp[hx]⟩
  have hgu:=HG.out u (CU hu);have hll:=hgu.len;have uS:=Aa (hRb.trans (dM hgt hgu));have Nj:Hid (∀W,Below w.heap.size w W→Below w.heap.size w W∧W.cell? ⟨g,off+k*2,none⟩=some vu∧W.cell? ⟨g,off+k*2+1,none⟩=some (.int .i64 u.2)):=Aa (fun W hW=>⟨hW,by rw[hW.cell (p:=⟨g,off+k*2,none⟩) hgl];exact u0,by rw[hW.cell (p:=⟨g,off+k*2+1,none⟩) hgl];exact u1⟩);have HVU:Hid (∀W,Below w.heap.size w W→Bi W vu u.1):=Aa (fun W hW=>hvu.kept hW);have XQ:Hid (∀W,Below w.heap.size w W→Calls Tryz.prog 20 #[Ag sb] W fun e w'=>∃tb S,e=.returned (Ag tb)∧Bl.Is w' tb t.1 t.2 S∧(∀k,S k→W.heap.size≤k)∧Below W.heap.size W w'):=Aa (fun W hW=>S.tree (S.below HL.out hW));have HAL:Hid (∀W tb S,Bl.Is W tb t.1 t.2 S→Below w.heap.size w W→Calls Tryz.prog 28 #[Ag tb,Bq vu u.2] W fun e w'=>e=.returned (.bool Rb)∧Below W.heap.size W w'):=Aa (fun W tb S h hW=>tF vu h (HVU.out W hW) hll Rb hRb);unfold Bq at HAL;have HU:=Aa hu;have HB:=Aa hb;clear hvu u0 u1 hu hRb hgu hb;go_upto_region 6 with fail;have hs0:=Nj.out wr.drew HB.out.drew;go_region_held3 (fun W=>Below w.heap.size w W∧W.cell? ⟨g,off+k*2,none⟩=some vu∧W.cell? ⟨g,off+k*2+1,none⟩=some (.int .i64 u.2)) (with_reducible first|assumption|(refine Nj.out _ ?_;with_reducible first|assumption|exact HB.out.drew|exact Cy ‹_›)) (first
   | (go_at_call 20;refine(XQ.out _ HB.out.drew).mono ?_;rintro e w4 ⟨tb4,S4,rfl,hi4,hs4,hb4⟩;have Aay:Below w.heap.size w w4:=Dk (Ae _) HB.out.drew hb4)
   | (go_at_call 28;refine(HAL.out _ tb4 S4 hi4 Aay).mono ?_;rintro e w5 ⟨rfl,hb5⟩;have AbG:Below w.heap.size w w5:=Aay.trans (hb5.mono Aay.size)))
  all_goals
   cases Rb with
   | true =>
    go_wp2_with fail;go_ret;exact⟨k,rfl,hk0,u.1,u.2,HU.out,by first|exact uS.out.1 rfl|exact uS.out.1 trivial,AbG⟩
   | false =>
    have hkne:k≠j:=fun e=>by
     subst e;have h1:=HU.out;rw[HJU.out]at h1;obtain rfl:=BS h1;have h2:=uS.out.2 HJL.out;cases h2
    go_wp2_with fail;go_roundw
    case rel=>exact⟨k+1,by omega,by omega,by first|rfl|go_num,AbG⟩
    case measure=>simp[intOf];omega
end Go.Proofs.YtdmkhmeaphaapaaGreat
namespace Go.Proofs.YtdmkhmeaphaapaaGreat
open Go.RowKit Go.Sort
structure dR where
 x:De
 sync:Bool
 cut:Bool
 N:Int
 yP:Bool
 kv:Value
 l:List Int
def Abh (o:dR):List Value:=Qk o.x++[.bool o.sync,.bool o.cut,.int .i64 o.N,.bool o.yP,o.kv]
structure ZM (w:World)(g p:Nat)(o:dR):Prop where
 cells:w.rangeAt g p (Abh o)
 nums:CQ w o.kv o.l
structure tO (o:dR):Prop where
 n0:-9223372036854775808≤o.N
 n1:o.N≤9223372036854775807
 s0:o.x.s.size≤9223372036854775807
 s1:o.x.ns.size≤9223372036854775807
 l0:o.l.length≤9223372036854775807
def Ku (w:World)(v:Value)(l:List dR):Prop:=
 (l=[]∧∃a cap,v=.slice a 0 cap) ∨
 (∃g off cap,g<w.heap.size∧v=.slice (some ⟨g,off,none⟩) l.length cap∧∀j o,l[j]?=some o→ZM w g (off+j*12) o)
theorem ZM.kept {w w':World}{g p:Nat}{o:dR}(h:ZM w g p o)(hg:g<w.heap.size)(hb:Below w.heap.size w w'):ZM w' g p o:=
 ⟨DJ h.cells hg hb,CQ.kept h.nums hb⟩
theorem Ku.kept {w w':World}{v:Value}{l:List dR}(h:Ku w v l)(hb:Below w.heap.size w w'):Ku w' v l:=by
 rcases h with h|⟨g,off,cap,hg,hv,hc⟩
 · exact Or.inl h
 · exact Or.inr ⟨g,off,cap,by have:=hb.size;omega,hv,fun j o hj=>(hc j o hj).kept hg hb⟩
theorem Ku.len {w:World}{v:Value}{l:List dR}(h:Ku w v l):∃a cap,v=.slice a l.length cap:=by
 rcases h with⟨rfl,a,cap,hv⟩|⟨g,off,cap,hg,hv,hc⟩
 · exact⟨a,cap,hv⟩
 · exact⟨_,cap,hv⟩
theorem Ku.at {w:World}{a:Option Addr}{n cap:Nat}{l:List dR}(h:Ku w (.slice a n cap) l){j:Nat}{o:dR}(hj:l[j]?=some o):∃g off,a=some ⟨g,off,none⟩∧g<w.heap.size∧ZM w g (off+j*12) o:=by
 rcases h with⟨rfl,_⟩|⟨g,off,cap',hg,hv,hc⟩
 · cases hj
 · injection hv with h1 h2 h3;exact⟨g,off,h1,hg,hc j o hj⟩
def uF (l:List dR)(k:Nat):Prop:=l.length≤k∧∀o∈l,o.x.s.size≤300∧o.x.ns.size≤300∧o.l.length≤100
theorem O5 {l:List dR}{k:Nat}{b:Bool}(h:b=true↔uF l k)(hn:¬uF l k):b=false:=by
 cases b
 · rfl
 · exact absurd (h.1 rfl) hn
set_option maxHeartbeats 4000000 in
theorem xI (v:Value)(l:List dR)(k:Nat)(w:World)(hv:Ku w v l)(hl:l.length≤9223372036854775807)(hk:k≤100)(b:Bool)(hb:b=true↔uF l k) :
 Calls Tryz.prog 7 #[v,.int .i64 k] w (fun e w'=>e=.returned (.bool b)∧w=w'):=by
 have mf:=Aa hb;clear hb;obtain⟨a,cap,rfl⟩:=hv.len;obtain⟨n,hn⟩:∃n,l.length=n:=⟨_,rfl⟩;have HV:=Aa hv;have HN:=Aa hn;rw[hn]at hl ⊢;clear hv hn;go_enter Tryz.func7,Tryz.ntmps7;go_wp2;go_loopw [5] (fun iv wr=>∃i:Nat,i≤n∧i≤200∧iv=.int .i64 i∧(∀o∈l.take i,o.x.s.size≤300∧o.x.ns.size≤300∧o.l.length≤100)∧wr=w) (fun iv _=>201-(intOf iv).toNat)
 case atStart=>exact⟨0,by omega,by omega,rfl,(by simp),rfl⟩
 case round =>
  obtain⟨i,hi,hi3,rfl,hall,rfl⟩:=hrel;have eF:=Aa hall;clear hall;by_cases hin:i<n
  · have hiz:(i:Int)<(n:Int):=by omega
    by_cases Ac6:i<200
    · have AcA:(i:Int)<200:=by omega
      obtain⟨o,ho⟩:∃o,l[i]?=some o:=⟨_,Co (by rw[HN.out];exact hin)⟩;obtain⟨g,off,rfl,hg,hop⟩:=HV.out.at ho;obtain⟨ak,ck,hk⟩:=hop.nums.len;have c3:=hop.cells 3 (.string o.x.s) rfl;have c4:=hop.cells 4 (.string o.x.ns) rfl;have c11:=hop.cells 11 o.kv rfl;rw[hk]at c11;have UT:Hid (l.take (i+1)=l.take i++[o]):=Aa (GQ ho);have Aa0:Hid (o∈l):=Aa (CU ho);clear hop hk ho hg;obtain⟨x,hx⟩:∃x,o.x=x:=⟨_,rfl⟩;obtain⟨kl,hkl⟩:∃kl,o.l.length=kl:=⟨_,rfl⟩;have HX:=Aa hx;have HKL:=Aa hkl;simp only[hx,hkl]at c3 c4 c11;obtain⟨xk,xd,eP,xs,Z5,xi,eO⟩:=x;simp only at c3 c4;obtain⟨z,hz⟩:∃z,xs.size=z:=⟨_,rfl⟩;obtain⟨y,hy⟩:∃y,Z5.size=y:=⟨_,rfl⟩;have HZ:=Aa hz;have HY:=Aa hy;clear hx hkl;by_cases hz2:(300:Int)<(z:Int)
      · obtain rfl:=O5 mf.out (fun h=>by have h9:=(h.2 o Aa0.out).1;rw[HX.out]at h9;have:=HZ.out;simp only at h9;omega);go_wp2;go_ret;exact⟨rfl,rfl⟩
      · by_cases hy2:(300:Int)<(y:Int)
        · obtain rfl:=O5 mf.out (fun h=>by have h9:=(h.2 o Aa0.out).2.1;rw[HX.out]at h9;have:=HY.out;simp only at h9;omega);go_wp2;go_ret;exact⟨rfl,rfl⟩
        · by_cases hy1:(100:Int)<(kl:Int)
          · obtain rfl:=O5 mf.out (fun h=>by have:=(h.2 o Aa0.out).2.2;have:=HKL.out;omega);go_wp2;go_ret;exact⟨rfl,rfl⟩
          · have HOK:Hid (∀q∈l.take (i+1),q.x.s.size≤300∧q.x.ns.size≤300∧q.l.length≤100):=Aa (fun q hq=>by
             rw[UT.out]at hq;rcases EI.1 hq with hq|hq
             · exact eF.out q hq
             · rw[Cn.1 hq,HX.out,HKL.out];have:=HZ.out;have:=HY.out;simp only;omega)
            go_wp2;go_roundw
            case rel=>exact⟨i+1,by omega,by omega,by first|rfl|go_num,HOK.out,by first|rfl|trivial⟩
            case measure=>simp[intOf];omega
    · have AcA:¬((i:Int)<200):=by omega
      have hbig:¬((n:Int)≤(k:Int)):=by omega
      have hbd:decide ((n:Int)≤(k:Int))=false:=Bb hbig;obtain rfl:=O5 mf.out (fun h=>by have:=h.1;have:=HN.out;omega);go_wp2;go_ret;exact⟨rfl,rfl⟩
  · have hge:¬((i:Int)<(n:Int)):=by omega
    have ZT:Hid (l.take i=l):=Aa (CV (by rw[HN.out];omega));by_cases hnb:(n:Int)≤(k:Int)
    · obtain rfl:b=true:=mf.out.2 ⟨by rw[HN.out];omega,by have:=eF.out;rwa[ZT.out]at this⟩;go_wp2;go_ret;exact⟨rfl,rfl⟩
    · have hbd:decide ((n:Int)≤(k:Int))=false:=Bb hnb;obtain rfl:=O5 mf.out (fun h=>by have:=h.1;have:=HN.out;omega);go_wp2;go_ret;exact⟨rfl,rfl⟩
end Go.Proofs.YtdmkhmeaphaapaaGreat
namespace Go.Proofs.YtdmkhmeaphaapaaGreat
open Go.RowKit Go.Sort
theorem NV (l:List Az)(d:Int):A9 l d≠13:=by
 unfold A9
 repeat' split
 all_goals decide
theorem TK (l:List Az)(d:Int)(s:ByteArray):(BK l d s).2≠13:=by
 have h:=NV l d;unfold BK;split
 · show(0:Int)≠13;decide
 · dsimp only
   split
   · decide
   · exact h
theorem Wd (s:ByteArray)(sh:Int):Ec s sh≠13:=by
 unfold Ec
 repeat' split
 all_goals decide
theorem rH (l:List Az)(nx:Int)(o:yU):(UB l nx o).2.2≠13:=by
 unfold UB;split
 · unfold D7
   repeat' split
   all_goals first|exact NV _ _|exact Wd _ _|(dsimp only;decide)
 · split
   · unfold BM
     repeat' split
     all_goals first|exact TK _ _ _|(dsimp only;decide)
   · unfold D5
     repeat' split
     all_goals first|exact TK _ _ _|exact NV _ _|exact Wd _ _|(dsimp only;decide)
theorem sw (t:TI)(x:De):(EM t.1 t.2 x).2.2≠13:=by
 unfold EM;split
 · exact rH _ _ _
 · dsimp only;decide
theorem iY (t:TI)(sz rm:Int)(x:De):(Ck t sz rm x).2.2≠13:=by
 have h:=sw t x;unfold Ck
 repeat' split
 all_goals first|exact h|(dsimp only;decide)
def Gg (O:TI→Prop)(ts:List TI)(D8:Nat):Prop:=∀u,O u→∃j uj,D8≤j∧ts[j]?=some uj∧Ce u uj
def Lx (ts:List TI)(t:TI):Prop:=∃u,ts[ts.length-1]?=some u∧Ce t u
section
variable {O O':TI→Prop}{ts:List TI}{D8:Nat}{t t' u:TI}
theorem Lx.snoc (h:Ce t u):Lx (ts++[u]) t:=⟨u,by simp,h⟩
theorem Lx.pos (h:Lx ts t):ts≠[]:=by
 rintro rfl;obtain⟨u,h1,_⟩:=h;cases h1
theorem Gg.one (h:Lx ts t)(hs:D8<ts.length):Gg (Ce t) ts D8:=fun u hu=>by
 obtain⟨v,h1,h2⟩:=h;exact⟨ts.length-1,v,by omega,h1,hu.symm.trans h2⟩
theorem Gg.more (h:Gg O ts D8)(r:List TI):Gg O (ts++r) D8:=fun u hu=>by
 obtain⟨j,v,h1,h2,h3⟩:=h u hu;exact⟨j,v,h1,by rw[LG (DL.1 h2).1];exact h2,h3⟩
theorem Gg.next (h:Gg O ts D8)(hl:Lx ts t)(hs:D8<ts.length)(hO:∀u,O' u→O u∨Ce t u∨Ce t' u)(hu:Ce t' u):Gg O' (ts++[u]) D8:=fun v hv=>by
 rcases hO v hv with h1|h1|h1
 · exact h.more [u] v h1
 · exact(Gg.one hl hs).more [u] v h1
 · exact⟨ts.length,u,by omega,by simp,h1.symm.trans hu⟩
theorem Gg.same (h:Gg O ts D8)(hl:Lx ts t)(hs:D8<ts.length)(hO:∀u,O' u→O u∨Ce t u∨Ce t u):Gg O' ts D8:=fun v hv=>by
 rcases hO v hv with h1|h1|h1
 · exact h v h1
 · exact Gg.one hl hs v h1
 · exact Gg.one hl hs v h1
end
def XJ (ts:List TI)(D8 i:Nat):Prop:=D8<ts.length∧ts.length≤1+i∧∀u∈ts,Cj u∧u.2≤1+i
theorem XJ.up {ts:List TI}{D8 i j:Nat}(h:XJ ts D8 i)(hj:i≤j):XJ ts D8 j:=⟨h.1,by have:=h.2.1;omega,fun u hu=>⟨(h.2.2 u hu).1,by have:=(h.2.2 u hu).2;omega⟩⟩
theorem XJ.snoc {ts:List TI}{D8 i:Nat}{u:TI}(h:XJ ts D8 i)(hg:Cj u)(hu:u.2≤1+i+1):XJ (ts++[u]) D8 (i+1):=
 ⟨by have:=h.1;simp;omega,by have:=h.2.1;simp;omega,fun v hv=>by
  rcases EI.1 hv with h1|h1
  · exact(h.up (D9 i)).2.2 v h1
  · rw[Cn.1 h1];exact⟨hg,by omega⟩⟩
section
variable (S:Z6)
def RO (B b sb:Nat)(W:World)(ts:List TI)(D8:Nat)(T:TI)(rm:Int)(i:Nat):Prop:=
 ∃t O lm E,S.Live W B b sb 120 t rm O lm E∧Gg O ts D8∧Ce t T∧Lx ts t∧E≤1+i∧Cj T∧T.2≤1+i
def ag (B b sb:Nat)(W:World)(ts:List TI)(D8:Nat)(i:Nat):Prop:=
 ∃O E,S.Over W B b sb 120 O E∧Gg O ts D8∧E≤1+i
def ae (B b sb:Nat)(W:World)(ts:List TI)(D8:Nat)(T:TI)(rm:Int)(i:Nat):Prop:=RO S B b sb W ts D8 T rm i∨ag S B b sb W ts D8 i
variable {S}
variable {B b sb:Nat}{W W':World}{ts:List TI}{D8:Nat}{T:TI}{rm:Int}{i:Nat}
theorem RO.off (h:RO S B b sb W ts D8 T rm i)(ho:Off Mh W W')(hs:W.heap.size≤W'.heap.size):RO S B b sb W' ts D8 T rm i:=by
 obtain⟨t,O,lm,E,h1,h2⟩:=h;exact⟨t,O,lm,E,S.off h1 ho hs,h2⟩
theorem ag.off (h:ag S B b sb W ts D8 i)(ho:Off Mh W W')(hs:W.heap.size≤W'.heap.size):ag S B b sb W' ts D8 i:=by
 obtain⟨O,E,h1,h2⟩:=h;exact⟨O,E,S.Abi h1 ho hs,h2⟩
theorem ae.off (h:ae S B b sb W ts D8 T rm i)(ho:Off Mh W W')(hs:W.heap.size≤W'.heap.size):ae S B b sb W' ts D8 T rm i:=h.imp (fun h=>h.off ho hs) (fun h=>h.off ho hs)
theorem RO.below (h:RO S B b sb W ts D8 T rm i)(hb:Below W.heap.size W W'):RO S B b sb W' ts D8 T rm i:=h.off (M5 hb _) hb.size
theorem ag.below (h:ag S B b sb W ts D8 i)(hb:Below W.heap.size W W'):ag S B b sb W' ts D8 i:=h.off (M5 hb _) hb.size
theorem ae.below (h:ae S B b sb W ts D8 T rm i)(hb:Below W.heap.size W W'):ae S B b sb W' ts D8 T rm i:=h.off (M5 hb _) hb.size
theorem RO.up (h:RO S B b sb W ts D8 T rm i){j:Nat}(hj:i≤j):RO S B b sb W ts D8 T rm j:=by
 obtain⟨t,O,lm,E,h1,h2,h3,h4,h5,h6,h7⟩:=h;exact⟨t,O,lm,E,h1,h2,h3,h4,by omega,h6,by omega⟩
theorem ag.up (h:ag S B b sb W ts D8 i){j:Nat}(hj:i≤j):ag S B b sb W ts D8 j:=by
 obtain⟨O,E,h1,h2,h3⟩:=h;exact⟨O,E,h1,h2,by omega⟩
theorem ae.up (h:ae S B b sb W ts D8 T rm i){j:Nat}(hj:i≤j):ae S B b sb W ts D8 T rm j:=h.imp (fun h=>h.up hj) (fun h=>h.up hj)
theorem AaO {N:Int}(h:ae S B b sb W ts D8 T rm i)(h1:-9223372036854775808≤N)(h2:N≤9223372036854775807):Calls Tryz.prog 11 #[Ag b,.int .i64 N] W fun e w'=>e=.returned (.tuple #[])∧ae S B b sb w' ts D8 T rm i∧Below B W w'∧AX W w':=by
 rcases h with⟨t,O,lm,E,g1,g2⟩|⟨O,E,g1,g2⟩
 · exact(S.cut g1 h1 h2).mono fun e w' ⟨a1,a2,a3,a4⟩=>⟨a1,Or.inl ⟨t,O,true,E,a2,g2⟩,a3,a4⟩
 · exact(S.AbQ g1 h1 h2).mono fun e w' ⟨a1,a2,a3,a4⟩=>⟨a1,Or.inr ⟨O,E,a2,g2⟩,a3,a4⟩
theorem sI (h:RO S B b sb W ts D8 T rm i):Calls Tryz.prog 12 #[Ag sb] W fun e w'=>e=.returned (.bool false)∧Below W.heap.size W w':=by
 obtain⟨t,O,lm,E,g1,g2⟩:=h;exact S.over g1
theorem sH (h:ag S B b sb W ts D8 i):Calls Tryz.prog 12 #[Ag sb] W fun e w'=>e=.returned (.bool true)∧Below W.heap.size W w':=by
 obtain⟨O,E,g1,g2⟩:=h;exact S.yz g1
theorem sG (h:RO S B b sb W ts D8 T rm i)(hB:B≤W.heap.size):Calls Tryz.prog 13 #[Ag sb] W fun e w'=>Below B W w'∧AX W w'∧((e=.returned (.int .i64 0)∧RO S B b sb w' ts (ts.length-1) T rm i)∨(e=.returned (.int .i64 13)∧ag S B b sb w' ts D8 i)):=by
 obtain⟨t,O,lm,E,g1,g2,g3,g4,g5,g6⟩:=h;refine(S.sync g1 hB).mono ?_;rintro e w' ⟨a1,a2,⟨rfl,a3⟩|⟨_,rfl,a3⟩⟩
 · refine⟨a1,a2,Or.inl ⟨rfl,t,_,lm,E,a3,Gg.one g4 ?_,g3,g4,g5,g6⟩⟩;have:=List.length_pos_iff.2 g4.pos;omega
 · exact⟨a1,a2,Or.inr ⟨rfl,O,E,a3,g2,g5⟩⟩
theorem sF (h:ag S B b sb W ts D8 i)(hB:B≤W.heap.size):Calls Tryz.prog 13 #[Ag sb] W fun e w'=>e=.returned (.int .i64 13)∧Below W.heap.size W w':=by
 obtain⟨O,E,g1,g2⟩:=h;exact S.yw g1 hB
theorem AaN (x:De)(h:RO S B b sb W ts D8 T rm i)(hs:D8<ts.length)(hi:i≤1000)(h1:x.s.size≤9223372036854775807)(h2:x.ns.size≤9223372036854775807)(hB:B≤W.heap.size) :
 Calls Tryz.prog 14 #[Ag sb,Ga x] W fun e w'=>Below B W w'∧AX W w' ∧
  ((e=.returned (.tuple #[.int .i64 (Ck T 59 rm x).2.1,.int .i64 (Ck T 59 rm x).2.2])∧(((Ck T 59 rm x).2.2=0∧RO S B b sb w' (ts++[(Ck T 59 rm x).1.1]) D8 (Ck T 59 rm x).1.1 (Ck T 59 rm x).1.2 (i+1))∨((Ck T 59 rm x).2.2≠0∧RO S B b sb w' ts D8 (Ck T 59 rm x).1.1 (Ck T 59 rm x).1.2 (i+1)))) ∨
   (e=.returned (.tuple #[.int .i64 0,.int .i64 13])∧ag S B b sb w' (ts++[(Ck T 59 rm x).1.1]) D8 (i+1))):=by
 obtain⟨t,O,lm,E,g1,g2,g3,g4,g5,g6,g7⟩:=h;have hgt:=(S.good g1).1;obtain⟨k1,k2,k3⟩:=Yn g3.symm g6 hgt 59 rm x;have hgr:=Yp g6 59 rm x;have hgw:=Yo T 59 rm x;have ht2:=g3.2;refine(S.do' x g1 h1 h2 (by omega) (by omega) hB).mono ?_;rw[show(((120/2:Nat):Int)-1)=59 from rfl];rintro e w' ⟨a1,a2,O',E',a3,a4,⟨rfl,a5⟩|⟨_,rfl,a5⟩⟩
 · refine⟨a1,a2,Or.inl ⟨by rw[k1],?_⟩⟩;by_cases h0:(Ck T 59 rm x).2.2=0
   · refine Or.inl ⟨h0,_,O',lm,E',by rw[←k2];exact a5,Gg.next g2 g4 hs a4 k3.symm,k3.symm,Lx.snoc k3.symm,by omega,hgr,by omega⟩
   · have h0':(Ck t 59 rm x).2.2≠0:=by rw[k1];exact h0
     have he:=fB h0';rw[he]at a4 a5 k3;exact Or.inr ⟨h0,t,O',lm,E',by rw[←k2];exact a5,Gg.same g2 g4 hs a4,k3.symm,g4,by omega,hgr,by omega⟩
 · exact⟨a1,a2,Or.inr ⟨rfl,O',E',a5,Gg.next g2 g4 hs a4 k3.symm,by omega⟩⟩
theorem AaM (x:De)(h:ag S B b sb W ts D8 i)(hB:B≤W.heap.size):Calls Tryz.prog 14 #[Ag sb,Ga x] W fun e w'=>e=.returned (.tuple #[.int .i64 0,.int .i64 13])∧Below W.heap.size W w':=by
 obtain⟨O,E,g1,g2⟩:=h;exact S.doO x g1 hB
def CrN (S:Z6)(B b sb:Nat)(W:World)(ts:List TI)(D8:Nat)(i:Nat):Prop:=
 ∃t rm E,S.Live W B b sb 120 t rm (Ce t) false E∧E≤1+i∧∃j u,D8≤j∧ts[j]?=some u∧Ce t u
theorem dx (v:Value)(l:List Int)(h:ae S B b sb W ts D8 T rm i)(hts:XJ ts D8 i)(hi:i≤1000)(hv:CQ W v l)(hl:l.length≤9223372036854775807)(hB:B≤W.heap.size) :
 Calls Tryz.prog 16 #[Ag b,v] W fun e w'=>∃sb',e=.returned (Ag sb')∧CrN S B b sb' w' ts D8 (i+1)∧Below B W w'∧AX W w':=by
 obtain⟨O,E,g1,g2,g3⟩:∃O E,Any S W B b sb 120 O E∧Gg O ts D8∧E≤1+i:=by
  rcases h with⟨t,O,lm,E,g1,g2,g3,g4,g5,_⟩|⟨O,E,g1,g2,g5⟩
  · exact⟨O,E,Or.inl ⟨t,_,lm,g1⟩,g2,g5⟩
  · exact⟨O,E,Or.inr g1,g2,g5⟩
 refine(YI S v l g1 (fun u hu=>?_) hv hl hB).mono ?_
 · obtain⟨j,uj,_,h2,h3⟩:=g2 u hu;have h4:=(hts.2.2 uj (CU h2)).2;rw[h3.2];omega
 · rintro e w' ⟨sb',t',rm',E',t0,rfl,a1,a2,a3,a4,a5,a6⟩;obtain⟨j,uj,b1,b2,b3⟩:=g2 t0 a2;exact⟨sb',rfl,⟨t',rm',E',a1,by omega,j,uj,b1,b2,a3.symm.trans b3⟩,a5,a6⟩
theorem sD (v:Value)(h:CrN S B b sb W ts D8 i)(hts:XJ ts D8 i)(hi:i≤900)(hv:Fe W v ts) :
 Calls Tryz.prog 17 #[Ag sb,v,.int .i64 (D8:Int)] W fun e w'=>∃(k:Nat) (u:TI),e=.returned (.int .i64 (k:Int))∧ts[k]?=some u∧Below W.heap.size W w'∧(∃rm,0≤rm∧rm≤400∧RO S B b sb w' [u] 0 u rm i∧∀W2,RO S B b sb W2 [u] 0 u rm i→True):=by
 obtain⟨t,rm,E,g1,g2,g3⟩:=h;refine(iM S g1 v ts hv (fun u hu=>(hts.2.2 u hu).1) D8 g3 (by have:=hts.2.1;omega)).mono ?_;rintro e w' ⟨k,u,rfl,a1,a2,a3,a4⟩;have hu:=hts.2.2 u (CU a2);exact⟨k,u,rfl,a2,a4,rm,(S.good g1).2.1,(S.good g1).2.2,⟨t,_,false,E,S.below g1 a4,Gg.one ⟨u,rfl,a3⟩ (by simp),a3,⟨u,rfl,a3⟩,g2,hu.1,hu.2⟩,fun _ _=>trivial⟩
theorem xO (h:RO S B b sb W ts D8 T rm i):Calls Tryz.prog 18 #[Ag sb] W fun e w'=>e=.returned (.int .i64 rm)∧Below W.heap.size W w':=by
 obtain⟨t,O,lm,E,g1,g2⟩:=h;exact S.room g1
end
set_option maxHeartbeats 4000000 in
theorem jJ (w:World):Calls Tryz.prog 10 #[.int .i64 (120:Int)] w fun e w'=>e=.returned (.tuple #[Q7 (.slice none 0 0) 1 59 58,.bool true])∧Below w.heap.size w w':=by
 have cN:=wD;unfold Bq at cN;have HB0:Hid (Below w.heap.size w (w.alloc (.cells #[.slice none 0 0,.int .i64 0,.int .i64 0,.int .i64 0] 33))):=Aa ((Ad _ w).alloc (Ae _) _);have XR:Hid ((w.alloc (.cells #[.slice none 0 0,.int .i64 0,.int .i64 0,.int .i64 0] 33)).heap[w.heap.size]?=some (.cells #[.slice none 0 0,.int .i64 0,.int .i64 0,.int .i64 0] 33 (0,0))):=Aa (Ai _ _);go_enter Tryz.func10,Tryz.ntmps10;go_upto_region 4 with fail;generalize (w.alloc (.cells #[.slice none 0 0,.int .i64 0,.int .i64 0,.int .i64 0] 33))=W0 at *;generalize hbS:w.heap.size=bS at *;have ma:=Aa hbS;clear hbS;have HR:Hid (∀W:World,Below W0.heap.size W0 W→W.heap[bS]?=some (.cells #[.slice none 0 0,.int .i64 0,.int .i64 0,.int .i64 0] 33 (0,0))∧Below bS w W):=Aa (fun W hW=>⟨(hW.block _ (Ab XR.out)).trans XR.out,HB0.out.trans (hW.mono (by have:=HB0.out.size;have:=ma.out;omega))⟩);go_wp2_with (go_at_call 30;refine(cN _).mono ?_;rintro e w1 ⟨rfl,hb1⟩;obtain⟨hr1,hb1'⟩:=HR.out _ hb1;obtain⟨⟨s0,s1,s2,s3⟩,f0,f1,f2,f3⟩:=Cg hr1)
 (try simp only[Exit.inBlock,Exit.then])
 have hp:=Gj (a:=1) (b:=59) (c:=58) hr1 (Bi.nil w1);have UC:=Aa hp.1;have LX:Hid (Below bS w ((((w1.setCell ⟨bS,0,none⟩ (.slice none 0 0)).setCell ⟨bS,1,none⟩ (.int .i64 1)).setCell ⟨bS,2,none⟩ (.int .i64 59)).setCell ⟨bS,3,none⟩ (.int .i64 58))):=Aa (En hb1' (Ae _));clear hp hr1 hb1 hb1' s0 s1 s2 s3 f0 f1 f2 f3;generalize ((((w1.setCell ⟨bS,0,none⟩ (.slice none 0 0)).setCell ⟨bS,1,none⟩ (.int .i64 1)).setCell ⟨bS,2,none⟩ (.int .i64 59)).setCell ⟨bS,3,none⟩ (.int .i64 58))=W9 at *;obtain⟨⟨z0,z1,z2,z3⟩,_⟩:=Cg UC.out;refine Bv (v:=.tuple #[Q7 (.slice none 0 0) 1 59 58,.bool true]) ?_ rfl ⟨rfl,by first|exact LX.out|(rw[ma.out];exact LX.out)⟩;rw[CZ rfl];go_simp
theorem Kk:MS Tryz.prog 36 31 2:=
 ⟨Tryz.underlying36,by
  have h:(Tryz.prog.info? 31).map (fun i=>(i.zero,i.size,i.bytes))=some (some (.agg #[.slice none 0 0,.int .i64 0]),2,32):=by kernel_rfl
  obtain⟨i0,h1,h2,h3,h4⟩:=info_parts h;exact⟨i0,_,32,h1,h2,h3,h4,rfl,by decide⟩,by decide⟩
end Go.Proofs.YtdmkhmeaphaapaaGreat
