/- Kit. -/
import Derived.Test.YtdmkhmeaphaapaaGreatCZ2
import Derived.Deep.AppendLies
import Derived.Deep.RegionLaw
import Derived.PlainAid
import Derived.Laws.AppendOwnNone
import Derived.Laws.NewBlocks
import Derived.Maps.AppendAt
import Derived.Lib.SliceRun
import Derived.Test.YtdmkhmeaphaapaaGreatCZ0
set_option maxRecDepth 100000
set_option linter.unusedVariables false
set_option linter.unusedSimpArgs false
namespace Go.Proofs.YtdmkhmeaphaapaaGreat
open Go.RowKit Go.Sort
def Ou (wB:World)(rB:Option Nat)(mB uB b:Nat)(v:Value)(xs:List Int)(w:World)(e:Ending)(w':World):Prop:=e=.returned (.tuple #[])∧∃ys,ys.Perm xs∧Ed ys.length ys∧EE wB rB mB uB b w' v ys
set_option maxHeartbeats 2000000 in
theorem zK (wB:World)(rB:Option Nat)(mB uB b:Nat)(v:Value)(xs:List Int)(j:Nat)(w:World)(h:EE wB rB mB uB b w v xs)(hj:j<xs.length)(hu:uO xs j)(hl:xs.length≤1000) :
 Calls Tryz.prog 194 #[.iface 254 (.pointer (some ⟨b,2,none⟩)),.int .i64 j] w (Ou wB rB mB uB b v xs w):=by
 unfold Ou;obtain⟨n,hn⟩:∃n,xs.length=n:=⟨_,rfl⟩;have HN:=Aa hn;rw[hn]at hj hl;have HU:=Aa hu;have JV:=Aa h;clear hn hu h;go_enter Tryz.func194,Tryz.ntmps194;go_wp2;go_loopg [1] j (fun gk jv wr=>∃(k:Nat) (ys:List Int),k=gk∧k<n∧jv=.int .i64 k∧ys.Perm xs∧uO ys k∧EE wB rB mB uB b wr v ys)
 case atStart=>exact⟨j,xs,rfl,hj,rfl,List.Perm.refl _,HU.out,JV.out⟩
 case round =>
  obtain⟨k,ys,rfl,hk,rfl,hp,hui,hbx⟩:=hrel;have HP:=Aa hp;have HI:=Aa hui;have HB:=Aa hbx;have hyl:Hid (ys.length=n):=Aa (hp.length_eq.trans HN.out);clear hp hui hbx;by_cases hk0:k=0
  · subst hk0;go_wp2;go_end0;exact⟨rfl,ys,HP.out,OD HI.out (Or.inl rfl),HB.out⟩
  · have hk1:1≤k:=by omega
    have hkz:(((k:Int)-1)/2==(k:Int))=false:=by rw[Ba];omega
    obtain⟨c0,f0⟩:=HB.out.cell;have hne:ys≠[]:=by
     intro e;have:=hyl.out;rw[e]at this;simp at this;omega
    obtain⟨g,cap,hv,hg,hgl,hcap⟩:=HB.out.2.head hne;rw[hyl.out]at hv hcap;subst hv;obtain⟨i,hi⟩:∃i,(k-1)/2=i:=⟨_,rfl⟩;have hiz:((k:Int)-1)/2=(i:Int):=by omega
    have hin:i<n:=by omega
    have hik:i≠k:=by omega
    have m1:=KH b _ wr c0;rw[hiz]at hkz;have HIK:=Aa hi;clear hne hi;cases hb:decide (ys.getD k 0<ys.getD i 0) with
    | false =>
     have cl:=Tj (b+1) g n cap k i ys wr HB.out.2 hyl.out hk hin false hb;have HD:Hid (ys.getD i 0≤ys.getD k 0):=Aa (by have:=of_decide_eq_false hb;omega);clear hb;go_wp2_with (go_at_call 238;refine cl.mono ?_;rintro e w' ⟨rfl,q,rfl⟩);go_end0;exact⟨rfl,ys,HP.out,OD HI.out (Or.inr (by rw[HIK.out];exact HD.out)),HB.out.drewN q⟩
    | true =>
     have cl:=Tj (b+1) g n cap k i ys wr HB.out.2 hyl.out hk hin true hb;have HD:Hid (ys.getD k 0<ys.getD i 0):=Aa (FL hb);clear hb;go_wp2_with (go_at_call 238;refine cl.mono ?_;rintro e w' ⟨rfl,q,rfl⟩);have HM:Hid (∀q,(method 411 254 (.pointer (some ⟨b,2,none⟩)) "Swap").run Tryz.prog (wr.drewN q)=.ok (240,.slice (some ⟨g,0,none⟩) n cap) (wr.drewN q)):=Aa (fun q=>KG b _ (wr.drewN q) (HB.out.drewN q).cell.1);have HS:Hid (∀q,Calls Tryz.prog 240 #[.slice (some ⟨g,0,none⟩) n cap,.int .i64 i,.int .i64 k] (wr.drewN q) fun e w'=>e=.returned (.tuple #[])∧Dw (b+1) w' (.slice (some ⟨g,0,none⟩) n cap) (Qx ys i k)∧wr.grownBy w' (some g)):=Aa (fun q=>(WC (b+1) g n cap i k ys (wr.drewN q) (HB.out.drewN q).2 hg hyl.out hin hk).mono fun e w' ⟨h1,h2,h3⟩=>⟨h1,h2,MF h3⟩);go_wp2_with (go_at_call 238;refine cl.mono ?_;rintro e w' ⟨rfl,q,rfl⟩);rw[HM.out q];have cs:=HS.out q;go_wp2_with (go_at_call 240;refine cs.mono ?_;rintro e w2 ⟨rfl,ho2,hb2⟩);have HB2:=Aa hb2;have JQ:=Aa ho2;clear hb2 ho2 cs;go_roundg i
     case measure=>omega
     case rel=>exact⟨i,Qx ys i k,rfl,hin,by first|rfl|rw[hiz],(OH (by rw[hyl.out];exact hin) (by rw[hyl.out];exact hk)).trans HP.out,by have:=Ya HI.out hk1 (by rw[hyl.out];exact hk) (by rw[HIK.out];exact HD.out);rw[HIK.out]at this;exact this,HB.out.kept HB2.out JQ.out⟩
def LB (n:Nat)(xs ys:List Int):Prop:=ys.Perm xs∧∀k,n≤k→ys.getD k 0=xs.getD k 0
theorem LB.swap {n:Nat}{xs ys:List Int}(h:LB n xs ys){i j:Nat}(hi:i<n)(hj:j<n)(hn:n≤ys.length):LB n xs (Qx ys i j):=
 ⟨(OH (by omega) (by omega)).trans h.1,fun k hk=>by rw[FC (by omega) (by omega),if_neg (by omega),if_neg (by omega)];exact h.2 k hk⟩
theorem Tryz.Xi:(Tryz.prog.info? 3).map (fun i=>(i.zero,i.size,i.bytes))=some (some (.int .i64 0),1,8):=by kernel_rfl
theorem Dw.more {B:Nat}{w:World}{v:Value}{xs:List Int}{x:Int}(h:w.ownsRow B 3 1 v (xs.length+1) (xs.map (Value.int .i64)++[.int .i64 x])):Dw B w v (xs++[x]):=by
 unfold Dw;rw[A7,RP,List.map_append];exact h
theorem QS {a b c:World}{r:Option Nat}(h:a.grownBy b r)(k:b.grownBy c r):a.grownBy c r:=⟨k.os.trans h.os,k.tape.trans h.tape,k.output.trans h.output,Ao h.size k.size,fun i hi hn=>(k.block i (by have:=h.size;omega) hn).trans (h.block i hi hn)⟩
theorem WB (x:Int)(w:World):(Instr.typeAssert (.iface 3 (.int .i64 x)) 20 3 false).run Tryz.prog w=.ok (.int .i64 x) w:=by kernel_rfl
def JN (wB:World)(rB:Option Nat)(mB uB b:Nat)(xs:List Int)(x:Int)(w:World)(e:Ending)(w':World):Prop:=e=.returned (.tuple #[])∧∃v',EE wB rB mB uB b w' v' (xs++[x])
set_option maxHeartbeats 2000000 in
theorem aX (wB:World)(rB:Option Nat)(mB uB b:Nat)(v:Value)(xs:List Int)(x:Int)(w:World)(h:EE wB rB mB uB b w v xs)(hl:xs.length≤1000) :
 Calls Tryz.prog 243 #[.pointer (some ⟨b,2,none⟩),.iface 3 (.int .i64 x)] w (JN wB rB mB uB b xs x w):=by
 unfold JN;obtain⟨i0,hi,hz0,hz1,hz2⟩:=info_parts Tryz.Xi;have hbl:b<w.heap.size:=h.lt;have HB:=Aa h;obtain⟨c0,f0⟩:=h.cell;have d0:w.drew.cell? ⟨b,2,none⟩=some v:=c0;have NJ:Hid (Dw (b+1) (w.alloc (.cells #[.int .i64 x] 3)).drew v xs):=Aa (h.own.below (((Ad _ _).alloc (Ae _) _).drew));have HOB:Hid (Dw (b+1) (w.drew.alloc (.cells #[.int .i64 x] 3)) v xs):=Aa (h.own.below (((Ad _ _).drew.alloc (Ae _) _)));have j3:(w.alloc (.cells #[.int .i64 x] 3)).cell? ⟨b,2,none⟩=some v:=by rw[Fj (w:=w) (Ct w _ b hbl)];exact c0
 have j4:(w.alloc (.cells #[.int .i64 x] 3)).drew.cell? ⟨b,2,none⟩=some v:=j3;have TB:b+1≤(w.alloc (.cells #[.int .i64 x] 3)).drew.heap.size:=by show b+1≤(w.heap.push _).size;simp;omega
 have Qq:Hid (w.heap.size≤(w.alloc (.cells #[.int .i64 x] 3)).drew.heap.size):=Aa (by show _≤(w.heap.push _).size;simp);have zw:Hid ((w.alloc (.cells #[.int .i64 x] 3)).drew.heap[b]?=some (.cells (O0 mB uB v) 94 (0,0))):=Aa (by
  show(w.alloc _).heap[b]?=_
  rw[Ct w _ b hbl];exact h.at')
 obtain⟨a2,cap2,hv2⟩:=h.own.len;obtain⟨n,hn⟩:∃n,xs.length=n:=⟨_,rfl⟩;have HN:=Aa hn;have jc:(w.alloc (.cells #[.int .i64 x] 3)).drew.cell? ⟨w.heap.size,0,none⟩=some (.int .i64 x):=World.cell?_alloc_at _ _ _ _ rfl;have Aa5:=Aa TB;rw[hn]at hv2 hl;subst hv2;have ta:=WB x w.drew;clear h hn;go_enter Tryz.func243,Tryz.ntmps243;go_wp2;go_region_law (first|(refine step_append_lies _ rfl _ _ 90 rfl (b+1) 3 i0 (.int .i64 0) 1 8 Tryz.underlying90 hi hz0 hz1 hz2 rfl (by decide) _ _ _ rfl (by have:=NJ.out;unfold Dw at this;rw[HN.out]at this;exact this) ⟨w.heap.size,0,none⟩ 1 1 [.int .i64 x] rfl rfl (by intro j u hj;rcases j with _|j;(simp at hj;subst hj;exact jc);(simp at hj)) (by intro u hu;simp at hu;subst hu;rfl) (by decide) (by unfold maxLen;omega) (by omega) Aa5.out _ rfl ?_;intro g9 Je w9 JF EG Ty qD;have hh9:=(EG.block b (Ry zw.out) (fun e=>by have:=(NJ.out.lt b e.symm).1;omega)).trans zw.out;have q9:w9.cell? ⟨b,2,none⟩=some (.slice a2 n cap2):=Ap hh9 2;have f9:w9.frozen? ⟨b,2,none⟩=false:=BA hh9 2))
 all_goals go_end0
 all_goals
  have hon:Dw (b+1) w9 (.slice (some ⟨g9,0,none⟩) (n+1) Je) (xs++[x]):=Dw.more (by rw[HN.out];exact JF);have Jn:w.grownBy w9 (Value.slice a2 n cap2).ownBlock:=QS (Oe (w.grownBy_alloc _ _)) EG;exact⟨rfl,_,EE.put HB.out Jn hon (fun k hk=>by
   simp only[Value.ownBlock,Option.some.injEq]at hk;subst hk;rcases Ty with h1|h1
   · exact Or.inl h1.symm
   · right;rw[h1];exact Qq.out)⟩
theorem Dw.cut {B g n cap:Nat}{w:World}{xs:List Int}(h:Dw B w (.slice (some ⟨g,0,none⟩) (n+1) cap) xs)(hn:xs.length=n+1):Dw B w (.slice (some ⟨g,0,none⟩) n cap) (xs.take n):=by
 refine⟨by simp,?_⟩;have hl:(xs.take n).length=n:=by rw[Cc];omega
 rcases h.2 with⟨hv,_⟩|⟨g',cap',cur,hv,hg,hb,hn',hm,hs,ht⟩
 · exact absurd hv (by simp)
 · simp only[Value.slice.injEq,Option.some.injEq,Addr.mk.injEq]at hv;obtain⟨⟨rfl,_⟩,_,rfl⟩:=hv;refine Or.inr ⟨g,cap,cur,by rw[hl],hg,hb,by omega,hm,hs,?_⟩;rw[hl,List.map_take,←ht,List.take_take];congr 1;omega
def K3 (wB:World)(rB:Option Nat)(mB uB b:Nat)(xs:List Int)(x:Int)(w:World)(e:Ending)(w':World):Prop:=e=.returned (.tuple #[])∧∃v' ys,ys.Perm (x::xs)∧Ed ys.length ys∧EE wB rB mB uB b w' v' ys
set_option maxHeartbeats 2000000 in
theorem Xm (wB:World)(rB:Option Nat)(mB uB b:Nat)(v:Value)(xs:List Int)(x:Int)(w:World)(h:EE wB rB mB uB b w v xs)(hh:Ed xs.length xs)(hl:xs.length≤900) :
 Calls Tryz.prog 179 #[.iface 254 (.pointer (some ⟨b,2,none⟩)),.iface 3 (.int .i64 x)] w (K3 wB rB mB uB b xs x w):=by
 unfold K3;have cP:=aX wB rB mB uB b v xs x w h (by omega);have HH:=Aa hh;have m1:=Qb b w;unfold JN at cP;obtain⟨n,hn⟩:∃n,xs.length=n:=⟨_,rfl⟩;have hxl:(xs++[x]).length=n+1:=by rw[A7,RP,hn]
 have uP:=Aa hxl;have xe:n≤900:=by omega
 have HU:Hid (uO (xs++[x]) n):=Aa (by rw[←hn];exact U5 hh x);have HPX:Hid ((xs++[x]).Perm (x::xs)):=Aa (List.perm_append_comm);have hnz:(n:Int)+1-1=(n:Int):=by omega
 clear hh h hl hn hxl;generalize xs++[x]=zs at *;go_enter Tryz.func179,Tryz.ntmps179;go_wp2_with (go_at_call 243;refine cP.mono ?_;rintro e w2 ⟨rfl,v2,hb2⟩;obtain⟨a2,cap2,hv2⟩:=hb2.own.len;rw[uP.out]at hv2;have HB2:=Aa hb2;subst hv2;have m2:=O8 b _ w2 hb2.cell.1;clear hb2);refine(YP a2 (n+1) cap2 w2).mono ?_;rintro e w3 ⟨rfl,rfl⟩;have cU:=zK wB rB mB uB b _ zs n w2 HB2.out (by rw[uP.out];omega) HU.out (by rw[uP.out];omega);unfold Ou at cU;clear cP m1;go_wp2_with fail;refine cU.mono ?_;rintro e w4 ⟨rfl,ys,hp,yJ,hbx⟩;have H1:=Aa hp;have H2:=Aa yJ;have H3:=Aa hbx;clear hp yJ hbx;go_wp2;go_end0;exact⟨rfl,_,ys,H1.out.trans HPX.out,H2.out,H3.out⟩
theorem oK {xs zs:List Int}{n:Nat}(hn:xs.length=n+1)(h:LB n (Qx xs 0 n) zs):zs.getD n 0=xs.getD 0 0∧xs.Perm (xs.getD 0 0::zs.take n)∧zs.length=n+1:=by
 have hz:zs.length=n+1:=by rw[h.1.length_eq,K9,hn]
 have h1:zs.getD n 0=xs.getD 0 0:=by
  rw[h.2 n (Ae _),FC (by omega) (by omega),if_pos rfl]
 refine⟨h1,?_,hz⟩;have h2:xs.Perm zs:=(OH (xs:=xs) (i:=0) (j:=n) (by omega) (by omega)).symm.trans h.1.symm;rw[←h1];refine h2.trans ?_;have h3:=iR hz;refine(List.Perm.of_eq h3).trans ?_;exact List.perm_append_comm
def PS (wB:World)(rB:Option Nat)(mB uB b:Nat)(xs:List Int)(x:Int)(w:World)(e:Ending)(w':World):Prop:=e=.returned (.tuple #[])∧∃v' ys,ys.Perm (x::xs)∧Ed ys.length ys∧EE wB rB mB uB b w' v' ys
theorem tH (wB:World)(rB:Option Nat)(mB uB b:Nat)(v:Value)(xs:List Int)(x:Int)(w:World)(h:EE wB rB mB uB b w v xs)(hh:Ed xs.length xs)(hl:xs.length≤900) :
 Calls Tryz.prog 155 #[.pointer (some ⟨b,2,none⟩),.int .i64 x] w (PS wB rB mB uB b xs x w):=by
 have cH:=Xm wB rB mB uB b v xs x w h hh hl;clear h hh hl;go_enter Tryz.func155,Tryz.ntmps155;go_wp2_with fail;refine cH.mono ?_;rintro e w1 ⟨rfl,h1⟩;have H1:=Aa h1;clear h1 cH;go_wp2;go_end0;exact⟨rfl,H1.out⟩
theorem CQ.own {B:Nat}{w:World}{v:Value}{l:List Int}(h:Dw B w v l):CQ w v l:=by
 by_cases e:l=[]
 · subst e;obtain⟨a,cap,hv⟩:=h.len;exact Or.inl ⟨rfl,a,cap,hv⟩
 · obtain⟨g,cap,hv,_,hg,_⟩:=h.head e;refine Or.inr ⟨g,0,cap,hg,hv,fun j hj=>?_⟩;rw[Gh];subst hv;exact(h.cell hj).1
def Dr (w0:World)(r:Option Nat)(m b:Nat)(w:World)(v:Value)(l:List Bool):Prop:=∃u ys,EE w0 r m u b w v ys∧Fv m u ys∧l=Bc u ys
theorem wP (v:Value)(l:List Int)(x:Int)(w:World)(hv:CQ w v l)(hl:l.length≤100000) :
 Calls Tryz.prog 191 #[v,.int .i64 x] w fun e w'=>∃i:Int,e=.returned (.int .i64 i)∧-1≤i∧i≤100000∧(0≤i↔x∈l)∧w'=w:=by
 obtain⟨n,hn⟩:∃n,l.length=n:=⟨_,rfl⟩;obtain⟨a,cap,rfl⟩:=hv.len;have HV:=Aa hv;have HN:=Aa hn;rw[hn]at hl ⊢;clear hv hn;go_enter Tryz.func191,Tryz.ntmps191;go_wp2;go_loop [8] (fun iv=>∃k:Nat,k≤n∧iv=.int .i64 k∧x∉l.take k) (fun iv=>n-(intOf iv).toNat)
 case atStart=>exact⟨0,by omega,rfl,by simp⟩
 case round =>
  obtain⟨k,hk,rfl,hno⟩:=hrel;have Z9:=Aa hno;clear hno;by_cases hkn:k<n
  · have hkz:(k:Int)<(n:Int):=by omega
    obtain⟨g,off,rfl,hg,c1⟩:=HV.out.at (j:=k) (by rw[HN.out];exact hkn);have HT:Hid (x∈l.take (k+1)↔(x∈l.take k∨x=l.getD k 0)):=Aa (by
     have hk':k<l.length:=by rw[HN.out];exact hkn
     rw[List.take_add_one,EI,Gi,Co hk'];simp)
    have HIN:Hid (l.getD k 0∈l):=Aa (by
     have hk':k<l.length:=by rw[HN.out];exact hkn
     simp[List.getD_eq_getElem?_getD,List.getElem?_eq_getElem hk'])
    generalize l.getD k 0=y at *;cases hx:(x==y) with
    | true =>
     have HE:Hid (x=y):=Aa (by simpa using hx);go_wp2;go_ret;exact⟨k,rfl,by omega,by omega,⟨fun _=>by rw[HE.out];exact HIN.out,fun _=>by omega⟩,rfl⟩
    | false =>
     have HE:Hid (x≠y):=Aa (by simpa using hx);go_wp2;go_round
     case rel=>exact⟨k+1,by omega,by first|rfl|go_num,fun hm=>by
      rcases HT.out.1 hm with h|h
      · exact Z9.out h
      · exact HE.out h⟩
     case measure=>simp[intOf];omega
  · have hge:¬((k:Int)<(n:Int)):=by omega
    have HL:Hid (x∉l):=Aa (by
     have:=Z9.out;rw[CV (by rw[HN.out];omega)]at this;exact this)
    go_wp2;go_ret;exact⟨-1,rfl,by omega,by omega,⟨fun h=>by omega,fun h=>absurd h HL.out⟩,rfl⟩
theorem TZ (v:Value)(l:List Int)(x:Int)(w:World)(hv:CQ w v l)(hl:l.length≤100000)(t:Bool)(ht:decide (x∈l)=t) :
 Calls Tryz.prog 171 #[v,.int .i64 x] w fun e w'=>e=.returned (.bool t)∧w'=w:=by
 have cI:=wP v l x w hv hl;clear hv hl;go_enter Tryz.func171,Tryz.ntmps171;go_wp2_with fail;refine cI.mono ?_;rintro e w1 ⟨i,rfl,hi1,hi2,hi3,rfl⟩;have HT:Hid (decide (0≤i)=t):=Aa (by
  rw[←ht];congr 1;exact propext hi3)
 clear cI hi3 ht;go_wp2;go_ret;exact⟨by rw[←HT.out];rfl,rfl⟩
theorem aY (B:Nat)(w:World)(hB:B≤w.heap.size):Dw B (w.alloc (.cells #[] 3)) (.slice (some ⟨w.heap.size,0,none⟩) 0 0) []:=
 ⟨rfl,Or.inr ⟨w.heap.size,0,#[],rfl,hB,Ai _ _,Ae _,by unfold maxLen;omega,rfl,rfl⟩⟩
theorem addN (g off j:Nat):(⟨g,off,none⟩:Addr).add j=⟨g,off+j,none⟩:=by
 unfold Addr.add;split
 · rename_i h;subst h;rfl
 · rfl
theorem xQ (T:TypeId)(hT:Tryz.prog.underlying T=some (.slice 3)){ops:Array Oper}{rest:List Oper}{o:Oper}{a:Act}{Q:Exit→Act→World→Prop}{w:World}(hgd:o.guard=none)(s x:Operand)
 (ho:o.op=.call { callee:=.builtin .append,args:=#[s,x],argTypes:=#[T,T] }) (B:Nat) (v:Value) (xs:List Int) (hs:a.eval s=v) (hown:Dw B w v xs)
 (ad:Addr) (n c:Nat) (L:List Int) (hn:L.length=n) (hx:a.eval x=.slice (some ad) n c) (hc:∀j,j<L.length→w.cell? (ad.add j)=some (.int .i64 (L.getD j 0))) (hlen:xs.length+L.length≤100000) (hB:B≤w.heap.size)
 (h:∀v' w',Dw B w' v' (xs++L)→w.grownBy w' v.ownBlock→(∀k,v'.ownBlock=some k→v.ownBlock=some k∨w.heap.size≤k)→wpList Tryz.prog ops Q rest (a.put o.dst v') w'):wpList Tryz.prog ops Q (o::rest) a w:=by
 obtain⟨i0,hi0,hz0,hz1,hz2⟩:=info_parts Tryz.Xi;refine wpList_plain hgd fun _ hK=>?_
 obtain⟨v',w',hr,h1,h2,_,h4⟩:=run_append_own_at (P:=Tryz.prog) (w:=w) B T o.type 3 i0 (.int .i64 0) 1 8 hT hi0 hz0 hz1 hz2 rfl (by decide) v xs.length (xs.map (Value.int .i64)) hown ad n c (L.map (Value.int .i64)) (by simp[hn])
  (by
   intro j u hj;by_cases hjl:j<L.length
   · rw[hc j hjl];simp[hjl,List.getD_eq_getElem?_getD]at hj ⊢;exact hj
   · rw[List.getElem?_eq_none (by simpa using hjl)]at hj;cases hj)
  (by
   intro u hu;obtain⟨y,_,rfl⟩:=CG.1 hu;rfl) (by unfold maxLen;omega) (by omega) hB
 unfold Oper.wp execOp;simp only[ho,resolve,invoke,builtin,Sem.run_bind,Sem.run_pure,Result.andThen_ok,List.map_toArray,List.map_cons,List.map_nil,hs,hx,hr];refine hK _ _ (h v' w' ?_ h2 (fun k hk=>?_))
 · unfold Dw;rw[A7,List.map_append,hn];exact h1
 · rcases h4 with h4|h4
   · exact Or.inl (by rw[←h4];exact hk)
   · right;rw[h4]at hk;injection hk with hk;omega
theorem Dr.now {w0:World}{r:Option Nat}{m b:Nat}{w:World}{v:Value}{l:List Bool}(h:Dr w0 r m b w v l):Dr w v.ownBlock m b w v l:=by
 obtain⟨u,ys,hx,hg,hl⟩:=h;exact⟨u,ys,hx.now,hg,hl⟩
theorem Dr.since {w0 wa:World}{r:Option Nat}{m b:Nat}{w:World}{v:Value}{l:List Bool}(h:Dr w0 r m b w v l)(hb:Below wa.heap.size wa w0)(hn:wa.heap.size≤b)(hr:∀k,r=some k→wa.heap.size≤k):Dr wa none m b w v l:=by
 obtain⟨u,ys,hx,hg,hl⟩:=h;have hs:=hb.size;refine⟨u,ys,⟨hx.at',hx.own,fun k hk=>Or.inr ?_,⟨hx.keep.os.trans hb.os,hx.keep.tape.trans hb.tape,hx.keep.output.trans hb.output,Ao hs hx.keep.size,fun k hk h1 h2=>?_⟩⟩,hg,hl⟩
 · rcases hx.row k hk with h1|h1
   · exact hr k h1.symm
   · omega
 · rw[hx.keep.block k (by omega) h1 (fun e=>by have:=hr k e.symm;omega)];exact hb.block k hk
def Ov (B:Nat)(l:List Int)(w:World)(e:Ending)(w':World):Prop:=∃v',e=.returned v'∧Dw B w' v' l∧Below w.heap.size w w'
set_option maxHeartbeats 2000000 in
theorem OT (B:Nat)(v:Value)(l:List Int)(w:World)(h:Dw B w v l)(hl:l.length≤1000) :
 Calls Tryz.prog 120 #[v] w (Ov w.heap.size l w):=by
 unfold Ov;have q22:∀(w:World) (a:Option Addr) (n c n' c':Nat),(binOp .eql 90 (.slice a n c) (.slice none n' c')).run Tryz.prog w=.ok (.bool a.isNone) w:=fun w a n c n' c'=>Lib.run_eql_slice_nil w _ _ a n c n' c' Tryz.underlying90
 rcases h.2 with⟨hv,h0⟩|⟨g,cap,cur,hv,hg,hb,hn,hm,hs,ht⟩
 · obtain rfl:=Kw h0;subst hv;clear h;go_enter Tryz.func120,Tryz.ntmps120;go_wp2;go_ret;exact⟨_,rfl,⟨rfl,Or.inl ⟨rfl,rfl⟩⟩,Ad _ _⟩
 · subst hv;have HC:Hid (∀j,j<l.length→(w.alloc (.cells #[] 3)).cell? ((⟨g,0,none⟩:Addr).add j)=some (.int .i64 (l.getD j 0))):=Aa (fun j hj=>by
    rw[addN,Fj (w:=w) (Ct w _ g (Ab hb)),Gh];exact(h.cell hj).1)
   have HO:=Aa (aY w.heap.size w (Ae _));have K5:Hid (Below w.heap.size w (w.alloc (.cells #[] 3))):=Aa ((Ad _ w).alloc (Ae _) _);obtain⟨n,hn'⟩:∃n,l.length=n:=⟨_,rfl⟩;have HN:=Aa hn';rw[hn']at hl ⊢;clear h hg hb hn hm hs ht hn';go_enter Tryz.func120,Tryz.ntmps120;go_wp2_with (at_builtin;refine xQ 90 Tryz.underlying90 rfl _ _ rfl w.heap.size _ [] rfl HO.out ⟨g,0,none⟩ n cap l HN.out rfl HC.out (by rw[HN.out];simp;omega) (by show _≤(w.heap.push _).size;simp) ?_;intro v3 w3 hown3 hg3 hr3);rw[G5]at hown3;have Jf:=Aa hown3;have HB3:Hid (Below w.heap.size w w3):=Aa (K5.out.grown hg3 (by show _≤(w.heap.push _).size;simp) (fun k hk=>Nat.le_of_eq (BS hk)));clear hown3 hg3 hr3;go_ret;exact⟨_,rfl,Jf.out,HB3.out⟩
def Qt (m:Nat)(l:List Bool)(w:World)(e:Ending)(w':World):Prop:=∃b v,e=.returned (.pointer (some ⟨b,0,none⟩))∧w.heap.size≤b∧Dr w none m b w' v l
end Go.Proofs.YtdmkhmeaphaapaaGreat
