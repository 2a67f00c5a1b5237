/- Kit. -/
import Derived.Test.YtdmkhmeaphaapaaGreatCZ21
import Derived.Test.YtdmkhmeaphaapaaGreatCZ22
import Derived.Test.YtdmkhmeaphaapaaGreatCZ20
import Derived.Test.YtdmkhmeaphaapaaGreatCZ24
import Derived.Test.YtdmkhmeaphaapaaGreatCZ0
set_option maxRecDepth 100000
set_option linter.unusedVariables false
set_option linter.unusedSimpArgs false
namespace Go.Proofs.YtdmkhmeaphaapaaGreat
open Go.RowKit Go.Sort
def Au (b:List UInt8):Int:=((b.length+61)/62:Nat)
def Ck (t:TI)(sz rm:Int)(x:De):(TI×Int)×Int×Int:=
 if ¬May x then((t,rm),0,1)
 else if(EM t.1 t.2 x).2.2≠0 then((t,rm),0,(EM t.1 t.2 x).2.2)
 else if Au (Ac x)≤rm then(((EM t.1 t.2 x).1,rm-Au (Ac x)),(EM t.1 t.2 x).2.1,0)
 else if sz<Au (BG t.1 t.2) then((t,rm),0,11)
 else if Au (Ac x)≤sz-Au (BG t.1 t.2) then(((EM t.1 t.2 x).1,sz-Au (BG t.1 t.2)-Au (Ac x)),(EM t.1 t.2 x).2.1,0)
 else((t,sz-Au (BG t.1 t.2)),0,11)
abbrev iV (v:Value)(nx sz rm:Int):Obj:=.cells #[v,.int .i64 nx,.int .i64 sz,.int .i64 rm] 33
abbrev Q7 (v:Value)(nx sz rm:Int):Value:=.agg #[v,.int .i64 nx,.int .i64 sz,.int .i64 rm]
theorem Gj {W:World}{q:Nat}{y0 y1 y2 y3:Value}(hq:W.heap[q]?=some (.cells #[y0,y1,y2,y3] 33 (0,0))){v8:Value}{a b c:Int}{l8:List Az}(h8:Bi W v8 l8) :
 ((((W.setCell ⟨q,0,none⟩ v8).setCell ⟨q,1,none⟩ (.int .i64 a)).setCell ⟨q,2,none⟩ (.int .i64 b)).setCell ⟨q,3,none⟩ (.int .i64 c)).heap[q]?=some (.cells #[v8,.int .i64 a,.int .i64 b,.int .i64 c] 33 (0,0)) ∧
 Bi ((((W.setCell ⟨q,0,none⟩ v8).setCell ⟨q,1,none⟩ (.int .i64 a)).setCell ⟨q,2,none⟩ (.int .i64 b)).setCell ⟨q,3,none⟩ (.int .i64 c)) v8 l8:=by
 have hb:v8.ownBlock≠some q:=fun e=>by
  obtain⟨cs,hc⟩:=h8.2 _ e;exact Ci hc hq (by decide) rfl
 refine⟨?_,(((h8.set hb 0 _).set hb 1 _).set hb 2 _).set hb 3 _⟩;rw[Bn _ q 3 _ _ _ (Bn _ q 2 _ _ _ (Bn _ q 1 _ _ _ (Bn _ q 0 _ _ _ hq)))];rfl
theorem En {B q:Nat}{W0 W:World}{x y z u:Value}(h:Below B W0 W)(hq:B≤q):Below B W0 ((((W.setCell ⟨q,0,none⟩ x).setCell ⟨q,1,none⟩ y).setCell ⟨q,2,none⟩ z).setCell ⟨q,3,none⟩ u):=
 (((h.setCell (p:=⟨q,0,none⟩) hq _).setCell (p:=⟨q,1,none⟩) hq _).setCell (p:=⟨q,2,none⟩) hq _).setCell (p:=⟨q,3,none⟩) hq _
theorem Cg {W:World}{b:Nat}{v0 v1 v2 v3:Value}{T:TypeId}(h:W.heap[b]?=some (.cells #[v0,v1,v2,v3] T (0,0))) :
 (W.cell? ⟨b,0,none⟩=some v0∧W.cell? ⟨b,1,none⟩=some v1∧W.cell? ⟨b,2,none⟩=some v2∧W.cell? ⟨b,3,none⟩=some v3) ∧
 (W.frozen? ⟨b,0,none⟩=false∧W.frozen? ⟨b,1,none⟩=false∧W.frozen? ⟨b,2,none⟩=false∧W.frozen? ⟨b,3,none⟩=false):=
 ⟨⟨Ap h 0,Ap h 1,Ap h 2,Ap h 3⟩,BA h 0,BA h 1,BA h 2,BA h 3⟩
theorem cz (b:List UInt8):((V.Cs b).length:Int)=Au b:=by
 rw[V.Dp];rfl
theorem ib (b:List UInt8)(w:World)(hb:b.length≤65000):Calls Tryz.prog 40 #[.string ⟨b.toArray⟩] w fun e w'=>∃a n cap,e=.returned (.slice a n cap)∧(n:Int)=Au b∧Below w.heap.size w w':=by
 refine(V.AaL ⟨b.toArray⟩ w hb).mono ?_;rintro e w' ⟨v,rfl,ho,hbb⟩;obtain⟨a,cap,rfl⟩:=Av ho;exact⟨a,_,cap,rfl,cz b,hbb⟩
theorem gH {t:TI}(h:Cj t):(BG t.1 t.2).length≤65000:=Ao (Jm h) (by decide)
structure SdW (w:World)(bS:Nat)(v:Value)(nx sz rm:Int)(x:De)(l:List Az)(W:World):Prop where
 s:W.heap[bS]?=some (.cells #[v,.int .i64 nx,.int .i64 sz,.int .i64 rm] 33 (0,0))
 d:W.heap[bS+1]?=some (.cells ⟨Qk x⟩ 38 (0,0))
 r:W.heap[bS+1+1]?=some (.cells #[.slice none 0 0,.int .i64 0,.int .i64 0,.int .i64 0] 33 (0,0))
 i:Bi W v l
 b:Below bS w W
section
variable {w W W':World}{bS:Nat}{v:Value}{nx sz rm:Int}{x:De}{l:List Az}
theorem SdW.below (h:SdW w bS v nx sz rm x l W)(hb:Below W.heap.size W W'):SdW w bS v nx sz rm x l W':=
 ⟨(hb.block _ (Ab h.s)).trans h.s,(hb.block _ (Ab h.d)).trans h.d,(hb.block _ (Ab h.r)).trans h.r,h.i.kept hb,h.b.trans (hb.mono (Nat.le_of_lt (Ab h.s)))⟩
end
theorem vK (w:World)(v:Value)(nx sz rm:Int)(x:De)(l:List Az)(hv:Bi w v l):SdW w w.heap.size v nx sz rm x l (((w.alloc (iV v nx sz rm)).alloc (.cells ⟨Qk x⟩ 38)).alloc (iV bg 0 0 0)):=by
 refine⟨?_,?_,?_,?_,(((Ad _ w).alloc (Ae _) _).alloc (by simp) _).alloc (by simp;omega) _⟩
 · rw[Lib.alloc_old _ _ _ (by simp;omega),Lib.alloc_old _ _ _ (by simp)];exact Ai _ _
 · rw[Lib.alloc_old _ _ _ (by simp)];exact Fb _ _ _
 · have h:=Ai ((w.alloc (iV v nx sz rm)).alloc (.cells ⟨Qk x⟩ 38)) (iV bg 0 0 0);rwa[show((w.alloc (iV v nx sz rm)).alloc (.cells ⟨Qk x⟩ 38)).heap.size=w.heap.size+1+1 by simp]at h
 · exact((hv.kept ((Ad _ _).alloc (Ae _) _)).kept ((Ad _ _).alloc (Ae _) _)).kept ((Ad _ _).alloc (Ae _) _)
theorem VH {W:World}{q:Nat}{y0 y1 y2 y3:Value}(hq:W.heap[q]?=some (.cells #[y0,y1,y2,y3] 33 (0,0))){v9:Value}{l9:List Az}(h9:Bi W v9 l9)(x y z u:Value) :
 Bi ((((W.setCell ⟨q,0,none⟩ x).setCell ⟨q,1,none⟩ y).setCell ⟨q,2,none⟩ z).setCell ⟨q,3,none⟩ u) v9 l9:=by
 have hb:v9.ownBlock≠some q:=fun e=>by
  obtain⟨cs,hc⟩:=h9.2 _ e;exact Ci hc hq (by decide) rfl
 exact(((h9.set hb 0 _).set hb 1 _).set hb 2 _).set hb 3 _
theorem Gy {W:World}{q b:Nat}(hne:b≠q)(x y z u:Value) :
 ((((W.setCell ⟨q,0,none⟩ x).setCell ⟨q,1,none⟩ y).setCell ⟨q,2,none⟩ z).setCell ⟨q,3,none⟩ u).heap[b]?=W.heap[b]?:=by
 rw[heap_setCell_other _ _ _ _ hne,heap_setCell_other _ _ _ _ hne,heap_setCell_other _ _ _ _ hne,heap_setCell_other _ _ _ _ hne]
theorem iP {W:World}{q b:Nat}{y0 y1 y2 y3 t0 t1:Value}(hq:W.heap[q]?=some (.cells #[y0,y1,y2,y3] 33 (0,0)))(hb:W.heap[b]?=some (.cells #[t0,t1] 31 (0,0)))(x y z u:Value) :
 ((((W.setCell ⟨q,0,none⟩ x).setCell ⟨q,1,none⟩ y).setCell ⟨q,2,none⟩ z).setCell ⟨q,3,none⟩ u).heap[b]?=some (.cells #[t0,t1] 31 (0,0)):=by
 rw[Gy (Ci hb hq (by decide)),hb]
theorem SdW.put {w:World}{bS:Nat}{v:Value}{nx sz rm:Int}{x:De}{l:List Az}{W:World}(h:SdW w bS v nx sz rm x l W)(rm':Int) :
 SdW w bS v nx sz rm' x l ((((W.setCell ⟨bS,0,none⟩ v).setCell ⟨bS,1,none⟩ (.int .i64 nx)).setCell ⟨bS,2,none⟩ (.int .i64 sz)).setCell ⟨bS,3,none⟩ (.int .i64 rm')):=
 ⟨(Gj h.s h.i).1,by rw[Gy (by omega)];exact h.d,by rw[Gy (by omega)];exact h.r,(Gj h.s h.i).2,En h.b (Ae _)⟩
def XL (R:(TI×Int)×Int×Int)(sz:Int)(w:World)(e:Ending)(w':World):Prop:=
 ∃v',e=.returned (.tuple #[Q7 v' R.1.1.2 sz R.1.2,.int .i64 R.2.1,.int .i64 R.2.2])∧Bi w' v' R.1.1.1∧Below w.heap.size w w'
set_option maxHeartbeats 16000000 in
theorem vJ (v:Value)(l:List Az)(nx sz rm:Int)(x:De)(w:World)(hv:Bi w v l)(hg:Aq l nx)(hnx:nx+1≤9223372036854775807)(hsz:0≤sz∧sz≤100000)(hrm:0≤rm∧rm≤100000)(hs:x.s.size≤9223372036854775807∧x.ns.size≤9223372036854775807) :
 Calls Tryz.prog 15 #[Q7 v nx sz rm,Ga x] w (XL (Ck (l,nx) sz rm x) sz w):=by
 unfold XL;obtain⟨R,hR⟩:∃R,Ck (l,nx) sz rm x=R:=⟨_,rfl⟩;rw[hR];unfold Ck at hR;have hll:=hg.len;have hn1:=hg.Ml;have ZA:=oz x;have HW:=Aa (vK w v nx sz rm x l hv);obtain⟨ar,cr,rfl⟩:=hv.1.len;obtain⟨nl,hnl⟩:∃nl,l.length=nl:=⟨_,rfl⟩;have HNL:=Aa hnl;rw[hnl]at hv hll HW ⊢;unfold iV at HW;by_cases hm:May x
 · rw[if_neg (by simpa using hm)]at hR;rw[A8 hm]at ZA;have cO:=fun W=>vR x W hm.1
   have hde:EM l nx x=UB l nx (UL x):=by unfold EM;rw[if_pos hm]
   have hk:0≤(UL x).k∧(UL x).k≤255:=by
    have:=hm.1;show 0≤x.k-1∧x.k-1≤255
    omega
   have cR:=fun W (h:Bi W (.slice ar nl cr) l)=>AaI (.slice ar nl cr) l nx (UL x) W h (by omega) hs.1 hs.2 hk.1 hk.2 (by omega) (by omega)
   rw[←hde]at cR;unfold KY Bq at cR;obtain⟨Q,hQ⟩:∃Q,EM l nx x=Q:=⟨_,rfl⟩;simp only[hQ]at cR hR;have hqg:Cj Q.1:=by rw[←hQ];exact Pk (t:=(l,nx)) hg x
   have HQG:=Aa hqg;have hqn:=Pt (l,nx) x;simp only[hQ]at hqn;have cB:=fun W=>aV x W hm
   have hbl:=Ud x hm;obtain⟨BX,hBX⟩:∃BX,Ac x=BX:=⟨_,rfl⟩;simp only[hBX]at cB hbl hR;have AaP:=fun W=>ib BX W (by omega)
   obtain⟨F,hF⟩:∃F,Au BX=F:=⟨_,rfl⟩;simp only[hF]at AaP hR;have hF0:0≤F∧F≤100:=by
    rw[←hF];unfold Au;omega
   have iw:=Aa hR;have HG:=Aa hg;unfold Ga opV at *;simp only[UL]at *;clear hm hde hQ hBX hF hR hg hk hs hv hqg;obtain⟨k,d,dt,s,ns,Bg,sh⟩:=x;unfold Qk at HW;simp only at HW ZA cO cR cB ⊢;go_enter Tryz.func15,Tryz.ntmps15;go_upto_region 1 with fail;generalize (((w.alloc (.cells #[.slice ar nl cr,.int .i64 nx,.int .i64 sz,.int .i64 rm] 33)).alloc (.cells ⟨[.int .i64 k,.int .i64 d,.int .i64 dt,.string s,.string ns,.bool Bg,.int .i64 sh]⟩ 38)).alloc (.cells #[.slice none 0 0,.int .i64 0,.int .i64 0,.int .i64 0] 33))=W0 at *;generalize hbS:w.heap.size=bS at *;have ma:=Aa hbS;clear hbS;obtain⟨p0,p1,p2,p3,p4,p5,p6⟩:=AJ (x:=⟨k,d,dt,s,ns,Bg,sh⟩) HW.out.d;go_upto_region 3 with(go_at_call 23;refine(ZA _).mono ?_;rintro e w5 ⟨rfl,hb1⟩;have HW1:=Aa (HW.out.below hb1);clear hb1);clear p0 p1 p2 p3 p4 p5 p6 HW ZA;have Nj:Hid (∀W,Below w5.heap.size w5 W→Below w5.heap.size w5 W∧W.cell? ⟨bS,0,none⟩=some (.slice ar nl cr)∧W.cell? ⟨bS,1,none⟩=some (.int .i64 nx)∧W.cell? ⟨bS+1,0,none⟩=some (.int .i64 k)∧W.cell? ⟨bS+1,1,none⟩=some (.int .i64 d)∧W.cell? ⟨bS+1,2,none⟩=some (.int .i64 dt)∧W.cell? ⟨bS+1,3,none⟩=some (.string s)∧W.cell? ⟨bS+1,4,none⟩=some (.string ns)∧W.cell? ⟨bS+1,5,none⟩=some (.bool Bg)∧W.cell? ⟨bS+1,6,none⟩=some (.int .i64 sh)):=Aa (fun W hW=>by
    have h:=HW1.out.below hW;obtain⟨⟨s0,s1,s2,s3⟩,_⟩:=Cg h.s;obtain⟨p0,p1,p2,p3,p4,p5,p6⟩:=AJ (x:=⟨k,d,dt,s,ns,Bg,sh⟩) h.d;exact⟨hW,s0,s1,p0,p1,p2,p3,p4,p5,p6⟩)
   have mq:Hid (∀W,Below w5.heap.size w5 W→Bi W (.slice ar nl cr) l):=Aa (fun W hW=>HW1.out.i.kept hW);go_cut [7,8,9] from 17 to 25 (fun v8 v9 v10 wx=>∃(q:Nat) (vq:Value),v8=.pointer (some ⟨q,0,none⟩)∧v9=.int .i64 Q.2.1∧v10=.int .i64 Q.2.2∧wx.heap[q]?=some (.cells #[vq,.int .i64 Q.1.2] 31 (0,0))∧Bi wx vq Q.1.1∧w5.heap.size≤q∧Below w5.heap.size w5 wx)
   case first =>
    have hs0:=Nj.out w5.drew (Ad _ _).drew;go_region_held3 (fun W=>Below w5.heap.size w5 W∧W.cell? ⟨bS,0,none⟩=some (.slice ar nl cr)∧W.cell? ⟨bS,1,none⟩=some (.int .i64 nx)∧W.cell? ⟨bS+1,0,none⟩=some (.int .i64 k)∧W.cell? ⟨bS+1,1,none⟩=some (.int .i64 d)∧W.cell? ⟨bS+1,2,none⟩=some (.int .i64 dt)∧W.cell? ⟨bS+1,3,none⟩=some (.string s)∧W.cell? ⟨bS+1,4,none⟩=some (.string ns)∧W.cell? ⟨bS+1,5,none⟩=some (.bool Bg)∧W.cell? ⟨bS+1,6,none⟩=some (.int .i64 sh)) (with_reducible first|assumption|(refine Nj.out _ ?_;with_reducible first|assumption|exact(Ad _ _).drew|exact(GG (Ad _ _) (Ae _)).drew|exact Cy ‹_›|exact GG ‹_› (Ae _)|exact KT hq8 hqq)) (first
     | (go_at_call 39;(with_reducible refine(cO (w5.alloc J2).drew).mono ?_);rintro e w6 ⟨rfl,hb6⟩;have hTA:w6.heap[w5.heap.size]?=some J2:=PV (W:=(w5.alloc J2).drew) (NR w5) hb6;have hqA:Below w5.heap.size w5 w6:=Dk (Ae _) (GG (Ad _ _) (Ae _)).drew hb6)
     | (go_at_call 39;(with_reducible refine(cO w5.drew).mono ?_);rintro e w6 ⟨rfl,hb6⟩;have hqB:Below w5.heap.size w5 w6:=Dk (Ae _) (Ad _ _).drew hb6)
     | (go_at_call 38;(with_reducible refine(cR w6 (mq.out _ hqA)).mono ?_);rintro e w7 ⟨v7,rfl,RA,Er⟩;obtain⟨a7,c7,hv7⟩:=RA.1.len;have hT7:w7.heap[w5.heap.size]?=some J2:=PV hTA Er;have hq8:Below w5.heap.size w5 w7:=Dk (Ae _) hqA Er;have hqq:w5.heap.size≤w5.heap.size:=Ae _;have hI8:=RA;subst hv7;obtain⟨⟨z0,z1⟩,y0,y1⟩:=BN hT7)
     | (go_at_call 38;(with_reducible refine(cR (w6.alloc J2) (mq.out _ (GG hqB (Ae _)))).mono ?_);rintro e w7 ⟨v7,rfl,RA,Er⟩;obtain⟨a7,c7,hv7⟩:=RA.1.len;have hT7:w7.heap[w6.heap.size]?=some J2:=PV (NR w6) Er;have hq8:Below w5.heap.size w5 w7:=Dk (Ae _) (GG hqB (Ae _)) Er;have hqq:w5.heap.size≤w6.heap.size:=hqB.size;have hI8:=RA;subst hv7;obtain⟨⟨z0,z1⟩,y0,y1⟩:=BN hT7)
     | (go_at_call 38;(with_reducible refine(cR w6 (mq.out _ hqB)).mono ?_);rintro e w7 ⟨v7,rfl,RA,Er⟩;obtain⟨a7,c7,hv7⟩:=RA.1.len;have Uz:Below w5.heap.size w5 w7:=Dk (Ae _) hqB Er;have hT7:(w7.alloc J2).heap[w7.heap.size]?=some J2:=NR w7;have hq8:Below w5.heap.size w5 (w7.alloc J2):=GG Uz (Ae _);have hqq:w5.heap.size≤w7.heap.size:=Uz.size;have hI8:Bi (w7.alloc J2) v7 Q.1.1:=RA.kept ((Ad _ _).alloc (Ae _) _);have hI9:=fun x=>RA.kept ((Ad _ w7).alloc (Ae _) x);subst hv7;obtain⟨⟨z0,z1⟩,y0,y1⟩:=BN hT7))
    all_goals
     go_wp2;go_meet
     first
      | exact⟨_,_,rfl,rfl,rfl,(Mi hT7 hI8).1,(Mi hT7 hI8).2,hqq,KT hq8 hqq⟩
      | exact⟨_,_,rfl,rfl,rfl,Ai _ _,hI9 _,hqq,GG Uz (Ae _)⟩
   case rest =>
    obtain⟨q,vq,h8,h9,h10,hq,hiq,hql,hbq⟩:=hcut;subst h8;subst h9;subst h10;have yY:=Aa (HW1.out.below hbq);have hqS:bS+1+1<q:=Nat.lt_of_lt_of_le (Ab HW1.out.r) hql;have HQS:=Aa hqS;have HQ:=Aa hq;have HIQ:=Aa hiq;clear hqS hq hiq hql hbq cR cO Nj mq HW1;obtain⟨⟨s0,s1,s2,s3⟩,_⟩:=Cg yY.out.s;obtain⟨_,f0,f1,f2,f3⟩:=Cg yY.out.r;obtain⟨⟨l1,Ml⟩,mm,ff⟩:=Q;simp only at *;by_cases bN:ff=0
    · subst bN;have HR1:Hid (R=if F≤rm then(((l1,Ml),rm-F),mm,0) else if sz<Au (BG l nx) then(((l,nx),rm),0,11) else if F≤sz-Au (BG l nx) then(((l1,Ml),sz-Au (BG l nx)-F),mm,0) else(((l,nx),sz-Au (BG l nx)),0,11)):=Aa (by rw[←iw.out];rfl);clear iw;obtain⟨p0,p1,p2,p3,p4,p5,p6⟩:=AJ (x:=⟨k,d,dt,s,ns,Bg,sh⟩) yY.out.d;go_upto_region 7 with(first
       | (go_at_call 25;refine(cB _).mono ?_;rintro e w6 ⟨rfl,hb6⟩;have Rl:=Aa (yY.out.below hb6);have HQ6:=Aa ((hb6.block q (Ab HQ.out)).trans HQ.out);have Ab6:=Aa (HIQ.out.kept hb6);clear hb6)
       | (go_at_call 40;refine(AaP _).mono ?_;rintro e w7 ⟨aF,nF,AdF,rfl,hnF,Er⟩;have zg:=Aa hnF;have uf:=Aa (Rl.out.below Er);have uT:=Aa ((Er.block q (Ab HQ6.out)).trans HQ6.out);have yg:=Aa (Ab6.out.kept Er);clear Er hnF))
      obtain rfl:=zg.out;obtain⟨aq,cq,hvq⟩:=yg.out.1.len;subst hvq;clear p0 p1 p2 p3 p4 p5 p6 s0 s1 s2 s3 f0 f1 f2 f3 cB AaP yY HQ HIQ Rl HQ6 Ab6;obtain⟨⟨s0,s1,s2,s3⟩,_⟩:=Cg uf.out.s;obtain⟨_,f0,f1,f2,f3⟩:=Cg uf.out.r;obtain⟨⟨q0,q1⟩,_⟩:=BN uT.out;by_cases h1:(nF:Int)≤rm
      · have HR:Hid (R=(((l1,Ml),rm-nF),mm,0)):=Aa (by rw[HR1.out,if_pos h1]);have h1':¬rm<(nF:Int):=by omega
        clear HR1;go_wp2_with fail
        (try simp only[Exit.inBlock,Exit.then])
        clear s0 s1 s2 s3 f0 f1 f2 f3 q0 q1;have hp:=Gj (a:=Ml) (b:=sz) (c:=(rm-nF)) uf.out.r yg.out;have UC:=Aa hp.1;have XT:=Aa hp.2;have LX:Hid (Below bS w ((((w7.setCell ⟨bS+1+1,0,none⟩ (.slice aq l1.length cq)).setCell ⟨bS+1+1,1,none⟩ (.int .i64 Ml)).setCell ⟨bS+1+1,2,none⟩ (.int .i64 sz)).setCell ⟨bS+1+1,3,none⟩ (.int .i64 (rm-nF)))):=Aa (En uf.out.b (by omega));clear hp;generalize ((((w7.setCell ⟨bS+1+1,0,none⟩ (.slice aq l1.length cq)).setCell ⟨bS+1+1,1,none⟩ (.int .i64 Ml)).setCell ⟨bS+1+1,2,none⟩ (.int .i64 sz)).setCell ⟨bS+1+1,3,none⟩ (.int .i64 (rm-nF)))=W9 at *;obtain⟨⟨z0,z1,z2,z3⟩,_⟩:=Cg UC.out;refine Bv (v:=.tuple #[Q7 (.slice aq l1.length cq) Ml sz (rm-nF),.int .i64 mm,.int .i64 0]) ?_ rfl ⟨_,by rw[HR.out],by rw[HR.out];exact XT.out,by first|exact LX.out|(rw[ma.out];exact LX.out)⟩;rw[Bt rfl];go_simp
      · have h1':rm<(nF:Int):=by omega
        have cI:=fun W (h:Bi W (.slice ar nl cr) l)=>jZ (.slice ar nl cr) l nx W h HG.out (by omega)
        unfold Bq at cI;have cK:=fun W=>ib (BG l nx) W (gH (t:=(l,nx)) HG.out)
        obtain⟨K,hK⟩:∃K,Au (BG l nx)=K:=⟨_,rfl⟩;have hK0:0≤K:=by rw[←hK];unfold Au;omega
        have hK1:K≤2000:=by have h9:(BG l nx).length≤65000:=gH (t:=(l,nx)) HG.out;rw[←hK];unfold Au;omega
        rw[hK]at cK;have HR2:Hid (R=if sz<K then(((l,nx),rm),0,11) else if(nF:Int)≤sz-K then(((l1,Ml),sz-K-nF),mm,0) else(((l,nx),sz-K),0,11)):=Aa (by rw[HR1.out,if_neg h1,hK]);clear HR1 h1 hK;go_upto_region 9 with(first
         | (go_at_call 41;refine(cI _ uf.out.i).mono ?_;rintro e w8 ⟨rfl,EK⟩;have HW8:=Aa (uf.out.below EK);have HQ8:=Aa ((EK.block q (Ab uT.out)).trans uT.out);have Ab5:=Aa (yg.out.kept EK);clear EK)
         | (go_at_call 40;refine(cK _).mono ?_;rintro e w9 ⟨aK,nK,AdE,rfl,hnK,EY⟩;have HNK:=Aa hnK;have dU:=Aa (HW8.out.below EY);have mr:=Aa ((EY.block q (Ab HQ8.out)).trans HQ8.out);have Ab4:=Aa (Ab5.out.kept EY);clear EY hnK))
        obtain rfl:=HNK.out;clear s0 s1 s2 s3 f0 f1 f2 f3 q0 q1 cI cK uf uT yg HW8 HQ8 Ab5;obtain⟨⟨s0,s1,s2,s3⟩,g0,g1,g2,g3⟩:=Cg dU.out.s;obtain⟨_,f0,f1,f2,f3⟩:=Cg dU.out.r;by_cases h2:sz<(nK:Int)
        · have HR:Hid (R=(((l,nx),rm),0,11)):=Aa (by rw[HR2.out,if_pos h2]);clear HR2;go_wp2_with fail
          (try simp only[Exit.inBlock,Exit.then])
          clear s0 s1 s2 s3 f0 f1 f2 f3 g0 g1 g2 g3;have hp:=Gj (a:=nx) (b:=sz) (c:=rm) dU.out.r dU.out.i;have UC:=Aa hp.1;have XT:=Aa hp.2;have LX:Hid (Below bS w ((((w9.setCell ⟨bS+1+1,0,none⟩ (.slice ar nl cr)).setCell ⟨bS+1+1,1,none⟩ (.int .i64 nx)).setCell ⟨bS+1+1,2,none⟩ (.int .i64 sz)).setCell ⟨bS+1+1,3,none⟩ (.int .i64 rm))):=Aa (En dU.out.b (by omega));clear hp;generalize ((((w9.setCell ⟨bS+1+1,0,none⟩ (.slice ar nl cr)).setCell ⟨bS+1+1,1,none⟩ (.int .i64 nx)).setCell ⟨bS+1+1,2,none⟩ (.int .i64 sz)).setCell ⟨bS+1+1,3,none⟩ (.int .i64 rm))=W9 at *;obtain⟨⟨z0,z1,z2,z3⟩,_⟩:=Cg UC.out;refine Bv (v:=.tuple #[Q7 (.slice ar nl cr) nx sz rm,.int .i64 0,.int .i64 11]) ?_ rfl ⟨_,by rw[HR.out],by rw[HR.out];exact XT.out,by first|exact LX.out|(rw[ma.out];exact LX.out)⟩;rw[Bt rfl];go_simp
        · have HR3:Hid (R=if(nF:Int)≤sz-nK then(((l1,Ml),sz-nK-nF),mm,0) else(((l,nx),sz-nK),0,11)):=Aa (by rw[HR2.out,if_neg h2]);clear HR2;go_upto_region 12 with fail;have hp:=dU.out.put (sz-nK);have HWA:=Aa hp;have HQA:=Aa (iP dU.out.s mr.out (.slice ar nl cr) (.int .i64 nx) (.int .i64 sz) (.int .i64 (sz-nK)));have AcV:=Aa (VH dU.out.s Ab4.out (.slice ar nl cr) (.int .i64 nx) (.int .i64 sz) (.int .i64 (sz-nK)));clear hp s0 s1 s2 s3 f0 f1 f2 f3 g0 g1 g2 g3 dU mr Ab4;generalize ((((w9.setCell ⟨bS,0,none⟩ (.slice ar nl cr)).setCell ⟨bS,1,none⟩ (.int .i64 nx)).setCell ⟨bS,2,none⟩ (.int .i64 sz)).setCell ⟨bS,3,none⟩ (.int .i64 (sz-nK)))=wA at *;obtain⟨⟨s0,s1,s2,s3⟩,_⟩:=Cg HWA.out.s;obtain⟨_,f0,f1,f2,f3⟩:=Cg HWA.out.r;obtain⟨⟨q0,q1⟩,_⟩:=BN HQA.out;by_cases h3:(nF:Int)≤sz-nK
          · have HR:Hid (R=(((l1,Ml),sz-nK-nF),mm,0)):=Aa (by rw[HR3.out,if_pos h3]);have h3':¬sz-nK<(nF:Int):=by omega
            clear HR3;go_wp2_with fail
            (try simp only[Exit.inBlock,Exit.then])
            clear s0 s1 s2 s3 f0 f1 f2 f3 q0 q1;have hp:=Gj (a:=Ml) (b:=sz) (c:=(sz-nK-nF)) HWA.out.r AcV.out;have UC:=Aa hp.1;have XT:=Aa hp.2;have LX:Hid (Below bS w ((((wA.setCell ⟨bS+1+1,0,none⟩ (.slice aq l1.length cq)).setCell ⟨bS+1+1,1,none⟩ (.int .i64 Ml)).setCell ⟨bS+1+1,2,none⟩ (.int .i64 sz)).setCell ⟨bS+1+1,3,none⟩ (.int .i64 (sz-nK-nF)))):=Aa (En HWA.out.b (by omega));clear hp;generalize ((((wA.setCell ⟨bS+1+1,0,none⟩ (.slice aq l1.length cq)).setCell ⟨bS+1+1,1,none⟩ (.int .i64 Ml)).setCell ⟨bS+1+1,2,none⟩ (.int .i64 sz)).setCell ⟨bS+1+1,3,none⟩ (.int .i64 (sz-nK-nF)))=W9 at *;obtain⟨⟨z0,z1,z2,z3⟩,_⟩:=Cg UC.out;refine Bv (v:=.tuple #[Q7 (.slice aq l1.length cq) Ml sz (sz-nK-nF),.int .i64 mm,.int .i64 0]) ?_ rfl ⟨_,by rw[HR.out],by rw[HR.out];exact XT.out,by first|exact LX.out|(rw[ma.out];exact LX.out)⟩;rw[Bt rfl];go_simp
          · have HR:Hid (R=(((l,nx),sz-nK),0,11)):=Aa (by rw[HR3.out,if_neg h3]);have h3':sz-nK<(nF:Int):=by omega
            clear HR3;go_wp2_with fail
            (try simp only[Exit.inBlock,Exit.then])
            clear s0 s1 s2 s3 f0 f1 f2 f3 q0 q1;have hp:=Gj (a:=nx) (b:=sz) (c:=(sz-nK)) HWA.out.r HWA.out.i;have UC:=Aa hp.1;have XT:=Aa hp.2;have LX:Hid (Below bS w ((((wA.setCell ⟨bS+1+1,0,none⟩ (.slice ar nl cr)).setCell ⟨bS+1+1,1,none⟩ (.int .i64 nx)).setCell ⟨bS+1+1,2,none⟩ (.int .i64 sz)).setCell ⟨bS+1+1,3,none⟩ (.int .i64 (sz-nK)))):=Aa (En HWA.out.b (by omega));clear hp;generalize ((((wA.setCell ⟨bS+1+1,0,none⟩ (.slice ar nl cr)).setCell ⟨bS+1+1,1,none⟩ (.int .i64 nx)).setCell ⟨bS+1+1,2,none⟩ (.int .i64 sz)).setCell ⟨bS+1+1,3,none⟩ (.int .i64 (sz-nK)))=W9 at *;obtain⟨⟨z0,z1,z2,z3⟩,_⟩:=Cg UC.out;refine Bv (v:=.tuple #[Q7 (.slice ar nl cr) nx sz (sz-nK),.int .i64 0,.int .i64 11]) ?_ rfl ⟨_,by rw[HR.out],by rw[HR.out];exact XT.out,by first|exact LX.out|(rw[ma.out];exact LX.out)⟩;rw[Bt rfl];go_simp
    · have HR:Hid (R=(((l,nx),rm),0,ff)):=Aa (by rw[←iw.out,if_pos bN]);clear iw;go_wp2_with fail
      (try simp only[Exit.inBlock,Exit.then])
      clear s0 s1 s2 s3 f0 f1 f2 f3;have hp:=Gj (a:=nx) (b:=sz) (c:=rm) yY.out.r yY.out.i;have UC:=Aa hp.1;have XT:=Aa hp.2;have LX:Hid (Below bS w ((((wc.setCell ⟨bS+1+1,0,none⟩ (.slice ar nl cr)).setCell ⟨bS+1+1,1,none⟩ (.int .i64 nx)).setCell ⟨bS+1+1,2,none⟩ (.int .i64 sz)).setCell ⟨bS+1+1,3,none⟩ (.int .i64 rm))):=Aa (En yY.out.b (by omega));clear hp;generalize ((((wc.setCell ⟨bS+1+1,0,none⟩ (.slice ar nl cr)).setCell ⟨bS+1+1,1,none⟩ (.int .i64 nx)).setCell ⟨bS+1+1,2,none⟩ (.int .i64 sz)).setCell ⟨bS+1+1,3,none⟩ (.int .i64 rm))=W9 at *;obtain⟨⟨z0,z1,z2,z3⟩,_⟩:=Cg UC.out;refine Bv (v:=.tuple #[Q7 (.slice ar nl cr) nx sz rm,.int .i64 0,.int .i64 ff]) ?_ rfl ⟨_,by rw[HR.out],by rw[HR.out];exact XT.out,by first|exact LX.out|(rw[ma.out];exact LX.out)⟩;rw[Bt rfl];go_simp
 · have HR:Hid (R=(((l,nx),rm),0,1)):=Aa (by rw[←hR,if_pos hm]);rw[Bb hm]at ZA;obtain⟨k,d,dt,s,ns,Bg,sh⟩:=x;unfold Qk at HW;unfold Ga at ZA ⊢;simp only at HW ZA ⊢;clear hR hm hg;go_enter Tryz.func15,Tryz.ntmps15;go_upto_region 1 with fail;generalize (((w.alloc (.cells #[.slice ar nl cr,.int .i64 nx,.int .i64 sz,.int .i64 rm] 33)).alloc (.cells ⟨[.int .i64 k,.int .i64 d,.int .i64 dt,.string s,.string ns,.bool Bg,.int .i64 sh]⟩ 38)).alloc (.cells #[.slice none 0 0,.int .i64 0,.int .i64 0,.int .i64 0] 33))=W0 at *;generalize hbS:w.heap.size=bS at *;have ma:=Aa hbS;clear hbS;obtain⟨p0,p1,p2,p3,p4,p5,p6⟩:=AJ (x:=⟨k,d,dt,s,ns,Bg,sh⟩) HW.out.d;go_upto_region 2 with(go_at_call 23;refine(ZA _).mono ?_;rintro e w1 ⟨rfl,hb1⟩;have HW1:=Aa (HW.out.below hb1);clear hb1;obtain⟨⟨s0,s1,s2,s3⟩,_⟩:=Cg HW1.out.s;obtain⟨⟨r0,r1,r2,r3⟩,f0,f1,f2,f3⟩:=Cg HW1.out.r);clear p0 p1 p2 p3 p4 p5 p6 HW;go_wp2_with fail
   (try simp only[Exit.inBlock,Exit.then])
   clear s0 s1 s2 s3 r0 r1 r2 r3 f0 f1 f2 f3;have hp:=Gj (a:=nx) (b:=sz) (c:=rm) HW1.out.r HW1.out.i;have UC:=Aa hp.1;have XT:=Aa hp.2;have LX:Hid (Below bS w ((((w1.setCell ⟨bS+1+1,0,none⟩ (.slice ar nl cr)).setCell ⟨bS+1+1,1,none⟩ (.int .i64 nx)).setCell ⟨bS+1+1,2,none⟩ (.int .i64 sz)).setCell ⟨bS+1+1,3,none⟩ (.int .i64 rm))):=Aa (En HW1.out.b (by omega));clear hp;generalize ((((w1.setCell ⟨bS+1+1,0,none⟩ (.slice ar nl cr)).setCell ⟨bS+1+1,1,none⟩ (.int .i64 nx)).setCell ⟨bS+1+1,2,none⟩ (.int .i64 sz)).setCell ⟨bS+1+1,3,none⟩ (.int .i64 rm))=W9 at *;obtain⟨⟨z0,z1,z2,z3⟩,_⟩:=Cg UC.out;refine Bv (v:=.tuple #[Q7 (.slice ar nl cr) nx sz rm,.int .i64 0,.int .i64 1]) ?_ rfl ⟨_,by rw[HR.out],by rw[HR.out];exact XT.out,by first|exact LX.out|(rw[ma.out];exact LX.out)⟩;rw[Bt rfl];go_simp
end Go.Proofs.YtdmkhmeaphaapaaGreat
