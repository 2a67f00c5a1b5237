/- Kit. -/
import Derived.Test.YtdmkhmeaphaapaaGreatMZ36
import Derived.Test.YtdmkhmeaphaapaaGreatMZ37
import Derived.Test.YtdmkhmeaphaapaaGreatMZ33
import Derived.Test.YtdmkhmeaphaapaaGreatMZ0
set_option maxRecDepth 100000
set_option linter.unusedVariables false
set_option linter.unusedSimpArgs false
namespace Go.Proofs.YtdmkhmeaphaapaaGreat
open Go.RowKit Go.Sort
theorem nQ:∀rs:List ByteArray,(∀s∈rs,1≤s.size)→rs.length≤(V.Ce (V.recs rs)).length
 | [],_=>Nat.zero_le _
 | x::r,h=>by
  have h1:=V.Rj [x] r;have h2:=V.SS [] x;have h3:=nQ r (fun s hs=>h s (List.mem_cons_of_mem _ hs));have h4:=h x (List.mem_cons_self ..);rw[Hm]at h2;rw[show x::r=[x]++r from rfl,h1,h2,Bg];simp only[List.length_singleton];omega
theorem Yc {B b vb n h:Nat}{k:Bool}{E A:Nat}{img:ByteArray}{rs r1 r2:List ByteArray}{lm:Bool}{st:V.St}{rv:Value}{W:World}(hL:V.DR B b vb n h k E A img rs r1 r2 lm st rv W):rs.length≤1000:=by
 have h1:=nQ (img::rs) (fun s hs=>(hL.live.sizes s hs).1);have h2:=hL.live.end_;have h3:=hL.live.room;have h4:=hL.live.hn;have h5:=hL.live.n2;simp only[List.length_cons]at h1;omega
structure rW (w:World)(B b vb r:Nat)(k:Bool)(E:Nat)(img:ByteArray)(gd:Bool)(T:TI)(vT:Value)(rm:Int)(i:Nat)(W:World):Prop where
 lv:∃A rs r1 r2 st rv,V.DR B b vb 400 200 k E A img rs r1 r2 false st rv W∧rX gd img rs T
 rf:W.heap[r]?=some (.cells #[vT,.int .i64 T.2,.int .i64 1999,.int .i64 rm] 33 (0,0))
 it:Bi W vT T.1
 gt:Cq T
 nx:T.2≤1+i
 wH:1998-100*i≤rm∧rm≤1998
 bl:Below w.heap.size w W
 sz:B≤W.heap.size
theorem rW.below {w:World}{B b vb r:Nat}{k:Bool}{E:Nat}{img:ByteArray}{gd:Bool}{T:TI}{vT:Value}{rm:Int}{i:Nat}{W W':World}(h:rW w B b vb r k E img gd T vT rm i W)(hb:Below W.heap.size W W'):rW w B b vb r k E img gd T vT rm i W':=by
 obtain⟨A,rs,r1,r2,st,rv,h1,h2⟩:=h.lv;exact⟨⟨A,rs,r1,r2,st,rv,h1.below hb,h2⟩,(hb.block _ (Ab h.rf)).trans h.rf,h.it.kept hb,h.gt,h.nx,h.wH,h.bl.trans (hb.mono h.bl.size),Al h.sz hb.size⟩
theorem rW.up {w:World}{B b vb r:Nat}{k:Bool}{E:Nat}{img:ByteArray}{gd:Bool}{T:TI}{vT:Value}{rm:Int}{i:Nat}{W:World}(h:rW w B b vb r k E img gd T vT rm i W):rW w B b vb r k E img gd T vT rm (i+1) W:=
 ⟨h.lv,h.rf,h.it,h.gt,by have:=h.nx;omega,by have:=h.wH;omega,h.bl,h.sz⟩
theorem Be.ofRow {B:Nat}{a b:World}{rv:Value}{l:List ByteArray}(h:V.EY (V.BC rv) a b)(hr:V.Cw B a rv l):Be a b:=fun T hT k cs fr hk=>by
 have hT2:T∉V.CY∧T≠9:=by
  have h9:∀T∈Jt,T∉V.CY∧T≠9:=by decide
  exact h9 T hT
 refine h T hT2.1 k cs fr (fun e=>?_) hk;rcases hr with⟨_,h1⟩|⟨g,off,cap,cur,h1,_,_,_,hg,_⟩
 · rw[h1]at e;cases e
 · rw[h1]at e;injection e with e;have e2:k=g:=e;subst e2;rw[hk]at hg;injection hg with hg;injection hg with _ h3 _;exact hT2.2 h3
theorem qg {x:De}(h:May x):EA (Ac x)=(x,0):=by
 have hd:NU (Ac x)=x:=by
  have h1:=Lg x h [];rwa[Ct]at h1
 unfold EA;rw[hd,if_pos ⟨h,rfl⟩]
theorem qw (s:ByteArray):(⟨(bl s).toArray⟩:ByteArray)=s:=by
 unfold bl;rw[Array.toArray_toList]
theorem vL (s:ByteArray):(bl s).length=s.size:=by
 unfold bl;rw[BP];rfl
abbrev ZC:Obj:=.cells #[.slice none 0 0,.int .i64 0,.int .i64 0,.int .i64 0] 33
set_option maxHeartbeats 32000000 in
theorem Uk (S:qG)(v v2:Value)(l:List De)(l2:List ByteArray)(w:World)(hv:wD w v l)(hl:l.length≤9223372036854775807)(hs:∀x∈l,x.s.size≤9223372036854775807∧x.ns.size≤9223372036854775807)
    (hv2:V.DL w v2 l2) (hl2:l2.length≤9223372036854775807) (hs2:∀s∈l2,s.size≤9223372036854775807) :
    Calls Tryz.prog 5 #[v,v2] w fun e w'=>e=.returned (.bool true)∧Below w.heap.size w w':=by
  obtain⟨a,cap,rfl⟩:=hv.len;obtain⟨a2,cap2,rfl⟩:=hv2.len;obtain⟨R,hR⟩:∃R,YJ l 10=R:=⟨_,rfl⟩;have cF:=fun W (h:wD W (.slice a l.length cap) l)=>vF (.slice a l.length cap) l 10 W h hl (by omega) hs
  rw[hR]at cF;obtain⟨m,hm⟩:∃n,l.length=n:=⟨_,rfl⟩;obtain⟨m2,hm2⟩:∃n,l2.length=n:=⟨_,rfl⟩;have HM:=Aa hm;have HM2:=Aa hm2;have QN:=Aa hs;have Ab2:=Aa hs2;rw[hm]at hl hv ⊢;rw[hm2]at hl2 hv2 ⊢;simp only[hm]at cF;have HV:=Aa hv;have qR:=Aa hv2;have HR:=Aa hR;have cA:=jU S;clear hR hm hs hv hm2 hs2 hv2;go_enter Tryz.func5,Tryz.ntmps5;cases R with
  | false =>
    go_wp2_with (first
      | (go_at_call 6;with_reducible refine(cA w).mono ?_;rintro e w1 ⟨rfl,hb1⟩)
      | (go_at_call 19;refine(cF _ (AU.kept HV.out hb1)).mono ?_;rintro e w2 ⟨rfl,hw2⟩;subst hw2)
      | (go_at_call 6;refine(cA _).mono ?_;rintro e w3 ⟨rfl,hb3⟩))
    go_ret;exact⟨rfl,hb1.trans (hb3.mono hb1.size)⟩
  | true =>
    by_cases h3:(3:Int)<(m2:Int)
    · go_wp2_with (first
        | (go_at_call 6;with_reducible refine(cA w).mono ?_;rintro e w1 ⟨rfl,hb1⟩)
        | (go_at_call 19;refine(cF _ (AU.kept HV.out hb1)).mono ?_;rintro e w2 ⟨rfl,hw2⟩;subst hw2)
        | (go_at_call 6;refine(cA _).mono ?_;rintro e w3 ⟨rfl,hb3⟩))
      go_ret;exact⟨rfl,hb1.trans (hb3.mono hb1.size)⟩
    · have AcI:m≤10:=by rw[←HM.out];exact(aG HR.out (by omega)).1
      go_upto_region 5 with(first
        | (go_at_call 6;refine(cA w).mono ?_;rintro e w1 ⟨rfl,hb1⟩)
        | (go_at_call 19;refine(cF _ (AU.kept HV.out hb1)).mono ?_;rintro e w1b ⟨rfl,hw1⟩;subst hw1)
        | (go_at_call 8;refine(V.dH 400 _).mono ?_;rintro e w2 ⟨b,rfl,hd,hb2,_⟩;have cO:=Sw (n:=400) S hd (by decide) (by decide) hb2.size;have HB2:=Aa hb2;clear hd)
        | (go_at_call 9;refine cO.mono ?_;rintro e w3 ⟨sb,t0,rfl,hl3,hlk,hb3,hp3⟩))
      obtain⟨k,img,rs,st,t1,hd,hk,hmt,AaL⟩:=S.kn hl3;have HB:Hid (Below w.heap.size w w3):=Aa (hb1.trans ((HB2.out.trans hb3).mono hb1.size));have rH:Hid (w.heap.size≤w1b.heap.size):=Aa hb1.size;have Pt:Hid (w1b.heap.size≤w3.heap.size):=Aa (HB2.out.trans hb3).size;have HMT:=Aa hmt;have HL1:=Aa (hlk.trans AaL);have cV:=V.XP hd hk Pt.out;generalize w1b.heap.size=B at *;clear hl3 hlk hb1 hb3 hp3 cA cF cO HB2 hd hk hmt AaL;go_upto_region 6 with(go_at_call 22;refine cV.mono ?_;rintro e w4 ⟨vb,rv,st',rfl,hb4,ho4,hvb,hrow,hL,hpe⟩);have HL4:=Aa hL;have KT:Hid (Below w.heap.size w w4):=Aa (HB.out.trans (hb4.mono rH.out));have Aae:Hid (B≤w4.heap.size):=Aa (Al Pt.out hb4.size);clear hb4 ho4 hvb hrow hL hpe cV HB Pt;go_upto_region 9 with(go_at_call 10;refine(ZT w4).mono ?_;rintro e w5 ⟨rfl,hb5⟩);have HI:Hid (rW w B b vb w5.heap.size k 1 img true ([],1) (.slice none 0 0) 1998 0 (w5.alloc (.cells #[.slice none 0 0,.int .i64 1,.int .i64 1999,.int .i64 1998] 33))):=Aa (by
        have hb6:=hb5.alloc hb5.size (.cells #[.slice none 0 0,.int .i64 1,.int .i64 1999,.int .i64 1998] 33);exact⟨⟨_,rs,_,_,st',rv,HL4.out.below hb6,fun _=>⟨t1,HMT.out,HL1.out.symm⟩,fun h=>absurd h (by decide)⟩,Ai _ _,Bi.nil _,NN,by decide,by decide,KT.out.trans (hb6.mono KT.out.size),Al Aae.out hb6.size⟩)
      have HRB:Hid (B≤w5.heap.size):=Aa (Al Aae.out hb5.size);clear hb5 HL4 KT Aae;generalize w5.heap.size=r at *;generalize (w5.alloc (.cells #[.slice none 0 0,.int .i64 1,.int .i64 1999,.int .i64 1998] 33))=w6 at *;go_wp2;go_loopw [11,12] (fun gv iv wr=>∃(i:Nat) (gd:Bool) (T:TI) (vT:Value) (rm:Int),i≤m∧gv=.bool gd∧iv=.int .i64 i∧rW w B b vb r k 1 img gd T vT rm i wr) (fun _ iv _=>m-(intOf iv).toNat)
      case atStart=>exact⟨0,true,_,_,_,by omega,rfl,rfl,HI.out⟩
      case round =>
        clear HI;obtain⟨i,gd,T,vT,rm,hi,rfl,rfl,hI⟩:=hrel;have HI:=Aa hI;clear hI;by_cases him:i<m
        · have hiz:(i:Int)<(m:Int):=by omega
          obtain⟨o,ho⟩:∃o,l[i]?=some o:=⟨_,Ci (by rw[HM.out];omega)⟩;obtain⟨g,off,rfl,hg,hrg⟩:=HV.out.at ho;have HOC:Hid (∀W,Below w.heap.size w W→W.cell? ⟨g,off+i*7,none⟩=some (.int .i64 o.k)∧W.cell? ⟨g,off+i*7+1,none⟩=some (.int .i64 o.d)∧W.cell? ⟨g,off+i*7+2,none⟩=some (.int .i64 o.dt)∧W.cell? ⟨g,off+i*7+3,none⟩=some (.string o.s)∧W.cell? ⟨g,off+i*7+4,none⟩=some (.string o.ns)∧W.cell? ⟨g,off+i*7+5,none⟩=some (.bool o.Ba)∧W.cell? ⟨g,off+i*7+6,none⟩=some (.int .i64 o.sh)):=Aa (fun W hW=>by
            have h:=DI hrg hg hW;exact⟨h 0 _ rfl,h 1 _ rfl,h 2 _ rfl,h 3 _ rfl,h 4 _ rfl,h 5 _ rfl,h 6 _ rfl⟩)
          have NW:=XQ o;unfold F7 at NW;clear ho hg hrg;obtain⟨o0,o1,o2,o3,o4,o5,o6⟩:=HOC.out wr HI.out.bl;by_cases ou:May o
          · rw[AX ou]at NW;have ru:=Aa ou;clear ou;go_upto_region 14 with(go_at_call 23;refine(NW _).mono ?_;rintro e w7 ⟨rfl,IG⟩);have rC:=Aa (HI.out.below IG);clear o0 o1 o2 o3 o4 o5 o6 IG NW HI;obtain⟨aT,cT,rfl⟩:=rC.out.it.1.len;have hss:o.s.size≤9223372036854775807∧o.ns.size≤9223372036854775807:=by
              have h9:=ru.out.2.2.2.2.2.2;omega
            have cS:∀W,Bi W (.slice aT T.1.length cT) T.1→Calls Tryz.prog 15 #[Ot (.slice aT T.1.length cT) T.2 1999 rm,F7 o] W (Xj (Dw T 1999 rm o) 1999 W):=fun W h=>tK _ T.1 T.2 1999 rm o W h rC.out.gt (by have:=rC.out.nx;omega) (by decide) (by have:=rC.out.wH;omega) hss
            have HQR:=Aa (fZ (T:=T) (sz:=1999) ru.out (show 100≤rm by have:=rC.out.wH;omega));obtain⟨Q,hQ⟩:∃Q,Dw T 1999 rm o=Q:=⟨_,rfl⟩;have HQ:=Aa hQ;unfold Xj Ot F7 at cS;simp only[hQ]at cS;clear hQ hss;have M4:Hid (∀W,Below w7.heap.size w7 W→Below w7.heap.size w7 W∧W.cell? ⟨r,0,none⟩=some (.slice aT T.1.length cT)∧W.cell? ⟨r,1,none⟩=some (.int .i64 T.2)∧W.cell? ⟨r,2,none⟩=some (.int .i64 1999)∧W.cell? ⟨r,3,none⟩=some (.int .i64 rm)∧W.cell? ⟨g,off+i*7,none⟩=some (.int .i64 o.k)∧W.cell? ⟨g,off+i*7+1,none⟩=some (.int .i64 o.d)∧W.cell? ⟨g,off+i*7+2,none⟩=some (.int .i64 o.dt)∧W.cell? ⟨g,off+i*7+3,none⟩=some (.string o.s)∧W.cell? ⟨g,off+i*7+4,none⟩=some (.string o.ns)∧W.cell? ⟨g,off+i*7+5,none⟩=some (.bool o.Ba)∧W.cell? ⟨g,off+i*7+6,none⟩=some (.int .i64 o.sh)):=Aa (fun W hW=>by
              obtain⟨⟨s0,s1,s2,s3⟩,_⟩:=CB ((hW.block r (Ab rC.out.rf)).trans rC.out.rf);exact⟨hW,s0,s1,s2,s3,HOC.out W (rC.out.bl.trans (hW.mono rC.out.bl.size))⟩)
            have Zg:Hid (∀W,Below w7.heap.size w7 W→Bi W (.slice aT T.1.length cT) T.1):=Aa (fun W hW=>rC.out.it.kept hW);go_cut [13,14,15] from 52 to 87 (fun v13 v14 v15 wx=>∃(q:Nat) (v8:Value),v13=.pointer (some ⟨q,0,none⟩)∧v14=.int .i64 Q.2.1∧v15=.int .i64 Q.2.2∧wx.heap[q]?=some (.cells #[v8,.int .i64 Q.1.1.2,.int .i64 1999,.int .i64 Q.1.2] 33 (0,0))∧Bi wx v8 Q.1.1.1∧w7.heap.size≤q∧Below w7.heap.size w7 wx)
            case first =>
              have hs0:=M4.out w7.drew (Ad _ _).drew;go_region_held3 (fun W=>Below w7.heap.size w7 W∧W.cell? ⟨r,0,none⟩=some (.slice aT T.1.length cT)∧W.cell? ⟨r,1,none⟩=some (.int .i64 T.2)∧W.cell? ⟨r,2,none⟩=some (.int .i64 1999)∧W.cell? ⟨r,3,none⟩=some (.int .i64 rm)∧W.cell? ⟨g,off+i*7,none⟩=some (.int .i64 o.k)∧W.cell? ⟨g,off+i*7+1,none⟩=some (.int .i64 o.d)∧W.cell? ⟨g,off+i*7+2,none⟩=some (.int .i64 o.dt)∧W.cell? ⟨g,off+i*7+3,none⟩=some (.string o.s)∧W.cell? ⟨g,off+i*7+4,none⟩=some (.string o.ns)∧W.cell? ⟨g,off+i*7+5,none⟩=some (.bool o.Ba)∧W.cell? ⟨g,off+i*7+6,none⟩=some (.int .i64 o.sh)) (with_reducible first|assumption|(refine M4.out _ ?_;with_reducible first|assumption|exact(Ad _ _).drew|exact(ES (Ad _ _) (Ae _)).drew|exact CL ‹_›|exact ES ‹_› (Ae _)|exact D7 oF hqq)) (first
                | (go_at_call 15;(with_reducible refine(cS w7.drew (Zg.out _ (Ad _ _).drew)).mono ?_);rintro e w8 ⟨v8,rfl,WN,Hr⟩;obtain⟨a8,c8,PZ⟩:=WN.1.len;subst PZ;have oF:Below w7.heap.size w7 w8:=CV (Ae _) (Ad _ _).drew Hr;have hT8:(w8.alloc ZC).heap[w8.heap.size]?=some ZC:=Ai _ _;have wW:Bi (w8.alloc ZC) (.slice a8 Q.1.1.1.length c8) Q.1.1.1:=WN.kept ((Ad _ _).alloc (Ae _) _);have hI9:=fun x=>WN.kept ((Ad _ w8).alloc (Ae _) x);have hqq:w7.heap.size≤w8.heap.size:=oF.size;obtain⟨⟨z0,z1,z2,z3⟩,y0,y1,y2,y3⟩:=CB hT8)
                | (go_at_call 15;(with_reducible refine(cS (w7.alloc ZC).drew (Zg.out _ (ES (Ad _ _) (Ae _)).drew)).mono ?_);rintro e w8 ⟨v8,rfl,WN,Hr⟩;obtain⟨a8,c8,PZ⟩:=WN.1.len;subst PZ;have oF:Below w7.heap.size w7 w8:=CV (Ae _) (ES (Ad _ _) (Ae _)).drew Hr;have hT8:w8.heap[w7.heap.size]?=some ZC:=(Hr.block _ (by show w7.heap.size<(w7.alloc ZC).heap.size;simp)).trans (Ai w7 ZC);have wW:=WN;have hqq:w7.heap.size≤w7.heap.size:=Ae _;obtain⟨⟨z0,z1,z2,z3⟩,y0,y1,y2,y3⟩:=CB hT8))
              all_goals
                go_wp2;go_meet
                first
                  | (with_reducible exact⟨_,_,rfl,rfl,rfl,Ai _ _,hI9 _,hqq,ES oF (Ae _)⟩)
                  | (refine⟨w7.heap.size,.slice a8 Q.1.1.1.length c8,rfl,rfl,rfl,?_,?_,hqq,?_⟩
                     · with_reducible exact(F8 hT8 wW).1
                     · with_reducible exact(F8 hT8 wW).2
                     · with_reducible exact D7 oF hqq)
            case rest =>
              obtain⟨q,v8,Ka,h14,h15,hq,hiq,hql,hbq⟩:=hcut;subst Ka;subst h14;subst h15;obtain⟨a8,c8,rfl⟩:=hiq.1.len;have Ug:=Aa (rC.out.below hbq);have HQ8:=Aa hq;have HV8:=Aa hiq;clear hq hiq hbq M4 Zg cS;generalize wc=w8 at *;obtain⟨⟨s0,s1,s2,s3⟩,_⟩:=CB HQ8.out;obtain⟨⟨z0,z1,z2,z3⟩,y0,y1,y2,y3⟩:=CB Ug.out.rf;go_upto_region 16 with fail;have hp:=F8 (a:=Q.1.1.2) (b:=1999) (c:=Q.1.2) Ug.out.rf HV8.out;have ho:V.Off Nj w8 ((((w8.setCell ⟨r,0,none⟩ (.slice a8 Q.1.1.1.length c8)).setCell ⟨r,1,none⟩ (.int .i64 Q.1.1.2)).setCell ⟨r,2,none⟩ (.int .i64 1999)).setCell ⟨r,3,none⟩ (.int .i64 Q.1.2)):=mV Ug.out.rf (by simp[Nj]) _ _ _ _;have hLV:∃A rs r1 r2 st rv,V.DR B b vb 400 200 k 1 A img rs r1 r2 false st rv ((((w8.setCell ⟨r,0,none⟩ (.slice a8 Q.1.1.1.length c8)).setCell ⟨r,1,none⟩ (.int .i64 Q.1.1.2)).setCell ⟨r,2,none⟩ (.int .i64 1999)).setCell ⟨r,3,none⟩ (.int .i64 Q.1.2))∧rX gd img rs T:=by
                obtain⟨A,rs,r1,r2,st,rv,h1,h2⟩:=Ug.out.lv;exact⟨A,rs,r1,r2,st,rv,iC h1 ho,h2⟩
              have HLV:=Aa hLV;have JJ:=Aa hp.1;have HV9:=Aa hp.2;have Pv:=Aa (D7 (x:=.slice a8 Q.1.1.1.length c8) (y:=.int .i64 Q.1.1.2) (z:=.int .i64 1999) (u:=.int .i64 Q.1.2) Ug.out.bl (show w.heap.size≤r from Al rH.out HRB.out));have kD:Hid (B≤((((w8.setCell ⟨r,0,none⟩ (.slice a8 Q.1.1.1.length c8)).setCell ⟨r,1,none⟩ (.int .i64 Q.1.1.2)).setCell ⟨r,2,none⟩ (.int .i64 1999)).setCell ⟨r,3,none⟩ (.int .i64 Q.1.2)).heap.size):=Aa (by rw[fV];exact Ug.out.sz);clear hp ho hLV s0 s1 s2 s3 z0 z1 z2 z3 y0 y1 y2 y3;generalize ((((w8.setCell ⟨r,0,none⟩ (.slice a8 Q.1.1.1.length c8)).setCell ⟨r,1,none⟩ (.int .i64 Q.1.1.2)).setCell ⟨r,2,none⟩ (.int .i64 1999)).setCell ⟨r,3,none⟩ (.int .i64 Q.1.2))=w9 at *;have hqr:=HQR.out;rw[HQ.out]at hqr;go_cut [11] from 52 to 87 (fun gv wx=>gv=.bool (gd&&decide (Q.2.2=0))∧wx=w9)
              case first =>
                clear hqr;cases gd with
                | false =>
                  go_wp2;go_meet;exact⟨rfl,rfl⟩
                | true =>
                  by_cases h0:Q.2.2=0
                  · go_wp2;go_meet;exact⟨by simp[h0],rfl⟩
                  · go_wp2;go_meet;exact⟨by simp[h0],rfl⟩
              case rest =>
                obtain⟨rfl,hwc⟩:=hcut;subst hwc;have vX:=Aa hqr;clear hqr;obtain⟨o0,o1,o2,o3,o4,o5,o6⟩:=HOC.out wc Pv.out;have cB:=Sk o;unfold F7 at cB;have hbl:=Li o ru.out;go_wp2_with fail;refine(cB _ ru.out).mono ?_;rintro e w10 ⟨rfl,aj⟩;obtain⟨A,rs1,r1,r2,st1,rv1,hL9,hmd⟩:=HLV.out;have vk:=hL9.below aj;have hsz:((⟨(Ac o).toArray⟩:ByteArray)).size≤9223372036854775807:=by
                  show(Ac o).toArray.size≤_
                  rw[FN];omega
                have cAp:=V.Pj ⟨(Ac o).toArray⟩ vk hsz (Yc vk) (Al kD.out aj.size);have Abb:=Aa (vk.row);have zS:=Aa (hmd.deed Ug.out.gt ru.out);have Ab8:=Aa ((aj.block r (Ab JJ.out)).trans JJ.out);have AbX:=Aa (HV9.out.kept aj);have Acl:=Aa (Pv.out.trans (aj.mono Pv.out.size));have Ab4:=Aa (Al kD.out aj.size);have HGT:=Aa (O3 (t:=T) Ug.out.gt o);have HGR:=Aa (O9 T o);have Xq:Hid (0≤Ay (Ac o)∧Ay (Ac o)≤100):=Aa (by unfold Ay;omega);clear o0 o1 o2 o3 o4 o5 o6 aj cB hL9 vk hmd hsz HLV JJ HV9 Pv kD hbl;go_wp2_with fail;refine cAp.mono ?_;rintro e w11 ⟨q2,rfl,oG,yH,hx⟩;have Abm:=Aa (Acl.out.trans (oG.mono rH.out));have Abe:=Aa (Be.ofRow yH Abb.out);have Ab3:=Aa (Al Ab4.out oG.size);rcases hx with⟨rfl,_,st2,lV,hL2,_⟩|⟨_,hlm,_⟩|⟨h0,_⟩
                · have HL2:=Aa hL2;have Ab7:=Aa (Abe.out _ (by simp[Jt]) _ _ _ Ab8.out);have AbW:=Aa (AbX.out.II Abe.out oG.size);clear hL2 oG yH;go_wp2;go_roundw
                  case rel=>exact⟨i+1,(gd&&decide (Q.2.2=0)),Q.1.1,_,Q.1.2,by omega,rfl,by first|rfl|go_num,⟨⟨_,_,_,_,st2,lV,HL2.out,by rw[vX.out];exact zS.out⟩,Ab7.out,AbW.out,by rw[vX.out];exact HGT.out,by rw[vX.out];have h1:=HGR.out.2;have h2:=Ug.out.nx;show(Eg T.1 T.2 o).1.2≤_;omega,by rw[vX.out];have h1:=Xq.out;have h2:=Ug.out.wH;dsimp only;split<;>omega,Abm.out,Ab3.out⟩⟩
                  case measure=>simp[intOf];omega
                · exact absurd hlm (by decide)
                · clear oG yH;go_wp2;go_ret;exact⟨rfl,Abm.out⟩
          · rw[A7 ou]at NW;clear ou;go_wp2_with (go_at_call 23;refine(NW _).mono ?_;rintro e w7 ⟨rfl,IG⟩);go_roundw
            case rel=>exact⟨i+1,gd,T,vT,rm,by omega,rfl,by first|rfl|go_num,(HI.out.below IG).up⟩
            case measure=>simp[intOf];omega
        · have hge:¬(i:Int)<(m:Int):=by omega
          have AaP:i≤10:=by omega
          have Acf:=Aa AaP;clear hge AaP;go_wp2_with fail;go_loopw [11,16] (fun gv iv wr=>∃(j:Nat) (gd2:Bool),j≤m2∧gv=.bool gd2∧iv=.int .i64 j∧rW w B b vb r k 1 img gd2 T vT rm i wr) (fun _ iv _=>m2-(intOf iv).toNat)
          case atStart=>exact⟨0,gd,by omega,rfl,rfl,HI.out⟩
          case round =>
            clear HI;obtain⟨j,gd2,hj,rfl,rfl,hJ⟩:=hrel;have HJ:=Aa hJ;clear hJ;by_cases hjm:j<m2
            · have hjz:(j:Int)<(m2:Int):=by omega
              have hj0:(0:Int)≤(j:Int):=by omega
              obtain⟨s,hsj⟩:∃s,l2[j]?=some s:=⟨_,Ci (by rw[HM2.out];omega)⟩;have hsz2:=Ab2.out s (Dr hsj);obtain⟨g,off,rfl,hgl,hgc⟩:∃g off,a2=some ⟨g,off,none⟩∧g<w.heap.size∧w.cell? ⟨g,off+j,none⟩=some (.string s):=by
                rcases qR.out with⟨h1,_⟩|⟨g,off,cap',h0,h1,h2⟩
                · rw[h1]at hsj;cases hsj
                · injection h1 with h1 _ _;exact⟨g,off,h1,h0,h2 j s hsj⟩
              have LF:Hid (∀W,Below w.heap.size w W→W.cell? ⟨g,off+j,none⟩=some (.string s)):=Aa (fun W hW=>by rw[hW.cell (p:=⟨g,off+j,none⟩) hgl];exact hgc);have cD:=fun W=>YU (bl s) W (by rw[vL];exact hsz2)
              rw[qw]at cD;unfold Ha F7 at cD;have HNB:Hid ((EA (bl s)).2≠0→∀x,May x→Ac x≠bl s):=Aa (fun h0 x hx he=>by
                rw[←he,qg hx]at h0;exact h0 rfl)
              obtain⟨⟨⟨d0,d1,d2,d3,d4,d5,d6⟩,q⟩,hA⟩:∃A,EA (bl s)=A:=⟨_,rfl⟩;rw[hA]at cD HNB;simp only at cD HNB;have c0:=LF.out wr HJ.out.bl;clear hsj hgc hA;go_upto_region 23 with(go_at_call 26;refine(cD _).mono ?_;rintro e w7 ⟨rfl,IG⟩;have kH:=Aa IG;clear IG);have Ug:Hid (rW w B b vb r k 1 img gd2 T vT rm i (w7.alloc (.cells #[.int .i64 d0,.int .i64 d1,.int .i64 d2,.string d3,.string d4,.bool d5,.int .i64 d6] 38))):=Aa ((HJ.out.below kH.out).below ((Ad _ _).alloc (Ae _) _));generalize (w7.alloc (.cells #[.int .i64 d0,.int .i64 d1,.int .i64 d2,.string d3,.string d4,.bool d5,.int .i64 d6] 38))=w8 at *;clear c0 cD kH HJ;by_cases hq:q=0
              · subst hq;go_wp2;go_ret;exact⟨rfl,Ug.out.bl⟩
              · have hqz:(q==0)=false:=A8.2 hq;have Abg:=Aa (HNB.out hq);clear hq HNB;have c1:=LF.out w8 Ug.out.bl;obtain⟨A,rs1,r1,r2,st1,rv1,hL8,hmd⟩:=Ug.out.lv;have cAp:=V.Pj s hL8 hsz2 (Yc hL8) Ug.out.sz;have Ab5:=Aa hL8.row;have zS:=Aa (hmd.bad Abg.out);clear hL8 hmd Abg LF hsz2;go_wp2_with fail;refine cAp.mono ?_;rintro e w9 ⟨q2,rfl,Gh,H8,hx⟩;have Pv:=Aa (Ug.out.bl.trans (Gh.mono rH.out));have HP9:=Aa (Be.ofRow H8 Ab5.out);have kD:=Aa (Al Ug.out.sz Gh.size);have HZ9:=Aa Gh.size;clear cAp c1 Gh H8;rcases hx with⟨rfl,_,st2,lV,hL2,_⟩|⟨_,hlm,_⟩|⟨h0,_⟩
                · have HL2:=Aa hL2;clear hL2;go_wp2;go_roundw
                  case rel=>exact⟨j+1,false,by omega,by first|rfl|trivial,by first|rfl|go_num,⟨⟨_,_,_,_,st2,lV,HL2.out,zS.out⟩,HP9.out _ (by simp[Jt]) _ _ _ Ug.out.rf,Ug.out.it.II HP9.out HZ9.out,Ug.out.gt,Ug.out.nx,Ug.out.wH,Pv.out,kD.out⟩⟩
                  case measure=>simp[intOf];omega
                · exact absurd hlm (by decide)
                · have AaE:(q2==0)=false:=A8.2 h0;clear h0;go_wp2;go_ret;exact⟨rfl,Pv.out⟩
            · have AcS:¬(j:Int)<(m2:Int):=by omega
              obtain⟨A,rs1,r1,r2,st1,rv1,hL,hmd⟩:=HJ.out.lv;have hkn:=hL.live.kn (show 400/2=200 from rfl);have hck:∀A:TI,Cq A→A.2≤9223372036854775807→BI A.1 A.2=bl img→A.2≤9223372036854775000:=fun A h1 h2 h3=>by
                have h4:=HMT.out.GL A h1 h2 h3;have h5:=HL1.out.2;simp only at h5;omega
              cases gd2 with
              | false =>
                have cM:=S.dL hL.dev hkn (hmd.2 rfl) hck HJ.out.sz;clear hL hmd hkn hck;go_wp2_with (go_at_call 27;refine cM.mono ?_;rintro e w9 ⟨rfl,Gh,Kh⟩;have Pv:=Aa (HJ.out.bl.trans (Gh.mono rH.out));clear Gh Kh);go_ret;exact⟨rfl,Pv.out⟩
              | true =>
                obtain⟨t,hm,hlk⟩:=hmd.1 rfl;have cM:=S.dK hL.dev hkn hm (by have h1:=hlk.2;have h2:=HJ.out.nx;have h3:=Acf.out;omega) HJ.out.sz;have HLK:=Aa hlk;clear hL hmd hkn hck hm hlk;obtain⟨aT,cT,rfl⟩:=HJ.out.it.1.len;go_upto_region 29 with(go_at_call 27;refine cM.mono ?_;rintro e w9 ⟨sb9,t9,rm9,rfl,hl9,AaK,Gh,Kh⟩;have HL9:=Aa hl9;have Acd:=Aa AaK;have Pv:=Aa Gh;have kD:=Aa Kh;clear hl9 AaK Gh Kh);clear cM;have AaQ:=(S.good HL9.out).1;have yF:=kD.out _ (by simp[Jt]) _ _ _ HJ.out.rf;have AaN:=HJ.out.it.II kD.out Pv.out.size;have hll:=HJ.out.gt.len;have hAB:(true=true)↔bM t9.1 T.1 t9.2 T.2:=⟨fun _=>(bq AaQ HJ.out.gt).2 (Acd.out.symm.trans HLK.out),fun _=>rfl⟩;have M4:Hid (∀W,Below w9.heap.size w9 W→Below w9.heap.size w9 W∧W.cell? ⟨r,0,none⟩=some (.slice aT T.1.length cT)∧W.cell? ⟨r,1,none⟩=some (.int .i64 T.2)):=Aa (fun W hW=>by
                  have h9:=(hW.block r (Ab yF)).trans yF;exact⟨hW,Av h9 0,Av h9 1⟩)
                have Zi:Hid (∀W,Below w9.heap.size w9 W→Calls Tryz.prog 20 #[Aj sb9] W fun e w'=>∃tb S,e=.returned (Aj tb)∧Bp.Is w' tb t9.1 t9.2 S∧(∀k,S k→W.heap.size≤k)∧Below W.heap.size W w'):=Aa (fun W hW=>S.tree (S.below HL9.out hW));have HAL:Hid (∀W tb S,Bp.Is W tb t9.1 t9.2 S→Below w9.heap.size w9 W→Calls Tryz.prog 28 #[Aj tb,Bo (.slice aT T.1.length cT) T.2] W fun e w'=>e=.returned (.bool true)∧Below W.heap.size W w'):=Aa (fun W tb S h hW=>qC (.slice aT T.1.length cT) h (AaN.kept hW) hll true hAB);unfold Bo at HAL;have wz:Hid (Below w.heap.size w w9):=Aa (HJ.out.bl.trans (Pv.out.mono rH.out));clear AaQ yF AaN hll hAB;have hs0:=M4.out w9.drew (Ad _ _).drew;go_region_held3 (fun W=>Below w9.heap.size w9 W∧W.cell? ⟨r,0,none⟩=some (.slice aT T.1.length cT)∧W.cell? ⟨r,1,none⟩=some (.int .i64 T.2)) (with_reducible first|assumption|(refine M4.out _ ?_;with_reducible first|assumption|exact(Ad _ _).drew|exact CL ‹_›)) (first
                  | (go_at_call 20;refine(Zi.out _ (Ad _ _).drew).mono ?_;rintro e w10 ⟨tb4,S4,rfl,hi4,hs4,hb4⟩;have yX:Below w9.heap.size w9 w10:=CV (Ae _) (Ad _ _).drew hb4)
                  | (go_at_call 28;refine(HAL.out _ tb4 S4 hi4 yX).mono ?_;rintro e w11 ⟨rfl,hb5⟩;have AbO:Below w9.heap.size w9 w11:=yX.trans (hb5.mono yX.size)))
                all_goals
                  go_wp2_with fail;go_ret;exact⟨rfl,wz.out.trans (AbO.mono wz.out.size)⟩
end Go.Proofs.YtdmkhmeaphaapaaGreat
