/- Kit. -/
import Derived.Test.YtdmkhmeaphaapaaGreatCZ11
import Derived.Test.YtdmkhmeaphaapaaGreatCZ0
set_option maxRecDepth 100000
set_option linter.unusedVariables false
set_option linter.unusedSimpArgs false
namespace Go.Proofs.YtdmkhmeaphaapaaGreat
open Go.RowKit Go.Sort
def TIs (w:World)(b:Nat)(l:List Az)(nx:Int)(S:Nat→Prop):Prop:=
 ∃R u v ys,TM w b (Bo l) (Bh l) R u v ys nx∧Bc u ys=BI l∧Aq l nx∧S=DV b R v
theorem SN {l:List Az}{nx:Int}(h:Aq l nx){d:Nat}(hd:A9 l (d:Int)=0)(s:ByteArray):((BK l (d:Int) s).2=0∧0≤ER (Bh l d) s)∨((BK l (d:Int) s).2≠0∧ER (Bh l d) s=-1):=by
 unfold BK D6;rw[if_pos hd];rcases Iy (Bh l d) s with⟨h1,h2,_⟩|⟨i,x,h1,_,_,h2,_⟩
 · right;unfold Bh at h2;rw[h2];exact⟨by simp only[if_pos hd];decide,h1⟩
 · left;unfold Bh at h2;rw[h2];exact⟨rfl,by rw[h1];omega⟩
theorem QU (l:List Az):∀k n,F8 l k n≠0→AP l (F8 l k n:Int)=0
 | 0,n,h=>absurd rfl h
 | k+1,n,h=>by
  unfold F8 at h ⊢;split
  · assumption
  · rename_i h1;rw[if_neg h1]at h;exact QU l k (n+1) h
theorem TD (l:List Az)(h:Hl l≠0):Bo l (Hl l)=0:=QU l 200 1 h
theorem Qn {s:ByteArray}{sh:Int}(h:Ec s sh=0):s.size≤255:=by
 unfold Ec at h;split at h
 · rename_i hg;unfold Hg at hg;simp only[Bool.and_eq_true,decide_eq_true_eq]at hg;exact hg.2.2.1
 · omega
section
variable {w:World}{b:Nat}{l:List Az}{nx:Int}{R:Nat→Value}{u:Nat}{v:Value}{ys:List Int}
def Wm (b:Nat)(r:(List Az×Int)×Int×Int)(S:Nat→Prop)(w:World)(e:Ending)(w':World):Prop:=
 ∃S',e=.returned (.tuple #[.int .i64 r.2.1,.int .i64 r.2.2])∧TIs w' b r.1.1 r.1.2 S'∧Trod w w' S S'
set_option maxHeartbeats 8000000 in
theorem aC (h:TM w b (Bo l) (Bh l) R u v ys nx)(ho:Bc u ys=BI l)(hg:Aq l nx)(d:Int)(s:ByteArray)(Bg:Bool)(sh:Int)(hs:s.size≤9223372036854775807)(hnx:nx+1≤9223372036854775807) :
 Calls Tryz.prog 99 #[Ag b,.int .i64 d,.string s,.bool Bg,.int .i64 sh] w (Wm b (D7 l nx d s Bg sh) (DV b R v) w):=by
 unfold Wm;have cA:=ZJ h d s hs sh;have Kg:Hid (∀W,Below w.heap.size w W→TIs W b l nx (DV b R v)∧Trod w W (DV b R v) (DV b R v)):=Aa (fun W hW=>⟨⟨R,u,v,ys,h.below hW,ho,hg,rfl⟩,Trod.of_below hW⟩);have HT:=Aa h;have HG:=Aa hg;have xZ:=Aa ho;obtain⟨Q,hQ⟩:∃Q,D7 l nx d s Bg sh=Q:=⟨_,rfl⟩;rw[hQ];unfold D7 at hQ;obtain⟨r,hr⟩:∃r,Lu (Bo l) d s sh=r:=⟨_,rfl⟩;rw[hr]at cA;unfold Lu at hr;rw[hg.open']at hr;clear h hg ho;by_cases hr0:r=0
 · subst hr0;have hd:A9 l d=0:=by
    apply Js;intro hc;rw[if_neg hc]at hr;exact hc hr
   rw[if_pos hd]at hr;obtain⟨n,rfl,hn,hk2⟩:=HG.out.dir hd;rw[if_neg (by simp[hd]),if_neg (by simp[hr])]at hQ;have hel:=HG.out.Nt n;rcases SN HG.out hd s with⟨hf,hp⟩|⟨hf,hp⟩
   · rw[if_pos hf]at hQ;subst hQ;have cP:=fun W (hW:Below w.heap.size w W)=>Li (HT.out.below hW) hn (by omega) s
     have HP6:Gm (Bh l n) s nx=6:=if_pos hp;rw[HP6]at cP;clear hr hd hf hp HP6 hk2 hel;go_enter Tryz.func99,Tryz.ntmps99;go_wp2_with (first
      | (go_at_call 137;refine cA.mono ?_;rintro e w1 ⟨rfl,hb1⟩)
      | (go_at_call 138;refine(cP _ hb1).mono ?_;rintro e w2 ⟨rfl,hb2⟩))
     go_ret2;obtain⟨h1,h2⟩:=Kg.out _ (hb1.trans (hb2.mono hb1.size));exact⟨_,rfl,h1,h2⟩
   · rw[if_neg hf]at hQ;have HP0:Gm (Bh l n) s nx=0:=by
      unfold Gm;rw[hp,if_neg (by omega),if_neg (by have:=HG.out.Ml;omega)]
     have cP:=fun W (hW:Below w.heap.size w W)=>Li (HT.out.below hW) hn (by omega) s
     rw[HP0]at cP;have hfr:=iO l;rw[←xZ.out]at hfr;by_cases hz:Ie 200 (Bc u ys)=0
     · have hfz:Hl l=0:=by rw[hz]at hfr;omega
       rw[if_pos hfz]at hQ;subst hQ;have cT:=fun W (hW:Below w.heap.size w W)=>(Q0.nG W v.ownBlock 200 b v (Bc u ys) W (HT.out.below hW).SK).mono (R':=fun e w'=>e=.returned (.tuple #[.int .i64 0,.bool false])∧∃v',Q0.Dr W v.ownBlock 200 b w' v' (Bc u ys)) (fun e w' hh=>by
        rcases hh with⟨_,h1,h2⟩|⟨k,v',h1,_,h3,_⟩
        · exact⟨h1,v,h2⟩
        · omega)
       clear hr hd hf hp HP0 hk2 hel hfr hz hfz;go_enter Tryz.func99,Tryz.ntmps99;go_wp2_with (first
        | (go_at_call 137;refine cA.mono ?_;rintro e w1 ⟨rfl,hb1⟩)
        | (go_at_call 138;refine(cP _ hb1).mono ?_;rintro e w2 ⟨rfl,hb2⟩;have HB2:=Aa (hb1.trans (hb2.mono hb1.size)))
        | (go_at_call 139;refine(cT _ HB2.out).mono ?_;rintro e w3 ⟨rfl,v3,hp3⟩;have LX:=Aa hp3;clear hp3))
       go_ret2;obtain⟨u3,ys3,h1,h2,h3⟩:=(HT.out.below HB2.out).pool LX.out;exact⟨_,rfl,⟨R,u3,v3,ys3,h1,by rw[←h2];exact xZ.out,HG.out,rfl⟩,(Trod.of_below HB2.out).trans h3⟩
     · obtain⟨k,hk⟩:∃k,Ie 200 (Bc u ys)=k:=⟨_,rfl⟩;rw[hk]at hfr hz;have hkle:k≤200:=by rw[←hk];exact VA _ _
       have hfz:Hl l=k:=by omega
       rw[if_neg (by rw[hfz];omega),hfz]at hQ;subst hQ;have cT:=fun W (hW:Below w.heap.size w W)=>(Q0.nG W v.ownBlock 200 b v (Bc u ys) W (HT.out.below hW).SK).mono (R':=fun e w'=>e=.returned (.tuple #[.int .i64 (k:Int),.bool true])∧∃v',Q0.Dr W v.ownBlock 200 b w' v' ((Bc u ys).set k true)) (fun e w' hh=>by
        rcases hh with⟨h0,_,_⟩|⟨k2,v',h1,_,h3,h4,h5⟩
        · omega
        · obtain rfl:k2=k:=h3.symm.trans hk;exact⟨h4,v',h5⟩)
       have hk0:Bo l k=0:=by
        have h5:=TD l (by rw[hfz];omega);rw[hfz]at h5;exact h5
       have HK0:=Aa hk0;have HGL:Hid (Aq (Dq l nx (n:Int) ⟨s,(k:Int),Bg,0,sh⟩) (nx+1)):=Aa (HG.out.link hd hr hf (by omega) hkle hk0);have uk:s.size≤281474976710656:=by have:=Qn hr;omega
       have Xo:0≤nx:=by have:=HG.out.Ml;omega
       have zn:Hid (Bo (Dq l nx (n:Int) ⟨s,(k:Int),Bg,0,sh⟩)=upd (Bo l) k (kindOf Bg)):=Aa (Lg l (n:Int) ⟨s,(k:Int),Bg,nx,sh⟩ rfl (by omega) hk0);have HEN:Hid (Bh (Dq l nx (n:Int) ⟨s,(k:Int),Bg,0,sh⟩)=upd (Bh l) n (Bh l n++[⟨s,(k:Int),Bg,nx,sh⟩])):=Aa (Oh l n ⟨s,(k:Int),Bg,nx,sh⟩);have HUS:Hid (BI (Dq l nx (n:Int) ⟨s,(k:Int),Bg,0,sh⟩)=(BI l).set k true):=Aa (Qv hkle (A8 ⟨by omega,by rw[zn.out,upd_same];exact KI _⟩) (fun m hm=>by rw[zn.out,upd_ne _ _ hm]));have HHN:=Aa hn;have HHK:=Aa hkle;clear hr hd hf hp HP0 hk2 hfr hz hfz hk hk0 hn hkle;have HEL:=Aa hel;clear hel;go_enter Tryz.func99,Tryz.ntmps99;go_upto_region 8 with(first
        | (go_at_call 137;refine cA.mono ?_;rintro e w1 ⟨rfl,hb1⟩)
        | (go_at_call 138;refine(cP _ hb1).mono ?_;rintro e w2 ⟨rfl,hb2⟩;have HB2:=Aa (hb1.trans (hb2.mono hb1.size)))
        | (go_at_call 139;refine(cT _ HB2.out).mono ?_;rintro e w3 ⟨rfl,v3,hp3⟩;have LX:=Aa hp3;clear hp3))
       obtain⟨u3,ys3,h1,h2,h3⟩:=(HT.out.below HB2.out).pool LX.out;have H2:=Aa h2;have H3:=Aa ((Trod.of_below HB2.out).trans h3);have cAd:=U8 h1 HHN.out (by have:=HEL.out;omega) ⟨s,(k:Int),Bg,0,sh⟩ rfl HHK.out uk Xo hnx;unfold ED Di at cAd;clear h1 h2 h3 cA cP cT hb1;go_wp2_with (go_at_call 140;refine cAd.mono ?_;rintro e w4 ⟨R4,rfl,hm4,yE⟩;have HM4:=Aa hm4;have ZU:=Aa yE;clear hm4 yE);go_ret2;refine⟨_,rfl,⟨R4,u3,v3,ys3,?_,?_,HGL.out,rfl⟩,H3.out.trans ZU.out⟩
       · show TM w4 b (Bo (Dq l nx (n:Int) ⟨s,(k:Int),Bg,0,sh⟩)) (Bh (Dq l nx (n:Int) ⟨s,(k:Int),Bg,0,sh⟩)) R4 u3 v3 ys3 (nx+1)
         rw[zn.out,HEN.out];exact HM4.out
       · show Bc u3 ys3=BI (Dq l nx (n:Int) ⟨s,(k:Int),Bg,0,sh⟩)
         rw[HUS.out,←xZ.out];exact H2.out.symm
 · have hQ2:Q=((l,nx),0,r):=by
    by_cases hd:A9 l d=0
    · rw[if_pos hd]at hr;rw[←hQ,if_neg (by simp[hd]),if_pos (by rw[hr];exact hr0),hr]
    · rw[if_neg hd]at hr;rw[←hQ,if_pos hd,hr]
   subst hQ2;have h0b:(r==0)=false:=Ba.2 hr0;clear hr hQ hr0;go_enter Tryz.func99,Tryz.ntmps99;go_wp2_with (go_at_call 137;refine cA.mono ?_;rintro e w1 ⟨rfl,hb1⟩);go_ret2;obtain⟨h1,h2⟩:=Kg.out _ hb1;exact⟨_,rfl,h1,h2⟩
end
section
variable {w:World}{b:Nat}{l:List Az}{nx:Int}{R:Nat→Value}{u:Nat}{v:Value}{ys:List Int}
def RH (b:Nat)(r:(List Az×Int)×Int)(S:Nat→Prop)(w:World)(e:Ending)(w':World):Prop:=
 ∃S',e=.returned (.int .i64 r.2)∧TIs w' b r.1.1 r.1.2 S'∧Trod w w' S S'
abbrev Ri (x:Br):Obj:=.cells #[.string x.name,.int .i64 x.node,.bool x.dir,.int .i64 x.Al,.int .i64 x.short] 112
theorem Aq.ru (h:Aq l nx)(hm:TM w b (Bo l) (Bh l) R u v ys nx)(d:Int)(s:ByteArray):Calls Tryz.prog 142 #[Ag b,.int .i64 d,.string s] w fun e w'=>e=.returned (.tuple #[Di (BK l d s).1,.int .i64 (BK l d s).2])∧Below w.heap.size w w':=by
 have:=aD hm (fun n hn=>Ao (h.Nt n) (by omega)) d s;rw[h.AbN]at this;exact this
set_option maxHeartbeats 8000000 in
theorem Wz (h:TM w b (Bo l) (Bh l) R u v ys nx)(ho:Bc u ys=BI l)(hg:Aq l nx)(d:Int)(s:ByteArray)(Bg:Bool) :
 Calls Tryz.prog 101 #[Ag b,.int .i64 d,.string s,.bool Bg] w (RH b (BM l nx d s Bg) (DV b R v) w):=by
 unfold RH;have cF:=hg.ru h d s;have Kg:Hid (∀W,Below w.heap.size w W→TIs W b l nx (DV b R v)∧Trod w W (DV b R v) (DV b R v)):=Aa (fun W hW=>⟨⟨R,u,v,ys,h.below hW,ho,hg,rfl⟩,Trod.of_below hW⟩);have HT:=Aa h;have HG:=Aa hg;have xZ:=Aa ho;obtain⟨Q,hQ⟩:∃Q,BM l nx d s Bg=Q:=⟨_,rfl⟩;rw[hQ];unfold BM at hQ;have gM:=fun h=>found (l:=l) (d:=d) (s:=s) h
 obtain⟨⟨x,f⟩,hF⟩:∃F,BK l d s=F:=⟨_,rfl⟩;rw[hF]at cF hQ gM;simp only at cF hQ gM;unfold Di at cF;have hlt:=h.lt;clear h hg ho hF;have pre:∀w1,Below w.heap.size w w1→Below w.heap.size w (w1.alloc (Ri x))∧(w1.alloc (Ri x)).heap[w1.heap.size]?=some (.cells #[.string x.name,.int .i64 x.node,.bool x.dir,.int .i64 x.Al,.int .i64 x.short] 112 (0,0)):=fun w1 hb=>⟨hb.alloc hb.size _,Ai _ _⟩
 have K4:=Aa pre;have dY:Hid (∀k,DV b R v k→k<w.heap.size):=Aa (fun k hk=>(hlt k hk).2);clear pre hlt;by_cases hf:f=0
 · subst hf;obtain⟨hd,hnm,hmem,hns⟩:=gM rfl;rw[if_neg (by simp)]at hQ;obtain⟨n,rfl,hn,hk2⟩:=HG.out.dir hd;obtain⟨nd,hnd⟩:∃nd:Nat,x.node=(nd:Int):=⟨x.node.toNat,by have:=HG.out.node _ hmem;simp only at this;omega⟩;have hnr:1≤nd∧nd≤200:=by have:=HG.out.node _ hmem;simp only[hnd]at this;omega
   obtain⟨nm,x1,dr,ck,sh⟩:=x;simp only at hnd hns hQ K4 cF;subst hnd;subst hns;by_cases h1:Bg=true∧dr=false
   · obtain⟨rfl,rfl⟩:=h1;rw[if_pos ⟨rfl,rfl⟩]at hQ;subst hQ;clear gM hk2;go_enter Tryz.func101,Tryz.ntmps101;go_upto_region 2 with(go_at_call 142;refine cF.mono ?_;rintro e w1 ⟨rfl,hb1⟩);obtain⟨hb2,hq2⟩:=K4.out w1 hb1;have HB2:=Aa hb2;obtain⟨⟨q0,q1,q2,q3,q4⟩,_⟩:=Aj hq2;clear hb2 hq2 hb1;go_wp2;go_ret;obtain⟨g1,g2⟩:=Kg.out _ HB2.out;exact⟨_,rfl,g1,g2⟩
   · rw[if_neg h1]at hQ;by_cases h2:Bg=false∧dr=true
     · obtain⟨rfl,rfl⟩:=h2;rw[if_pos ⟨rfl,rfl⟩]at hQ;subst hQ;clear gM hk2 h1;go_enter Tryz.func101,Tryz.ntmps101;go_upto_region 2 with(go_at_call 142;refine cF.mono ?_;rintro e w1 ⟨rfl,hb1⟩);obtain⟨hb2,hq2⟩:=K4.out w1 hb1;have HB2:=Aa hb2;obtain⟨⟨q0,q1,q2,q3,q4⟩,_⟩:=Aj hq2;clear hb2 hq2 hb1;go_wp2;go_ret;obtain⟨g1,g2⟩:=Kg.out _ HB2.out;exact⟨_,rfl,g1,g2⟩
     · rw[if_neg h2,Lj]at hQ;have hdd:dr=Bg:=by cases dr<;>cases Bg<;>simp_all
       subst hdd;have hn0:(0:Int)≤(nd:Int):=by omega
       have hn1:(nd:Int)<201:=by omega
       obtain⟨m,hm⟩:∃m,(Bh l nd).length=m:=⟨_,rfl⟩;have hm':(Ak l (nd:Int)).length=m:=hm;rw[hm']at hQ;obtain⟨ad,cap,hra⟩:=(HT.out.Fy hnr.2).len;rw[hm]at hra;have HRA:=Aa hra;by_cases hm0:0<m
       · rw[if_pos (A8 hm0)]at hQ;subst hQ;have hmz:(0:Int)<(m:Int):=by omega
         clear gM hk2 h1 h2 hm hm' hra;cases dr with
         | false =>
          go_enter Tryz.func101,Tryz.ntmps101;go_upto_region 2 with(go_at_call 142;refine cF.mono ?_;rintro e w1 ⟨rfl,hb1⟩);obtain⟨hb2,hq2⟩:=K4.out w1 hb1;have HB2:=Aa hb2;have r1:=((HT.out.below hb2).FH hnr.2).1;rw[HRA.out]at r1;obtain⟨⟨q0,q1,q2,q3,q4⟩,_⟩:=Aj hq2;clear hb2 hq2 hb1;go_wp2;go_quiet (fail);go_wp2;go_ret;obtain⟨g1,g2⟩:=Kg.out _ (Am HB2.out _);exact⟨_,rfl,g1,g2⟩
         | true =>
          go_enter Tryz.func101,Tryz.ntmps101;go_upto_region 2 with(go_at_call 142;refine cF.mono ?_;rintro e w1 ⟨rfl,hb1⟩);obtain⟨hb2,hq2⟩:=K4.out w1 hb1;have HB2:=Aa hb2;have r1:=((HT.out.below hb2).FH hnr.2).1;rw[HRA.out]at r1;obtain⟨⟨q0,q1,q2,q3,q4⟩,_⟩:=Aj hq2;clear hb2 hq2 hb1;go_wp2;go_quiet (fail);go_wp2;go_ret;obtain⟨g1,g2⟩:=Kg.out _ (Am HB2.out _);exact⟨_,rfl,g1,g2⟩
       · obtain rfl:m=0:=by omega
         rw[if_neg (by simp)]at hQ;subst hQ;rcases Iy (Bh l n) nm with⟨_,hc,_⟩|⟨i,y,hp,hy,hyn,gI,_⟩
         · unfold Bh at hc;rw[hc]at hnm;cases hnm
         · unfold Bh at gI;rw[gI]at hnm;obtain rfl:=BS hnm;have hil:i<(Bh l n).length:=(DL.1 hy).1;have hel:=HG.out.Nt n;have HEN:Hid (Bh (Bu l (n:Int) nm)=upd (upd (Bh l) n ((Bh l n).eraseIdx i)) nd []):=Aa (by
            rw[TP HG.out hy rfl];have hne:nd≠n:=fun e=>by
             obtain⟨H,hH⟩:=HG.out.low;have:=hH _ hmem;simp only[Int.toNat_natCast,e]at this;omega
            have hz:upd (Bh l) n ((Bh l n).eraseIdx i) nd=[]:=by
             rw[upd_ne _ _ hne];exact Kw hm
            have hu:=(R9 (upd (Bh l) n ((Bh l n).eraseIdx i)) nd).symm;rw[hz]at hu;exact hu)
           have zn:Hid (Bo (Bu l (n:Int) nm)=upd (Bo l) nd 0):=Aa (by
            have:=NY HG.out hmem;simp only[Int.toNat_natCast]at this;exact this)
           have HGU:Hid (Aq (Bu l (n:Int) nm) nx):=Aa (HG.out.unlink hmem (Kw hm'));have HUS:Hid (BI (Bu l (n:Int) nm)=(BI l).set nd false):=Aa (Qv hnr.2 (Bb (fun hc=>hc.2 (by rw[zn.out,upd_same]))) (fun k hk=>by rw[zn.out,upd_ne _ _ hk]));have HIO:Hid (Tu 200 (Bc u ys) (nd:Int)=true):=Aa (by
            unfold Tu;rw[xZ.out,DY,G7 l hnr.2,A8 (by omega),A8 (by omega),A8]
            · rfl
            · refine⟨by omega,?_⟩;have:=Qe HG.out hmem;simp only at this;unfold Bo;rw[this];exact KI _)
           have mE:=Aa hp;have HIL:=Aa hil;have HEL:=Aa hel;have HN:=Aa hn;have X8:=Aa hnr;have hd0:(0:Int)≤(n:Int):=by omega
           clear gM hk2 h1 h2 hm hm' hra gI hy hp hil hel hd hmem hn hnr hm0;cases dr with
           | false =>
            go_enter Tryz.func101,Tryz.ntmps101;go_upto_region 2 with(go_at_call 142;refine cF.mono ?_;rintro e w1 ⟨rfl,hb1⟩);obtain⟨hb2,hq2⟩:=K4.out w1 hb1;have HB2:=Aa hb2;have Kh:=Aa hq2;have hqq:w.heap.size≤w1.heap.size:=hb1.size;have r1:=((HT.out.below hb2).FH X8.out.2).1;rw[HRA.out]at r1;obtain⟨⟨q0,q1,q2,q3,q4⟩,_⟩:=Aj hq2;generalize w1.alloc (Ri ⟨nm,(nd:Int),false,ck,sh⟩)=W0 at *;generalize w1.heap.size=q at *;clear hb2 hq2 hb1;go_upto_region 8 with fail;go_quiet (fail);go_upto_region 10 with fail;clear q0 q1 q2 q3 q4 r1;have hb3:Below w.heap.size w (W0.drewN nq):=Am HB2.out nq;have Nl:Hid ((W0.drewN nq).heap[q]?=some (.cells #[.string nm,.int .i64 (nd:Int),.bool false,.int .i64 ck,.int .i64 sh] 112 (0,0))):=Aa (((Am (Ad W0.heap.size W0) nq).block q (Ab Kh.out)).trans Kh.out);have HB3:=Aa hb3;generalize W0.drewN nq=W3 at *;have cR:=SG (HT.out.below hb3) HN.out (by have:=HEL.out;omega) nm mE.out HIL.out;clear hb3;go_upto_region 11 with(go_at_call 143;refine cR.mono ?_;rintro e w5 ⟨R5,rfl,hm5,yD⟩;have uy:=Aa hm5;have y8:=Aa yD;clear hm5 yD);have UA:w5.heap[q]?=some (.cells #[.string nm,.int .i64 (nd:Int),.bool false,.int .i64 ck,.int .i64 sh] 112 (0,0)):=(y8.out.rest q (Ab Nl.out) (fun hc=>by have:=dY.out q hc;omega)).trans Nl.out;have mD:=Aa UA;have wX:q≠b:=fun e=>by have:=dY.out b (Or.inl rfl);omega
            obtain⟨⟨q0,q1,q2,q3,q4⟩,_⟩:=Aj (W:=w5.drew) UA;obtain⟨k0,k1⟩:w5.drew.cell? ⟨b,nd*2,none⟩=some (.int .i64 (Bo l nd))∧w5.drew.frozen? ⟨b,nd*2,none⟩=false:=uy.out.LH X8.out.2;have uK:=uy.out.setKind X8.out.2 0;obtain⟨k2,k3⟩:(w5.setCell ⟨b,nd*2,none⟩ (.int .i64 0)).drew.cell? ⟨b,nd*2+1,none⟩=some (R5 nd)∧(w5.setCell ⟨b,nd*2,none⟩ (.int .i64 0)).drew.frozen? ⟨b,nd*2+1,none⟩=false:=uK.FH X8.out.2;have k4:w5.drew.cell? ⟨b,nd*2+1,none⟩=some (R5 nd):=(uy.out.FH X8.out.2).1;have k5:w5.drew.frozen? ⟨b,nd*2+1,none⟩=false:=(uy.out.FH X8.out.2).2;obtain⟨hm7,ht7⟩:=uK.setRow X8.out.2 (l:=[]) (Ll _ _) (r:=.slice none 0 0) ⟨rfl,Or.inl ⟨rfl,rfl⟩⟩ (fun g hg=>by cases hg);have yC:=uy.out.Jh (nd*2) (.int .i64 0) R5 v (fun k hk=>Or.inl hk);clear UA cR uK;go_big_region;obtain⟨W7,qJ⟩:∃W7,((w5.setCell ⟨b,nd*2,none⟩ (.int .i64 0)).setCell ⟨b,nd*2+1,none⟩ (.slice none 0 0)).drew=W7:=⟨_,rfl⟩;have HM7:Hid (TM W7 b (upd (Bo l) nd 0) (upd (upd (Bh l) n ((Bh l n).eraseIdx i)) nd []) (upd R5 nd (.slice none 0 0)) u v ys nx):=Aa (by rw[←qJ];exact hm7.below (Ad _ _).drew);have QZ:Hid (Trod w W7 (DV b R v) (DV b (upd R5 nd (.slice none 0 0)) v)):=Aa (by rw[←qJ];exact((((Trod.of_below HB3.out).trans y8.out).trans yC).trans ht7).trans (Trod.of_below (Ad _ _).drew));have uT:Hid (W7.heap[q]?=some (.cells #[.string nm,.int .i64 (nd:Int),.bool false,.int .i64 ck,.int .i64 sh] 112 (0,0))):=Aa (by
             rw[←qJ];show((w5.setCell _ _).setCell _ _).heap[q]?=_
             rw[Bw _ _ _ _ wX,Bw _ _ _ _ wX];exact mD.out)
            clear q0 q1 q2 q3 q4 k0 k1 k2 k3 k4 k5 hm7 ht7 yC
            (try rw[qJ])
            go_upto_region 12 with fail;clear qJ;obtain⟨⟨q0,q1,q2,q3,q4⟩,_⟩:=Aj (W:=W7.drew) uT.out;have cG:=Q0.qM W7.drew v.ownBlock 200 b v (Bc u ys) (nd:Int) W7.drew (HM7.out.below (Ad _ _).drew).SK true HIO.out;rw[if_pos rfl,DY]at cG;go_region_with (first
             | (go_at_call 144;refine cG.mono ?_;rintro e w8 ⟨rfl,v8,wZ⟩;have HP8:=Aa wZ;clear wZ))
            all_goals
             go_wp2;go_ret;obtain⟨u8,ys8,g1,g2,g3⟩:=(HM7.out.below (Ad _ _).drew).pool HP8.out;refine⟨_,rfl,⟨_,u8,v8,ys8,?_,?_,HGU.out,rfl⟩,(QZ.out.trans (Trod.of_below (Ad _ _).drew)).trans g3⟩
             · rw[zn.out,HEN.out];exact g1
             · rw[HUS.out,←xZ.out];exact g2.symm
           | true =>
            go_enter Tryz.func101,Tryz.ntmps101;go_upto_region 2 with(go_at_call 142;refine cF.mono ?_;rintro e w1 ⟨rfl,hb1⟩);obtain⟨hb2,hq2⟩:=K4.out w1 hb1;have HB2:=Aa hb2;have Kh:=Aa hq2;have hqq:w.heap.size≤w1.heap.size:=hb1.size;have r1:=((HT.out.below hb2).FH X8.out.2).1;rw[HRA.out]at r1;obtain⟨⟨q0,q1,q2,q3,q4⟩,_⟩:=Aj hq2;generalize w1.alloc (Ri ⟨nm,(nd:Int),true,ck,sh⟩)=W0 at *;generalize w1.heap.size=q at *;clear hb2 hq2 hb1;go_upto_region 8 with fail;go_quiet (fail);go_upto_region 10 with fail;clear q0 q1 q2 q3 q4 r1;have hb3:Below w.heap.size w (W0.drewN nq):=Am HB2.out nq;have Nl:Hid ((W0.drewN nq).heap[q]?=some (.cells #[.string nm,.int .i64 (nd:Int),.bool true,.int .i64 ck,.int .i64 sh] 112 (0,0))):=Aa (((Am (Ad W0.heap.size W0) nq).block q (Ab Kh.out)).trans Kh.out);have HB3:=Aa hb3;generalize W0.drewN nq=W3 at *;have cR:=SG (HT.out.below hb3) HN.out (by have:=HEL.out;omega) nm mE.out HIL.out;clear hb3;go_upto_region 11 with(go_at_call 143;refine cR.mono ?_;rintro e w5 ⟨R5,rfl,hm5,yD⟩;have uy:=Aa hm5;have y8:=Aa yD;clear hm5 yD);have UA:w5.heap[q]?=some (.cells #[.string nm,.int .i64 (nd:Int),.bool true,.int .i64 ck,.int .i64 sh] 112 (0,0)):=(y8.out.rest q (Ab Nl.out) (fun hc=>by have:=dY.out q hc;omega)).trans Nl.out;have mD:=Aa UA;have wX:q≠b:=fun e=>by have:=dY.out b (Or.inl rfl);omega
            obtain⟨⟨q0,q1,q2,q3,q4⟩,_⟩:=Aj (W:=w5.drew) UA;obtain⟨k0,k1⟩:w5.drew.cell? ⟨b,nd*2,none⟩=some (.int .i64 (Bo l nd))∧w5.drew.frozen? ⟨b,nd*2,none⟩=false:=uy.out.LH X8.out.2;have uK:=uy.out.setKind X8.out.2 0;obtain⟨k2,k3⟩:(w5.setCell ⟨b,nd*2,none⟩ (.int .i64 0)).drew.cell? ⟨b,nd*2+1,none⟩=some (R5 nd)∧(w5.setCell ⟨b,nd*2,none⟩ (.int .i64 0)).drew.frozen? ⟨b,nd*2+1,none⟩=false:=uK.FH X8.out.2;have k4:w5.drew.cell? ⟨b,nd*2+1,none⟩=some (R5 nd):=(uy.out.FH X8.out.2).1;have k5:w5.drew.frozen? ⟨b,nd*2+1,none⟩=false:=(uy.out.FH X8.out.2).2;obtain⟨hm7,ht7⟩:=uK.setRow X8.out.2 (l:=[]) (Ll _ _) (r:=.slice none 0 0) ⟨rfl,Or.inl ⟨rfl,rfl⟩⟩ (fun g hg=>by cases hg);have yC:=uy.out.Jh (nd*2) (.int .i64 0) R5 v (fun k hk=>Or.inl hk);clear UA cR uK;go_big_region;obtain⟨W7,qJ⟩:∃W7,((w5.setCell ⟨b,nd*2,none⟩ (.int .i64 0)).setCell ⟨b,nd*2+1,none⟩ (.slice none 0 0)).drew=W7:=⟨_,rfl⟩;have HM7:Hid (TM W7 b (upd (Bo l) nd 0) (upd (upd (Bh l) n ((Bh l n).eraseIdx i)) nd []) (upd R5 nd (.slice none 0 0)) u v ys nx):=Aa (by rw[←qJ];exact hm7.below (Ad _ _).drew);have QZ:Hid (Trod w W7 (DV b R v) (DV b (upd R5 nd (.slice none 0 0)) v)):=Aa (by rw[←qJ];exact((((Trod.of_below HB3.out).trans y8.out).trans yC).trans ht7).trans (Trod.of_below (Ad _ _).drew));have uT:Hid (W7.heap[q]?=some (.cells #[.string nm,.int .i64 (nd:Int),.bool true,.int .i64 ck,.int .i64 sh] 112 (0,0))):=Aa (by
             rw[←qJ];show((w5.setCell _ _).setCell _ _).heap[q]?=_
             rw[Bw _ _ _ _ wX,Bw _ _ _ _ wX];exact mD.out)
            clear q0 q1 q2 q3 q4 k0 k1 k2 k3 k4 k5 hm7 ht7 yC
            (try rw[qJ])
            go_upto_region 12 with fail;clear qJ;obtain⟨⟨q0,q1,q2,q3,q4⟩,_⟩:=Aj (W:=W7.drew) uT.out;have cG:=Q0.qM W7.drew v.ownBlock 200 b v (Bc u ys) (nd:Int) W7.drew (HM7.out.below (Ad _ _).drew).SK true HIO.out;rw[if_pos rfl,DY]at cG;go_region_with (first
             | (go_at_call 144;refine cG.mono ?_;rintro e w8 ⟨rfl,v8,wZ⟩;have HP8:=Aa wZ;clear wZ))
            all_goals
             go_wp2;go_ret;obtain⟨u8,ys8,g1,g2,g3⟩:=(HM7.out.below (Ad _ _).drew).pool HP8.out;refine⟨_,rfl,⟨_,u8,v8,ys8,?_,?_,HGU.out,rfl⟩,(QZ.out.trans (Trod.of_below (Ad _ _).drew)).trans g3⟩
             · rw[zn.out,HEN.out];exact g1
             · rw[HUS.out,←xZ.out];exact g2.symm
 · rw[if_pos hf]at hQ;subst hQ;have h0b:(f==0)=false:=Ba.2 hf;clear gM hf;go_enter Tryz.func101,Tryz.ntmps101;go_upto_region 2 with(go_at_call 142;refine cF.mono ?_;rintro e w1 ⟨rfl,hb1⟩);obtain⟨hb2,hq2⟩:=K4.out w1 hb1;have HB2:=Aa hb2;clear hb2 hq2 hb1;go_wp2;go_ret;obtain⟨g1,g2⟩:=Kg.out _ HB2.out;exact⟨_,rfl,g1,g2⟩
end
section
variable {w:World}{b:Nat}{l:List Az}{nx:Int}{R:Nat→Value}{u:Nat}{v:Value}{ys:List Int}
set_option maxHeartbeats 8000000 in
theorem aA (h:TM w b (Bo l) (Bh l) R u v ys nx)(ho:Bc u ys=BI l)(hg:Aq l nx)(d:Int)(s:ByteArray)(dt:Int)(ns:ByteArray)(sh:Int)(hs:ns.size≤9223372036854775807)(hnx:nx+1≤9223372036854775807) :
 Calls Tryz.prog 103 #[Ag b,.int .i64 d,.string s,.int .i64 dt,.string ns,.int .i64 sh] w (RH b (D5 l nx d s dt ns sh) (DV b R v) w):=by
 unfold RH;have cF:=hg.ru h d s;have cA:=fun W (hW:Below w.heap.size w W)=>ZJ (h.below hW) dt ns hs sh
 have Kg:Hid (∀W,Below w.heap.size w W→TIs W b l nx (DV b R v)∧Trod w W (DV b R v) (DV b R v)):=Aa (fun W hW=>⟨⟨R,u,v,ys,h.below hW,ho,hg,rfl⟩,Trod.of_below hW⟩);have HT:=Aa h;have HG:=Aa hg;have xZ:=Aa ho;obtain⟨Q,hQ⟩:∃Q,D5 l nx d s dt ns sh=Q:=⟨_,rfl⟩;rw[hQ];unfold D5 at hQ;have gM:=fun h=>found (l:=l) (d:=d) (s:=s) h
 obtain⟨⟨x,f⟩,hF⟩:∃F,BK l d s=F:=⟨_,rfl⟩;rw[hF]at cF hQ gM;simp only at cF hQ gM;unfold Di at cF;have hlt:=h.lt;clear h hg ho hF;have pre:∀w1,Below w.heap.size w w1→Below w.heap.size w (w1.alloc (Ri x))∧(w1.alloc (Ri x)).heap[w1.heap.size]?=some (.cells #[.string x.name,.int .i64 x.node,.bool x.dir,.int .i64 x.Al,.int .i64 x.short] 112 (0,0)):=fun w1 hb=>⟨hb.alloc hb.size _,Ai _ _⟩
 have K4:=Aa pre;have dY:Hid (∀k,DV b R v k→k<w.heap.size):=Aa (fun k hk=>(hlt k hk).2);clear pre hlt;by_cases hf:f=0
 · subst hf;obtain⟨hd,hnm,hmem,hns⟩:=gM rfl;rw[if_neg (by simp)]at hQ;obtain⟨n,rfl,hn,hk2⟩:=HG.out.dir hd;obtain⟨nd,hnd⟩:∃nd:Nat,x.node=(nd:Int):=⟨x.node.toNat,by have:=HG.out.node _ hmem;simp only at this;omega⟩;have hnr:1≤nd∧nd≤200:=by have:=HG.out.node _ hmem;simp only[hnd]at this;omega
   obtain⟨nm,x1,dr,ck,sh0⟩:=x;simp only at hnd hns hQ K4 cF;subst hnd;subst hns;clear gM;obtain⟨r,hr⟩:∃r,Lu (Bo l) dt ns sh=r:=⟨_,rfl⟩;rw[hr]at cA;unfold Lu at hr;rw[HG.out.open']at hr;by_cases hr0:r=0
   · subst hr0;have hdt:A9 l dt=0:=by
      apply Js;intro hc;rw[if_neg hc]at hr;exact hc hr
     rw[if_pos hdt]at hr;obtain⟨n2,rfl,hn2,hk3⟩:=HG.out.dir hdt;rw[if_neg (by simp[hdt]),if_neg (by simp[hr])]at hQ;obtain⟨H,hH⟩:=HG.out.low;rw[Tf HG.out hH nd (n2:Int)]at hQ;have cB:=fun W (hW:Below w.heap.size w W)=>jW (HT.out.below hW) H (HG.out.lower hH) hnr.2 (n2:Int)
     obtain⟨B,hB⟩:∃B,Ev (Bh l) (n2:Int) (H nd+1) nd=B:=⟨_,rfl⟩;rw[hB]at cB;have HLB:=Tf HG.out hH nd (n2:Int);rw[hB]at hQ HLB;by_cases hE:(nd:Int)=(n2:Int)
     · rw[A8 hE,if_pos (by rfl)]at hQ;subst hQ;have hEb:((nd:Int)==(n2:Int))=true:=by rw[hE];simp
       clear cB hr hk3 hk2 hd hdt hmem hnm hH hB HLB hE;go_enter Tryz.func103,Tryz.ntmps103;go_upto_region 2 with(go_at_call 142;refine cF.mono ?_;rintro e w1 ⟨rfl,hb1⟩);obtain⟨hb2,hq2⟩:=K4.out w1 hb1;have HB2:=Aa hb2;have Kh:=Aa hq2;have hqq:w.heap.size≤w1.heap.size:=hb1.size;generalize w1.alloc (Ri ⟨nm,(nd:Int),dr,ck,sh0⟩)=W0 at *;generalize w1.heap.size=q at *;clear hb2 hq2 hb1;go_wp2_with (go_at_call 137;refine(cA _ HB2.out).mono ?_;rintro e w3 ⟨rfl,hb3⟩;have HB3:=Aa (HB2.out.trans (hb3.mono HB2.out.size));have hq3:=(hb3.block q (Ab Kh.out)).trans Kh.out;have Nl:=Aa hq3;obtain⟨⟨q0,q1,q2,q3,q4⟩,_⟩:=Aj hq3;clear hb3 hq3);go_ret;obtain⟨g1,g2⟩:=Kg.out _ HB3.out;exact⟨_,rfl,g1,g2⟩
     · have hEb:((nd:Int)==(n2:Int))=false:=Ba.2 hE;rw[Bb hE,Bool.false_or]at hQ HLB;cases B with
       | true =>
        rw[if_pos rfl]at hQ;subst hQ;clear hr hk3 hk2 hd hdt hmem hnm hH hB HLB hE;go_enter Tryz.func103,Tryz.ntmps103;go_upto_region 2 with(go_at_call 142;refine cF.mono ?_;rintro e w1 ⟨rfl,hb1⟩);obtain⟨hb2,hq2⟩:=K4.out w1 hb1;have HB2:=Aa hb2;have Kh:=Aa hq2;have hqq:w.heap.size≤w1.heap.size:=hb1.size;generalize w1.alloc (Ri ⟨nm,(nd:Int),dr,ck,sh0⟩)=W0 at *;generalize w1.heap.size=q at *;clear hb2 hq2 hb1;go_wp2_with (first
         | (go_at_call 137;refine(cA _ HB2.out).mono ?_;rintro e w3 ⟨rfl,hb3⟩;have HB3:=Aa (HB2.out.trans (hb3.mono HB2.out.size));have hq3:=(hb3.block q (Ab Kh.out)).trans Kh.out;have Nl:=Aa hq3;obtain⟨⟨q0,q1,q2,q3,q4⟩,_⟩:=Aj hq3;clear hb3 hq3)
         | (go_at_call 146;refine(cB _ HB3.out).mono ?_;rintro e w4 ⟨rfl,hb4⟩;have LY:=Aa (HB3.out.trans (hb4.mono HB3.out.size));have hq4:=(hb4.block q (Ab Nl.out)).trans Nl.out;have za:=Aa hq4;clear hb4 hq4))
        go_ret;obtain⟨g1,g2⟩:=Kg.out _ LY.out;exact⟨_,rfl,g1,g2⟩
       | false =>
        rw[if_neg (by simp)]at hQ;rcases SN HG.out hdt ns with⟨hfp,hp⟩|⟨hfp,hp⟩
        · rw[if_pos hfp]at hQ;subst hQ;have cP:=fun W (hW:Below w.heap.size w W)=>Li (HT.out.below hW) hn2 (by have:=HG.out.Nt n2;omega) ns
          have HP6:Gm (Bh l n2) ns nx=6:=if_pos hp;rw[HP6]at cP;clear hr hk3 hk2 hd hdt hmem hnm hH hB HLB hE hfp hp HP6;go_enter Tryz.func103,Tryz.ntmps103;go_upto_region 2 with(go_at_call 142;refine cF.mono ?_;rintro e w1 ⟨rfl,hb1⟩);obtain⟨hb2,hq2⟩:=K4.out w1 hb1;have HB2:=Aa hb2;have Kh:=Aa hq2;have hqq:w.heap.size≤w1.heap.size:=hb1.size;generalize w1.alloc (Ri ⟨nm,(nd:Int),dr,ck,sh0⟩)=W0 at *;generalize w1.heap.size=q at *;clear hb2 hq2 hb1;go_wp2_with (first
           | (go_at_call 137;refine(cA _ HB2.out).mono ?_;rintro e w3 ⟨rfl,hb3⟩;have HB3:=Aa (HB2.out.trans (hb3.mono HB2.out.size));have hq3:=(hb3.block q (Ab Kh.out)).trans Kh.out;have Nl:=Aa hq3;obtain⟨⟨q0,q1,q2,q3,q4⟩,_⟩:=Aj hq3;clear hb3 hq3)
           | (go_at_call 146;refine(cB _ HB3.out).mono ?_;rintro e w4 ⟨rfl,hb4⟩;have LY:=Aa (HB3.out.trans (hb4.mono HB3.out.size));have hq4:=(hb4.block q (Ab Nl.out)).trans Nl.out;have za:=Aa hq4;clear hb4 hq4)
           | (go_at_call 138;refine(cP _ LY.out).mono ?_;rintro e w5 ⟨rfl,hb5⟩;have I4:=Aa (LY.out.trans (hb5.mono LY.out.size));have UA:=(hb5.block q (Ab za.out)).trans za.out;have mD:=Aa UA;clear hb5 UA))
          go_ret;obtain⟨g1,g2⟩:=Kg.out _ I4.out;exact⟨_,rfl,g1,g2⟩
        · rw[if_neg hfp]at hQ;subst hQ;have cP:=fun W (hW:Below w.heap.size w W)=>Li (HT.out.below hW) hn2 (by have:=HG.out.Nt n2;omega) ns
          have HP0:Gm (Bh l n2) ns nx=0:=by
           unfold Gm;rw[hp,if_neg (by omega),if_neg (by have:=HG.out.Ml;omega)]
          rw[HP0]at cP;have HGM:Hid (Aq (Dq (Bu l (n:Int) nm) nx (n2:Int) ⟨ns,(nd:Int),dr,0,sh⟩) (nx+1)):=Aa (HG.out.move hmem hdt hr (by rw[HLB];simp) hfp);have HKM:Hid (Bo (Dq (Bu l (n:Int) nm) nx (n2:Int) ⟨ns,(nd:Int),dr,0,sh⟩)=Bo l):=Aa (Tp HG.out hmem (n2:Int) ns sh);have HUS:Hid (BI (Dq (Bu l (n:Int) nm) nx (n2:Int) ⟨ns,(nd:Int),dr,0,sh⟩)=BI l):=Aa (Ww (fun k=>by rw[HKM.out]));have zo:Hid (upd (Bo l) nd (kindOf dr)=Bo l):=Aa (by
           have h9:=Qe HG.out hmem;have h8:kindOf dr=Bo l nd:=h9.symm;rw[h8,R9])
          have uk:Hid (ns.size≤281474976710656):=Aa (by have:=Qn hr;omega);rcases Iy (Bh l n) nm with⟨_,hc,_⟩|⟨i,y,hpp,hy,hyn,gI,_⟩
          · unfold Bh at hc;rw[hc]at hnm;cases hnm
          · unfold Bh at gI;rw[gI]at hnm;obtain rfl:=BS hnm;have hil:i<(Bh l n).length:=(DL.1 hy).1;have hel:=HG.out.Nt n;have HED:Hid (Bh (Bu l (n:Int) nm)=upd (Bh l) n ((Bh l n).eraseIdx i)):=Aa (TP HG.out hy rfl);have HEM:Hid (Bh (Dq (Bu l (n:Int) nm) nx (n2:Int) ⟨ns,(nd:Int),dr,0,sh⟩)=upd (upd (Bh l) n ((Bh l n).eraseIdx i)) n2 (upd (Bh l) n ((Bh l n).eraseIdx i) n2++[⟨ns,(nd:Int),dr,nx,sh⟩])):=Aa (by
             rw[←HED.out];exact Oh (Bu l (n:Int) nm) n2 ⟨ns,(nd:Int),dr,nx,sh⟩)
            have AcW:Hid ((upd (Bh l) n ((Bh l n).eraseIdx i) n2).length≤1000):=Aa (by
             unfold upd;split
             · have:=List.length_eraseIdx_le (Bh l n) i;omega
             · have:=HG.out.Nt n2;omega)
            have mE:=Aa hpp;have HIL:=Aa hil;have HEL:=Aa hel;have HN:=Aa hn;have HN2:=Aa hn2;have X8:=Aa hnr;have AcU:Hid (0≤nx):=Aa (by have:=HG.out.Ml;omega);have HNX:=Aa hnx;clear hr hk3 hk2 hd hdt hmem hH hB HLB hE hfp hp HP0 hy gI hpp hil hel hn hn2 hnr hnx;go_enter Tryz.func103,Tryz.ntmps103;go_upto_region 2 with(go_at_call 142;refine cF.mono ?_;rintro e w1 ⟨rfl,hb1⟩);obtain⟨hb2,hq2⟩:=K4.out w1 hb1;have HB2:=Aa hb2;have Kh:=Aa hq2;have hqq:w.heap.size≤w1.heap.size:=hb1.size;generalize w1.alloc (Ri ⟨nm,(nd:Int),dr,ck,sh0⟩)=W0 at *;generalize w1.heap.size=q at *;clear hb2 hq2 hb1;go_upto_region 12 with(first
             | (go_at_call 137;refine(cA _ HB2.out).mono ?_;rintro e w3 ⟨rfl,hb3⟩;have HB3:=Aa (HB2.out.trans (hb3.mono HB2.out.size));have hq3:=(hb3.block q (Ab Kh.out)).trans Kh.out;have Nl:=Aa hq3;obtain⟨⟨q0,q1,q2,q3,q4⟩,_⟩:=Aj hq3;clear hb3 hq3)
             | (go_at_call 146;refine(cB _ HB3.out).mono ?_;rintro e w4 ⟨rfl,hb4⟩;have LY:=Aa (HB3.out.trans (hb4.mono HB3.out.size));have hq4:=(hb4.block q (Ab Nl.out)).trans Nl.out;have za:=Aa hq4;clear hb4 hq4)
             | (go_at_call 138;refine(cP _ LY.out).mono ?_;rintro e w5 ⟨rfl,hb5⟩;have I4:=Aa (LY.out.trans (hb5.mono LY.out.size));have UA:=(hb5.block q (Ab za.out)).trans za.out;have mD:=Aa UA;clear hb5 UA))
            clear q0 q1 q2 q3 q4;have cR:=SG (HT.out.below I4.out) HN.out (by have:=HEL.out;omega) nm mE.out HIL.out;go_upto_region 13 with(go_at_call 143;refine cR.mono ?_;rintro e w6 ⟨R6,rfl,uK,yC⟩;have HM6:=Aa uK;have Z8:=Aa yC;clear uK yC);have yG:w6.heap[q]?=some (.cells #[.string nm,.int .i64 (nd:Int),.bool dr,.int .i64 ck,.int .i64 sh0] 112 (0,0)):=(Z8.out.rest q (Ab mD.out) (fun hc=>by have:=dY.out q hc;omega)).trans mD.out;have HQ6:=Aa yG;have hqf:∀k,DV b R6 v k→k≠q:=fun k hk e=>by
             rcases Z8.out.sub k hk with h9|h9
             · have:=dY.out k h9;omega
             · have:=Ab mD.out;omega
            obtain⟨⟨q0,q1,q2,q3,q4⟩,⟨f0,f1,f2,f3,f4⟩⟩:=Aj yG;have uT:Hid (((w6.setCell ⟨q,0,none⟩ (.string ns)).setCell ⟨q,4,none⟩ (.int .i64 sh)).heap[q]?=some (.cells #[.string ns,.int .i64 (nd:Int),.bool dr,.int .i64 ck,.int .i64 sh] 112 (0,0))):=Aa (by
             rw[Bn _ q 4 _ _ _ (Bn _ q 0 _ _ _ yG)];rfl)
            have HM7:Hid (TM ((w6.setCell ⟨q,0,none⟩ (.string ns)).setCell ⟨q,4,none⟩ (.int .i64 sh)) b (Bo l) (upd (Bh l) n ((Bh l n).eraseIdx i)) R6 u v ys nx):=Aa (HM6.out.kept (fun k hk=>by
             rw[Bw _ _ _ _ (hqf k hk),Bw _ _ _ _ (hqf k hk)]))
            have QZ:Hid (Trod w ((w6.setCell ⟨q,0,none⟩ (.string ns)).setCell ⟨q,4,none⟩ (.int .i64 sh)) (DV b R v) (DV b R6 v)):=Aa (by
             have h9:=(Trod.of_below I4.out).trans Z8.out;refine⟨h9.os,h9.tape,h9.output,by have:=h9.size;simpa[World.setCell]using this,fun k hk hs=>?_,h9.sub⟩;have hkq:k≠q:=by omega
             rw[Bw _ _ _ _ hkq,Bw _ _ _ _ hkq];exact h9.rest k hk hs)
            clear yG hqf cR;go_upto_region 14 with fail;clear q0 q1 q2 q3 q4 f0 f1 f2 f3 f4;generalize (w6.setCell ⟨q,0,none⟩ (.string ns)).setCell ⟨q,4,none⟩ (.int .i64 sh)=W7 at *;obtain⟨⟨q0,q1,q2,q3,q4⟩,_⟩:=Aj uT.out;have cAd:=U8 HM7.out HN2.out AcW.out ⟨ns,(nd:Int),dr,ck,sh⟩ rfl X8.out.2 uk.out AcU.out HNX.out;unfold ED Di at cAd;go_wp2_with (go_at_call 140;refine cAd.mono ?_;rintro e w8 ⟨R8,rfl,hm8,ht8⟩;have HM8:=Aa hm8;have HT8:=Aa ht8;clear hm8 ht8);go_ret;refine⟨_,rfl,⟨R8,u,v,ys,?_,?_,HGM.out,rfl⟩,QZ.out.trans HT8.out⟩
            · show TM w8 b (Bo (Dq (Bu l (n:Int) nm) nx (n2:Int) ⟨ns,(nd:Int),dr,0,sh⟩)) (Bh (Dq (Bu l (n:Int) nm) nx (n2:Int) ⟨ns,(nd:Int),dr,0,sh⟩)) R8 u v ys (nx+1)
              rw[HKM.out,HEM.out];have h9:=HM8.out;rw[zo.out]at h9;exact h9
            · show Bc u ys=BI (Dq (Bu l (n:Int) nm) nx (n2:Int) ⟨ns,(nd:Int),dr,0,sh⟩)
              rw[HUS.out];exact xZ.out
   · have hQ2:Q=((l,nx),r):=by
      by_cases hdt:A9 l dt=0
      · rw[if_pos hdt]at hr;rw[←hQ,if_neg (by simp[hdt]),if_pos (by rw[hr];exact hr0),hr]
      · rw[if_neg hdt]at hr;rw[←hQ,if_pos hdt,hr]
     subst hQ2;have h0b:(r==0)=false:=Ba.2 hr0;clear hr hQ hr0 hmem hnm hd hk2;go_enter Tryz.func103,Tryz.ntmps103;go_upto_region 2 with(go_at_call 142;refine cF.mono ?_;rintro e w1 ⟨rfl,hb1⟩);obtain⟨hb2,hq2⟩:=K4.out w1 hb1;have HB2:=Aa hb2;have Kh:=Aa hq2;have hqq:w.heap.size≤w1.heap.size:=hb1.size;generalize w1.alloc (Ri ⟨nm,(nd:Int),dr,ck,sh0⟩)=W0 at *;generalize w1.heap.size=q at *;clear hb2 hq2 hb1;go_wp2_with (go_at_call 137;refine(cA _ HB2.out).mono ?_;rintro e w3 ⟨rfl,hb3⟩;have HB3:=Aa (HB2.out.trans (hb3.mono HB2.out.size));have hq3:=(hb3.block q (Ab Kh.out)).trans Kh.out;have Nl:=Aa hq3;obtain⟨⟨q0,q1,q2,q3,q4⟩,_⟩:=Aj hq3;clear hb3 hq3);go_ret;obtain⟨g1,g2⟩:=Kg.out _ HB3.out;exact⟨_,rfl,g1,g2⟩
 · rw[if_pos hf]at hQ;subst hQ;have h0b:(f==0)=false:=Ba.2 hf;clear gM hf cA;go_enter Tryz.func103,Tryz.ntmps103;go_upto_region 2 with(go_at_call 142;refine cF.mono ?_;rintro e w1 ⟨rfl,hb1⟩);obtain⟨hb2,hq2⟩:=K4.out w1 hb1;have HB2:=Aa hb2;have Kh:=Aa hq2;have hqq:w.heap.size≤w1.heap.size:=hb1.size;generalize w1.alloc (Ri x)=W0 at *;generalize w1.heap.size=q at *;clear hb2 hq2 hb1;go_wp2;go_ret;obtain⟨g1,g2⟩:=Kg.out _ HB2.out;exact⟨_,rfl,g1,g2⟩
end
end Go.Proofs.YtdmkhmeaphaapaaGreat
