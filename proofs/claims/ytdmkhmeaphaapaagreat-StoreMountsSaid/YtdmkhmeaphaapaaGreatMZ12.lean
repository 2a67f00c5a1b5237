/- Kit. -/
import Derived.Test.YtdmkhmeaphaapaaGreatMZ11
import Derived.Test.YtdmkhmeaphaapaaGreatMZ0
set_option maxRecDepth 100000
set_option linter.unusedVariables false
set_option linter.unusedSimpArgs false
namespace Go.Proofs.YtdmkhmeaphaapaaGreat
open Go.RowKit Go.Sort
def zu (w:World)(b:Nat)(l:List Az)(nx:Int)(S:Nat→Prop):Prop:=
 ∃R u v ys,TM w b (Bl l) (Bf l) R u v ys nx∧A9 u ys=BH l∧Aq l nx∧S=DV b R v
theorem Sq {l:List Az}{nx:Int}(h:Aq l nx){d:Nat}(hd:Bc l (d:Int)=0)(s:ByteArray):((BQ l (d:Int) s).2=0∧0≤EK (Bf l d) s)∨((BQ l (d:Int) s).2≠0∧EK (Bf l d) s=-1):=by
 unfold BQ D5;rw[if_pos hd];rcases Ii (Bf l d) s with⟨h1,h2,_⟩|⟨i,x,h1,_,_,h2,_⟩
 · right;unfold Bf at h2;rw[h2];exact⟨by simp only[if_pos hd];decide,h1⟩
 · left;unfold Bf at h2;rw[h2];exact⟨rfl,by rw[h1];omega⟩
theorem QH (l:List Az):∀k n,FZ l k n≠0→AO l (FZ l k n:Int)=0
 | 0,n,h=>absurd rfl h
 | k+1,n,h=>by
  unfold FZ at h ⊢;split
  · assumption
  · rename_i h1;rw[if_neg h1]at h;exact QH l k (n+1) h
theorem Tk (l:List Az)(h:G5 l≠0):Bl l (G5 l)=0:=QH l 200 1 h
theorem Qd {s:ByteArray}{sh:Int}(h:Ei s sh=0):s.size≤255:=by
 unfold Ei at h;split at h
 · rename_i hg;unfold GZ at hg;simp only[Bool.and_eq_true,decide_eq_true_eq]at hg;exact hg.2.2.1
 · omega
section
variable {w:World}{b:Nat}{l:List Az}{nx:Int}{R:Nat→Value}{u:Nat}{v:Value}{ys:List Int}
def VM (b:Nat)(r:(List Az×Int)×Int×Int)(S:Nat→Prop)(w:World)(e:Ending)(w':World):Prop:=
 ∃S',e=.returned (.tuple #[.int .i64 r.2.1,.int .i64 r.2.2])∧zu w' b r.1.1 r.1.2 S'∧Trod w w' S S'
set_option maxHeartbeats 8000000 in
theorem Zu (h:TM w b (Bl l) (Bf l) R u v ys nx)(ho:A9 u ys=BH l)(hg:Aq l nx)(d:Int)(s:ByteArray)(Ba:Bool)(sh:Int)(hs:s.size≤9223372036854775807)(hnx:nx+1≤9223372036854775807) :
 Calls Tryz.prog 99 #[Aj b,.int .i64 d,.string s,.bool Ba,.int .i64 sh] w (VM b (D6 l nx d s Ba sh) (DV b R v) w):=by
 unfold VM;have cA:=Y5 h d s hs sh;have J3:Hid (∀W,Below w.heap.size w W→zu W b l nx (DV b R v)∧Trod w W (DV b R v) (DV b R v)):=Aa (fun W hW=>⟨⟨R,u,v,ys,h.below hW,ho,hg,rfl⟩,Trod.of_below hW⟩);have HT:=Aa h;have HG:=Aa hg;have vY:=Aa ho;obtain⟨Q,hQ⟩:∃Q,D6 l nx d s Ba sh=Q:=⟨_,rfl⟩;rw[hQ];unfold D6 at hQ;obtain⟨r,hr⟩:∃r,Ll (Bl l) d s sh=r:=⟨_,rfl⟩;rw[hr]at cA;unfold Ll at hr;rw[hg.open']at hr;clear h hg ho;by_cases hr0:r=0
 · subst hr0;have hd:Bc l d=0:=by
    apply Jj;intro hc;rw[if_neg hc]at hr;exact hc hr
   rw[if_pos hd]at hr;obtain⟨n,rfl,hn,hk2⟩:=HG.out.dir hd;rw[if_neg (by simp[hd]),if_neg (by simp[hr])]at hQ;have hel:=HG.out.NR n;rcases Sq HG.out hd s with⟨hf,hp⟩|⟨hf,hp⟩
   · rw[if_pos hf]at hQ;subst hQ;have cP:=fun W (hW:Below w.heap.size w W)=>La (HT.out.below hW) hn (by omega) s
     have HP6:Ga (Bf l n) s nx=6:=if_pos hp;rw[HP6]at cP;clear hr hd hf hp HP6 hk2 hel;go_enter Tryz.func99,Tryz.ntmps99;go_wp2_with (first
      | (go_at_call 137;refine cA.mono ?_;rintro e w1 ⟨rfl,hb1⟩)
      | (go_at_call 138;refine(cP _ hb1).mono ?_;rintro e w2 ⟨rfl,hb2⟩))
     go_ret2;obtain⟨h1,h2⟩:=J3.out _ (hb1.trans (hb2.mono hb1.size));exact⟨_,rfl,h1,h2⟩
   · rw[if_neg hf]at hQ;have HP0:Ga (Bf l n) s nx=0:=by
      unfold Ga;rw[hp,if_neg (by omega),if_neg (by have:=HG.out.Md;omega)]
     have cP:=fun W (hW:Below w.heap.size w W)=>La (HT.out.below hW) hn (by omega) s
     rw[HP0]at cP;have hfr:=fH l;rw[←vY.out]at hfr;by_cases hz:H6 200 (A9 u ys)=0
     · have hfz:G5 l=0:=by rw[hz]at hfr;omega
       rw[if_pos hfz]at hQ;subst hQ;have cT:=fun W (hW:Below w.heap.size w W)=>(QO.lq W v.ownBlock 200 b v (A9 u ys) W (HT.out.below hW).Sn).mono (R':=fun e w'=>e=.returned (.tuple #[.int .i64 0,.bool false])∧∃v',QO.Dp W v.ownBlock 200 b w' v' (A9 u ys)) (fun e w' hh=>by
        rcases hh with⟨_,h1,h2⟩|⟨k,v',h1,_,h3,_⟩
        · exact⟨h1,v,h2⟩
        · omega)
       clear hr hd hf hp HP0 hk2 hel hfr hz hfz;go_enter Tryz.func99,Tryz.ntmps99;go_wp2_with (first
        | (go_at_call 137;refine cA.mono ?_;rintro e w1 ⟨rfl,hb1⟩)
        | (go_at_call 138;refine(cP _ hb1).mono ?_;rintro e w2 ⟨rfl,hb2⟩;have HB2:=Aa (hb1.trans (hb2.mono hb1.size)))
        | (go_at_call 139;refine(cT _ HB2.out).mono ?_;rintro e w3 ⟨rfl,v3,hp3⟩;have Qi:=Aa hp3;clear hp3))
       go_ret2;obtain⟨u3,ys3,h1,h2,h3⟩:=(HT.out.below HB2.out).pool Qi.out;exact⟨_,rfl,⟨R,u3,v3,ys3,h1,by rw[←h2];exact vY.out,HG.out,rfl⟩,(Trod.of_below HB2.out).trans h3⟩
     · obtain⟨k,hk⟩:∃k,H6 200 (A9 u ys)=k:=⟨_,rfl⟩;rw[hk]at hfr hz;have hkle:k≤200:=by rw[←hk];exact Vf _ _
       have hfz:G5 l=k:=by omega
       rw[if_neg (by rw[hfz];omega),hfz]at hQ;subst hQ;have cT:=fun W (hW:Below w.heap.size w W)=>(QO.lq W v.ownBlock 200 b v (A9 u ys) W (HT.out.below hW).Sn).mono (R':=fun e w'=>e=.returned (.tuple #[.int .i64 (k:Int),.bool true])∧∃v',QO.Dp W v.ownBlock 200 b w' v' ((A9 u ys).set k true)) (fun e w' hh=>by
        rcases hh with⟨h0,_,_⟩|⟨k2,v',h1,_,h3,h4,h5⟩
        · omega
        · obtain rfl:k2=k:=h3.symm.trans hk;exact⟨h4,v',h5⟩)
       have hk0:Bl l k=0:=by
        have h5:=Tk l (by rw[hfz];omega);rw[hfz]at h5;exact h5
       have HK0:=Aa hk0;have HGL:Hid (Aq (Dn l nx (n:Int) ⟨s,(k:Int),Ba,0,sh⟩) (nx+1)):=Aa (HG.out.link hd hr hf (by omega) hkle hk0);have qV:s.size≤281474976710656:=by have:=Qd hr;omega
       have WM:0≤nx:=by have:=HG.out.Md;omega
       have xz:Hid (Bl (Dn l nx (n:Int) ⟨s,(k:Int),Ba,0,sh⟩)=upd (Bl l) k (kindOf Ba)):=Aa (K8 l (n:Int) ⟨s,(k:Int),Ba,nx,sh⟩ rfl (by omega) hk0);have HEN:Hid (Bf (Dn l nx (n:Int) ⟨s,(k:Int),Ba,0,sh⟩)=upd (Bf l) n (Bf l n++[⟨s,(k:Int),Ba,nx,sh⟩])):=Aa (NQ l n ⟨s,(k:Int),Ba,nx,sh⟩);have HUS:Hid (BH (Dn l nx (n:Int) ⟨s,(k:Int),Ba,0,sh⟩)=(BH l).set k true):=Aa (Qm hkle (AX ⟨by omega,by rw[xz.out,upd_same];exact Kv _⟩) (fun m hm=>by rw[xz.out,upd_ne _ _ hm]));have HHN:=Aa hn;have HHK:=Aa hkle;clear hr hd hf hp HP0 hk2 hfr hz hfz hk hk0 hn hkle;have HEL:=Aa hel;clear hel;go_enter Tryz.func99,Tryz.ntmps99;go_upto_region 8 with(first
        | (go_at_call 137;refine cA.mono ?_;rintro e w1 ⟨rfl,hb1⟩)
        | (go_at_call 138;refine(cP _ hb1).mono ?_;rintro e w2 ⟨rfl,hb2⟩;have HB2:=Aa (hb1.trans (hb2.mono hb1.size)))
        | (go_at_call 139;refine(cT _ HB2.out).mono ?_;rintro e w3 ⟨rfl,v3,hp3⟩;have Qi:=Aa hp3;clear hp3))
       obtain⟨u3,ys3,h1,h2,h3⟩:=(HT.out.below HB2.out).pool Qi.out;have H2:=Aa h2;have H3:=Aa ((Trod.of_below HB2.out).trans h3);have cAd:=UH h1 HHN.out (by have:=HEL.out;omega) ⟨s,(k:Int),Ba,0,sh⟩ rfl HHK.out qV WM hnx;unfold EC Df at cAd;clear h1 h2 h3 cA cP cT hb1;go_wp2_with (go_at_call 140;refine cAd.mono ?_;rintro e w4 ⟨R4,rfl,hm4,wL⟩;have HM4:=Aa hm4;have kC:=Aa wL;clear hm4 wL);go_ret2;refine⟨_,rfl,⟨R4,u3,v3,ys3,?_,?_,HGL.out,rfl⟩,H3.out.trans kC.out⟩
       · show TM w4 b (Bl (Dn l nx (n:Int) ⟨s,(k:Int),Ba,0,sh⟩)) (Bf (Dn l nx (n:Int) ⟨s,(k:Int),Ba,0,sh⟩)) R4 u3 v3 ys3 (nx+1)
         rw[xz.out,HEN.out];exact HM4.out
       · show A9 u3 ys3=BH (Dn l nx (n:Int) ⟨s,(k:Int),Ba,0,sh⟩)
         rw[HUS.out,←vY.out];exact H2.out.symm
 · have hQ2:Q=((l,nx),0,r):=by
    by_cases hd:Bc l d=0
    · rw[if_pos hd]at hr;rw[←hQ,if_neg (by simp[hd]),if_pos (by rw[hr];exact hr0),hr]
    · rw[if_neg hd]at hr;rw[←hQ,if_pos hd,hr]
   subst hQ2;have y9:(r==0)=false:=A8.2 hr0;clear hr hQ hr0;go_enter Tryz.func99,Tryz.ntmps99;go_wp2_with (go_at_call 137;refine cA.mono ?_;rintro e w1 ⟨rfl,hb1⟩);go_ret2;obtain⟨h1,h2⟩:=J3.out _ hb1;exact⟨_,rfl,h1,h2⟩
end
section
variable {w:World}{b:Nat}{l:List Az}{nx:Int}{R:Nat→Value}{u:Nat}{v:Value}{ys:List Int}
def Rt (b:Nat)(r:(List Az×Int)×Int)(S:Nat→Prop)(w:World)(e:Ending)(w':World):Prop:=
 ∃S',e=.returned (.int .i64 r.2)∧zu w' b r.1.1 r.1.2 S'∧Trod w w' S S'
abbrev QZ (x:Bq):Obj:=.cells #[.string x.name,.int .i64 x.node,.bool x.dir,.int .i64 x.Am,.int .i64 x.short] 112
theorem Aq.pz (h:Aq l nx)(hm:TM w b (Bl l) (Bf l) R u v ys nx)(d:Int)(s:ByteArray):Calls Tryz.prog 142 #[Aj b,.int .i64 d,.string s] w fun e w'=>e=.returned (.tuple #[Df (BQ l d s).1,.int .i64 (BQ l d s).2])∧Below w.heap.size w w':=by
 have:=Zv hm (fun n hn=>Al (h.NR n) (by omega)) d s;rw[h.Aa1]at this;exact this
set_option maxHeartbeats 8000000 in
theorem V3 (h:TM w b (Bl l) (Bf l) R u v ys nx)(ho:A9 u ys=BH l)(hg:Aq l nx)(d:Int)(s:ByteArray)(Ba:Bool) :
 Calls Tryz.prog 101 #[Aj b,.int .i64 d,.string s,.bool Ba] w (Rt b (BK l nx d s Ba) (DV b R v) w):=by
 unfold Rt;have cF:=hg.pz h d s;have J3:Hid (∀W,Below w.heap.size w W→zu W b l nx (DV b R v)∧Trod w W (DV b R v) (DV b R v)):=Aa (fun W hW=>⟨⟨R,u,v,ys,h.below hW,ho,hg,rfl⟩,Trod.of_below hW⟩);have HT:=Aa h;have HG:=Aa hg;have vY:=Aa ho;obtain⟨Q,hQ⟩:∃Q,BK l nx d s Ba=Q:=⟨_,rfl⟩;rw[hQ];unfold BK at hQ;have ek:=fun h=>found (l:=l) (d:=d) (s:=s) h
 obtain⟨⟨x,f⟩,hF⟩:∃F,BQ l d s=F:=⟨_,rfl⟩;rw[hF]at cF hQ ek;simp only at cF hQ ek;unfold Df at cF;have hlt:=h.lt;clear h hg ho hF;have pre:∀w1,Below w.heap.size w w1→Below w.heap.size w (w1.alloc (QZ x))∧(w1.alloc (QZ x)).heap[w1.heap.size]?=some (.cells #[.string x.name,.int .i64 x.node,.bool x.dir,.int .i64 x.Am,.int .i64 x.short] 112 (0,0)):=fun w1 hb=>⟨hb.alloc hb.size _,Ai _ _⟩
 have KQ:=Aa pre;have bG:Hid (∀k,DV b R v k→k<w.heap.size):=Aa (fun k hk=>(hlt k hk).2);clear pre hlt;by_cases hf:f=0
 · subst hf;obtain⟨hd,hnm,hmem,hns⟩:=ek rfl;rw[if_neg (by simp)]at hQ;obtain⟨n,rfl,hn,hk2⟩:=HG.out.dir hd;obtain⟨nd,hnd⟩:∃nd:Nat,x.node=(nd:Int):=⟨x.node.toNat,by have:=HG.out.node _ hmem;simp only at this;omega⟩;have hnr:1≤nd∧nd≤200:=by have:=HG.out.node _ hmem;simp only[hnd]at this;omega
   obtain⟨nm,x1,dr,ck,sh⟩:=x;simp only at hnd hns hQ KQ cF;subst hnd;subst hns;by_cases h1:Ba=true∧dr=false
   · obtain⟨rfl,rfl⟩:=h1;rw[if_pos ⟨rfl,rfl⟩]at hQ;subst hQ;clear ek hk2;go_enter Tryz.func101,Tryz.ntmps101;go_upto_region 2 with(go_at_call 142;refine cF.mono ?_;rintro e w1 ⟨rfl,hb1⟩);obtain⟨hb2,hq2⟩:=KQ.out w1 hb1;have HB2:=Aa hb2;obtain⟨⟨q0,q1,q2,q3,q4⟩,_⟩:=Ah hq2;clear hb2 hq2 hb1;go_wp2;go_ret;obtain⟨g1,g2⟩:=J3.out _ HB2.out;exact⟨_,rfl,g1,g2⟩
   · rw[if_neg h1]at hQ;by_cases h2:Ba=false∧dr=true
     · obtain⟨rfl,rfl⟩:=h2;rw[if_pos ⟨rfl,rfl⟩]at hQ;subst hQ;clear ek hk2 h1;go_enter Tryz.func101,Tryz.ntmps101;go_upto_region 2 with(go_at_call 142;refine cF.mono ?_;rintro e w1 ⟨rfl,hb1⟩);obtain⟨hb2,hq2⟩:=KQ.out w1 hb1;have HB2:=Aa hb2;obtain⟨⟨q0,q1,q2,q3,q4⟩,_⟩:=Ah hq2;clear hb2 hq2 hb1;go_wp2;go_ret;obtain⟨g1,g2⟩:=J3.out _ HB2.out;exact⟨_,rfl,g1,g2⟩
     · rw[if_neg h2,Lb]at hQ;have hdd:dr=Ba:=by cases dr<;>cases Ba<;>simp_all
       subst hdd;have hn0:(0:Int)≤(nd:Int):=by omega
       have hn1:(nd:Int)<201:=by omega
       obtain⟨m,hm⟩:∃m,(Bf l nd).length=m:=⟨_,rfl⟩;have hm':(Ak l (nd:Int)).length=m:=hm;rw[hm']at hQ;obtain⟨ad,cap,hra⟩:=(HT.out.Fw hnr.2).len;rw[hm]at hra;have HRA:=Aa hra;by_cases hm0:0<m
       · rw[if_pos (AX hm0)]at hQ;subst hQ;have hmz:(0:Int)<(m:Int):=by omega
         clear ek hk2 h1 h2 hm hm' hra;cases dr with
         | false =>
          go_enter Tryz.func101,Tryz.ntmps101;go_upto_region 2 with(go_at_call 142;refine cF.mono ?_;rintro e w1 ⟨rfl,hb1⟩);obtain⟨hb2,hq2⟩:=KQ.out w1 hb1;have HB2:=Aa hb2;have r1:=((HT.out.below hb2).Fs hnr.2).1;rw[HRA.out]at r1;obtain⟨⟨q0,q1,q2,q3,q4⟩,_⟩:=Ah hq2;clear hb2 hq2 hb1;go_wp2;go_quiet (fail);go_wp2;go_ret;obtain⟨g1,g2⟩:=J3.out _ (Ao HB2.out _);exact⟨_,rfl,g1,g2⟩
         | true =>
          go_enter Tryz.func101,Tryz.ntmps101;go_upto_region 2 with(go_at_call 142;refine cF.mono ?_;rintro e w1 ⟨rfl,hb1⟩);obtain⟨hb2,hq2⟩:=KQ.out w1 hb1;have HB2:=Aa hb2;have r1:=((HT.out.below hb2).Fs hnr.2).1;rw[HRA.out]at r1;obtain⟨⟨q0,q1,q2,q3,q4⟩,_⟩:=Ah hq2;clear hb2 hq2 hb1;go_wp2;go_quiet (fail);go_wp2;go_ret;obtain⟨g1,g2⟩:=J3.out _ (Ao HB2.out _);exact⟨_,rfl,g1,g2⟩
       · obtain rfl:m=0:=by omega
         rw[if_neg (by simp)]at hQ;subst hQ;rcases Ii (Bf l n) nm with⟨_,hc,_⟩|⟨i,y,hp,hy,hyn,dW,_⟩
         · unfold Bf at hc;rw[hc]at hnm;cases hnm
         · unfold Bf at dW;rw[dW]at hnm;obtain rfl:=Cm hnm;have hil:i<(Bf l n).length:=(Ed.1 hy).1;have hel:=HG.out.NR n;have HEN:Hid (Bf (Bv l (n:Int) nm)=upd (upd (Bf l) n ((Bf l n).eraseIdx i)) nd []):=Aa (by
            rw[Tu HG.out hy rfl];have hne:nd≠n:=fun e=>by
             obtain⟨H,hH⟩:=HG.out.low;have:=hH _ hmem;simp only[Int.toNat_natCast,e]at this;omega
            have hz:upd (Bf l) n ((Bf l n).eraseIdx i) nd=[]:=by
             rw[upd_ne _ _ hne];exact Kj hm
            have hu:=(RG (upd (Bf l) n ((Bf l n).eraseIdx i)) nd).symm;rw[hz]at hu;exact hu)
           have xz:Hid (Bl (Bv l (n:Int) nm)=upd (Bl l) nd 0):=Aa (by
            have:=ND HG.out hmem;simp only[Int.toNat_natCast]at this;exact this)
           have HGU:Hid (Aq (Bv l (n:Int) nm) nx):=Aa (HG.out.unlink hmem (Kj hm'));have HUS:Hid (BH (Bv l (n:Int) nm)=(BH l).set nd false):=Aa (Qm hnr.2 (A7 (fun hc=>hc.2 (by rw[xz.out,upd_same]))) (fun k hk=>by rw[xz.out,upd_ne _ _ hk]));have HIO:Hid (Tc 200 (A9 u ys) (nd:Int)=true):=Aa (by
            unfold Tc;rw[vY.out,DW,GQ l hnr.2,AX (by omega),AX (by omega),AX]
            · rfl
            · refine⟨by omega,?_⟩;have:=PX HG.out hmem;simp only at this;unfold Bl;rw[this];exact Kv _)
           have sj:=Aa hp;have HIL:=Aa hil;have HEL:=Aa hel;have HN:=Aa hn;have Xx:=Aa hnr;have hd0:(0:Int)≤(n:Int):=by omega
           clear ek hk2 h1 h2 hm hm' hra dW hy hp hil hel hd hmem hn hnr hm0;cases dr with
           | false =>
            go_enter Tryz.func101,Tryz.ntmps101;go_upto_region 2 with(go_at_call 142;refine cF.mono ?_;rintro e w1 ⟨rfl,hb1⟩);obtain⟨hb2,hq2⟩:=KQ.out w1 hb1;have HB2:=Aa hb2;have J4:=Aa hq2;have hqq:w.heap.size≤w1.heap.size:=hb1.size;have r1:=((HT.out.below hb2).Fs Xx.out.2).1;rw[HRA.out]at r1;obtain⟨⟨q0,q1,q2,q3,q4⟩,_⟩:=Ah hq2;generalize w1.alloc (QZ ⟨nm,(nd:Int),false,ck,sh⟩)=W0 at *;generalize w1.heap.size=q at *;clear hb2 hq2 hb1;go_upto_region 8 with fail;go_quiet (fail);go_upto_region 10 with fail;clear q0 q1 q2 q3 q4 r1;have hb3:Below w.heap.size w (W0.drewN nq):=Ao HB2.out nq;have M5:Hid ((W0.drewN nq).heap[q]?=some (.cells #[.string nm,.int .i64 (nd:Int),.bool false,.int .i64 ck,.int .i64 sh] 112 (0,0))):=Aa (((Ao (Ad W0.heap.size W0) nq).block q (Ab J4.out)).trans J4.out);have HB3:=Aa hb3;generalize W0.drewN nq=W3 at *;have cR:=Sj (HT.out.below hb3) HN.out (by have:=HEL.out;omega) nm sj.out HIL.out;clear hb3;go_upto_region 11 with(go_at_call 143;refine cR.mono ?_;rintro e w5 ⟨R5,rfl,hm5,ht5⟩;have ry:=Aa hm5;have HT5:=Aa ht5;clear hm5 ht5);have Ue:w5.heap[q]?=some (.cells #[.string nm,.int .i64 (nd:Int),.bool false,.int .i64 ck,.int .i64 sh] 112 (0,0)):=(HT5.out.rest q (Ab M5.out) (fun hc=>by have:=bG.out q hc;omega)).trans M5.out;have kE:=Aa Ue;have uS:q≠b:=fun e=>by have:=bG.out b (Or.inl rfl);omega
            obtain⟨⟨q0,q1,q2,q3,q4⟩,_⟩:=Ah (W:=w5.drew) Ue;obtain⟨k0,k1⟩:w5.drew.cell? ⟨b,nd*2,none⟩=some (.int .i64 (Bl l nd))∧w5.drew.frozen? ⟨b,nd*2,none⟩=false:=ry.out.Lx Xx.out.2;have rQ:=ry.out.setKind Xx.out.2 0;obtain⟨k2,k3⟩:(w5.setCell ⟨b,nd*2,none⟩ (.int .i64 0)).drew.cell? ⟨b,nd*2+1,none⟩=some (R5 nd)∧(w5.setCell ⟨b,nd*2,none⟩ (.int .i64 0)).drew.frozen? ⟨b,nd*2+1,none⟩=false:=rQ.Fs Xx.out.2;have k4:w5.drew.cell? ⟨b,nd*2+1,none⟩=some (R5 nd):=(ry.out.Fs Xx.out.2).1;have k5:w5.drew.frozen? ⟨b,nd*2+1,none⟩=false:=(ry.out.Fs Xx.out.2).2;obtain⟨hm7,ht7⟩:=rQ.setRow Xx.out.2 (l:=[]) (Lc _ _) (r:=.slice none 0 0) ⟨rfl,Or.inl ⟨rfl,rfl⟩⟩ (fun g hg=>by cases hg);have wK:=ry.out.I8 (nd*2) (.int .i64 0) R5 v (fun k hk=>Or.inl hk);clear Ue cR rQ;go_big_region;obtain⟨W7,oK⟩:∃W7,((w5.setCell ⟨b,nd*2,none⟩ (.int .i64 0)).setCell ⟨b,nd*2+1,none⟩ (.slice none 0 0)).drew=W7:=⟨_,rfl⟩;have zT:Hid (TM W7 b (upd (Bl l) nd 0) (upd (upd (Bf l) n ((Bf l n).eraseIdx i)) nd []) (upd R5 nd (.slice none 0 0)) u v ys nx):=Aa (by rw[←oK];exact hm7.below (Ad _ _).drew);have HT7:Hid (Trod w W7 (DV b R v) (DV b (upd R5 nd (.slice none 0 0)) v)):=Aa (by rw[←oK];exact((((Trod.of_below HB3.out).trans HT5.out).trans wK).trans ht7).trans (Trod.of_below (Ad _ _).drew));have si:Hid (W7.heap[q]?=some (.cells #[.string nm,.int .i64 (nd:Int),.bool false,.int .i64 ck,.int .i64 sh] 112 (0,0))):=Aa (by
             rw[←oK];show((w5.setCell _ _).setCell _ _).heap[q]?=_
             rw[Bw _ _ _ _ uS,Bw _ _ _ _ uS];exact kE.out)
            clear q0 q1 q2 q3 q4 k0 k1 k2 k3 k4 k5 hm7 ht7 wK
            (try rw[oK])
            go_upto_region 12 with fail;clear oK;obtain⟨⟨q0,q1,q2,q3,q4⟩,_⟩:=Ah (W:=W7.drew) si.out;have cG:=QO.oN W7.drew v.ownBlock 200 b v (A9 u ys) (nd:Int) W7.drew (zT.out.below (Ad _ _).drew).Sn true HIO.out;rw[if_pos rfl,DW]at cG;go_region_with (first
             | (go_at_call 144;refine cG.mono ?_;rintro e w8 ⟨rfl,v8,hp8⟩;have HP8:=Aa hp8;clear hp8))
            all_goals
             go_wp2;go_ret;obtain⟨u8,ys8,g1,g2,g3⟩:=(zT.out.below (Ad _ _).drew).pool HP8.out;refine⟨_,rfl,⟨_,u8,v8,ys8,?_,?_,HGU.out,rfl⟩,(HT7.out.trans (Trod.of_below (Ad _ _).drew)).trans g3⟩
             · rw[xz.out,HEN.out];exact g1
             · rw[HUS.out,←vY.out];exact g2.symm
           | true =>
            go_enter Tryz.func101,Tryz.ntmps101;go_upto_region 2 with(go_at_call 142;refine cF.mono ?_;rintro e w1 ⟨rfl,hb1⟩);obtain⟨hb2,hq2⟩:=KQ.out w1 hb1;have HB2:=Aa hb2;have J4:=Aa hq2;have hqq:w.heap.size≤w1.heap.size:=hb1.size;have r1:=((HT.out.below hb2).Fs Xx.out.2).1;rw[HRA.out]at r1;obtain⟨⟨q0,q1,q2,q3,q4⟩,_⟩:=Ah hq2;generalize w1.alloc (QZ ⟨nm,(nd:Int),true,ck,sh⟩)=W0 at *;generalize w1.heap.size=q at *;clear hb2 hq2 hb1;go_upto_region 8 with fail;go_quiet (fail);go_upto_region 10 with fail;clear q0 q1 q2 q3 q4 r1;have hb3:Below w.heap.size w (W0.drewN nq):=Ao HB2.out nq;have M5:Hid ((W0.drewN nq).heap[q]?=some (.cells #[.string nm,.int .i64 (nd:Int),.bool true,.int .i64 ck,.int .i64 sh] 112 (0,0))):=Aa (((Ao (Ad W0.heap.size W0) nq).block q (Ab J4.out)).trans J4.out);have HB3:=Aa hb3;generalize W0.drewN nq=W3 at *;have cR:=Sj (HT.out.below hb3) HN.out (by have:=HEL.out;omega) nm sj.out HIL.out;clear hb3;go_upto_region 11 with(go_at_call 143;refine cR.mono ?_;rintro e w5 ⟨R5,rfl,hm5,ht5⟩;have ry:=Aa hm5;have HT5:=Aa ht5;clear hm5 ht5);have Ue:w5.heap[q]?=some (.cells #[.string nm,.int .i64 (nd:Int),.bool true,.int .i64 ck,.int .i64 sh] 112 (0,0)):=(HT5.out.rest q (Ab M5.out) (fun hc=>by have:=bG.out q hc;omega)).trans M5.out;have kE:=Aa Ue;have uS:q≠b:=fun e=>by have:=bG.out b (Or.inl rfl);omega
            obtain⟨⟨q0,q1,q2,q3,q4⟩,_⟩:=Ah (W:=w5.drew) Ue;obtain⟨k0,k1⟩:w5.drew.cell? ⟨b,nd*2,none⟩=some (.int .i64 (Bl l nd))∧w5.drew.frozen? ⟨b,nd*2,none⟩=false:=ry.out.Lx Xx.out.2;have rQ:=ry.out.setKind Xx.out.2 0;obtain⟨k2,k3⟩:(w5.setCell ⟨b,nd*2,none⟩ (.int .i64 0)).drew.cell? ⟨b,nd*2+1,none⟩=some (R5 nd)∧(w5.setCell ⟨b,nd*2,none⟩ (.int .i64 0)).drew.frozen? ⟨b,nd*2+1,none⟩=false:=rQ.Fs Xx.out.2;have k4:w5.drew.cell? ⟨b,nd*2+1,none⟩=some (R5 nd):=(ry.out.Fs Xx.out.2).1;have k5:w5.drew.frozen? ⟨b,nd*2+1,none⟩=false:=(ry.out.Fs Xx.out.2).2;obtain⟨hm7,ht7⟩:=rQ.setRow Xx.out.2 (l:=[]) (Lc _ _) (r:=.slice none 0 0) ⟨rfl,Or.inl ⟨rfl,rfl⟩⟩ (fun g hg=>by cases hg);have wK:=ry.out.I8 (nd*2) (.int .i64 0) R5 v (fun k hk=>Or.inl hk);clear Ue cR rQ;go_big_region;obtain⟨W7,oK⟩:∃W7,((w5.setCell ⟨b,nd*2,none⟩ (.int .i64 0)).setCell ⟨b,nd*2+1,none⟩ (.slice none 0 0)).drew=W7:=⟨_,rfl⟩;have zT:Hid (TM W7 b (upd (Bl l) nd 0) (upd (upd (Bf l) n ((Bf l n).eraseIdx i)) nd []) (upd R5 nd (.slice none 0 0)) u v ys nx):=Aa (by rw[←oK];exact hm7.below (Ad _ _).drew);have HT7:Hid (Trod w W7 (DV b R v) (DV b (upd R5 nd (.slice none 0 0)) v)):=Aa (by rw[←oK];exact((((Trod.of_below HB3.out).trans HT5.out).trans wK).trans ht7).trans (Trod.of_below (Ad _ _).drew));have si:Hid (W7.heap[q]?=some (.cells #[.string nm,.int .i64 (nd:Int),.bool true,.int .i64 ck,.int .i64 sh] 112 (0,0))):=Aa (by
             rw[←oK];show((w5.setCell _ _).setCell _ _).heap[q]?=_
             rw[Bw _ _ _ _ uS,Bw _ _ _ _ uS];exact kE.out)
            clear q0 q1 q2 q3 q4 k0 k1 k2 k3 k4 k5 hm7 ht7 wK
            (try rw[oK])
            go_upto_region 12 with fail;clear oK;obtain⟨⟨q0,q1,q2,q3,q4⟩,_⟩:=Ah (W:=W7.drew) si.out;have cG:=QO.oN W7.drew v.ownBlock 200 b v (A9 u ys) (nd:Int) W7.drew (zT.out.below (Ad _ _).drew).Sn true HIO.out;rw[if_pos rfl,DW]at cG;go_region_with (first
             | (go_at_call 144;refine cG.mono ?_;rintro e w8 ⟨rfl,v8,hp8⟩;have HP8:=Aa hp8;clear hp8))
            all_goals
             go_wp2;go_ret;obtain⟨u8,ys8,g1,g2,g3⟩:=(zT.out.below (Ad _ _).drew).pool HP8.out;refine⟨_,rfl,⟨_,u8,v8,ys8,?_,?_,HGU.out,rfl⟩,(HT7.out.trans (Trod.of_below (Ad _ _).drew)).trans g3⟩
             · rw[xz.out,HEN.out];exact g1
             · rw[HUS.out,←vY.out];exact g2.symm
 · rw[if_pos hf]at hQ;subst hQ;have y9:(f==0)=false:=A8.2 hf;clear ek hf;go_enter Tryz.func101,Tryz.ntmps101;go_upto_region 2 with(go_at_call 142;refine cF.mono ?_;rintro e w1 ⟨rfl,hb1⟩);obtain⟨hb2,hq2⟩:=KQ.out w1 hb1;have HB2:=Aa hb2;clear hb2 hq2 hb1;go_wp2;go_ret;obtain⟨g1,g2⟩:=J3.out _ HB2.out;exact⟨_,rfl,g1,g2⟩
end
section
variable {w:World}{b:Nat}{l:List Az}{nx:Int}{R:Nat→Value}{u:Nat}{v:Value}{ys:List Int}
set_option maxHeartbeats 8000000 in
theorem Zr (h:TM w b (Bl l) (Bf l) R u v ys nx)(ho:A9 u ys=BH l)(hg:Aq l nx)(d:Int)(s:ByteArray)(dt:Int)(ns:ByteArray)(sh:Int)(hs:ns.size≤9223372036854775807)(hnx:nx+1≤9223372036854775807) :
 Calls Tryz.prog 103 #[Aj b,.int .i64 d,.string s,.int .i64 dt,.string ns,.int .i64 sh] w (Rt b (DZ l nx d s dt ns sh) (DV b R v) w):=by
 unfold Rt;have cF:=hg.pz h d s;have cA:=fun W (hW:Below w.heap.size w W)=>Y5 (h.below hW) dt ns hs sh
 have J3:Hid (∀W,Below w.heap.size w W→zu W b l nx (DV b R v)∧Trod w W (DV b R v) (DV b R v)):=Aa (fun W hW=>⟨⟨R,u,v,ys,h.below hW,ho,hg,rfl⟩,Trod.of_below hW⟩);have HT:=Aa h;have HG:=Aa hg;have vY:=Aa ho;obtain⟨Q,hQ⟩:∃Q,DZ l nx d s dt ns sh=Q:=⟨_,rfl⟩;rw[hQ];unfold DZ at hQ;have ek:=fun h=>found (l:=l) (d:=d) (s:=s) h
 obtain⟨⟨x,f⟩,hF⟩:∃F,BQ l d s=F:=⟨_,rfl⟩;rw[hF]at cF hQ ek;simp only at cF hQ ek;unfold Df at cF;have hlt:=h.lt;clear h hg ho hF;have pre:∀w1,Below w.heap.size w w1→Below w.heap.size w (w1.alloc (QZ x))∧(w1.alloc (QZ x)).heap[w1.heap.size]?=some (.cells #[.string x.name,.int .i64 x.node,.bool x.dir,.int .i64 x.Am,.int .i64 x.short] 112 (0,0)):=fun w1 hb=>⟨hb.alloc hb.size _,Ai _ _⟩
 have KQ:=Aa pre;have bG:Hid (∀k,DV b R v k→k<w.heap.size):=Aa (fun k hk=>(hlt k hk).2);clear pre hlt;by_cases hf:f=0
 · subst hf;obtain⟨hd,hnm,hmem,hns⟩:=ek rfl;rw[if_neg (by simp)]at hQ;obtain⟨n,rfl,hn,hk2⟩:=HG.out.dir hd;obtain⟨nd,hnd⟩:∃nd:Nat,x.node=(nd:Int):=⟨x.node.toNat,by have:=HG.out.node _ hmem;simp only at this;omega⟩;have hnr:1≤nd∧nd≤200:=by have:=HG.out.node _ hmem;simp only[hnd]at this;omega
   obtain⟨nm,x1,dr,ck,sh0⟩:=x;simp only at hnd hns hQ KQ cF;subst hnd;subst hns;clear ek;obtain⟨r,hr⟩:∃r,Ll (Bl l) dt ns sh=r:=⟨_,rfl⟩;rw[hr]at cA;unfold Ll at hr;rw[HG.out.open']at hr;by_cases hr0:r=0
   · subst hr0;have hdt:Bc l dt=0:=by
      apply Jj;intro hc;rw[if_neg hc]at hr;exact hc hr
     rw[if_pos hdt]at hr;obtain⟨n2,rfl,hn2,hk3⟩:=HG.out.dir hdt;rw[if_neg (by simp[hdt]),if_neg (by simp[hr])]at hQ;obtain⟨H,hH⟩:=HG.out.low;rw[SH HG.out hH nd (n2:Int)]at hQ;have cB:=fun W (hW:Below w.heap.size w W)=>iI (HT.out.below hW) H (HG.out.lower hH) hnr.2 (n2:Int)
     obtain⟨B,hB⟩:∃B,Ev (Bf l) (n2:Int) (H nd+1) nd=B:=⟨_,rfl⟩;rw[hB]at cB;have zU:=SH HG.out hH nd (n2:Int);rw[hB]at hQ zU;by_cases hE:(nd:Int)=(n2:Int)
     · rw[AX hE,if_pos (by rfl)]at hQ;subst hQ;have hEb:((nd:Int)==(n2:Int))=true:=by rw[hE];simp
       clear cB hr hk3 hk2 hd hdt hmem hnm hH hB zU hE;go_enter Tryz.func103,Tryz.ntmps103;go_upto_region 2 with(go_at_call 142;refine cF.mono ?_;rintro e w1 ⟨rfl,hb1⟩);obtain⟨hb2,hq2⟩:=KQ.out w1 hb1;have HB2:=Aa hb2;have J4:=Aa hq2;have hqq:w.heap.size≤w1.heap.size:=hb1.size;generalize w1.alloc (QZ ⟨nm,(nd:Int),dr,ck,sh0⟩)=W0 at *;generalize w1.heap.size=q at *;clear hb2 hq2 hb1;go_wp2_with (go_at_call 137;refine(cA _ HB2.out).mono ?_;rintro e w3 ⟨rfl,hb3⟩;have HB3:=Aa (HB2.out.trans (hb3.mono HB2.out.size));have hq3:=(hb3.block q (Ab J4.out)).trans J4.out;have M5:=Aa hq3;obtain⟨⟨q0,q1,q2,q3,q4⟩,_⟩:=Ah hq3;clear hb3 hq3);go_ret;obtain⟨g1,g2⟩:=J3.out _ HB3.out;exact⟨_,rfl,g1,g2⟩
     · have hEb:((nd:Int)==(n2:Int))=false:=A8.2 hE;rw[A7 hE,Bool.false_or]at hQ zU;cases B with
       | true =>
        rw[if_pos rfl]at hQ;subst hQ;clear hr hk3 hk2 hd hdt hmem hnm hH hB zU hE;go_enter Tryz.func103,Tryz.ntmps103;go_upto_region 2 with(go_at_call 142;refine cF.mono ?_;rintro e w1 ⟨rfl,hb1⟩);obtain⟨hb2,hq2⟩:=KQ.out w1 hb1;have HB2:=Aa hb2;have J4:=Aa hq2;have hqq:w.heap.size≤w1.heap.size:=hb1.size;generalize w1.alloc (QZ ⟨nm,(nd:Int),dr,ck,sh0⟩)=W0 at *;generalize w1.heap.size=q at *;clear hb2 hq2 hb1;go_wp2_with (first
         | (go_at_call 137;refine(cA _ HB2.out).mono ?_;rintro e w3 ⟨rfl,hb3⟩;have HB3:=Aa (HB2.out.trans (hb3.mono HB2.out.size));have hq3:=(hb3.block q (Ab J4.out)).trans J4.out;have M5:=Aa hq3;obtain⟨⟨q0,q1,q2,q3,q4⟩,_⟩:=Ah hq3;clear hb3 hq3)
         | (go_at_call 146;refine(cB _ HB3.out).mono ?_;rintro e w4 ⟨rfl,hb4⟩;have KT:=Aa (HB3.out.trans (hb4.mono HB3.out.size));have hq4:=(hb4.block q (Ab M5.out)).trans M5.out;have xw:=Aa hq4;clear hb4 hq4))
        go_ret;obtain⟨g1,g2⟩:=J3.out _ KT.out;exact⟨_,rfl,g1,g2⟩
       | false =>
        rw[if_neg (by simp)]at hQ;rcases Sq HG.out hdt ns with⟨hfp,hp⟩|⟨hfp,hp⟩
        · rw[if_pos hfp]at hQ;subst hQ;have cP:=fun W (hW:Below w.heap.size w W)=>La (HT.out.below hW) hn2 (by have:=HG.out.NR n2;omega) ns
          have HP6:Ga (Bf l n2) ns nx=6:=if_pos hp;rw[HP6]at cP;clear hr hk3 hk2 hd hdt hmem hnm hH hB zU hE hfp hp HP6;go_enter Tryz.func103,Tryz.ntmps103;go_upto_region 2 with(go_at_call 142;refine cF.mono ?_;rintro e w1 ⟨rfl,hb1⟩);obtain⟨hb2,hq2⟩:=KQ.out w1 hb1;have HB2:=Aa hb2;have J4:=Aa hq2;have hqq:w.heap.size≤w1.heap.size:=hb1.size;generalize w1.alloc (QZ ⟨nm,(nd:Int),dr,ck,sh0⟩)=W0 at *;generalize w1.heap.size=q at *;clear hb2 hq2 hb1;go_wp2_with (first
           | (go_at_call 137;refine(cA _ HB2.out).mono ?_;rintro e w3 ⟨rfl,hb3⟩;have HB3:=Aa (HB2.out.trans (hb3.mono HB2.out.size));have hq3:=(hb3.block q (Ab J4.out)).trans J4.out;have M5:=Aa hq3;obtain⟨⟨q0,q1,q2,q3,q4⟩,_⟩:=Ah hq3;clear hb3 hq3)
           | (go_at_call 146;refine(cB _ HB3.out).mono ?_;rintro e w4 ⟨rfl,hb4⟩;have KT:=Aa (HB3.out.trans (hb4.mono HB3.out.size));have hq4:=(hb4.block q (Ab M5.out)).trans M5.out;have xw:=Aa hq4;clear hb4 hq4)
           | (go_at_call 138;refine(cP _ KT.out).mono ?_;rintro e w5 ⟨rfl,hb5⟩;have JG:=Aa (KT.out.trans (hb5.mono KT.out.size));have Ue:=(hb5.block q (Ab xw.out)).trans xw.out;have kE:=Aa Ue;clear hb5 Ue))
          go_ret;obtain⟨g1,g2⟩:=J3.out _ JG.out;exact⟨_,rfl,g1,g2⟩
        · rw[if_neg hfp]at hQ;subst hQ;have cP:=fun W (hW:Below w.heap.size w W)=>La (HT.out.below hW) hn2 (by have:=HG.out.NR n2;omega) ns
          have HP0:Ga (Bf l n2) ns nx=0:=by
           unfold Ga;rw[hp,if_neg (by omega),if_neg (by have:=HG.out.Md;omega)]
          rw[HP0]at cP;have HGM:Hid (Aq (Dn (Bv l (n:Int) nm) nx (n2:Int) ⟨ns,(nd:Int),dr,0,sh⟩) (nx+1)):=Aa (HG.out.move hmem hdt hr (by rw[zU];simp) hfp);have HKM:Hid (Bl (Dn (Bv l (n:Int) nm) nx (n2:Int) ⟨ns,(nd:Int),dr,0,sh⟩)=Bl l):=Aa (SY HG.out hmem (n2:Int) ns sh);have HUS:Hid (BH (Dn (Bv l (n:Int) nm) nx (n2:Int) ⟨ns,(nd:Int),dr,0,sh⟩)=BH l):=Aa (VW (fun k=>by rw[HKM.out]));have xA:Hid (upd (Bl l) nd (kindOf dr)=Bl l):=Aa (by
           have h9:=PX HG.out hmem;have h8:kindOf dr=Bl l nd:=h9.symm;rw[h8,RG])
          have qV:Hid (ns.size≤281474976710656):=Aa (by have:=Qd hr;omega);rcases Ii (Bf l n) nm with⟨_,hc,_⟩|⟨i,y,hpp,hy,hyn,dW,_⟩
          · unfold Bf at hc;rw[hc]at hnm;cases hnm
          · unfold Bf at dW;rw[dW]at hnm;obtain rfl:=Cm hnm;have hil:i<(Bf l n).length:=(Ed.1 hy).1;have hel:=HG.out.NR n;have HED:Hid (Bf (Bv l (n:Int) nm)=upd (Bf l) n ((Bf l n).eraseIdx i)):=Aa (Tu HG.out hy rfl);have HEM:Hid (Bf (Dn (Bv l (n:Int) nm) nx (n2:Int) ⟨ns,(nd:Int),dr,0,sh⟩)=upd (upd (Bf l) n ((Bf l n).eraseIdx i)) n2 (upd (Bf l) n ((Bf l n).eraseIdx i) n2++[⟨ns,(nd:Int),dr,nx,sh⟩])):=Aa (by
             rw[←HED.out];exact NQ (Bv l (n:Int) nm) n2 ⟨ns,(nd:Int),dr,nx,sh⟩)
            have Acg:Hid ((upd (Bf l) n ((Bf l n).eraseIdx i) n2).length≤1000):=Aa (by
             unfold upd;split
             · have:=List.length_eraseIdx_le (Bf l n) i;omega
             · have:=HG.out.NR n2;omega)
            have sj:=Aa hpp;have HIL:=Aa hil;have HEL:=Aa hel;have HN:=Aa hn;have HN2:=Aa hn2;have Xx:=Aa hnr;have Acb:Hid (0≤nx):=Aa (by have:=HG.out.Md;omega);have HNX:=Aa hnx;clear hr hk3 hk2 hd hdt hmem hH hB zU hE hfp hp HP0 hy dW hpp hil hel hn hn2 hnr hnx;go_enter Tryz.func103,Tryz.ntmps103;go_upto_region 2 with(go_at_call 142;refine cF.mono ?_;rintro e w1 ⟨rfl,hb1⟩);obtain⟨hb2,hq2⟩:=KQ.out w1 hb1;have HB2:=Aa hb2;have J4:=Aa hq2;have hqq:w.heap.size≤w1.heap.size:=hb1.size;generalize w1.alloc (QZ ⟨nm,(nd:Int),dr,ck,sh0⟩)=W0 at *;generalize w1.heap.size=q at *;clear hb2 hq2 hb1;go_upto_region 12 with(first
             | (go_at_call 137;refine(cA _ HB2.out).mono ?_;rintro e w3 ⟨rfl,hb3⟩;have HB3:=Aa (HB2.out.trans (hb3.mono HB2.out.size));have hq3:=(hb3.block q (Ab J4.out)).trans J4.out;have M5:=Aa hq3;obtain⟨⟨q0,q1,q2,q3,q4⟩,_⟩:=Ah hq3;clear hb3 hq3)
             | (go_at_call 146;refine(cB _ HB3.out).mono ?_;rintro e w4 ⟨rfl,hb4⟩;have KT:=Aa (HB3.out.trans (hb4.mono HB3.out.size));have hq4:=(hb4.block q (Ab M5.out)).trans M5.out;have xw:=Aa hq4;clear hb4 hq4)
             | (go_at_call 138;refine(cP _ KT.out).mono ?_;rintro e w5 ⟨rfl,hb5⟩;have JG:=Aa (KT.out.trans (hb5.mono KT.out.size));have Ue:=(hb5.block q (Ab xw.out)).trans xw.out;have kE:=Aa Ue;clear hb5 Ue))
            clear q0 q1 q2 q3 q4;have cR:=Sj (HT.out.below JG.out) HN.out (by have:=HEL.out;omega) nm sj.out HIL.out;go_upto_region 13 with(go_at_call 143;refine cR.mono ?_;rintro e w6 ⟨R6,rfl,rQ,wK⟩;have HM6:=Aa rQ;have HT6:=Aa wK;clear rQ wK);have wN:w6.heap[q]?=some (.cells #[.string nm,.int .i64 (nd:Int),.bool dr,.int .i64 ck,.int .i64 sh0] 112 (0,0)):=(HT6.out.rest q (Ab kE.out) (fun hc=>by have:=bG.out q hc;omega)).trans kE.out;have HQ6:=Aa wN;have hqf:∀k,DV b R6 v k→k≠q:=fun k hk e=>by
             rcases HT6.out.sub k hk with h9|h9
             · have:=bG.out k h9;omega
             · have:=Ab kE.out;omega
            obtain⟨⟨q0,q1,q2,q3,q4⟩,⟨f0,f1,f2,f3,f4⟩⟩:=Ah wN;have si:Hid (((w6.setCell ⟨q,0,none⟩ (.string ns)).setCell ⟨q,4,none⟩ (.int .i64 sh)).heap[q]?=some (.cells #[.string ns,.int .i64 (nd:Int),.bool dr,.int .i64 ck,.int .i64 sh] 112 (0,0))):=Aa (by
             rw[Bj _ q 4 _ _ _ (Bj _ q 0 _ _ _ wN)];rfl)
            have zT:Hid (TM ((w6.setCell ⟨q,0,none⟩ (.string ns)).setCell ⟨q,4,none⟩ (.int .i64 sh)) b (Bl l) (upd (Bf l) n ((Bf l n).eraseIdx i)) R6 u v ys nx):=Aa (HM6.out.kept (fun k hk=>by
             rw[Bw _ _ _ _ (hqf k hk),Bw _ _ _ _ (hqf k hk)]))
            have HT7:Hid (Trod w ((w6.setCell ⟨q,0,none⟩ (.string ns)).setCell ⟨q,4,none⟩ (.int .i64 sh)) (DV b R v) (DV b R6 v)):=Aa (by
             have h9:=(Trod.of_below JG.out).trans HT6.out;refine⟨h9.os,h9.tape,h9.output,by have:=h9.size;simpa[World.setCell]using this,fun k hk hs=>?_,h9.sub⟩;have hkq:k≠q:=by omega
             rw[Bw _ _ _ _ hkq,Bw _ _ _ _ hkq];exact h9.rest k hk hs)
            clear wN hqf cR;go_upto_region 14 with fail;clear q0 q1 q2 q3 q4 f0 f1 f2 f3 f4;generalize (w6.setCell ⟨q,0,none⟩ (.string ns)).setCell ⟨q,4,none⟩ (.int .i64 sh)=W7 at *;obtain⟨⟨q0,q1,q2,q3,q4⟩,_⟩:=Ah si.out;have cAd:=UH zT.out HN2.out Acg.out ⟨ns,(nd:Int),dr,ck,sh⟩ rfl Xx.out.2 qV.out Acb.out HNX.out;unfold EC Df at cAd;go_wp2_with (go_at_call 140;refine cAd.mono ?_;rintro e w8 ⟨R8,rfl,hm8,ht8⟩;have HM8:=Aa hm8;have HT8:=Aa ht8;clear hm8 ht8);go_ret;refine⟨_,rfl,⟨R8,u,v,ys,?_,?_,HGM.out,rfl⟩,HT7.out.trans HT8.out⟩
            · show TM w8 b (Bl (Dn (Bv l (n:Int) nm) nx (n2:Int) ⟨ns,(nd:Int),dr,0,sh⟩)) (Bf (Dn (Bv l (n:Int) nm) nx (n2:Int) ⟨ns,(nd:Int),dr,0,sh⟩)) R8 u v ys (nx+1)
              rw[HKM.out,HEM.out];have h9:=HM8.out;rw[xA.out]at h9;exact h9
            · show A9 u ys=BH (Dn (Bv l (n:Int) nm) nx (n2:Int) ⟨ns,(nd:Int),dr,0,sh⟩)
              rw[HUS.out];exact vY.out
   · have hQ2:Q=((l,nx),r):=by
      by_cases hdt:Bc l dt=0
      · rw[if_pos hdt]at hr;rw[←hQ,if_neg (by simp[hdt]),if_pos (by rw[hr];exact hr0),hr]
      · rw[if_neg hdt]at hr;rw[←hQ,if_pos hdt,hr]
     subst hQ2;have y9:(r==0)=false:=A8.2 hr0;clear hr hQ hr0 hmem hnm hd hk2;go_enter Tryz.func103,Tryz.ntmps103;go_upto_region 2 with(go_at_call 142;refine cF.mono ?_;rintro e w1 ⟨rfl,hb1⟩);obtain⟨hb2,hq2⟩:=KQ.out w1 hb1;have HB2:=Aa hb2;have J4:=Aa hq2;have hqq:w.heap.size≤w1.heap.size:=hb1.size;generalize w1.alloc (QZ ⟨nm,(nd:Int),dr,ck,sh0⟩)=W0 at *;generalize w1.heap.size=q at *;clear hb2 hq2 hb1;go_wp2_with (go_at_call 137;refine(cA _ HB2.out).mono ?_;rintro e w3 ⟨rfl,hb3⟩;have HB3:=Aa (HB2.out.trans (hb3.mono HB2.out.size));have hq3:=(hb3.block q (Ab J4.out)).trans J4.out;have M5:=Aa hq3;obtain⟨⟨q0,q1,q2,q3,q4⟩,_⟩:=Ah hq3;clear hb3 hq3);go_ret;obtain⟨g1,g2⟩:=J3.out _ HB3.out;exact⟨_,rfl,g1,g2⟩
 · rw[if_pos hf]at hQ;subst hQ;have y9:(f==0)=false:=A8.2 hf;clear ek hf cA;go_enter Tryz.func103,Tryz.ntmps103;go_upto_region 2 with(go_at_call 142;refine cF.mono ?_;rintro e w1 ⟨rfl,hb1⟩);obtain⟨hb2,hq2⟩:=KQ.out w1 hb1;have HB2:=Aa hb2;have J4:=Aa hq2;have hqq:w.heap.size≤w1.heap.size:=hb1.size;generalize w1.alloc (QZ x)=W0 at *;generalize w1.heap.size=q at *;clear hb2 hq2 hb1;go_wp2;go_ret;obtain⟨g1,g2⟩:=J3.out _ HB2.out;exact⟨_,rfl,g1,g2⟩
end
end Go.Proofs.YtdmkhmeaphaapaaGreat
