/- Kit. -/
import Derived.Test.YtdmkhmeaphaapaaGreatCZ33
import Derived.Test.YtdmkhmeaphaapaaGreatCZ38
import Derived.Deep.RegionLaw
import Derived.Test.YtdmkhmeaphaapaaGreatCZ0
set_option maxRecDepth 100000
set_option linter.unusedVariables false
set_option linter.unusedSimpArgs false
namespace Go.Proofs.YtdmkhmeaphaapaaGreat.V.St
open Go.RowKit Go.Sort
variable {X:List Value}
def Qw (h A:Nat)(s:ByteArray):List ByteArray:=if Df h A s=0 then [s] else []
def UX (X:List Value)(B b vb n h:Nat)(k:Bool)(E A:Nat)(img:ByteArray)(rs r1 r2:List ByteArray)(lm:Bool)(st:St)(rv:Value)(s:ByteArray)(op:Bool)(q:Int)(W:World):Prop:=
 (q=0∧Df h A s=0∧Ay X W vb b (BH h k) h (A+(s.size+61)/62) E img rv op∧∃st',Dev B W b st'∧Dx n h k E (A+(s.size+61)/62) img (rs++[s]) r1 (r2++[s]) lm st') ∨
 (q=13∧lm=true∧Ay X W vb b (BH h k) h A E img rv op∧∃st',Dev B W b st'∧IX n h k E r1 (r2++Qw h A s) ⟨#[]⟩ st') ∨
 (q≠0∧q≠13∧Df h A s=q∧Ay X W vb b (BH h k) h A E img rv op∧Dev B W b st)
theorem UX.mZ {B b vb n h:Nat}{k:Bool}{E A:Nat}{img:ByteArray}{rs r1 r2:List ByteArray}{lm:Bool}{st:St}{rv:Value}{s:ByteArray}{op:Bool}{q:Int}{W:World}(hx:UX X B b vb n h k E A img rs r1 r2 lm st rv s op q W):∃A',Ay X W vb b (BH h k) h A' E img rv op:=by
 rcases hx with⟨_,_,h,_⟩|⟨_,_,h,_⟩|⟨_,_,_,h,_⟩<;>exact⟨_,h⟩
theorem UX.Il {B b vb n h:Nat}{k:Bool}{E A:Nat}{img:ByteArray}{rs r1 r2:List ByteArray}{lm:Bool}{st:St}{rv:Value}{s:ByteArray}{op:Bool}{q:Int}{W:World}(hx:UX X B b vb n h k E A img rs r1 r2 lm st rv s op q W)(x:Bool):UX X B b vb n h k E A img rs r1 r2 lm st rv s x q (W.setCell ⟨vb,7,none⟩ (.bool x)):=by
 rcases hx with⟨h0,h1,h2,st',h3,h4⟩|⟨h0,h1,h2,st',h3,h4⟩|⟨h0,h00,h1,h2,h3⟩
 · exact Or.inl ⟨h0,h1,h2.Il x,st',h3.Mc h2 (by simp),h4⟩
 · exact Or.inr (Or.inl ⟨h0,h1,h2.Il x,st',h3.Mc h2 (by simp),h4⟩)
 · exact Or.inr (Or.inr ⟨h0,h00,h1,h2.Il x,h3.Mc h2 (by simp)⟩)
set_option maxHeartbeats 4000000 in
theorem lS {B b vb n h g:Nat}{k:Bool}{E A:Nat}{img:ByteArray}{rs r1 r2:List ByteArray}{lm:Bool}{st:St}{rv:Value}{W:World}(s:ByteArray)(hL:FT X B b vb n h k E A img rs r1 r2 lm st rv W)(hs:s.size≤9223372036854775807)(hB:B≤W.heap.size)
 (hg:Hr W g [(54,.agg #[.pointer (some ⟨vb,0,none⟩),.string s])]) :
 Calls Tryz.prog 50 #[.pointer (some ⟨vb,0,none⟩),.slice (some ⟨g,0,none⟩) (1:Nat) (1:Nat)] W fun e w'=>∃q:Int,e=.returned (.int .i64 q)∧UX X B b vb n h k E A img rs r1 r2 lm st rv s (decide (q≠13)) q w'∧Below B W w'∧Off DT W w':=by
 have hl:=hL.live;have hpd:=hl.Yy;have h9:=hl.n2;have h8:=hl.hn;have hle:=Gc hl.hn k;have hlen:=hl.len;have hroom:=hl.room;have h2:=hl.h2;have hend:=hl.end_;refine(rM g 1 [(54,.agg #[.pointer (some ⟨vb,0,none⟩),.string s])]
  (fun i W'=>(i=0∧W'=W)∨(i=1∧UX X B b vb n h k E A img rs r1 r2 lm st rv s true 0 W'∧Below B W W'∧Off DT W W'))
  (fun q W'=>UX X B b vb n h k E A img rs r1 r2 lm st rv s true q W'∧Below B W W'∧Off DT W W')
  hL.Md rfl (by decide) (fun k hk=>by rw[Cn.1 hk];exact Oo) (Or.inl ⟨rfl,rfl⟩) ?_ ?_ ?_).mono ?_
 · rintro i W' (⟨_,rfl⟩|⟨_,_,_,ho⟩)
   · exact hg
   · exact ho _ (by decide) _ _ _ hg
 · intro i kk W' hk hI;rcases hI with⟨rfl,rfl⟩|⟨rfl,_⟩
   · injection hk with hk;subst hk;refine(TL s (Ps:=fun x q w1=>WrP B b st (BH h k) A h s x q w1∧Below B W' w1∧Off AZ W' w1) hL.Md (by decide) (fun W2 hW2=>?_)).mono ?_
     · refine(RV (hL.dev.below hW2) hl.good (by omega) (by omega) (by omega) hroom (by omega) (by omega) (Ao hB hW2.size)).mono ?_;rintro e w' ⟨x,q,he,⟨h1,h3,h4⟩,h5⟩;exact⟨x,q,he,⟨h1,(hW2.mono hB).trans h3,(Off.Ar hW2 _).trans h4⟩,h5⟩
     · rintro e w' ⟨x,q,w1,rfl,⟨hw,hb,ho⟩,hv,hq⟩;refine⟨q,rfl,?_⟩;rcases hq with⟨rfl,rfl⟩|⟨hq,rfl⟩
       · refine Or.inl ⟨rfl,Or.inr ⟨rfl,?_,hb.setCell (p:=⟨vb,3,none⟩) hL.hvb _,ho.va.setCell hv (by decide) _⟩⟩;rcases hw with⟨h1,_⟩|⟨h1,_⟩|⟨hfit,j,hj,hc,hr,hd⟩
         · cases h1
         · exact absurd rfl h1
         · rcases hc with⟨_,rfl,rfl⟩|⟨h1,_⟩
           · obtain⟨f1,f2,f3⟩:=Ep hfit;have htl:(BF s).take ((s.size+61)/62)=BF s:=CV (by rw[CP];exact Ae _);rw[htl]at hr hd;exact Or.inl ⟨rfl,hfit,hv.WJ _,_,hd.Mc hv (by simp),hl.append f1 f2 f3 hr⟩
           · cases h1
       · refine Or.inr ⟨hq,?_,hb,ho.va⟩;rcases hw with⟨h1,hgo,hd⟩|⟨h1,MC,hgo,hfit,hd⟩|⟨hfit,j,hj,hc,hr,hd⟩
         · exact Or.inr (Or.inl ⟨h1,EZ hgo hl.lim,hv,_,hd,hl.dead _ _⟩)
         · exact Or.inr (Or.inr ⟨h1,MC,hfit,hv,hd⟩)
         · rcases hc with⟨h1,_⟩|⟨h1,hgo⟩
           · exact absurd h1 hq
           · obtain⟨f1,f2,f3⟩:=Ep hfit;have hpl:=hl.ZI f1 f2 f3 hj hr ⟨#[]⟩;have hlim:(Bj st (BH h k+A) ((BF s).take j)).lim=st.lim:=by
              have hp:=KA (st:=st) (i:=BH h k+A) (fs:=(BF s).take j) hl.good (by rw[Cc,CP];omega) (fun f hf=>EB s f (List.mem_of_mem_take hf)) hr _ (Ae _);rw[List.take_length]at hp;exact hp.2.1
             refine Or.inr (Or.inl ⟨h1,EZ hgo (fun e=>hlim.trans (hl.lim e)),hv,_,hd,?_⟩);unfold Qw;rw[if_pos hfit];exact hpl
   · cases hk
 · rintro q W' (⟨_,⟨h1,_⟩|⟨_,hx,_⟩⟩|⟨_,hx,_⟩)
   · cases h1
   · obtain⟨A',hv⟩:=hx.mZ;exact⟨_,_,_,_,_,_,_,_,hv⟩
   · obtain⟨A',hv⟩:=hx.mZ;exact⟨_,_,_,_,_,_,_,_,hv⟩
 · rintro e w' ⟨q,w1,rfl,hq,rfl⟩;refine⟨q,rfl,?_⟩;have key:∀q,UX X B b vb n h k E A img rs r1 r2 lm st rv s true q w1∧Below B W w1∧Off DT W w1→UX X B b vb n h k E A img rs r1 r2 lm st rv s (decide (q≠13)) q (w1.setCell ⟨vb,7,none⟩ (.bool (decide (q≠13))))∧Below B W (w1.setCell ⟨vb,7,none⟩ (.bool (decide (q≠13))))∧Off DT W (w1.setCell ⟨vb,7,none⟩ (.bool (decide (q≠13)))):=fun q h=>by
    obtain⟨A',hv⟩:=h.1.mZ;exact⟨h.1.Il _,h.2.1.setCell (p:=⟨vb,7,none⟩) hL.hvb _,h.2.2.setCell hv (by decide) _⟩
   rcases hq with⟨rfl,⟨h1,_⟩|⟨_,hx⟩⟩|⟨_,hx⟩
   · cases h1
   · exact key 0 hx
   · exact key q hx
def iG (X:List Value)(B b vb n h:Nat)(k:Bool)(E A:Nat)(img:ByteArray)(rs r1 r2:List ByteArray)(lm:Bool)(st:St)(rv:Value)(s:ByteArray)(w:World)(e:Ending)(w':World):Prop:=
 ∃q:Int,e=.returned (.int .i64 q)∧Below B w w'∧Ij (CO rv) w w' ∧
  ((q=0∧Df h A s=0∧∃st' rv',FT X B b vb n h k E (A+(s.size+61)/62) img (rs++[s]) r1 (r2++[s]) lm st' rv' w'∧(CO rv'=CO rv∨∃g,w.heap.size≤g∧CO rv'=some g)) ∨
   (q=13∧lm=true∧∃st',NN X B b vb n h k E r1 (r2++Qw h A s) ⟨#[]⟩ st' w') ∨
   (q≠0∧q≠13∧Df h A s=q∧FT X B b vb n h k E A img rs r1 r2 lm st rv w'))
set_option maxHeartbeats 4000000 in
theorem tu {B b vb n h:Nat}{k:Bool}{E A:Nat}{img:ByteArray}{rs r1 r2:List ByteArray}{lm:Bool}{st:St}{rv:Value}{w:World}(s:ByteArray)(hL:FT X B b vb n h k E A img rs r1 r2 lm st rv w)(hs:s.size≤9223372036854775807)(hn:rs.length≤1000)(hB:B≤w.heap.size) :
 Calls Tryz.prog 24 #[.pointer (some ⟨vb,0,none⟩),.string s] w (iG X B b vb n h k E A img rs r1 r2 lm st rv s w):=by
 unfold iG;have HL:=Aa hL;obtain⟨W1,hW1⟩:∃W1,(w.alloc (.cells #[.pointer (some ⟨vb,0,none⟩),.string s] 119)).alloc (.cells #[.func (.func 54) #[.agg #[.pointer (some ⟨vb,0,none⟩),.string s]] #[]] 169)=W1:=⟨_,rfl⟩;have HB1:Hid (Below w.heap.size w W1):=Aa (by rw[←hW1];exact((Ad _ _).alloc (Ae _) _).alloc (by simp) _);have hst:Hr W1 (w.heap.size+1) [(54,.agg #[.pointer (some ⟨vb,0,none⟩),.string s])]:=by rw[←hW1];exact heap_alloc2_new _ _ _
 have cD:=lS s (hL.below HB1.out) hs (Ao hB HB1.out.size) hst;have cC:=fun(hq:s.size≤60000) W=>OT s W (by omega)
 clear hL hst;go_enter Tryz.func24,Tryz.ntmps24;go_wp2_with fail
 try rw[hW1]
 clear hW1;refine cD.mono ?_;rintro e w2 ⟨q,rfl,hx,hb2,ho2⟩;have HX:=Aa hx;have HB2:Hid (Below B w w2):=Aa ((HB1.out.mono hB).trans hb2);have JQ:Hid (Off DT w w2):=Aa ((Off.Ar HB1.out _).trans ho2);clear hx hb2 ho2 cD;by_cases hq:q=0
 · subst hq;have hrow:CX B w2 rv rs:=HL.out.row.off JQ.out;have Ab1:=Aa hrow;obtain⟨hfit,hv,st',hd,hl'⟩:Df h A s=0∧Ay X w2 vb b (BH h k) h (A+(s.size+61)/62) E img rv true∧∃st',Dev B w2 b st'∧Dx n h k E (A+(s.size+61)/62) img (rs++[s]) r1 (r2++[s]) lm st':=by
    rcases HX.out with⟨_,h1,h2,h3⟩|⟨h1,_⟩|⟨h1,_⟩
    · exact⟨h1,h2,h3⟩
    · cases h1
    · exact absurd rfl h1
   have HV:=Aa hv;have HD:=Aa hd;have XV:=Aa hl';have Ny:=Aa hfit;have cC:=cC (Ep hfit).2.1;obtain⟨va,vn,vc,rfl⟩:∃a m c,rv=.slice a m c:=by
    rcases hrow with⟨_,h1⟩|⟨g,off,cap,cur,h1,_⟩<;>exact⟨_,_,_,h1⟩
   have c6:=hv.more.2.1;have f6:=hv.frozen 6;have yZ:Hid (∀W,Below w2.heap.size w2 W→Ay X W vb b (BH h k) h (A+(s.size+61)/62) E img (.slice va vn vc) true∧CX B W (.slice va vn vc) rs):=Aa (fun W hW=>⟨Af.below HV.out hW,Ab1.out.below hW⟩);have yl:Hid (∀W,Below w2.heap.size w2 W→W.cell? ⟨vb,6,none⟩=some (.slice va vn vc)∧W.frozen? ⟨vb,6,none⟩=false):=Aa (fun W hW=>⟨(yZ.out W hW).1.more.2.1,(yZ.out W hW).1.frozen 6⟩);have HAP:Hid (∀(W W9:World),Below w2.heap.size w2 W→(∀j,j<W.heap.size→some j≠CO (.slice va vn vc)→W9.heap[j]?=W.heap[j]?)→Ay X W9 vb b (BH h k) h (A+(s.size+61)/62) E img (.slice va vn vc) true):=Aa (fun W W9 hW hk=>by
    obtain⟨FQ,Y2⟩:=yZ.out W hW;have hne:some vb≠CO (.slice va vn vc):=fun e=>by
     rcases Y2 with⟨_,h1⟩|⟨g,off,cap,cur,h1,_,_,_,hg,_⟩
     · rw[h1]at e;cases e
     · rw[h1]at e;injection e with e;have e2:vb=g:=e;subst e2;have Acg:W.heap[vb]?=_:=FQ;rw[Acg]at hg;injection hg with hg;injection hg with _ hT _
       revert hT
       decide
    show W9.heap[vb]?=_
    rw[hk vb (Ab FQ) hne];exact FQ)
   have ek:Hid (∀(W W9:World) (v9:Value),Below w2.heap.size w2 W→CX B W9 v9 (rs++[s])→(CO v9=CO (.slice va vn vc)∨∃g,W.heap.size≤g∧CO v9=some g)→Below B W W9→(∀j,j<W.heap.size→some j≠CO (.slice va vn vc)→W9.heap[j]?=W.heap[j]?) →
    Below B w (W9.setCell ⟨vb,6,none⟩ v9)∧Ij (CO (.slice va vn vc)) w (W9.setCell ⟨vb,6,none⟩ v9)∧∃st' rv',FT X B b vb n h k E (A+(s.size+61)/62) img (rs++[s]) r1 (r2++[s]) lm st' rv' (W9.setCell ⟨vb,6,none⟩ v9)∧(CO rv'=CO (.slice va vn vc)∨∃g,w.heap.size≤g∧CO rv'=some g)):=Aa (fun W W9 v9 hW Y2 hbl EY hk9=>by
    have FQ:=HAP.out W W9 hW hk9;have hwW:w.heap.size≤W.heap.size:=Ao HB2.out.size hW.size;have hoW:Ij (CO (.slice va vn vc)) W W9:=fun T hT j cs fr hj hk=>by rw[hk9 j (Ab hk) hj];exact hk
    have hset:Off DT W9 (W9.setCell ⟨vb,6,none⟩ v9):=RZ FQ (by decide);have hw2:w2.heap.size≤W.heap.size:=hW.size;refine⟨(HB2.out.trans ((hW.mono (Ao hB HB2.out.size)).trans EY)).setCell (p:=⟨vb,6,none⟩) HL.out.hvb _,(Ij.Vs (JQ.out.trans (Off.Ar hW _))).trans (hoW.trans (Ij.Vs hset)),st',v9,⟨XV.out,?_,FQ.WH v9,Y2.off hset,HL.out.hvb⟩,?_⟩
    · have hd1:Dev B W b st':=HD.out.below hW;have hd2:Dev B W9 b st':=hd1.off (ex:=[9]) (fun T hT j cs fr hk=>by
       rw[hk9 j (Ab hk) (fun e=>by
        rcases(yZ.out W hW).2 with⟨_,h1⟩|⟨g,off,cap,cur,h1,_,_,_,hg,_⟩
        · rw[h1]at e;cases e
        · rw[h1]at e;injection e with e;have e2:j=g:=e;subst e2;rw[hk]at hg;injection hg with hg;injection hg with _ h3 _;exact hT (by rw[h3];simp))]
       exact hk) (by decide) (by decide) (by decide)
      exact hd2.Mc FQ (by simp)
    · rcases hbl with h1|⟨g,h1,h2⟩
      · exact Or.inl h1
      · exact Or.inr ⟨g,by omega,h2⟩)
   clear hrow hv hd hl' hfit HX;go_wp2_with fail;go_region_law (first|(refine Qy rfl 55 _ _ rfl (fun xs W=>Tryz.call55 xs W) (.string s) (.string s) rfl (fun W9=>Below w2.drew.heap.size w2.drew W9) (cC w2.drew) ?_;intro w8 EK;have X4:Below w2.heap.size w2 w8:=(Ad _ _).drew.trans EK;have q8:=(yl.out _ X4).1;have g8:=(yl.out _ X4).2;have hB9:Below w2.heap.size w2 (w8.alloc (.cells #[.string s] 9)):=X4.alloc X4.size _;have q9:=(yl.out _ hB9).1;have g9:=(yl.out _ hB9).2;have Y2:=(yZ.out _ hB9).2)|(refine Q8 rfl _ _ rfl B (.slice va vn vc) rs rfl Y2 ⟨w8.heap.size,0,none⟩ 1 s rfl (by rw[AB _ _ _ _ _ _ (Ai _ _)];rfl) (by omega) (Ao (Ao hB HB2.out.size) hB9.size) ?_;intro v7 w7 qB AbE Er hk7 Acj;obtain⟨a7,n7,c7,rfl⟩:=Acj;have hv7:=HAP.out _ _ hB9 hk7;have q7:=hv7.more.2.1;have g7:=hv7.frozen 6))
   all_goals
    have HE:=Aa (ek.out _ _ _ hB9 qB AbE Er hk7);clear hB9 qB AbE Er hk7 Y2 X4 q8 g8 q9 g9 hv7 q7 g7;go_wp2;go_ret;exact⟨0,rfl,HE.out.1,HE.out.2.1,Or.inl ⟨rfl,Ny.out,HE.out.2.2⟩⟩
 · have hqz:(q==0)=false:=by simpa using hq
   have HE:Hid ((q=13∧lm=true∧∃st',NN X B b vb n h k E r1 (r2++Qw h A s) ⟨#[]⟩ st' w2)∨(q≠0∧q≠13∧Df h A s=q∧FT X B b vb n h k E A img rs r1 r2 lm st rv w2)):=Aa (by
    rcases HX.out with⟨h0,_⟩|⟨MC,h1,hv,st',hd,hD⟩|⟨h0,MC,h1,hv,hd⟩
    · exact absurd h0 hq
    · refine Or.inl ⟨MC,h1,st',hD,hd,?_,HL.out.hvb⟩;rw[MC]at hv;exact⟨_,_,_,hv⟩
    · refine Or.inr ⟨h0,MC,h1,HL.out.live,hd,?_,HL.out.row.off JQ.out,HL.out.hvb⟩;rw[A8 MC]at hv;exact hv)
   clear HX;go_wp2;go_ret;exact⟨q,rfl,HB2.out,Ij.Vs JQ.out,Or.inr HE.out⟩
variable {X:List Value}
def SyX (X:List Value)(B b vb n h:Nat)(k:Bool)(E A:Nat)(img:ByteArray)(rs r1 r2:List ByteArray)(lm:Bool)(rv:Value)(op:Bool)(q:Int)(W:World):Prop:=
 Ay X W vb b (BH h k) h A E img rv op∧∃st',Dev B W b st'∧((q=0∧Dx n h k E A img rs (r1++r2) [] lm st')∨(q=13∧lm=true∧IX n h k E r1 r2 ⟨#[]⟩ st'))
set_option maxHeartbeats 4000000 in
theorem vB {B b vb n h g:Nat}{k:Bool}{E A:Nat}{img:ByteArray}{rs r1 r2:List ByteArray}{lm:Bool}{st:St}{rv:Value}{W:World}(hL:FT X B b vb n h k E A img rs r1 r2 lm st rv W)(hB:B≤W.heap.size)
 (hg:Hr W g [(53,.pointer (some ⟨b,0,none⟩))]) :
 Calls Tryz.prog 50 #[.pointer (some ⟨vb,0,none⟩),.slice (some ⟨g,0,none⟩) (1:Nat) (1:Nat)] W fun e w'=>∃q:Int,e=.returned (.int .i64 q)∧SyX X B b vb n h k E A img rs r1 r2 lm rv (decide (q≠13)) q w'∧Below B W w'∧Off DT W w':=by
 have hl:=hL.live;have hpd:=hl.Yy;have h9:=hl.n2;have h8:=hl.hn;refine(rM g 1 [(53,.pointer (some ⟨b,0,none⟩))]
  (fun i W'=>(i=0∧W'=W)∨(i=1∧SyX X B b vb n h k E A img rs r1 r2 lm rv true 0 W'∧Below B W W'∧Off DT W W'))
  (fun q W'=>SyX X B b vb n h k E A img rs r1 r2 lm rv true q W'∧Below B W W'∧Off DT W W')
  hL.Md rfl (by decide) (fun k hk=>by rw[Cn.1 hk];exact Gb) (Or.inl ⟨rfl,rfl⟩) ?_ ?_ ?_).mono ?_
 · rintro i W' (⟨_,rfl⟩|⟨_,_,_,ho⟩)
   · exact hg
   · exact ho _ (by decide) _ _ _ hg
 · intro i kk W' hk hI;rcases hI with⟨rfl,rfl⟩|⟨rfl,_⟩
   · injection hk with hk;subst hk;refine(IJ hL.dev hl.good (by omega) hB).mono ?_;rintro e w' ⟨q,rfl,hq,hb,ho⟩;refine⟨q,rfl,?_⟩;have hv:Ay X w' vb b (BH h k) h A E img rv true:=Af.KU hL.Md ho (by simp);rcases hq with⟨rfl,hgo,hd⟩|⟨rfl,hgo,hd⟩
     · exact Or.inr ⟨by decide,⟨hv,st,hd,Or.inr ⟨rfl,EZ hgo hl.lim,by have:=hl.dead [] ⟨#[]⟩;rwa[Cz]at this⟩⟩,hb,ho.va⟩
     · exact Or.inl ⟨rfl,Or.inr ⟨rfl,⟨hv,_,hd,Or.inl ⟨rfl,hl.flush⟩⟩,hb,ho.va⟩⟩
   · cases hk
 · rintro q W' (⟨_,⟨h1,_⟩|⟨_,hx,_⟩⟩|⟨_,hx,_⟩)
   · cases h1
   · exact⟨_,_,_,_,_,_,_,_,hx.1⟩
   · exact⟨_,_,_,_,_,_,_,_,hx.1⟩
 · rintro e w' ⟨q,w1,rfl,hq,rfl⟩;refine⟨q,rfl,?_⟩;have key:∀q,SyX X B b vb n h k E A img rs r1 r2 lm rv true q w1∧Below B W w1∧Off DT W w1→SyX X B b vb n h k E A img rs r1 r2 lm rv (decide (q≠13)) q (w1.setCell ⟨vb,7,none⟩ (.bool (decide (q≠13))))∧Below B W (w1.setCell ⟨vb,7,none⟩ (.bool (decide (q≠13))))∧Off DT W (w1.setCell ⟨vb,7,none⟩ (.bool (decide (q≠13)))):=fun q h=>by
    obtain⟨⟨hv,st',hd,hx⟩,hb,ho⟩:=h;exact⟨⟨hv.Il _,st',hd.Mc hv (by simp),hx⟩,hb.setCell (p:=⟨vb,7,none⟩) hL.hvb _,ho.setCell hv (by decide) _⟩
   rcases hq with⟨rfl,⟨h1,_⟩|⟨_,hx⟩⟩|⟨_,hx⟩
   · cases h1
   · exact key 0 hx
   · exact key q hx
def tK (X:List Value)(B b vb n h:Nat)(k:Bool)(E A:Nat)(img:ByteArray)(rs r1 r2:List ByteArray)(lm:Bool)(rv:Value)(w:World)(e:Ending)(w':World):Prop:=
 ∃q:Int,e=.returned (.int .i64 q)∧Below B w w'∧Off DT w w' ∧
  ((q=0∧∃st',FT X B b vb n h k E A img rs (r1++r2) [] lm st' rv w')∨(q=13∧lm=true∧∃st',NN X B b vb n h k E r1 r2 ⟨#[]⟩ st' w'))
set_option maxHeartbeats 4000000 in
theorem zM {B b vb n h:Nat}{k:Bool}{E A:Nat}{img:ByteArray}{rs r1 r2:List ByteArray}{lm:Bool}{st:St}{rv:Value}{w:World}(hL:FT X B b vb n h k E A img rs r1 r2 lm st rv w)(hB:B≤w.heap.size) :
 Calls Tryz.prog 33 #[.pointer (some ⟨vb,0,none⟩)] w (tK X B b vb n h k E A img rs r1 r2 lm rv w):=by
 unfold tK;have HL:=Aa hL;obtain⟨W1,hW1⟩:∃W1,w.alloc (.cells #[.func (.func 53) #[.pointer (some ⟨b,0,none⟩)] #[]] 169)=W1:=⟨_,rfl⟩;have HB1:Hid (Below w.heap.size w W1):=Aa (by rw[←hW1];exact(Ad _ _).alloc (Ae _) _);have hst:Hr W1 w.heap.size [(53,.pointer (some ⟨b,0,none⟩))]:=by rw[←hW1];exact Ai _ _
 have cD:=vB (hL.below HB1.out) (Ao hB HB1.out.size) hst;have c0:=(Af.cells hL.Md).1;clear hL hst;go_enter Tryz.func33,Tryz.ntmps33;go_wp2_with fail
 try rw[hW1]
 clear hW1;refine cD.mono ?_;rintro e w2 ⟨q,rfl,hx,hb2,ho2⟩;have HB2:Hid (Below B w w2):=Aa ((HB1.out.mono hB).trans hb2);have JQ:Hid (Off DT w w2):=Aa ((Off.Ar HB1.out _).trans ho2);have HE:Hid ((q=0∧∃st',FT X B b vb n h k E A img rs (r1++r2) [] lm st' rv w2)∨(q=13∧lm=true∧∃st',NN X B b vb n h k E r1 r2 ⟨#[]⟩ st' w2)):=Aa (by
  obtain⟨hv,st',hd,⟨rfl,h1⟩|⟨rfl,h1,h2⟩⟩:=hx
  · exact Or.inl ⟨rfl,st',h1,hd,hv,HL.out.row.off JQ.out,HL.out.hvb⟩
  · exact Or.inr ⟨rfl,h1,st',h2,hd,⟨_,_,_,hv⟩,HL.out.hvb⟩)
 clear hx hb2 ho2 cD c0;go_wp2;go_ret;exact⟨q,rfl,HB2.out,JQ.out,HE.out⟩
set_option maxHeartbeats 4000000 in
theorem iU {vb b F S A E:Nat}{img:ByteArray}{rv:Value}{w:World}(hv:Ay X w vb b F S A E img rv false) :
 Calls Tryz.prog 33 #[.pointer (some ⟨vb,0,none⟩)] w fun e w'=>e=.returned (.int .i64 13)∧Below w.heap.size w w':=by
 obtain⟨W1,hW1⟩:∃W1,w.alloc (.cells #[.func (.func 53) #[.pointer (some ⟨b,0,none⟩)] #[]] 169)=W1:=⟨_,rfl⟩;have HB1:Hid (Below w.heap.size w W1):=Aa (by rw[←hW1];exact(Ad _ _).alloc (Ae _) _);have cD:=xM (w:=W1) w.heap.size 1 (Af.below hv HB1.out);have c0:=(Af.cells hv).1;clear hv;go_enter Tryz.func33,Tryz.ntmps33;go_wp2_with fail
 try rw[hW1]
 clear hW1;refine cD.mono ?_;rintro e w2 ⟨rfl,rfl⟩;clear cD c0;go_wp2;go_ret;exact⟨rfl,HB1.out⟩
end Go.Proofs.YtdmkhmeaphaapaaGreat.V.St
