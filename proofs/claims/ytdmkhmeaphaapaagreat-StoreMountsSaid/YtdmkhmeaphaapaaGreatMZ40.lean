/- Kit. -/
import Derived.Test.YtdmkhmeaphaapaaGreatMZ33
import Derived.Test.YtdmkhmeaphaapaaGreatMZ39
import Derived.Deep.RegionLaw
import Derived.Test.YtdmkhmeaphaapaaGreatMZ0
set_option maxRecDepth 100000
set_option linter.unusedVariables false
set_option linter.unusedSimpArgs false
namespace Go.Proofs.YtdmkhmeaphaapaaGreat.V.St
open Go.RowKit Go.Sort
variable {X:List Value}
def Qn (h A:Nat)(s:ByteArray):List ByteArray:=if Cu h A s=0 then [s] else []
def Kg (X:List Value)(B b vb n h:Nat)(k:Bool)(E A:Nat)(img:ByteArray)(rs r1 r2:List ByteArray)(lm:Bool)(st:St)(rv:Value)(s:ByteArray)(op:Bool)(q:Int)(W:World):Prop:=
 (q=0∧Cu h A s=0∧Ap X W vb b (BF h k) h (A+(s.size+61)/62) E img rv op∧∃st',Dev B W b st'∧Dj n h k E (A+(s.size+61)/62) img (rs++[s]) r1 (r2++[s]) lm st') ∨
 (q=13∧lm=true∧Ap X W vb b (BF h k) h A E img rv op∧∃st',Dev B W b st'∧He n h k E r1 (r2++Qn h A s) ⟨#[]⟩ st') ∨
 (q≠0∧q≠13∧Cu h A s=q∧Ap X W vb b (BF h k) h A E img rv op∧Dev B W b st)
theorem Kg.RA {B b vb n h:Nat}{k:Bool}{E A:Nat}{img:ByteArray}{rs r1 r2:List ByteArray}{lm:Bool}{st:St}{rv:Value}{s:ByteArray}{op:Bool}{q:Int}{W:World}(hx:Kg X B b vb n h k E A img rs r1 r2 lm st rv s op q W):∃A',Ap X W vb b (BF h k) h A' E img rv op:=by
 rcases hx with⟨_,_,h,_⟩|⟨_,_,h,_⟩|⟨_,_,_,h,_⟩<;>exact⟨_,h⟩
theorem Kg.Ff {B b vb n h:Nat}{k:Bool}{E A:Nat}{img:ByteArray}{rs r1 r2:List ByteArray}{lm:Bool}{st:St}{rv:Value}{s:ByteArray}{op:Bool}{q:Int}{W:World}(hx:Kg X B b vb n h k E A img rs r1 r2 lm st rv s op q W)(x:Bool):Kg X B b vb n h k E A img rs r1 r2 lm st rv s x q (W.setCell ⟨vb,7,none⟩ (.bool x)):=by
 rcases hx with⟨h0,h1,h2,st',h3,h4⟩|⟨h0,h1,h2,st',h3,h4⟩|⟨h0,h00,h1,h2,h3⟩
 · exact Or.inl ⟨h0,h1,h2.Ff x,st',h3.JH h2 (by simp),h4⟩
 · exact Or.inr (Or.inl ⟨h0,h1,h2.Ff x,st',h3.JH h2 (by simp),h4⟩)
 · exact Or.inr (Or.inr ⟨h0,h00,h1,h2.Ff x,h3.JH h2 (by simp)⟩)
set_option maxHeartbeats 4000000 in
theorem Qe {B b vb n h g:Nat}{k:Bool}{E A:Nat}{img:ByteArray}{rs r1 r2:List ByteArray}{lm:Bool}{st:St}{rv:Value}{W:World}(s:ByteArray)(hL:DR X B b vb n h k E A img rs r1 r2 lm st rv W)(hs:s.size≤9223372036854775807)(hB:B≤W.heap.size)
 (hg:Gc W g [(54,.agg #[.pointer (some ⟨vb,0,none⟩),.string s])]) :
 Calls Tryz.prog 50 #[.pointer (some ⟨vb,0,none⟩),.slice (some ⟨g,0,none⟩) (1:Nat) (1:Nat)] W fun e w'=>∃q:Int,e=.returned (.int .i64 q)∧Kg X B b vb n h k E A img rs r1 r2 lm st rv s (decide (q≠13)) q w'∧Below B W w'∧Off CY W w':=by
 have hl:=hL.live;have hpd:=hl.Wl;have h9:=hl.n2;have h8:=hl.hn;have hle:=Fy hl.hn k;have hlen:=hl.len;have hroom:=hl.room;have h2:=hl.h2;have hend:=hl.end_;refine(jl g 1 [(54,.agg #[.pointer (some ⟨vb,0,none⟩),.string s])]
  (fun i W'=>(i=0∧W'=W)∨(i=1∧Kg X B b vb n h k E A img rs r1 r2 lm st rv s true 0 W'∧Below B W W'∧Off CY W W'))
  (fun q W'=>Kg X B b vb n h k E A img rs r1 r2 lm st rv s true q W'∧Below B W W'∧Off CY W W')
  hL.KW rfl (by decide) (fun k hk=>by rw[CU.1 hk];exact Lh) (Or.inl ⟨rfl,rfl⟩) ?_ ?_ ?_).mono ?_
 · rintro i W' (⟨_,rfl⟩|⟨_,_,_,ho⟩)
   · exact hg
   · exact ho _ (by decide) _ _ _ hg
 · intro i kk W' hk hI;rcases hI with⟨rfl,rfl⟩|⟨rfl,_⟩
   · injection hk with hk;subst hk;refine(O5 s (Ps:=fun x q w1=>WrP B b st (BF h k) A h s x q w1∧Below B W' w1∧Off AZ W' w1) hL.KW (by decide) (fun W2 hW2=>?_)).mono ?_
     · refine(Oh (hL.dev.below hW2) hl.good (by omega) (by omega) (by omega) hroom (by omega) (by omega) (Al hB hW2.size)).mono ?_;rintro e w' ⟨x,q,he,⟨h1,h3,h4⟩,h5⟩;exact⟨x,q,he,⟨h1,(hW2.mono hB).trans h3,(Off.Ar hW2 _).trans h4⟩,h5⟩
     · rintro e w' ⟨x,q,w1,rfl,⟨hw,hb,ho⟩,hv,hq⟩;refine⟨q,rfl,?_⟩;rcases hq with⟨rfl,rfl⟩|⟨hq,rfl⟩
       · refine Or.inl ⟨rfl,Or.inr ⟨rfl,?_,hb.setCell (p:=⟨vb,3,none⟩) hL.hvb _,ho.va.setCell hv (by decide) _⟩⟩;rcases hw with⟨h1,_⟩|⟨h1,_⟩|⟨hfit,j,hj,hc,hr,hd⟩
         · cases h1
         · exact absurd rfl h1
         · rcases hc with⟨_,rfl,rfl⟩|⟨h1,_⟩
           · obtain⟨f1,f2,f3⟩:=DJ hfit;have htl:(Bu s).take ((s.size+61)/62)=Bu s:=CO (by rw[Cf];exact Ae _);rw[htl]at hr hd;exact Or.inl ⟨rfl,hfit,hv.R9 _,_,hd.JH hv (by simp),hl.append f1 f2 f3 hr⟩
           · cases h1
       · refine Or.inr ⟨hq,?_,hb,ho.va⟩;rcases hw with⟨h1,hgo,hd⟩|⟨h1,Ka,hgo,hfit,hd⟩|⟨hfit,j,hj,hc,hr,hd⟩
         · exact Or.inr (Or.inl ⟨h1,En hgo hl.lim,hv,_,hd,hl.dead _ _⟩)
         · exact Or.inr (Or.inr ⟨h1,Ka,hfit,hv,hd⟩)
         · rcases hc with⟨h1,_⟩|⟨h1,hgo⟩
           · exact absurd h1 hq
           · obtain⟨f1,f2,f3⟩:=DJ hfit;have hpl:=hl.QM f1 f2 f3 hj hr ⟨#[]⟩;have hlim:(Bh st (BF h k+A) ((Bu s).take j)).lim=st.lim:=by
              have hp:=Jo (st:=st) (i:=BF h k+A) (fs:=(Bu s).take j) hl.good (by rw[BV,Cf];omega) (fun f hf=>Eb s f (List.mem_of_mem_take hf)) hr _ (Ae _);rw[List.take_length]at hp;exact hp.2.1
             refine Or.inr (Or.inl ⟨h1,En hgo (fun e=>hlim.trans (hl.lim e)),hv,_,hd,?_⟩);unfold Qn;rw[if_pos hfit];exact hpl
   · cases hk
 · rintro q W' (⟨_,⟨h1,_⟩|⟨_,hx,_⟩⟩|⟨_,hx,_⟩)
   · cases h1
   · obtain⟨A',hv⟩:=hx.RA;exact⟨_,_,_,_,_,_,_,_,hv⟩
   · obtain⟨A',hv⟩:=hx.RA;exact⟨_,_,_,_,_,_,_,_,hv⟩
 · rintro e w' ⟨q,w1,rfl,hq,rfl⟩;refine⟨q,rfl,?_⟩;have key:∀q,Kg X B b vb n h k E A img rs r1 r2 lm st rv s true q w1∧Below B W w1∧Off CY W w1→Kg X B b vb n h k E A img rs r1 r2 lm st rv s (decide (q≠13)) q (w1.setCell ⟨vb,7,none⟩ (.bool (decide (q≠13))))∧Below B W (w1.setCell ⟨vb,7,none⟩ (.bool (decide (q≠13))))∧Off CY W (w1.setCell ⟨vb,7,none⟩ (.bool (decide (q≠13)))):=fun q h=>by
    obtain⟨A',hv⟩:=h.1.RA;exact⟨h.1.Ff _,h.2.1.setCell (p:=⟨vb,7,none⟩) hL.hvb _,h.2.2.setCell hv (by decide) _⟩
   rcases hq with⟨rfl,⟨h1,_⟩|⟨_,hx⟩⟩|⟨_,hx⟩
   · cases h1
   · exact key 0 hx
   · exact key q hx
def Pz (X:List Value)(B b vb n h:Nat)(k:Bool)(E A:Nat)(img:ByteArray)(rs r1 r2:List ByteArray)(lm:Bool)(st:St)(rv:Value)(s:ByteArray)(w:World)(e:Ending)(w':World):Prop:=
 ∃q:Int,e=.returned (.int .i64 q)∧Below B w w'∧EY (BC rv) w w' ∧
  ((q=0∧Cu h A s=0∧∃st' rv',DR X B b vb n h k E (A+(s.size+61)/62) img (rs++[s]) r1 (r2++[s]) lm st' rv' w'∧(BC rv'=BC rv∨∃g,w.heap.size≤g∧BC rv'=some g)) ∨
   (q=13∧lm=true∧∃st',KS X B b vb n h k E r1 (r2++Qn h A s) ⟨#[]⟩ st' w') ∨
   (q≠0∧q≠13∧Cu h A s=q∧DR X B b vb n h k E A img rs r1 r2 lm st rv w'))
set_option maxHeartbeats 4000000 in
theorem Pj {B b vb n h:Nat}{k:Bool}{E A:Nat}{img:ByteArray}{rs r1 r2:List ByteArray}{lm:Bool}{st:St}{rv:Value}{w:World}(s:ByteArray)(hL:DR X B b vb n h k E A img rs r1 r2 lm st rv w)(hs:s.size≤9223372036854775807)(hn:rs.length≤1000)(hB:B≤w.heap.size) :
 Calls Tryz.prog 24 #[.pointer (some ⟨vb,0,none⟩),.string s] w (Pz X B b vb n h k E A img rs r1 r2 lm st rv s w):=by
 unfold Pz;have HL:=Aa hL;obtain⟨W1,hW1⟩:∃W1,(w.alloc (.cells #[.pointer (some ⟨vb,0,none⟩),.string s] 119)).alloc (.cells #[.func (.func 54) #[.agg #[.pointer (some ⟨vb,0,none⟩),.string s]] #[]] 169)=W1:=⟨_,rfl⟩;have HB1:Hid (Below w.heap.size w W1):=Aa (by rw[←hW1];exact((Ad _ _).alloc (Ae _) _).alloc (by simp) _);have hst:Gc W1 (w.heap.size+1) [(54,.agg #[.pointer (some ⟨vb,0,none⟩),.string s])]:=by rw[←hW1];exact heap_alloc2_new _ _ _
 have cD:=Qe s (hL.below HB1.out) hs (Al hB HB1.out.size) hst;have cC:=fun(hq:s.size≤60000) W=>LY s W (by omega)
 clear hL hst;go_enter Tryz.func24,Tryz.ntmps24;go_wp2_with fail
 try rw[hW1]
 clear hW1;refine cD.mono ?_;rintro e w2 ⟨q,rfl,hx,hb2,ho2⟩;have HX:=Aa hx;have HB2:Hid (Below B w w2):=Aa ((HB1.out.mono hB).trans hb2);have IL:Hid (Off CY w w2):=Aa ((Off.Ar HB1.out _).trans ho2);clear hx hb2 ho2 cD;by_cases hq:q=0
 · subst hq;have hrow:Cw B w2 rv rs:=HL.out.row.off IL.out;have vW:=Aa hrow;obtain⟨hfit,hv,st',hd,hl'⟩:Cu h A s=0∧Ap X w2 vb b (BF h k) h (A+(s.size+61)/62) E img rv true∧∃st',Dev B w2 b st'∧Dj n h k E (A+(s.size+61)/62) img (rs++[s]) r1 (r2++[s]) lm st':=by
    rcases HX.out with⟨_,h1,h2,h3⟩|⟨h1,_⟩|⟨h1,_⟩
    · exact⟨h1,h2,h3⟩
    · cases h1
    · exact absurd rfl h1
   have HV:=Aa hv;have HD:=Aa hd;have Ux:=Aa hl';have LJ:=Aa hfit;have cC:=cC (DJ hfit).2.1;obtain⟨va,vn,vc,rfl⟩:∃a m c,rv=.slice a m c:=by
    rcases hrow with⟨_,h1⟩|⟨g,off,cap,cur,h1,_⟩<;>exact⟨_,_,_,h1⟩
   have c6:=hv.more.2.1;have f6:=hv.frozen 6;have fe:Hid (∀W,Below w2.heap.size w2 W→Ap X W vb b (BF h k) h (A+(s.size+61)/62) E img (.slice va vn vc) true∧Cw B W (.slice va vn vc) rs):=Aa (fun W hW=>⟨Af.below HV.out hW,vW.out.below hW⟩);have rF:Hid (∀W,Below w2.heap.size w2 W→W.cell? ⟨vb,6,none⟩=some (.slice va vn vc)∧W.frozen? ⟨vb,6,none⟩=false):=Aa (fun W hW=>⟨(fe.out W hW).1.more.2.1,(fe.out W hW).1.frozen 6⟩);have HAP:Hid (∀(W W9:World),Below w2.heap.size w2 W→(∀j,j<W.heap.size→some j≠BC (.slice va vn vc)→W9.heap[j]?=W.heap[j]?)→Ap X W9 vb b (BF h k) h (A+(s.size+61)/62) E img (.slice va vn vc) true):=Aa (fun W W9 hW hk=>by
    obtain⟨FI,Rl⟩:=fe.out W hW;have hne:some vb≠BC (.slice va vn vc):=fun e=>by
     rcases Rl with⟨_,h1⟩|⟨g,off,cap,cur,h1,_,_,_,hg,_⟩
     · rw[h1]at e;cases e
     · rw[h1]at e;injection e with e;have e2:vb=g:=e;subst e2;have yC:W.heap[vb]?=_:=FI;rw[yC]at hg;injection hg with hg;injection hg with _ hT _
       revert hT
       decide
    show W9.heap[vb]?=_
    rw[hk vb (Ab FI) hne];exact FI)
   have Xr:Hid (∀(W W9:World) (v9:Value),Below w2.heap.size w2 W→Cw B W9 v9 (rs++[s])→(BC v9=BC (.slice va vn vc)∨∃g,W.heap.size≤g∧BC v9=some g)→Below B W W9→(∀j,j<W.heap.size→some j≠BC (.slice va vn vc)→W9.heap[j]?=W.heap[j]?) →
    Below B w (W9.setCell ⟨vb,6,none⟩ v9)∧EY (BC (.slice va vn vc)) w (W9.setCell ⟨vb,6,none⟩ v9)∧∃st' rv',DR X B b vb n h k E (A+(s.size+61)/62) img (rs++[s]) r1 (r2++[s]) lm st' rv' (W9.setCell ⟨vb,6,none⟩ v9)∧(BC rv'=BC (.slice va vn vc)∨∃g,w.heap.size≤g∧BC rv'=some g)):=Aa (fun W W9 v9 hW Rl hbl Gh yN=>by
    have FI:=HAP.out W W9 hW yN;have hwW:w.heap.size≤W.heap.size:=Al HB2.out.size hW.size;have hoW:EY (BC (.slice va vn vc)) W W9:=fun T hT j cs fr hj hk=>by rw[yN j (Ab hk) hj];exact hk
    have hset:Off CY W9 (W9.setCell ⟨vb,6,none⟩ v9):=PG FI (by decide);have hw2:w2.heap.size≤W.heap.size:=hW.size;refine⟨(HB2.out.trans ((hW.mono (Al hB HB2.out.size)).trans Gh)).setCell (p:=⟨vb,6,none⟩) HL.out.hvb _,(EY.OM (IL.out.trans (Off.Ar hW _))).trans (hoW.trans (EY.OM hset)),st',v9,⟨Ux.out,?_,FI.Q8 v9,Rl.off hset,HL.out.hvb⟩,?_⟩
    · have hd1:Dev B W b st':=HD.out.below hW;have hd2:Dev B W9 b st':=hd1.off (ex:=[9]) (fun T hT j cs fr hk=>by
       rw[yN j (Ab hk) (fun e=>by
        rcases(fe.out W hW).2 with⟨_,h1⟩|⟨g,off,cap,cur,h1,_,_,_,hg,_⟩
        · rw[h1]at e;cases e
        · rw[h1]at e;injection e with e;have e2:j=g:=e;subst e2;rw[hk]at hg;injection hg with hg;injection hg with _ h3 _;exact hT (by rw[h3];simp))]
       exact hk) (by decide) (by decide) (by decide)
      exact hd2.JH FI (by simp)
    · rcases hbl with h1|⟨g,h1,h2⟩
      · exact Or.inl h1
      · exact Or.inr ⟨g,by omega,h2⟩)
   clear hrow hv hd hl' hfit HX;go_wp2_with fail;go_region_law (first|(refine LW rfl 55 _ _ rfl (fun xs W=>Tryz.call55 xs W) (.string s) (.string s) rfl (fun W9=>Below w2.drew.heap.size w2.drew W9) (cC w2.drew) ?_;intro w8 Hr;have Rm:Below w2.heap.size w2 w8:=(Ad _ _).drew.trans Hr;have q8:=(rF.out _ Rm).1;have g8:=(rF.out _ Rm).2;have az:Below w2.heap.size w2 (w8.alloc (.cells #[.string s] 9)):=Rm.alloc Rm.size _;have q9:=(rF.out _ az).1;have g9:=(rF.out _ az).2;have Rl:=(fe.out _ az).2)|(refine Lv rfl _ _ rfl B (.slice va vn vc) rs rfl Rl ⟨w8.heap.size,0,none⟩ 1 s rfl (by rw[AB _ _ _ _ _ _ (Ai _ _)];rfl) (by omega) (Al (Al hB HB2.out.size) az.size) ?_;intro v7 w7 wM oD IG yO yE;obtain⟨a7,n7,c7,rfl⟩:=yE;have hv7:=HAP.out _ _ az yO;have q7:=hv7.more.2.1;have g7:=hv7.frozen 6))
   all_goals
    have HE:=Aa (Xr.out _ _ _ az wM oD IG yO);clear az wM oD IG yO Rl Rm q8 g8 q9 g9 hv7 q7 g7;go_wp2;go_ret;exact⟨0,rfl,HE.out.1,HE.out.2.1,Or.inl ⟨rfl,LJ.out,HE.out.2.2⟩⟩
 · have hqz:(q==0)=false:=by simpa using hq
   have HE:Hid ((q=13∧lm=true∧∃st',KS X B b vb n h k E r1 (r2++Qn h A s) ⟨#[]⟩ st' w2)∨(q≠0∧q≠13∧Cu h A s=q∧DR X B b vb n h k E A img rs r1 r2 lm st rv w2)):=Aa (by
    rcases HX.out with⟨h0,_⟩|⟨Ka,h1,hv,st',hd,hD⟩|⟨h0,Ka,h1,hv,hd⟩
    · exact absurd h0 hq
    · refine Or.inl ⟨Ka,h1,st',hD,hd,?_,HL.out.hvb⟩;rw[Ka]at hv;exact⟨_,_,_,hv⟩
    · refine Or.inr ⟨h0,Ka,h1,HL.out.live,hd,?_,HL.out.row.off IL.out,HL.out.hvb⟩;rw[AX Ka]at hv;exact hv)
   clear HX;go_wp2;go_ret;exact⟨q,rfl,HB2.out,EY.OM IL.out,Or.inr HE.out⟩
variable {X:List Value}
def SyX (X:List Value)(B b vb n h:Nat)(k:Bool)(E A:Nat)(img:ByteArray)(rs r1 r2:List ByteArray)(lm:Bool)(rv:Value)(op:Bool)(q:Int)(W:World):Prop:=
 Ap X W vb b (BF h k) h A E img rv op∧∃st',Dev B W b st'∧((q=0∧Dj n h k E A img rs (r1++r2) [] lm st')∨(q=13∧lm=true∧He n h k E r1 r2 ⟨#[]⟩ st'))
set_option maxHeartbeats 4000000 in
theorem sU {B b vb n h g:Nat}{k:Bool}{E A:Nat}{img:ByteArray}{rs r1 r2:List ByteArray}{lm:Bool}{st:St}{rv:Value}{W:World}(hL:DR X B b vb n h k E A img rs r1 r2 lm st rv W)(hB:B≤W.heap.size)
 (hg:Gc W g [(53,.pointer (some ⟨b,0,none⟩))]) :
 Calls Tryz.prog 50 #[.pointer (some ⟨vb,0,none⟩),.slice (some ⟨g,0,none⟩) (1:Nat) (1:Nat)] W fun e w'=>∃q:Int,e=.returned (.int .i64 q)∧SyX X B b vb n h k E A img rs r1 r2 lm rv (decide (q≠13)) q w'∧Below B W w'∧Off CY W w':=by
 have hl:=hL.live;have hpd:=hl.Wl;have h9:=hl.n2;have h8:=hl.hn;refine(jl g 1 [(53,.pointer (some ⟨b,0,none⟩))]
  (fun i W'=>(i=0∧W'=W)∨(i=1∧SyX X B b vb n h k E A img rs r1 r2 lm rv true 0 W'∧Below B W W'∧Off CY W W'))
  (fun q W'=>SyX X B b vb n h k E A img rs r1 r2 lm rv true q W'∧Below B W W'∧Off CY W W')
  hL.KW rfl (by decide) (fun k hk=>by rw[CU.1 hk];exact F4) (Or.inl ⟨rfl,rfl⟩) ?_ ?_ ?_).mono ?_
 · rintro i W' (⟨_,rfl⟩|⟨_,_,_,ho⟩)
   · exact hg
   · exact ho _ (by decide) _ _ _ hg
 · intro i kk W' hk hI;rcases hI with⟨rfl,rfl⟩|⟨rfl,_⟩
   · injection hk with hk;subst hk;refine(Ir hL.dev hl.good (by omega) hB).mono ?_;rintro e w' ⟨q,rfl,hq,hb,ho⟩;refine⟨q,rfl,?_⟩;have hv:Ap X w' vb b (BF h k) h A E img rv true:=Af.KJ hL.KW ho (by simp);rcases hq with⟨rfl,hgo,hd⟩|⟨rfl,hgo,hd⟩
     · exact Or.inr ⟨by decide,⟨hv,st,hd,Or.inr ⟨rfl,En hgo hl.lim,by have:=hl.dead [] ⟨#[]⟩;rwa[Ct]at this⟩⟩,hb,ho.va⟩
     · exact Or.inl ⟨rfl,Or.inr ⟨rfl,⟨hv,_,hd,Or.inl ⟨rfl,hl.flush⟩⟩,hb,ho.va⟩⟩
   · cases hk
 · rintro q W' (⟨_,⟨h1,_⟩|⟨_,hx,_⟩⟩|⟨_,hx,_⟩)
   · cases h1
   · exact⟨_,_,_,_,_,_,_,_,hx.1⟩
   · exact⟨_,_,_,_,_,_,_,_,hx.1⟩
 · rintro e w' ⟨q,w1,rfl,hq,rfl⟩;refine⟨q,rfl,?_⟩;have key:∀q,SyX X B b vb n h k E A img rs r1 r2 lm rv true q w1∧Below B W w1∧Off CY W w1→SyX X B b vb n h k E A img rs r1 r2 lm rv (decide (q≠13)) q (w1.setCell ⟨vb,7,none⟩ (.bool (decide (q≠13))))∧Below B W (w1.setCell ⟨vb,7,none⟩ (.bool (decide (q≠13))))∧Off CY W (w1.setCell ⟨vb,7,none⟩ (.bool (decide (q≠13)))):=fun q h=>by
    obtain⟨⟨hv,st',hd,hx⟩,hb,ho⟩:=h;exact⟨⟨hv.Ff _,st',hd.JH hv (by simp),hx⟩,hb.setCell (p:=⟨vb,7,none⟩) hL.hvb _,ho.setCell hv (by decide) _⟩
   rcases hq with⟨rfl,⟨h1,_⟩|⟨_,hx⟩⟩|⟨_,hx⟩
   · cases h1
   · exact key 0 hx
   · exact key q hx
def qF (X:List Value)(B b vb n h:Nat)(k:Bool)(E A:Nat)(img:ByteArray)(rs r1 r2:List ByteArray)(lm:Bool)(rv:Value)(w:World)(e:Ending)(w':World):Prop:=
 ∃q:Int,e=.returned (.int .i64 q)∧Below B w w'∧Off CY w w' ∧
  ((q=0∧∃st',DR X B b vb n h k E A img rs (r1++r2) [] lm st' rv w')∨(q=13∧lm=true∧∃st',KS X B b vb n h k E r1 r2 ⟨#[]⟩ st' w'))
set_option maxHeartbeats 4000000 in
theorem xQ {B b vb n h:Nat}{k:Bool}{E A:Nat}{img:ByteArray}{rs r1 r2:List ByteArray}{lm:Bool}{st:St}{rv:Value}{w:World}(hL:DR X B b vb n h k E A img rs r1 r2 lm st rv w)(hB:B≤w.heap.size) :
 Calls Tryz.prog 33 #[.pointer (some ⟨vb,0,none⟩)] w (qF X B b vb n h k E A img rs r1 r2 lm rv w):=by
 unfold qF;have HL:=Aa hL;obtain⟨W1,hW1⟩:∃W1,w.alloc (.cells #[.func (.func 53) #[.pointer (some ⟨b,0,none⟩)] #[]] 169)=W1:=⟨_,rfl⟩;have HB1:Hid (Below w.heap.size w W1):=Aa (by rw[←hW1];exact(Ad _ _).alloc (Ae _) _);have hst:Gc W1 w.heap.size [(53,.pointer (some ⟨b,0,none⟩))]:=by rw[←hW1];exact Ai _ _
 have cD:=sU (hL.below HB1.out) (Al hB HB1.out.size) hst;have c0:=(Af.cells hL.KW).1;clear hL hst;go_enter Tryz.func33,Tryz.ntmps33;go_wp2_with fail
 try rw[hW1]
 clear hW1;refine cD.mono ?_;rintro e w2 ⟨q,rfl,hx,hb2,ho2⟩;have HB2:Hid (Below B w w2):=Aa ((HB1.out.mono hB).trans hb2);have IL:Hid (Off CY w w2):=Aa ((Off.Ar HB1.out _).trans ho2);have HE:Hid ((q=0∧∃st',DR X B b vb n h k E A img rs (r1++r2) [] lm st' rv w2)∨(q=13∧lm=true∧∃st',KS X B b vb n h k E r1 r2 ⟨#[]⟩ st' w2)):=Aa (by
  obtain⟨hv,st',hd,⟨rfl,h1⟩|⟨rfl,h1,h2⟩⟩:=hx
  · exact Or.inl ⟨rfl,st',h1,hd,hv,HL.out.row.off IL.out,HL.out.hvb⟩
  · exact Or.inr ⟨rfl,h1,st',h2,hd,⟨_,_,_,hv⟩,HL.out.hvb⟩)
 clear hx hb2 ho2 cD c0;go_wp2;go_ret;exact⟨q,rfl,HB2.out,IL.out,HE.out⟩
set_option maxHeartbeats 4000000 in
theorem fO {vb b F S A E:Nat}{img:ByteArray}{rv:Value}{w:World}(hv:Ap X w vb b F S A E img rv false) :
 Calls Tryz.prog 33 #[.pointer (some ⟨vb,0,none⟩)] w fun e w'=>e=.returned (.int .i64 13)∧Below w.heap.size w w':=by
 obtain⟨W1,hW1⟩:∃W1,w.alloc (.cells #[.func (.func 53) #[.pointer (some ⟨b,0,none⟩)] #[]] 169)=W1:=⟨_,rfl⟩;have HB1:Hid (Below w.heap.size w W1):=Aa (by rw[←hW1];exact(Ad _ _).alloc (Ae _) _);have cD:=vJ (w:=W1) w.heap.size 1 (Af.below hv HB1.out);have c0:=(Af.cells hv).1;clear hv;go_enter Tryz.func33,Tryz.ntmps33;go_wp2_with fail
 try rw[hW1]
 clear hW1;refine cD.mono ?_;rintro e w2 ⟨rfl,rfl⟩;clear cD c0;go_wp2;go_ret;exact⟨rfl,HB1.out⟩
end Go.Proofs.YtdmkhmeaphaapaaGreat.V.St
