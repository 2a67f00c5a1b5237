/- Kit. -/
import Derived.Test.YtdmkhmeaphaapaaGreatCZ33
import Derived.Test.YtdmkhmeaphaapaaGreatCZ38
import Derived.Deep.RegionLaw
import Derived.Test.YtdmkhmeaphaapaaGreatCZ0
import Derived.Test.YtdmkhmeaphaapaaGreatCZ35
import Derived.Test.YtdmkhmeaphaapaaGreatCZ39
import Derived.Test.YtdmkhmeaphaapaaGreatCZ25
set_option maxRecDepth 100000
set_option linter.unusedVariables false
set_option linter.unusedSimpArgs false
namespace Go.Proofs.YtdmkhmeaphaapaaGreat.V.St
open Go.RowKit Go.Sort
variable {X:List Value}
def RnX (X:List Value)(B b vb nb n h:Nat)(k:Bool)(E A:Nat)(img:ByteArray)(rs r1 r2:List ByteArray)(lm:Bool)(st0:St)(rv:Value)(s:ByteArray)(op:Bool)(q:Int)(W:World):Prop:=
 Ay X W vb b (BH h k) h A E img rv op∧((q=0∧Df h 1 s=0∧Af W nb 82 b (BH h (!k)) h (1+(s.size+61)/62) (E+1) []∧∃st',Dev B W b st'∧Dx n h (!k) (E+1) (1+(s.size+61)/62) s [] [s] [] lm st'∧st'.pend=[]) ∨
  (q=13∧lm=true∧∃st',Dev B W b st'∧IX n h k E r1 r2 s st')∨(q≠0∧q≠13∧Df h 1 s=q∧Dev B W b st0))
set_option maxHeartbeats 8000000 in
theorem ow {B b vb nb n h g:Nat}{k:Bool}{E A:Nat}{img:ByteArray}{rs r1 r2:List ByteArray}{lm:Bool}{st:St}{rv:Value}{W:World}(s:ByteArray)(hL:FT X B b vb n h k E A img rs r1 r2 lm st rv W)(hs:s.size≤1000000)(hE:E+1<9223372036854775808)(hB:B≤W.heap.size)
 (hnb:Af W nb 82 b (BH h (!k)) h 1 (E+1) []) (hnB:B≤nb) (hg:Hr W g (ji b vb nb s)) :
 Calls Tryz.prog 50 #[.pointer (some ⟨vb,0,none⟩),.slice (some ⟨g,0,none⟩) (10:Nat) (10:Nat)] W fun e w'=>∃q:Int,e=.returned (.int .i64 q)∧RnX X B b vb nb n h k E A img rs r1 r2 lm st rv s (decide (q≠13)) q w'∧Below B W w'∧Off DT W w':=by
 have hl:=hL.live;have hpd:=hl.Yy;have h9:=hl.n2;have h8:=hl.hn;have hle:=Gc hl.hn (!k);have hlen:=hl.len;have h2:=hl.h2;have Y4:1≤h:=by omega
 have qK:82∉AZ:=by decide
 have keep:∀{W1 W2:World} {T:TypeId} {hb' F' S' A' E':Nat} {R':List Value},Af W1 hb' T b F' S' A' E' R'→Off AZ W1 W2→T∈[82,84,98]→Af W2 hb' T b F' S' A' E' R':=fun h1 h2 h3=>Af.KU h1 h2 h3
 refine(rM g 10 (ji b vb nb s)
  (fun i W'=>Below B W W'∧Off DT W W'∧Ay X W' vb b (BH h k) h A E img rv true∧Af W' nb 82 b (BH h (!k)) h (if i≤6 then 1 else 1+(s.size+61)/62) (E+1) []∧(2≤i→Df h 1 s=0)∧∃st',Dev B W' b st'∧RnI n h k E r1 r2 lm st s i st')
  (fun q W'=>Below B W W'∧Off DT W W'∧q≠0∧RnX X B b vb nb n h k E A img rs r1 r2 lm st rv s true q W')
  hL.Md rfl (by decide) ?_ ⟨Ad _ _,Off.refl _ _,hL.Md,hnb,by omega,st,hL.dev,rfl⟩ ?_ ?_ ?_).mono ?_
 · intro k hk;simp only[ji,List.mem_cons,List.mem_nil_iff,or_false]at hk;rcases hk with rfl|rfl|rfl|rfl|rfl|rfl|rfl|rfl|rfl|rfl
   · exact MJ
   · exact V7
   · exact lF
   · exact Qm
   · exact Gb
   · exact Nf
   · exact Oo
   · exact Gb
   · exact V6
   · exact Gb
 · rintro i W' ⟨_,ho,_⟩;exact ho _ (by decide) _ _ _ hg
 · rintro i kk W' hk ⟨hb,ho,hv,hn,hfit,st',hd,hi⟩;have hBW:B≤W'.heap.size:=Ao hB hb.size;rcases i with _ | _ | _ | _ | _ | _ | _ | _ | _ | _|i
   ·
    injection hk with hk;subst hk;have hi':st'=st:=hi;subst hi';refine(Sn hn hd hl.good (by omega)).mono ?_;rintro e w' ⟨rfl,hbb⟩;refine⟨_,rfl,?_⟩;cases hgo:BJ st'
    · have hq:FN st' (BH h (!k)) h=0:=by
       unfold FN;rw[E9 hgo (by omega),if_pos rfl,if_neg (by omega)]
      exact Or.inl ⟨hq,hb.trans (hbb.mono hBW),ho.trans (Off.Ar hbb _),Af.below hv hbb,Af.below hn hbb,by omega,st',hd.below hbb,rfl⟩
    · have hq:FN st' (BH h (!k)) h=13:=by
       unfold FN;rw[MM hgo,if_neg (by decide)]
      rw[hq];exact Or.inr ⟨by decide,hb.trans (hbb.mono hBW),ho.trans (Off.Ar hbb _),by decide,Af.below hv hbb,Or.inr (Or.inl ⟨rfl,EZ hgo hl.lim,st',hd.below hbb,hl.stg.dead (by omega) _⟩)⟩
   ·
    injection hk with hk;subst hk;have hi':st'=st:=hi;subst hi';refine(TJ s hn (by omega) (by simp) (by omega)).mono ?_;rintro e w' ⟨rfl,hbb⟩;refine⟨_,rfl,?_⟩;by_cases hq:Df h 1 s=0
    · exact Or.inl ⟨hq,hb.trans (hbb.mono hBW),ho.trans (Off.Ar hbb _),Af.below hv hbb,Af.below hn hbb,fun _=>hq,st',hd.below hbb,rfl⟩
    · exact Or.inr ⟨hq,hb.trans (hbb.mono hBW),ho.trans (Off.Ar hbb _),hq,Af.below hv hbb,Or.inr (Or.inr ⟨hq,by rcases Zj h 1 s with e|e|e<;>rw[show Df h (if 0+1≤6 then 1 else 1+(s.size+61)/62) s=Df h 1 s from rfl,e]<;>decide,rfl,hd.below hbb⟩)⟩
   ·
    injection hk with hk;subst hk;have hi':st'=st:=hi;subst hi';refine(ky hv).mono ?_;rintro e w' ⟨rfl,rfl⟩;rw[if_neg (by omega)];exact⟨0,rfl,Or.inl ⟨rfl,hb,ho,hv,hn,fun _=>hfit (by omega),st',hd,rfl⟩⟩
   ·
    injection hk with hk;subst hk;have hi':st'=st:=hi;subst hi';refine(aP (B:=B) (Ps:=fun q w1=>HdP B b st' (BH h (!k)) 0 q w1∧Below B W' w1∧Off AZ W' w1) hn qK (fun W2 hW2=>?_)).mono ?_
    · refine(Ky (hd.below hW2) hl.good (by omega) (by omega) (Ao hBW hW2.size) (by decide)).mono ?_;rintro e w' ⟨q,he,⟨h1,h3,h4⟩,h5⟩;exact⟨q,he,⟨h1,(hW2.mono hBW).trans h3,(Off.Ar hW2 _).trans h4⟩,h5⟩
    · rintro e w' ⟨q,rfl,hq,hbb,Ee⟩;refine⟨q,rfl,?_⟩;rcases hq with⟨rfl,hgo,hd'⟩|⟨rfl,hgo,hd'⟩
      · exact Or.inr ⟨by decide,hb.trans hbb,ho.trans Ee.va,by decide,keep hv Ee (by simp),Or.inr (Or.inl ⟨rfl,EZ hgo hl.lim,st',hd',hl.stg.dead (by omega) _⟩)⟩
      · exact Or.inl ⟨rfl,hb.trans hbb,ho.trans Ee.va,keep hv Ee (by simp),keep hn Ee (by simp),fun _=>hfit (by omega),_,hd',hl.stg.shut Y4 h8 hgo⟩
   ·
    injection hk with hk;subst hk;obtain⟨hS,he⟩:=hi;refine(IJ hd hS.good (by have:=hS.IY;omega) hBW).mono ?_;rintro e w' ⟨q,rfl,hq,hbb,Ee⟩;refine⟨q,rfl,?_⟩;rcases hq with⟨rfl,hgo,hd'⟩|⟨rfl,hgo,hd'⟩
    · exact Or.inr ⟨by decide,hb.trans hbb,ho.trans Ee.va,by decide,keep hv Ee (by simp),Or.inr (Or.inl ⟨rfl,EZ hgo hS.lim,st',hd',hS.dead (by omega) _⟩)⟩
    · exact Or.inl ⟨rfl,hb.trans hbb,ho.trans Ee.va,keep hv Ee (by simp),keep hn Ee (by simp),fun _=>hfit (by omega),_,hd',hS.flush,he⟩
   ·
    injection hk with hk;subst hk;obtain⟨hS,he⟩:=hi;have hpz:=hS.IY;have hl5:=hS.len;refine(Wu (B:=B) (Ps:=fun q w1=>WpP B b st' (BH h (!k)) 1 h q w1∧Below B W' w1∧Off AZ W' w1) hn qK (fun W2 hW2=>?_)).mono ?_
    · refine(Rp (hd.below hW2) hS.good (by omega) Y4 (Ae _) (by omega) (by omega) (Ao hBW hW2.size)).mono ?_;rintro e w' ⟨q,he,⟨h1,h3,h4⟩,h5⟩;exact⟨q,he,⟨h1,(hW2.mono hBW).trans h3,(Off.Ar hW2 _).trans h4⟩,h5⟩
    · rintro e w' ⟨q,rfl,hq,hbb,Ee⟩;refine⟨q,rfl,?_⟩;rcases hq with⟨rfl,hgo,hd'⟩|⟨j,hj,hc,hr,hd'⟩
      · exact Or.inr ⟨by decide,hb.trans hbb,ho.trans Ee.va,by decide,keep hv Ee (by simp),Or.inr (Or.inl ⟨rfl,EZ hgo hS.lim,st',hd',hS.dead (by omega) _⟩)⟩
      · rcases hc with⟨rfl,rfl⟩|⟨rfl,hgo⟩
        · obtain⟨g1,g2,g3⟩:=hS.Aba Y4 h8 hr he;exact Or.inl ⟨rfl,hb.trans hbb,ho.trans Ee.va,keep hv Ee (by simp),keep hn Ee (by simp),fun _=>hfit (by omega),_,hd',g1.mono (by omega),g2,g3⟩
        · have hS':=hS.U4 Y4 h8 j hj hr;exact Or.inr ⟨by decide,hb.trans hbb,ho.trans Ee.va,by decide,keep hv Ee (by simp),Or.inr (Or.inl ⟨rfl,EZ hgo hS'.lim,_,hd',hS'.dead (by omega) _⟩)⟩
   ·
    injection hk with hk;subst hk;obtain⟨hS,hw,he⟩:=hi;have hpz:=hS.IY;have hl5:=hS.len;have hfl:=CP s;obtain⟨f1,f2,f3⟩:=Ep (hfit (by omega));refine(TL s (Ps:=fun x q w1=>WrP B b st' (BH h (!k)) 1 h s x q w1∧Below B W' w1∧Off AZ W' w1) hn qK (fun W2 hW2=>?_)).mono ?_
    · refine(RV (hd.below hW2) hS.good (by omega) Y4 (Ae _) Y4 (by omega) (by omega) (Ao hBW hW2.size)).mono ?_;rintro e w' ⟨x,q,he,⟨h1,h3,h4⟩,h5⟩;exact⟨x,q,he,⟨h1,(hW2.mono hBW).trans h3,(Off.Ar hW2 _).trans h4⟩,h5⟩
    · rintro e w' ⟨x,q,w1,rfl,⟨hwr,hbb,Ee⟩,hn1,hq⟩;refine⟨q,rfl,?_⟩;rcases hq with⟨rfl,rfl⟩|⟨hq,rfl⟩
      · rcases hwr with⟨h1,_⟩|⟨h1,_⟩|⟨hft,j,hj,hc,hr,hd'⟩
        · cases h1
        · exact absurd rfl h1
        · rcases hc with⟨_,rfl,rfl⟩|⟨h1,_⟩
          · have htl:(BF s).take ((s.size+61)/62)=BF s:=CV (by rw[hfl];exact Ae _);rw[htl]at hr hd';obtain⟨g1,g2,g3⟩:=hS.written Y4 h8 f3 hr hw he;have hv1:Ay X w1 vb b (BH h k) h A E img rv true:=keep hv Ee (by simp);have hset:Off DT w1 (w1.setCell ⟨nb,3,none⟩ (.int .i64 ((1+(s.size+61)/62:Nat):Int))):=RZ hn1 (by decide);have qA:Off [82] w1 (w1.setCell ⟨nb,3,none⟩ (.int .i64 ((1+(s.size+61)/62:Nat):Int))):=(Off.refl _ _).setCell hn1 (by simp) _;exact Or.inl ⟨rfl,(hb.trans hbb).setCell (p:=⟨nb,3,none⟩) hnB _,(ho.trans Ee.va).trans hset,Af.off hv1 qA (by decide),hn1.WJ _,fun _=>hfit (by omega),_,hd'.Mc hn1 (by simp),g1.mono (by omega),g2,g3⟩
          · cases h1
      · have hv1:Ay X w' vb b (BH h k) h A E img rv true:=keep hv Ee (by simp);rcases hwr with⟨rfl,hgo,hd'⟩|⟨h1,MC,hgo,hft,hd'⟩|⟨hft,j,hj,hc,hr,hd'⟩
        · exact Or.inr ⟨by decide,hb.trans hbb,ho.trans Ee.va,by decide,hv1,Or.inr (Or.inl ⟨rfl,EZ hgo hS.lim,st',hd',hS.dead (by omega) _⟩)⟩
        · rw[hfit (by omega)]at hft;exact absurd hft.symm h1
        · rcases hc with⟨h1,_⟩|⟨rfl,hgo⟩
          · exact absurd h1 hq
          · have hS':=hS.puts Y4 h8 (EB s) (by omega) j (by omega) hr;exact Or.inr ⟨by decide,hb.trans hbb,ho.trans Ee.va,by decide,hv1,Or.inr (Or.inl ⟨rfl,EZ hgo hS'.lim,_,hd',hS'.dead (by omega) _⟩)⟩
   ·
    injection hk with hk;subst hk;obtain⟨hS,hw,he⟩:=hi;refine(IJ hd hS.good (by have:=hS.IY;omega) hBW).mono ?_;rintro e w' ⟨q,rfl,hq,hbb,Ee⟩;refine⟨q,rfl,?_⟩;rcases hq with⟨rfl,hgo,hd'⟩|⟨rfl,hgo,hd'⟩
    · exact Or.inr ⟨by decide,hb.trans hbb,ho.trans Ee.va,by decide,keep hv Ee (by simp),Or.inr (Or.inl ⟨rfl,EZ hgo hS.lim,st',hd',hS.dead (by omega) _⟩)⟩
    · exact Or.inl ⟨rfl,hb.trans hbb,ho.trans Ee.va,keep hv Ee (by simp),keep hn Ee (by simp),fun _=>hfit (by omega),_,hd',hS.flush,⟨Ig hw rfl,he⟩,YD⟩
   ·
    injection hk with hk;subst hk;obtain⟨hS,⟨hw,he⟩,hout⟩:=hi;have hpz:=hS.IY;have hl5:=hS.len;obtain⟨f1,f2,f3⟩:=Ep (hfit (by omega));refine(nP (B:=B) (Ps:=fun q w1=>HdP B b st' (BH h (!k)) (E+1) q w1∧Below B W' w1∧Off AZ W' w1) hn qK (fun W2 hW2=>?_)).mono ?_
    · refine(Ky (hd.below hW2) hS.good (by omega) (by omega) (Ao hBW hW2.size) (by omega)).mono ?_;rintro e w' ⟨q,he,⟨h1,h3,h4⟩,h5⟩;exact⟨q,he,⟨h1,(hW2.mono hBW).trans h3,(Off.Ar hW2 _).trans h4⟩,h5⟩
    · rintro e w' ⟨q,rfl,hq,hbb,Ee⟩;refine⟨q,rfl,?_⟩;rcases hq with⟨rfl,hgo,hd'⟩|⟨rfl,hgo,hd'⟩
      · exact Or.inr ⟨by decide,hb.trans hbb,ho.trans Ee.va,by decide,keep hv Ee (by simp),Or.inr (Or.inl ⟨rfl,EZ hgo hS.lim,st',hd',hS.dead (by omega) _⟩)⟩
      · exact Or.inl ⟨rfl,hb.trans hbb,ho.trans Ee.va,keep hv Ee (by simp),keep hn Ee (by simp),fun _=>hfit (by omega),_,hd',hS.signed h2 h8 h9 f1 f2 f3 hw he (by omega) hgo hout⟩
   ·
    injection hk with hk;subst hk;obtain⟨hD,hN⟩:=hi;refine(IJ hd hD.good hD.IY hBW).mono ?_;rintro e w' ⟨q,rfl,hq,hbb,Ee⟩;refine⟨q,rfl,?_⟩;rcases hq with⟨rfl,hgo,hd'⟩|⟨rfl,hgo,hd'⟩
    · exact Or.inr ⟨by decide,hb.trans hbb,ho.trans Ee.va,by decide,keep hv Ee (by simp),Or.inr (Or.inl ⟨rfl,EZ hgo (fun e=>hN.lim e),st',hd',hD⟩)⟩
    · exact Or.inl ⟨rfl,hb.trans hbb,ho.trans Ee.va,keep hv Ee (by simp),keep hn Ee (by simp),fun _=>hfit (by omega),_,hd',hN,rfl⟩
   · cases hk
 · rintro q W' (⟨_,_,_,hv,_⟩|⟨_,_,_,_,hv,_⟩)
   · exact⟨_,_,_,_,_,_,_,_,hv⟩
   · exact⟨_,_,_,_,_,_,_,_,hv⟩
 · rintro e w' ⟨q,w1,rfl,hq,rfl⟩;refine⟨q,rfl,?_⟩;rcases hq with⟨rfl,hb,ho,hv,hn,hfit,st',hd,hi⟩|⟨_,hb,ho,hne,hv,hx⟩
   · have qA:Off [98] w1 (w1.setCell ⟨vb,7,none⟩ (.bool (decide ((0:Int)≠13)))):=(Off.refl _ _).setCell hv (by simp) _;exact⟨⟨hv.Il _,Or.inl ⟨rfl,hfit (by omega),Af.off hn qA (by decide),st',hd.Mc hv (by simp),hi⟩⟩,hb.setCell (p:=⟨vb,7,none⟩) hL.hvb _,ho.setCell hv (by decide) _⟩
   · refine⟨⟨hv.Il _,?_⟩,hb.setCell (p:=⟨vb,7,none⟩) hL.hvb _,ho.setCell hv (by decide) _⟩;rcases hx with⟨h0,_⟩|⟨MC,h1,st',hd,hD⟩|⟨h0,MC,h1,hd⟩
     · exact absurd h0 hne
     · exact Or.inr (Or.inl ⟨MC,h1,st',hd.Mc hv (by simp),hD⟩)
     · exact Or.inr (Or.inr ⟨h0,MC,h1,hd.Mc hv (by simp)⟩)
def Ul (X:List Value)(B b vb:Nat)(w:World)(st':St)(W:World)(C:Array Value):Prop:=W.heap[vb]?=some (.cells C 98 (0,0))∧Below B w W∧Off DT w W∧Dev B W b st'
theorem Ul.set {B b vb:Nat}{w W:World}{st':St}{C:Array Value}(h:Ul X B b vb w st' W C)(hB:B≤vb)(j:Nat)(x:Value):Ul X B b vb w st' (W.setCell ⟨vb,j,none⟩ x) (C.setIfInBounds j x):=
 ⟨by rw[Bn W vb j _ _ _ h.1],h.2.1.setCell (p:=⟨vb,j,none⟩) hB _,h.2.2.1.setCell h.1 (by decide) _,h.2.2.2.Mc h.1 (by simp)⟩
def yT (X:List Value)(B b vb n h:Nat)(k:Bool)(E:Nat)(s:ByteArray)(lm:Bool)(w W:World):Prop:=
 Below B w W∧Off DT w W∧∃st' rv',FT X B b vb n h (!k) (E+1) (1+(s.size+61)/62) s [] [s] [] lm st' rv' W∧st'.pend=[]∧CO rv'=none
def tN (X:List Value)(B b vb n h:Nat)(k:Bool)(E A:Nat)(img:ByteArray)(rs r1 r2:List ByteArray)(lm:Bool)(st:St)(rv:Value)(s:ByteArray)(w:World)(e:Ending)(w':World):Prop:=
 ∃q:Int,e=.returned (.int .i64 q)∧((q=0∧Df h 1 s=0∧yT X B b vb n h k E s lm w w')∨(Below B w w'∧Off DT w w'∧((q=13∧lm=true∧∃st',NN X B b vb n h k E r1 r2 s st' w')∨(q≠0∧q≠13∧Df h 1 s=q∧FT X B b vb n h k E A img rs r1 r2 lm st rv w'))))
set_option maxHeartbeats 2000000 in
theorem vQ {B b vb n h:Nat}{k:Bool}{E A:Nat}{img:ByteArray}{rs r1 r2:List ByteArray}{lm:Bool}{st:St}{rv:Value}{w:World}(s:ByteArray)(hL:FT X B b vb n h k E A img rs r1 r2 lm st rv w)(hs:s.size≤1000000)(hE:E+1<9223372036854775808)(hB:B≤w.heap.size) :
 Calls Tryz.prog 121 #[.pointer (some ⟨vb,0,none⟩),.string s] w (tN X B b vb n h k E A img rs r1 r2 lm st rv s w):=by
 unfold tN;have HL:=Aa hL;have HO:Hid (∀W,Below w.heap.size w W→Calls Tryz.prog 157 #[.pointer (some ⟨vb,0,none⟩)] W fun e w'=>e=.returned (.agg #[.pointer (some ⟨b,0,none⟩),.int .i64 (BH h (!k)),.int .i64 h,.int .i64 1,.int .u64 (E+1:Nat)])∧Below W.heap.size W w'):=Aa (fun W hW=>by
  have hl:=HL.out.live;have h9:=hl.n2;have h8:=hl.hn;have hbk:BH h k≤h∧h-BH h k=BH h (!k):=by cases k<;>simp[BH]
  have h1:=vV (Af.below HL.out.Md hW) hbk.1 (by omega) (by omega);rw[hbk.2]at h1;exact h1)
 have cC:=fun W=>OT s W (by omega)
 have Nn:Hid (∀W,Below w.heap.size w W→W.cell? ⟨vb,0,none⟩=some (.pointer (some ⟨b,0,none⟩))):=Aa (fun W hW=>(Af.below HL.out.Md hW).cells.1);have HDO:Hid (∀(W:World) (nb:Nat),w.heap.size≤nb→Below w.heap.size w W→Af W nb 82 b (BH h (!k)) h 1 (E+1) []→Calls Tryz.prog 50 #[.pointer (some ⟨vb,0,none⟩),.slice (some ⟨W.heap.size,0,none⟩) (10:Nat) (10:Nat)] (W.alloc (.cells #[.func (.func 47) #[.pointer (some ⟨nb,0,none⟩)] #[],.func (.func 110) #[.agg #[.pointer (some ⟨nb,0,none⟩),.string s]] #[],.func (.func 158) #[.pointer (some ⟨vb,0,none⟩)] #[],.func (.func 111) #[.pointer (some ⟨nb,0,none⟩)] #[],.func (.func 53) #[.pointer (some ⟨b,0,none⟩)] #[],.func (.func 52) #[.pointer (some ⟨nb,0,none⟩)] #[],.func (.func 54) #[.agg #[.pointer (some ⟨nb,0,none⟩),.string s]] #[],.func (.func 53) #[.pointer (some ⟨b,0,none⟩)] #[],.func (.func 112) #[.pointer (some ⟨nb,0,none⟩)] #[],.func (.func 53) #[.pointer (some ⟨b,0,none⟩)] #[]] 169)) fun e w'=>∃q:Int,e=.returned (.int .i64 q)∧RnX X B b vb nb n h k E A img rs r1 r2 lm st rv s (decide (q≠13)) q w'∧Below B w w'∧Off DT w w'∧Off DT (W.alloc (.cells ((ji b vb nb s).map Ye).toArray 169)) w'):=Aa (fun W nb hnb hW hN=>by
  have hWa:Below W.heap.size W (W.alloc (.cells ((ji b vb nb s).map Ye).toArray 169)):=(Ad _ _).alloc (Ae _) _;have h1:=ow (W:=W.alloc (.cells ((ji b vb nb s).map Ye).toArray 169)) s ((HL.out.below hW).below hWa) hs hE (Ao (Ao hB hW.size) hWa.size) (Af.below hN hWa) (Ao hB hnb) (Ai _ _);refine h1.mono ?_;rintro e w' ⟨q,he,hx,hb,ho⟩;exact⟨q,he,hx,(hW.mono hB).trans ((hWa.mono (Ao hB hW.size)).trans hb),(Off.Ar hW _).trans ((Off.Ar hWa _).trans ho),ho⟩)
 have c0:=Nn.out w (Ad _ _);generalize BH h (!k)=Fo at *;generalize E+1=E1 at *;obtain⟨Z,hZ⟩:∃Z:Obj,Z=.cells #[.pointer none,.int .i64 0,.int .i64 0,.int .i64 0,.int .u64 0] 82 (0,0):=⟨_,rfl⟩;have HZ:Hid (∀W W':World,Below (W.alloc Z).drew.heap.size (W.alloc Z).drew W'→ZO W' W.heap.size):=Aa (fun W W' hb=>by
  unfold ZO;rw[hb.block W.heap.size (by show _<(W.alloc Z).heap.size;simp)];show(W.alloc Z).heap[W.heap.size]?=_
  rw[Ai,hZ])
 have Rm:Hid (∀w1,Below w.heap.size w w1→(Af (w1.alloc (.cells #[.pointer (some ⟨b,0,none⟩),.int .i64 Fo,.int .i64 h,.int .i64 1,.int .u64 E1] 82)) w1.heap.size 82 b Fo h 1 E1 []∧Below w.heap.size w (w1.alloc (.cells #[.pointer (some ⟨b,0,none⟩),.int .i64 Fo,.int .i64 h,.int .i64 1,.int .u64 E1] 82))∧w.heap.size≤w1.heap.size)):=Aa (fun w1 hB1=>⟨Ai _ _,hB1.alloc hB1.size _,hB1.size⟩);have HS2:Hid (∀w1,Below w.heap.size w w1→ZO w1 w.heap.size→(Af (((((w1.setCell ⟨w.heap.size,0,none⟩ (.pointer (some ⟨b,0,none⟩))).setCell ⟨w.heap.size,1,none⟩ (.int .i64 Fo)).setCell ⟨w.heap.size,2,none⟩ (.int .i64 h)).setCell ⟨w.heap.size,3,none⟩ (.int .i64 1)).setCell ⟨w.heap.size,4,none⟩ (.int .u64 E1)) w.heap.size 82 b Fo h 1 E1 []∧Below w.heap.size w (((((w1.setCell ⟨w.heap.size,0,none⟩ (.pointer (some ⟨b,0,none⟩))).setCell ⟨w.heap.size,1,none⟩ (.int .i64 Fo)).setCell ⟨w.heap.size,2,none⟩ (.int .i64 h)).setCell ⟨w.heap.size,3,none⟩ (.int .i64 1)).setCell ⟨w.heap.size,4,none⟩ (.int .u64 E1))∧w.heap.size≤w.heap.size)):=Aa (fun w1 hB1 zz=>⟨Cm w.heap.size 82 [.pointer (some ⟨b,0,none⟩),.int .i64 Fo,.int .i64 h,.int .i64 1,.int .u64 E1] 0 w1 [.pointer none,.int .i64 0,.int .i64 0,.int .i64 0,.int .u64 0] zz (by simp),Below.setCells hB1 (Ae _) 0 [.pointer (some ⟨b,0,none⟩),.int .i64 Fo,.int .i64 h,.int .i64 1,.int .u64 E1],Ae _⟩);subst hZ;have c9:=Nn.out (w.alloc (.cells #[.pointer none,.int .i64 0,.int .i64 0,.int .i64 0,.int .u64 0] 82)) ((Ad _ _).alloc (Ae _) _);clear hL;go_enter Tryz.func121,Tryz.ntmps121;go_upto_region 1 with fail;go_cut [5,6] from 9 (fun c d wx=>∃nb,c=.pointer (some ⟨nb,0,none⟩)∧d=.func (.func 53) #[.pointer (some ⟨b,0,none⟩)] #[]∧Af wx nb 82 b Fo h 1 E1 []∧Below w.heap.size w wx∧w.heap.size≤nb)
 case first =>
  go_region_with (first|(go_at_call 157;refine(HO.out _ ?_).mono ?_;(first|exact(Ad _ _).drew|exact((Ad _ _).alloc (Ae _) _).drew);rintro e w1 ⟨rfl,hb1⟩;have hB1:Below w.heap.size w w1:=(by first|exact(Ad _ _).drew.trans hb1|exact((Ad _ _).alloc (Ae _) _).drew.trans (hb1.mono (by simp)));have d0:=Nn.out _ hB1;have d1:=Nn.out _ (hB1.alloc hB1.size (.cells #[.pointer none,.int .i64 0,.int .i64 0,.int .i64 0,.int .u64 0] 82));(first|(have zz:=HZ.out _ _ hb1;obtain⟨⟨y0,y1,y2,y3,y4⟩,x0,x1,x2,x3,x4⟩:=zz.all)|skip)))
  all_goals
   go_wp2;go_meet
   case rel =>
    first
     | (refine⟨w1.heap.size,by with_reducible rfl,rfl,?_⟩;exact Rm.out w1 hB1)
     | (refine⟨w.heap.size,by with_reducible rfl,rfl,?_⟩;exact HS2.out w1 hB1 zz)
 case rest =>
  obtain⟨nb,rfl,rfl,hnb,hbc,Acp⟩:=hcut;have HNB:=Aa hnb;have HBC:=Aa hbc;clear hnb hbc c9 c0;obtain⟨W0,hW0⟩:∃W0,wc.alloc (.cells #[.pointer (some ⟨nb,0,none⟩),.string s] 119)=W0:=⟨_,rfl⟩;have HB0:Hid (Below w.heap.size w W0):=Aa (by rw[←hW0];exact HBC.out.alloc HBC.out.size _);have hC0:W0.heap[wc.heap.size]?=some (.cells #[.pointer (some ⟨nb,0,none⟩),.string s] 119 (0,0)):=by rw[←hW0];exact Ai _ _
  have HN0:Hid (Af W0 nb 82 b Fo h 1 E1 []):=Aa (by rw[←hW0];exact Af.below HNB.out ((Ad _ _).alloc (Ae _) _));have j0:W0.cell? ⟨wc.heap.size,0,none⟩=some (.pointer (some ⟨nb,0,none⟩)):=by rw[AB _ _ _ _ _ _ hC0];rfl
  have j1:W0.cell? ⟨wc.heap.size,1,none⟩=some (.string s):=by rw[AB _ _ _ _ _ _ hC0];rfl
  have AdH:=Aa hC0;have NL:Hid (∀W:World,W.heap[wc.heap.size]?=some (.cells #[.pointer (some ⟨nb,0,none⟩),.string s] 119 (0,0))→(W.heap[wc.heap.size]?=some (.cells #[.pointer (some ⟨nb,0,none⟩),.string s] 119 (0,0))∧W.cell? ⟨wc.heap.size,0,none⟩=some (.pointer (some ⟨nb,0,none⟩))∧W.cell? ⟨wc.heap.size,1,none⟩=some (.string s))):=Aa (fun W h=>⟨h,by rw[AB _ _ _ _ _ _ h];rfl,by rw[AB _ _ _ _ _ _ h];rfl⟩);have HKO:Hid (∀W W':World,W.heap[wc.heap.size]?=some (.cells #[.pointer (some ⟨nb,0,none⟩),.string s] 119 (0,0))→Off DT W W'→W'.heap[wc.heap.size]?=some (.cells #[.pointer (some ⟨nb,0,none⟩),.string s] 119 (0,0))):=Aa (fun W W' hS ho=>ho _ (by decide) _ _ _ hS);have hS0:=NL.out W0 hC0;clear hC0;go_upto_region 3 with fail
  try rw[hW0]
  clear hW0;have AbI:W0.drew.heap[wc.heap.size]?=some (.cells #[.pointer (some ⟨nb,0,none⟩),.string s] 119 (0,0)):=hS0.1;refine wp_region_held_drew (S:=fun W:World=>W.heap[wc.heap.size]?=some (.cells #[.pointer (some ⟨nb,0,none⟩),.string s] 119 (0,0))) (by kernel_rfl) AbI (fun hHeld=>?_);refine wpAnyH_take (i:=0) (oi:={ dst:=some 21,op:=.move (.tmp 0),type:=_,pos:=_,after:=_,guard:=none }) (v:=.pointer (some ⟨vb,0,none⟩)) rfl (by kernel_rfl) (by kernel_rfl) (by kernel_rfl) (fun _ _ _ h=>h) (Or.inl ⟨by rfl,by intro w _;first|rfl|go_simp⟩) (by assumption) ?_
  try simp only[Act.put,List.setIfInBounds_toArray,List.set_cons_zero,List.set_cons_succ]
  refine wpAnyH_take (i:=1) (oi:={ dst:=some 22,op:=.makeFunc (.func 47) #[.tmp 5] #[],type:=_,pos:=_,after:=_,guard:=none }) (v:=.func (.func 47) #[.pointer (some ⟨nb,0,none⟩)] #[]) rfl (by kernel_rfl) (by kernel_rfl) (by kernel_rfl) (fun _ _ _ h=>h) (Or.inl ⟨by rfl,by intro w _;first|rfl|go_simp⟩) (by assumption) ?_
  try simp only[Act.put,List.setIfInBounds_toArray,List.set_cons_zero,List.set_cons_succ]
  refine wpAnyH_take (i:=2) (oi:={ dst:=some 23,op:=.load 119 (.tmp 7),type:=_,pos:=_,after:=_,guard:=none }) (v:=.agg #[.pointer (some ⟨nb,0,none⟩),.string s]) rfl (by kernel_rfl) (by kernel_rfl) (by kernel_rfl) (fun _ _ _ h=>h) (Or.inl ⟨by rfl,by intro w hS;obtain⟨_,c0,c1⟩:=NL.out w hS;go_simp⟩) (by assumption) ?_
  try simp only[Act.put,List.setIfInBounds_toArray,List.set_cons_zero,List.set_cons_succ]
  refine wpAnyH_take (i:=3) (oi:={ dst:=some 24,op:=.makeFunc (.func 110) #[.tmp 23] #[],type:=_,pos:=_,after:=_,guard:=none }) (v:=.func (.func 110) #[.agg #[.pointer (some ⟨nb,0,none⟩),.string s]] #[]) rfl (by kernel_rfl) (by kernel_rfl) (by kernel_rfl) (fun _ _ _ h=>h) (Or.inl ⟨by rfl,by intro w _;first|rfl|go_simp⟩) (by assumption) ?_
  try simp only[Act.put,List.setIfInBounds_toArray,List.set_cons_zero,List.set_cons_succ]
  refine wpAnyH_take (i:=4) (oi:={ dst:=some 25,op:=.move (.tmp 0),type:=_,pos:=_,after:=_,guard:=none }) (v:=.pointer (some ⟨vb,0,none⟩)) rfl (by kernel_rfl) (by kernel_rfl) (by kernel_rfl) (fun _ _ _ h=>h) (Or.inl ⟨by rfl,by intro w _;first|rfl|go_simp⟩) (by assumption) ?_
  try simp only[Act.put,List.setIfInBounds_toArray,List.set_cons_zero,List.set_cons_succ]
  refine wpAnyH_take (i:=5) (oi:={ dst:=some 26,op:=.nilCheck (.tmp 25),type:=_,pos:=_,after:=_,guard:=none }) (v:=.pointer (some ⟨vb,0,none⟩)) rfl (by kernel_rfl) (by kernel_rfl) (by kernel_rfl) (fun _ _ _ h=>h) (Or.inl ⟨by rfl,by intro w _;first|rfl|go_simp⟩) (by assumption) ?_
  try simp only[Act.put,List.setIfInBounds_toArray,List.set_cons_zero,List.set_cons_succ]
  refine wpAnyH_take (i:=6) (oi:={ dst:=some 27,op:=.fieldAddr 84 (.tmp 26) 0,type:=_,pos:=_,after:=_,guard:=none }) (v:=.pointer (some ⟨vb,0,none⟩)) rfl (by kernel_rfl) (by kernel_rfl) (by kernel_rfl) (fun _ _ _ h=>h) (Or.inl ⟨by rfl,by intro w _;go_simp⟩) (by assumption) ?_
  try simp only[Act.put,List.setIfInBounds_toArray,List.set_cons_zero,List.set_cons_succ]
  refine wpAnyH_take (i:=7) (oi:={ dst:=some 28,op:=.makeFunc (.func 158) #[.tmp 27] #[],type:=_,pos:=_,after:=_,guard:=none }) (v:=.func (.func 158) #[.pointer (some ⟨vb,0,none⟩)] #[]) rfl (by kernel_rfl) (by kernel_rfl) (by kernel_rfl) (fun _ _ _ h=>h) (Or.inl ⟨by rfl,by intro w _;first|rfl|go_simp⟩) (by assumption) ?_
  try simp only[Act.put,List.setIfInBounds_toArray,List.set_cons_zero,List.set_cons_succ]
  refine wpAnyH_take (i:=8) (oi:={ dst:=some 29,op:=.makeFunc (.func 111) #[.tmp 5] #[],type:=_,pos:=_,after:=_,guard:=none }) (v:=.func (.func 111) #[.pointer (some ⟨nb,0,none⟩)] #[]) rfl (by kernel_rfl) (by kernel_rfl) (by kernel_rfl) (fun _ _ _ h=>h) (Or.inl ⟨by rfl,by intro w _;first|rfl|go_simp⟩) (by assumption) ?_
  try simp only[Act.put,List.setIfInBounds_toArray,List.set_cons_zero,List.set_cons_succ]
  refine wpAnyH_take (i:=9) (oi:={ dst:=some 30,op:=.move (.tmp 6),type:=_,pos:=_,after:=_,guard:=none }) (v:=.func (.func 53) #[.pointer (some ⟨b,0,none⟩)] #[]) rfl (by kernel_rfl) (by kernel_rfl) (by kernel_rfl) (fun _ _ _ h=>h) (Or.inl ⟨by rfl,by intro w _;first|rfl|go_simp⟩) (by assumption) ?_
  try simp only[Act.put,List.setIfInBounds_toArray,List.set_cons_zero,List.set_cons_succ]
  refine wpAnyH_take (i:=10) (oi:={ dst:=some 31,op:=.makeFunc (.func 52) #[.tmp 5] #[],type:=_,pos:=_,after:=_,guard:=none }) (v:=.func (.func 52) #[.pointer (some ⟨nb,0,none⟩)] #[]) rfl (by kernel_rfl) (by kernel_rfl) (by kernel_rfl) (fun _ _ _ h=>h) (Or.inl ⟨by rfl,by intro w _;first|rfl|go_simp⟩) (by assumption) ?_
  try simp only[Act.put,List.setIfInBounds_toArray,List.set_cons_zero,List.set_cons_succ]
  refine wpAnyH_take (i:=11) (oi:={ dst:=some 32,op:=.load 119 (.tmp 7),type:=_,pos:=_,after:=_,guard:=none }) (v:=.agg #[.pointer (some ⟨nb,0,none⟩),.string s]) rfl (by kernel_rfl) (by kernel_rfl) (by kernel_rfl) (fun _ _ _ h=>h) (Or.inl ⟨by rfl,by intro w hS;obtain⟨_,c0,c1⟩:=NL.out w hS;go_simp⟩) (by assumption) ?_
  try simp only[Act.put,List.setIfInBounds_toArray,List.set_cons_zero,List.set_cons_succ]
  refine wpAnyH_take (i:=12) (oi:={ dst:=some 33,op:=.makeFunc (.func 54) #[.tmp 32] #[],type:=_,pos:=_,after:=_,guard:=none }) (v:=.func (.func 54) #[.agg #[.pointer (some ⟨nb,0,none⟩),.string s]] #[]) rfl (by kernel_rfl) (by kernel_rfl) (by kernel_rfl) (fun _ _ _ h=>h) (Or.inl ⟨by rfl,by intro w _;first|rfl|go_simp⟩) (by assumption) ?_
  try simp only[Act.put,List.setIfInBounds_toArray,List.set_cons_zero,List.set_cons_succ]
  refine wpAnyH_take (i:=13) (oi:={ dst:=some 34,op:=.move (.tmp 6),type:=_,pos:=_,after:=_,guard:=none }) (v:=.func (.func 53) #[.pointer (some ⟨b,0,none⟩)] #[]) rfl (by kernel_rfl) (by kernel_rfl) (by kernel_rfl) (fun _ _ _ h=>h) (Or.inl ⟨by rfl,by intro w _;first|rfl|go_simp⟩) (by assumption) ?_
  try simp only[Act.put,List.setIfInBounds_toArray,List.set_cons_zero,List.set_cons_succ]
  refine wpAnyH_take (i:=14) (oi:={ dst:=some 35,op:=.makeFunc (.func 112) #[.tmp 5] #[],type:=_,pos:=_,after:=_,guard:=none }) (v:=.func (.func 112) #[.pointer (some ⟨nb,0,none⟩)] #[]) rfl (by kernel_rfl) (by kernel_rfl) (by kernel_rfl) (fun _ _ _ h=>h) (Or.inl ⟨by rfl,by intro w _;first|rfl|go_simp⟩) (by assumption) ?_
  try simp only[Act.put,List.setIfInBounds_toArray,List.set_cons_zero,List.set_cons_succ]
  refine wpAnyH_take (i:=15) (oi:={ dst:=some 36,op:=.move (.tmp 6),type:=_,pos:=_,after:=_,guard:=none }) (v:=.func (.func 53) #[.pointer (some ⟨b,0,none⟩)] #[]) rfl (by kernel_rfl) (by kernel_rfl) (by kernel_rfl) (fun _ _ _ h=>h) (Or.inl ⟨by rfl,by intro w _;first|rfl|go_simp⟩) (by assumption) ?_
  try simp only[Act.put,List.setIfInBounds_toArray,List.set_cons_zero,List.set_cons_succ]
  refine wpAnyH_ready (rs:=[16]) (by kernel_rfl) (by simp) (AllReadyH.cons (o:={ dst:=some 37,op:=.buildSlice 168 10 #[(0,.tmp 22),(1,.tmp 24),(2,.tmp 28),(3,.tmp 29),(4,.tmp 30),(5,.tmp 31),(6,.tmp 33),(7,.tmp 34),(8,.tmp 35),(9,.tmp 36)],type:=_,pos:=_,after:=_,guard:=none }) rfl (fun K hK=>?_) AllReadyH.nil);go_simp;refine hK.out _ _ (HKO.out _ _ hHeld ((Off.refl _ _).alloc _)) (fun TA=>?_);clear hK K hHeld
  try simp only[Act.put,List.setIfInBounds_toArray,List.set_cons_zero,List.set_cons_succ]
  refine wpAnyH_ready (rs:=[17]) (by kernel_rfl) (by simp) (AllReadyH.cons (o:={ dst:=some 38,op:=.call { callee:=.value (.func 50),args:=#[.tmp 21,.tmp 37],argTypes:=#[60,168] },type:=_,pos:=_,after:=_,guard:=none }) rfl (fun K hK=>?_) AllReadyH.nil);go_simp;refine(HDO.out W0.drew nb Acp HB0.out.drew HN0.out).mono ?_;rintro e w3 ⟨q,rfl,hx,hb3,ho3,hoc⟩;refine hK.out _ _ (HKO.out _ _ TA hoc) (fun Xr=>?_);clear hK K TA
  try simp only[Act.put,List.setIfInBounds_toArray,List.set_cons_zero,List.set_cons_succ]
  refine wpAnyH_take (i:=18) (oi:={ dst:=some 8,op:=.assign (.tmp 38),type:=_,pos:=_,after:=_,guard:=none }) (v:=.int .i64 q) rfl (by kernel_rfl) (by kernel_rfl) (by kernel_rfl) (fun _ _ _ h=>h) (Or.inl ⟨by rfl,by intro _ _;rfl⟩) (by assumption) ?_
  try simp only[Act.put,List.setIfInBounds_toArray,List.set_cons_zero,List.set_cons_succ]
  refine wpAnyH_done (by kernel_rfl) ?_ _;have HX:=Aa hx;have HB3:=Aa hb3;have Jf:=Aa ho3;clear hx hb3 ho3 hoc Xr hS0 AbI j0 j1;by_cases hq:q=0
  · subst hq;obtain⟨hv,hfit,hn,st',hd,hl',hpe⟩:Ay X w3 vb b (BH h k) h A E img rv true∧Df h 1 s=0∧Af w3 nb 82 b (BH h (!k)) h (1+(s.size+61)/62) (E+1) []∧∃st',Dev B w3 b st'∧Dx n h (!k) (E+1) (1+(s.size+61)/62) s [] [s] [] lm st'∧st'.pend=[]:=by
     obtain⟨hv,⟨_,h1,h2,h3⟩|⟨h1,_⟩|⟨h1,_⟩⟩:=HX.out
     · exact⟨hv,h1,h2,h3⟩
     · cases h1
     · exact absurd rfl h1
    have Ny:=Aa hfit;have HV:=Aa hv;have HN:=Aa hn;have yj:Hid (∀W,Below w3.heap.size w3 W→Ay X W vb b (BH h k) h A E img rv true):=Aa (fun W hW=>Af.below HV.out hW);have HCN:Hid (∀W,Below w3.heap.size w3 W→Af W nb 82 b (BH h (!k)) h (1+(s.size+61)/62) (E+1) []):=Aa (fun W hW=>Af.below HN.out hW);have HLF:Hid (∀W,Below w3.heap.size w3 W→Ul X B b vb w st' W (Xl b (BH h k) h A E++([.string img,rv,.bool true]++X:List Value)).toArray):=Aa (fun W hW=>⟨Af.below HV.out hW,HB3.out.trans (hW.mono (Ao hB (by have:=HB3.out.size;omega))),Jf.out.trans (Off.Ar hW _),hd.below hW⟩);have ek:Hid (∀(W:World) (C:Array Value),Ul X B b vb w st' W C→C=(Xl b (BH h (!k)) h (1+(s.size+61)/62) (E+1)++([.string s,.slice none 0 0,.bool true]++X:List Value)).toArray→yT X B b vb n h k E s lm w W):=Aa (fun W C hl hC=>by
     subst hC;exact⟨hl.2.1,hl.2.2.1,st',.slice none 0 0,⟨hl',hl.2.2.2,hl.1,Or.inl ⟨rfl,rfl⟩,HL.out.hvb⟩,hpe,rfl⟩)
    have ZP:Hid (B≤vb):=Aa HL.out.hvb;obtain⟨m0,m1,m2,m3,m4⟩:=hn.cells;clear hv hn hd hl' hpe hfit HX;generalize (1+(s.size+61)/62)=A2 at *;generalize hE2:E+1=E2 at *;generalize BH h (!k)=F2 at *;go_wp2_with fail;go_region_law (first|(refine Qy rfl 55 _ _ rfl (fun xs W=>Tryz.call55 xs W) (.string s) (.string s) rfl (fun W9=>Below w3.drew.heap.size w3.drew W9) (cC w3.drew) ?_;intro w8 EK;have X4:Below w3.heap.size w3 w8:=(Ad _ _).drew.trans EK;obtain⟨m0,m1,m2,m3,m4⟩:=(HCN.out _ X4).cells;obtain⟨k0,k1,k2,k3,k4⟩:=Af.cells (yj.out _ X4);obtain⟨k5,k6,k7⟩:=(yj.out _ X4).more;have f0:=(yj.out _ X4).frozen 0;have f1:=(yj.out _ X4).frozen 1;have f2:=(yj.out _ X4).frozen 2;have f3:=(yj.out _ X4).frozen 3;have f4:=(yj.out _ X4).frozen 4;have f5:=(yj.out _ X4).frozen 5;have f6:=(yj.out _ X4).frozen 6))
    all_goals
     have HL8:=Aa (HLF.out _ X4);clear X4 EK k0 k1 k2 k3 k4 k5 k6 k7 f0 f1 f2 f3 f4 f5 f6;go_wp2;go_ret;exact⟨0,rfl,Or.inl ⟨rfl,Ny.out,ek.out _ _ (((((((HL8.out.set ZP.out _ _).set ZP.out _ _).set ZP.out _ _).set ZP.out _ _).set ZP.out _ _).set ZP.out _ _).set ZP.out _ _) rfl⟩⟩
  · have hqz:(q==0)=false:=by simpa using hq
    have HE:Hid ((q=13∧lm=true∧∃st',NN X B b vb n h k E r1 r2 s st' w3)∨(q≠0∧q≠13∧Df h 1 s=q∧FT X B b vb n h k E A img rs r1 r2 lm st rv w3)):=Aa (by
     obtain⟨hv,⟨h0,_⟩|⟨MC,h1,st',hd,hD⟩|⟨h0,MC,h1,hd⟩⟩:=HX.out
     · exact absurd h0 hq
     · refine Or.inl ⟨MC,h1,st',hD,hd,?_,HL.out.hvb⟩;rw[MC]at hv;exact⟨_,_,_,hv⟩
     · refine Or.inr ⟨h0,MC,h1,HL.out.live,hd,?_,HL.out.row.off Jf.out,HL.out.hvb⟩;rw[A8 MC]at hv;exact hv)
    clear HX;go_wp2;go_ret;exact⟨q,rfl,Or.inr ⟨HB3.out,Jf.out,HE.out⟩⟩
end Go.Proofs.YtdmkhmeaphaapaaGreat.V.St
namespace Go.Proofs.YtdmkhmeaphaapaaGreat
open Go.RowKit Go.Sort
section
variable {B b vb n h:Nat}{k:Bool}{E A:Nat}{img fresh:ByteArray}{rs r1 r2:List ByteArray}{lm:Bool}{st:V.St}{rv:Value}{W W':World}
theorem jh {l:List ByteArray}{v:Value}(h:V.CX B W v l)(ho:V.Off Mh W W'):V.CX B W' v l:=by
 rcases h with h|⟨g,off,cap,cur,hv,hB,h1,h2,hg,h3,h4⟩
 · exact Or.inl h
 · exact Or.inr ⟨g,off,cap,cur,hv,hB,h1,h2,ho _ (by decide) _ _ _ hg,h3,h4⟩
end
end Go.Proofs.YtdmkhmeaphaapaaGreat
namespace Go.Proofs.YtdmkhmeaphaapaaGreat
open Go.RowKit Go.Sort
structure TXw (w:World)(X:List Value)(K:Nat→Int)(E:Nat→List Br)(R:Nat→Value)(u:Nat)(v:Value)(ys:List Int)(c:Int):Prop where
 shape:GV X.toArray K R u v c
 rows:∀n,n≤200→w.ownsRow 0 112 5 (R n) (E n).length ((E n).flatMap DU)
 apart:∀i j g,i≤200→j≤200→(R i).ownBlock=some g→(R j).ownBlock=some g→i=j
 own:Dw 0 w v ys
 good:Fv 200 u ys
def Nu (w:World)(X:List Value)(l:List Az)(nx:Int):Prop:=∃R u v ys,TXw w X (Bo l) (Bh l) R u v ys nx∧Bc u ys=BI l∧Aq l nx
theorem NC {w:World}{B:Nat}{T:TypeId}{c:Nat}{v:Value}{n:Nat}{xs:List Value}(h:w.ownsRow B T c v n xs):w.ownsRow 0 T c v n xs:=by
 refine⟨h.1,?_⟩;rcases h.2 with h1|⟨g,cap,cur,hv,hg,h1⟩
 · exact Or.inl h1
 · exact Or.inr ⟨g,cap,cur,hv,Nat.zero_le _,h1⟩
def EC (w w':World):Prop:=∀T,T=112∨T=3→∀(k:Nat) (cs:Array Value) (fr:Nat×Nat),w.heap[k]?=some (.cells cs T fr)→w'.heap[k]?=some (.cells cs T fr)
theorem EC.o9 {w w':World}(h:AX w w'):EC w w':=fun T hT k cs fr hk=>h T (by rcases hT with rfl|rfl<;>simp[JD]) k cs fr hk
theorem EC.Abj {w w':World}(h:V.Off Mh w w'):EC w w':=fun T hT k cs fr hk=>h T (by rcases hT with rfl|rfl<;>decide) k cs fr hk
theorem EC.Ar {w w':World}(h:Below w.heap.size w w'):EC w w':=fun T hT k cs fr hk=>by rw[h.block k (Ab hk)];exact hk
namespace Nu
variable {w w':World}{X:List Value}{l:List Az}{nx:Int}{sb b F S A E:Nat}{img:ByteArray}{rv:Value}{op:Bool}
theorem good (h:Nu w X l nx):Aq l nx:=by
 obtain⟨R,u,v,ys,hm,ho,hg⟩:=h;exact hg
theorem keep (h:Nu w X l nx)(hk:EC w w'):Nu w' X l nx:=by
 obtain⟨R,u,v,ys,hm,ho,hg⟩:=h;refine⟨R,u,v,ys,⟨hm.shape,fun n hn=>AV (hm.rows n hn) fun g hg=>?_,hm.apart,AV hm.own fun g hg=>?_,hm.good⟩,ho,hg⟩
 · obtain⟨cur,hc⟩:=CJ (hm.rows n hn) hg;rw[hc];exact hk _ (Or.inl rfl) _ _ _ hc
 · obtain⟨cur,hc⟩:=CJ hm.own hg;rw[hc];exact hk _ (Or.inr rfl) _ _ _ hc
theorem EO (h:Nu w X l nx)(hk:AX w w'):Nu w' X l nx:=h.keep (EC.o9 hk)
theorem len (h:Nu w X l nx):X.length=406:=by
 obtain⟨R,u,v,ys,hm,_⟩:=h;have h1:=hm.shape.size;rwa[Gq]at h1
theorem te (h:Nu w X l nx)(hv:V.St.Ay X w sb b F S A E img rv op):Uj w sb l nx:=by
 obtain⟨R,u,v,ys,hm,ho,hg⟩:=h;refine⟨R,u,v,ys,⟨⟨_,X.toArray,hv,fun j x hx=>?_,hm.shape⟩,hm.rows,hm.apart,hm.own,hm.good⟩,ho,hg⟩;rw[Gp]at hx ⊢;rw[Nat.add_comm];exact hx
theorem of {bt:Nat}{S:Nat→Prop}(h:Bl.Is w bt l nx S):∃cs:Array Value,w.heap[bt]?=some (.cells cs 96 (0,0))∧cs.size=406∧cs.all (·.oneCell')=true∧Nu w cs.toList l nx:=by
 obtain⟨R,u,v,ys,hm,ho,hg,_⟩:=h;obtain⟨cs,hc,hO⟩:=hm.cells;refine⟨cs,hc,hO.size,U6 hO (fun n hn=>?_) ?_,R,u,v,ys,⟨by rw[Array.toArray_toList];exact hO,fun n hn=>NC (hm.rows n hn),hm.apart,NC hm.own,hm.good⟩,ho,hg⟩
 · obtain⟨a,cap,e⟩:=(hm.Fy hn).len;exact⟨a,_,cap,e⟩
 · obtain⟨a,cap,e⟩:=hm.own.len;exact⟨a,_,cap,e⟩
end Nu
def VL (X:List Value)(w:World)(B b sb n:Nat)(rm:Int)(O:TI→Prop)(lm:Bool)(E:Nat)(t:TI):Prop:=
 ∃(h:Nat) (k:Bool) (A:Nat) (img:ByteArray) (rs r1 r2:List ByteArray) (st:V.St) (rv:Value),V.St.FT X B b sb n h k E A img rs r1 r2 lm st rv w∧n/2=h∧r1≠[]∧Cv (bl img) (rs.map bl) t∧rm=((n/2:Nat):Int)-(A:Int)∧∀u,PH r1 r2 ⟨#[]⟩ u→O u
def VD (X:List Value)(w:World)(B b sb n:Nat)(O:TI→Prop)(E:Nat):Prop:=
 ∃(h:Nat) (k:Bool) (r1 r2:List ByteArray) (fresh:ByteArray) (st:V.St),V.St.NN X B b sb n h k E r1 r2 fresh st w∧n/2=h∧2≤h∧n≤400∧(∀s∈r1++r2,1≤s.size∧s.size≤60000)∧r1≠[]∧(∃t,MoB (r1++r2) t)∧(fresh.size≠0→∃t,Cv (bl fresh) [] t)∧∀u,PH r1 r2 fresh u→O u
theorem gy:∀T∈JD,T∉V.DT:=by decide
theorem qb:∀T∈JD,T∉V.AZ:=by decide
theorem OJ {w w':World}(h:V.Off V.DT w w'):AX w w':=fun T hT k cs fr hk=>h T (gy T hT) k cs fr hk
theorem WG {w w':World}(h:V.Off V.AZ w w'):AX w w':=fun T hT k cs fr hk=>h T (qb T hT) k cs fr hk
theorem zN {B:Nat}{w w':World}{rv:Value}{rs:List ByteArray}(h:V.Ij (V.CO rv) w w')(hr:V.CX B w rv rs):AX w w':=fun T hT k cs fr hk=>h T (gy T hT) k cs fr (fun e=>by
 rcases hr with⟨_,rfl⟩|⟨g,off,cap,cur,rfl,_,_,_,hg,_⟩
 · cases e
 · injection e with e;subst e;rw[hk]at hg;injection hg with hg;injection hg with _ h3 _;rw[h3]at hT;exact absurd hT (by decide)) hk
section
variable {B b sb n:Nat}{X:List Value}{rm:Int}{O:TI→Prop}{lm:Bool}{E:Nat}{t:TI}{w w':World}
theorem VL.weak {O':TI→Prop}(h:VL X w B b sb n rm O lm E t)(hO:∀u,O u→O' u):VL X w B b sb n rm O' lm E t:=by
 obtain⟨h',k,A,img,rs,r1,r2,st,rv,a1,a2,a3,a4,a5,a6⟩:=h;exact⟨h',k,A,img,rs,r1,r2,st,rv,a1,a2,a3,a4,a5,fun u hu=>hO u (a6 u hu)⟩
theorem VD.weak {O':TI→Prop}(h:VD X w B b sb n O E)(hO:∀u,O u→O' u):VD X w B b sb n O' E:=by
 obtain⟨h',k,r1,r2,fresh,st,a1,a2,a3,a4,a5,a6,a7,a8,a9⟩:=h;exact⟨h',k,r1,r2,fresh,st,a1,a2,a3,a4,a5,a6,a7,a8,fun u hu=>hO u (a9 u hu)⟩
theorem VL.good (h:VL X w B b sb n rm O lm E t):Cj t∧0≤rm∧rm≤400:=by
 obtain⟨h',k,A,img,rs,r1,r2,st,rv,a1,a2,a3,a4,a5,a6⟩:=h;have h1:=a1.live.room;have h2:=a1.live.n2;refine⟨a4.good,?_,?_⟩<;>(rw[a5];omega)
theorem VL.below (h:VL X w B b sb n rm O lm E t)(hb:Below w.heap.size w w'):VL X w' B b sb n rm O lm E t:=by
 obtain⟨h',k,A,img,rs,r1,r2,st,rv,a1,a⟩:=h;exact⟨h',k,A,img,rs,r1,r2,st,rv,a1.below hb,a⟩
theorem VD.below (h:VD X w B b sb n O E)(hb:Below w.heap.size w w'):VD X w' B b sb n O E:=by
 obtain⟨h',k,r1,r2,fresh,st,a1,a⟩:=h;exact⟨h',k,r1,r2,fresh,st,a1.below hb,a⟩
theorem VL.off (h:VL X w B b sb n rm O lm E t)(ho:V.Off Mh w w'):VL X w' B b sb n rm O lm E t:=by
 obtain⟨h',k,A,img,rs,r1,r2,st,rv,a1,a⟩:=h;exact⟨h',k,A,img,rs,r1,r2,st,rv,⟨a1.live,a1.dev.off ho (by decide) (by decide) (by decide),V.Af.off a1.Md ho (by decide),jh a1.row ho,a1.hvb⟩,a⟩
theorem VD.off (h:VD X w B b sb n O E)(ho:V.Off Mh w w'):VD X w' B b sb n O E:=by
 obtain⟨h',k,r1,r2,fresh,st,a1,a⟩:=h;obtain⟨A,LV,rv,hv⟩:=a1.Md;exact⟨h',k,r1,r2,fresh,st,⟨a1.dead,a1.dev.off ho (by decide) (by decide) (by decide),⟨A,LV,rv,V.Af.off hv ho (by decide)⟩,a1.hvb⟩,a⟩
theorem VL.at (h:VL X w B b sb n rm O lm E t):∃F S A img rv,V.St.Ay X w sb b F S A E img rv true∧S≤100000∧A≤100000∧rm=(S:Int)-(A:Int):=by
 obtain⟨h',k,A,img,rs,r1,r2,st,rv,a1,a2,a3,a4,a5,a6⟩:=h;have h1:=a1.live.room;have h2:=a1.live.n2;exact⟨_,_,_,_,_,a1.Md,by omega,by omega,by rw[a5,a2]⟩
theorem VD.at (h:VD X w B b sb n O E):∃F S A E' img rv,V.St.Ay X w sb b F S A E' img rv false:=by
 obtain⟨h',k,r1,r2,fresh,st,a1,a⟩:=h;obtain⟨A,LV,rv,hv⟩:=a1.Md;exact⟨_,_,_,_,_,_,hv⟩
theorem VL.hB (h:VL X w B b sb n rm O lm E t):B≤sb∧sb<w.heap.size:=by
 obtain⟨h',k,A,img,rs,r1,r2,st,rv,a1,a⟩:=h;exact⟨a1.hvb,Ab a1.Md⟩
theorem VL.kn (h:VL X w B b sb n rm O false E t):∃k img rs st,V.Dev B w b st∧V.xU n (n/2) k E img rs st∧Cv (bl img) (rs.map bl) t∧rm=((n/2:Nat):Int)-((1+(V.BZ (V.recs (img::rs))).length:Nat):Int):=by
 obtain⟨h',k,A,img,rs,r1,r2,st,rv,a1,a2,a3,a4,a5,a6⟩:=h;have hk:=a1.live.kn a2;subst a2;exact⟨k,img,rs,st,a1.dev,hk,a4,by rw[a5,a1.live.end_]⟩
theorem VL.Im (v:Value)(l:List Int)(h:VL X w B b sb n rm O lm E t)(hv:CQ w v l)(hl:l.length≤9223372036854775807)(hB:B≤w.heap.size) :
 Calls Tryz.prog 42 #[Ag b,v] w fun e w'=>e=.returned (.tuple #[])∧(∃t' rm' E',KnD w' B b n t' rm' E'∧O t'∧E'≤E+1)∧Below B w w'∧AX w w':=by
 obtain⟨h',k,A,img,rs,r1,r2,st,rv,hL,hh,hne,ht,a5,a6⟩:=h;have h1:=hL.live.Yy;have h2:=hL.live.n2;have h3:=hL.live.hn;refine(V.Vj B b st v l w hL.dev hL.live.good (by omega) hv hl hB).mono ?_;rintro e w' ⟨rfl,hd,hb,ho⟩;have hD:=hL.live.dead [] ⟨#[]⟩;rw[Cz]at hD;obtain⟨t',rm',E',g1,g2,g3⟩:=Tn hD hh hL.live.h2 hL.live.n2 (by rw[←hL.live.all];exact hL.live.sizes) hne ⟨t,img,rs,hL.live.all.symm,ht⟩ (fun h0=>absurd rfl h0) l hd;exact⟨rfl,⟨t',rm',E',g1,a6 _ g2,g3⟩,hb,WG ho⟩
theorem VD.Im (v:Value)(l:List Int)(h:VD X w B b sb n O E)(hv:CQ w v l)(hl:l.length≤9223372036854775807)(hB:B≤w.heap.size) :
 Calls Tryz.prog 42 #[Ag b,v] w fun e w'=>e=.returned (.tuple #[])∧(∃t' rm' E',KnD w' B b n t' rm' E'∧O t'∧E'≤E+1)∧Below B w w'∧AX w w':=by
 obtain⟨h',k,r1,r2,fresh,st,hL,hh,h2,hn,hs,hne,hf,hg,a9⟩:=h;have h1:=hL.dead.IY;refine(V.Vj B b st v l w hL.dev hL.dead.good (by omega) hv hl hB).mono ?_;rintro e w' ⟨rfl,hd,hb,ho⟩;obtain⟨t',rm',E',g1,g2,g3⟩:=Tn hL.dead hh h2 hn hs hne hf hg l hd;exact⟨rfl,⟨t',rm',E',g1,a9 _ g2,g3⟩,hb,WG ho⟩
theorem VL.cut {N:Int}(h:VL X w B b sb n rm O lm E t)(h1:-9223372036854775808≤N)(h2:N≤9223372036854775807) :
 Calls Tryz.prog 11 #[Ag b,.int .i64 N] w fun e w'=>e=.returned (.tuple #[])∧VL X w' B b sb n rm O true E t∧Below B w w'∧AX w w':=by
 obtain⟨h',k,A,img,rs,r1,r2,st,rv,hL,a⟩:=h;refine(V.yO B b st N w hL.dev).mono ?_;rintro e w' ⟨rfl,hd,hb,ho⟩;exact⟨rfl,⟨h',k,A,img,rs,r1,r2,_,rv,⟨hL.live.cut h1 h2,hd,V.Af.KU hL.Md ho (by simp),hL.row.off ho.va,hL.hvb⟩,a⟩,hb,WG ho⟩
theorem VD.cut {N:Int}(h:VD X w B b sb n O E)(h1:-9223372036854775808≤N)(h2:N≤9223372036854775807) :
 Calls Tryz.prog 11 #[Ag b,.int .i64 N] w fun e w'=>e=.returned (.tuple #[])∧VD X w' B b sb n O E∧Below B w w'∧AX w w':=by
 obtain⟨h',k,r1,r2,fresh,st,hL,a⟩:=h;refine(V.yO B b st N w hL.dev).mono ?_;rintro e w' ⟨rfl,hd,hb,ho⟩;obtain⟨A,LV,rv,hv⟩:=hL.Md;exact⟨rfl,⟨h',k,r1,r2,fresh,_,⟨hL.dead.cut h1 h2,hd,⟨A,LV,rv,V.Af.KU hv ho (by simp)⟩,hL.hvb⟩,a⟩,hb,WG ho⟩
end
end Go.Proofs.YtdmkhmeaphaapaaGreat
namespace Go.Proofs.YtdmkhmeaphaapaaGreat
open Go.RowKit Go.Sort
theorem Vi:∀{C t:TI} (ds:List De),Jw C ds=some t→C.2≤t.2
 | C,t,[],h=>by
  obtain rfl:=BS h;exact Int.le_refl _
 | C,t,x::ds,h=>by
  rw[Ji]at h;split at h
  · have h3:=Pt C x;have h4:=Vi ds h;omega
  · cases h
theorem Cv.Ho {img:List UInt8}{rs:List (List UInt8)}{t:TI}(h:Cv img rs t):∀A:TI,Cj A→A.2≤9223372036854775807→BG A.1 A.2=img→A.2≤t.2:=fun A hA hx he=>by
 obtain⟨C,ds,c1,c2,c3,c4,c5,c6⟩:=h;obtain⟨h1,_,_⟩:=Sc c1 hA c2 hx (he.trans c3.symm);have h2:=Vi ds c6;omega
end Go.Proofs.YtdmkhmeaphaapaaGreat
