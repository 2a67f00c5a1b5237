/- Kit. -/
import Derived.Test.YtdmkhmeaphaapaaGreatCZ33
import Derived.Test.YtdmkhmeaphaapaaGreatCZ34
import Derived.Test.YtdmkhmeaphaapaaGreatCZ31
import Derived.Test.YtdmkhmeaphaapaaGreatCZ0
import Derived.Test.YtdmkhmeaphaapaaGreatCZ21
import Derived.Test.YtdmkhmeaphaapaaGreatCZ26
import Derived.Test.YtdmkhmeaphaapaaGreatCZ25
import Derived.Test.YtdmkhmeaphaapaaGreatCZ22
import Derived.Test.YtdmkhmeaphaapaaGreatCZ13
set_option maxRecDepth 100000
set_option linter.unusedVariables false
set_option linter.unusedSimpArgs false
namespace Go.Proofs.YtdmkhmeaphaapaaGreat.V
open Go.RowKit Go.Sort
def AaD (b fb sb:Nat)(s:ByteArray):List (Nat×Value):=[(47,.pointer (some ⟨fb,0,none⟩)),(110,.agg #[.pointer (some ⟨fb,0,none⟩),.string s]),(111,.pointer (some ⟨fb,0,none⟩)),(111,.pointer (some ⟨sb,0,none⟩)),(53,.pointer (some ⟨b,0,none⟩)),(52,.pointer (some ⟨fb,0,none⟩)),(52,.pointer (some ⟨sb,0,none⟩)),(54,.agg #[.pointer (some ⟨fb,0,none⟩),.string s]),(53,.pointer (some ⟨b,0,none⟩)),(112,.pointer (some ⟨fb,0,none⟩)),(53,.pointer (some ⟨b,0,none⟩))]
def FmX (B b n h:Nat)(st:St)(s:ByteArray)(q:Int)(W:World):Prop:=
 (n<4∧q=1∧Dev B W b st)∨(4≤n∧q≠0∧Df h 1 s=q∧Dev B W b st)∨(4≤n∧q=0∧Df h 1 s=0∧∃st',Dev B W b st'∧Dx n h false 1 (1+(s.size+61)/62) s [] [s] [] false st'∧st'.pend=[])
theorem vH {W:World}{hb:Nat}{T:TypeId}{b F S A E:Nat}{R:List Value}{k j:Nat}{x:Value}(h:Af W hb T b F S A E R)(hne:hb≠k):Af (W.setCell ⟨k,j,none⟩ x) hb T b F S A E R:=by
 unfold Af;rw[heap_setCell_other W ⟨k,j,none⟩ hb _ hne];exact h
theorem OA.fm {n h:Nat}{s:ByteArray}{i:Nat}{st:St}(hi:i≤10)(h0:OA n h s i st):∃p,p≤600∧NM n p st:=by
 rcases i with _ | _ | _ | _ | _ | _ | _ | _ | _ | _ | _|i
 · exact⟨_,by omega,h0⟩
 · exact⟨_,by omega,h0⟩
 · exact⟨_,by omega,h0⟩
 · exact⟨_,by omega,h0⟩
 · exact⟨_,by omega,h0.1⟩
 · exact⟨_,by omega,h0.1⟩
 · exact⟨_,by omega,h0.1⟩
 · exact⟨_,by omega,h0.1⟩
 · exact⟨_,by omega,h0.1⟩
 · exact⟨_,by omega,h0.1⟩
 · exact⟨_,by omega,h0.1⟩
 · omega
set_option maxHeartbeats 8000000 in
theorem kG {B b fb sb n h g:Nat}{st:St}{W:World}(s:ByteArray)(hd:Dev B W b st)(hF:NM n 0 st)(hh:n/2=h)(hn2:n≤400)(hs:s.size≤1000000)(hB:B≤W.heap.size)
 (hf:Af W fb 82 b 0 h 1 1 []) (hsb:Af W sb 82 b h h 1 0 []) (hne:fb≠sb) (hfB:B≤fb) (hg:Hr W g (AaD b fb sb s)) :
 Calls Tryz.prog 46 #[.slice (some ⟨g,0,none⟩) (11:Nat) (11:Nat)] W fun e w'=>∃q:Int,e=.returned (.int .i64 q)∧Below B W w'∧Off DT W w'∧FmX B b n h st s q w':=by
 have qK:82∉AZ:=by decide
 have keep:∀{W1 W2:World} {T:TypeId} {hb' F' S' A' E':Nat} {R':List Value},Af W1 hb' T b F' S' A' E' R'→Off AZ W1 W2→T∈[82,84,98]→Af W2 hb' T b F' S' A' E' R':=fun h1 h2 h3=>Af.KU h1 h2 h3
 refine(Na g 11 (AaD b fb sb s) W
  (fun i W'=>Below B W W'∧Off DT W W'∧Af W' fb 82 b 0 h (if i≤7 then 1 else 1+(s.size+61)/62) 1 []∧Af W' sb 82 b h h 1 0 []∧(1≤i→4≤n)∧(2≤i→Df h 1 s=0)∧∃st',Dev B W' b st'∧OA n h s i st'∧(i≤2→st'=st))
  (fun q W'=>Below B W W'∧Off DT W W'∧FmX B b n h st s q W')
  rfl (by decide) ?_ ⟨Ad _ _,Off.refl _ _,hf,hsb,by omega,by omega,st,hd,hF,fun _=>rfl⟩ ?_ ?_).mono ?_
 · intro k hk;simp only[AaD,List.mem_cons,List.mem_nil_iff,or_false]at hk;rcases hk with rfl|rfl|rfl|rfl|rfl|rfl|rfl|rfl|rfl|rfl|rfl
   · exact MJ
   · exact V7
   · exact Qm
   · exact Qm
   · exact Gb
   · exact Nf
   · exact Nf
   · exact Oo
   · exact Gb
   · exact V6
   · exact Gb
 · rintro i W' ⟨_,ho,_⟩;exact ho _ (by decide) _ _ _ hg
 · rintro i kk W' hk ⟨hb,ho,hf',hs',h4,hfit,st',hd',hi,hst⟩;have hBW:B≤W'.heap.size:=Ao hB hb.size;rcases i with _ | _ | _ | _ | _ | _ | _ | _ | _ | _ | _|i
   ·
    injection hk with hk;subst hk;have hst':=hst (by omega);subst hst';have hS:NM n 0 st':=hi;have hgo:=Cf hS.lim;have hlen:=hS.len;refine(Sn hf' hd' hS.good (by omega)).mono ?_;rintro e w' ⟨rfl,hbb⟩;refine⟨_,rfl,?_⟩;by_cases Kv:4≤n
    · have hq:FN st' 0 h=0:=by
       unfold FN;have:=E9 (k:=0) hgo (by omega);rw[this,if_pos rfl,if_neg (by omega)]
      exact Or.inl ⟨hq,hb.trans (hbb.mono hBW),ho.trans (Off.Ar hbb _),Af.below hf' hbb,Af.below hs' hbb,fun _=>Kv,by omega,st',hd'.below hbb,hS,fun _=>rfl⟩
    · have hq:FN st' 0 h=1:=by
       unfold FN;by_cases hn0:n=0
       · have:Fa st'.now.length st'.lim st'.left ((0:Nat):Int)=1:=by
          unfold Fa;unfold BJ at hgo;rw[hgo,if_neg (by simp),if_pos (by omega)]
         rw[this,if_neg (by decide)]
       · have:=E9 (k:=0) hgo (by omega);rw[this,if_pos rfl,if_pos (by omega)]
      rw[hq];exact Or.inr ⟨by decide,hb.trans (hbb.mono hBW),ho.trans (Off.Ar hbb _),Or.inl ⟨by omega,rfl,hd'.below hbb⟩⟩
   ·
    injection hk with hk;subst hk;have hst':=hst (by omega);subst hst';have hS:NM n 0 st':=hi;have Kv:=h4 (by omega);refine(TJ s hf' (by omega) (by simp) (by omega)).mono ?_;rintro e w' ⟨rfl,hbb⟩;refine⟨_,rfl,?_⟩;by_cases hq:Df h 1 s=0
    · exact Or.inl ⟨hq,hb.trans (hbb.mono hBW),ho.trans (Off.Ar hbb _),Af.below hf' hbb,Af.below hs' hbb,fun _=>Kv,fun _=>hq,st',hd'.below hbb,hS,fun _=>rfl⟩
    · exact Or.inr ⟨hq,hb.trans (hbb.mono hBW),ho.trans (Off.Ar hbb _),Or.inr (Or.inl ⟨Kv,hq,rfl,hd'.below hbb⟩)⟩
   ·
    injection hk with hk;subst hk;have Kv:=h4 (by omega);obtain⟨f1,f2,f3⟩:=Ep (hfit (by omega));obtain⟨p,hp,hS⟩:=OA.fm (by omega) hi;have hpz:=hS.IY;have hlen:=hS.len;have hgo:=Cf hS.lim;have bN:Af W' fb 82 b 0 h 1 1 []:=hf';refine(aP (B:=B) (Ps:=fun q w1=>HdP B b st' 0 0 q w1∧Below B W' w1∧Off AZ W' w1) bN qK (fun W2 hW2=>?_)).mono ?_
    · refine(Ky (hd'.below hW2) hS.good (by omega) (by omega) (Ao hBW hW2.size) (by decide)).mono ?_;rintro e w' ⟨q,he,⟨h1,h3,h4⟩,h5⟩;exact⟨q,he,⟨h1,(hW2.mono hBW).trans h3,(Off.Ar hW2 _).trans h4⟩,h5⟩
    · rintro e w' ⟨q,rfl,hq,hbb,Ee⟩;refine⟨q,rfl,?_⟩;rcases hq with⟨rfl,hgo',_⟩|⟨rfl,_,hd2⟩
      · rw[hgo]at hgo';cases hgo'
      · exact Or.inl ⟨rfl,hb.trans hbb,ho.trans Ee.va,keep hf' Ee (by simp),keep hs' Ee (by simp),fun _=>Kv,fun _=>hfit (by omega),_,hd2,qY hi (by omega) (by omega),by omega⟩
   ·
    injection hk with hk;subst hk;have Kv:=h4 (by omega);obtain⟨f1,f2,f3⟩:=Ep (hfit (by omega));obtain⟨p,hp,hS⟩:=OA.fm (by omega) hi;have hpz:=hS.IY;have hlen:=hS.len;have hgo:=Cf hS.lim;have bN:Af W' fb 82 b 0 h 1 1 []:=hf';refine(aP (B:=B) (Ps:=fun q w1=>HdP B b st' h 0 q w1∧Below B W' w1∧Off AZ W' w1) hs' qK (fun W2 hW2=>?_)).mono ?_
    · refine(Ky (hd'.below hW2) hS.good (by omega) (by omega) (Ao hBW hW2.size) (by decide)).mono ?_;rintro e w' ⟨q,he,⟨h1,h3,h4⟩,h5⟩;exact⟨q,he,⟨h1,(hW2.mono hBW).trans h3,(Off.Ar hW2 _).trans h4⟩,h5⟩
    · rintro e w' ⟨q,rfl,hq,hbb,Ee⟩;refine⟨q,rfl,?_⟩;rcases hq with⟨rfl,hgo',_⟩|⟨rfl,_,hd2⟩
      · rw[hgo]at hgo';cases hgo'
      · exact Or.inl ⟨rfl,hb.trans hbb,ho.trans Ee.va,keep hf' Ee (by simp),keep hs' Ee (by simp),fun _=>Kv,fun _=>hfit (by omega),_,hd2,qX hi (by omega) (by omega),by omega⟩
   ·
    injection hk with hk;subst hk;have Kv:=h4 (by omega);obtain⟨f1,f2,f3⟩:=Ep (hfit (by omega));obtain⟨p,hp,hS⟩:=OA.fm (by omega) hi;have hpz:=hS.IY;have hlen:=hS.len;have hgo:=Cf hS.lim;have bN:Af W' fb 82 b 0 h _ 1 []:=hf';refine(IJ hd' hS.good (by omega) hBW).mono ?_;rintro e w' ⟨q,rfl,hq,hbb,Ee⟩;refine⟨q,rfl,?_⟩;rcases hq with⟨rfl,hgo',_⟩|⟨rfl,_,hd2⟩
    · rw[hgo]at hgo';cases hgo'
    · exact Or.inl ⟨rfl,hb.trans hbb,ho.trans Ee.va,keep hf' Ee (by simp),keep hs' Ee (by simp),fun _=>Kv,fun _=>hfit (by omega),_,hd2,kJ hi,by omega⟩
   ·
    injection hk with hk;subst hk;have Kv:=h4 (by omega);obtain⟨f1,f2,f3⟩:=Ep (hfit (by omega));obtain⟨p,hp,hS⟩:=OA.fm (by omega) hi;have hpz:=hS.IY;have hlen:=hS.len;have hgo:=Cf hS.lim;have bN:Af W' fb 82 b 0 h 1 1 []:=hf';refine(Wu (B:=B) (Ps:=fun q w1=>WpP B b st' 0 1 h q w1∧Below B W' w1∧Off AZ W' w1) bN qK (fun W2 hW2=>?_)).mono ?_
    · refine(Rp (hd'.below hW2) hS.good (by omega) (by omega) (Ae _) (by omega) (by omega) (Ao hBW hW2.size)).mono ?_;rintro e w' ⟨q,he,⟨h1,h3,h4⟩,h5⟩;exact⟨q,he,⟨h1,(hW2.mono hBW).trans h3,(Off.Ar hW2 _).trans h4⟩,h5⟩
    · rintro e w' ⟨q,rfl,hq,hbb,Ee⟩;refine⟨q,rfl,?_⟩;rcases hq with⟨rfl,hgo',_⟩|⟨j,hj,hc,hr,hd2⟩
      · rw[hgo]at hgo';cases hgo'
      · rcases hc with⟨rfl,rfl⟩|⟨rfl,hgo'⟩
        · exact Or.inl ⟨rfl,hb.trans hbb,ho.trans Ee.va,keep hf' Ee (by simp),keep hs' Ee (by simp),fun _=>Kv,fun _=>hfit (by omega),_,hd2,qW hi (by omega) (by omega) hn2,by omega⟩
        · rw[Cf (((H9 hS.good j (by omega) hr).2.1).trans hS.lim)]at hgo';cases hgo'
   ·
    injection hk with hk;subst hk;have Kv:=h4 (by omega);obtain⟨f1,f2,f3⟩:=Ep (hfit (by omega));obtain⟨p,hp,hS⟩:=OA.fm (by omega) hi;have hpz:=hS.IY;have hlen:=hS.len;have hgo:=Cf hS.lim;have bN:Af W' fb 82 b 0 h 1 1 []:=hf';refine(Wu (B:=B) (Ps:=fun q w1=>WpP B b st' h 1 h q w1∧Below B W' w1∧Off AZ W' w1) hs' qK (fun W2 hW2=>?_)).mono ?_
    · refine(Rp (hd'.below hW2) hS.good (by omega) (by omega) (Ae _) (by omega) (by omega) (Ao hBW hW2.size)).mono ?_;rintro e w' ⟨q,he,⟨h1,h3,h4⟩,h5⟩;exact⟨q,he,⟨h1,(hW2.mono hBW).trans h3,(Off.Ar hW2 _).trans h4⟩,h5⟩
    · rintro e w' ⟨q,rfl,hq,hbb,Ee⟩;refine⟨q,rfl,?_⟩;rcases hq with⟨rfl,hgo',_⟩|⟨j,hj,hc,hr,hd2⟩
      · rw[hgo]at hgo';cases hgo'
      · rcases hc with⟨rfl,rfl⟩|⟨rfl,hgo'⟩
        · exact Or.inl ⟨rfl,hb.trans hbb,ho.trans Ee.va,keep hf' Ee (by simp),keep hs' Ee (by simp),fun _=>Kv,fun _=>hfit (by omega),_,hd2,qV hi (by omega) (by omega) hn2,by omega⟩
        · rw[Cf (((H9 hS.good j (by omega) hr).2.1).trans hS.lim)]at hgo';cases hgo'
   ·
    injection hk with hk;subst hk;have Kv:=h4 (by omega);obtain⟨f1,f2,f3⟩:=Ep (hfit (by omega));obtain⟨p,hp,hS⟩:=OA.fm (by omega) hi;have hpz:=hS.IY;have hlen:=hS.len;have hgo:=Cf hS.lim;have bN:Af W' fb 82 b 0 h 1 1 []:=hf';have hfl:=CP s;refine(TL s (Ps:=fun x q w1=>WrP B b st' 0 1 h s x q w1∧Below B W' w1∧Off AZ W' w1) bN qK (fun W2 hW2=>?_)).mono ?_
    · refine(RV (hd'.below hW2) hS.good (by omega) (by omega) (Ae _) (by omega) (by omega) (by omega) (Ao hBW hW2.size)).mono ?_;rintro e w' ⟨x,q,he,⟨h1,h3,h4⟩,h5⟩;exact⟨x,q,he,⟨h1,(hW2.mono hBW).trans h3,(Off.Ar hW2 _).trans h4⟩,h5⟩
    · rintro e w' ⟨x,q,w1,rfl,⟨hwr,hbb,Ee⟩,hn1,hq⟩;refine⟨q,rfl,?_⟩;rcases hwr with⟨rfl,hgo',_⟩|⟨h1,MC,_,hft,_⟩|⟨hft,j,hj,hc,hr,hd2⟩
      · rw[hgo]at hgo';cases hgo'
      · rw[hfit (by omega)]at hft;exact absurd hft.symm h1
      · rcases hc with⟨rfl,rfl,rfl⟩|⟨rfl,hgo'⟩
        · rcases hq with⟨_,rfl⟩|⟨h1,_⟩
          · have htl:(BF s).take ((s.size+61)/62)=BF s:=CV (by rw[hfl];exact Ae _);rw[htl]at hd2;have hset:Off DT w1 (w1.setCell ⟨fb,3,none⟩ (.int .i64 ((1+(s.size+61)/62:Nat):Int))):=RZ hn1 (by decide);exact Or.inl ⟨rfl,(hb.trans hbb).setCell (p:=⟨fb,3,none⟩) hfB _,(ho.trans Ee.va).trans hset,hn1.WJ _,vH (keep hs' Ee (by simp)) (fun e=>hne e.symm),fun _=>Kv,fun _=>hfit (by omega),_,hd2.Mc hn1 (by simp),qU hi (by omega) (by omega) hn2 f3,by omega⟩
          · exact absurd rfl h1
        · have hlim:=oG hS.good (by rw[Cc,hfl];omega) (fun f hf=>EB s f (List.mem_of_mem_take hf)) hr;rw[Cf (hlim.trans hS.lim)]at hgo';cases hgo'
   ·
    injection hk with hk;subst hk;have Kv:=h4 (by omega);obtain⟨f1,f2,f3⟩:=Ep (hfit (by omega));obtain⟨p,hp,hS⟩:=OA.fm (by omega) hi;have hpz:=hS.IY;have hlen:=hS.len;have hgo:=Cf hS.lim;have bN:Af W' fb 82 b 0 h _ 1 []:=hf';refine(IJ hd' hS.good (by omega) hBW).mono ?_;rintro e w' ⟨q,rfl,hq,hbb,Ee⟩;refine⟨q,rfl,?_⟩;rcases hq with⟨rfl,hgo',_⟩|⟨rfl,_,hd2⟩
    · rw[hgo]at hgo';cases hgo'
    · exact Or.inl ⟨rfl,hb.trans hbb,ho.trans Ee.va,keep hf' Ee (by simp),keep hs' Ee (by simp),fun _=>Kv,fun _=>hfit (by omega),_,hd2,kI hi,by omega⟩
   ·
    injection hk with hk;subst hk;have Kv:=h4 (by omega);obtain⟨f1,f2,f3⟩:=Ep (hfit (by omega));obtain⟨p,hp,hS⟩:=OA.fm (by omega) hi;have hpz:=hS.IY;have hlen:=hS.len;have hgo:=Cf hS.lim;have bN:Af W' fb 82 b 0 h (1+(s.size+61)/62) 1 []:=hf';refine(nP (B:=B) (Ps:=fun q w1=>HdP B b st' 0 1 q w1∧Below B W' w1∧Off AZ W' w1) bN qK (fun W2 hW2=>?_)).mono ?_
    · refine(Ky (hd'.below hW2) hS.good (by omega) (by omega) (Ao hBW hW2.size) (by decide)).mono ?_;rintro e w' ⟨q,he,⟨h1,h3,h4⟩,h5⟩;exact⟨q,he,⟨h1,(hW2.mono hBW).trans h3,(Off.Ar hW2 _).trans h4⟩,h5⟩
    · rintro e w' ⟨q,rfl,hq,hbb,Ee⟩;refine⟨q,rfl,?_⟩;rcases hq with⟨rfl,hgo',_⟩|⟨rfl,_,hd2⟩
      · rw[hgo]at hgo';cases hgo'
      · exact Or.inl ⟨rfl,hb.trans hbb,ho.trans Ee.va,keep hf' Ee (by simp),keep hs' Ee (by simp),fun _=>Kv,fun _=>hfit (by omega),_,hd2,xE hi (by omega) (by omega) hn2,by omega⟩
   ·
    injection hk with hk;subst hk;have Kv:=h4 (by omega);obtain⟨f1,f2,f3⟩:=Ep (hfit (by omega));obtain⟨p,hp,hS⟩:=OA.fm (by omega) hi;have hpz:=hS.IY;have hlen:=hS.len;have hgo:=Cf hS.lim;have bN:Af W' fb 82 b 0 h _ 1 []:=hf';refine(IJ hd' hS.good (by omega) hBW).mono ?_;rintro e w' ⟨q,rfl,hq,hbb,Ee⟩;refine⟨q,rfl,?_⟩;rcases hq with⟨rfl,hgo',_⟩|⟨rfl,_,hd2⟩
    · rw[hgo]at hgo';cases hgo'
    · exact Or.inl ⟨rfl,hb.trans hbb,ho.trans Ee.va,keep hf' Ee (by simp),keep hs' Ee (by simp),fun _=>Kv,fun _=>hfit (by omega),_,hd2,kH hi (by omega) (by omega) hn2 f1 f2 f3,by omega⟩
   · cases hk
 · rintro e w' ⟨q,rfl,⟨rfl,hb,ho,_,_,h4,hfit,st',hd',hi,_⟩|⟨_,hb,ho,hx⟩⟩
   · exact⟨0,rfl,hb,ho,Or.inr (Or.inr ⟨h4 (by omega),rfl,hfit (by omega),st',hd',hi⟩)⟩
   · exact⟨q,rfl,hb,ho,hx⟩
theorem Rf (w:World)(A B C D:Obj):((((w.alloc A).alloc B).alloc C).alloc D).heap[w.heap.size+1+1+1]?=some D:=by
 have h:=Ai (((w.alloc A).alloc B).alloc C) D;simpa using h
set_option maxHeartbeats 4000000 in
theorem qP {B b n h:Nat}{st:St}{w:World}(s:ByteArray)(hd:Dev B w b st)(hF:NM n 0 st)(hh:n/2=h)(hn2:n≤400)(hs:s.size≤1000000)(hB:B≤w.heap.size) :
 Calls Tryz.prog 71 #[.pointer (some ⟨b,0,none⟩),.string s] w fun e w'=>∃q:Int,e=.returned (.int .i64 q)∧Below B w w'∧Off DT w w'∧FmX B b n h st s q w':=by
 have HD:=Aa hd;have HF:=Aa hF;obtain⟨a,cap,hc⟩:=hd.Rw;rw[hF.len]at hc;have cH:=Zc b n cap a w hc (by omega);rw[hh]at cH;unfold Y1 at cH;have HH:=Aa hh;have JV:=Aa hB;have HDO:Hid (∀w1,Below w.heap.size w w1→Calls Tryz.prog 46 #[.slice (some ⟨w1.heap.size+1+1+1,0,none⟩) (11:Nat) (11:Nat)] ((((w1.alloc (.cells #[.pointer (some ⟨b,0,none⟩),.int .i64 0,.int .i64 h,.int .i64 1,.int .u64 1] 82)).alloc (.cells #[.pointer (some ⟨b,0,none⟩),.int .i64 h,.int .i64 h,.int .i64 1,.int .u64 0] 82)).alloc (.cells #[.pointer (some ⟨w1.heap.size,0,none⟩),.string s] 119)).alloc (.cells #[.func (.func 47) #[.pointer (some ⟨w1.heap.size,0,none⟩)] #[],.func (.func 110) #[.agg #[.pointer (some ⟨w1.heap.size,0,none⟩),.string s]] #[],.func (.func 111) #[.pointer (some ⟨w1.heap.size,0,none⟩)] #[],.func (.func 111) #[.pointer (some ⟨w1.heap.size+1,0,none⟩)] #[],.func (.func 53) #[.pointer (some ⟨b,0,none⟩)] #[],.func (.func 52) #[.pointer (some ⟨w1.heap.size,0,none⟩)] #[],.func (.func 52) #[.pointer (some ⟨w1.heap.size+1,0,none⟩)] #[],.func (.func 54) #[.agg #[.pointer (some ⟨w1.heap.size,0,none⟩),.string s]] #[],.func (.func 53) #[.pointer (some ⟨b,0,none⟩)] #[],.func (.func 112) #[.pointer (some ⟨w1.heap.size,0,none⟩)] #[],.func (.func 53) #[.pointer (some ⟨b,0,none⟩)] #[]] 169)) fun e w'=>∃q:Int,e=.returned (.int .i64 q)∧Below B w w'∧Off DT w w'∧FmX B b n h st s q w'):=Aa (fun w1 hb1=>by
  have hz:=hb1.size;have hB2:Below w.heap.size w ((((w1.alloc (.cells #[.pointer (some ⟨b,0,none⟩),.int .i64 0,.int .i64 h,.int .i64 1,.int .u64 1] 82)).alloc (.cells #[.pointer (some ⟨b,0,none⟩),.int .i64 h,.int .i64 h,.int .i64 1,.int .u64 0] 82)).alloc (.cells #[.pointer (some ⟨w1.heap.size,0,none⟩),.string s] 119)).alloc (.cells #[.func (.func 47) #[.pointer (some ⟨w1.heap.size,0,none⟩)] #[],.func (.func 110) #[.agg #[.pointer (some ⟨w1.heap.size,0,none⟩),.string s]] #[],.func (.func 111) #[.pointer (some ⟨w1.heap.size,0,none⟩)] #[],.func (.func 111) #[.pointer (some ⟨w1.heap.size+1,0,none⟩)] #[],.func (.func 53) #[.pointer (some ⟨b,0,none⟩)] #[],.func (.func 52) #[.pointer (some ⟨w1.heap.size,0,none⟩)] #[],.func (.func 52) #[.pointer (some ⟨w1.heap.size+1,0,none⟩)] #[],.func (.func 54) #[.agg #[.pointer (some ⟨w1.heap.size,0,none⟩),.string s]] #[],.func (.func 53) #[.pointer (some ⟨b,0,none⟩)] #[],.func (.func 112) #[.pointer (some ⟨w1.heap.size,0,none⟩)] #[],.func (.func 53) #[.pointer (some ⟨b,0,none⟩)] #[]] 169)):=(((hb1.alloc hb1.size _).alloc (by simp<;>omega) _).alloc (by simp<;>omega) _).alloc (by simp<;>omega) _;have h1:=kG (B:=B) (b:=b) (n:=n) (h:=h) (st:=st) (fb:=w1.heap.size) (sb:=w1.heap.size+1) (g:=w1.heap.size+1+1+1) (W:=(((w1.alloc (.cells #[.pointer (some ⟨b,0,none⟩),.int .i64 0,.int .i64 h,.int .i64 1,.int .u64 1] 82)).alloc (.cells #[.pointer (some ⟨b,0,none⟩),.int .i64 h,.int .i64 h,.int .i64 1,.int .u64 0] 82)).alloc (.cells #[.pointer (some ⟨w1.heap.size,0,none⟩),.string s] 119)).alloc (.cells #[.func (.func 47) #[.pointer (some ⟨w1.heap.size,0,none⟩)] #[],.func (.func 110) #[.agg #[.pointer (some ⟨w1.heap.size,0,none⟩),.string s]] #[],.func (.func 111) #[.pointer (some ⟨w1.heap.size,0,none⟩)] #[],.func (.func 111) #[.pointer (some ⟨w1.heap.size+1,0,none⟩)] #[],.func (.func 53) #[.pointer (some ⟨b,0,none⟩)] #[],.func (.func 52) #[.pointer (some ⟨w1.heap.size,0,none⟩)] #[],.func (.func 52) #[.pointer (some ⟨w1.heap.size+1,0,none⟩)] #[],.func (.func 54) #[.agg #[.pointer (some ⟨w1.heap.size,0,none⟩),.string s]] #[],.func (.func 53) #[.pointer (some ⟨b,0,none⟩)] #[],.func (.func 112) #[.pointer (some ⟨w1.heap.size,0,none⟩)] #[],.func (.func 53) #[.pointer (some ⟨b,0,none⟩)] #[]] 169)) s (hd.below hB2) hF hh hn2 hs (Ao hB hB2.size) (by unfold Af;rw[Ct _ _ _ (by simp<;>omega),Ct _ _ _ (by simp<;>omega),Ct _ _ _ (by simp)];exact Ai _ _) (by unfold Af;rw[Ct _ _ _ (by simp<;>omega),Ct _ _ _ (by simp)];exact heap_alloc2_new _ _ _) (by omega) (by omega) (Rf _ _ _ _ _);refine h1.mono ?_;rintro e w' ⟨q,he,hb,ho,hx⟩;exact⟨q,he,(hB2.mono hB).trans hb,(Off.Ar hB2 _).trans ho,hx⟩)
 clear hd hF hc hh;go_enter Tryz.func71,Tryz.ntmps71;go_wp2_with fail;refine cH.mono ?_;rintro e w1 ⟨rfl,hb1⟩;have HB1:=Aa hb1;clear hb1 cH;go_wp2_with fail;refine(HDO.out w1 HB1.out).mono ?_;rintro e w3 ⟨q,rfl,hb3,ho3,hx⟩;have HB3:=Aa hb3;have Jf:=Aa ho3;have HX:=Aa hx;clear hb3 ho3 hx;go_wp2;go_ret;exact⟨q,rfl,HB3.out,Jf.out,HX.out⟩
theorem fI (rs:List ByteArray):(recs rs).map mkS=rs:=by
 unfold recs Ac;rw[List.map_map];exact(List.map_congr_left fun s _=>rfl).trans (List.map_id _)
theorem oC {a b:List ByteArray}(h:recs a=recs b):a=b:=by rw[←fI a,h,fI]
structure xU (n h:Nat)(k:Bool)(E:Nat)(img:ByteArray)(rs:List ByteArray)(st:St):Prop where
 good:Good st
 lim:st.lim=false
 len:st.now.length=n
 half:n/2=h
 h2:2≤h
 n2:n≤400
 IY:st.pend.length≤500
 pick:I8 h st.now=k
 read:FO h st.now=recs (img::rs)
 ep:AO (st.now.getD (BH h k) ⟨#[]⟩)=E
 WW:AO (st.now.getD (BH h (!k)) ⟨#[]⟩)<E
section
variable {B b vb n h:Nat}{k:Bool}{E A:Nat}{img fresh:ByteArray}{rs r1 r2:List ByteArray}{st:St}{rv:Value}{w:World}
theorem Dx.kn (hL:Dx n h k E A img rs r1 r2 false st)(hh:n/2=h):xU n h k E img rs st:=by
 have h1:=hL.Yy;have h2:=hL.n2;have h3:=hL.hn;refine⟨hL.good,hL.lim rfl,hL.len,hh,hL.h2,hL.n2,by omega,hL.Tc.pick,?_,hL.ep,hL.WW⟩;unfold FO;rw[hL.Tc.pick];exact hL.hold.scan hL.sizes
theorem IX.kn (hD:IX n h k E r1 r2 fresh st)(l:List Int)(hh:n/2=h)(h2:2≤h)(hn2:n≤400)(hs:∀s∈r1++r2,1≤s.size∧s.size≤60000)(hne:r1≠[]) :
 ∃k' E' LV rs',xU n h k' E' LV rs' (Dm st l)∧E'≤E+1∧((∃y,y <+: r2∧LV::rs'=r1++y)∨(fresh.size≠0∧LV=fresh∧rs'=[])):=by
 obtain⟨g1,g2,g3,g4,g5⟩:=hD.Im l;obtain⟨k',E',LV,rs',e1,e2,e3,e4,e5,e6⟩:=g5.read hs hne;exact⟨k',E',LV,rs',⟨g1,g2,g3,hh,h2,hn2,by rw[g4];simp,e1,e2,e3,e4⟩,e5,e6⟩
def ReX (B b n h:Nat)(k:Bool)(E:Nat)(img:ByteArray)(rs:List ByteArray)(w:World)(e:Ending)(w':World):Prop:=
 ∃vb rv st',e=.returned (.tuple #[.pointer (some ⟨vb,0,none⟩),.int .i64 0])∧Below B w w'∧(Off DT w w'∧Gt w.heap.size w w')∧w.heap.size≤vb∧CX w.heap.size w' rv rs∧FT B b vb n h k E (1+(BZ (recs (img::rs))).length) img rs (img::rs) [] false st' rv w'∧st'.pend=[]
theorem oo (hd:Dev B w b st)(hK:xU n h k E img rs st)(hB:B≤w.heap.size):Calls Tryz.prog 22 #[.pointer (some ⟨b,0,none⟩)] w (ReX B b n h k E img rs w):=by
 have h2:=hK.h2;have hh:=hK.half;refine(ve hd hK.good hK.lim hK.len hK.half hK.n2 hK.IY hB).mono ?_;rintro e w' ⟨hb,ho,⟨h4,_⟩|⟨_,hV,_⟩|⟨_,_,vb,A,LV,rs',rv,rfl,hvb,hO⟩⟩
 · omega
 · have hE:AO (st.now.getD (BH h k) ⟨#[]⟩)≠0:=by have:=hK.WW;have:=hK.ep;omega
   rw[Tt hK.pick hE,hK.read]at hV;cases hV
 · have hrd:=hO.rd;rw[hK.read]at hrd;have hli:=oC hrd;injection hli with e1 e2;subst e1 e2;have hOl:=hO;rw[hK.pick,hK.ep]at hOl;obtain⟨gU,hL⟩:=jC hK.good hK.lim hK.len hK.h2 (by omega) hK.n2 hK.pick hK.read hK.ep hK.WW hO.end_;have hA:=hO.end_;subst hA;exact⟨vb,rv,_,rfl,hb,ho,hvb,hOl.row,⟨hL,hOl.dev,hOl.Md,hOl.row.base hB,Ao hB hvb⟩,rfl⟩
theorem AbM (n:Nat)(hn:n≤400):NM n 0 (Hz n):=⟨xB n (by omega),by simp[Hz],rfl,by simp[Hz]⟩
end
end Go.Proofs.YtdmkhmeaphaapaaGreat.V
namespace Go.Proofs.YtdmkhmeaphaapaaGreat
open Go.RowKit Go.Sort
def bl (s:ByteArray):List UInt8:=s.data.toList
def MoB (x:List ByteArray)(t:TI):Prop:=∃img rs,x=img::rs∧Cv (bl img) (rs.map bl) t
theorem MoB.pre {a b:List ByteArray}{t:TI}(h:MoB (a++b) t)(ha:a≠[]):∃u,MoB a u:=by
 obtain⟨img,rs,h1,h2⟩:=h;cases a with
 | nil=>exact absurd rfl ha
 | cons x a =>
  rw[List.cons_append]at h1;obtain⟨rfl,rfl⟩:=List.cons.inj h1;rw[List.map_append]at h2;obtain⟨u,hu⟩:=h2.pre;exact⟨u,x,a,rfl,hu⟩
def PH (r1 r2:List ByteArray)(fresh:ByteArray):TI→Prop:=fun u=>(∃y,y <+: r2∧MoB (r1++y) u)∨(fresh.size≠0∧Cv (bl fresh) [] u)
def KnD (w:World)(B b n:Nat)(t:TI)(rm:Int)(E:Nat):Prop:=
 ∃k img rs st,V.Dev B w b st∧V.xU n (n/2) k E img rs st∧Cv (bl img) (rs.map bl) t∧rm=((n/2:Nat):Int)-((1+(V.BZ (V.recs (img::rs))).length:Nat):Int)
section
variable {B b vb n h:Nat}{k:Bool}{E A:Nat}{img fresh:ByteArray}{rs r1 r2:List ByteArray}{lm:Bool}{st:V.St}{rv:Value}{w:World}
theorem Tn (hd:V.IX n h k E r1 r2 fresh st)(hh:n/2=h)(h2:2≤h)(hn:n≤400)(hs:∀s∈r1++r2,1≤s.size∧s.size≤60000)(hne:r1≠[])(hf:∃t,MoB (r1++r2) t)(hg:fresh.size≠0→∃t,Cv (bl fresh) [] t)
 {w':World} (l:List Int) (hD:V.Dev B w' b (V.Dm st l)):∃t rm E',KnD w' B b n t rm E'∧PH r1 r2 fresh t∧E'≤E+1:=by
 obtain⟨k',E',LV,rs',hk,hE,hy⟩:=hd.kn l hh h2 hn hs hne;subst hh;rcases hy with⟨y,hy,he⟩|⟨h0,rfl,rfl⟩
 · obtain⟨t,ht⟩:=hf;obtain⟨z,rfl⟩:=hy;rw[←Ch]at ht;obtain⟨u,i2,r',e2,hu⟩:=ht.pre (by intro e;exact hne (List.append_eq_nil_iff.1 e).1);rw[←he]at e2;obtain⟨rfl,rfl⟩:=List.cons.inj e2;exact⟨u,_,E',⟨k',_,_,_,hD,hk,hu,rfl⟩,Or.inl ⟨y,List.prefix_append _ _,_,_,he.symm,hu⟩,hE⟩
 · obtain⟨t,ht⟩:=hg h0;exact⟨t,_,E',⟨k',_,_,_,hD,hk,ht,rfl⟩,Or.inr ⟨h0,ht⟩,hE⟩
end
theorem PH.snoc {r1 r2:List ByteArray}{s:ByteArray}{t':TI}{img:ByteArray}{rs:List ByteArray}(hall:img::rs=r1++r2)(ht:Cv (bl img) ((rs++[s]).map bl) t'):∀u,PH r1 (r2++[s]) ⟨#[]⟩ u→PH r1 r2 ⟨#[]⟩ u∨Ce t' u:=fun u hu=>by
 rcases hu with⟨y,hy,hm⟩|⟨h0,_⟩
 · rcases List.prefix_concat_iff.1 hy with rfl|hy
   · refine Or.inr ?_;obtain⟨i2,r',e2,hu⟩:=hm;rw[←Ch,←hall]at e2;obtain⟨rfl,rfl⟩:=List.cons.inj e2.symm;exact ht.one hu
   · exact Or.inl (Or.inl ⟨y,hy,hm⟩)
 · exact absurd rfl h0
theorem PH.all {r:List ByteArray}{t:TI}{img:ByteArray}{rs:List ByteArray}(hall:r=img::rs)(ht:Cv (bl img) (rs.map bl) t):∀u,PH r [] ⟨#[]⟩ u→Ce t u:=fun u hu=>by
 rcases hu with⟨y,hy,hm⟩|⟨h0,_⟩
 · obtain rfl:=List.prefix_nil.1 hy;rw[Cz,hall]at hm;obtain⟨i2,r',e2,hu⟩:=hm;obtain⟨rfl,rfl⟩:=List.cons.inj e2;exact ht.one hu
 · exact absurd rfl h0
end Go.Proofs.YtdmkhmeaphaapaaGreat
namespace Go.Proofs.YtdmkhmeaphaapaaGreat
open Go.RowKit Go.Sort
def Mh:List TypeId:=[195,31,105,33,41]
def JD:List TypeId:=[195,31,105,33,41,96,112,3]
def AX (w w':World):Prop:=∀T∈JD,∀(k:Nat) (cs:Array Value) (fr:Nat×Nat),w.heap[k]?=some (.cells cs T fr)→w'.heap[k]?=some (.cells cs T fr)
theorem AX.trans {a b c:World}(h:AX a b)(h':AX b c):AX a c:=fun T hT k cs fr hk=>h' T hT k cs fr (h T hT k cs fr hk)
theorem AX.Ar {a b:World}(h:Below a.heap.size a b):AX a b:=fun T hT k cs fr hk=>by rw[h.block k (Ab hk)];exact hk
theorem Bi.EO {w w':World}{v:Value}{l:List Az}(h:Bi w v l)(hk:AX w w')(hs:w.heap.size≤w'.heap.size):Bi w' v l:=by
 have hb:∀g,v.ownBlock=some g→w'.heap[g]?=w.heap[g]?:=fun g hg=>by
  obtain⟨cs,hc⟩:=h.2 g hg;rw[hk _ (by simp[JD]) _ _ _ hc,hc]
 exact⟨h.1.only hs hb,fun g hg=>by
  obtain⟨cs,hc⟩:=h.2 g hg;exact⟨cs,hk _ (by simp[JD]) _ _ _ hc⟩⟩
theorem iQ {w w':World}{b:Nat}{l:List Az}{nx:Int}{S:Nat→Prop}(h:Bl.Is w b l nx S)(hk:AX w w')(hs:w.heap.size≤w'.heap.size):Bl.Is w' b l nx S:=by
 refine Bl.kept h hs fun k hS=>?_
 obtain⟨R,u,v,ys,hm,ho,hg,rfl⟩:=h;have key:∃T cs',w.heap[k]?=some (.cells cs' T (0,0))∧(T=96∨T=112∨T=3):=by
  rcases hS with rfl|⟨n,hn,hg⟩|hg
  · obtain⟨cs',h1,_⟩:=hm.cells;exact⟨_,cs',h1,Or.inl rfl⟩
  · obtain⟨cs',h1⟩:=CJ (hm.rows n hn) hg;exact⟨_,cs',h1,Or.inr (Or.inl rfl)⟩
  · obtain⟨cs',h1⟩:=CJ hm.own hg;exact⟨_,cs',h1,Or.inr (Or.inr rfl)⟩
 obtain⟨T,cs',h1,h2⟩:=key;rw[h1];exact hk T (by rcases h2 with rfl|rfl|rfl<;>simp[JD]) _ _ _ h1
theorem M5 {w w':World}(h:Below w.heap.size w w')(ex:List TypeId):Off ex w w':=fun T hT k cs fr hk=>by rw[h.block k (Ab hk)];exact hk
theorem Yn {a b:TI}(h:Ce a b)(ha:Cj a)(hb:Cj b)(sz rm:Int)(x:De) :
 (Ck b sz rm x).2=(Ck a sz rm x).2∧(Ck b sz rm x).1.2=(Ck a sz rm x).1.2∧Ce (Ck a sz rm x).1.1 (Ck b sz rm x).1.1:=by
 obtain⟨h1,h2⟩:=gu h ha hb x;have h3:BG b.1 b.2=BG a.1 a.2:=by
  have h4:=h.2;obtain⟨a1,a2⟩:=a;obtain⟨b1,b2⟩:=b;simp only at h4 ⊢;subst h4;exact YY ha hb h.1
 unfold Ck;rw[h3,h1];by_cases h5:¬May x
 · rw[if_pos h5,if_pos h5];exact⟨rfl,rfl,h⟩
 · rw[if_neg h5,if_neg h5];by_cases h6:(EM a.1 a.2 x).2.2≠0
   · rw[if_pos h6,if_pos h6];exact⟨rfl,rfl,h⟩
   · rw[if_neg h6,if_neg h6];by_cases h7:Au (Ac x)≤rm
     · rw[if_pos h7,if_pos h7];exact⟨rfl,rfl,h2⟩
     · rw[if_neg h7,if_neg h7];by_cases h8:sz<Au (BG a.1 a.2)
       · rw[if_pos h8,if_pos h8];exact⟨rfl,rfl,h⟩
       · rw[if_neg h8,if_neg h8];by_cases h9:Au (Ac x)≤sz-Au (BG a.1 a.2)
         · rw[if_pos h9,if_pos h9];exact⟨rfl,rfl,h2⟩
         · rw[if_neg h9,if_neg h9];exact⟨rfl,rfl,h⟩
theorem Yp {a:TI}(ha:Cj a)(sz rm:Int)(x:De):Cj (Ck a sz rm x).1.1:=by
 have h2:=Pk ha x;unfold Ck
 repeat' split
 all_goals first|exact ha|exact h2
theorem Yo (a:TI)(sz rm:Int)(x:De):a.2≤(Ck a sz rm x).1.1.2∧(Ck a sz rm x).1.1.2≤a.2+1:=by
 have h2:=Pt a x;unfold Ck
 repeat' split
 all_goals first|exact h2|exact⟨Int.le_refl _,by show a.2≤a.2+1;omega⟩
theorem gW (b:List UInt8):0≤Au b:=by unfold Au;omega
theorem nS (a:TI){sz rm:Int}(h0:0≤rm)(x:De):0≤(Ck a sz rm x).1.2∧((Ck a sz rm x).1.2≤rm∨(Ck a sz rm x).1.2≤sz):=by
 have h1:=gW (Ac x);have h2:=gW (BG a.1 a.2);unfold Ck;split
 · exact⟨h0,Or.inl (Int.le_refl _)⟩
 · split
   · exact⟨h0,Or.inl (Int.le_refl _)⟩
   · split
     · exact⟨by show 0≤rm-Au (Ac x);omega,Or.inl (by show rm-Au (Ac x)≤rm;omega)⟩
     · split
       · exact⟨h0,Or.inl (Int.le_refl _)⟩
       · split
         · exact⟨by show 0≤sz-Au (BG a.1 a.2)-Au (Ac x);omega,Or.inr (by show sz-Au (BG a.1 a.2)-Au (Ac x)≤sz;omega)⟩
         · exact⟨by show 0≤sz-Au (BG a.1 a.2);omega,Or.inr (by show sz-Au (BG a.1 a.2)≤sz;omega)⟩
theorem fB {a:TI}{sz rm:Int}{x:De}(h:(Ck a sz rm x).2.2≠0):(Ck a sz rm x).1.1=a:=by
 unfold Ck at h ⊢;split
 · rfl
 · rename_i h1;rw[if_neg h1]at h;split
   · rfl
   · rename_i h2;rw[if_neg h2]at h;split
     · rename_i h3;rw[if_pos h3]at h;exact absurd rfl h
     · rename_i h3;rw[if_neg h3]at h;split
       · rfl
       · rename_i h4;rw[if_neg h4]at h;split
         · rename_i h5;rw[if_pos h5]at h;exact absurd rfl h
         · rfl
structure Z6 where
 Live:World→Nat→Nat→Nat→Nat→TI→Int→(TI→Prop)→Bool→Nat→Prop
 Over:World→Nat→Nat→Nat→Nat→(TI→Prop)→Nat→Prop
 Kn:World→Nat→Nat→Nat→TI→Int→Nat→Prop
 good:∀{w B b sb n t rm O lm E},Live w B b sb n t rm O lm E→Cj t∧0≤rm∧rm≤400
 off:∀{w w' B b sb n t rm O lm E},Live w B b sb n t rm O lm E→Off Mh w w'→w.heap.size≤w'.heap.size→Live w' B b sb n t rm O lm E
 Abi:∀{w w' B b sb n O E},Over w B b sb n O E→Off Mh w w'→w.heap.size≤w'.heap.size→Over w' B b sb n O E
 weak:∀{w B b sb n t rm O O' lm E},Live w B b sb n t rm O lm E→(∀u,O u→O' u)→Live w B b sb n t rm O' lm E
 Abb:∀{w B b sb n O O' E},Over w B b sb n O E→(∀u,O u→O' u)→Over w B b sb n O' E
 format:∀{w B b n},V.Dev B w b (V.Hz n)→4≤n→n≤400→B≤w.heap.size→Calls Tryz.prog 29 #[Ag b] w fun e w'=>e=.returned (.int .i64 0)∧Kn w' B b n ([],1) (((n/2:Nat):Int)-2) 1∧Below B w w'∧AX w w'
 mount:∀{w B b n t rm E},Kn w B b n t rm E→t.2≤9223372036854775000→B≤w.heap.size→Calls Tryz.prog 27 #[Ag b] w fun e w'=>∃sb t',e=.returned (.tuple #[Ag sb,.int .i64 0])∧Live w' B b sb n t' rm (Ce t') false E∧Ce t t'∧Below B w w'∧AX w w'
 again:∀{w B b sb n t rm O E},Live w B b sb n t rm O false E→t.2≤9223372036854775000→B≤w.heap.size→Calls Tryz.prog 27 #[Ag b] w fun e w'=>∃X3 t',e=.returned (.tuple #[Ag X3,.int .i64 0])∧Live w' B b sb n t rm (Ce t) false E∧Live w' B b X3 n t' rm (Ce t') false E∧Ce t t'∧Below B w w'∧AX w w'
 kn:∀{w B b sb n t rm O E},Live w B b sb n t rm O false E→∃k img rs st t',V.Dev B w b st∧V.xU n (n/2) k E img rs st∧Cv (bl img) (rs.map bl) t'∧Ce t t'
 wE:∀{w B b n k E img rs st t},V.Dev B w b st→V.xU n (n/2) k E img rs st→Cv (bl img) (rs.map bl) t→t.2≤9223372036854775000→B≤w.heap.size→Calls Tryz.prog 27 #[Ag b] w fun e w'=>∃sb t' rm,e=.returned (.tuple #[Ag sb,.int .i64 0])∧Live w' B b sb n t' rm (Ce t') false E∧Ce t t'∧Below B w w'∧AX w w'
 wF:∀{w B b n k E img rs st},V.Dev B w b st→V.xU n (n/2) k E img rs st→Ni (bl img) (rs.map bl)→(∀A:TI,Cj A→A.2≤9223372036854775807→BG A.1 A.2=bl img→A.2≤9223372036854775000)→B≤w.heap.size→Calls Tryz.prog 27 #[Ag b] w fun e w'=>e=.returned (.tuple #[.pointer none,.int .i64 2])∧Below B w w'∧AX w w'
 tree:∀{w B b sb n t rm O lm E},Live w B b sb n t rm O lm E→Calls Tryz.prog 20 #[Ag sb] w fun e w'=>∃tb S,e=.returned (Ag tb)∧Bl.Is w' tb t.1 t.2 S∧(∀k,S k→w.heap.size≤k)∧Below w.heap.size w w'
 room:∀{w B b sb n t rm O lm E},Live w B b sb n t rm O lm E→Calls Tryz.prog 18 #[Ag sb] w fun e w'=>e=.returned (.int .i64 rm)∧Below w.heap.size w w'
 over:∀{w B b sb n t rm O lm E},Live w B b sb n t rm O lm E→Calls Tryz.prog 12 #[Ag sb] w fun e w'=>e=.returned (.bool false)∧Below w.heap.size w w'
 yz:∀{w B b sb n O E},Over w B b sb n O E→Calls Tryz.prog 12 #[Ag sb] w fun e w'=>e=.returned (.bool true)∧Below w.heap.size w w'
 sync:∀{w B b sb n t rm O lm E},Live w B b sb n t rm O lm E→B≤w.heap.size→Calls Tryz.prog 13 #[Ag sb] w fun e w'=>Below B w w'∧AX w w'∧((e=.returned (.int .i64 0)∧Live w' B b sb n t rm (Ce t) lm E)∨(lm=true∧e=.returned (.int .i64 13)∧Over w' B b sb n O E))
 yw:∀{w B b sb n O E},Over w B b sb n O E→B≤w.heap.size→Calls Tryz.prog 13 #[Ag sb] w fun e w'=>e=.returned (.int .i64 13)∧Below w.heap.size w w'
 do':∀{w B b sb n t rm O lm E} (x:De),Live w B b sb n t rm O lm E→x.s.size≤9223372036854775807→x.ns.size≤9223372036854775807→t.2≤9223372036854775000→E≤1000000→B≤w.heap.size →
  Calls Tryz.prog 14 #[Ag sb,Ga x] w fun e w'=>Below B w w'∧AX w w'∧∃O' E',E'≤E+1∧(∀u,O' u→O u∨Ce t u∨Ce (Ck t (((n/2:Nat):Int)-1) rm x).1.1 u) ∧
   ((e=.returned (.tuple #[.int .i64 (Ck t (((n/2:Nat):Int)-1) rm x).2.1,.int .i64 (Ck t (((n/2:Nat):Int)-1) rm x).2.2])∧Live w' B b sb n (Ck t (((n/2:Nat):Int)-1) rm x).1.1 (Ck t (((n/2:Nat):Int)-1) rm x).1.2 O' lm E') ∨
    (lm=true∧e=.returned (.tuple #[.int .i64 0,.int .i64 13])∧Over w' B b sb n O' E'))
 doO:∀{w B b sb n O E} (x:De),Over w B b sb n O E→B≤w.heap.size→Calls Tryz.prog 14 #[Ag sb,Ga x] w fun e w'=>e=.returned (.tuple #[.int .i64 0,.int .i64 13])∧Below w.heap.size w w'
 cut:∀{w B b sb n t rm O lm E} {N:Int},Live w B b sb n t rm O lm E→-9223372036854775808≤N→N≤9223372036854775807→Calls Tryz.prog 11 #[Ag b,.int .i64 N] w fun e w'=>e=.returned (.tuple #[])∧Live w' B b sb n t rm O true E∧Below B w w'∧AX w w'
 AbQ:∀{w B b sb n O E} {N:Int},Over w B b sb n O E→-9223372036854775808≤N→N≤9223372036854775807→Calls Tryz.prog 11 #[Ag b,.int .i64 N] w fun e w'=>e=.returned (.tuple #[])∧Over w' B b sb n O E∧Below B w w'∧AX w w'
 Im:∀{w B b sb n t rm O lm E} (v:Value) (l:List Int),Live w B b sb n t rm O lm E→CQ w v l→l.length≤9223372036854775807→B≤w.heap.size→Calls Tryz.prog 42 #[Ag b,v] w fun e w'=>e=.returned (.tuple #[])∧(∃t' rm' E',Kn w' B b n t' rm' E'∧O t'∧E'≤E+1)∧Below B w w'∧AX w w'
 Yt:∀{w B b sb n O E} (v:Value) (l:List Int),Over w B b sb n O E→CQ w v l→l.length≤9223372036854775807→B≤w.heap.size→Calls Tryz.prog 42 #[Ag b,v] w fun e w'=>e=.returned (.tuple #[])∧(∃t' rm' E',Kn w' B b n t' rm' E'∧O t'∧E'≤E+1)∧Below B w w'∧AX w w'
namespace Z6
variable (S:Z6)
variable {w w':World}{B b sb n:Nat}{t:TI}{rm:Int}{O:TI→Prop}{lm:Bool}{E:Nat}
theorem below (h:S.Live w B b sb n t rm O lm E)(hb:Below w.heap.size w w'):S.Live w' B b sb n t rm O lm E:=S.off h (M5 hb _) hb.size
end Z6
theorem pY {t:TI}(h:Ce ([],1) t):t.2=1:=h.2.symm
set_option maxHeartbeats 4000000 in
theorem SX (S:Z6){w:World}{B b n:Nat}(hd:V.Dev B w b (V.Hz n))(h4:4≤n)(hn:n≤400)(hB:B≤w.heap.size) :
 Calls Tryz.prog 9 #[Ag b] w fun e w'=>∃sb t,e=.returned (Ag sb)∧S.Live w' B b sb n t (((n/2:Nat):Int)-2) (Ce t) false 1∧Ce ([],1) t∧Below B w w'∧AX w w':=by
 have cF:=S.format hd h4 hn hB;clear hd;go_enter Tryz.func9,Tryz.ntmps9;go_upto_region 3 with(go_at_call 29;refine cF.mono ?_;rintro e w1 ⟨rfl,hk1,hb1,hp1⟩);have cM:=S.mount hk1 (by decide) (Ao hB hb1.size);have HB1:=Aa hb1;have UC:=Aa hp1;clear hk1 hb1 hp1 cF;go_wp2_with (go_at_call 27;refine cM.mono ?_;rintro e w2 ⟨sb,t,rfl,hl,hlk,hb2,hp2⟩);go_ret;exact⟨sb,t,rfl,hl,hlk,HB1.out.trans hb2,UC.out.trans hp2⟩
def LM:De:=⟨1,0,0,⟨#[97]⟩,⟨#[]⟩,false,0⟩
theorem Vx:May LM:=by
 unfold May LM;decide
theorem Xw:Au (Ac LM)=1:=by
 unfold Au Ac LM;decide
theorem rJ:(EM [] 1 LM).2=(1,0):=by
 unfold EM;rw[if_pos Vx];unfold UB;rw[if_pos (by decide)];show(D7 [] 1 0 ⟨#[97]⟩ false 0).2=(1,0)
 rw[dJ]
theorem iZ:(Ck ([],1) 9 8 LM).2=(1,0)∧(Ck ([],1) 9 8 LM).1.2=7:=by
 have h0:=rJ;unfold Ck;rw[if_neg (fun h=>h Vx),if_neg (fun h=>h (by rw[h0])),Xw,if_pos (by decide),h0];exact⟨rfl,rfl⟩
theorem JH:Cj ([],1):=Qg
set_option maxHeartbeats 4000000 in
theorem lQ (S:Z6)(w:World):Calls Tryz.prog 6 #[] w fun e w'=>e=.returned (.bool true)∧Below w.heap.size w w':=by
 have cN:=V.fT 20 w;unfold V.Ke at cN;rw[show V.Sr 20=20 from rfl]at cN;go_enter Tryz.func6,Tryz.ntmps6;go_upto_region 2 with(first
  | (go_at_call 8;refine cN.mono ?_;rintro e w1 ⟨b,rfl,hd,hb1,_⟩;have cO:=SX S hd (by decide) (by decide) hb1.size;have HB1:=Aa hb1;clear hb1 hd cN)
  | (go_at_call 9;refine cO.mono ?_;rintro e w2 ⟨sb,t,rfl,hl,hlk,hb2,hp2⟩))
 have hg:=(S.good hl).1;have h1:=Yn hlk JH hg 9 8 LM;obtain⟨h2,h3⟩:=iZ;have HB2:=Aa (HB1.out.trans hb2);have cD:=S.do' LM hl (by decide) (by decide) (by rw[pY hlk];decide) (by decide) HB2.out.size;have hr2:(Ck t 9 8 LM).2=(1,0):=h1.1.trans h2;have hr3:(Ck t 9 8 LM).1.2=7:=h1.2.1.trans h3;rw[show(((20/2:Nat):Int)-1)=9 from rfl,show(((20/2:Nat):Int)-2)=8 from rfl,hr2,hr3]at cD;unfold Ga LM at cD;simp only at cD;clear hl hlk hb2 hp2 hg h1 h2 h3 hr2 hr3 HB1 cO;go_upto_region 5 with(go_at_call 14;refine cD.mono ?_;rintro e w3 ⟨hb3,hp3,O',E',hE',yN,⟨rfl,hl3⟩|⟨h0,_⟩⟩;rotate_left;· exact absurd h0 (by decide));have cR:=S.room hl3;have HB3:=Aa (HB2.out.trans hb3);clear hl3 yN hb3 hp3 cD;go_wp2_with (go_at_call 18;refine cR.mono ?_;rintro e w4 ⟨rfl,hb4⟩);go_ret;exact⟨rfl,HB3.out.trans (hb4.mono HB3.out.size)⟩
end Go.Proofs.YtdmkhmeaphaapaaGreat
