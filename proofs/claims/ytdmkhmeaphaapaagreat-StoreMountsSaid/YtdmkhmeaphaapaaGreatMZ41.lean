/- Kit. -/
import Derived.Test.YtdmkhmeaphaapaaGreatMZ33
import Derived.Test.YtdmkhmeaphaapaaGreatMZ39
import Derived.Deep.RegionLaw
import Derived.Test.YtdmkhmeaphaapaaGreatMZ0
set_option maxRecDepth 100000
set_option linter.unusedVariables false
set_option linter.unusedSimpArgs false
namespace Go.Proofs.YtdmkhmeaphaapaaGreat.V.St
open Go.RowKit Go.Sort
variable {X:List Value}
def RnX (X:List Value)(B b vb nb n h:Nat)(k:Bool)(E A:Nat)(img:ByteArray)(rs r1 r2:List ByteArray)(lm:Bool)(st0:St)(rv:Value)(s:ByteArray)(op:Bool)(q:Int)(W:World):Prop:=
 Ap X W vb b (BF h k) h A E img rv op∧((q=0∧Cu h 1 s=0∧Af W nb 82 b (BF h (!k)) h (1+(s.size+61)/62) (E+1) []∧∃st',Dev B W b st'∧Dj n h (!k) (E+1) (1+(s.size+61)/62) s [] [s] [] lm st'∧st'.pend=[]) ∨
  (q=13∧lm=true∧∃st',Dev B W b st'∧He n h k E r1 r2 s st')∨(q≠0∧q≠13∧Cu h 1 s=q∧Dev B W b st0))
set_option maxHeartbeats 8000000 in
theorem mg {B b vb nb n h g:Nat}{k:Bool}{E A:Nat}{img:ByteArray}{rs r1 r2:List ByteArray}{lm:Bool}{st:St}{rv:Value}{W:World}(s:ByteArray)(hL:DR X B b vb n h k E A img rs r1 r2 lm st rv W)(hs:s.size≤1000000)(hE:E+1<9223372036854775808)(hB:B≤W.heap.size)
 (hnb:Af W nb 82 b (BF h (!k)) h 1 (E+1) []) (hnB:B≤nb) (hg:Gc W g (gH b vb nb s)) :
 Calls Tryz.prog 50 #[.pointer (some ⟨vb,0,none⟩),.slice (some ⟨g,0,none⟩) (10:Nat) (10:Nat)] W fun e w'=>∃q:Int,e=.returned (.int .i64 q)∧RnX X B b vb nb n h k E A img rs r1 r2 lm st rv s (decide (q≠13)) q w'∧Below B W w'∧Off CY W w':=by
 have hl:=hL.live;have hpd:=hl.Wl;have h9:=hl.n2;have h8:=hl.hn;have hle:=Fy hl.hn (!k);have hlen:=hl.len;have h2:=hl.h2;have Yq:1≤h:=by omega
 have oL:82∉AZ:=by decide
 have keep:∀{W1 W2:World} {T:TypeId} {hb' F' S' A' E':Nat} {R':List Value},Af W1 hb' T b F' S' A' E' R'→Off AZ W1 W2→T∈[82,84,98]→Af W2 hb' T b F' S' A' E' R':=fun h1 h2 h3=>Af.KJ h1 h2 h3
 refine(jl g 10 (gH b vb nb s)
  (fun i W'=>Below B W W'∧Off CY W W'∧Ap X W' vb b (BF h k) h A E img rv true∧Af W' nb 82 b (BF h (!k)) h (if i≤6 then 1 else 1+(s.size+61)/62) (E+1) []∧(2≤i→Cu h 1 s=0)∧∃st',Dev B W' b st'∧RnI n h k E r1 r2 lm st s i st')
  (fun q W'=>Below B W W'∧Off CY W W'∧q≠0∧RnX X B b vb nb n h k E A img rs r1 r2 lm st rv s true q W')
  hL.KW rfl (by decide) ?_ ⟨Ad _ _,Off.refl _ _,hL.KW,hnb,by omega,st,hL.dev,rfl⟩ ?_ ?_ ?_).mono ?_
 · intro k hk;simp only[gH,List.mem_cons,List.mem_nil_iff,or_false]at hk;rcases hk with rfl|rfl|rfl|rfl|rfl|rfl|rfl|rfl|rfl|rfl
   · exact Mw
   · exact VE
   · exact jK
   · exact Qc
   · exact F4
   · exact MZ
   · exact Lh
   · exact F4
   · exact VC
   · exact F4
 · rintro i W' ⟨_,ho,_⟩;exact ho _ (by decide) _ _ _ hg
 · rintro i kk W' hk ⟨hb,ho,hv,hn,hfit,st',hd,hi⟩;have hBW:B≤W'.heap.size:=Al hB hb.size;rcases i with _ | _ | _ | _ | _ | _ | _ | _ | _ | _|i
   ·
    injection hk with hk;subst hk;have hi':st'=st:=hi;subst hi';refine(RV hn hd hl.good (by omega)).mono ?_;rintro e w' ⟨rfl,hbb⟩;refine⟨_,rfl,?_⟩;cases hgo:BJ st'
    · have hq:FC st' (BF h (!k)) h=0:=by
       unfold FC;rw[EU hgo (by omega),if_pos rfl,if_neg (by omega)]
      exact Or.inl ⟨hq,hb.trans (hbb.mono hBW),ho.trans (Off.Ar hbb _),Af.below hv hbb,Af.below hn hbb,by omega,st',hd.below hbb,rfl⟩
    · have hq:FC st' (BF h (!k)) h=13:=by
       unfold FC;rw[MC hgo,if_neg (by decide)]
      rw[hq];exact Or.inr ⟨by decide,hb.trans (hbb.mono hBW),ho.trans (Off.Ar hbb _),by decide,Af.below hv hbb,Or.inr (Or.inl ⟨rfl,En hgo hl.lim,st',hd.below hbb,hl.stg.dead (by omega) _⟩)⟩
   ·
    injection hk with hk;subst hk;have hi':st'=st:=hi;subst hi';refine(Tq s hn (by omega) (by simp) (by omega)).mono ?_;rintro e w' ⟨rfl,hbb⟩;refine⟨_,rfl,?_⟩;by_cases hq:Cu h 1 s=0
    · exact Or.inl ⟨hq,hb.trans (hbb.mono hBW),ho.trans (Off.Ar hbb _),Af.below hv hbb,Af.below hn hbb,fun _=>hq,st',hd.below hbb,rfl⟩
    · exact Or.inr ⟨hq,hb.trans (hbb.mono hBW),ho.trans (Off.Ar hbb _),hq,Af.below hv hbb,Or.inr (Or.inr ⟨hq,by rcases YG h 1 s with e|e|e<;>rw[show Cu h (if 0+1≤6 then 1 else 1+(s.size+61)/62) s=Cu h 1 s from rfl,e]<;>decide,rfl,hd.below hbb⟩)⟩
   ·
    injection hk with hk;subst hk;have hi':st'=st:=hi;subst hi';refine(iT hv).mono ?_;rintro e w' ⟨rfl,rfl⟩;rw[if_neg (by omega)];exact⟨0,rfl,Or.inl ⟨rfl,hb,ho,hv,hn,fun _=>hfit (by omega),st',hd,rfl⟩⟩
   ·
    injection hk with hk;subst hk;have hi':st'=st:=hi;subst hi';refine(ZG (B:=B) (Ps:=fun q w1=>HdP B b st' (BF h (!k)) 0 q w1∧Below B W' w1∧Off AZ W' w1) hn oL (fun W2 hW2=>?_)).mono ?_
    · refine(Kk (hd.below hW2) hl.good (by omega) (by omega) (Al hBW hW2.size) (by decide)).mono ?_;rintro e w' ⟨q,he,⟨h1,h3,h4⟩,h5⟩;exact⟨q,he,⟨h1,(hW2.mono hBW).trans h3,(Off.Ar hW2 _).trans h4⟩,h5⟩
    · rintro e w' ⟨q,rfl,hq,hbb,Ep⟩;refine⟨q,rfl,?_⟩;rcases hq with⟨rfl,hgo,hd'⟩|⟨rfl,hgo,hd'⟩
      · exact Or.inr ⟨by decide,hb.trans hbb,ho.trans Ep.va,by decide,keep hv Ep (by simp),Or.inr (Or.inl ⟨rfl,En hgo hl.lim,st',hd',hl.stg.dead (by omega) _⟩)⟩
      · exact Or.inl ⟨rfl,hb.trans hbb,ho.trans Ep.va,keep hv Ep (by simp),keep hn Ep (by simp),fun _=>hfit (by omega),_,hd',hl.stg.shut Yq h8 hgo⟩
   ·
    injection hk with hk;subst hk;obtain⟨hS,he⟩:=hi;refine(Ir hd hS.good (by have:=hS.IE;omega) hBW).mono ?_;rintro e w' ⟨q,rfl,hq,hbb,Ep⟩;refine⟨q,rfl,?_⟩;rcases hq with⟨rfl,hgo,hd'⟩|⟨rfl,hgo,hd'⟩
    · exact Or.inr ⟨by decide,hb.trans hbb,ho.trans Ep.va,by decide,keep hv Ep (by simp),Or.inr (Or.inl ⟨rfl,En hgo hS.lim,st',hd',hS.dead (by omega) _⟩)⟩
    · exact Or.inl ⟨rfl,hb.trans hbb,ho.trans Ep.va,keep hv Ep (by simp),keep hn Ep (by simp),fun _=>hfit (by omega),_,hd',hS.flush,he⟩
   ·
    injection hk with hk;subst hk;obtain⟨hS,he⟩:=hi;have hpz:=hS.IE;have hl5:=hS.len;refine(VU (B:=B) (Ps:=fun q w1=>WpP B b st' (BF h (!k)) 1 h q w1∧Below B W' w1∧Off AZ W' w1) hn oL (fun W2 hW2=>?_)).mono ?_
    · refine(Q6 (hd.below hW2) hS.good (by omega) Yq (Ae _) (by omega) (by omega) (Al hBW hW2.size)).mono ?_;rintro e w' ⟨q,he,⟨h1,h3,h4⟩,h5⟩;exact⟨q,he,⟨h1,(hW2.mono hBW).trans h3,(Off.Ar hW2 _).trans h4⟩,h5⟩
    · rintro e w' ⟨q,rfl,hq,hbb,Ep⟩;refine⟨q,rfl,?_⟩;rcases hq with⟨rfl,hgo,hd'⟩|⟨j,hj,hc,hr,hd'⟩
      · exact Or.inr ⟨by decide,hb.trans hbb,ho.trans Ep.va,by decide,keep hv Ep (by simp),Or.inr (Or.inl ⟨rfl,En hgo hS.lim,st',hd',hS.dead (by omega) _⟩)⟩
      · rcases hc with⟨rfl,rfl⟩|⟨rfl,hgo⟩
        · obtain⟨g1,g2,g3⟩:=hS.Aal Yq h8 hr he;exact Or.inl ⟨rfl,hb.trans hbb,ho.trans Ep.va,keep hv Ep (by simp),keep hn Ep (by simp),fun _=>hfit (by omega),_,hd',g1.mono (by omega),g2,g3⟩
        · have hS':=hS.UD Yq h8 j hj hr;exact Or.inr ⟨by decide,hb.trans hbb,ho.trans Ep.va,by decide,keep hv Ep (by simp),Or.inr (Or.inl ⟨rfl,En hgo hS'.lim,_,hd',hS'.dead (by omega) _⟩)⟩
   ·
    injection hk with hk;subst hk;obtain⟨hS,hw,he⟩:=hi;have hpz:=hS.IE;have hl5:=hS.len;have hfl:=Cf s;obtain⟨f1,f2,f3⟩:=DJ (hfit (by omega));refine(O5 s (Ps:=fun x q w1=>WrP B b st' (BF h (!k)) 1 h s x q w1∧Below B W' w1∧Off AZ W' w1) hn oL (fun W2 hW2=>?_)).mono ?_
    · refine(Oh (hd.below hW2) hS.good (by omega) Yq (Ae _) Yq (by omega) (by omega) (Al hBW hW2.size)).mono ?_;rintro e w' ⟨x,q,he,⟨h1,h3,h4⟩,h5⟩;exact⟨x,q,he,⟨h1,(hW2.mono hBW).trans h3,(Off.Ar hW2 _).trans h4⟩,h5⟩
    · rintro e w' ⟨x,q,w1,rfl,⟨hwr,hbb,Ep⟩,hn1,hq⟩;refine⟨q,rfl,?_⟩;rcases hq with⟨rfl,rfl⟩|⟨hq,rfl⟩
      · rcases hwr with⟨h1,_⟩|⟨h1,_⟩|⟨hft,j,hj,hc,hr,hd'⟩
        · cases h1
        · exact absurd rfl h1
        · rcases hc with⟨_,rfl,rfl⟩|⟨h1,_⟩
          · have htl:(Bu s).take ((s.size+61)/62)=Bu s:=CO (by rw[hfl];exact Ae _);rw[htl]at hr hd';obtain⟨g1,g2,g3⟩:=hS.written Yq h8 f3 hr hw he;have hv1:Ap X w1 vb b (BF h k) h A E img rv true:=keep hv Ep (by simp);have hset:Off CY w1 (w1.setCell ⟨nb,3,none⟩ (.int .i64 ((1+(s.size+61)/62:Nat):Int))):=PG hn1 (by decide);have oq:Off [82] w1 (w1.setCell ⟨nb,3,none⟩ (.int .i64 ((1+(s.size+61)/62:Nat):Int))):=(Off.refl _ _).setCell hn1 (by simp) _;exact Or.inl ⟨rfl,(hb.trans hbb).setCell (p:=⟨nb,3,none⟩) hnB _,(ho.trans Ep.va).trans hset,Af.off hv1 oq (by decide),hn1.R9 _,fun _=>hfit (by omega),_,hd'.JH hn1 (by simp),g1.mono (by omega),g2,g3⟩
          · cases h1
      · have hv1:Ap X w' vb b (BF h k) h A E img rv true:=keep hv Ep (by simp);rcases hwr with⟨rfl,hgo,hd'⟩|⟨h1,Ka,hgo,hft,hd'⟩|⟨hft,j,hj,hc,hr,hd'⟩
        · exact Or.inr ⟨by decide,hb.trans hbb,ho.trans Ep.va,by decide,hv1,Or.inr (Or.inl ⟨rfl,En hgo hS.lim,st',hd',hS.dead (by omega) _⟩)⟩
        · rw[hfit (by omega)]at hft;exact absurd hft.symm h1
        · rcases hc with⟨h1,_⟩|⟨rfl,hgo⟩
          · exact absurd h1 hq
          · have hS':=hS.puts Yq h8 (Eb s) (by omega) j (by omega) hr;exact Or.inr ⟨by decide,hb.trans hbb,ho.trans Ep.va,by decide,hv1,Or.inr (Or.inl ⟨rfl,En hgo hS'.lim,_,hd',hS'.dead (by omega) _⟩)⟩
   ·
    injection hk with hk;subst hk;obtain⟨hS,hw,he⟩:=hi;refine(Ir hd hS.good (by have:=hS.IE;omega) hBW).mono ?_;rintro e w' ⟨q,rfl,hq,hbb,Ep⟩;refine⟨q,rfl,?_⟩;rcases hq with⟨rfl,hgo,hd'⟩|⟨rfl,hgo,hd'⟩
    · exact Or.inr ⟨by decide,hb.trans hbb,ho.trans Ep.va,by decide,keep hv Ep (by simp),Or.inr (Or.inl ⟨rfl,En hgo hS.lim,st',hd',hS.dead (by omega) _⟩)⟩
    · exact Or.inl ⟨rfl,hb.trans hbb,ho.trans Ep.va,keep hv Ep (by simp),keep hn Ep (by simp),fun _=>hfit (by omega),_,hd',hS.flush,⟨H7 hw rfl,he⟩,X0⟩
   ·
    injection hk with hk;subst hk;obtain⟨hS,⟨hw,he⟩,hout⟩:=hi;have hpz:=hS.IE;have hl5:=hS.len;obtain⟨f1,f2,f3⟩:=DJ (hfit (by omega));refine(lK (B:=B) (Ps:=fun q w1=>HdP B b st' (BF h (!k)) (E+1) q w1∧Below B W' w1∧Off AZ W' w1) hn oL (fun W2 hW2=>?_)).mono ?_
    · refine(Kk (hd.below hW2) hS.good (by omega) (by omega) (Al hBW hW2.size) (by omega)).mono ?_;rintro e w' ⟨q,he,⟨h1,h3,h4⟩,h5⟩;exact⟨q,he,⟨h1,(hW2.mono hBW).trans h3,(Off.Ar hW2 _).trans h4⟩,h5⟩
    · rintro e w' ⟨q,rfl,hq,hbb,Ep⟩;refine⟨q,rfl,?_⟩;rcases hq with⟨rfl,hgo,hd'⟩|⟨rfl,hgo,hd'⟩
      · exact Or.inr ⟨by decide,hb.trans hbb,ho.trans Ep.va,by decide,keep hv Ep (by simp),Or.inr (Or.inl ⟨rfl,En hgo hS.lim,st',hd',hS.dead (by omega) _⟩)⟩
      · exact Or.inl ⟨rfl,hb.trans hbb,ho.trans Ep.va,keep hv Ep (by simp),keep hn Ep (by simp),fun _=>hfit (by omega),_,hd',hS.signed h2 h8 h9 f1 f2 f3 hw he (by omega) hgo hout⟩
   ·
    injection hk with hk;subst hk;obtain⟨hD,hN⟩:=hi;refine(Ir hd hD.good hD.IE hBW).mono ?_;rintro e w' ⟨q,rfl,hq,hbb,Ep⟩;refine⟨q,rfl,?_⟩;rcases hq with⟨rfl,hgo,hd'⟩|⟨rfl,hgo,hd'⟩
    · exact Or.inr ⟨by decide,hb.trans hbb,ho.trans Ep.va,by decide,keep hv Ep (by simp),Or.inr (Or.inl ⟨rfl,En hgo (fun e=>hN.lim e),st',hd',hD⟩)⟩
    · exact Or.inl ⟨rfl,hb.trans hbb,ho.trans Ep.va,keep hv Ep (by simp),keep hn Ep (by simp),fun _=>hfit (by omega),_,hd',hN,rfl⟩
   · cases hk
 · rintro q W' (⟨_,_,_,hv,_⟩|⟨_,_,_,_,hv,_⟩)
   · exact⟨_,_,_,_,_,_,_,_,hv⟩
   · exact⟨_,_,_,_,_,_,_,_,hv⟩
 · rintro e w' ⟨q,w1,rfl,hq,rfl⟩;refine⟨q,rfl,?_⟩;rcases hq with⟨rfl,hb,ho,hv,hn,hfit,st',hd,hi⟩|⟨_,hb,ho,hne,hv,hx⟩
   · have oq:Off [98] w1 (w1.setCell ⟨vb,7,none⟩ (.bool (decide ((0:Int)≠13)))):=(Off.refl _ _).setCell hv (by simp) _;exact⟨⟨hv.Ff _,Or.inl ⟨rfl,hfit (by omega),Af.off hn oq (by decide),st',hd.JH hv (by simp),hi⟩⟩,hb.setCell (p:=⟨vb,7,none⟩) hL.hvb _,ho.setCell hv (by decide) _⟩
   · refine⟨⟨hv.Ff _,?_⟩,hb.setCell (p:=⟨vb,7,none⟩) hL.hvb _,ho.setCell hv (by decide) _⟩;rcases hx with⟨h0,_⟩|⟨Ka,h1,st',hd,hD⟩|⟨h0,Ka,h1,hd⟩
     · exact absurd h0 hne
     · exact Or.inr (Or.inl ⟨Ka,h1,st',hd.JH hv (by simp),hD⟩)
     · exact Or.inr (Or.inr ⟨h0,Ka,h1,hd.JH hv (by simp)⟩)
def TQ (X:List Value)(B b vb:Nat)(w:World)(st':St)(W:World)(C:Array Value):Prop:=W.heap[vb]?=some (.cells C 98 (0,0))∧Below B w W∧Off CY w W∧Dev B W b st'
theorem TQ.set {B b vb:Nat}{w W:World}{st':St}{C:Array Value}(h:TQ X B b vb w st' W C)(hB:B≤vb)(j:Nat)(x:Value):TQ X B b vb w st' (W.setCell ⟨vb,j,none⟩ x) (C.setIfInBounds j x):=
 ⟨by rw[Bj W vb j _ _ _ h.1],h.2.1.setCell (p:=⟨vb,j,none⟩) hB _,h.2.2.1.setCell h.1 (by decide) _,h.2.2.2.JH h.1 (by simp)⟩
def xg (X:List Value)(B b vb n h:Nat)(k:Bool)(E:Nat)(s:ByteArray)(lm:Bool)(w W:World):Prop:=
 Below B w W∧Off CY w W∧∃st' rv',DR X B b vb n h (!k) (E+1) (1+(s.size+61)/62) s [] [s] [] lm st' rv' W∧st'.pend=[]∧BC rv'=none
def qI (X:List Value)(B b vb n h:Nat)(k:Bool)(E A:Nat)(img:ByteArray)(rs r1 r2:List ByteArray)(lm:Bool)(st:St)(rv:Value)(s:ByteArray)(w:World)(e:Ending)(w':World):Prop:=
 ∃q:Int,e=.returned (.int .i64 q)∧((q=0∧Cu h 1 s=0∧xg X B b vb n h k E s lm w w')∨(Below B w w'∧Off CY w w'∧((q=13∧lm=true∧∃st',KS X B b vb n h k E r1 r2 s st' w')∨(q≠0∧q≠13∧Cu h 1 s=q∧DR X B b vb n h k E A img rs r1 r2 lm st rv w'))))
set_option maxHeartbeats 2000000 in
theorem tX {B b vb n h:Nat}{k:Bool}{E A:Nat}{img:ByteArray}{rs r1 r2:List ByteArray}{lm:Bool}{st:St}{rv:Value}{w:World}(s:ByteArray)(hL:DR X B b vb n h k E A img rs r1 r2 lm st rv w)(hs:s.size≤1000000)(hE:E+1<9223372036854775808)(hB:B≤w.heap.size) :
 Calls Tryz.prog 121 #[.pointer (some ⟨vb,0,none⟩),.string s] w (qI X B b vb n h k E A img rs r1 r2 lm st rv s w):=by
 unfold qI;have HL:=Aa hL;have HO:Hid (∀W,Below w.heap.size w W→Calls Tryz.prog 157 #[.pointer (some ⟨vb,0,none⟩)] W fun e w'=>e=.returned (.agg #[.pointer (some ⟨b,0,none⟩),.int .i64 (BF h (!k)),.int .i64 h,.int .i64 1,.int .u64 (E+1:Nat)])∧Below W.heap.size W w'):=Aa (fun W hW=>by
  have hl:=HL.out.live;have h9:=hl.n2;have h8:=hl.hn;have hbk:BF h k≤h∧h-BF h k=BF h (!k):=by cases k<;>simp[BF]
  have h1:=ug (Af.below HL.out.KW hW) hbk.1 (by omega) (by omega);rw[hbk.2]at h1;exact h1)
 have cC:=fun W=>LY s W (by omega)
 have M6:Hid (∀W,Below w.heap.size w W→W.cell? ⟨vb,0,none⟩=some (.pointer (some ⟨b,0,none⟩))):=Aa (fun W hW=>(Af.below HL.out.KW hW).cells.1);have HDO:Hid (∀(W:World) (nb:Nat),w.heap.size≤nb→Below w.heap.size w W→Af W nb 82 b (BF h (!k)) h 1 (E+1) []→Calls Tryz.prog 50 #[.pointer (some ⟨vb,0,none⟩),.slice (some ⟨W.heap.size,0,none⟩) (10:Nat) (10:Nat)] (W.alloc (.cells #[.func (.func 47) #[.pointer (some ⟨nb,0,none⟩)] #[],.func (.func 110) #[.agg #[.pointer (some ⟨nb,0,none⟩),.string s]] #[],.func (.func 158) #[.pointer (some ⟨vb,0,none⟩)] #[],.func (.func 111) #[.pointer (some ⟨nb,0,none⟩)] #[],.func (.func 53) #[.pointer (some ⟨b,0,none⟩)] #[],.func (.func 52) #[.pointer (some ⟨nb,0,none⟩)] #[],.func (.func 54) #[.agg #[.pointer (some ⟨nb,0,none⟩),.string s]] #[],.func (.func 53) #[.pointer (some ⟨b,0,none⟩)] #[],.func (.func 112) #[.pointer (some ⟨nb,0,none⟩)] #[],.func (.func 53) #[.pointer (some ⟨b,0,none⟩)] #[]] 169)) fun e w'=>∃q:Int,e=.returned (.int .i64 q)∧RnX X B b vb nb n h k E A img rs r1 r2 lm st rv s (decide (q≠13)) q w'∧Below B w w'∧Off CY w w'∧Off CY (W.alloc (.cells ((gH b vb nb s).map XD).toArray 169)) w'):=Aa (fun W nb hnb hW hN=>by
  have hWa:Below W.heap.size W (W.alloc (.cells ((gH b vb nb s).map XD).toArray 169)):=(Ad _ _).alloc (Ae _) _;have h1:=mg (W:=W.alloc (.cells ((gH b vb nb s).map XD).toArray 169)) s ((HL.out.below hW).below hWa) hs hE (Al (Al hB hW.size) hWa.size) (Af.below hN hWa) (Al hB hnb) (Ai _ _);refine h1.mono ?_;rintro e w' ⟨q,he,hx,hb,ho⟩;exact⟨q,he,hx,(hW.mono hB).trans ((hWa.mono (Al hB hW.size)).trans hb),(Off.Ar hW _).trans ((Off.Ar hWa _).trans ho),ho⟩)
 have c0:=M6.out w (Ad _ _);generalize BF h (!k)=Fo at *;generalize E+1=E1 at *;obtain⟨Z,hZ⟩:∃Z:Obj,Z=.cells #[.pointer none,.int .i64 0,.int .i64 0,.int .i64 0,.int .u64 0] 82 (0,0):=⟨_,rfl⟩;have HZ:Hid (∀W W':World,Below (W.alloc Z).drew.heap.size (W.alloc Z).drew W'→Y9 W' W.heap.size):=Aa (fun W W' hb=>by
  unfold Y9;rw[hb.block W.heap.size (by show _<(W.alloc Z).heap.size;simp)];show(W.alloc Z).heap[W.heap.size]?=_
  rw[Ai,hZ])
 have Uw:Hid (∀w1,Below w.heap.size w w1→(Af (w1.alloc (.cells #[.pointer (some ⟨b,0,none⟩),.int .i64 Fo,.int .i64 h,.int .i64 1,.int .u64 E1] 82)) w1.heap.size 82 b Fo h 1 E1 []∧Below w.heap.size w (w1.alloc (.cells #[.pointer (some ⟨b,0,none⟩),.int .i64 Fo,.int .i64 h,.int .i64 1,.int .u64 E1] 82))∧w.heap.size≤w1.heap.size)):=Aa (fun w1 hB1=>⟨Ai _ _,hB1.alloc hB1.size _,hB1.size⟩);have HS2:Hid (∀w1,Below w.heap.size w w1→Y9 w1 w.heap.size→(Af (((((w1.setCell ⟨w.heap.size,0,none⟩ (.pointer (some ⟨b,0,none⟩))).setCell ⟨w.heap.size,1,none⟩ (.int .i64 Fo)).setCell ⟨w.heap.size,2,none⟩ (.int .i64 h)).setCell ⟨w.heap.size,3,none⟩ (.int .i64 1)).setCell ⟨w.heap.size,4,none⟩ (.int .u64 E1)) w.heap.size 82 b Fo h 1 E1 []∧Below w.heap.size w (((((w1.setCell ⟨w.heap.size,0,none⟩ (.pointer (some ⟨b,0,none⟩))).setCell ⟨w.heap.size,1,none⟩ (.int .i64 Fo)).setCell ⟨w.heap.size,2,none⟩ (.int .i64 h)).setCell ⟨w.heap.size,3,none⟩ (.int .i64 1)).setCell ⟨w.heap.size,4,none⟩ (.int .u64 E1))∧w.heap.size≤w.heap.size)):=Aa (fun w1 hB1 zz=>⟨Ch w.heap.size 82 [.pointer (some ⟨b,0,none⟩),.int .i64 Fo,.int .i64 h,.int .i64 1,.int .u64 E1] 0 w1 [.pointer none,.int .i64 0,.int .i64 0,.int .i64 0,.int .u64 0] zz (by simp),Below.setCells hB1 (Ae _) 0 [.pointer (some ⟨b,0,none⟩),.int .i64 Fo,.int .i64 h,.int .i64 1,.int .u64 E1],Ae _⟩);subst hZ;have c9:=M6.out (w.alloc (.cells #[.pointer none,.int .i64 0,.int .i64 0,.int .i64 0,.int .u64 0] 82)) ((Ad _ _).alloc (Ae _) _);clear hL;go_enter Tryz.func121,Tryz.ntmps121;go_upto_region 1 with fail;go_cut [5,6] from 9 (fun c d wx=>∃nb,c=.pointer (some ⟨nb,0,none⟩)∧d=.func (.func 53) #[.pointer (some ⟨b,0,none⟩)] #[]∧Af wx nb 82 b Fo h 1 E1 []∧Below w.heap.size w wx∧w.heap.size≤nb)
 case first =>
  go_region_with (first|(go_at_call 157;refine(HO.out _ ?_).mono ?_;(first|exact(Ad _ _).drew|exact((Ad _ _).alloc (Ae _) _).drew);rintro e w1 ⟨rfl,hb1⟩;have hB1:Below w.heap.size w w1:=(by first|exact(Ad _ _).drew.trans hb1|exact((Ad _ _).alloc (Ae _) _).drew.trans (hb1.mono (by simp)));have d0:=M6.out _ hB1;have d1:=M6.out _ (hB1.alloc hB1.size (.cells #[.pointer none,.int .i64 0,.int .i64 0,.int .i64 0,.int .u64 0] 82));(first|(have zz:=HZ.out _ _ hb1;obtain⟨⟨y0,y1,y2,y3,y4⟩,x0,x1,x2,x3,x4⟩:=zz.all)|skip)))
  all_goals
   go_wp2;go_meet
   case rel =>
    first
     | (refine⟨w1.heap.size,by with_reducible rfl,rfl,?_⟩;exact Uw.out w1 hB1)
     | (refine⟨w.heap.size,by with_reducible rfl,rfl,?_⟩;exact HS2.out w1 hB1 zz)
 case rest =>
  obtain⟨nb,rfl,rfl,hnb,hbc,AbC⟩:=hcut;have HNB:=Aa hnb;have HBC:=Aa hbc;clear hnb hbc c9 c0;obtain⟨W0,hW0⟩:∃W0,wc.alloc (.cells #[.pointer (some ⟨nb,0,none⟩),.string s] 119)=W0:=⟨_,rfl⟩;have HB0:Hid (Below w.heap.size w W0):=Aa (by rw[←hW0];exact HBC.out.alloc HBC.out.size _);have hC0:W0.heap[wc.heap.size]?=some (.cells #[.pointer (some ⟨nb,0,none⟩),.string s] 119 (0,0)):=by rw[←hW0];exact Ai _ _
  have HN0:Hid (Af W0 nb 82 b Fo h 1 E1 []):=Aa (by rw[←hW0];exact Af.below HNB.out ((Ad _ _).alloc (Ae _) _));have j0:W0.cell? ⟨wc.heap.size,0,none⟩=some (.pointer (some ⟨nb,0,none⟩)):=by rw[AB _ _ _ _ _ _ hC0];rfl
  have j1:W0.cell? ⟨wc.heap.size,1,none⟩=some (.string s):=by rw[AB _ _ _ _ _ _ hC0];rfl
  have Ac2:=Aa hC0;have Nt:Hid (∀W:World,W.heap[wc.heap.size]?=some (.cells #[.pointer (some ⟨nb,0,none⟩),.string s] 119 (0,0))→(W.heap[wc.heap.size]?=some (.cells #[.pointer (some ⟨nb,0,none⟩),.string s] 119 (0,0))∧W.cell? ⟨wc.heap.size,0,none⟩=some (.pointer (some ⟨nb,0,none⟩))∧W.cell? ⟨wc.heap.size,1,none⟩=some (.string s))):=Aa (fun W h=>⟨h,by rw[AB _ _ _ _ _ _ h];rfl,by rw[AB _ _ _ _ _ _ h];rfl⟩);have HKO:Hid (∀W W':World,W.heap[wc.heap.size]?=some (.cells #[.pointer (some ⟨nb,0,none⟩),.string s] 119 (0,0))→Off CY W W'→W'.heap[wc.heap.size]?=some (.cells #[.pointer (some ⟨nb,0,none⟩),.string s] 119 (0,0))):=Aa (fun W W' hS ho=>ho _ (by decide) _ _ _ hS);have hS0:=Nt.out W0 hC0;clear hC0;go_upto_region 3 with fail
  try rw[hW0]
  clear hW0;have AaW:W0.drew.heap[wc.heap.size]?=some (.cells #[.pointer (some ⟨nb,0,none⟩),.string s] 119 (0,0)):=hS0.1;refine wp_region_held_drew (S:=fun W:World=>W.heap[wc.heap.size]?=some (.cells #[.pointer (some ⟨nb,0,none⟩),.string s] 119 (0,0))) (by kernel_rfl) AaW (fun hHeld=>?_);refine wpAnyH_take (i:=0) (oi:={ dst:=some 21,op:=.move (.tmp 0),type:=_,pos:=_,after:=_,guard:=none }) (v:=.pointer (some ⟨vb,0,none⟩)) rfl (by kernel_rfl) (by kernel_rfl) (by kernel_rfl) (fun _ _ _ h=>h) (Or.inl ⟨by rfl,by intro w _;first|rfl|go_simp⟩) (by assumption) ?_
  try simp only[Act.put,List.setIfInBounds_toArray,List.set_cons_zero,List.set_cons_succ]
  refine wpAnyH_take (i:=1) (oi:={ dst:=some 22,op:=.makeFunc (.func 47) #[.tmp 5] #[],type:=_,pos:=_,after:=_,guard:=none }) (v:=.func (.func 47) #[.pointer (some ⟨nb,0,none⟩)] #[]) rfl (by kernel_rfl) (by kernel_rfl) (by kernel_rfl) (fun _ _ _ h=>h) (Or.inl ⟨by rfl,by intro w _;first|rfl|go_simp⟩) (by assumption) ?_
  try simp only[Act.put,List.setIfInBounds_toArray,List.set_cons_zero,List.set_cons_succ]
  refine wpAnyH_take (i:=2) (oi:={ dst:=some 23,op:=.load 119 (.tmp 7),type:=_,pos:=_,after:=_,guard:=none }) (v:=.agg #[.pointer (some ⟨nb,0,none⟩),.string s]) rfl (by kernel_rfl) (by kernel_rfl) (by kernel_rfl) (fun _ _ _ h=>h) (Or.inl ⟨by rfl,by intro w hS;obtain⟨_,c0,c1⟩:=Nt.out w hS;go_simp⟩) (by assumption) ?_
  try simp only[Act.put,List.setIfInBounds_toArray,List.set_cons_zero,List.set_cons_succ]
  refine wpAnyH_take (i:=3) (oi:={ dst:=some 24,op:=.makeFunc (.func 110) #[.tmp 23] #[],type:=_,pos:=_,after:=_,guard:=none }) (v:=.func (.func 110) #[.agg #[.pointer (some ⟨nb,0,none⟩),.string s]] #[]) rfl (by kernel_rfl) (by kernel_rfl) (by kernel_rfl) (fun _ _ _ h=>h) (Or.inl ⟨by rfl,by intro w _;first|rfl|go_simp⟩) (by assumption) ?_
  try simp only[Act.put,List.setIfInBounds_toArray,List.set_cons_zero,List.set_cons_succ]
  refine wpAnyH_take (i:=4) (oi:={ dst:=some 25,op:=.move (.tmp 0),type:=_,pos:=_,after:=_,guard:=none }) (v:=.pointer (some ⟨vb,0,none⟩)) rfl (by kernel_rfl) (by kernel_rfl) (by kernel_rfl) (fun _ _ _ h=>h) (Or.inl ⟨by rfl,by intro w _;first|rfl|go_simp⟩) (by assumption) ?_
  try simp only[Act.put,List.setIfInBounds_toArray,List.set_cons_zero,List.set_cons_succ]
  refine wpAnyH_take (i:=5) (oi:={ dst:=some 26,op:=.nilCheck (.tmp 25),type:=_,pos:=_,after:=_,guard:=none }) (v:=.pointer (some ⟨vb,0,none⟩)) rfl (by kernel_rfl) (by kernel_rfl) (by kernel_rfl) (fun _ _ _ h=>h) (Or.inl ⟨by rfl,by intro w _;first|rfl|go_simp⟩) (by assumption) ?_
  try simp only[Act.put,List.setIfInBounds_toArray,List.set_cons_zero,List.set_cons_succ]
  refine wpAnyH_take (i:=6) (oi:={ dst:=some 27,op:=.fieldAddr 84 (.tmp 26) 0,type:=_,pos:=_,after:=_,guard:=none }) (v:=.pointer (some ⟨vb,0,none⟩)) rfl (by kernel_rfl) (by kernel_rfl) (by kernel_rfl) (fun _ _ _ h=>h) (Or.inl ⟨by rfl,by intro w _;go_simp⟩) (by assumption) ?_
  try simp only[Act.put,List.setIfInBounds_toArray,List.set_cons_zero,List.set_cons_succ]
  refine wpAnyH_take (i:=7) (oi:={ dst:=some 28,op:=.makeFunc (.func 158) #[.tmp 27] #[],type:=_,pos:=_,after:=_,guard:=none }) (v:=.func (.func 158) #[.pointer (some ⟨vb,0,none⟩)] #[]) rfl (by kernel_rfl) (by kernel_rfl) (by kernel_rfl) (fun _ _ _ h=>h) (Or.inl ⟨by rfl,by intro w _;first|rfl|go_simp⟩) (by assumption) ?_
  try simp only[Act.put,List.setIfInBounds_toArray,List.set_cons_zero,List.set_cons_succ]
  refine wpAnyH_take (i:=8) (oi:={ dst:=some 29,op:=.makeFunc (.func 111) #[.tmp 5] #[],type:=_,pos:=_,after:=_,guard:=none }) (v:=.func (.func 111) #[.pointer (some ⟨nb,0,none⟩)] #[]) rfl (by kernel_rfl) (by kernel_rfl) (by kernel_rfl) (fun _ _ _ h=>h) (Or.inl ⟨by rfl,by intro w _;first|rfl|go_simp⟩) (by assumption) ?_
  try simp only[Act.put,List.setIfInBounds_toArray,List.set_cons_zero,List.set_cons_succ]
  refine wpAnyH_take (i:=9) (oi:={ dst:=some 30,op:=.move (.tmp 6),type:=_,pos:=_,after:=_,guard:=none }) (v:=.func (.func 53) #[.pointer (some ⟨b,0,none⟩)] #[]) rfl (by kernel_rfl) (by kernel_rfl) (by kernel_rfl) (fun _ _ _ h=>h) (Or.inl ⟨by rfl,by intro w _;first|rfl|go_simp⟩) (by assumption) ?_
  try simp only[Act.put,List.setIfInBounds_toArray,List.set_cons_zero,List.set_cons_succ]
  refine wpAnyH_take (i:=10) (oi:={ dst:=some 31,op:=.makeFunc (.func 52) #[.tmp 5] #[],type:=_,pos:=_,after:=_,guard:=none }) (v:=.func (.func 52) #[.pointer (some ⟨nb,0,none⟩)] #[]) rfl (by kernel_rfl) (by kernel_rfl) (by kernel_rfl) (fun _ _ _ h=>h) (Or.inl ⟨by rfl,by intro w _;first|rfl|go_simp⟩) (by assumption) ?_
  try simp only[Act.put,List.setIfInBounds_toArray,List.set_cons_zero,List.set_cons_succ]
  refine wpAnyH_take (i:=11) (oi:={ dst:=some 32,op:=.load 119 (.tmp 7),type:=_,pos:=_,after:=_,guard:=none }) (v:=.agg #[.pointer (some ⟨nb,0,none⟩),.string s]) rfl (by kernel_rfl) (by kernel_rfl) (by kernel_rfl) (fun _ _ _ h=>h) (Or.inl ⟨by rfl,by intro w hS;obtain⟨_,c0,c1⟩:=Nt.out w hS;go_simp⟩) (by assumption) ?_
  try simp only[Act.put,List.setIfInBounds_toArray,List.set_cons_zero,List.set_cons_succ]
  refine wpAnyH_take (i:=12) (oi:={ dst:=some 33,op:=.makeFunc (.func 54) #[.tmp 32] #[],type:=_,pos:=_,after:=_,guard:=none }) (v:=.func (.func 54) #[.agg #[.pointer (some ⟨nb,0,none⟩),.string s]] #[]) rfl (by kernel_rfl) (by kernel_rfl) (by kernel_rfl) (fun _ _ _ h=>h) (Or.inl ⟨by rfl,by intro w _;first|rfl|go_simp⟩) (by assumption) ?_
  try simp only[Act.put,List.setIfInBounds_toArray,List.set_cons_zero,List.set_cons_succ]
  refine wpAnyH_take (i:=13) (oi:={ dst:=some 34,op:=.move (.tmp 6),type:=_,pos:=_,after:=_,guard:=none }) (v:=.func (.func 53) #[.pointer (some ⟨b,0,none⟩)] #[]) rfl (by kernel_rfl) (by kernel_rfl) (by kernel_rfl) (fun _ _ _ h=>h) (Or.inl ⟨by rfl,by intro w _;first|rfl|go_simp⟩) (by assumption) ?_
  try simp only[Act.put,List.setIfInBounds_toArray,List.set_cons_zero,List.set_cons_succ]
  refine wpAnyH_take (i:=14) (oi:={ dst:=some 35,op:=.makeFunc (.func 112) #[.tmp 5] #[],type:=_,pos:=_,after:=_,guard:=none }) (v:=.func (.func 112) #[.pointer (some ⟨nb,0,none⟩)] #[]) rfl (by kernel_rfl) (by kernel_rfl) (by kernel_rfl) (fun _ _ _ h=>h) (Or.inl ⟨by rfl,by intro w _;first|rfl|go_simp⟩) (by assumption) ?_
  try simp only[Act.put,List.setIfInBounds_toArray,List.set_cons_zero,List.set_cons_succ]
  refine wpAnyH_take (i:=15) (oi:={ dst:=some 36,op:=.move (.tmp 6),type:=_,pos:=_,after:=_,guard:=none }) (v:=.func (.func 53) #[.pointer (some ⟨b,0,none⟩)] #[]) rfl (by kernel_rfl) (by kernel_rfl) (by kernel_rfl) (fun _ _ _ h=>h) (Or.inl ⟨by rfl,by intro w _;first|rfl|go_simp⟩) (by assumption) ?_
  try simp only[Act.put,List.setIfInBounds_toArray,List.set_cons_zero,List.set_cons_succ]
  refine wpAnyH_ready (rs:=[16]) (by kernel_rfl) (by simp) (AllReadyH.cons (o:={ dst:=some 37,op:=.buildSlice 168 10 #[(0,.tmp 22),(1,.tmp 24),(2,.tmp 28),(3,.tmp 29),(4,.tmp 30),(5,.tmp 31),(6,.tmp 33),(7,.tmp 34),(8,.tmp 35),(9,.tmp 36)],type:=_,pos:=_,after:=_,guard:=none }) rfl (fun K hK=>?_) AllReadyH.nil);go_simp;refine hK.out _ _ (HKO.out _ _ hHeld ((Off.refl _ _).alloc _)) (fun Tg=>?_);clear hK K hHeld
  try simp only[Act.put,List.setIfInBounds_toArray,List.set_cons_zero,List.set_cons_succ]
  refine wpAnyH_ready (rs:=[17]) (by kernel_rfl) (by simp) (AllReadyH.cons (o:={ dst:=some 38,op:=.call { callee:=.value (.func 50),args:=#[.tmp 21,.tmp 37],argTypes:=#[60,168] },type:=_,pos:=_,after:=_,guard:=none }) rfl (fun K hK=>?_) AllReadyH.nil);go_simp;refine(HDO.out W0.drew nb AbC HB0.out.drew HN0.out).mono ?_;rintro e w3 ⟨q,rfl,hx,hb3,ho3,hoc⟩;refine hK.out _ _ (HKO.out _ _ Tg hoc) (fun WR=>?_);clear hK K Tg
  try simp only[Act.put,List.setIfInBounds_toArray,List.set_cons_zero,List.set_cons_succ]
  refine wpAnyH_take (i:=18) (oi:={ dst:=some 8,op:=.assign (.tmp 38),type:=_,pos:=_,after:=_,guard:=none }) (v:=.int .i64 q) rfl (by kernel_rfl) (by kernel_rfl) (by kernel_rfl) (fun _ _ _ h=>h) (Or.inl ⟨by rfl,by intro _ _;rfl⟩) (by assumption) ?_
  try simp only[Act.put,List.setIfInBounds_toArray,List.set_cons_zero,List.set_cons_succ]
  refine wpAnyH_done (by kernel_rfl) ?_ _;have HX:=Aa hx;have HB3:=Aa hb3;have I6:=Aa ho3;clear hx hb3 ho3 hoc WR hS0 AaW j0 j1;by_cases hq:q=0
  · subst hq;obtain⟨hv,hfit,hn,st',hd,hl',hpe⟩:Ap X w3 vb b (BF h k) h A E img rv true∧Cu h 1 s=0∧Af w3 nb 82 b (BF h (!k)) h (1+(s.size+61)/62) (E+1) []∧∃st',Dev B w3 b st'∧Dj n h (!k) (E+1) (1+(s.size+61)/62) s [] [s] [] lm st'∧st'.pend=[]:=by
     obtain⟨hv,⟨_,h1,h2,h3⟩|⟨h1,_⟩|⟨h1,_⟩⟩:=HX.out
     · exact⟨hv,h1,h2,h3⟩
     · cases h1
     · exact absurd rfl h1
    have LJ:=Aa hfit;have HV:=Aa hv;have HN:=Aa hn;have wy:Hid (∀W,Below w3.heap.size w3 W→Ap X W vb b (BF h k) h A E img rv true):=Aa (fun W hW=>Af.below HV.out hW);have HCN:Hid (∀W,Below w3.heap.size w3 W→Af W nb 82 b (BF h (!k)) h (1+(s.size+61)/62) (E+1) []):=Aa (fun W hW=>Af.below HN.out hW);have HLF:Hid (∀W,Below w3.heap.size w3 W→TQ X B b vb w st' W (WJ b (BF h k) h A E++([.string img,rv,.bool true]++X:List Value)).toArray):=Aa (fun W hW=>⟨Af.below HV.out hW,HB3.out.trans (hW.mono (Al hB (by have:=HB3.out.size;omega))),I6.out.trans (Off.Ar hW _),hd.below hW⟩);have Xr:Hid (∀(W:World) (C:Array Value),TQ X B b vb w st' W C→C=(WJ b (BF h (!k)) h (1+(s.size+61)/62) (E+1)++([.string s,.slice none 0 0,.bool true]++X:List Value)).toArray→xg X B b vb n h k E s lm w W):=Aa (fun W C hl hC=>by
     subst hC;exact⟨hl.2.1,hl.2.2.1,st',.slice none 0 0,⟨hl',hl.2.2.2,hl.1,Or.inl ⟨rfl,rfl⟩,HL.out.hvb⟩,hpe,rfl⟩)
    have Za:Hid (B≤vb):=Aa HL.out.hvb;obtain⟨m0,m1,m2,m3,m4⟩:=hn.cells;clear hv hn hd hl' hpe hfit HX;generalize (1+(s.size+61)/62)=A2 at *;generalize hE2:E+1=E2 at *;generalize BF h (!k)=F2 at *;go_wp2_with fail;go_region_law (first|(refine LW rfl 55 _ _ rfl (fun xs W=>Tryz.call55 xs W) (.string s) (.string s) rfl (fun W9=>Below w3.drew.heap.size w3.drew W9) (cC w3.drew) ?_;intro w8 Hr;have Rm:Below w3.heap.size w3 w8:=(Ad _ _).drew.trans Hr;obtain⟨m0,m1,m2,m3,m4⟩:=(HCN.out _ Rm).cells;obtain⟨k0,k1,k2,k3,k4⟩:=Af.cells (wy.out _ Rm);obtain⟨k5,k6,k7⟩:=(wy.out _ Rm).more;have f0:=(wy.out _ Rm).frozen 0;have f1:=(wy.out _ Rm).frozen 1;have f2:=(wy.out _ Rm).frozen 2;have f3:=(wy.out _ Rm).frozen 3;have f4:=(wy.out _ Rm).frozen 4;have f5:=(wy.out _ Rm).frozen 5;have f6:=(wy.out _ Rm).frozen 6))
    all_goals
     have HL8:=Aa (HLF.out _ Rm);clear Rm Hr k0 k1 k2 k3 k4 k5 k6 k7 f0 f1 f2 f3 f4 f5 f6;go_wp2;go_ret;exact⟨0,rfl,Or.inl ⟨rfl,LJ.out,Xr.out _ _ (((((((HL8.out.set Za.out _ _).set Za.out _ _).set Za.out _ _).set Za.out _ _).set Za.out _ _).set Za.out _ _).set Za.out _ _) rfl⟩⟩
  · have hqz:(q==0)=false:=by simpa using hq
    have HE:Hid ((q=13∧lm=true∧∃st',KS X B b vb n h k E r1 r2 s st' w3)∨(q≠0∧q≠13∧Cu h 1 s=q∧DR X B b vb n h k E A img rs r1 r2 lm st rv w3)):=Aa (by
     obtain⟨hv,⟨h0,_⟩|⟨Ka,h1,st',hd,hD⟩|⟨h0,Ka,h1,hd⟩⟩:=HX.out
     · exact absurd h0 hq
     · refine Or.inl ⟨Ka,h1,st',hD,hd,?_,HL.out.hvb⟩;rw[Ka]at hv;exact⟨_,_,_,hv⟩
     · refine Or.inr ⟨h0,Ka,h1,HL.out.live,hd,?_,HL.out.row.off I6.out,HL.out.hvb⟩;rw[AX Ka]at hv;exact hv)
    clear HX;go_wp2;go_ret;exact⟨q,rfl,Or.inr ⟨HB3.out,I6.out,HE.out⟩⟩
end Go.Proofs.YtdmkhmeaphaapaaGreat.V.St
