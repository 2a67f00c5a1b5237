/- Kit. -/
import Derived.Test.YtdmkhmeaphaapaaGreatFJ4
import Derived.Test.YtdmkhmeaphaapaaGreatFJ5
import Derived.Test.YtdmkhmeaphaapaaGreatFJ1
set_option maxRecDepth 100000
namespace Go.Proofs.YtdmkhmeaphaapaaGreat.V
open Go.RowKit Go.Sort
set_option linter.unusedVariables false
def fmKs (b fb sb:Nat)(s:ByteArray):List (Nat×Value):=[(47,.pointer (some ⟨fb,0,none⟩)),(110,.agg #[.pointer (some ⟨fb,0,none⟩),.string s]),(111,.pointer (some ⟨fb,0,none⟩)),(111,.pointer (some ⟨sb,0,none⟩)),(53,.pointer (some ⟨b,0,none⟩)),(52,.pointer (some ⟨fb,0,none⟩)),(52,.pointer (some ⟨sb,0,none⟩)),(54,.agg #[.pointer (some ⟨fb,0,none⟩),.string s]),(53,.pointer (some ⟨b,0,none⟩)),(112,.pointer (some ⟨fb,0,none⟩)),(53,.pointer (some ⟨b,0,none⟩))]
def FmX (B b n h:Nat)(st:St)(s:ByteArray)(q:Int)(W:World):Prop:=
  (n<4∧q=1∧Dev B W b st)∨(4≤n∧q≠0∧fitsI h 1 s=q∧Dev B W b st)∨(4≤n∧q=0∧fitsI h 1 s=0∧∃st',Dev B W b st'∧LiveS n h false 1 (1+(s.size+61)/62) s [] [s] [] false st'∧st'.pend=[])
theorem set_far {W:World}{hb:Nat}{T:TypeId}{b F S A E:Nat}{R:List Value}{k j:Nat}{x:Value}(h:HalfAt W hb T b F S A E R)(hne:hb≠k):HalfAt (W.setCell ⟨k,j,none⟩ x) hb T b F S A E R:=by
  unfold HalfAt;rw[heap_setCell_other W ⟨k,j,none⟩ hb _ hne];exact h
theorem FmI.fm {n h:Nat}{s:ByteArray}{i:Nat}{st:St}(hi:i≤10)(h0:FmI n h s i st):∃p,p≤600∧FmS n p st:=by
  rcases i with _ | _ | _ | _ | _ | _ | _ | _ | _ | _ | _|i
  · exact⟨_,by omega,h0⟩
  · exact⟨_,by omega,h0⟩
  · exact⟨_,by omega,h0⟩
  · exact⟨_,by omega,h0⟩
  · exact⟨_,by omega,h0.1⟩
  · exact⟨_,by omega,h0.1⟩
  · exact⟨_,by omega,h0.1⟩
  · exact⟨_,by omega,h0.1⟩
  · exact⟨_,by omega,h0.1⟩
  · exact⟨_,by omega,h0.1⟩
  · exact⟨_,by omega,h0.1⟩
  · omega
set_option maxHeartbeats 8000000 in
theorem format_do {B b fb sb n h g:Nat}{st:St}{W:World}(s:ByteArray)(hd:Dev B W b st)(hF:FmS n 0 st)(hh:n/2=h)(hn2:n≤400)(hs:s.size≤1000000)(hB:B≤W.heap.size)
    (hf:HalfAt W fb 82 b 0 h 1 1 []) (hsb:HalfAt W sb 82 b h h 1 0 []) (hne:fb≠sb) (hfB:B≤fb) (hg:StepsAt W g (fmKs b fb sb s)) :
    Calls Tryz.prog 46 #[.slice (some ⟨g,0,none⟩) (11:Nat) (11:Nat)] W fun e w'=>∃q:Int,e=.returned (.int .i64 q)∧Below B W w'∧Off vaTs W w'∧FmX B b n h st s q w':=by
  have hTh:82∉devTs:=by decide
  have keep:∀{W1 W2:World} {T:TypeId} {hb' F' S' A' E':Nat} {R':List Value},HalfAt W1 hb' T b F' S' A' E' R'→Off devTs W1 W2→T∈[82,84,98]→HalfAt W2 hb' T b F' S' A' E' R':=fun h1 h2 h3=>HalfAt.base_off h1 h2 h3
  refine(inOrder_c g 11 (fmKs b fb sb s) W
    (fun i W'=>Below B W W'∧Off vaTs W W'∧HalfAt W' fb 82 b 0 h (if i≤7 then 1 else 1+(s.size+61)/62) 1 []∧HalfAt W' sb 82 b h h 1 0 []∧(1≤i→4≤n)∧(2≤i→fitsI h 1 s=0)∧∃st',Dev B W' b st'∧FmI n h s i st'∧(i≤2→st'=st))
    (fun q W'=>Below B W W'∧Off vaTs W W'∧FmX B b n h st s q W')
    rfl (by decide) ?_ ⟨Below.refl _ _,Off.refl _ _,hf,hsb,by omega,by omega,st,hd,hF,fun _=>rfl⟩ ?_ ?_).mono ?_
  · intro k hk;simp only[fmKs,List.mem_cons,List.mem_nil_iff,or_false]at hk;rcases hk with rfl|rfl|rfl|rfl|rfl|rfl|rfl|rfl|rfl|rfl|rfl
    · exact call_stands
    · exact call_fits
    · exact call_shut
    · exact call_shut
    · exact call_flush
    · exact call_wipe
    · exact call_wipe
    · exact call_write
    · exact call_flush
    · exact call_sign
    · exact call_flush
  · rintro i W' ⟨_,ho,_⟩;exact ho _ (by decide) _ _ _ hg
  · rintro i kk W' hk ⟨hb,ho,hf',hs',h4,hfit,st',hd',hi,hst⟩;have hBW:B≤W'.heap.size:=Nat.le_trans hB hb.size;rcases i with _ | _ | _ | _ | _ | _ | _ | _ | _ | _ | _|i
    ·
      injection hk with hk;subst hk;have hst':=hst (by omega);subst hst';have hS:FmS n 0 st':=hi;have hgo:=free_gone hS.lim;have hlen:=hS.len;refine(stands_c hf' hd' hS.good (by omega)).mono ?_;rintro e w' ⟨rfl,hbb⟩;refine⟨_,rfl,?_⟩;by_cases hn4:4≤n
      · have hq:standsI st' 0 h=0:=by
          unfold standsI;have:=ask_ok (k:=0) hgo (by omega);rw[this,if_pos rfl,if_neg (by omega)]
        exact Or.inl ⟨hq,hb.trans (hbb.mono hBW),ho.trans (Off.ofBelow hbb _),HalfAt.below hf' hbb,HalfAt.below hs' hbb,fun _=>hn4,by omega,st',hd'.below hbb,hS,fun _=>rfl⟩
      · have hq:standsI st' 0 h=1:=by
          unfold standsI;by_cases hn0:n=0
          · have:askI st'.now.length st'.lim st'.left ((0:Nat):Int)=1:=by
              unfold askI;unfold goneB at hgo;rw[hgo,if_neg (by simp),if_pos (by omega)]
            rw[this,if_neg (by decide)]
          · have:=ask_ok (k:=0) hgo (by omega);rw[this,if_pos rfl,if_pos (by omega)]
        rw[hq];exact Or.inr ⟨by decide,hb.trans (hbb.mono hBW),ho.trans (Off.ofBelow hbb _),Or.inl ⟨by omega,rfl,hd'.below hbb⟩⟩
    ·
      injection hk with hk;subst hk;have hst':=hst (by omega);subst hst';have hS:FmS n 0 st':=hi;have hn4:=h4 (by omega);refine(fits_c s hf' (by omega) (by simp) (by omega)).mono ?_;rintro e w' ⟨rfl,hbb⟩;refine⟨_,rfl,?_⟩;by_cases hq:fitsI h 1 s=0
      · exact Or.inl ⟨hq,hb.trans (hbb.mono hBW),ho.trans (Off.ofBelow hbb _),HalfAt.below hf' hbb,HalfAt.below hs' hbb,fun _=>hn4,fun _=>hq,st',hd'.below hbb,hS,fun _=>rfl⟩
      · exact Or.inr ⟨hq,hb.trans (hbb.mono hBW),ho.trans (Off.ofBelow hbb _),Or.inr (Or.inl ⟨hn4,hq,rfl,hd'.below hbb⟩)⟩
    ·
      injection hk with hk;subst hk;have hn4:=h4 (by omega);obtain⟨f1,f2,f3⟩:=fits_ok (hfit (by omega));obtain⟨p,hp,hS⟩:=FmI.fm (by omega) hi;have hpz:=hS.pnd;have hlen:=hS.len;have hgo:=free_gone hS.lim;have hff:HalfAt W' fb 82 b 0 h 1 1 []:=hf';refine(shut_c (B:=B) (Ps:=fun q w1=>HdP B b st' 0 0 q w1∧Below B W' w1∧Off devTs W' w1) hff hTh (fun W2 hW2=>?_)).mono ?_
      · refine(sethead_c (hd'.below hW2) hS.good (by omega) (by omega) (Nat.le_trans hBW hW2.size) (by decide)).mono ?_;rintro e w' ⟨q,he,⟨h1,h3,h4⟩,h5⟩;exact⟨q,he,⟨h1,(hW2.mono hBW).trans h3,(Off.ofBelow hW2 _).trans h4⟩,h5⟩
      · rintro e w' ⟨q,rfl,hq,hbb,hoo⟩;refine⟨q,rfl,?_⟩;rcases hq with⟨rfl,hgo',_⟩|⟨rfl,_,hd2⟩
        · rw[hgo]at hgo';cases hgo'
        · exact Or.inl ⟨rfl,hb.trans hbb,ho.trans hoo.va,keep hf' hoo (by simp),keep hs' hoo (by simp),fun _=>hn4,fun _=>hfit (by omega),_,hd2,fm_shut1 hi (by omega) (by omega),by omega⟩
    ·
      injection hk with hk;subst hk;have hn4:=h4 (by omega);obtain⟨f1,f2,f3⟩:=fits_ok (hfit (by omega));obtain⟨p,hp,hS⟩:=FmI.fm (by omega) hi;have hpz:=hS.pnd;have hlen:=hS.len;have hgo:=free_gone hS.lim;have hff:HalfAt W' fb 82 b 0 h 1 1 []:=hf';refine(shut_c (B:=B) (Ps:=fun q w1=>HdP B b st' h 0 q w1∧Below B W' w1∧Off devTs W' w1) hs' hTh (fun W2 hW2=>?_)).mono ?_
      · refine(sethead_c (hd'.below hW2) hS.good (by omega) (by omega) (Nat.le_trans hBW hW2.size) (by decide)).mono ?_;rintro e w' ⟨q,he,⟨h1,h3,h4⟩,h5⟩;exact⟨q,he,⟨h1,(hW2.mono hBW).trans h3,(Off.ofBelow hW2 _).trans h4⟩,h5⟩
      · rintro e w' ⟨q,rfl,hq,hbb,hoo⟩;refine⟨q,rfl,?_⟩;rcases hq with⟨rfl,hgo',_⟩|⟨rfl,_,hd2⟩
        · rw[hgo]at hgo';cases hgo'
        · exact Or.inl ⟨rfl,hb.trans hbb,ho.trans hoo.va,keep hf' hoo (by simp),keep hs' hoo (by simp),fun _=>hn4,fun _=>hfit (by omega),_,hd2,fm_shut2 hi (by omega) (by omega),by omega⟩
    ·
      injection hk with hk;subst hk;have hn4:=h4 (by omega);obtain⟨f1,f2,f3⟩:=fits_ok (hfit (by omega));obtain⟨p,hp,hS⟩:=FmI.fm (by omega) hi;have hpz:=hS.pnd;have hlen:=hS.len;have hgo:=free_gone hS.lim;have hff:HalfAt W' fb 82 b 0 h _ 1 []:=hf';refine(flushq_c hd' hS.good (by omega) hBW).mono ?_;rintro e w' ⟨q,rfl,hq,hbb,hoo⟩;refine⟨q,rfl,?_⟩;rcases hq with⟨rfl,hgo',_⟩|⟨rfl,_,hd2⟩
      · rw[hgo]at hgo';cases hgo'
      · exact Or.inl ⟨rfl,hb.trans hbb,ho.trans hoo.va,keep hf' hoo (by simp),keep hs' hoo (by simp),fun _=>hn4,fun _=>hfit (by omega),_,hd2,fm_flush1 hi,by omega⟩
    ·
      injection hk with hk;subst hk;have hn4:=h4 (by omega);obtain⟨f1,f2,f3⟩:=fits_ok (hfit (by omega));obtain⟨p,hp,hS⟩:=FmI.fm (by omega) hi;have hpz:=hS.pnd;have hlen:=hS.len;have hgo:=free_gone hS.lim;have hff:HalfAt W' fb 82 b 0 h 1 1 []:=hf';refine(wipe_c (B:=B) (Ps:=fun q w1=>WpP B b st' 0 1 h q w1∧Below B W' w1∧Off devTs W' w1) hff hTh (fun W2 hW2=>?_)).mono ?_
      · refine(wipeq_c (hd'.below hW2) hS.good (by omega) (by omega) (Nat.le_refl _) (by omega) (by omega) (Nat.le_trans hBW hW2.size)).mono ?_;rintro e w' ⟨q,he,⟨h1,h3,h4⟩,h5⟩;exact⟨q,he,⟨h1,(hW2.mono hBW).trans h3,(Off.ofBelow hW2 _).trans h4⟩,h5⟩
      · rintro e w' ⟨q,rfl,hq,hbb,hoo⟩;refine⟨q,rfl,?_⟩;rcases hq with⟨rfl,hgo',_⟩|⟨j,hj,hc,hr,hd2⟩
        · rw[hgo]at hgo';cases hgo'
        · rcases hc with⟨rfl,rfl⟩|⟨rfl,hgo'⟩
          · exact Or.inl ⟨rfl,hb.trans hbb,ho.trans hoo.va,keep hf' hoo (by simp),keep hs' hoo (by simp),fun _=>hn4,fun _=>hfit (by omega),_,hd2,fm_wipe1 hi (by omega) (by omega) hn2,by omega⟩
          · rw[free_gone (((wipes_any hS.good j (by omega) hr).2.1).trans hS.lim)]at hgo';cases hgo'
    ·
      injection hk with hk;subst hk;have hn4:=h4 (by omega);obtain⟨f1,f2,f3⟩:=fits_ok (hfit (by omega));obtain⟨p,hp,hS⟩:=FmI.fm (by omega) hi;have hpz:=hS.pnd;have hlen:=hS.len;have hgo:=free_gone hS.lim;have hff:HalfAt W' fb 82 b 0 h 1 1 []:=hf';refine(wipe_c (B:=B) (Ps:=fun q w1=>WpP B b st' h 1 h q w1∧Below B W' w1∧Off devTs W' w1) hs' hTh (fun W2 hW2=>?_)).mono ?_
      · refine(wipeq_c (hd'.below hW2) hS.good (by omega) (by omega) (Nat.le_refl _) (by omega) (by omega) (Nat.le_trans hBW hW2.size)).mono ?_;rintro e w' ⟨q,he,⟨h1,h3,h4⟩,h5⟩;exact⟨q,he,⟨h1,(hW2.mono hBW).trans h3,(Off.ofBelow hW2 _).trans h4⟩,h5⟩
      · rintro e w' ⟨q,rfl,hq,hbb,hoo⟩;refine⟨q,rfl,?_⟩;rcases hq with⟨rfl,hgo',_⟩|⟨j,hj,hc,hr,hd2⟩
        · rw[hgo]at hgo';cases hgo'
        · rcases hc with⟨rfl,rfl⟩|⟨rfl,hgo'⟩
          · exact Or.inl ⟨rfl,hb.trans hbb,ho.trans hoo.va,keep hf' hoo (by simp),keep hs' hoo (by simp),fun _=>hn4,fun _=>hfit (by omega),_,hd2,fm_wipe2 hi (by omega) (by omega) hn2,by omega⟩
          · rw[free_gone (((wipes_any hS.good j (by omega) hr).2.1).trans hS.lim)]at hgo';cases hgo'
    ·
      injection hk with hk;subst hk;have hn4:=h4 (by omega);obtain⟨f1,f2,f3⟩:=fits_ok (hfit (by omega));obtain⟨p,hp,hS⟩:=FmI.fm (by omega) hi;have hpz:=hS.pnd;have hlen:=hS.len;have hgo:=free_gone hS.lim;have hff:HalfAt W' fb 82 b 0 h 1 1 []:=hf';have hfl:=framesL_length s;refine(ewrite_c s (Ps:=fun x q w1=>WrP B b st' 0 1 h s x q w1∧Below B W' w1∧Off devTs W' w1) hff hTh (fun W2 hW2=>?_)).mono ?_
      · refine(writeq_c (hd'.below hW2) hS.good (by omega) (by omega) (Nat.le_refl _) (by omega) (by omega) (by omega) (Nat.le_trans hBW hW2.size)).mono ?_;rintro e w' ⟨x,q,he,⟨h1,h3,h4⟩,h5⟩;exact⟨x,q,he,⟨h1,(hW2.mono hBW).trans h3,(Off.ofBelow hW2 _).trans h4⟩,h5⟩
      · rintro e w' ⟨x,q,w1,rfl,⟨hwr,hbb,hoo⟩,hn1,hq⟩;refine⟨q,rfl,?_⟩;rcases hwr with⟨rfl,hgo',_⟩|⟨h1,h13,_,hft,_⟩|⟨hft,j,hj,hc,hr,hd2⟩
        · rw[hgo]at hgo';cases hgo'
        · rw[hfit (by omega)]at hft;exact absurd hft.symm h1
        · rcases hc with⟨rfl,rfl,rfl⟩|⟨rfl,hgo'⟩
          · rcases hq with⟨_,rfl⟩|⟨h1,_⟩
            · have htl:(framesL s).take ((s.size+61)/62)=framesL s:=List.take_of_length_le (by rw[hfl];exact Nat.le_refl _);rw[htl]at hd2;have hset:Off vaTs w1 (w1.setCell ⟨fb,3,none⟩ (.int .i64 ((1+(s.size+61)/62:Nat):Int))):=va_set hn1 (by decide);exact Or.inl ⟨rfl,(hb.trans hbb).setCell (p:=⟨fb,3,none⟩) hfB _,(ho.trans hoo.va).trans hset,hn1.setEnd _,set_far (keep hs' hoo (by simp)) (fun e=>hne e.symm),fun _=>hn4,fun _=>hfit (by omega),_,hd2.vset hn1 (by simp),fm_write hi (by omega) (by omega) hn2 f3,by omega⟩
            · exact absurd rfl h1
          · have hlim:=puts_lim hS.good (by rw[List.length_take,hfl];omega) (fun f hf=>framesL_size s f (List.mem_of_mem_take hf)) hr;rw[free_gone (hlim.trans hS.lim)]at hgo';cases hgo'
    ·
      injection hk with hk;subst hk;have hn4:=h4 (by omega);obtain⟨f1,f2,f3⟩:=fits_ok (hfit (by omega));obtain⟨p,hp,hS⟩:=FmI.fm (by omega) hi;have hpz:=hS.pnd;have hlen:=hS.len;have hgo:=free_gone hS.lim;have hff:HalfAt W' fb 82 b 0 h _ 1 []:=hf';refine(flushq_c hd' hS.good (by omega) hBW).mono ?_;rintro e w' ⟨q,rfl,hq,hbb,hoo⟩;refine⟨q,rfl,?_⟩;rcases hq with⟨rfl,hgo',_⟩|⟨rfl,_,hd2⟩
      · rw[hgo]at hgo';cases hgo'
      · exact Or.inl ⟨rfl,hb.trans hbb,ho.trans hoo.va,keep hf' hoo (by simp),keep hs' hoo (by simp),fun _=>hn4,fun _=>hfit (by omega),_,hd2,fm_flush2 hi,by omega⟩
    ·
      injection hk with hk;subst hk;have hn4:=h4 (by omega);obtain⟨f1,f2,f3⟩:=fits_ok (hfit (by omega));obtain⟨p,hp,hS⟩:=FmI.fm (by omega) hi;have hpz:=hS.pnd;have hlen:=hS.len;have hgo:=free_gone hS.lim;have hff:HalfAt W' fb 82 b 0 h (1+(s.size+61)/62) 1 []:=hf';refine(sign_c (B:=B) (Ps:=fun q w1=>HdP B b st' 0 1 q w1∧Below B W' w1∧Off devTs W' w1) hff hTh (fun W2 hW2=>?_)).mono ?_
      · refine(sethead_c (hd'.below hW2) hS.good (by omega) (by omega) (Nat.le_trans hBW hW2.size) (by decide)).mono ?_;rintro e w' ⟨q,he,⟨h1,h3,h4⟩,h5⟩;exact⟨q,he,⟨h1,(hW2.mono hBW).trans h3,(Off.ofBelow hW2 _).trans h4⟩,h5⟩
      · rintro e w' ⟨q,rfl,hq,hbb,hoo⟩;refine⟨q,rfl,?_⟩;rcases hq with⟨rfl,hgo',_⟩|⟨rfl,_,hd2⟩
        · rw[hgo]at hgo';cases hgo'
        · exact Or.inl ⟨rfl,hb.trans hbb,ho.trans hoo.va,keep hf' hoo (by simp),keep hs' hoo (by simp),fun _=>hn4,fun _=>hfit (by omega),_,hd2,fm_sign hi (by omega) (by omega) hn2,by omega⟩
    ·
      injection hk with hk;subst hk;have hn4:=h4 (by omega);obtain⟨f1,f2,f3⟩:=fits_ok (hfit (by omega));obtain⟨p,hp,hS⟩:=FmI.fm (by omega) hi;have hpz:=hS.pnd;have hlen:=hS.len;have hgo:=free_gone hS.lim;have hff:HalfAt W' fb 82 b 0 h _ 1 []:=hf';refine(flushq_c hd' hS.good (by omega) hBW).mono ?_;rintro e w' ⟨q,rfl,hq,hbb,hoo⟩;refine⟨q,rfl,?_⟩;rcases hq with⟨rfl,hgo',_⟩|⟨rfl,_,hd2⟩
      · rw[hgo]at hgo';cases hgo'
      · exact Or.inl ⟨rfl,hb.trans hbb,ho.trans hoo.va,keep hf' hoo (by simp),keep hs' hoo (by simp),fun _=>hn4,fun _=>hfit (by omega),_,hd2,fm_flush3 hi (by omega) (by omega) hn2 f1 f2 f3,by omega⟩
    · cases hk
  · rintro e w' ⟨q,rfl,⟨rfl,hb,ho,_,_,h4,hfit,st',hd',hi,_⟩|⟨_,hb,ho,hx⟩⟩
    · exact⟨0,rfl,hb,ho,Or.inr (Or.inr ⟨h4 (by omega),rfl,hfit (by omega),st',hd',hi⟩)⟩
    · exact⟨q,rfl,hb,ho,hx⟩
end Go.Proofs.YtdmkhmeaphaapaaGreat.V
namespace Go.Proofs.YtdmkhmeaphaapaaGreat.V
open Go.RowKit Go.Sort
set_option linter.unusedVariables false
theorem heap_alloc4_new (w:World)(A B C D:Obj):((((w.alloc A).alloc B).alloc C).alloc D).heap[w.heap.size+1+1+1]?=some D:=by
  have h:=heap_alloc_new (((w.alloc A).alloc B).alloc C) D;simpa using h
set_option maxHeartbeats 4000000 in
theorem format_c {B b n h:Nat}{st:St}{w:World}(s:ByteArray)(hd:Dev B w b st)(hF:FmS n 0 st)(hh:n/2=h)(hn2:n≤400)(hs:s.size≤1000000)(hB:B≤w.heap.size) :
    Calls Tryz.prog 71 #[.pointer (some ⟨b,0,none⟩),.string s] w fun e w'=>∃q:Int,e=.returned (.int .i64 q)∧Below B w w'∧Off vaTs w w'∧FmX B b n h st s q w':=by
  have HD:=Lib.hid hd;have HF:=Lib.hid hF;obtain⟨a,cap,hc⟩:=hd.nowCell;rw[hF.len]at hc;have cH:=halves_c b n cap a w hc (by omega);rw[hh]at cH;unfold hvV at cH;have HH:=Lib.hid hh;have HBX:=Lib.hid hB;have HDO:Hid (∀w1,Below w.heap.size w w1→Calls Tryz.prog 46 #[.slice (some ⟨w1.heap.size+1+1+1,0,none⟩) (11:Nat) (11:Nat)] ((((w1.alloc (.cells #[.pointer (some ⟨b,0,none⟩),.int .i64 0,.int .i64 h,.int .i64 1,.int .u64 1] 82)).alloc (.cells #[.pointer (some ⟨b,0,none⟩),.int .i64 h,.int .i64 h,.int .i64 1,.int .u64 0] 82)).alloc (.cells #[.pointer (some ⟨w1.heap.size,0,none⟩),.string s] 119)).alloc (.cells #[.func (.func 47) #[.pointer (some ⟨w1.heap.size,0,none⟩)] #[],.func (.func 110) #[.agg #[.pointer (some ⟨w1.heap.size,0,none⟩),.string s]] #[],.func (.func 111) #[.pointer (some ⟨w1.heap.size,0,none⟩)] #[],.func (.func 111) #[.pointer (some ⟨w1.heap.size+1,0,none⟩)] #[],.func (.func 53) #[.pointer (some ⟨b,0,none⟩)] #[],.func (.func 52) #[.pointer (some ⟨w1.heap.size,0,none⟩)] #[],.func (.func 52) #[.pointer (some ⟨w1.heap.size+1,0,none⟩)] #[],.func (.func 54) #[.agg #[.pointer (some ⟨w1.heap.size,0,none⟩),.string s]] #[],.func (.func 53) #[.pointer (some ⟨b,0,none⟩)] #[],.func (.func 112) #[.pointer (some ⟨w1.heap.size,0,none⟩)] #[],.func (.func 53) #[.pointer (some ⟨b,0,none⟩)] #[]] 169)) fun e w'=>∃q:Int,e=.returned (.int .i64 q)∧Below B w w'∧Off vaTs w w'∧FmX B b n h st s q w'):=Lib.hid (fun w1 hb1=>by
    have hz:=hb1.size;have hB2:Below w.heap.size w ((((w1.alloc (.cells #[.pointer (some ⟨b,0,none⟩),.int .i64 0,.int .i64 h,.int .i64 1,.int .u64 1] 82)).alloc (.cells #[.pointer (some ⟨b,0,none⟩),.int .i64 h,.int .i64 h,.int .i64 1,.int .u64 0] 82)).alloc (.cells #[.pointer (some ⟨w1.heap.size,0,none⟩),.string s] 119)).alloc (.cells #[.func (.func 47) #[.pointer (some ⟨w1.heap.size,0,none⟩)] #[],.func (.func 110) #[.agg #[.pointer (some ⟨w1.heap.size,0,none⟩),.string s]] #[],.func (.func 111) #[.pointer (some ⟨w1.heap.size,0,none⟩)] #[],.func (.func 111) #[.pointer (some ⟨w1.heap.size+1,0,none⟩)] #[],.func (.func 53) #[.pointer (some ⟨b,0,none⟩)] #[],.func (.func 52) #[.pointer (some ⟨w1.heap.size,0,none⟩)] #[],.func (.func 52) #[.pointer (some ⟨w1.heap.size+1,0,none⟩)] #[],.func (.func 54) #[.agg #[.pointer (some ⟨w1.heap.size,0,none⟩),.string s]] #[],.func (.func 53) #[.pointer (some ⟨b,0,none⟩)] #[],.func (.func 112) #[.pointer (some ⟨w1.heap.size,0,none⟩)] #[],.func (.func 53) #[.pointer (some ⟨b,0,none⟩)] #[]] 169)):=(((hb1.alloc hb1.size _).alloc (by simp<;>omega) _).alloc (by simp<;>omega) _).alloc (by simp<;>omega) _;have h1:=format_do (B:=B) (b:=b) (n:=n) (h:=h) (st:=st) (fb:=w1.heap.size) (sb:=w1.heap.size+1) (g:=w1.heap.size+1+1+1) (W:=(((w1.alloc (.cells #[.pointer (some ⟨b,0,none⟩),.int .i64 0,.int .i64 h,.int .i64 1,.int .u64 1] 82)).alloc (.cells #[.pointer (some ⟨b,0,none⟩),.int .i64 h,.int .i64 h,.int .i64 1,.int .u64 0] 82)).alloc (.cells #[.pointer (some ⟨w1.heap.size,0,none⟩),.string s] 119)).alloc (.cells #[.func (.func 47) #[.pointer (some ⟨w1.heap.size,0,none⟩)] #[],.func (.func 110) #[.agg #[.pointer (some ⟨w1.heap.size,0,none⟩),.string s]] #[],.func (.func 111) #[.pointer (some ⟨w1.heap.size,0,none⟩)] #[],.func (.func 111) #[.pointer (some ⟨w1.heap.size+1,0,none⟩)] #[],.func (.func 53) #[.pointer (some ⟨b,0,none⟩)] #[],.func (.func 52) #[.pointer (some ⟨w1.heap.size,0,none⟩)] #[],.func (.func 52) #[.pointer (some ⟨w1.heap.size+1,0,none⟩)] #[],.func (.func 54) #[.agg #[.pointer (some ⟨w1.heap.size,0,none⟩),.string s]] #[],.func (.func 53) #[.pointer (some ⟨b,0,none⟩)] #[],.func (.func 112) #[.pointer (some ⟨w1.heap.size,0,none⟩)] #[],.func (.func 53) #[.pointer (some ⟨b,0,none⟩)] #[]] 169)) s (hd.below hB2) hF hh hn2 hs (Nat.le_trans hB hB2.size) (by unfold HalfAt;rw[Below.heap_alloc _ _ _ (by simp<;>omega),Below.heap_alloc _ _ _ (by simp<;>omega),Below.heap_alloc _ _ _ (by simp)];exact heap_alloc_new _ _) (by unfold HalfAt;rw[Below.heap_alloc _ _ _ (by simp<;>omega),Below.heap_alloc _ _ _ (by simp)];exact heap_alloc2_new _ _ _) (by omega) (by omega) (heap_alloc4_new _ _ _ _ _);refine h1.mono ?_;rintro e w' ⟨q,he,hb,ho,hx⟩;exact⟨q,he,(hB2.mono hB).trans hb,(Off.ofBelow hB2 _).trans ho,hx⟩)
  clear hd hF hc hh;go_enter Tryz.func71,Tryz.ntmps71;go_wp2_with fail;refine cH.mono ?_;rintro e w1 ⟨rfl,hb1⟩;have HB1:=Lib.hid hb1;clear hb1 cH;go_wp2_with fail;refine(HDO.out w1 HB1.out).mono ?_;rintro e w3 ⟨q,rfl,hb3,ho3,hx⟩;have HB3:=Lib.hid hb3;have HO3:=Lib.hid ho3;have HX:=Lib.hid hx;clear hb3 ho3 hx;go_wp2;go_ret;exact⟨q,rfl,HB3.out,HO3.out,HX.out⟩
end Go.Proofs.YtdmkhmeaphaapaaGreat.V
namespace Go.Proofs.YtdmkhmeaphaapaaGreat.V
open Go.RowKit Go.Sort
set_option linter.unusedVariables false
structure OpV where
  X:Int
  s:ByteArray
  cut:Bool
  N:Int
  crash:Bool
  kv:Value
  l:List Int
structure OpIs (w:World)(g p:Nat)(o:OpV):Prop where
  c0:w.cell? ⟨g,p,none⟩=some (.int .u8 o.X)
  c1:w.cell? ⟨g,p+1,none⟩=some (.string o.s)
  c2:w.cell? ⟨g,p+2,none⟩=some (.bool o.cut)
  c3:w.cell? ⟨g,p+3,none⟩=some (.int .i64 o.N)
  c4:w.cell? ⟨g,p+4,none⟩=some (.bool o.crash)
  c5:w.cell? ⟨g,p+5,none⟩=some o.kv
  nums:NumsIs w o.kv o.l
def OpsIs (w:World)(v:Value)(l:List OpV):Prop:=
  (l=[]∧∃a cap,v=.slice a 0 cap) ∨
  (∃g off cap,g<w.heap.size∧v=.slice (some ⟨g,off,none⟩) l.length cap∧∀j o,l[j]?=some o→OpIs w g (off+j*6) o)
theorem OpIs.kept {w w':World}{g p:Nat}{o:OpV}(h:OpIs w g p o)(hg:g<w.heap.size)(hb:Below w.heap.size w w'):OpIs w' g p o:=
  ⟨by rw[hb.cell (p:=⟨g,p,none⟩) hg];exact h.c0,by rw[hb.cell (p:=⟨g,p+1,none⟩) hg];exact h.c1,by rw[hb.cell (p:=⟨g,p+2,none⟩) hg];exact h.c2,by rw[hb.cell (p:=⟨g,p+3,none⟩) hg];exact h.c3,by rw[hb.cell (p:=⟨g,p+4,none⟩) hg];exact h.c4,by rw[hb.cell (p:=⟨g,p+5,none⟩) hg];exact h.c5,h.nums.kept hb⟩
theorem OpsIs.kept {w w':World}{v:Value}{l:List OpV}(h:OpsIs w v l)(hb:Below w.heap.size w w'):OpsIs w' v l:=by
  rcases h with h|⟨g,off,cap,hg,hv,hc⟩
  · exact Or.inl h
  · exact Or.inr ⟨g,off,cap,by have:=hb.size;omega,hv,fun j o hj=>(hc j o hj).kept hg hb⟩
end Go.Proofs.YtdmkhmeaphaapaaGreat.V
namespace Go.Proofs.YtdmkhmeaphaapaaGreat.V
open Go.RowKit Go.Sort
set_option linter.unusedVariables false
theorem recs_mk (rs:List ByteArray):(recs rs).map mkS=rs:=by
  unfold recs bytesL;rw[List.map_map];exact(List.map_congr_left fun s _=>rfl).trans (List.map_id _)
theorem recs_inj {a b:List ByteArray}(h:recs a=recs b):a=b:=by rw[←recs_mk a,h,recs_mk]
structure KnX (n h:Nat)(k:Bool)(E:Nat)(img:ByteArray)(rs:List ByteArray)(st:St):Prop where
  good:Good st
  lim:st.lim=false
  len:st.now.length=n
  half:n/2=h
  h2:2≤h
  n2:n≤400
  pnd:st.pend.length≤500
  pick:pickX h st.now=k
  read:readX h st.now=recs (img::rs)
  ep:epochI (st.now.getD (bkF h k) ⟨#[]⟩)=E
  oth:epochI (st.now.getD (bkF h (!k)) ⟨#[]⟩)<E
section
variable {B b vb n h:Nat}{k:Bool}{E A:Nat}{img fresh:ByteArray}{rs r1 r2:List ByteArray}{st:St}{rv:Value}{w:World}
theorem LiveS.kn (hL:LiveS n h k E A img rs r1 r2 false st)(hh:n/2=h):KnX n h k E img rs st:=by
  have h1:=hL.pndh;have h2:=hL.n2;have h3:=hL.hn;refine⟨hL.good,hL.lim rfl,hL.len,hh,hL.h2,hL.n2,by omega,hL.now_.pick,?_,hL.ep,hL.oth⟩;unfold readX;rw[hL.now_.pick];exact hL.hold.scan hL.sizes
theorem DeadS.kn (hD:DeadS n h k E r1 r2 fresh st)(l:List Int)(hh:n/2=h)(h2:2≤h)(hn2:n≤400)(hs:∀s∈r1++r2,1≤s.size∧s.size≤60000)(hne:r1≠[]) :
    ∃k' E' img' rs',KnX n h k' E' img' rs' (restartSt st l)∧E'≤E+1∧((∃y,y <+: r2∧img'::rs'=r1++y)∨(fresh.size≠0∧img'=fresh∧rs'=[])):=by
  obtain⟨g1,g2,g3,g4,g5⟩:=hD.restart l;obtain⟨k',E',img',rs',e1,e2,e3,e4,e5,e6⟩:=g5.read hs hne;exact⟨k',E',img',rs',⟨g1,g2,g3,hh,h2,hn2,by rw[g4];simp,e1,e2,e3,e4⟩,e5,e6⟩
def ReX (B b n h:Nat)(k:Bool)(E:Nat)(img:ByteArray)(rs:List ByteArray)(w:World)(e:Ending)(w':World):Prop:=
  ∃vb rv st',e=.returned (.tuple #[.pointer (some ⟨vb,0,none⟩),.int .i64 0])∧Below B w w'∧(Off vaTs w w'∧OffB w.heap.size w w')∧w.heap.size≤vb∧RowAt w.heap.size w' rv rs∧LiveR B b vb n h k E (1+(layB (recs (img::rs))).length) img rs (img::rs) [] false st' rv w'∧st'.pend=[]
theorem reopen_c (hd:Dev B w b st)(hK:KnX n h k E img rs st)(hB:B≤w.heap.size):Calls Tryz.prog 22 #[.pointer (some ⟨b,0,none⟩)] w (ReX B b n h k E img rs w):=by
  have h2:=hK.h2;have hh:=hK.half;refine(vopen_c hd hK.good hK.lim hK.len hK.half hK.n2 hK.pnd hB).mono ?_;rintro e w' ⟨hb,ho,⟨h4,_⟩|⟨_,hV,_⟩|⟨_,_,vb,A,img',rs',rv,rfl,hvb,hO⟩⟩
  · omega
  · have hE:epochI (st.now.getD (bkF h k) ⟨#[]⟩)≠0:=by have:=hK.oth;have:=hK.ep;omega
    rw[isV_some hK.pick hE,hK.read]at hV;cases hV
  · have hrd:=hO.rd;rw[hK.read]at hrd;have hli:=recs_inj hrd;injection hli with e1 e2;subst e1 e2;have hOl:=hO;rw[hK.pick,hK.ep]at hOl;obtain⟨hAh,hL⟩:=open_live hK.good hK.lim hK.len hK.h2 (by omega) hK.n2 hK.pick hK.read hK.ep hK.oth hO.end_;have hA:=hO.end_;subst hA;exact⟨vb,rv,_,rfl,hb,ho,hvb,hOl.row,⟨hL,hOl.dev,hOl.vlt,hOl.row.base hB,Nat.le_trans hB hvb⟩,rfl⟩
theorem fmNew (n:Nat)(hn:n≤400):FmS n 0 (stNew n):=⟨goodNew n (by omega),by simp[stNew],rfl,by simp[stNew]⟩
end
end Go.Proofs.YtdmkhmeaphaapaaGreat.V
