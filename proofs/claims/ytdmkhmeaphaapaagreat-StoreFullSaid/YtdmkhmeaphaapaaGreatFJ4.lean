/- Kit. -/
import Derived.Test.YtdmkhmeaphaapaaGreatFJ3
import Derived.Deep.RegionLaw
set_option maxRecDepth 100000
namespace Go.Proofs.YtdmkhmeaphaapaaGreat.V
open Go.RowKit Go.Sort
set_option linter.unusedVariables false
def RnI (n h:Nat)(k:Bool)(E:Nat)(r1 r2:List ByteArray)(lm:Bool)(st0:St)(s:ByteArray):Nat→St→Prop
  | 0,st=>st=st0
  | 1,st=>st=st0
  | 2,st=>st=st0
  | 3,st=>st=st0
  | 4,st=>StgS n h k E r1 r2 (h+1) lm st∧epochI (st.now.getD (bkF h (!k)) ⟨#[]⟩)=0
  | 5,st=>StgS n h k E r1 r2 0 lm st∧epochI (st.now.getD (bkF h (!k)) ⟨#[]⟩)=0
  | 6,st=>StgS n h k E r1 r2 h lm st∧Holds st (bkF h (!k)) h []∧epochI (st.now.getD (bkF h (!k)) ⟨#[]⟩)=0
  | 7,st=>StgS n h k E r1 r2 (2*h) lm st∧Holds st (bkF h (!k)) h [s]∧epochI (st.now.getD (bkF h (!k)) ⟨#[]⟩)=0
  | 8,st=>StgS n h k E r1 r2 0 lm st∧(Holds st (bkF h (!k)) h [s]∧epochI (st.now.getD (bkF h (!k)) ⟨#[]⟩)=0)∧OutAll st (fun x=>x=st.now)
  | 9,st=>DeadS n h k E r1 r2 s st∧LiveS n h (!k) (E+1) (1+(s.size+61)/62) s [] [s] [] lm (flushSt st)
  | _,st=>LiveS n h (!k) (E+1) (1+(s.size+61)/62) s [] [s] [] lm st∧st.pend=[]
def RnX (B b vb nb n h:Nat)(k:Bool)(E A:Nat)(img:ByteArray)(rs r1 r2:List ByteArray)(lm:Bool)(st0:St)(rv:Value)(s:ByteArray)(op:Bool)(q:Int)(W:World):Prop:=
  VaultAt W vb b (bkF h k) h A E img rv op∧((q=0∧fitsI h 1 s=0∧HalfAt W nb 82 b (bkF h (!k)) h (1+(s.size+61)/62) (E+1) []∧∃st',Dev B W b st'∧LiveS n h (!k) (E+1) (1+(s.size+61)/62) s [] [s] [] lm st'∧st'.pend=[]) ∨
    (q=13∧lm=true∧∃st',Dev B W b st'∧DeadS n h k E r1 r2 s st')∨(q≠0∧q≠13∧fitsI h 1 s=q∧Dev B W b st0))
theorem call_stands:Callable 47:=fun xs W=>Tryz.call47 xs W
theorem call_fits:Callable 110:=fun xs W=>Tryz.call110 xs W
theorem call_next:Callable 158:=fun xs W=>Tryz.call158 xs W
theorem call_shut:Callable 111:=fun xs W=>Tryz.call111 xs W
theorem call_wipe:Callable 52:=fun xs W=>Tryz.call52 xs W
theorem call_sign:Callable 112:=fun xs W=>Tryz.call112 xs W
def rnKs (b vb nb:Nat)(s:ByteArray):List (Nat×Value):=
  [(47,.pointer (some ⟨nb,0,none⟩)),(110,.agg #[.pointer (some ⟨nb,0,none⟩),.string s]),(158,.pointer (some ⟨vb,0,none⟩)),(111,.pointer (some ⟨nb,0,none⟩)),(53,.pointer (some ⟨b,0,none⟩)),(52,.pointer (some ⟨nb,0,none⟩)),(54,.agg #[.pointer (some ⟨nb,0,none⟩),.string s]),(53,.pointer (some ⟨b,0,none⟩)),(112,.pointer (some ⟨nb,0,none⟩)),(53,.pointer (some ⟨b,0,none⟩))]
theorem puts_lim {st:St}{i:Nat}{fs:List ByteArray}(hg:Good st)(hi:i+fs.length≤st.now.length)(hs:∀f∈fs,f.size=64)(hr:Runs st i fs):(putsSt st i fs).lim=st.lim:=by
  have hp:=puts_any hg hi hs hr _ (Nat.le_refl _);rw[List.take_length]at hp;exact hp.2.1
set_option maxHeartbeats 8000000 in
theorem renew_do {B b vb nb n h g:Nat}{k:Bool}{E A:Nat}{img:ByteArray}{rs r1 r2:List ByteArray}{lm:Bool}{st:St}{rv:Value}{W:World}(s:ByteArray)(hL:LiveR B b vb n h k E A img rs r1 r2 lm st rv W)(hs:s.size≤1000000)(hE:E+1<9223372036854775808)(hB:B≤W.heap.size)
    (hnb:HalfAt W nb 82 b (bkF h (!k)) h 1 (E+1) []) (hnB:B≤nb) (hg:StepsAt W g (rnKs b vb nb s)) :
    Calls Tryz.prog 50 #[.pointer (some ⟨vb,0,none⟩),.slice (some ⟨g,0,none⟩) (10:Nat) (10:Nat)] W fun e w'=>∃q:Int,e=.returned (.int .i64 q)∧RnX B b vb nb n h k E A img rs r1 r2 lm st rv s (decide (q≠13)) q w'∧Below B W w'∧Off vaTs W w':=by
  have hl:=hL.live;have hpd:=hl.pndh;have h9:=hl.n2;have h8:=hl.hn;have hle:=bkF_le hl.hn (!k);have hlen:=hl.len;have h2:=hl.h2;have hh1:1≤h:=by omega
  have hTh:82∉devTs:=by decide
  have keep:∀{W1 W2:World} {T:TypeId} {hb' F' S' A' E':Nat} {R':List Value},HalfAt W1 hb' T b F' S' A' E' R'→Off devTs W1 W2→T∈[82,84,98]→HalfAt W2 hb' T b F' S' A' E' R':=fun h1 h2 h3=>HalfAt.base_off h1 h2 h3
  refine(do_c g 10 (rnKs b vb nb s)
    (fun i W'=>Below B W W'∧Off vaTs W W'∧VaultAt W' vb b (bkF h k) h A E img rv true∧HalfAt W' nb 82 b (bkF h (!k)) h (if i≤6 then 1 else 1+(s.size+61)/62) (E+1) []∧(2≤i→fitsI h 1 s=0)∧∃st',Dev B W' b st'∧RnI n h k E r1 r2 lm st s i st')
    (fun q W'=>Below B W W'∧Off vaTs W W'∧q≠0∧RnX B b vb nb n h k E A img rs r1 r2 lm st rv s true q W')
    hL.vlt rfl (by decide) ?_ ⟨Below.refl _ _,Off.refl _ _,hL.vlt,hnb,by omega,st,hL.dev,rfl⟩ ?_ ?_ ?_).mono ?_
  · intro k hk;simp only[rnKs,List.mem_cons,List.mem_nil_iff,or_false]at hk;rcases hk with rfl|rfl|rfl|rfl|rfl|rfl|rfl|rfl|rfl|rfl
    · exact call_stands
    · exact call_fits
    · exact call_next
    · exact call_shut
    · exact call_flush
    · exact call_wipe
    · exact call_write
    · exact call_flush
    · exact call_sign
    · exact call_flush
  · rintro i W' ⟨_,ho,_⟩;exact ho _ (by decide) _ _ _ hg
  · rintro i kk W' hk ⟨hb,ho,hv,hn,hfit,st',hd,hi⟩;have hBW:B≤W'.heap.size:=Nat.le_trans hB hb.size;rcases i with _ | _ | _ | _ | _ | _ | _ | _ | _ | _|i
    ·
      injection hk with hk;subst hk;have hi':st'=st:=hi;subst hi';refine(stands_c hn hd hl.good (by omega)).mono ?_;rintro e w' ⟨rfl,hbb⟩;refine⟨_,rfl,?_⟩;cases hgo:goneB st'
      · have hq:standsI st' (bkF h (!k)) h=0:=by
          unfold standsI;rw[ask_ok hgo (by omega),if_pos rfl,if_neg (by omega)]
        exact Or.inl ⟨hq,hb.trans (hbb.mono hBW),ho.trans (Off.ofBelow hbb _),HalfAt.below hv hbb,HalfAt.below hn hbb,by omega,st',hd.below hbb,rfl⟩
      · have hq:standsI st' (bkF h (!k)) h=13:=by
          unfold standsI;rw[ask_gone hgo,if_neg (by decide)]
        rw[hq];exact Or.inr ⟨by decide,hb.trans (hbb.mono hBW),ho.trans (Off.ofBelow hbb _),by decide,HalfAt.below hv hbb,Or.inr (Or.inl ⟨rfl,gone_lim hgo hl.lim,st',hd.below hbb,hl.stg.dead (by omega) _⟩)⟩
    ·
      injection hk with hk;subst hk;have hi':st'=st:=hi;subst hi';refine(fits_c s hn (by omega) (by simp) (by omega)).mono ?_;rintro e w' ⟨rfl,hbb⟩;refine⟨_,rfl,?_⟩;by_cases hq:fitsI h 1 s=0
      · exact Or.inl ⟨hq,hb.trans (hbb.mono hBW),ho.trans (Off.ofBelow hbb _),HalfAt.below hv hbb,HalfAt.below hn hbb,fun _=>hq,st',hd.below hbb,rfl⟩
      · exact Or.inr ⟨hq,hb.trans (hbb.mono hBW),ho.trans (Off.ofBelow hbb _),hq,HalfAt.below hv hbb,Or.inr (Or.inr ⟨hq,by rcases fits_num h 1 s with e|e|e<;>rw[show fitsI h (if 0+1≤6 then 1 else 1+(s.size+61)/62) s=fitsI h 1 s from rfl,e]<;>decide,rfl,hd.below hbb⟩)⟩
    ·
      injection hk with hk;subst hk;have hi':st'=st:=hi;subst hi';refine(hasNext_c hv).mono ?_;rintro e w' ⟨rfl,rfl⟩;rw[if_neg (by omega)];exact⟨0,rfl,Or.inl ⟨rfl,hb,ho,hv,hn,fun _=>hfit (by omega),st',hd,rfl⟩⟩
    ·
      injection hk with hk;subst hk;have hi':st'=st:=hi;subst hi';refine(shut_c (B:=B) (Ps:=fun q w1=>HdP B b st' (bkF h (!k)) 0 q w1∧Below B W' w1∧Off devTs W' w1) hn hTh (fun W2 hW2=>?_)).mono ?_
      · refine(sethead_c (hd.below hW2) hl.good (by omega) (by omega) (Nat.le_trans hBW hW2.size) (by decide)).mono ?_;rintro e w' ⟨q,he,⟨h1,h3,h4⟩,h5⟩;exact⟨q,he,⟨h1,(hW2.mono hBW).trans h3,(Off.ofBelow hW2 _).trans h4⟩,h5⟩
      · rintro e w' ⟨q,rfl,hq,hbb,hoo⟩;refine⟨q,rfl,?_⟩;rcases hq with⟨rfl,hgo,hd'⟩|⟨rfl,hgo,hd'⟩
        · exact Or.inr ⟨by decide,hb.trans hbb,ho.trans hoo.va,by decide,keep hv hoo (by simp),Or.inr (Or.inl ⟨rfl,gone_lim hgo hl.lim,st',hd',hl.stg.dead (by omega) _⟩)⟩
        · exact Or.inl ⟨rfl,hb.trans hbb,ho.trans hoo.va,keep hv hoo (by simp),keep hn hoo (by simp),fun _=>hfit (by omega),_,hd',hl.stg.shut hh1 h8 hgo⟩
    ·
      injection hk with hk;subst hk;obtain⟨hS,he⟩:=hi;refine(flushq_c hd hS.good (by have:=hS.pnd;omega) hBW).mono ?_;rintro e w' ⟨q,rfl,hq,hbb,hoo⟩;refine⟨q,rfl,?_⟩;rcases hq with⟨rfl,hgo,hd'⟩|⟨rfl,hgo,hd'⟩
      · exact Or.inr ⟨by decide,hb.trans hbb,ho.trans hoo.va,by decide,keep hv hoo (by simp),Or.inr (Or.inl ⟨rfl,gone_lim hgo hS.lim,st',hd',hS.dead (by omega) _⟩)⟩
      · exact Or.inl ⟨rfl,hb.trans hbb,ho.trans hoo.va,keep hv hoo (by simp),keep hn hoo (by simp),fun _=>hfit (by omega),_,hd',hS.flush,he⟩
    ·
      injection hk with hk;subst hk;obtain⟨hS,he⟩:=hi;have hpz:=hS.pnd;have hl5:=hS.len;refine(wipe_c (B:=B) (Ps:=fun q w1=>WpP B b st' (bkF h (!k)) 1 h q w1∧Below B W' w1∧Off devTs W' w1) hn hTh (fun W2 hW2=>?_)).mono ?_
      · refine(wipeq_c (hd.below hW2) hS.good (by omega) hh1 (Nat.le_refl _) (by omega) (by omega) (Nat.le_trans hBW hW2.size)).mono ?_;rintro e w' ⟨q,he,⟨h1,h3,h4⟩,h5⟩;exact⟨q,he,⟨h1,(hW2.mono hBW).trans h3,(Off.ofBelow hW2 _).trans h4⟩,h5⟩
      · rintro e w' ⟨q,rfl,hq,hbb,hoo⟩;refine⟨q,rfl,?_⟩;rcases hq with⟨rfl,hgo,hd'⟩|⟨j,hj,hc,hr,hd'⟩
        · exact Or.inr ⟨by decide,hb.trans hbb,ho.trans hoo.va,by decide,keep hv hoo (by simp),Or.inr (Or.inl ⟨rfl,gone_lim hgo hS.lim,st',hd',hS.dead (by omega) _⟩)⟩
        · rcases hc with⟨rfl,rfl⟩|⟨rfl,hgo⟩
          · obtain⟨g1,g2,g3⟩:=hS.wiped hh1 h8 hr he;exact Or.inl ⟨rfl,hb.trans hbb,ho.trans hoo.va,keep hv hoo (by simp),keep hn hoo (by simp),fun _=>hfit (by omega),_,hd',g1.mono (by omega),g2,g3⟩
          · have hS':=hS.wipes hh1 h8 j hj hr;exact Or.inr ⟨by decide,hb.trans hbb,ho.trans hoo.va,by decide,keep hv hoo (by simp),Or.inr (Or.inl ⟨rfl,gone_lim hgo hS'.lim,_,hd',hS'.dead (by omega) _⟩)⟩
    ·
      injection hk with hk;subst hk;obtain⟨hS,hw,he⟩:=hi;have hpz:=hS.pnd;have hl5:=hS.len;have hfl:=framesL_length s;obtain⟨f1,f2,f3⟩:=fits_ok (hfit (by omega));refine(ewrite_c s (Ps:=fun x q w1=>WrP B b st' (bkF h (!k)) 1 h s x q w1∧Below B W' w1∧Off devTs W' w1) hn hTh (fun W2 hW2=>?_)).mono ?_
      · refine(writeq_c (hd.below hW2) hS.good (by omega) hh1 (Nat.le_refl _) hh1 (by omega) (by omega) (Nat.le_trans hBW hW2.size)).mono ?_;rintro e w' ⟨x,q,he,⟨h1,h3,h4⟩,h5⟩;exact⟨x,q,he,⟨h1,(hW2.mono hBW).trans h3,(Off.ofBelow hW2 _).trans h4⟩,h5⟩
      · rintro e w' ⟨x,q,w1,rfl,⟨hwr,hbb,hoo⟩,hn1,hq⟩;refine⟨q,rfl,?_⟩;rcases hq with⟨rfl,rfl⟩|⟨hq,rfl⟩
        · rcases hwr with⟨h1,_⟩|⟨h1,_⟩|⟨hft,j,hj,hc,hr,hd'⟩
          · cases h1
          · exact absurd rfl h1
          · rcases hc with⟨_,rfl,rfl⟩|⟨h1,_⟩
            · have htl:(framesL s).take ((s.size+61)/62)=framesL s:=List.take_of_length_le (by rw[hfl];exact Nat.le_refl _);rw[htl]at hr hd';obtain⟨g1,g2,g3⟩:=hS.written hh1 h8 f3 hr hw he;have hv1:VaultAt w1 vb b (bkF h k) h A E img rv true:=keep hv hoo (by simp);have hset:Off vaTs w1 (w1.setCell ⟨nb,3,none⟩ (.int .i64 ((1+(s.size+61)/62:Nat):Int))):=va_set hn1 (by decide);have hset2:Off [82] w1 (w1.setCell ⟨nb,3,none⟩ (.int .i64 ((1+(s.size+61)/62:Nat):Int))):=(Off.refl _ _).setCell hn1 (by simp) _;exact Or.inl ⟨rfl,(hb.trans hbb).setCell (p:=⟨nb,3,none⟩) hnB _,(ho.trans hoo.va).trans hset,HalfAt.off hv1 hset2 (by decide),hn1.setEnd _,fun _=>hfit (by omega),_,hd'.vset hn1 (by simp),g1.mono (by omega),g2,g3⟩
            · cases h1
        · have hv1:VaultAt w' vb b (bkF h k) h A E img rv true:=keep hv hoo (by simp);rcases hwr with⟨rfl,hgo,hd'⟩|⟨h1,h13,hgo,hft,hd'⟩|⟨hft,j,hj,hc,hr,hd'⟩
          · exact Or.inr ⟨by decide,hb.trans hbb,ho.trans hoo.va,by decide,hv1,Or.inr (Or.inl ⟨rfl,gone_lim hgo hS.lim,st',hd',hS.dead (by omega) _⟩)⟩
          · rw[hfit (by omega)]at hft;exact absurd hft.symm h1
          · rcases hc with⟨h1,_⟩|⟨rfl,hgo⟩
            · exact absurd h1 hq
            · have hS':=hS.puts hh1 h8 (framesL_size s) (by omega) j (by omega) hr;exact Or.inr ⟨by decide,hb.trans hbb,ho.trans hoo.va,by decide,hv1,Or.inr (Or.inl ⟨rfl,gone_lim hgo hS'.lim,_,hd',hS'.dead (by omega) _⟩)⟩
    ·
      injection hk with hk;subst hk;obtain⟨hS,hw,he⟩:=hi;refine(flushq_c hd hS.good (by have:=hS.pnd;omega) hBW).mono ?_;rintro e w' ⟨q,rfl,hq,hbb,hoo⟩;refine⟨q,rfl,?_⟩;rcases hq with⟨rfl,hgo,hd'⟩|⟨rfl,hgo,hd'⟩
      · exact Or.inr ⟨by decide,hb.trans hbb,ho.trans hoo.va,by decide,keep hv hoo (by simp),Or.inr (Or.inl ⟨rfl,gone_lim hgo hS.lim,st',hd',hS.dead (by omega) _⟩)⟩
      · exact Or.inl ⟨rfl,hb.trans hbb,ho.trans hoo.va,keep hv hoo (by simp),keep hn hoo (by simp),fun _=>hfit (by omega),_,hd',hS.flush,⟨holds_same hw rfl,he⟩,out_flushed⟩
    ·
      injection hk with hk;subst hk;obtain⟨hS,⟨hw,he⟩,hout⟩:=hi;have hpz:=hS.pnd;have hl5:=hS.len;obtain⟨f1,f2,f3⟩:=fits_ok (hfit (by omega));refine(sign_c (B:=B) (Ps:=fun q w1=>HdP B b st' (bkF h (!k)) (E+1) q w1∧Below B W' w1∧Off devTs W' w1) hn hTh (fun W2 hW2=>?_)).mono ?_
      · refine(sethead_c (hd.below hW2) hS.good (by omega) (by omega) (Nat.le_trans hBW hW2.size) (by omega)).mono ?_;rintro e w' ⟨q,he,⟨h1,h3,h4⟩,h5⟩;exact⟨q,he,⟨h1,(hW2.mono hBW).trans h3,(Off.ofBelow hW2 _).trans h4⟩,h5⟩
      · rintro e w' ⟨q,rfl,hq,hbb,hoo⟩;refine⟨q,rfl,?_⟩;rcases hq with⟨rfl,hgo,hd'⟩|⟨rfl,hgo,hd'⟩
        · exact Or.inr ⟨by decide,hb.trans hbb,ho.trans hoo.va,by decide,keep hv hoo (by simp),Or.inr (Or.inl ⟨rfl,gone_lim hgo hS.lim,st',hd',hS.dead (by omega) _⟩)⟩
        · exact Or.inl ⟨rfl,hb.trans hbb,ho.trans hoo.va,keep hv hoo (by simp),keep hn hoo (by simp),fun _=>hfit (by omega),_,hd',hS.signed h2 h8 h9 f1 f2 f3 hw he (by omega) hgo hout⟩
    ·
      injection hk with hk;subst hk;obtain⟨hD,hN⟩:=hi;refine(flushq_c hd hD.good hD.pnd hBW).mono ?_;rintro e w' ⟨q,rfl,hq,hbb,hoo⟩;refine⟨q,rfl,?_⟩;rcases hq with⟨rfl,hgo,hd'⟩|⟨rfl,hgo,hd'⟩
      · exact Or.inr ⟨by decide,hb.trans hbb,ho.trans hoo.va,by decide,keep hv hoo (by simp),Or.inr (Or.inl ⟨rfl,gone_lim hgo (fun e=>hN.lim e),st',hd',hD⟩)⟩
      · exact Or.inl ⟨rfl,hb.trans hbb,ho.trans hoo.va,keep hv hoo (by simp),keep hn hoo (by simp),fun _=>hfit (by omega),_,hd',hN,rfl⟩
    · cases hk
  · rintro q W' (⟨_,_,_,hv,_⟩|⟨_,_,_,_,hv,_⟩)
    · exact⟨_,_,_,_,_,_,_,_,hv⟩
    · exact⟨_,_,_,_,_,_,_,_,hv⟩
  · rintro e w' ⟨q,w1,rfl,hq,rfl⟩;refine⟨q,rfl,?_⟩;rcases hq with⟨rfl,hb,ho,hv,hn,hfit,st',hd,hi⟩|⟨_,hb,ho,hne,hv,hx⟩
    · have hset2:Off [84] w1 (w1.setCell ⟨vb,7,none⟩ (.bool (decide ((0:Int)≠13)))):=(Off.refl _ _).setCell hv (by simp) _;exact⟨⟨hv.setOpen _,Or.inl ⟨rfl,hfit (by omega),HalfAt.off hn hset2 (by decide),st',hd.vset hv (by simp),hi⟩⟩,hb.setCell (p:=⟨vb,7,none⟩) hL.hvb _,ho.setCell hv (by decide) _⟩
    · refine⟨⟨hv.setOpen _,?_⟩,hb.setCell (p:=⟨vb,7,none⟩) hL.hvb _,ho.setCell hv (by decide) _⟩;rcases hx with⟨h0,_⟩|⟨h13,h1,st',hd,hD⟩|⟨h0,h13,h1,hd⟩
      · exact absurd h0 hne
      · exact Or.inr (Or.inl ⟨h13,h1,st',hd.vset hv (by simp),hD⟩)
      · exact Or.inr (Or.inr ⟨h0,h13,h1,hd.vset hv (by simp)⟩)
end Go.Proofs.YtdmkhmeaphaapaaGreat.V
namespace Go.Proofs.YtdmkhmeaphaapaaGreat.V
open Go.RowKit Go.Sort
set_option linter.unusedVariables false
def LeafOK (B b vb:Nat)(w:World)(st':St)(W:World)(C:Array Value):Prop:=W.heap[vb]?=some (.cells C 84 (0,0))∧Below B w W∧Off vaTs w W∧Dev B W b st'
theorem LeafOK.set {B b vb:Nat}{w W:World}{st':St}{C:Array Value}(h:LeafOK B b vb w st' W C)(hB:B≤vb)(j:Nat)(x:Value):LeafOK B b vb w st' (W.setCell ⟨vb,j,none⟩ x) (C.setIfInBounds j x):=
  ⟨by rw[heap_setCell_same W vb j _ _ _ h.1],h.2.1.setCell (p:=⟨vb,j,none⟩) hB _,h.2.2.1.setCell h.1 (by decide) _,h.2.2.2.vset h.1 (by simp)⟩
def RnEnd (B b vb n h:Nat)(k:Bool)(E:Nat)(s:ByteArray)(lm:Bool)(w W:World):Prop:=
  Below B w W∧Off vaTs w W∧∃st' rv',LiveR B b vb n h (!k) (E+1) (1+(s.size+61)/62) s [] [s] [] lm st' rv' W∧st'.pend=[]∧rowBlk rv'=none
def RnPost (B b vb n h:Nat)(k:Bool)(E A:Nat)(img:ByteArray)(rs r1 r2:List ByteArray)(lm:Bool)(st:St)(rv:Value)(s:ByteArray)(w:World)(e:Ending)(w':World):Prop:=
  ∃q:Int,e=.returned (.int .i64 q)∧((q=0∧fitsI h 1 s=0∧RnEnd B b vb n h k E s lm w w')∨(Below B w w'∧Off vaTs w w'∧((q=13∧lm=true∧∃st',DeadR B b vb n h k E r1 r2 s st' w')∨(q≠0∧q≠13∧fitsI h 1 s=q∧LiveR B b vb n h k E A img rs r1 r2 lm st rv w'))))
def HalfZ (W:World)(nb:Nat):Prop:=W.heap[nb]?=some (.cells #[.pointer none,.int .i64 0,.int .i64 0,.int .i64 0,.int .u64 0] 82 (0,0))
theorem HalfZ.all {W:World}{nb:Nat}(h:HalfZ W nb):(W.cell? ⟨nb,0,none⟩=some (.pointer none)∧W.cell? ⟨nb,1,none⟩=some (.int .i64 0)∧W.cell? ⟨nb,2,none⟩=some (.int .i64 0)∧W.cell? ⟨nb,3,none⟩=some (.int .i64 0)∧W.cell? ⟨nb,4,none⟩=some (.int .u64 0))∧W.frozen? ⟨nb,0,none⟩=false∧W.frozen? ⟨nb,1,none⟩=false∧W.frozen? ⟨nb,2,none⟩=false∧W.frozen? ⟨nb,3,none⟩=false∧W.frozen? ⟨nb,4,none⟩=false:=by
  refine⟨⟨?_,?_,?_,?_,?_⟩,frozen_of_row _ _ _ _ _ h,frozen_of_row _ _ _ _ _ h,frozen_of_row _ _ _ _ _ h,frozen_of_row _ _ _ _ _ h,frozen_of_row _ _ _ _ _ h⟩<;>(rw[cell_of_row W nb _ _ _ _ h];rfl)
set_option maxHeartbeats 2000000 in
theorem renew_c {B b vb n h:Nat}{k:Bool}{E A:Nat}{img:ByteArray}{rs r1 r2:List ByteArray}{lm:Bool}{st:St}{rv:Value}{w:World}(s:ByteArray)(hL:LiveR B b vb n h k E A img rs r1 r2 lm st rv w)(hs:s.size≤1000000)(hE:E+1<9223372036854775808)(hB:B≤w.heap.size) :
    Calls Tryz.prog 121 #[.pointer (some ⟨vb,0,none⟩),.string s] w (RnPost B b vb n h k E A img rs r1 r2 lm st rv s w):=by
  unfold RnPost;have HL:=Lib.hid hL;have HO:Hid (∀W,Below w.heap.size w W→Calls Tryz.prog 157 #[.pointer (some ⟨vb,0,none⟩)] W fun e w'=>e=.returned (.agg #[.pointer (some ⟨b,0,none⟩),.int .i64 (bkF h (!k)),.int .i64 h,.int .i64 1,.int .u64 (E+1:Nat)])∧Below W.heap.size W w'):=Lib.hid (fun W hW=>by
    have hl:=HL.out.live;have h9:=hl.n2;have h8:=hl.hn;have hbk:bkF h k≤h∧h-bkF h k=bkF h (!k):=by cases k<;>simp[bkF]
    have h1:=other_c (HalfAt.below HL.out.vlt hW) hbk.1 (by omega) (by omega);rw[hbk.2]at h1;exact h1)
  have cC:=fun W=>sclone_c s W (by omega)
  have HC0:Hid (∀W,Below w.heap.size w W→W.cell? ⟨vb,0,none⟩=some (.pointer (some ⟨b,0,none⟩))):=Lib.hid (fun W hW=>(HalfAt.below HL.out.vlt hW).cells.1);have HDO:Hid (∀(W:World) (nb:Nat),w.heap.size≤nb→Below w.heap.size w W→HalfAt W nb 82 b (bkF h (!k)) h 1 (E+1) []→Calls Tryz.prog 50 #[.pointer (some ⟨vb,0,none⟩),.slice (some ⟨W.heap.size,0,none⟩) (10:Nat) (10:Nat)] (W.alloc (.cells #[.func (.func 47) #[.pointer (some ⟨nb,0,none⟩)] #[],.func (.func 110) #[.agg #[.pointer (some ⟨nb,0,none⟩),.string s]] #[],.func (.func 158) #[.pointer (some ⟨vb,0,none⟩)] #[],.func (.func 111) #[.pointer (some ⟨nb,0,none⟩)] #[],.func (.func 53) #[.pointer (some ⟨b,0,none⟩)] #[],.func (.func 52) #[.pointer (some ⟨nb,0,none⟩)] #[],.func (.func 54) #[.agg #[.pointer (some ⟨nb,0,none⟩),.string s]] #[],.func (.func 53) #[.pointer (some ⟨b,0,none⟩)] #[],.func (.func 112) #[.pointer (some ⟨nb,0,none⟩)] #[],.func (.func 53) #[.pointer (some ⟨b,0,none⟩)] #[]] 169)) fun e w'=>∃q:Int,e=.returned (.int .i64 q)∧RnX B b vb nb n h k E A img rs r1 r2 lm st rv s (decide (q≠13)) q w'∧Below B w w'∧Off vaTs w w'∧Off vaTs (W.alloc (.cells ((rnKs b vb nb s).map stepV).toArray 169)) w'):=Lib.hid (fun W nb hnb hW hN=>by
    have hWa:Below W.heap.size W (W.alloc (.cells ((rnKs b vb nb s).map stepV).toArray 169)):=(Below.refl _ _).alloc (Nat.le_refl _) _;have h1:=renew_do (W:=W.alloc (.cells ((rnKs b vb nb s).map stepV).toArray 169)) s ((HL.out.below hW).below hWa) hs hE (Nat.le_trans (Nat.le_trans hB hW.size) hWa.size) (HalfAt.below hN hWa) (Nat.le_trans hB hnb) (heap_alloc_new _ _);refine h1.mono ?_;rintro e w' ⟨q,he,hx,hb,ho⟩;exact⟨q,he,hx,(hW.mono hB).trans ((hWa.mono (Nat.le_trans hB hW.size)).trans hb),(Off.ofBelow hW _).trans ((Off.ofBelow hWa _).trans ho),ho⟩)
  have c0:=HC0.out w (Below.refl _ _);generalize bkF h (!k)=Fo at *;generalize E+1=E1 at *;obtain⟨Z,hZ⟩:∃Z:Obj,Z=.cells #[.pointer none,.int .i64 0,.int .i64 0,.int .i64 0,.int .u64 0] 82 (0,0):=⟨_,rfl⟩;have HZ:Hid (∀W W':World,Below (W.alloc Z).drew.heap.size (W.alloc Z).drew W'→HalfZ W' W.heap.size):=Lib.hid (fun W W' hb=>by
    unfold HalfZ;rw[hb.block W.heap.size (by show _<(W.alloc Z).heap.size;simp)];show(W.alloc Z).heap[W.heap.size]?=_
    rw[heap_alloc_new,hZ])
  have HS1:Hid (∀w1,Below w.heap.size w w1→(HalfAt (w1.alloc (.cells #[.pointer (some ⟨b,0,none⟩),.int .i64 Fo,.int .i64 h,.int .i64 1,.int .u64 E1] 82)) w1.heap.size 82 b Fo h 1 E1 []∧Below w.heap.size w (w1.alloc (.cells #[.pointer (some ⟨b,0,none⟩),.int .i64 Fo,.int .i64 h,.int .i64 1,.int .u64 E1] 82))∧w.heap.size≤w1.heap.size)):=Lib.hid (fun w1 hB1=>⟨heap_alloc_new _ _,hB1.alloc hB1.size _,hB1.size⟩);have HS2:Hid (∀w1,Below w.heap.size w w1→HalfZ w1 w.heap.size→(HalfAt (((((w1.setCell ⟨w.heap.size,0,none⟩ (.pointer (some ⟨b,0,none⟩))).setCell ⟨w.heap.size,1,none⟩ (.int .i64 Fo)).setCell ⟨w.heap.size,2,none⟩ (.int .i64 h)).setCell ⟨w.heap.size,3,none⟩ (.int .i64 1)).setCell ⟨w.heap.size,4,none⟩ (.int .u64 E1)) w.heap.size 82 b Fo h 1 E1 []∧Below w.heap.size w (((((w1.setCell ⟨w.heap.size,0,none⟩ (.pointer (some ⟨b,0,none⟩))).setCell ⟨w.heap.size,1,none⟩ (.int .i64 Fo)).setCell ⟨w.heap.size,2,none⟩ (.int .i64 h)).setCell ⟨w.heap.size,3,none⟩ (.int .i64 1)).setCell ⟨w.heap.size,4,none⟩ (.int .u64 E1))∧w.heap.size≤w.heap.size)):=Lib.hid (fun w1 hB1 zz=>⟨heap_setCells_at w.heap.size 82 [.pointer (some ⟨b,0,none⟩),.int .i64 Fo,.int .i64 h,.int .i64 1,.int .u64 E1] 0 w1 [.pointer none,.int .i64 0,.int .i64 0,.int .i64 0,.int .u64 0] zz (by simp),Below.setCells hB1 (Nat.le_refl _) 0 [.pointer (some ⟨b,0,none⟩),.int .i64 Fo,.int .i64 h,.int .i64 1,.int .u64 E1],Nat.le_refl _⟩);subst hZ;have c9:=HC0.out (w.alloc (.cells #[.pointer none,.int .i64 0,.int .i64 0,.int .i64 0,.int .u64 0] 82)) ((Below.refl _ _).alloc (Nat.le_refl _) _);clear hL;go_enter Tryz.func121,Tryz.ntmps121;go_upto_region 1 with fail;go_cut [5,6] from 9 (fun c d wx=>∃nb,c=.pointer (some ⟨nb,0,none⟩)∧d=.func (.func 53) #[.pointer (some ⟨b,0,none⟩)] #[]∧HalfAt wx nb 82 b Fo h 1 E1 []∧Below w.heap.size w wx∧w.heap.size≤nb)
  case first =>
    go_region_with (first|(go_at_call 157;refine(HO.out _ ?_).mono ?_;(first|exact(Below.refl _ _).drew|exact((Below.refl _ _).alloc (Nat.le_refl _) _).drew);rintro e w1 ⟨rfl,hb1⟩;have hB1:Below w.heap.size w w1:=(by first|exact(Below.refl _ _).drew.trans hb1|exact((Below.refl _ _).alloc (Nat.le_refl _) _).drew.trans (hb1.mono (by simp)));have d0:=HC0.out _ hB1;have d1:=HC0.out _ (hB1.alloc hB1.size (.cells #[.pointer none,.int .i64 0,.int .i64 0,.int .i64 0,.int .u64 0] 82));(first|(have zz:=HZ.out _ _ hb1;obtain⟨⟨y0,y1,y2,y3,y4⟩,x0,x1,x2,x3,x4⟩:=zz.all)|skip)))
    all_goals
      go_wp2;go_meet
      case rel =>
        first
          | (refine⟨w1.heap.size,by with_reducible rfl,rfl,?_⟩;exact HS1.out w1 hB1)
          | (refine⟨w.heap.size,by with_reducible rfl,rfl,?_⟩;exact HS2.out w1 hB1 zz)
  case rest =>
    obtain⟨nb,rfl,rfl,hnb,hbc,hnbw⟩:=hcut;have HNB:=Lib.hid hnb;have HBC:=Lib.hid hbc;clear hnb hbc c9 c0;obtain⟨W0,hW0⟩:∃W0,wc.alloc (.cells #[.pointer (some ⟨nb,0,none⟩),.string s] 119)=W0:=⟨_,rfl⟩;have HB0:Hid (Below w.heap.size w W0):=Lib.hid (by rw[←hW0];exact HBC.out.alloc HBC.out.size _);have hC0:W0.heap[wc.heap.size]?=some (.cells #[.pointer (some ⟨nb,0,none⟩),.string s] 119 (0,0)):=by rw[←hW0];exact heap_alloc_new _ _
    have HN0:Hid (HalfAt W0 nb 82 b Fo h 1 E1 []):=Lib.hid (by rw[←hW0];exact HalfAt.below HNB.out ((Below.refl _ _).alloc (Nat.le_refl _) _));have j0:W0.cell? ⟨wc.heap.size,0,none⟩=some (.pointer (some ⟨nb,0,none⟩)):=by rw[cell_of_row _ _ _ _ _ _ hC0];rfl
    have j1:W0.cell? ⟨wc.heap.size,1,none⟩=some (.string s):=by rw[cell_of_row _ _ _ _ _ _ hC0];rfl
    have HC0b:=Lib.hid hC0;have HHC:Hid (∀W:World,W.heap[wc.heap.size]?=some (.cells #[.pointer (some ⟨nb,0,none⟩),.string s] 119 (0,0))→(W.heap[wc.heap.size]?=some (.cells #[.pointer (some ⟨nb,0,none⟩),.string s] 119 (0,0))∧W.cell? ⟨wc.heap.size,0,none⟩=some (.pointer (some ⟨nb,0,none⟩))∧W.cell? ⟨wc.heap.size,1,none⟩=some (.string s))):=Lib.hid (fun W h=>⟨h,by rw[cell_of_row _ _ _ _ _ _ h];rfl,by rw[cell_of_row _ _ _ _ _ _ h];rfl⟩);have HKO:Hid (∀W W':World,W.heap[wc.heap.size]?=some (.cells #[.pointer (some ⟨nb,0,none⟩),.string s] 119 (0,0))→Off vaTs W W'→W'.heap[wc.heap.size]?=some (.cells #[.pointer (some ⟨nb,0,none⟩),.string s] 119 (0,0))):=Lib.hid (fun W W' hS ho=>ho _ (by decide) _ _ _ hS);have hS0:=HHC.out W0 hC0;clear hC0;go_upto_region 3 with fail
    try rw[hW0]
    clear hW0;have hS0d:W0.drew.heap[wc.heap.size]?=some (.cells #[.pointer (some ⟨nb,0,none⟩),.string s] 119 (0,0)):=hS0.1;refine wp_region_held_drew (S:=fun W:World=>W.heap[wc.heap.size]?=some (.cells #[.pointer (some ⟨nb,0,none⟩),.string s] 119 (0,0))) (by kernel_rfl) hS0d (fun hHeld=>?_);refine wpAnyH_take (i:=0) (oi:={ dst:=some 21,op:=.move (.tmp 0),type:=_,pos:=_,after:=_,guard:=none }) (v:=.pointer (some ⟨vb,0,none⟩)) rfl (by kernel_rfl) (by kernel_rfl) (by kernel_rfl) (fun _ _ _ h=>h) (Or.inl ⟨by rfl,by intro w _;first|rfl|go_simp⟩) (by assumption) ?_
    try simp only[Act.put,List.setIfInBounds_toArray,List.set_cons_zero,List.set_cons_succ]
    refine wpAnyH_take (i:=1) (oi:={ dst:=some 22,op:=.makeFunc (.func 47) #[.tmp 5] #[],type:=_,pos:=_,after:=_,guard:=none }) (v:=.func (.func 47) #[.pointer (some ⟨nb,0,none⟩)] #[]) rfl (by kernel_rfl) (by kernel_rfl) (by kernel_rfl) (fun _ _ _ h=>h) (Or.inl ⟨by rfl,by intro w _;first|rfl|go_simp⟩) (by assumption) ?_
    try simp only[Act.put,List.setIfInBounds_toArray,List.set_cons_zero,List.set_cons_succ]
    refine wpAnyH_take (i:=2) (oi:={ dst:=some 23,op:=.load 119 (.tmp 7),type:=_,pos:=_,after:=_,guard:=none }) (v:=.agg #[.pointer (some ⟨nb,0,none⟩),.string s]) rfl (by kernel_rfl) (by kernel_rfl) (by kernel_rfl) (fun _ _ _ h=>h) (Or.inl ⟨by rfl,by intro w hS;obtain⟨_,c0,c1⟩:=HHC.out w hS;go_simp⟩) (by assumption) ?_
    try simp only[Act.put,List.setIfInBounds_toArray,List.set_cons_zero,List.set_cons_succ]
    refine wpAnyH_take (i:=3) (oi:={ dst:=some 24,op:=.makeFunc (.func 110) #[.tmp 23] #[],type:=_,pos:=_,after:=_,guard:=none }) (v:=.func (.func 110) #[.agg #[.pointer (some ⟨nb,0,none⟩),.string s]] #[]) rfl (by kernel_rfl) (by kernel_rfl) (by kernel_rfl) (fun _ _ _ h=>h) (Or.inl ⟨by rfl,by intro w _;first|rfl|go_simp⟩) (by assumption) ?_
    try simp only[Act.put,List.setIfInBounds_toArray,List.set_cons_zero,List.set_cons_succ]
    refine wpAnyH_take (i:=4) (oi:={ dst:=some 25,op:=.move (.tmp 0),type:=_,pos:=_,after:=_,guard:=none }) (v:=.pointer (some ⟨vb,0,none⟩)) rfl (by kernel_rfl) (by kernel_rfl) (by kernel_rfl) (fun _ _ _ h=>h) (Or.inl ⟨by rfl,by intro w _;first|rfl|go_simp⟩) (by assumption) ?_
    try simp only[Act.put,List.setIfInBounds_toArray,List.set_cons_zero,List.set_cons_succ]
    refine wpAnyH_take (i:=5) (oi:={ dst:=some 26,op:=.nilCheck (.tmp 25),type:=_,pos:=_,after:=_,guard:=none }) (v:=.pointer (some ⟨vb,0,none⟩)) rfl (by kernel_rfl) (by kernel_rfl) (by kernel_rfl) (fun _ _ _ h=>h) (Or.inl ⟨by rfl,by intro w _;first|rfl|go_simp⟩) (by assumption) ?_
    try simp only[Act.put,List.setIfInBounds_toArray,List.set_cons_zero,List.set_cons_succ]
    refine wpAnyH_take (i:=6) (oi:={ dst:=some 27,op:=.fieldAddr 84 (.tmp 26) 0,type:=_,pos:=_,after:=_,guard:=none }) (v:=.pointer (some ⟨vb,0,none⟩)) rfl (by kernel_rfl) (by kernel_rfl) (by kernel_rfl) (fun _ _ _ h=>h) (Or.inl ⟨by rfl,by intro w _;go_simp⟩) (by assumption) ?_
    try simp only[Act.put,List.setIfInBounds_toArray,List.set_cons_zero,List.set_cons_succ]
    refine wpAnyH_take (i:=7) (oi:={ dst:=some 28,op:=.makeFunc (.func 158) #[.tmp 27] #[],type:=_,pos:=_,after:=_,guard:=none }) (v:=.func (.func 158) #[.pointer (some ⟨vb,0,none⟩)] #[]) rfl (by kernel_rfl) (by kernel_rfl) (by kernel_rfl) (fun _ _ _ h=>h) (Or.inl ⟨by rfl,by intro w _;first|rfl|go_simp⟩) (by assumption) ?_
    try simp only[Act.put,List.setIfInBounds_toArray,List.set_cons_zero,List.set_cons_succ]
    refine wpAnyH_take (i:=8) (oi:={ dst:=some 29,op:=.makeFunc (.func 111) #[.tmp 5] #[],type:=_,pos:=_,after:=_,guard:=none }) (v:=.func (.func 111) #[.pointer (some ⟨nb,0,none⟩)] #[]) rfl (by kernel_rfl) (by kernel_rfl) (by kernel_rfl) (fun _ _ _ h=>h) (Or.inl ⟨by rfl,by intro w _;first|rfl|go_simp⟩) (by assumption) ?_
    try simp only[Act.put,List.setIfInBounds_toArray,List.set_cons_zero,List.set_cons_succ]
    refine wpAnyH_take (i:=9) (oi:={ dst:=some 30,op:=.move (.tmp 6),type:=_,pos:=_,after:=_,guard:=none }) (v:=.func (.func 53) #[.pointer (some ⟨b,0,none⟩)] #[]) rfl (by kernel_rfl) (by kernel_rfl) (by kernel_rfl) (fun _ _ _ h=>h) (Or.inl ⟨by rfl,by intro w _;first|rfl|go_simp⟩) (by assumption) ?_
    try simp only[Act.put,List.setIfInBounds_toArray,List.set_cons_zero,List.set_cons_succ]
    refine wpAnyH_take (i:=10) (oi:={ dst:=some 31,op:=.makeFunc (.func 52) #[.tmp 5] #[],type:=_,pos:=_,after:=_,guard:=none }) (v:=.func (.func 52) #[.pointer (some ⟨nb,0,none⟩)] #[]) rfl (by kernel_rfl) (by kernel_rfl) (by kernel_rfl) (fun _ _ _ h=>h) (Or.inl ⟨by rfl,by intro w _;first|rfl|go_simp⟩) (by assumption) ?_
    try simp only[Act.put,List.setIfInBounds_toArray,List.set_cons_zero,List.set_cons_succ]
    refine wpAnyH_take (i:=11) (oi:={ dst:=some 32,op:=.load 119 (.tmp 7),type:=_,pos:=_,after:=_,guard:=none }) (v:=.agg #[.pointer (some ⟨nb,0,none⟩),.string s]) rfl (by kernel_rfl) (by kernel_rfl) (by kernel_rfl) (fun _ _ _ h=>h) (Or.inl ⟨by rfl,by intro w hS;obtain⟨_,c0,c1⟩:=HHC.out w hS;go_simp⟩) (by assumption) ?_
    try simp only[Act.put,List.setIfInBounds_toArray,List.set_cons_zero,List.set_cons_succ]
    refine wpAnyH_take (i:=12) (oi:={ dst:=some 33,op:=.makeFunc (.func 54) #[.tmp 32] #[],type:=_,pos:=_,after:=_,guard:=none }) (v:=.func (.func 54) #[.agg #[.pointer (some ⟨nb,0,none⟩),.string s]] #[]) rfl (by kernel_rfl) (by kernel_rfl) (by kernel_rfl) (fun _ _ _ h=>h) (Or.inl ⟨by rfl,by intro w _;first|rfl|go_simp⟩) (by assumption) ?_
    try simp only[Act.put,List.setIfInBounds_toArray,List.set_cons_zero,List.set_cons_succ]
    refine wpAnyH_take (i:=13) (oi:={ dst:=some 34,op:=.move (.tmp 6),type:=_,pos:=_,after:=_,guard:=none }) (v:=.func (.func 53) #[.pointer (some ⟨b,0,none⟩)] #[]) rfl (by kernel_rfl) (by kernel_rfl) (by kernel_rfl) (fun _ _ _ h=>h) (Or.inl ⟨by rfl,by intro w _;first|rfl|go_simp⟩) (by assumption) ?_
    try simp only[Act.put,List.setIfInBounds_toArray,List.set_cons_zero,List.set_cons_succ]
    refine wpAnyH_take (i:=14) (oi:={ dst:=some 35,op:=.makeFunc (.func 112) #[.tmp 5] #[],type:=_,pos:=_,after:=_,guard:=none }) (v:=.func (.func 112) #[.pointer (some ⟨nb,0,none⟩)] #[]) rfl (by kernel_rfl) (by kernel_rfl) (by kernel_rfl) (fun _ _ _ h=>h) (Or.inl ⟨by rfl,by intro w _;first|rfl|go_simp⟩) (by assumption) ?_
    try simp only[Act.put,List.setIfInBounds_toArray,List.set_cons_zero,List.set_cons_succ]
    refine wpAnyH_take (i:=15) (oi:={ dst:=some 36,op:=.move (.tmp 6),type:=_,pos:=_,after:=_,guard:=none }) (v:=.func (.func 53) #[.pointer (some ⟨b,0,none⟩)] #[]) rfl (by kernel_rfl) (by kernel_rfl) (by kernel_rfl) (fun _ _ _ h=>h) (Or.inl ⟨by rfl,by intro w _;first|rfl|go_simp⟩) (by assumption) ?_
    try simp only[Act.put,List.setIfInBounds_toArray,List.set_cons_zero,List.set_cons_succ]
    refine wpAnyH_ready (rs:=[16]) (by kernel_rfl) (by simp) (AllReadyH.cons (o:={ dst:=some 37,op:=.buildSlice 168 10 #[(0,.tmp 22),(1,.tmp 24),(2,.tmp 28),(3,.tmp 29),(4,.tmp 30),(5,.tmp 31),(6,.tmp 33),(7,.tmp 34),(8,.tmp 35),(9,.tmp 36)],type:=_,pos:=_,after:=_,guard:=none }) rfl (fun K hK=>?_) AllReadyH.nil);go_simp;refine hK.out _ _ (HKO.out _ _ hHeld ((Off.refl _ _).alloc _)) (fun hHeld2=>?_);clear hK K hHeld
    try simp only[Act.put,List.setIfInBounds_toArray,List.set_cons_zero,List.set_cons_succ]
    refine wpAnyH_ready (rs:=[17]) (by kernel_rfl) (by simp) (AllReadyH.cons (o:={ dst:=some 38,op:=.call { callee:=.value (.func 50),args:=#[.tmp 21,.tmp 37],argTypes:=#[60,168] },type:=_,pos:=_,after:=_,guard:=none }) rfl (fun K hK=>?_) AllReadyH.nil);go_simp;refine(HDO.out W0.drew nb hnbw HB0.out.drew HN0.out).mono ?_;rintro e w3 ⟨q,rfl,hx,hb3,ho3,hoc⟩;refine hK.out _ _ (HKO.out _ _ hHeld2 hoc) (fun hHeld3=>?_);clear hK K hHeld2
    try simp only[Act.put,List.setIfInBounds_toArray,List.set_cons_zero,List.set_cons_succ]
    refine wpAnyH_take (i:=18) (oi:={ dst:=some 8,op:=.assign (.tmp 38),type:=_,pos:=_,after:=_,guard:=none }) (v:=.int .i64 q) rfl (by kernel_rfl) (by kernel_rfl) (by kernel_rfl) (fun _ _ _ h=>h) (Or.inl ⟨by rfl,by intro _ _;rfl⟩) (by assumption) ?_
    try simp only[Act.put,List.setIfInBounds_toArray,List.set_cons_zero,List.set_cons_succ]
    refine wpAnyH_done (by kernel_rfl) ?_ _;have HX:=Lib.hid hx;have HB3:=Lib.hid hb3;have HO3:=Lib.hid ho3;clear hx hb3 ho3 hoc hHeld3 hS0 hS0d j0 j1;by_cases hq:q=0
    · subst hq;obtain⟨hv,hfit,hn,st',hd,hl',hpe⟩:VaultAt w3 vb b (bkF h k) h A E img rv true∧fitsI h 1 s=0∧HalfAt w3 nb 82 b (bkF h (!k)) h (1+(s.size+61)/62) (E+1) []∧∃st',Dev B w3 b st'∧LiveS n h (!k) (E+1) (1+(s.size+61)/62) s [] [s] [] lm st'∧st'.pend=[]:=by
        obtain⟨hv,⟨_,h1,h2,h3⟩|⟨h1,_⟩|⟨h1,_⟩⟩:=HX.out
        · exact⟨hv,h1,h2,h3⟩
        · cases h1
        · exact absurd rfl h1
      have HFIT:=Lib.hid hfit;have HV:=Lib.hid hv;have HN:=Lib.hid hn;have HCV:Hid (∀W,Below w3.heap.size w3 W→VaultAt W vb b (bkF h k) h A E img rv true):=Lib.hid (fun W hW=>HalfAt.below HV.out hW);have HCN:Hid (∀W,Below w3.heap.size w3 W→HalfAt W nb 82 b (bkF h (!k)) h (1+(s.size+61)/62) (E+1) []):=Lib.hid (fun W hW=>HalfAt.below HN.out hW);have HLF:Hid (∀W,Below w3.heap.size w3 W→LeafOK B b vb w st' W (hvL b (bkF h k) h A E++([.string img,rv,.bool true]:List Value)).toArray):=Lib.hid (fun W hW=>⟨HalfAt.below HV.out hW,HB3.out.trans (hW.mono (Nat.le_trans hB (by have:=HB3.out.size;omega))),HO3.out.trans (Off.ofBelow hW _),hd.below hW⟩);have HEND:Hid (∀(W:World) (C:Array Value),LeafOK B b vb w st' W C→C=(hvL b (bkF h (!k)) h (1+(s.size+61)/62) (E+1)++([.string s,.slice none 0 0,.bool true]:List Value)).toArray→RnEnd B b vb n h k E s lm w W):=Lib.hid (fun W C hl hC=>by
        subst hC;exact⟨hl.2.1,hl.2.2.1,st',.slice none 0 0,⟨hl',hl.2.2.2,hl.1,Or.inl ⟨rfl,rfl⟩,HL.out.hvb⟩,hpe,rfl⟩)
      have HVB:Hid (B≤vb):=Lib.hid HL.out.hvb;obtain⟨m0,m1,m2,m3,m4⟩:=hn.cells;clear hv hn hd hl' hpe hfit HX;generalize (1+(s.size+61)/62)=A2 at *;generalize hE2:E+1=E2 at *;generalize bkF h (!k)=F2 at *;go_wp2_with fail;go_region_law (first|(refine step_callee rfl 55 _ _ rfl (fun xs W=>Tryz.call55 xs W) (.string s) (.string s) rfl (fun W9=>Below w3.drew.heap.size w3.drew W9) (cC w3.drew) ?_;intro w8 hb8;have hB8:Below w3.heap.size w3 w8:=(Below.refl _ _).drew.trans hb8;obtain⟨m0,m1,m2,m3,m4⟩:=(HCN.out _ hB8).cells;obtain⟨k0,k1,k2,k3,k4⟩:=HalfAt.cells (HCV.out _ hB8);obtain⟨k5,k6,k7⟩:=(HCV.out _ hB8).more;have f0:=(HCV.out _ hB8).frozen 0;have f1:=(HCV.out _ hB8).frozen 1;have f2:=(HCV.out _ hB8).frozen 2;have f3:=(HCV.out _ hB8).frozen 3;have f4:=(HCV.out _ hB8).frozen 4;have f5:=(HCV.out _ hB8).frozen 5;have f6:=(HCV.out _ hB8).frozen 6))
      all_goals
        have HL8:=Lib.hid (HLF.out _ hB8);clear hB8 hb8 k0 k1 k2 k3 k4 k5 k6 k7 f0 f1 f2 f3 f4 f5 f6;go_wp2;go_ret;exact⟨0,rfl,Or.inl ⟨rfl,HFIT.out,HEND.out _ _ (((((((HL8.out.set HVB.out _ _).set HVB.out _ _).set HVB.out _ _).set HVB.out _ _).set HVB.out _ _).set HVB.out _ _).set HVB.out _ _) rfl⟩⟩
    · have hqz:(q==0)=false:=by simpa using hq
      have HE:Hid ((q=13∧lm=true∧∃st',DeadR B b vb n h k E r1 r2 s st' w3)∨(q≠0∧q≠13∧fitsI h 1 s=q∧LiveR B b vb n h k E A img rs r1 r2 lm st rv w3)):=Lib.hid (by
        obtain⟨hv,⟨h0,_⟩|⟨h13,h1,st',hd,hD⟩|⟨h0,h13,h1,hd⟩⟩:=HX.out
        · exact absurd h0 hq
        · refine Or.inl ⟨h13,h1,st',hD,hd,?_,HL.out.hvb⟩;rw[h13]at hv;exact⟨_,_,_,hv⟩
        · refine Or.inr ⟨h0,h13,h1,HL.out.live,hd,?_,HL.out.row.off HO3.out,HL.out.hvb⟩;rw[decide_eq_true h13]at hv;exact hv)
      clear HX;go_wp2;go_ret;exact⟨q,rfl,Or.inr ⟨HB3.out,HO3.out,HE.out⟩⟩
end Go.Proofs.YtdmkhmeaphaapaaGreat.V
