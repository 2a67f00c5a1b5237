/- Kit. -/
import Derived.Test.YtdmkhmeaphaapaaGreatCZ27
import Derived.Test.YtdmkhmeaphaapaaGreatCZ24
import Derived.Test.YtdmkhmeaphaapaaGreatCZ0
set_option maxRecDepth 100000
set_option linter.unusedVariables false
set_option linter.unusedSimpArgs false
namespace Go.Proofs.YtdmkhmeaphaapaaGreat.V
open Go.RowKit Go.Sort
theorem YF:Es []=[]:=by
 unfold Es;rw[if_neg (by decide +kernel),if_pos (by rw[show(Ca []).take (Gr (List.headD [] []))=[] by decide +kernel,IM];exact List.nil_prefix)];decide +kernel
theorem jD {l:List (List UInt8)}{n k:Nat}(hl:∀f∈l,f.length=64)(hn:Gr (l.headD [])=n)(hk:(n+61)/62=k)(h:n=0∨60000<n∨l.length<k):Es l=[]:=by
 unfold Es;rw[hn,F7 hl];by_cases h0:n=0
 · subst h0;split
   · rfl
   · rw[List.take_zero,IM,if_pos List.nil_prefix]
 · rw[if_pos (by omega)]
theorem aZ {l:List (List UInt8)}{n k:Nat}{r:List UInt8}(hl:∀f∈l,f.length=64)(hn:Gr (l.headD [])=n)(hk:(n+61)/62=k)(h6:n≤60000)(hkl:k≤l.length)(hr:(Ca (l.take k)).take n=r) :
 r.length=n∧Es l=if l.take k=Cs r then r else []:=by
 have hg:Ca l=Ca (l.take k)++Ca (l.drop k):=by
  conv=>lhs;rw[←List.take_append_drop k l]
  unfold Ca;rw[FB]
 have hgl:(Ca (l.take k)).length=62*k:=by
  rw[F7 (fun f hf=>hl f (List.mem_of_mem_take hf)),Cc];omega
 have hrl:r.length=n:=by rw[←hr,Cc,hgl];omega
 have hr2:(Ca l).take n=r:=by rw[hg,List.take_append_of_le_length (by omega),hr]
 refine⟨hrl,?_⟩;unfold Es;rw[hn,F7 hl,if_neg (by omega),hr2];have hc:(Cs r).length=k:=by rw[Dp,hrl,hk]
 by_cases he:l.take k=Cs r
 · rw[if_pos he,if_pos ⟨l.drop k,by rw[←he,List.take_append_drop]⟩]
 · rw[if_neg he,if_neg];rintro⟨t,ht⟩;apply he;rw[←ht,←hc,List.take_left]
theorem Cr {w0 W W':World}{g:Nat}{x y z:Value}(hg:g<w0.heap.size)(h:Below w0.heap.size w0 W∧W.cell? ⟨g,0,none⟩=some x∧W.cell? ⟨g,1,none⟩=some y∧W.cell? ⟨g,2,none⟩=some z)(hb:Below W.heap.size W W') :
 Below w0.heap.size w0 W'∧W'.cell? ⟨g,0,none⟩=some x∧W'.cell? ⟨g,1,none⟩=some y∧W'.cell? ⟨g,2,none⟩=some z:=by
 have hgW:g<W.heap.size:=Nat.lt_of_lt_of_le hg h.1.size;exact⟨h.1.trans (hb.mono h.1.size),by rw[hb.cell (p:=⟨g,0,none⟩) hgW];exact h.2.1,by rw[hb.cell (p:=⟨g,1,none⟩) hgW];exact h.2.2.1,by rw[hb.cell (p:=⟨g,2,none⟩) hgW];exact h.2.2.2⟩
theorem JL {w0 W:World}{g:Nat}{x y z:Value}(h:Below w0.heap.size w0 W∧W.cell? ⟨g,0,none⟩=some x∧W.cell? ⟨g,1,none⟩=some y∧W.cell? ⟨g,2,none⟩=some z) :
 Below w0.heap.size w0 W.drew∧W.drew.cell? ⟨g,0,none⟩=some x∧W.drew.cell? ⟨g,1,none⟩=some y∧W.drew.cell? ⟨g,2,none⟩=some z:=⟨h.1.drew,h.2.1,h.2.2.1,h.2.2.2⟩
theorem Ka (l:List ByteArray)(p:Nat):Ac (l.take p)=(Ac l).take p:=by
 unfold Ac;rw[List.map_take]
theorem dB {a b:List ByteArray}(h:Ac a=Ac b):a=b:=by
 induction a generalizing b with
 | nil=>cases b with
  | nil=>rfl
  | cons y b=>cases h
 | cons x a ih=>cases b with
  | nil=>cases h
  | cons y b =>
   injection h with h1 h2;congr 1
   · cases x;cases y;congr 1;exact Array.ext' h1
   · exact ih h2
theorem Ng (L:List (List UInt8)):Ac (L.map fun f=>(⟨f.toArray⟩:ByteArray))=L:=by
 unfold Ac;rw[List.map_map];exact(List.map_congr_left fun f _=>by simp).trans (List.map_id _)
set_option maxHeartbeats 8000000 in
theorem oD (B b:Nat)(st:St)(F S A:Nat)(w:World)(h:Dev B w b st)(hg:Good st)(hgo:BJ st=false)(hS:F+S≤st.now.length)(hA4:A≤100000) :
 Calls Tryz.prog 161 #[.agg #[.pointer (some ⟨b,0,none⟩),.int .i64 F,.int .i64 S],.int .i64 A] w fun e w'=>e=.returned (.tuple #[.string ⟨(Es (Ac (((st.now.drop F).take S).drop A))).toArray⟩,.int .i64 0])∧Below w.heap.size w w':=by
 obtain⟨W0,hW0⟩:∃W0,w.alloc (.cells #[.pointer (some ⟨b,0,none⟩),.int .i64 F,.int .i64 S] 218)=W0:=⟨_,rfl⟩;have HB0:Hid (Below w.heap.size w W0):=Aa (by rw[←hW0];exact(Ad _ _).alloc (Ae _) _);have XR:Hid (W0.heap.size=w.heap.size+1):=Aa (by rw[←hW0];simp);have Nn:Hid (W0.heap[w.heap.size]?=some (.cells #[.pointer (some ⟨b,0,none⟩),.int .i64 F,.int .i64 S] 218 (0,0))):=Aa (by rw[←hW0];exact Ai _ _);have JV:Hid (Below W0.heap.size W0 W0∧W0.cell? ⟨w.heap.size,0,none⟩=some (.pointer (some ⟨b,0,none⟩))∧W0.cell? ⟨w.heap.size,1,none⟩=some (.int .i64 F)∧W0.cell? ⟨w.heap.size,2,none⟩=some (.int .i64 S)):=Aa ⟨Ad _ _,by rw[AB _ _ _ _ _ _ Nn.out];rfl,by rw[AB _ _ _ _ _ _ Nn.out];rfl,by rw[AB _ _ _ _ _ _ Nn.out];rfl⟩;have Oa:w.heap.size<W0.heap.size:=by rw[XR.out];omega
 have FU:Hid (∀W,Below W0.heap.size W0 W→Below w.heap.size w W):=Aa (fun W hW=>HB0.out.trans (hW.mono (by rw[XR.out];omega)));have hf:=hg.few;have cH:=fun(c:Int) W=>qG (some ⟨b,0,none⟩) F S A c W (by omega)
 by_cases hAS:A<S
 · have hlen:((st.now.drop F).take S).length=S:=by rw[Cc,Ea];omega
   obtain⟨L,hL⟩:∃L,((st.now.drop F).take S).drop A=L:=⟨_,rfl⟩;rw[hL];have hLl:L.length=S-A:=by rw[←hL,Ea,hlen]
   have hLt:∀k,k≤S-A→(st.now.drop (F+A)).take k=L.take k:=fun k hk=>by
    rw[←hL,List.drop_take,List.drop_drop,List.take_take,Nat.min_eq_left hk]
   have hLs:∀x∈L,x.size=64:=fun x hx=>hg.fq x (by rw[←hL]at hx;exact List.mem_of_mem_drop (List.mem_of_mem_take (List.mem_of_mem_drop hx)))
   obtain⟨x,hx⟩:∃x,L[0]?=some x:=⟨_,Co (by omega)⟩;have hxs:=hLs x (CU hx);have hgx:st.now.getD (F+A) ⟨#[]⟩=x:=by
    have h1:=hLt 1 (by omega);have h2:(L.take 1)[0]?=some x:=by rw[JR,if_pos (by omega)];exact hx
    rw[←h1,JR,if_pos (by omega),I5,Nat.add_zero]at h2;rw[Gi,h2];rfl
   have cG:Hid (∀W,Below w.heap.size w W→Calls Tryz.prog 162 #[.agg #[.pointer (some ⟨b,0,none⟩),.int .i64 F,.int .i64 S],.int .i64 A] W fun e w'=>e=.returned (.tuple #[.string x,.int .i64 0])∧Below W.heap.size W w'):=Aa (fun W hW=>by
    have h1:=XG B b st F S A ((F+A:Nat):Int) W (h.below hW) hg (by omega) (by omega);rw[E9 hgo (by omega),if_pos rfl,DY,hgx]at h1;exact h1)
   obtain⟨n,hn⟩:∃n,Gr x.data.toList=n:=⟨_,rfl⟩;have hn2:Gr ((Ac L).headD [])=n:=by
    cases L with
    | nil=>cases hx
    | cons y l=>injection hx with hx;subst hx;exact hn
   have hn6:n<65536:=by
    rw[←hn];unfold Gr;have h1:=UInt8.toNat_lt (x.data.toList.getD 0 0);have h2:=UInt8.toNat_lt (x.data.toList.getD 1 0);omega
   obtain⟨k,hk⟩:∃k,(n+61)/62=k:=⟨_,rfl⟩;have cL:=fun W=>Aag x W hxs
   rw[hn]at cL;have cF:=fun W=>KQ n W (by omega)
   rw[GU,hk]at cF;have cA:Hid (k≤S-A→∀W,Below w.heap.size w W→Calls Tryz.prog 182 #[.agg #[.pointer (some ⟨b,0,none⟩),.int .i64 F,.int .i64 S],.int .i64 A,.int .i64 k] W fun e w'=>∃v,e=.returned (.tuple #[v,.int .i64 0])∧Eo w' v (L.take k)∧Below W.heap.size W w'):=Aa (fun uL W hW=>by
    have h1:=qN B b st F A k S W (h.below hW) hg hgo (by omega);rw[hLt k uL]at h1;exact h1)
   have eF:=Aa (Ot hLs);have uU:=Aa hLs;have XV:Hid ((Ac L).length=S-A):=Aa (by unfold Ac;rw[DW];exact hLl);have uu:Hid (n=0∨60000<n∨S-A<k→Es (Ac L)=[]):=Aa (fun hh=>jD eF.out hn2 hk (by rw[XV.out];exact hh));have AaX:Hid (∀r,n≤60000→k≤S-A→(Ca ((Ac L).take k)).take n=r→r.length=n∧Es (Ac L)=if(Ac L).take k=Cs r then r else []):=Aa (fun r h6 uL hr=>aZ eF.out hn2 hk h6 (by rw[XV.out];exact uL) hr);have hAz:(1:Int)≤(S:Int)-(A:Int):=by omega
   have lG:=cH 1;rw[A8 hAz]at lG;have HCH:=Aa cH;have hk4:k≤1060:=by omega
   clear h hg hgo hS hL hLl hLt hLs hx hxs hgx hn hn2 hlen cH;obtain⟨_,k0,k1,k2⟩:=JV.out;have hAi:(0:Int)≤0:=by omega
   by_cases hn0:n=0
   · have HR:Hid (Es (Ac L)=[]):=Aa (uu.out (Or.inl hn0));subst hn0;clear cF HCH;go_enter Tryz.func161,Tryz.ntmps161;go_wp2_with fail;refine(lG _).mono ?_;rintro e w1 ⟨rfl,hb1⟩;have hS1:=Cr Oa JV.out hb1;have Rm:=Aa hS1;obtain⟨_,j0,j1,j2⟩:=hS1;clear k0 k1 k2 hb1 lG;go_wp2_with fail;refine(cG.out _ (FU.out _ Rm.out.1)).mono ?_;rintro e w2 ⟨rfl,hb2⟩;have HS2:=Aa (Cr Oa Rm.out hb2);clear j0 j1 j2 hb2;go_wp2_with fail;refine(cL _).mono ?_;rintro e w3 ⟨rfl,hb3⟩;have y9:=Aa (Cr Oa HS2.out hb3);clear hb3 cL;go_wp2;go_quiet (fail);have aa:Hid (Below w.heap.size w (w3.drewN nq)):=Aa (Below.VU (FU.out _ y9.out.1) nq);go_wp2;go_ret2;exact⟨by rw[HR.out];rfl,aa.out⟩
   · by_cases Acr:60000<n
     · have HR:Hid (Es (Ac L)=[]):=Aa (uu.out (Or.inr (Or.inl Acr)));have hz1:((n:Int)==0)=false:=by rw[Ba];omega
       have hz2:(60000:Int)<(n:Int):=by omega
       clear cF HCH;go_enter Tryz.func161,Tryz.ntmps161;go_wp2_with fail;refine(lG _).mono ?_;rintro e w1 ⟨rfl,hb1⟩;have hS1:=Cr Oa JV.out hb1;have Rm:=Aa hS1;obtain⟨_,j0,j1,j2⟩:=hS1;clear k0 k1 k2 hb1 lG;go_wp2_with fail;refine(cG.out _ (FU.out _ Rm.out.1)).mono ?_;rintro e w2 ⟨rfl,hb2⟩;have HS2:=Aa (Cr Oa Rm.out hb2);clear j0 j1 j2 hb2;go_wp2_with fail;refine(cL _).mono ?_;rintro e w3 ⟨rfl,hb3⟩;have y9:=Aa (Cr Oa HS2.out hb3);clear hb3 cL;go_wp2;go_quiet (fail);have aa:Hid (Below w.heap.size w (w3.drewN nq)):=Aa (Below.VU (FU.out _ y9.out.1) nq);go_wp2;go_ret2;exact⟨by rw[HR.out];rfl,aa.out⟩
     · have hz1:((n:Int)==0)=false:=by rw[Ba];omega
       have hz2:¬((60000:Int)<(n:Int)):=by omega
       have hz3:decide ((60000:Int)<(n:Int))=false:=Bb hz2;have cHk:=HCH.out k;by_cases uL:S-A<k
       · have HR:Hid (Es (Ac L)=[]):=Aa (uu.out (Or.inr (Or.inr uL)));have hkz:¬((k:Int)≤(S:Int)-(A:Int)):=by omega
         rw[Bb hkz]at cHk;clear HCH;go_enter Tryz.func161,Tryz.ntmps161;go_wp2_with fail;refine(lG _).mono ?_;rintro e w1 ⟨rfl,hb1⟩;have hS1:=Cr Oa JV.out hb1;have Rm:=Aa hS1;obtain⟨_,j0,j1,j2⟩:=hS1;clear k0 k1 k2 hb1 lG;go_wp2_with fail;refine(cG.out _ (FU.out _ Rm.out.1)).mono ?_;rintro e w2 ⟨rfl,hb2⟩;have HS2:=Aa (Cr Oa Rm.out hb2);clear j0 j1 j2 hb2;go_wp2_with fail;refine(cL _).mono ?_;rintro e w3 ⟨rfl,hb3⟩;have qL:=Cr Oa HS2.out hb3;have j0:=qL.2.1;have j1:=qL.2.2.1;have j2:=qL.2.2.2;clear hb3 cL;go_wp2;go_region_held3 (fun W=>Below W0.heap.size W0 W∧W.cell? ⟨w.heap.size,0,none⟩=some (.pointer (some ⟨b,0,none⟩))∧W.cell? ⟨w.heap.size,1,none⟩=some (.int .i64 F)∧W.cell? ⟨w.heap.size,2,none⟩=some (.int .i64 S)) (first|assumption|exact JL ‹_›|exact Cr Oa ‹_› ‹_›) (first|(go_at_call 133;refine(cF _).mono ?_;rintro e w' ⟨rfl,rfl⟩)|(go_at_call 132;refine(cHk _).mono ?_;rintro e w' ⟨rfl,hb⟩));rename_i hHeld;have aa:Hid (Below w.heap.size w _):=Aa (FU.out _ hHeld.1);clear qL j0 j1 j2 hb hHeld;go_wp2;go_ret2;exact⟨by rw[HR.out];rfl,aa.out⟩
       · have hkz:(k:Int)≤(S:Int)-(A:Int):=by omega
         rw[A8 hkz]at cHk;have hkn:k≤S-A:=by omega
         have HAk:Hid (∀W,(Below W0.heap.size W0 W∧W.cell? ⟨w.heap.size,0,none⟩=some (.pointer (some ⟨b,0,none⟩))∧W.cell? ⟨w.heap.size,1,none⟩=some (.int .i64 F)∧W.cell? ⟨w.heap.size,2,none⟩=some (.int .i64 S))→Calls Tryz.prog 182 #[.agg #[.pointer (some ⟨b,0,none⟩),.int .i64 F,.int .i64 S],.int .i64 A,.int .i64 k] W fun e w'=>∃v,e=.returned (.tuple #[v,.int .i64 0])∧Eo w' v (L.take k)∧Below W.heap.size W w'):=Aa (fun W hW=>cA.out hkn W (FU.out _ hW.1));obtain⟨M,hM⟩:∃M,L.take k=M:=⟨_,rfl⟩;rw[hM]at HAk;have hMs:∀y∈M,y.size=64:=fun y hy=>uU.out y (by rw[←hM]at hy;exact List.mem_of_mem_take hy)
         have hLk:L.length=S-A:=by have:=XV.out;unfold Ac at this;rwa[DW]at this
         have hMl:M.length=k:=by rw[←hM,Cc,hLk];omega
         have hMb:(Ac L).take k=Ac M:=by rw[←hM,Ka]
         obtain⟨G,hG⟩:∃G:ByteArray,G=⟨(Ca (Ac M)).toArray⟩:=⟨_,rfl⟩;obtain⟨q,hq⟩:∃q,G.size=q:=⟨_,rfl⟩;have hqk:q=62*k:=by
          rw[←hq,hG];show(Ca (Ac M)).toArray.size=_
          rw[Gq,F7 (Ot hMs)];unfold Ac;rw[DW,hMl]
         obtain⟨R,hR⟩:∃R:ByteArray,G.extract 0 n=R:=⟨_,rfl⟩;have hRr:R.data.toList=(Ca (Ac M)).take n:=by
          rw[←hR,ByteArray.data_extract,Array.toList_extract,hG];show(((Ca (Ac M)).toArray.toList).drop 0).take (n-0)=_
          rw[List.drop_zero,Nat.sub_zero]
         obtain⟨r,hr⟩:∃r,(Ca (Ac M)).take n=r:=⟨_,rfl⟩;rw[hr]at hRr;obtain⟨hrl,hone⟩:=AaX.out r (by omega) hkn (by rw[hMb];exact hr);rw[hMb]at hone;have hRs:R.size=n:=by rw[←hrl,←hRr,BQ];rfl
         have hRe:R=⟨r.toArray⟩:=by
          cases R
          congr 1;exact Array.ext' (by rw[hRr])
         have cJ:Hid (∀v W,Eo W v M→Calls Tryz.prog 183 #[v] W fun e w'=>e=.returned (.string G)∧Below W.heap.size W w'):=Aa (fun v W hv=>by
          rw[hG];exact qh v M W hv hMs (by rw[hMl];omega))
         have cR:Hid (∀W,Calls Tryz.prog 134 #[.string R] W fun e w'=>∃v,e=.returned v∧Eo w' v ((Cs r).map fun f=>(⟨f.toArray⟩:ByteArray))∧Below W.heap.size W w'):=Aa (fun W=>by
          refine(Zi R W (by omega)).mono ?_;rintro e w' ⟨v,rfl,hown,hb⟩;rw[hRr]at hown;exact⟨v,rfl,OI hown,hb⟩)
         have cE:Hid (∀(u v:Value) W (t:Bool),Eo W u M→Eo W v ((Cs r).map fun f=>(⟨f.toArray⟩:ByteArray))→(t=true↔Ac M=Cs r)→Calls Tryz.prog 184 #[u,v] W fun e w'=>e=.returned (.bool t)∧Below W.heap.size W w'):=Aa (fun u v W t hu hv ht=>by
          refine xJ u v M _ W hu hv (by omega) (by rw[DW,Dp,hrl];omega) t (ht.trans ⟨fun e=>?_,fun e=>?_⟩)
          · exact dB (by rw[e,Ng])
          · rw[e,Ng])
         have HGX:Hid (G.extract 0 n=R):=Aa hR;have hn0z:(0:Int)≤(n:Int):=by omega
         have hnq:(n:Int)≤(q:Int):=by omega
         have HRE:=Aa hRe;have XU:=Aa hone;clear HCH cA hM hMs hLk hMl hMb hG hqk hR hRr hr hrl hone hRs hRe;go_enter Tryz.func161,Tryz.ntmps161;go_wp2_with fail;refine(lG _).mono ?_;rintro e w1 ⟨rfl,hb1⟩;have hS1:=Cr Oa JV.out hb1;have Rm:=Aa hS1;obtain⟨_,j0,j1,j2⟩:=hS1;clear k0 k1 k2 hb1 lG;go_wp2_with fail;refine(cG.out _ (FU.out _ Rm.out.1)).mono ?_;rintro e w2 ⟨rfl,hb2⟩;have HS2:=Aa (Cr Oa Rm.out hb2);clear j0 j1 j2 hb2;go_wp2_with fail;refine(cL _).mono ?_;rintro e w3 ⟨rfl,hb3⟩;have qL:=Cr Oa HS2.out hb3;have j0:=qL.2.1;have j1:=qL.2.2.1;have j2:=qL.2.2.2;clear hb3 cL;go_wp2;go_region_held3 (fun W=>Below W0.heap.size W0 W∧W.cell? ⟨w.heap.size,0,none⟩=some (.pointer (some ⟨b,0,none⟩))∧W.cell? ⟨w.heap.size,1,none⟩=some (.int .i64 F)∧W.cell? ⟨w.heap.size,2,none⟩=some (.int .i64 S)) (first|assumption|exact JL ‹_›|exact Cr Oa ‹_› ‹_›) (first|(go_at_call 133;refine(cF _).mono ?_;rintro e w' ⟨rfl,rfl⟩)|(go_at_call 132;refine(cHk _).mono ?_;rintro e w' ⟨rfl,hb⟩));rename_i hHeld;have uM:=hHeld;have j0:=uM.2.1;have j1:=uM.2.2.1;have j2:=uM.2.2.2;clear qL hb hHeld;go_wp2;go_region_held3 (fun W=>Below W0.heap.size W0 W∧W.cell? ⟨w.heap.size,0,none⟩=some (.pointer (some ⟨b,0,none⟩))∧W.cell? ⟨w.heap.size,1,none⟩=some (.int .i64 F)∧W.cell? ⟨w.heap.size,2,none⟩=some (.int .i64 S)) (first|assumption|exact JL ‹_›|exact Cr Oa ‹_› ‹_›) (first|(go_at_call 133;refine(cF _).mono ?_;rintro e w' ⟨rfl,rfl⟩)|(go_at_call 182;refine(HAk.out _ ?_).mono ?_;(first|assumption|exact JL ‹_›);rintro e w' ⟨v,rfl,hv,hb⟩));rename_i hHeld;have aa:Hid (Below w.heap.size w _):=Aa (FU.out _ hHeld.1);have lY:=Aa hv;clear uM j0 j1 j2 hb hHeld hv;go_wp2_with fail;refine(cJ.out _ _ lY.out).mono ?_;rintro e w5 ⟨rfl,hb5⟩;have I4:Hid (Below w.heap.size w w5):=Aa (aa.out.trans (hb5.mono aa.out.size));have HV5:=Aa (lY.out.kept hb5);clear hb5;go_wp2_with fail;rw[HGX.out];refine(cR.out _).mono ?_;rintro e w6 ⟨v2,rfl,hv2,hb6⟩;have RJ:Hid (Below w.heap.size w w6):=Aa (I4.out.trans (hb6.mono I4.out.size));have yZ:=Aa (HV5.out.kept hb6);have Rl:=Aa hv2;clear hb6 hv2;by_cases hE:Ac M=Cs r
         · have X7:Hid ((⟨(Es (Ac L)).toArray⟩:ByteArray)=R):=Aa (by rw[XU.out,if_pos hE,HRE.out]);have HEE:=Aa hE;clear hE;go_wp2_with fail;refine(cE.out _ _ _ true yZ.out Rl.out ⟨fun _=>HEE.out,fun _=>rfl⟩).mono ?_;rintro e w7 ⟨rfl,Er⟩;have yo:Hid (Below w.heap.size w w7):=Aa (RJ.out.trans (Er.mono RJ.out.size));clear Er;go_wp2;go_ret2;exact⟨by rw[X7.out];rfl,yo.out⟩
         · have X7:Hid ((Es (Ac L))=[]):=Aa (by rw[XU.out,if_neg hE]);have HEE:=Aa hE;clear hE;go_wp2_with fail;refine(cE.out _ _ _ false yZ.out Rl.out ⟨(fun e=>by cases e),fun e=>absurd e HEE.out⟩).mono ?_;rintro e w7 ⟨rfl,Er⟩;have yo:Hid (Below w.heap.size w w7):=Aa (RJ.out.trans (Er.mono RJ.out.size));clear Er;go_wp2;go_ret2;exact⟨by rw[X7.out];rfl,yo.out⟩
 · have hAz:¬((1:Int)≤(S:Int)-(A:Int)):=by omega
   have lG:=cH 1;rw[Bb hAz]at lG;have HR:Hid (Es (Ac (((st.now.drop F).take S).drop A))=[]):=Aa (by
    rw[List.drop_eq_nil_of_le (by rw[Cc,Ea];omega)];exact YF)
   obtain⟨_,k0,k1,k2⟩:=JV.out;clear h hg hgo hS cH;go_enter Tryz.func161,Tryz.ntmps161;go_wp2_with fail;refine(lG _).mono ?_;rintro e w1 ⟨rfl,hb1⟩;have HB1:Hid (Below w.heap.size w w1):=Aa (FU.out _ (Cr Oa JV.out hb1).1);clear hb1 lG;go_wp2;go_ret2;exact⟨by rw[HR.out];rfl,HB1.out⟩
def Hq (st:St)(F S:Nat):List ByteArray:=(st.now.drop F).take S
theorem Pz {st:St}{F S:Nat}(h:F+S≤st.now.length):(Hq st F S).length=S:=by
 unfold Hq;rw[Cc,Ea];omega
theorem oU {B B':Nat}{w:World}{T:TypeId}{n s:Nat}{v:Value}{xs:List Value}(h:w.ownsRow B T s v n xs)(hB:B'≤B):w.ownsRow B' T s v n xs:=by
 refine⟨h.1,?_⟩;rcases h.2 with hn|⟨g,cap,cur,hv,hg,r⟩
 · exact Or.inl hn
 · exact Or.inr ⟨g,cap,cur,hv,Ao hB hg,r⟩
set_option maxHeartbeats 8000000 in
theorem vL (B b:Nat)(st:St)(F S:Nat)(w:World)(h:Dev B w b st)(hg:Good st)(hgo:BJ st=false)(ho:Du st F S=0)(hS:F+S≤st.now.length) :
 Calls Tryz.prog 129 #[.pointer (some ⟨b,0,none⟩),.int .i64 F,.int .i64 S] w fun e w'=>∃u,e=.returned (.tuple #[u,.int .i64 ((1+(BZ (DZ ((Ac (Hq st F S)).drop 1))).length:Nat):Int),.int .i64 0])∧w'.ownsRow w.heap.size 9 1 u (DZ ((Ac (Hq st F S)).drop 1)).length (UO (DZ ((Ac (Hq st F S)).drop 1)))∧Below w.heap.size w w':=by
 obtain⟨i0,hi0,hz0,hz1,hz2⟩:=info_parts Tryz.Mw;have hf:=hg.few;have uM:S≤4096:=by omega
 obtain⟨l,hl⟩:∃l,Hq st F S=l:=⟨_,rfl⟩;have hll:l.length=S:=by rw[←hl];exact Pz hS
 rw[hl];obtain⟨L,hL0⟩:∃L,DZ ((Ac l).drop 1)=L:=⟨_,rfl⟩;rw[hL0];obtain⟨T,hT0⟩:∃T,1+(BZ L).length=T:=⟨_,rfl⟩;rw[hT0];have cO:=Rv B b st F S w h hg ho;have cR:Hid (∀(p:Nat) W,p≤100000→Below w.heap.size w W→Calls Tryz.prog 161 #[.agg #[.pointer (some ⟨b,0,none⟩),.int .i64 F,.int .i64 S],.int .i64 p] W fun e w'=>e=.returned (.tuple #[.string ⟨(Es ((Ac l).drop p)).toArray⟩,.int .i64 0])∧Below W.heap.size W w'):=Aa (fun p W hp hW=>by
  have h1:=oD B b st F S p W (h.below hW) hg hgo hS hp;rw[show((st.now.drop F).take S)=l from hl,QX]at h1;exact h1)
 have HT0:=Aa hT0;have XV:=Aa hll;clear hT0 h hg hgo ho hS hl hll;go_enter Tryz.func129,Tryz.ntmps129;go_wp2_with fail;refine cO.mono ?_;rintro e w1 ⟨rfl,hb1⟩;have HB1:=Aa hb1;clear hb1 cO;go_wp2;obtain⟨W0,hW0⟩:∃W0,w1.alloc (.cells #[.pointer (some ⟨b,0,none⟩),.int .i64 F,.int .i64 S] 218)=W0:=⟨_,rfl⟩;have HB0:Hid (Below w.heap.size w W0):=Aa (by rw[←hW0];exact HB1.out.alloc HB1.out.size _);have XR:Hid (W0.heap.size=w1.heap.size+1):=Aa (by rw[←hW0];simp);have Nn:Hid (W0.heap[w1.heap.size]?=some (.cells #[.pointer (some ⟨b,0,none⟩),.int .i64 F,.int .i64 S] 218 (0,0))):=Aa (by rw[←hW0];exact Ai _ _);have JV:Hid (Below W0.heap.size W0 W0∧W0.cell? ⟨w1.heap.size,0,none⟩=some (.pointer (some ⟨b,0,none⟩))∧W0.cell? ⟨w1.heap.size,1,none⟩=some (.int .i64 F)∧W0.cell? ⟨w1.heap.size,2,none⟩=some (.int .i64 S)):=Aa ⟨Ad _ _,by rw[AB _ _ _ _ _ _ Nn.out];rfl,by rw[AB _ _ _ _ _ _ Nn.out];rfl,by rw[AB _ _ _ _ _ _ Nn.out];rfl⟩;have Oa:w1.heap.size<W0.heap.size:=by rw[XR.out];omega
 have FU:Hid (∀W,Below W0.heap.size W0 W→Below w.heap.size w W):=Aa (fun W hW=>HB0.out.trans (hW.mono HB0.out.size));rw[hW0];clear hW0;generalize w1.heap.size=g at *;go_loopw [12,11] (fun av ov wr=>∃(p:Nat) (out:List (List UInt8)),av=.int .i64 p∧p≤S+1∧out.length<p∧p=1+(BZ out).length∧out++DZ ((Ac l).drop p)=L∧(∃o,o=ov∧wr.ownsRow W0.heap.size 9 1 o out.length (UO out))∧Below W0.heap.size W0 wr) (fun av _ _=>S+1-(intOf av).toNat)
 case atStart=>exact⟨1,[],rfl,by omega,by simp,rfl,hL0,⟨_,rfl,rfl,Or.inl ⟨rfl,rfl⟩⟩,Ad _ _⟩
 case round =>
  obtain⟨p,out,rfl,hp,hop,hpl,hs,⟨ov,rfl,hown⟩,hb⟩:=hrel;have Nk:=Aa hs;have HP:=Aa hpl;have HO:=Aa hown;have HB:=Aa hb;obtain⟨_,k0,k1,k2⟩:=Cr Oa JV.out hb;clear hs hown hb hpl;go_wp2_with fail;refine(cR.out p _ (by omega) (FU.out _ HB.out)).mono ?_;rintro e w2 ⟨rfl,hb2⟩;have hown1:=HO.out.kept (LJ hb2 none) (by cases h:ov.ownBlock with|none=>exact Or.inl rfl|some x=>exact Or.inr (by simp));have ZY:=Aa hown1;have HB2:Hid (Below W0.heap.size W0 w2):=Aa (HB.out.trans (hb2.mono HB.out.size));clear hown1 hb2 k0 k1 k2;obtain⟨R,hR⟩:∃R,Es ((Ac l).drop p)=R:=⟨_,rfl⟩;rw[hR];have HRD:=Aa hR;clear hR;by_cases hR:R=[]
  · subst hR;have HE:Hid (L=out):=Aa (by rw[←Nk.out,GJ (Or.inr HRD.out),Cz]);have HTp:Hid (p=T):=Aa (by rw[←HT0.out,HE.out];exact HP.out);have HOW:Hid (w2.ownsRow w.heap.size 9 1 ov out.length (UO out)):=Aa (oU ZY.out HB0.out.size);have GN:=Aa (FU.out _ HB2.out);go_wp2;go_ret3;exact⟨_,by rw[←HTp.out];rfl,by rw[HE.out];exact HOW.out,GN.out⟩
  · have HRN:=Aa hR;have hlen:(Ac l).length=S:=by unfold Ac;rw[DW,XV.out]
    have hone:Es ((Ac l).drop p)≠[]:=by rw[HRD.out];exact hR
    have gK:p<S:=by
     rcases Nat.lt_or_ge p S with h9|h9
     · exact h9
     · exact absurd (by rw[List.drop_eq_nil_of_le (by omega)];exact YF) hone
    have hdl:((Ac l).drop p).length=S-p:=by rw[Ea,hlen]
    obtain⟨q,hq⟩:∃q,(Cs R).length=q:=⟨_,rfl⟩;have hqn:q≤S-p:=by rw[←hq,←hdl,←HRD.out];exact vY hone
    have hq1:1≤q:=by rw[←hq,Dn hR,GY];omega
    have hRs:R.length≤60000:=(KD HRD.out hR).1;have HNX:Hid ((out++[R])++DZ ((Ac l).drop (p+q))=L):=Aa (by
     rw[←Nk.out,NT hone (fun e=>by rw[e]at hdl;simp at hdl;omega),HRD.out,hq,List.drop_drop,Ch];rfl)
    have HPQ:Hid (p+q=1+(BZ (out++[R])).length):=Aa (by
     unfold BZ;rw[FB,A7];have h1:=HP.out;unfold BZ at h1;simp only[List.flatMap_cons,List.flatMap_nil,List.append_nil];rw[hq];omega)
    have hne:R.isEmpty=false:=by
     cases R with
     | nil=>exact absurd rfl hR
     | cons a b=>rfl
    have hcl:=Dp R;rw[hq]at hcl;obtain⟨m,hm⟩:∃m,R.length=m:=⟨_,rfl⟩;rw[hm]at hcl hRs;have hsz:(⟨R.toArray⟩:ByteArray).size=m:=by show R.toArray.size=m;rw[Gq];exact hm
    have cF:=fun W=>KQ (m:Int) W (by omega)
    rw[GU,←hcl]at cF;have Wo:Hid ((w2.alloc (.cells #[.string ⟨R.toArray⟩] 9)).ownsRow W0.heap.size 9 1 ov out.length (UO out)):=Aa (ZY.out.alloc _);have hpq:IntKind.i64.wrap ((p:Int)+(q:Int))=(p:Int)+(q:Int):=by rw[El];omega
    clear hdl hone hq hcl;go_wp2_with (at_builtin;refine wpList_append_own _ rfl _ _ 59 rfl W0.heap.size 9 i0 (.string ⟨#[]⟩) 1 16 Tryz.underlying59 hi0 hz0 hz1 hz2 rfl (by decide) _ _ _ rfl Wo.out ⟨w2.heap.size,0,none⟩ 1 1 [.string ⟨R.toArray⟩] rfl rfl ?c1 ?c2 ?c3 ?c4 ?c5 ?_)
    case c1 =>
     intro j u hj
     match j,hj with
     | 0,hj=>simp at hj;subst hj;simp[Addr.add]
    case c2=>intro u hu;simp at hu;subst hu;rfl
    case c3=>unfold maxLen;omega
    case c4=>omega
    case c5=>have h1:=HB2.out.size;simp;omega
    intro v' w3 hown' hgrow _;have Jf:=Aa hown';have HB3:Hid (Below W0.heap.size W0 w3):=Aa ((HB2.out.alloc HB2.out.size _).grown hgrow (by have:=HB2.out.size;simp;omega) (fun j hj=>(ZY.out.lt j hj).1));clear hown' hgrow;go_wp2_with fail;refine(cF _).mono ?_;rintro e w4 ⟨rfl,rfl⟩;go_wp2;go_roundw
    case rel=>exact⟨p+q,out++[R],by go_num,by omega,by simp;omega,HPQ.out,HNX.out,⟨_,rfl,by simpa[UO]using Jf.out⟩,HB3.out⟩
    case measure=>simp[intOf];omega
def Bj:St→Nat→List ByteArray→St
 | st,_,[]=>st
 | st,i,f::fs=>Bj (BV st i f) (i+1) fs
theorem QD:∀(fs:List ByteArray) (st:St) (i:Nat) (f:ByteArray),Bj st i (fs++[f])=BV (Bj st i fs) (i+fs.length) f
 | [],st,i,f=>rfl
 | g::fs,st,i,f=>by
  show Bj (BV st i g) (i+1) (fs++[f])=BV (Bj (BV st i g) (i+1) fs) _ f
  rw[QD fs,GY,show i+(fs.length+1)=i+1+fs.length by omega]
theorem Cf {st:St}(h:st.lim=false):BJ st=false:=by
 unfold BJ;rw[h];rfl
theorem Vm:∀(fs:List ByteArray) (st:St) (i:Nat),Good st→st.lim=false→i+fs.length≤st.now.length→(∀f∈fs,f.size=64) →
 Good (Bj st i fs)∧(Bj st i fs).lim=false∧(Bj st i fs).now.length=st.now.length∧(Bj st i fs).pend.length=st.pend.length+fs.length∧(Bj st i fs).safe=st.safe
 | [],st,i,hg,hl,_,_=>⟨hg,hl,rfl,rfl,rfl⟩
 | f::fs,st,i,hg,hl,hi,hs=>by
  simp only[List.length_cons]at hi;have ha:=E9 (Cf hl) (show i<st.now.length by omega);have h1:=Vm fs (BV st i f) (i+1) (IG hg ha (hs f (by simp))) hl (by simp[BV];omega) (fun g hg=>hs g (by simp[hg]));obtain⟨a,b,c,d,e⟩:=h1;refine⟨a,b,?_,?_,e⟩
  · show(Bj (BV st i f) (i+1) fs).now.length=_
    rw[c];simp[BV]
  · show(Bj (BV st i f) (i+1) fs).pend.length=_
    rw[d];simp[BV];omega
theorem Kz:∀(fs:List ByteArray) (st:St) (i:Nat),i+fs.length≤st.now.length→(Bj st i fs).now=st.now.take i++fs++st.now.drop (i+fs.length)
 | [],st,i,_=>by simp[Bj]
 | f::fs,st,i,hi=>by
  simp only[List.length_cons]at hi;show(Bj (BV st i f) (i+1) fs).now=_
  rw[Kz fs (BV st i f) (i+1) (by simp[BV];omega)];show(st.now.set i f).take (i+1)++fs++(st.now.set i f).drop (i+1+fs.length)=_
  rw[List.drop_set_of_lt (by omega),List.set_eq_take_append_cons_drop,if_pos (by omega)];have hl:(st.now.take i).length=i:=by rw[Cc];omega
  rw[List.take_append,hl,CV (by omega),show i+1-i=1 by omega];simp[show i+1+fs.length=i+(fs.length+1) by omega]
theorem Vl:∀(fs:List ByteArray) (st:St) (i:Nat),(Bj st i fs).pend=st.pend++(List.range' i fs.length).zip fs
 | [],st,i=>by simp[Bj]
 | f::fs,st,i=>by
  show(Bj (BV st i f) (i+1) fs).pend=_
  rw[Vl fs];simp[BV,List.range'_succ]
set_option maxHeartbeats 2000000 in
theorem mP (B b:Nat)(st:St)(fr sz at_ q:Int)(s:ByteArray)(w:World)(h:Dev B w b st)(hg:Good st)(ho:Du st fr sz=q)(hne:q≠0) :
 Calls Tryz.prog 95 #[.pointer (some ⟨b,0,none⟩),.int .i64 fr,.int .i64 sz,.int .i64 at_,.string s] w fun e w'=>e=.returned (.tuple #[.int .i64 0,.int .i64 q])∧Below w.heap.size w w':=by
 have cO:=fM B b st fr sz q w h hg ho hne;have hne2:(q==0)=false:=by simpa using hne
 clear h hg ho hne;go_enter Tryz.func95,Tryz.ntmps95;go_wp2_with fail;refine cO.mono ?_;rintro e w1 ⟨rfl,hb1⟩;have HB1:Hid (Below w.heap.size w (w1.alloc (.cells #[.pointer none,.int .i64 0,.int .i64 0] 218))):=Aa (hb1.alloc hb1.size _);clear hb1 cO;go_wp2;go_ret2;exact⟨rfl,HB1.out⟩
def Wt (S:Nat)(at_:Int)(n:Nat):Int:=if at_<1 then 1 else if n<1∨60000<n then 4 else if(S:Int)-at_<((n+61)/62:Nat) then 11 else 0
set_option maxHeartbeats 4000000 in
theorem iJ (B b:Nat)(st:St)(F S:Nat)(at_ q:Int)(s:ByteArray)(w:World)(h:Dev B w b st)(hg:Good st)(ho:Du st F S=0)(hS:F+S≤st.now.length)(hat:-9223372036854775808≤at_∧at_≤9223372036854775807)(hs:s.size≤9223372036854775807)(hq:Wt S at_ s.size=q)(hne:q≠0) :
 Calls Tryz.prog 95 #[.pointer (some ⟨b,0,none⟩),.int .i64 F,.int .i64 S,.int .i64 at_,.string s] w fun e w'=>e=.returned (.tuple #[.int .i64 0,.int .i64 q])∧Below w.heap.size w w':=by
 have cO:=Rv B b st F S w h hg ho;have hf:=hg.few;have uM:S≤4096:=by omega
 obtain⟨n,hn⟩:∃n,s.size=n:=⟨_,rfl⟩;rw[hn]at hs hq;have HN:=Aa hn;unfold Wt at hq;clear h hg ho hS hf;have HB1:Hid (∀w1,Below w.heap.size w w1→Below w.heap.size w (w1.alloc (.cells #[.pointer (some ⟨b,0,none⟩),.int .i64 F,.int .i64 S] 218))):=Aa (fun w1 hb1=>hb1.alloc hb1.size _);by_cases h1:at_<1
 · rw[if_pos h1]at hq;subst hq;go_enter Tryz.func95,Tryz.ntmps95;go_wp2_with fail;refine cO.mono ?_;rintro e w1 ⟨rfl,hb1⟩;have HB2:=Aa (HB1.out w1 hb1);clear hb1 cO;go_wp2;go_ret2;exact⟨rfl,HB2.out⟩
 · rw[if_neg h1]at hq;by_cases h2:n<1
   · rw[if_pos (Or.inl h2)]at hq;subst hq;have h2z:(n:Int)<1:=by omega
     have h0:n=0:=by omega
     subst h0;go_enter Tryz.func95,Tryz.ntmps95;go_wp2_with fail;refine cO.mono ?_;rintro e w1 ⟨rfl,hb1⟩;have HB2:=Aa (HB1.out w1 hb1);clear hb1 cO;go_wp2;go_ret2;exact⟨rfl,HB2.out⟩
   · have h2z:¬((n:Int)<1):=by omega
     have hd2:decide ((n:Int)<1)=false:=Bb h2z;by_cases h3:60000<n
     · rw[if_pos (Or.inr h3)]at hq;subst hq;have h3z:(60000:Int)<(n:Int):=by omega
       go_enter Tryz.func95,Tryz.ntmps95;go_wp2_with fail;refine cO.mono ?_;rintro e w1 ⟨rfl,hb1⟩;have HB2:=Aa (HB1.out w1 hb1);clear hb1 cO;go_wp2;go_ret2;exact⟨rfl,HB2.out⟩
     · rw[if_neg (by omega)]at hq;have h3z:¬((60000:Int)<(n:Int)):=by omega
       have hd3:decide ((60000:Int)<(n:Int))=false:=Bb h3z;split at hq
       case isFalse=>exact absurd hq.symm hne
       rename_i h4;subst hq;have cF:=fun W=>KQ (n:Int) W (by omega)
       rw[GU]at cF;generalize (n+61)/62=k at *;have cH:=fun W=>qG (some ⟨b,0,none⟩) F S at_ k W (by omega)
       rw[Bb (by omega)]at cH;go_enter Tryz.func95,Tryz.ntmps95;go_wp2_with fail;refine cO.mono ?_;rintro e w1 ⟨rfl,hb1⟩;have HB2:=Aa (HB1.out w1 hb1);clear hb1 cO;go_upto_region 8 with fail;obtain⟨W0,hW0⟩:∃W0,w1.alloc (.cells #[.pointer (some ⟨b,0,none⟩),.int .i64 F,.int .i64 S] 218)=W0:=⟨_,rfl⟩;have hC0:W0.heap[w1.heap.size]?=some (.cells #[.pointer (some ⟨b,0,none⟩),.int .i64 F,.int .i64 S] 218 (0,0)):=by rw[←hW0];exact Ai _ _
       have Oa:w1.heap.size<W0.heap.size:=Ab hC0;have hS0:Below W0.heap.size W0 W0∧W0.cell? ⟨w1.heap.size,0,none⟩=some (.pointer (some ⟨b,0,none⟩))∧W0.cell? ⟨w1.heap.size,1,none⟩=some (.int .i64 F)∧W0.cell? ⟨w1.heap.size,2,none⟩=some (.int .i64 S):=⟨Ad _ _,by rw[AB _ _ _ _ _ _ hC0];rfl,by rw[AB _ _ _ _ _ _ hC0];rfl,by rw[AB _ _ _ _ _ _ hC0];rfl⟩;have j0:=hS0.2.1;have j1:=hS0.2.2.1;have j2:=hS0.2.2.2;rw[hW0]at HB2;rw[hW0];clear hC0 hW0;generalize w1.heap.size=g at *;go_region_held3 (fun W=>Below W0.heap.size W0 W∧W.cell? ⟨g,0,none⟩=some (.pointer (some ⟨b,0,none⟩))∧W.cell? ⟨g,1,none⟩=some (.int .i64 F)∧W.cell? ⟨g,2,none⟩=some (.int .i64 S)) (first|assumption|exact JL ‹_›|exact Cr Oa ‹_› ‹_›) (first|(go_at_call 133;refine(cF _).mono ?_;rintro e w' ⟨rfl,rfl⟩)|(go_at_call 132;refine(cH _).mono ?_;rintro e w' ⟨rfl,hb⟩));rename_i hHeld;have aa:Hid (Below w.heap.size w _):=Aa (HB2.out.trans (hHeld.1.mono HB2.out.size));clear hS0 j0 j1 j2 hb hHeld;go_wp2;go_ret2;exact⟨rfl,aa.out⟩
def BF (s:ByteArray):List ByteArray:=(Cs s.data.toList).map fun f=>(⟨f.toArray⟩:ByteArray)
theorem CP (s:ByteArray):(BF s).length=(s.size+61)/62:=by
 unfold BF;rw[DW,Dp,BQ];rfl
theorem EB (s:ByteArray):∀f∈BF s,f.size=64:=fun f hf=>by
 obtain⟨g,hg,rfl⟩:=CG.1 hf;show g.toArray.size=64
 rw[Gq];exact TY _ g hg
theorem NH (s:ByteArray):Ac (BF s)=Cs s.data.toList:=Ng _
end Go.Proofs.YtdmkhmeaphaapaaGreat.V
