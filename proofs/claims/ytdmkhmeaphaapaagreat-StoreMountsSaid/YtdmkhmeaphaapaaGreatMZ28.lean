/- Kit. -/
import Derived.Test.YtdmkhmeaphaapaaGreatMZ27
import Derived.Test.YtdmkhmeaphaapaaGreatMZ24
import Derived.Test.YtdmkhmeaphaapaaGreatMZ0
set_option maxRecDepth 100000
set_option linter.unusedVariables false
set_option linter.unusedSimpArgs false
namespace Go.Proofs.YtdmkhmeaphaapaaGreat.V
open Go.RowKit Go.Sort
theorem X4:Es []=[]:=by
 unfold Es;rw[if_neg (by decide +kernel),if_pos (by rw[show(BZ []).take (Gf (List.headD [] []))=[] by decide +kernel,Iy];exact List.nil_prefix)];decide +kernel
theorem gW {l:List (List UInt8)}{n k:Nat}(hl:∀f∈l,f.length=64)(hn:Gf (l.headD [])=n)(hk:(n+61)/62=k)(h:n=0∨60000<n∨l.length<k):Es l=[]:=by
 unfold Es;rw[hn,FY hl];by_cases h0:n=0
 · subst h0;split
   · rfl
   · rw[List.take_zero,Iy,if_pos List.nil_prefix]
 · rw[if_pos (by omega)]
theorem ZO {l:List (List UInt8)}{n k:Nat}{r:List UInt8}(hl:∀f∈l,f.length=64)(hn:Gf (l.headD [])=n)(hk:(n+61)/62=k)(h6:n≤60000)(hkl:k≤l.length)(hr:(BZ (l.take k)).take n=r) :
 r.length=n∧Es l=if l.take k=Co r then r else []:=by
 have hg:BZ l=BZ (l.take k)++BZ (l.drop k):=by
  conv=>lhs;rw[←List.take_append_drop k l]
  unfold BZ;rw[FL]
 have hgl:(BZ (l.take k)).length=62*k:=by
  rw[FY (fun f hf=>hl f (List.mem_of_mem_take hf)),BV];omega
 have hrl:r.length=n:=by rw[←hr,BV,hgl];omega
 have hr2:(BZ l).take n=r:=by rw[hg,List.take_append_of_le_length (by omega),hr]
 refine⟨hrl,?_⟩;unfold Es;rw[hn,FY hl,if_neg (by omega),hr2];have hc:(Co r).length=k:=by rw[DK,hrl,hk]
 by_cases he:l.take k=Co r
 · rw[if_pos he,if_pos ⟨l.drop k,by rw[←he,List.take_append_drop]⟩]
 · rw[if_neg he,if_neg];rintro⟨t,ht⟩;apply he;rw[←ht,←hc,List.take_left]
theorem Ck {w0 W W':World}{g:Nat}{x y z:Value}(hg:g<w0.heap.size)(h:Below w0.heap.size w0 W∧W.cell? ⟨g,0,none⟩=some x∧W.cell? ⟨g,1,none⟩=some y∧W.cell? ⟨g,2,none⟩=some z)(hb:Below W.heap.size W W') :
 Below w0.heap.size w0 W'∧W'.cell? ⟨g,0,none⟩=some x∧W'.cell? ⟨g,1,none⟩=some y∧W'.cell? ⟨g,2,none⟩=some z:=by
 have hgW:g<W.heap.size:=Nat.lt_of_lt_of_le hg h.1.size;exact⟨h.1.trans (hb.mono h.1.size),by rw[hb.cell (p:=⟨g,0,none⟩) hgW];exact h.2.1,by rw[hb.cell (p:=⟨g,1,none⟩) hgW];exact h.2.2.1,by rw[hb.cell (p:=⟨g,2,none⟩) hgW];exact h.2.2.2⟩
theorem JB {w0 W:World}{g:Nat}{x y z:Value}(h:Below w0.heap.size w0 W∧W.cell? ⟨g,0,none⟩=some x∧W.cell? ⟨g,1,none⟩=some y∧W.cell? ⟨g,2,none⟩=some z) :
 Below w0.heap.size w0 W.drew∧W.drew.cell? ⟨g,0,none⟩=some x∧W.drew.cell? ⟨g,1,none⟩=some y∧W.drew.cell? ⟨g,2,none⟩=some z:=⟨h.1.drew,h.2.1,h.2.2.1,h.2.2.2⟩
theorem JX (l:List ByteArray)(p:Nat):Ac (l.take p)=(Ac l).take p:=by
 unfold Ac;rw[List.map_take]
theorem aQ {a b:List ByteArray}(h:Ac a=Ac b):a=b:=by
 induction a generalizing b with
 | nil=>cases b with
  | nil=>rfl
  | cons y b=>cases h
 | cons x a ih=>cases b with
  | nil=>cases h
  | cons y b =>
   injection h with h1 h2;congr 1
   · cases x;cases y;congr 1;exact Array.ext' h1
   · exact ih h2
theorem M0 (L:List (List UInt8)):Ac (L.map fun f=>(⟨f.toArray⟩:ByteArray))=L:=by
 unfold Ac;rw[List.map_map];exact(List.map_congr_left fun f _=>by simp).trans (List.map_id _)
set_option maxHeartbeats 8000000 in
theorem mi (B b:Nat)(st:St)(F S A:Nat)(w:World)(h:Dev B w b st)(hg:Good st)(hgo:BJ st=false)(hS:F+S≤st.now.length)(hA4:A≤100000) :
 Calls Tryz.prog 161 #[.agg #[.pointer (some ⟨b,0,none⟩),.int .i64 F,.int .i64 S],.int .i64 A] w fun e w'=>e=.returned (.tuple #[.string ⟨(Es (Ac (((st.now.drop F).take S).drop A))).toArray⟩,.int .i64 0])∧Below w.heap.size w w':=by
 obtain⟨W0,hW0⟩:∃W0,w.alloc (.cells #[.pointer (some ⟨b,0,none⟩),.int .i64 F,.int .i64 S] 218)=W0:=⟨_,rfl⟩;have HB0:Hid (Below w.heap.size w W0):=Aa (by rw[←hW0];exact(Ad _ _).alloc (Ae _) _);have Uf:Hid (W0.heap.size=w.heap.size+1):=Aa (by rw[←hW0];simp);have M6:Hid (W0.heap[w.heap.size]?=some (.cells #[.pointer (some ⟨b,0,none⟩),.int .i64 F,.int .i64 S] 218 (0,0))):=Aa (by rw[←hW0];exact Ai _ _);have JK:Hid (Below W0.heap.size W0 W0∧W0.cell? ⟨w.heap.size,0,none⟩=some (.pointer (some ⟨b,0,none⟩))∧W0.cell? ⟨w.heap.size,1,none⟩=some (.int .i64 F)∧W0.cell? ⟨w.heap.size,2,none⟩=some (.int .i64 S)):=Aa ⟨Ad _ _,by rw[AB _ _ _ _ _ _ M6.out];rfl,by rw[AB _ _ _ _ _ _ M6.out];rfl,by rw[AB _ _ _ _ _ _ M6.out];rfl⟩;have NI:w.heap.size<W0.heap.size:=by rw[Uf.out];omega
 have FJ:Hid (∀W,Below W0.heap.size W0 W→Below w.heap.size w W):=Aa (fun W hW=>HB0.out.trans (hW.mono (by rw[Uf.out];omega)));have hf:=hg.few;have cH:=fun(c:Int) W=>oH (some ⟨b,0,none⟩) F S A c W (by omega)
 by_cases hAS:A<S
 · have hlen:((st.now.drop F).take S).length=S:=by rw[BV,D8];omega
   obtain⟨L,hL⟩:∃L,((st.now.drop F).take S).drop A=L:=⟨_,rfl⟩;rw[hL];have hLl:L.length=S-A:=by rw[←hL,D8,hlen]
   have hLt:∀k,k≤S-A→(st.now.drop (F+A)).take k=L.take k:=fun k hk=>by
    rw[←hL,List.drop_take,List.drop_drop,List.take_take,Nat.min_eq_left hk]
   have hLs:∀x∈L,x.size=64:=fun x hx=>hg.cu x (by rw[←hL]at hx;exact List.mem_of_mem_drop (List.mem_of_mem_take (List.mem_of_mem_drop hx)))
   obtain⟨x,hx⟩:∃x,L[0]?=some x:=⟨_,Ci (by omega)⟩;have hxs:=hLs x (Dr hx);have hgx:st.now.getD (F+A) ⟨#[]⟩=x:=by
    have h1:=hLt 1 (by omega);have h2:(L.take 1)[0]?=some x:=by rw[Jh,if_pos (by omega)];exact hx
    rw[←h1,Jh,if_pos (by omega),IM,Nat.add_zero]at h2;rw[FK,h2];rfl
   have cG:Hid (∀W,Below w.heap.size w W→Calls Tryz.prog 162 #[.agg #[.pointer (some ⟨b,0,none⟩),.int .i64 F,.int .i64 S],.int .i64 A] W fun e w'=>e=.returned (.tuple #[.string x,.int .i64 0])∧Below W.heap.size W w'):=Aa (fun W hW=>by
    have h1:=Xf B b st F S A ((F+A:Nat):Int) W (h.below hW) hg (by omega) (by omega);rw[EU hgo (by omega),if_pos rfl,DW,hgx]at h1;exact h1)
   obtain⟨n,hn⟩:∃n,Gf x.data.toList=n:=⟨_,rfl⟩;have hn2:Gf ((Ac L).headD [])=n:=by
    cases L with
    | nil=>cases hx
    | cons y l=>injection hx with hx;subst hx;exact hn
   have hn6:n<65536:=by
    rw[←hn];unfold Gf;have h1:=UInt8.toNat_lt (x.data.toList.getD 0 0);have h2:=UInt8.toNat_lt (x.data.toList.getD 1 0);omega
   obtain⟨k,hk⟩:∃k,(n+61)/62=k:=⟨_,rfl⟩;have cL:=fun W=>yu x W hxs
   rw[hn]at cL;have cF:=fun W=>KF n W (by omega)
   rw[GH,hk]at cF;have cA:Hid (k≤S-A→∀W,Below w.heap.size w W→Calls Tryz.prog 182 #[.agg #[.pointer (some ⟨b,0,none⟩),.int .i64 F,.int .i64 S],.int .i64 A,.int .i64 k] W fun e w'=>∃v,e=.returned (.tuple #[v,.int .i64 0])∧DL w' v (L.take k)∧Below W.heap.size W w'):=Aa (fun rR W hW=>by
    have h1:=oO B b st F A k S W (h.below hW) hg hgo (by omega);rw[hLt k rR]at h1;exact h1)
   have wC:=Aa (N7 hLs);have su:=Aa hLs;have Ux:Hid ((Ac L).length=S-A):=Aa (by unfold Ac;rw[Em];exact hLl);have qZ:Hid (n=0∨60000<n∨S-A<k→Es (Ac L)=[]):=Aa (fun hh=>gW wC.out hn2 hk (by rw[Ux.out];exact hh));have zM:Hid (∀r,n≤60000→k≤S-A→(BZ ((Ac L).take k)).take n=r→r.length=n∧Es (Ac L)=if(Ac L).take k=Co r then r else []):=Aa (fun r h6 rR hr=>ZO wC.out hn2 hk h6 (by rw[Ux.out];exact rR) hr);have hAz:(1:Int)≤(S:Int)-(A:Int):=by omega
   have jL:=cH 1;rw[AX hAz]at jL;have HCH:=Aa cH;have hk4:k≤1060:=by omega
   clear h hg hgo hS hL hLl hLt hLs hx hxs hgx hn hn2 hlen cH;obtain⟨_,k0,k1,k2⟩:=JK.out;have hAi:(0:Int)≤0:=by omega
   by_cases hn0:n=0
   · have HR:Hid (Es (Ac L)=[]):=Aa (qZ.out (Or.inl hn0));subst hn0;clear cF HCH;go_enter Tryz.func161,Tryz.ntmps161;go_wp2_with fail;refine(jL _).mono ?_;rintro e w1 ⟨rfl,hb1⟩;have hS1:=Ck NI JK.out hb1;have Uw:=Aa hS1;obtain⟨_,j0,j1,j2⟩:=hS1;clear k0 k1 k2 hb1 jL;go_wp2_with fail;refine(cG.out _ (FJ.out _ Uw.out.1)).mono ?_;rintro e w2 ⟨rfl,hb2⟩;have HS2:=Aa (Ck NI Uw.out hb2);clear j0 j1 j2 hb2;go_wp2_with fail;refine(cL _).mono ?_;rintro e w3 ⟨rfl,hb3⟩;have xu:=Aa (Ck NI HS2.out hb3);clear hb3 cL;go_wp2;go_quiet (fail);have Pv:Hid (Below w.heap.size w (w3.drewN nq)):=Aa (Below.Vw (FJ.out _ xu.out.1) nq);go_wp2;go_ret2;exact⟨by rw[HR.out];rfl,Pv.out⟩
   · by_cases AbD:60000<n
     · have HR:Hid (Es (Ac L)=[]):=Aa (qZ.out (Or.inr (Or.inl AbD)));have hz1:((n:Int)==0)=false:=by rw[A8];omega
       have hz2:(60000:Int)<(n:Int):=by omega
       clear cF HCH;go_enter Tryz.func161,Tryz.ntmps161;go_wp2_with fail;refine(jL _).mono ?_;rintro e w1 ⟨rfl,hb1⟩;have hS1:=Ck NI JK.out hb1;have Uw:=Aa hS1;obtain⟨_,j0,j1,j2⟩:=hS1;clear k0 k1 k2 hb1 jL;go_wp2_with fail;refine(cG.out _ (FJ.out _ Uw.out.1)).mono ?_;rintro e w2 ⟨rfl,hb2⟩;have HS2:=Aa (Ck NI Uw.out hb2);clear j0 j1 j2 hb2;go_wp2_with fail;refine(cL _).mono ?_;rintro e w3 ⟨rfl,hb3⟩;have xu:=Aa (Ck NI HS2.out hb3);clear hb3 cL;go_wp2;go_quiet (fail);have Pv:Hid (Below w.heap.size w (w3.drewN nq)):=Aa (Below.Vw (FJ.out _ xu.out.1) nq);go_wp2;go_ret2;exact⟨by rw[HR.out];rfl,Pv.out⟩
     · have hz1:((n:Int)==0)=false:=by rw[A8];omega
       have hz2:¬((60000:Int)<(n:Int)):=by omega
       have hz3:decide ((60000:Int)<(n:Int))=false:=A7 hz2;have cHk:=HCH.out k;by_cases rR:S-A<k
       · have HR:Hid (Es (Ac L)=[]):=Aa (qZ.out (Or.inr (Or.inr rR)));have hkz:¬((k:Int)≤(S:Int)-(A:Int)):=by omega
         rw[A7 hkz]at cHk;clear HCH;go_enter Tryz.func161,Tryz.ntmps161;go_wp2_with fail;refine(jL _).mono ?_;rintro e w1 ⟨rfl,hb1⟩;have hS1:=Ck NI JK.out hb1;have Uw:=Aa hS1;obtain⟨_,j0,j1,j2⟩:=hS1;clear k0 k1 k2 hb1 jL;go_wp2_with fail;refine(cG.out _ (FJ.out _ Uw.out.1)).mono ?_;rintro e w2 ⟨rfl,hb2⟩;have HS2:=Aa (Ck NI Uw.out hb2);clear j0 j1 j2 hb2;go_wp2_with fail;refine(cL _).mono ?_;rintro e w3 ⟨rfl,hb3⟩;have oM:=Ck NI HS2.out hb3;have j0:=oM.2.1;have j1:=oM.2.2.1;have j2:=oM.2.2.2;clear hb3 cL;go_wp2;go_region_held3 (fun W=>Below W0.heap.size W0 W∧W.cell? ⟨w.heap.size,0,none⟩=some (.pointer (some ⟨b,0,none⟩))∧W.cell? ⟨w.heap.size,1,none⟩=some (.int .i64 F)∧W.cell? ⟨w.heap.size,2,none⟩=some (.int .i64 S)) (first|assumption|exact JB ‹_›|exact Ck NI ‹_› ‹_›) (first|(go_at_call 133;refine(cF _).mono ?_;rintro e w' ⟨rfl,rfl⟩)|(go_at_call 132;refine(cHk _).mono ?_;rintro e w' ⟨rfl,hb⟩));rename_i hHeld;have Pv:Hid (Below w.heap.size w _):=Aa (FJ.out _ hHeld.1);clear oM j0 j1 j2 hb hHeld;go_wp2;go_ret2;exact⟨by rw[HR.out];rfl,Pv.out⟩
       · have hkz:(k:Int)≤(S:Int)-(A:Int):=by omega
         rw[AX hkz]at cHk;have hkn:k≤S-A:=by omega
         have HAk:Hid (∀W,(Below W0.heap.size W0 W∧W.cell? ⟨w.heap.size,0,none⟩=some (.pointer (some ⟨b,0,none⟩))∧W.cell? ⟨w.heap.size,1,none⟩=some (.int .i64 F)∧W.cell? ⟨w.heap.size,2,none⟩=some (.int .i64 S))→Calls Tryz.prog 182 #[.agg #[.pointer (some ⟨b,0,none⟩),.int .i64 F,.int .i64 S],.int .i64 A,.int .i64 k] W fun e w'=>∃v,e=.returned (.tuple #[v,.int .i64 0])∧DL w' v (L.take k)∧Below W.heap.size W w'):=Aa (fun W hW=>cA.out hkn W (FJ.out _ hW.1));obtain⟨M,hM⟩:∃M,L.take k=M:=⟨_,rfl⟩;rw[hM]at HAk;have hMs:∀y∈M,y.size=64:=fun y hy=>su.out y (by rw[←hM]at hy;exact List.mem_of_mem_take hy)
         have hLk:L.length=S-A:=by have:=Ux.out;unfold Ac at this;rwa[Em]at this
         have hMl:M.length=k:=by rw[←hM,BV,hLk];omega
         have hMb:(Ac L).take k=Ac M:=by rw[←hM,JX]
         obtain⟨G,hG⟩:∃G:ByteArray,G=⟨(BZ (Ac M)).toArray⟩:=⟨_,rfl⟩;obtain⟨q,hq⟩:∃q,G.size=q:=⟨_,rfl⟩;have hqk:q=62*k:=by
          rw[←hq,hG];show(BZ (Ac M)).toArray.size=_
          rw[FN,FY (N7 hMs)];unfold Ac;rw[Em,hMl]
         obtain⟨R,hR⟩:∃R:ByteArray,G.extract 0 n=R:=⟨_,rfl⟩;have hRr:R.data.toList=(BZ (Ac M)).take n:=by
          rw[←hR,ByteArray.data_extract,Array.toList_extract,hG];show(((BZ (Ac M)).toArray.toList).drop 0).take (n-0)=_
          rw[List.drop_zero,Nat.sub_zero]
         obtain⟨r,hr⟩:∃r,(BZ (Ac M)).take n=r:=⟨_,rfl⟩;rw[hr]at hRr;obtain⟨hrl,hone⟩:=zM.out r (by omega) hkn (by rw[hMb];exact hr);rw[hMb]at hone;have hRs:R.size=n:=by rw[←hrl,←hRr,BP];rfl
         have hRe:R=⟨r.toArray⟩:=by
          cases R
          congr 1;exact Array.ext' (by rw[hRr])
         have cJ:Hid (∀v W,DL W v M→Calls Tryz.prog 183 #[v] W fun e w'=>e=.returned (.string G)∧Below W.heap.size W w'):=Aa (fun v W hv=>by
          rw[hG];exact nV v M W hv hMs (by rw[hMl];omega))
         have cR:Hid (∀W,Calls Tryz.prog 134 #[.string R] W fun e w'=>∃v,e=.returned v∧DL w' v ((Co r).map fun f=>(⟨f.toArray⟩:ByteArray))∧Below W.heap.size W w'):=Aa (fun W=>by
          refine(YF R W (by omega)).mono ?_;rintro e w' ⟨v,rfl,hown,hb⟩;rw[hRr]at hown;exact⟨v,rfl,Oq hown,hb⟩)
         have cE:Hid (∀(u v:Value) W (t:Bool),DL W u M→DL W v ((Co r).map fun f=>(⟨f.toArray⟩:ByteArray))→(t=true↔Ac M=Co r)→Calls Tryz.prog 184 #[u,v] W fun e w'=>e=.returned (.bool t)∧Below W.heap.size W w'):=Aa (fun u v W t hu hv ht=>by
          refine vG u v M _ W hu hv (by omega) (by rw[Em,DK,hrl];omega) t (ht.trans ⟨fun e=>?_,fun e=>?_⟩)
          · exact aQ (by rw[e,M0])
          · rw[e,M0])
         have HGX:Hid (G.extract 0 n=R):=Aa hR;have hn0z:(0:Int)≤(n:Int):=by omega
         have hnq:(n:Int)≤(q:Int):=by omega
         have HRE:=Aa hRe;have Abf:=Aa hone;clear HCH cA hM hMs hLk hMl hMb hG hqk hR hRr hr hrl hone hRs hRe;go_enter Tryz.func161,Tryz.ntmps161;go_wp2_with fail;refine(jL _).mono ?_;rintro e w1 ⟨rfl,hb1⟩;have hS1:=Ck NI JK.out hb1;have Uw:=Aa hS1;obtain⟨_,j0,j1,j2⟩:=hS1;clear k0 k1 k2 hb1 jL;go_wp2_with fail;refine(cG.out _ (FJ.out _ Uw.out.1)).mono ?_;rintro e w2 ⟨rfl,hb2⟩;have HS2:=Aa (Ck NI Uw.out hb2);clear j0 j1 j2 hb2;go_wp2_with fail;refine(cL _).mono ?_;rintro e w3 ⟨rfl,hb3⟩;have oM:=Ck NI HS2.out hb3;have j0:=oM.2.1;have j1:=oM.2.2.1;have j2:=oM.2.2.2;clear hb3 cL;go_wp2;go_region_held3 (fun W=>Below W0.heap.size W0 W∧W.cell? ⟨w.heap.size,0,none⟩=some (.pointer (some ⟨b,0,none⟩))∧W.cell? ⟨w.heap.size,1,none⟩=some (.int .i64 F)∧W.cell? ⟨w.heap.size,2,none⟩=some (.int .i64 S)) (first|assumption|exact JB ‹_›|exact Ck NI ‹_› ‹_›) (first|(go_at_call 133;refine(cF _).mono ?_;rintro e w' ⟨rfl,rfl⟩)|(go_at_call 132;refine(cHk _).mono ?_;rintro e w' ⟨rfl,hb⟩));rename_i hHeld;have rT:=hHeld;have j0:=rT.2.1;have j1:=rT.2.2.1;have j2:=rT.2.2.2;clear oM hb hHeld;go_wp2;go_region_held3 (fun W=>Below W0.heap.size W0 W∧W.cell? ⟨w.heap.size,0,none⟩=some (.pointer (some ⟨b,0,none⟩))∧W.cell? ⟨w.heap.size,1,none⟩=some (.int .i64 F)∧W.cell? ⟨w.heap.size,2,none⟩=some (.int .i64 S)) (first|assumption|exact JB ‹_›|exact Ck NI ‹_› ‹_›) (first|(go_at_call 133;refine(cF _).mono ?_;rintro e w' ⟨rfl,rfl⟩)|(go_at_call 182;refine(HAk.out _ ?_).mono ?_;(first|assumption|exact JB ‹_›);rintro e w' ⟨v,rfl,hv,hb⟩));rename_i hHeld;have Pv:Hid (Below w.heap.size w _):=Aa (FJ.out _ hHeld.1);have HV9:=Aa hv;clear rT j0 j1 j2 hb hHeld hv;go_wp2_with fail;refine(cJ.out _ _ HV9.out).mono ?_;rintro e w5 ⟨rfl,hb5⟩;have JG:Hid (Below w.heap.size w w5):=Aa (Pv.out.trans (hb5.mono Pv.out.size));have HV5:=Aa (HV9.out.kept hb5);clear hb5;go_wp2_with fail;rw[HGX.out];refine(cR.out _).mono ?_;rintro e w6 ⟨v2,rfl,hv2,hb6⟩;have VO:Hid (Below w.heap.size w w6):=Aa (JG.out.trans (hb6.mono JG.out.size));have fe:=Aa (HV5.out.kept hb6);have Q4:=Aa hv2;clear hb6 hv2;by_cases hE:Ac M=Co r
         · have Xw:Hid ((⟨(Es (Ac L)).toArray⟩:ByteArray)=R):=Aa (by rw[Abf.out,if_pos hE,HRE.out]);have HEE:=Aa hE;clear hE;go_wp2_with fail;refine(cE.out _ _ _ true fe.out Q4.out ⟨fun _=>HEE.out,fun _=>rfl⟩).mono ?_;rintro e w7 ⟨rfl,IG⟩;have kH:Hid (Below w.heap.size w w7):=Aa (VO.out.trans (IG.mono VO.out.size));clear IG;go_wp2;go_ret2;exact⟨by rw[Xw.out];rfl,kH.out⟩
         · have Xw:Hid ((Es (Ac L))=[]):=Aa (by rw[Abf.out,if_neg hE]);have HEE:=Aa hE;clear hE;go_wp2_with fail;refine(cE.out _ _ _ false fe.out Q4.out ⟨(fun e=>by cases e),fun e=>absurd e HEE.out⟩).mono ?_;rintro e w7 ⟨rfl,IG⟩;have kH:Hid (Below w.heap.size w w7):=Aa (VO.out.trans (IG.mono VO.out.size));clear IG;go_wp2;go_ret2;exact⟨by rw[Xw.out];rfl,kH.out⟩
 · have hAz:¬((1:Int)≤(S:Int)-(A:Int)):=by omega
   have jL:=cH 1;rw[A7 hAz]at jL;have HR:Hid (Es (Ac (((st.now.drop F).take S).drop A))=[]):=Aa (by
    rw[List.drop_eq_nil_of_le (by rw[BV,D8];omega)];exact X4)
   obtain⟨_,k0,k1,k2⟩:=JK.out;clear h hg hgo hS cH;go_enter Tryz.func161,Tryz.ntmps161;go_wp2_with fail;refine(jL _).mono ?_;rintro e w1 ⟨rfl,hb1⟩;have HB1:Hid (Below w.heap.size w w1):=Aa (FJ.out _ (Ck NI JK.out hb1).1);clear hb1 jL;go_wp2;go_ret2;exact⟨by rw[HR.out];rfl,HB1.out⟩
def G7 (st:St)(F S:Nat):List ByteArray:=(st.now.drop F).take S
theorem Pg {st:St}{F S:Nat}(h:F+S≤st.now.length):(G7 st F S).length=S:=by
 unfold G7;rw[BV,D8];omega
theorem mO {B B':Nat}{w:World}{T:TypeId}{n s:Nat}{v:Value}{xs:List Value}(h:w.ownsRow B T s v n xs)(hB:B'≤B):w.ownsRow B' T s v n xs:=by
 refine⟨h.1,?_⟩;rcases h.2 with hn|⟨g,cap,cur,hv,hg,r⟩
 · exact Or.inl hn
 · exact Or.inr ⟨g,cap,cur,hv,Al hB hg,r⟩
set_option maxHeartbeats 8000000 in
theorem tN (B b:Nat)(st:St)(F S:Nat)(w:World)(h:Dev B w b st)(hg:Good st)(hgo:BJ st=false)(ho:Dt st F S=0)(hS:F+S≤st.now.length) :
 Calls Tryz.prog 129 #[.pointer (some ⟨b,0,none⟩),.int .i64 F,.int .i64 S] w fun e w'=>∃u,e=.returned (.tuple #[u,.int .i64 ((1+(Ce (DY ((Ac (G7 st F S)).drop 1))).length:Nat):Int),.int .i64 0])∧w'.ownsRow w.heap.size 9 1 u (DY ((Ac (G7 st F S)).drop 1)).length (Ut (DY ((Ac (G7 st F S)).drop 1)))∧Below w.heap.size w w':=by
 obtain⟨i0,hi0,hz0,hz1,hz2⟩:=info_parts Tryz.Ml;have hf:=hg.few;have rT:S≤4096:=by omega
 obtain⟨l,hl⟩:∃l,G7 st F S=l:=⟨_,rfl⟩;have hll:l.length=S:=by rw[←hl];exact Pg hS
 rw[hl];obtain⟨L,hL0⟩:∃L,DY ((Ac l).drop 1)=L:=⟨_,rfl⟩;rw[hL0];obtain⟨T,hT0⟩:∃T,1+(Ce L).length=T:=⟨_,rfl⟩;rw[hT0];have cO:=Rc B b st F S w h hg ho;have cR:Hid (∀(p:Nat) W,p≤100000→Below w.heap.size w W→Calls Tryz.prog 161 #[.agg #[.pointer (some ⟨b,0,none⟩),.int .i64 F,.int .i64 S],.int .i64 p] W fun e w'=>e=.returned (.tuple #[.string ⟨(Es ((Ac l).drop p)).toArray⟩,.int .i64 0])∧Below W.heap.size W w'):=Aa (fun p W hp hW=>by
  have h1:=mi B b st F S p W (h.below hW) hg hgo hS hp;rw[show((st.now.drop F).take S)=l from hl,QK]at h1;exact h1)
 have HT0:=Aa hT0;have Ux:=Aa hll;clear hT0 h hg hgo ho hS hl hll;go_enter Tryz.func129,Tryz.ntmps129;go_wp2_with fail;refine cO.mono ?_;rintro e w1 ⟨rfl,hb1⟩;have HB1:=Aa hb1;clear hb1 cO;go_wp2;obtain⟨W0,hW0⟩:∃W0,w1.alloc (.cells #[.pointer (some ⟨b,0,none⟩),.int .i64 F,.int .i64 S] 218)=W0:=⟨_,rfl⟩;have HB0:Hid (Below w.heap.size w W0):=Aa (by rw[←hW0];exact HB1.out.alloc HB1.out.size _);have Uf:Hid (W0.heap.size=w1.heap.size+1):=Aa (by rw[←hW0];simp);have M6:Hid (W0.heap[w1.heap.size]?=some (.cells #[.pointer (some ⟨b,0,none⟩),.int .i64 F,.int .i64 S] 218 (0,0))):=Aa (by rw[←hW0];exact Ai _ _);have JK:Hid (Below W0.heap.size W0 W0∧W0.cell? ⟨w1.heap.size,0,none⟩=some (.pointer (some ⟨b,0,none⟩))∧W0.cell? ⟨w1.heap.size,1,none⟩=some (.int .i64 F)∧W0.cell? ⟨w1.heap.size,2,none⟩=some (.int .i64 S)):=Aa ⟨Ad _ _,by rw[AB _ _ _ _ _ _ M6.out];rfl,by rw[AB _ _ _ _ _ _ M6.out];rfl,by rw[AB _ _ _ _ _ _ M6.out];rfl⟩;have NI:w1.heap.size<W0.heap.size:=by rw[Uf.out];omega
 have FJ:Hid (∀W,Below W0.heap.size W0 W→Below w.heap.size w W):=Aa (fun W hW=>HB0.out.trans (hW.mono HB0.out.size));rw[hW0];clear hW0;generalize w1.heap.size=g at *;go_loopw [12,11] (fun av ov wr=>∃(p:Nat) (out:List (List UInt8)),av=.int .i64 p∧p≤S+1∧out.length<p∧p=1+(Ce out).length∧out++DY ((Ac l).drop p)=L∧(∃o,o=ov∧wr.ownsRow W0.heap.size 9 1 o out.length (Ut out))∧Below W0.heap.size W0 wr) (fun av _ _=>S+1-(intOf av).toNat)
 case atStart=>exact⟨1,[],rfl,by omega,by simp,rfl,hL0,⟨_,rfl,rfl,Or.inl ⟨rfl,rfl⟩⟩,Ad _ _⟩
 case round =>
  obtain⟨p,out,rfl,hp,hop,hpl,hs,⟨ov,rfl,hown⟩,hb⟩:=hrel;have LF:=Aa hs;have HP:=Aa hpl;have HO:=Aa hown;have HB:=Aa hb;obtain⟨_,k0,k1,k2⟩:=Ck NI JK.out hb;clear hs hown hb hpl;go_wp2_with fail;refine(cR.out p _ (by omega) (FJ.out _ HB.out)).mono ?_;rintro e w2 ⟨rfl,hb2⟩;have hown1:=HO.out.kept (LA hb2 none) (by cases h:ov.ownBlock with|none=>exact Or.inl rfl|some x=>exact Or.inr (by simp));have Zf:=Aa hown1;have HB2:Hid (Below W0.heap.size W0 w2):=Aa (HB.out.trans (hb2.mono HB.out.size));clear hown1 hb2 k0 k1 k2;obtain⟨R,hR⟩:∃R,Es ((Ac l).drop p)=R:=⟨_,rfl⟩;rw[hR];have zQ:=Aa hR;clear hR;by_cases hR:R=[]
  · subst hR;have HE:Hid (L=out):=Aa (by rw[←LF.out,Gw (Or.inr zQ.out),Ct]);have HTp:Hid (p=T):=Aa (by rw[←HT0.out,HE.out];exact HP.out);have HOW:Hid (w2.ownsRow w.heap.size 9 1 ov out.length (Ut out)):=Aa (mO Zf.out HB0.out.size);have GD:=Aa (FJ.out _ HB2.out);go_wp2;go_ret3;exact⟨_,by rw[←HTp.out];rfl,by rw[HE.out];exact HOW.out,GD.out⟩
  · have HRN:=Aa hR;have hlen:(Ac l).length=S:=by unfold Ac;rw[Em,Ux.out]
    have hone:Es ((Ac l).drop p)≠[]:=by rw[zQ.out];exact hR
    have dY:p<S:=by
     rcases Nat.lt_or_ge p S with h9|h9
     · exact h9
     · exact absurd (by rw[List.drop_eq_nil_of_le (by omega)];exact X4) hone
    have hdl:((Ac l).drop p).length=S-p:=by rw[D8,hlen]
    obtain⟨q,hq⟩:∃q,(Co R).length=q:=⟨_,rfl⟩;have hqn:q≤S-p:=by rw[←hq,←hdl,←zQ.out];exact uj hone
    have hq1:1≤q:=by rw[←hq,Dm hR,GM];omega
    have hRs:R.length≤60000:=(Ko zQ.out hR).1;have HNX:Hid ((out++[R])++DY ((Ac l).drop (p+q))=L):=Aa (by
     rw[←LF.out,NA hone (fun e=>by rw[e]at hdl;simp at hdl;omega),zQ.out,hq,List.drop_drop,Cc];rfl)
    have HPQ:Hid (p+q=1+(Ce (out++[R])).length):=Aa (by
     unfold Ce;rw[FL,Bg];have h1:=HP.out;unfold Ce at h1;simp only[List.flatMap_cons,List.flatMap_nil,List.append_nil];rw[hq];omega)
    have hne:R.isEmpty=false:=by
     cases R with
     | nil=>exact absurd rfl hR
     | cons a b=>rfl
    have hcl:=DK R;rw[hq]at hcl;obtain⟨m,hm⟩:∃m,R.length=m:=⟨_,rfl⟩;rw[hm]at hcl hRs;have hsz:(⟨R.toArray⟩:ByteArray).size=m:=by show R.toArray.size=m;rw[FN];exact hm
    have cF:=fun W=>KF (m:Int) W (by omega)
    rw[GH,←hcl]at cF;have VP:Hid ((w2.alloc (.cells #[.string ⟨R.toArray⟩] 9)).ownsRow W0.heap.size 9 1 ov out.length (Ut out)):=Aa (Zf.out.alloc _);have hpq:IntKind.i64.wrap ((p:Int)+(q:Int))=(p:Int)+(q:Int):=by rw[El];omega
    clear hdl hone hq hcl;go_wp2_with (at_builtin;refine wpList_append_own _ rfl _ _ 59 rfl W0.heap.size 9 i0 (.string ⟨#[]⟩) 1 16 Tryz.underlying59 hi0 hz0 hz1 hz2 rfl (by decide) _ _ _ rfl VP.out ⟨w2.heap.size,0,none⟩ 1 1 [.string ⟨R.toArray⟩] rfl rfl ?c1 ?c2 ?c3 ?c4 ?c5 ?_)
    case c1 =>
     intro j u hj
     match j,hj with
     | 0,hj=>simp at hj;subst hj;simp[Addr.add]
    case c2=>intro u hu;simp at hu;subst hu;rfl
    case c3=>unfold maxLen;omega
    case c4=>omega
    case c5=>have h1:=HB2.out.size;simp;omega
    intro v' w3 hown' hgrow _;have I6:=Aa hown';have HB3:Hid (Below W0.heap.size W0 w3):=Aa ((HB2.out.alloc HB2.out.size _).grown hgrow (by have:=HB2.out.size;simp;omega) (fun j hj=>(Zf.out.lt j hj).1));clear hown' hgrow;go_wp2_with fail;refine(cF _).mono ?_;rintro e w4 ⟨rfl,rfl⟩;go_wp2;go_roundw
    case rel=>exact⟨p+q,out++[R],by go_num,by omega,by simp;omega,HPQ.out,HNX.out,⟨_,rfl,by simpa[Ut]using I6.out⟩,HB3.out⟩
    case measure=>simp[intOf];omega
def Bh:St→Nat→List ByteArray→St
 | st,_,[]=>st
 | st,i,f::fs=>Bh (BU st i f) (i+1) fs
theorem Qt:∀(fs:List ByteArray) (st:St) (i:Nat) (f:ByteArray),Bh st i (fs++[f])=BU (Bh st i fs) (i+fs.length) f
 | [],st,i,f=>rfl
 | g::fs,st,i,f=>by
  show Bh (BU st i g) (i+1) (fs++[f])=BU (Bh (BU st i g) (i+1) fs) _ f
  rw[Qt fs,GM,show i+(fs.length+1)=i+1+fs.length by omega]
theorem Cb {st:St}(h:st.lim=false):BJ st=false:=by
 unfold BJ;rw[h];rfl
theorem UY:∀(fs:List ByteArray) (st:St) (i:Nat),Good st→st.lim=false→i+fs.length≤st.now.length→(∀f∈fs,f.size=64) →
 Good (Bh st i fs)∧(Bh st i fs).lim=false∧(Bh st i fs).now.length=st.now.length∧(Bh st i fs).pend.length=st.pend.length+fs.length∧(Bh st i fs).safe=st.safe
 | [],st,i,hg,hl,_,_=>⟨hg,hl,rfl,rfl,rfl⟩
 | f::fs,st,i,hg,hl,hi,hs=>by
  simp only[List.length_cons]at hi;have ha:=EU (Cb hl) (show i<st.now.length by omega);have h1:=UY fs (BU st i f) (i+1) (Ip hg ha (hs f (by simp))) hl (by simp[BU];omega) (fun g hg=>hs g (by simp[hg]));obtain⟨a,b,c,d,e⟩:=h1;refine⟨a,b,?_,?_,e⟩
  · show(Bh (BU st i f) (i+1) fs).now.length=_
    rw[c];simp[BU]
  · show(Bh (BU st i f) (i+1) fs).pend.length=_
    rw[d];simp[BU];omega
theorem Kl:∀(fs:List ByteArray) (st:St) (i:Nat),i+fs.length≤st.now.length→(Bh st i fs).now=st.now.take i++fs++st.now.drop (i+fs.length)
 | [],st,i,_=>by simp[Bh]
 | f::fs,st,i,hi=>by
  simp only[List.length_cons]at hi;show(Bh (BU st i f) (i+1) fs).now=_
  rw[Kl fs (BU st i f) (i+1) (by simp[BU];omega)];show(st.now.set i f).take (i+1)++fs++(st.now.set i f).drop (i+1+fs.length)=_
  rw[List.drop_set_of_lt (by omega),List.set_eq_take_append_cons_drop,if_pos (by omega)];have hl:(st.now.take i).length=i:=by rw[BV];omega
  rw[List.take_append,hl,CO (by omega),show i+1-i=1 by omega];simp[show i+1+fs.length=i+(fs.length+1) by omega]
theorem UX:∀(fs:List ByteArray) (st:St) (i:Nat),(Bh st i fs).pend=st.pend++(List.range' i fs.length).zip fs
 | [],st,i=>by simp[Bh]
 | f::fs,st,i=>by
  show(Bh (BU st i f) (i+1) fs).pend=_
  rw[UX fs];simp[BU,List.range'_succ]
set_option maxHeartbeats 2000000 in
theorem kM (B b:Nat)(st:St)(fr sz at_ q:Int)(s:ByteArray)(w:World)(h:Dev B w b st)(hg:Good st)(ho:Dt st fr sz=q)(hne:q≠0) :
 Calls Tryz.prog 95 #[.pointer (some ⟨b,0,none⟩),.int .i64 fr,.int .i64 sz,.int .i64 at_,.string s] w fun e w'=>e=.returned (.tuple #[.int .i64 0,.int .i64 q])∧Below w.heap.size w w':=by
 have cO:=dD B b st fr sz q w h hg ho hne;have hne2:(q==0)=false:=by simpa using hne
 clear h hg ho hne;go_enter Tryz.func95,Tryz.ntmps95;go_wp2_with fail;refine cO.mono ?_;rintro e w1 ⟨rfl,hb1⟩;have HB1:Hid (Below w.heap.size w (w1.alloc (.cells #[.pointer none,.int .i64 0,.int .i64 0] 218))):=Aa (hb1.alloc hb1.size _);clear hb1 cO;go_wp2;go_ret2;exact⟨rfl,HB1.out⟩
def VT (S:Nat)(at_:Int)(n:Nat):Int:=if at_<1 then 1 else if n<1∨60000<n then 4 else if(S:Int)-at_<((n+61)/62:Nat) then 11 else 0
set_option maxHeartbeats 4000000 in
theorem fD (B b:Nat)(st:St)(F S:Nat)(at_ q:Int)(s:ByteArray)(w:World)(h:Dev B w b st)(hg:Good st)(ho:Dt st F S=0)(hS:F+S≤st.now.length)(hat:-9223372036854775808≤at_∧at_≤9223372036854775807)(hs:s.size≤9223372036854775807)(hq:VT S at_ s.size=q)(hne:q≠0) :
 Calls Tryz.prog 95 #[.pointer (some ⟨b,0,none⟩),.int .i64 F,.int .i64 S,.int .i64 at_,.string s] w fun e w'=>e=.returned (.tuple #[.int .i64 0,.int .i64 q])∧Below w.heap.size w w':=by
 have cO:=Rc B b st F S w h hg ho;have hf:=hg.few;have rT:S≤4096:=by omega
 obtain⟨n,hn⟩:∃n,s.size=n:=⟨_,rfl⟩;rw[hn]at hs hq;have HN:=Aa hn;unfold VT at hq;clear h hg ho hS hf;have HB1:Hid (∀w1,Below w.heap.size w w1→Below w.heap.size w (w1.alloc (.cells #[.pointer (some ⟨b,0,none⟩),.int .i64 F,.int .i64 S] 218))):=Aa (fun w1 hb1=>hb1.alloc hb1.size _);by_cases h1:at_<1
 · rw[if_pos h1]at hq;subst hq;go_enter Tryz.func95,Tryz.ntmps95;go_wp2_with fail;refine cO.mono ?_;rintro e w1 ⟨rfl,hb1⟩;have HB2:=Aa (HB1.out w1 hb1);clear hb1 cO;go_wp2;go_ret2;exact⟨rfl,HB2.out⟩
 · rw[if_neg h1]at hq;by_cases h2:n<1
   · rw[if_pos (Or.inl h2)]at hq;subst hq;have h2z:(n:Int)<1:=by omega
     have h0:n=0:=by omega
     subst h0;go_enter Tryz.func95,Tryz.ntmps95;go_wp2_with fail;refine cO.mono ?_;rintro e w1 ⟨rfl,hb1⟩;have HB2:=Aa (HB1.out w1 hb1);clear hb1 cO;go_wp2;go_ret2;exact⟨rfl,HB2.out⟩
   · have h2z:¬((n:Int)<1):=by omega
     have hd2:decide ((n:Int)<1)=false:=A7 h2z;by_cases h3:60000<n
     · rw[if_pos (Or.inr h3)]at hq;subst hq;have h3z:(60000:Int)<(n:Int):=by omega
       go_enter Tryz.func95,Tryz.ntmps95;go_wp2_with fail;refine cO.mono ?_;rintro e w1 ⟨rfl,hb1⟩;have HB2:=Aa (HB1.out w1 hb1);clear hb1 cO;go_wp2;go_ret2;exact⟨rfl,HB2.out⟩
     · rw[if_neg (by omega)]at hq;have h3z:¬((60000:Int)<(n:Int)):=by omega
       have hd3:decide ((60000:Int)<(n:Int))=false:=A7 h3z;split at hq
       case isFalse=>exact absurd hq.symm hne
       rename_i h4;subst hq;have cF:=fun W=>KF (n:Int) W (by omega)
       rw[GH]at cF;generalize (n+61)/62=k at *;have cH:=fun W=>oH (some ⟨b,0,none⟩) F S at_ k W (by omega)
       rw[A7 (by omega)]at cH;go_enter Tryz.func95,Tryz.ntmps95;go_wp2_with fail;refine cO.mono ?_;rintro e w1 ⟨rfl,hb1⟩;have HB2:=Aa (HB1.out w1 hb1);clear hb1 cO;go_upto_region 8 with fail;obtain⟨W0,hW0⟩:∃W0,w1.alloc (.cells #[.pointer (some ⟨b,0,none⟩),.int .i64 F,.int .i64 S] 218)=W0:=⟨_,rfl⟩;have hC0:W0.heap[w1.heap.size]?=some (.cells #[.pointer (some ⟨b,0,none⟩),.int .i64 F,.int .i64 S] 218 (0,0)):=by rw[←hW0];exact Ai _ _
       have NI:w1.heap.size<W0.heap.size:=Ab hC0;have hS0:Below W0.heap.size W0 W0∧W0.cell? ⟨w1.heap.size,0,none⟩=some (.pointer (some ⟨b,0,none⟩))∧W0.cell? ⟨w1.heap.size,1,none⟩=some (.int .i64 F)∧W0.cell? ⟨w1.heap.size,2,none⟩=some (.int .i64 S):=⟨Ad _ _,by rw[AB _ _ _ _ _ _ hC0];rfl,by rw[AB _ _ _ _ _ _ hC0];rfl,by rw[AB _ _ _ _ _ _ hC0];rfl⟩;have j0:=hS0.2.1;have j1:=hS0.2.2.1;have j2:=hS0.2.2.2;rw[hW0]at HB2;rw[hW0];clear hC0 hW0;generalize w1.heap.size=g at *;go_region_held3 (fun W=>Below W0.heap.size W0 W∧W.cell? ⟨g,0,none⟩=some (.pointer (some ⟨b,0,none⟩))∧W.cell? ⟨g,1,none⟩=some (.int .i64 F)∧W.cell? ⟨g,2,none⟩=some (.int .i64 S)) (first|assumption|exact JB ‹_›|exact Ck NI ‹_› ‹_›) (first|(go_at_call 133;refine(cF _).mono ?_;rintro e w' ⟨rfl,rfl⟩)|(go_at_call 132;refine(cH _).mono ?_;rintro e w' ⟨rfl,hb⟩));rename_i hHeld;have Pv:Hid (Below w.heap.size w _):=Aa (HB2.out.trans (hHeld.1.mono HB2.out.size));clear hS0 j0 j1 j2 hb hHeld;go_wp2;go_ret2;exact⟨rfl,Pv.out⟩
def Bu (s:ByteArray):List ByteArray:=(Co s.data.toList).map fun f=>(⟨f.toArray⟩:ByteArray)
theorem Cf (s:ByteArray):(Bu s).length=(s.size+61)/62:=by
 unfold Bu;rw[Em,DK,BP];rfl
theorem Eb (s:ByteArray):∀f∈Bu s,f.size=64:=fun f hf=>by
 obtain⟨g,hg,rfl⟩:=Cy.1 hf;show g.toArray.size=64
 rw[FN];exact TB _ g hg
theorem Nq (s:ByteArray):Ac (Bu s)=Co s.data.toList:=M0 _
end Go.Proofs.YtdmkhmeaphaapaaGreat.V
