/- Kit. -/
import Derived.Test.YtdmkhmeaphaapaaGreatFW4
import Derived.Test.YtdmkhmeaphaapaaGreatFW3
set_option maxRecDepth 100000
namespace Go.Proofs.YtdmkhmeaphaapaaGreat.V
open Go.RowKit Go.Sort
set_option linter.unusedVariables false
theorem oneB_nil:oneB []=[]:=by
  unfold oneB;rw[if_neg (by decide +kernel),if_pos (by rw[show(gatherB []).take (saysB (List.headD [] []))=[] by decide +kernel,cutB_nil];exact List.nil_prefix)];decide +kernel
theorem oneB_none {l:List (List UInt8)}{n k:Nat}(hl:∀f∈l,f.length=64)(hn:saysB (l.headD [])=n)(hk:(n+61)/62=k)(h:n=0∨60000<n∨l.length<k):oneB l=[]:=by
  unfold oneB;rw[hn,gatherB_length hl];by_cases h0:n=0
  · subst h0;split
    · rfl
    · rw[List.take_zero,cutB_nil,if_pos List.nil_prefix]
  · rw[if_pos (by omega)]
theorem oneB_there {l:List (List UInt8)}{n k:Nat}{r:List UInt8}(hl:∀f∈l,f.length=64)(hn:saysB (l.headD [])=n)(hk:(n+61)/62=k)(h6:n≤60000)(hkl:k≤l.length)(hr:(gatherB (l.take k)).take n=r) :
    r.length=n∧oneB l=if l.take k=cutB r then r else []:=by
  have hg:gatherB l=gatherB (l.take k)++gatherB (l.drop k):=by
    conv=>lhs;rw[←List.take_append_drop k l]
    unfold gatherB;rw[List.flatMap_append]
  have hgl:(gatherB (l.take k)).length=62*k:=by
    rw[gatherB_length (fun f hf=>hl f (List.mem_of_mem_take hf)),List.length_take];omega
  have hrl:r.length=n:=by rw[←hr,List.length_take,hgl];omega
  have hr2:(gatherB l).take n=r:=by rw[hg,List.take_append_of_le_length (by omega),hr]
  refine⟨hrl,?_⟩;unfold oneB;rw[hn,gatherB_length hl,if_neg (by omega),hr2];have hc:(cutB r).length=k:=by rw[cutB_length,hrl,hk]
  by_cases he:l.take k=cutB r
  · rw[if_pos he,if_pos ⟨l.drop k,by rw[←he,List.take_append_drop]⟩]
  · rw[if_neg he,if_neg];rintro⟨t,ht⟩;apply he;rw[←ht,←hc,List.take_left]
theorem box_step {w0 W W':World}{g:Nat}{x y z:Value}(hg:g<w0.heap.size)(h:Below w0.heap.size w0 W∧W.cell? ⟨g,0,none⟩=some x∧W.cell? ⟨g,1,none⟩=some y∧W.cell? ⟨g,2,none⟩=some z)(hb:Below W.heap.size W W') :
    Below w0.heap.size w0 W'∧W'.cell? ⟨g,0,none⟩=some x∧W'.cell? ⟨g,1,none⟩=some y∧W'.cell? ⟨g,2,none⟩=some z:=by
  have hgW:g<W.heap.size:=Nat.lt_of_lt_of_le hg h.1.size;exact⟨h.1.trans (hb.mono h.1.size),by rw[hb.cell (p:=⟨g,0,none⟩) hgW];exact h.2.1,by rw[hb.cell (p:=⟨g,1,none⟩) hgW];exact h.2.2.1,by rw[hb.cell (p:=⟨g,2,none⟩) hgW];exact h.2.2.2⟩
theorem box_drew {w0 W:World}{g:Nat}{x y z:Value}(h:Below w0.heap.size w0 W∧W.cell? ⟨g,0,none⟩=some x∧W.cell? ⟨g,1,none⟩=some y∧W.cell? ⟨g,2,none⟩=some z) :
    Below w0.heap.size w0 W.drew∧W.drew.cell? ⟨g,0,none⟩=some x∧W.drew.cell? ⟨g,1,none⟩=some y∧W.drew.cell? ⟨g,2,none⟩=some z:=⟨h.1.drew,h.2.1,h.2.2.1,h.2.2.2⟩
theorem bytesL_take (l:List ByteArray)(p:Nat):bytesL (l.take p)=(bytesL l).take p:=by
  unfold bytesL;rw[List.map_take]
theorem bytesL_inj {a b:List ByteArray}(h:bytesL a=bytesL b):a=b:=by
  induction a generalizing b with
  | nil=>cases b with
    | nil=>rfl
    | cons y b=>cases h
  | cons x a ih=>cases b with
    | nil=>cases h
    | cons y b =>
      injection h with h1 h2;congr 1
      · cases x;cases y;congr 1;exact Array.ext' h1
      · exact ih h2
theorem bytesL_mk (L:List (List UInt8)):bytesL (L.map fun f=>(⟨f.toArray⟩:ByteArray))=L:=by
  unfold bytesL;rw[List.map_map];exact(List.map_congr_left fun f _=>by simp).trans (List.map_id _)
set_option maxHeartbeats 8000000 in
theorem record_c (B b:Nat)(st:St)(F S A:Nat)(w:World)(h:Dev B w b st)(hg:Good st)(hgo:goneB st=false)(hS:F+S≤st.now.length)(hA4:A≤100000) :
    Calls Tryz.prog 161 #[.agg #[.pointer (some ⟨b,0,none⟩),.int .i64 F,.int .i64 S],.int .i64 A] w fun e w'=>e=.returned (.tuple #[.string ⟨(oneB (bytesL (((st.now.drop F).take S).drop A))).toArray⟩,.int .i64 0])∧Below w.heap.size w w':=by
  obtain⟨W0,hW0⟩:∃W0,w.alloc (.cells #[.pointer (some ⟨b,0,none⟩),.int .i64 F,.int .i64 S] 218)=W0:=⟨_,rfl⟩;have HB0:Hid (Below w.heap.size w W0):=Lib.hid (by rw[←hW0];exact(Below.refl _ _).alloc (Nat.le_refl _) _);have HS0:Hid (W0.heap.size=w.heap.size+1):=Lib.hid (by rw[←hW0];simp);have HC0:Hid (W0.heap[w.heap.size]?=some (.cells #[.pointer (some ⟨b,0,none⟩),.int .i64 F,.int .i64 S] 218 (0,0))):=Lib.hid (by rw[←hW0];exact heap_alloc_new _ _);have HBX:Hid (Below W0.heap.size W0 W0∧W0.cell? ⟨w.heap.size,0,none⟩=some (.pointer (some ⟨b,0,none⟩))∧W0.cell? ⟨w.heap.size,1,none⟩=some (.int .i64 F)∧W0.cell? ⟨w.heap.size,2,none⟩=some (.int .i64 S)):=Lib.hid ⟨Below.refl _ _,by rw[cell_of_row _ _ _ _ _ _ HC0.out];rfl,by rw[cell_of_row _ _ _ _ _ _ HC0.out];rfl,by rw[cell_of_row _ _ _ _ _ _ HC0.out];rfl⟩;have hgS:w.heap.size<W0.heap.size:=by rw[HS0.out];omega
  have HBW:Hid (∀W,Below W0.heap.size W0 W→Below w.heap.size w W):=Lib.hid (fun W hW=>HB0.out.trans (hW.mono (by rw[HS0.out];omega)));have hf:=hg.few;have cH:=fun(c:Int) W=>has_c (some ⟨b,0,none⟩) F S A c W (by omega)
  by_cases hAS:A<S
  · have hlen:((st.now.drop F).take S).length=S:=by rw[List.length_take,List.length_drop];omega
    obtain⟨L,hL⟩:∃L,((st.now.drop F).take S).drop A=L:=⟨_,rfl⟩;rw[hL];have hLl:L.length=S-A:=by rw[←hL,List.length_drop,hlen]
    have hLt:∀k,k≤S-A→(st.now.drop (F+A)).take k=L.take k:=fun k hk=>by
      rw[←hL,List.drop_take,List.drop_drop,List.take_take,Nat.min_eq_left hk]
    have hLs:∀x∈L,x.size=64:=fun x hx=>hg.szn x (by rw[←hL]at hx;exact List.mem_of_mem_drop (List.mem_of_mem_take (List.mem_of_mem_drop hx)))
    obtain⟨x,hx⟩:∃x,L[0]?=some x:=⟨_,List.getElem?_eq_getElem (by omega)⟩;have hxs:=hLs x (List.mem_of_getElem? hx);have hgx:st.now.getD (F+A) ⟨#[]⟩=x:=by
      have h1:=hLt 1 (by omega);have h2:(L.take 1)[0]?=some x:=by rw[List.getElem?_take,if_pos (by omega)];exact hx
      rw[←h1,List.getElem?_take,if_pos (by omega),List.getElem?_drop,Nat.add_zero]at h2;rw[List.getD_eq_getElem?_getD,h2];rfl
    have cG:Hid (∀W,Below w.heap.size w W→Calls Tryz.prog 162 #[.agg #[.pointer (some ⟨b,0,none⟩),.int .i64 F,.int .i64 S],.int .i64 A] W fun e w'=>e=.returned (.tuple #[.string x,.int .i64 0])∧Below W.heap.size W w'):=Lib.hid (fun W hW=>by
      have h1:=bget_c B b st F S A ((F+A:Nat):Int) W (h.below hW) hg (by omega) (by omega);rw[ask_ok hgo (by omega),if_pos rfl,Int.toNat_natCast,hgx]at h1;exact h1)
    obtain⟨n,hn⟩:∃n,saysB x.data.toList=n:=⟨_,rfl⟩;have hn2:saysB ((bytesL L).headD [])=n:=by
      cases L with
      | nil=>cases hx
      | cons y l=>injection hx with hx;subst hx;exact hn
    have hn6:n<65536:=by
      rw[←hn];unfold saysB;have h1:=UInt8.toNat_lt (x.data.toList.getD 0 0);have h2:=UInt8.toNat_lt (x.data.toList.getD 1 0);omega
    obtain⟨k,hk⟩:∃k,(n+61)/62=k:=⟨_,rfl⟩;have cL:=fun W=>left_c x W hxs
    rw[hn]at cL;have cF:=fun W=>frames_n n W (by omega)
    rw[framesI_nat,hk]at cF;have cA:Hid (k≤S-A→∀W,Below w.heap.size w W→Calls Tryz.prog 182 #[.agg #[.pointer (some ⟨b,0,none⟩),.int .i64 F,.int .i64 S],.int .i64 A,.int .i64 k] W fun e w'=>∃v,e=.returned (.tuple #[v,.int .i64 0])∧StrsIs w' v (L.take k)∧Below W.heap.size W w'):=Lib.hid (fun hkS W hW=>by
      have h1:=getAll_c B b st F A k S W (h.below hW) hg hgo (by omega);rw[hLt k hkS]at h1;exact h1)
    have HALL:=Lib.hid (bytesL_all hLs);have HLS:=Lib.hid hLs;have HLL:Hid ((bytesL L).length=S-A):=Lib.hid (by unfold bytesL;rw[List.length_map];exact hLl);have HNONE:Hid (n=0∨60000<n∨S-A<k→oneB (bytesL L)=[]):=Lib.hid (fun hh=>oneB_none HALL.out hn2 hk (by rw[HLL.out];exact hh));have HTHERE:Hid (∀r,n≤60000→k≤S-A→(gatherB ((bytesL L).take k)).take n=r→r.length=n∧oneB (bytesL L)=if(bytesL L).take k=cutB r then r else []):=Lib.hid (fun r h6 hkS hr=>oneB_there HALL.out hn2 hk h6 (by rw[HLL.out];exact hkS) hr);have hAz:(1:Int)≤(S:Int)-(A:Int):=by omega
    have cH1:=cH 1;rw[decide_eq_true hAz]at cH1;have HCH:=Lib.hid cH;have hk4:k≤1060:=by omega
    clear h hg hgo hS hL hLl hLt hLs hx hxs hgx hn hn2 hlen cH;obtain⟨_,k0,k1,k2⟩:=HBX.out;have hAi:(0:Int)≤0:=by omega
    by_cases hn0:n=0
    · have HR:Hid (oneB (bytesL L)=[]):=Lib.hid (HNONE.out (Or.inl hn0));subst hn0;clear cF HCH;go_enter Tryz.func161,Tryz.ntmps161;go_wp2_with fail;refine(cH1 _).mono ?_;rintro e w1 ⟨rfl,hb1⟩;have hS1:=box_step hgS HBX.out hb1;have HS1:=Lib.hid hS1;obtain⟨_,j0,j1,j2⟩:=hS1;clear k0 k1 k2 hb1 cH1;go_wp2_with fail;refine(cG.out _ (HBW.out _ HS1.out.1)).mono ?_;rintro e w2 ⟨rfl,hb2⟩;have HS2:=Lib.hid (box_step hgS HS1.out hb2);clear j0 j1 j2 hb2;go_wp2_with fail;refine(cL _).mono ?_;rintro e w3 ⟨rfl,hb3⟩;have HS3:=Lib.hid (box_step hgS HS2.out hb3);clear hb3 cL;go_wp2;go_quiet (fail);have HB9:Hid (Below w.heap.size w (w3.drewN nq)):=Lib.hid (Below.drewS (HBW.out _ HS3.out.1) nq);go_wp2;go_ret2;exact⟨by rw[HR.out];rfl,HB9.out⟩
    · by_cases hn60:60000<n
      · have HR:Hid (oneB (bytesL L)=[]):=Lib.hid (HNONE.out (Or.inr (Or.inl hn60)));have hz1:((n:Int)==0)=false:=by rw[beq_eq_false_iff_ne];omega
        have hz2:(60000:Int)<(n:Int):=by omega
        clear cF HCH;go_enter Tryz.func161,Tryz.ntmps161;go_wp2_with fail;refine(cH1 _).mono ?_;rintro e w1 ⟨rfl,hb1⟩;have hS1:=box_step hgS HBX.out hb1;have HS1:=Lib.hid hS1;obtain⟨_,j0,j1,j2⟩:=hS1;clear k0 k1 k2 hb1 cH1;go_wp2_with fail;refine(cG.out _ (HBW.out _ HS1.out.1)).mono ?_;rintro e w2 ⟨rfl,hb2⟩;have HS2:=Lib.hid (box_step hgS HS1.out hb2);clear j0 j1 j2 hb2;go_wp2_with fail;refine(cL _).mono ?_;rintro e w3 ⟨rfl,hb3⟩;have HS3:=Lib.hid (box_step hgS HS2.out hb3);clear hb3 cL;go_wp2;go_quiet (fail);have HB9:Hid (Below w.heap.size w (w3.drewN nq)):=Lib.hid (Below.drewS (HBW.out _ HS3.out.1) nq);go_wp2;go_ret2;exact⟨by rw[HR.out];rfl,HB9.out⟩
      · have hz1:((n:Int)==0)=false:=by rw[beq_eq_false_iff_ne];omega
        have hz2:¬((60000:Int)<(n:Int)):=by omega
        have hz3:decide ((60000:Int)<(n:Int))=false:=decide_eq_false hz2;have cHk:=HCH.out k;by_cases hkS:S-A<k
        · have HR:Hid (oneB (bytesL L)=[]):=Lib.hid (HNONE.out (Or.inr (Or.inr hkS)));have hkz:¬((k:Int)≤(S:Int)-(A:Int)):=by omega
          rw[decide_eq_false hkz]at cHk;clear HCH;go_enter Tryz.func161,Tryz.ntmps161;go_wp2_with fail;refine(cH1 _).mono ?_;rintro e w1 ⟨rfl,hb1⟩;have hS1:=box_step hgS HBX.out hb1;have HS1:=Lib.hid hS1;obtain⟨_,j0,j1,j2⟩:=hS1;clear k0 k1 k2 hb1 cH1;go_wp2_with fail;refine(cG.out _ (HBW.out _ HS1.out.1)).mono ?_;rintro e w2 ⟨rfl,hb2⟩;have HS2:=Lib.hid (box_step hgS HS1.out hb2);clear j0 j1 j2 hb2;go_wp2_with fail;refine(cL _).mono ?_;rintro e w3 ⟨rfl,hb3⟩;have hS3:=box_step hgS HS2.out hb3;have j0:=hS3.2.1;have j1:=hS3.2.2.1;have j2:=hS3.2.2.2;clear hb3 cL;go_wp2;go_region_held3 (fun W=>Below W0.heap.size W0 W∧W.cell? ⟨w.heap.size,0,none⟩=some (.pointer (some ⟨b,0,none⟩))∧W.cell? ⟨w.heap.size,1,none⟩=some (.int .i64 F)∧W.cell? ⟨w.heap.size,2,none⟩=some (.int .i64 S)) (first|assumption|exact box_drew ‹_›|exact box_step hgS ‹_› ‹_›) (first|(go_at_call 133;refine(cF _).mono ?_;rintro e w' ⟨rfl,rfl⟩)|(go_at_call 132;refine(cHk _).mono ?_;rintro e w' ⟨rfl,hb⟩));rename_i hHeld;have HB9:Hid (Below w.heap.size w _):=Lib.hid (HBW.out _ hHeld.1);clear hS3 j0 j1 j2 hb hHeld;go_wp2;go_ret2;exact⟨by rw[HR.out];rfl,HB9.out⟩
        · have hkz:(k:Int)≤(S:Int)-(A:Int):=by omega
          rw[decide_eq_true hkz]at cHk;have hkn:k≤S-A:=by omega
          have HAk:Hid (∀W,(Below W0.heap.size W0 W∧W.cell? ⟨w.heap.size,0,none⟩=some (.pointer (some ⟨b,0,none⟩))∧W.cell? ⟨w.heap.size,1,none⟩=some (.int .i64 F)∧W.cell? ⟨w.heap.size,2,none⟩=some (.int .i64 S))→Calls Tryz.prog 182 #[.agg #[.pointer (some ⟨b,0,none⟩),.int .i64 F,.int .i64 S],.int .i64 A,.int .i64 k] W fun e w'=>∃v,e=.returned (.tuple #[v,.int .i64 0])∧StrsIs w' v (L.take k)∧Below W.heap.size W w'):=Lib.hid (fun W hW=>cA.out hkn W (HBW.out _ hW.1));obtain⟨M,hM⟩:∃M,L.take k=M:=⟨_,rfl⟩;rw[hM]at HAk;have hMs:∀y∈M,y.size=64:=fun y hy=>HLS.out y (by rw[←hM]at hy;exact List.mem_of_mem_take hy)
          have hLk:L.length=S-A:=by have:=HLL.out;unfold bytesL at this;rwa[List.length_map]at this
          have hMl:M.length=k:=by rw[←hM,List.length_take,hLk];omega
          have hMb:(bytesL L).take k=bytesL M:=by rw[←hM,bytesL_take]
          obtain⟨G,hG⟩:∃G:ByteArray,G=⟨(gatherB (bytesL M)).toArray⟩:=⟨_,rfl⟩;obtain⟨q,hq⟩:∃q,G.size=q:=⟨_,rfl⟩;have hqk:q=62*k:=by
            rw[←hq,hG];show(gatherB (bytesL M)).toArray.size=_
            rw[List.size_toArray,gatherB_length (bytesL_all hMs)];unfold bytesL;rw[List.length_map,hMl]
          obtain⟨R,hR⟩:∃R:ByteArray,G.extract 0 n=R:=⟨_,rfl⟩;have hRr:R.data.toList=(gatherB (bytesL M)).take n:=by
            rw[←hR,ByteArray.data_extract,Array.toList_extract,hG];show(((gatherB (bytesL M)).toArray.toList).drop 0).take (n-0)=_
            rw[List.drop_zero,Nat.sub_zero]
          obtain⟨r,hr⟩:∃r,(gatherB (bytesL M)).take n=r:=⟨_,rfl⟩;rw[hr]at hRr;obtain⟨hrl,hone⟩:=HTHERE.out r (by omega) hkn (by rw[hMb];exact hr);rw[hMb]at hone;have hRs:R.size=n:=by rw[←hrl,←hRr,Array.length_toList];rfl
          have hRe:R=⟨r.toArray⟩:=by
            cases R
            congr 1;exact Array.ext' (by rw[hRr])
          have cJ:Hid (∀v W,StrsIs W v M→Calls Tryz.prog 183 #[v] W fun e w'=>e=.returned (.string G)∧Below W.heap.size W w'):=Lib.hid (fun v W hv=>by
            rw[hG];exact joined_c v M W hv hMs (by rw[hMl];omega))
          have cR:Hid (∀W,Calls Tryz.prog 134 #[.string R] W fun e w'=>∃v,e=.returned v∧StrsIs w' v ((cutB r).map fun f=>(⟨f.toArray⟩:ByteArray))∧Below W.heap.size W w'):=Lib.hid (fun W=>by
            refine(frames_c R W (by omega)).mono ?_;rintro e w' ⟨v,rfl,hown,hb⟩;rw[hRr]at hown;exact⟨v,rfl,strs_of_owns hown,hb⟩)
          have cE:Hid (∀(u v:Value) W (t:Bool),StrsIs W u M→StrsIs W v ((cutB r).map fun f=>(⟨f.toArray⟩:ByteArray))→(t=true↔bytesL M=cutB r)→Calls Tryz.prog 184 #[u,v] W fun e w'=>e=.returned (.bool t)∧Below W.heap.size W w'):=Lib.hid (fun u v W t hu hv ht=>by
            refine equal_c u v M _ W hu hv (by omega) (by rw[List.length_map,cutB_length,hrl];omega) t (ht.trans ⟨fun e=>?_,fun e=>?_⟩)
            · exact bytesL_inj (by rw[e,bytesL_mk])
            · rw[e,bytesL_mk])
          have HGX:Hid (G.extract 0 n=R):=Lib.hid hR;have hn0z:(0:Int)≤(n:Int):=by omega
          have hnq:(n:Int)≤(q:Int):=by omega
          have HRE:=Lib.hid hRe;have HONE:=Lib.hid hone;clear HCH cA hM hMs hLk hMl hMb hG hqk hR hRr hr hrl hone hRs hRe;go_enter Tryz.func161,Tryz.ntmps161;go_wp2_with fail;refine(cH1 _).mono ?_;rintro e w1 ⟨rfl,hb1⟩;have hS1:=box_step hgS HBX.out hb1;have HS1:=Lib.hid hS1;obtain⟨_,j0,j1,j2⟩:=hS1;clear k0 k1 k2 hb1 cH1;go_wp2_with fail;refine(cG.out _ (HBW.out _ HS1.out.1)).mono ?_;rintro e w2 ⟨rfl,hb2⟩;have HS2:=Lib.hid (box_step hgS HS1.out hb2);clear j0 j1 j2 hb2;go_wp2_with fail;refine(cL _).mono ?_;rintro e w3 ⟨rfl,hb3⟩;have hS3:=box_step hgS HS2.out hb3;have j0:=hS3.2.1;have j1:=hS3.2.2.1;have j2:=hS3.2.2.2;clear hb3 cL;go_wp2;go_region_held3 (fun W=>Below W0.heap.size W0 W∧W.cell? ⟨w.heap.size,0,none⟩=some (.pointer (some ⟨b,0,none⟩))∧W.cell? ⟨w.heap.size,1,none⟩=some (.int .i64 F)∧W.cell? ⟨w.heap.size,2,none⟩=some (.int .i64 S)) (first|assumption|exact box_drew ‹_›|exact box_step hgS ‹_› ‹_›) (first|(go_at_call 133;refine(cF _).mono ?_;rintro e w' ⟨rfl,rfl⟩)|(go_at_call 132;refine(cHk _).mono ?_;rintro e w' ⟨rfl,hb⟩));rename_i hHeld;have hS4:=hHeld;have j0:=hS4.2.1;have j1:=hS4.2.2.1;have j2:=hS4.2.2.2;clear hS3 hb hHeld;go_wp2;go_region_held3 (fun W=>Below W0.heap.size W0 W∧W.cell? ⟨w.heap.size,0,none⟩=some (.pointer (some ⟨b,0,none⟩))∧W.cell? ⟨w.heap.size,1,none⟩=some (.int .i64 F)∧W.cell? ⟨w.heap.size,2,none⟩=some (.int .i64 S)) (first|assumption|exact box_drew ‹_›|exact box_step hgS ‹_› ‹_›) (first|(go_at_call 133;refine(cF _).mono ?_;rintro e w' ⟨rfl,rfl⟩)|(go_at_call 182;refine(HAk.out _ ?_).mono ?_;(first|assumption|exact box_drew ‹_›);rintro e w' ⟨v,rfl,hv,hb⟩));rename_i hHeld;have HB9:Hid (Below w.heap.size w _):=Lib.hid (HBW.out _ hHeld.1);have HV9:=Lib.hid hv;clear hS4 j0 j1 j2 hb hHeld hv;go_wp2_with fail;refine(cJ.out _ _ HV9.out).mono ?_;rintro e w5 ⟨rfl,hb5⟩;have HB5:Hid (Below w.heap.size w w5):=Lib.hid (HB9.out.trans (hb5.mono HB9.out.size));have HV5:=Lib.hid (HV9.out.kept hb5);clear hb5;go_wp2_with fail;rw[HGX.out];refine(cR.out _).mono ?_;rintro e w6 ⟨v2,rfl,hv2,hb6⟩;have HB6:Hid (Below w.heap.size w w6):=Lib.hid (HB5.out.trans (hb6.mono HB5.out.size));have HV6:=Lib.hid (HV5.out.kept hb6);have HW6:=Lib.hid hv2;clear hb6 hv2;by_cases hE:bytesL M=cutB r
          · have HOE:Hid ((⟨(oneB (bytesL L)).toArray⟩:ByteArray)=R):=Lib.hid (by rw[HONE.out,if_pos hE,HRE.out]);have HEE:=Lib.hid hE;clear hE;go_wp2_with fail;refine(cE.out _ _ _ true HV6.out HW6.out ⟨fun _=>HEE.out,fun _=>rfl⟩).mono ?_;rintro e w7 ⟨rfl,hb7⟩;have HB7:Hid (Below w.heap.size w w7):=Lib.hid (HB6.out.trans (hb7.mono HB6.out.size));clear hb7;go_wp2;go_ret2;exact⟨by rw[HOE.out];rfl,HB7.out⟩
          · have HOE:Hid ((oneB (bytesL L))=[]):=Lib.hid (by rw[HONE.out,if_neg hE]);have HEE:=Lib.hid hE;clear hE;go_wp2_with fail;refine(cE.out _ _ _ false HV6.out HW6.out ⟨(fun e=>by cases e),fun e=>absurd e HEE.out⟩).mono ?_;rintro e w7 ⟨rfl,hb7⟩;have HB7:Hid (Below w.heap.size w w7):=Lib.hid (HB6.out.trans (hb7.mono HB6.out.size));clear hb7;go_wp2;go_ret2;exact⟨by rw[HOE.out];rfl,HB7.out⟩
  · have hAz:¬((1:Int)≤(S:Int)-(A:Int)):=by omega
    have cH1:=cH 1;rw[decide_eq_false hAz]at cH1;have HR:Hid (oneB (bytesL (((st.now.drop F).take S).drop A))=[]):=Lib.hid (by
      rw[List.drop_eq_nil_of_le (by rw[List.length_take,List.length_drop];omega)];exact oneB_nil)
    obtain⟨_,k0,k1,k2⟩:=HBX.out;clear h hg hgo hS cH;go_enter Tryz.func161,Tryz.ntmps161;go_wp2_with fail;refine(cH1 _).mono ?_;rintro e w1 ⟨rfl,hb1⟩;have HB1:Hid (Below w.heap.size w w1):=Lib.hid (HBW.out _ (box_step hgS HBX.out hb1).1);clear hb1 cH1;go_wp2;go_ret2;exact⟨by rw[HR.out];rfl,HB1.out⟩
end Go.Proofs.YtdmkhmeaphaapaaGreat.V
namespace Go.Proofs.YtdmkhmeaphaapaaGreat.V
open Go.RowKit Go.Sort
set_option linter.unusedVariables false
def bankL (st:St)(F S:Nat):List ByteArray:=(st.now.drop F).take S
theorem bankL_length {st:St}{F S:Nat}(h:F+S≤st.now.length):(bankL st F S).length=S:=by
  unfold bankL;rw[List.length_take,List.length_drop];omega
theorem own_base {B B':Nat}{w:World}{T:TypeId}{n s:Nat}{v:Value}{xs:List Value}(h:w.ownsRow B T s v n xs)(hB:B'≤B):w.ownsRow B' T s v n xs:=by
  refine⟨h.1,?_⟩;rcases h.2 with hn|⟨g,cap,cur,hv,hg,r⟩
  · exact Or.inl hn
  · exact Or.inr ⟨g,cap,cur,hv,Nat.le_trans hB hg,r⟩
set_option maxHeartbeats 8000000 in
theorem scan_ok (B b:Nat)(st:St)(F S:Nat)(w:World)(h:Dev B w b st)(hg:Good st)(hgo:goneB st=false)(ho:openI st F S=0)(hS:F+S≤st.now.length) :
    Calls Tryz.prog 129 #[.pointer (some ⟨b,0,none⟩),.int .i64 F,.int .i64 S] w fun e w'=>∃u,e=.returned (.tuple #[u,.int .i64 ((1+(layB (scanB ((bytesL (bankL st F S)).drop 1))).length:Nat):Int),.int .i64 0])∧w'.ownsRow w.heap.size 9 1 u (scanB ((bytesL (bankL st F S)).drop 1)).length (frV (scanB ((bytesL (bankL st F S)).drop 1)))∧Below w.heap.size w w':=by
  obtain⟨i0,hi0,hz0,hz1,hz2⟩:=info_parts Tryz.infoStr7;have hf:=hg.few;have hS4:S≤4096:=by omega
  obtain⟨l,hl⟩:∃l,bankL st F S=l:=⟨_,rfl⟩;have hll:l.length=S:=by rw[←hl];exact bankL_length hS
  rw[hl];obtain⟨L,hL0⟩:∃L,scanB ((bytesL l).drop 1)=L:=⟨_,rfl⟩;rw[hL0];obtain⟨T,hT0⟩:∃T,1+(layB L).length=T:=⟨_,rfl⟩;rw[hT0];have cO:=open_ok B b st F S w h hg ho;have cR:Hid (∀(p:Nat) W,p≤100000→Below w.heap.size w W→Calls Tryz.prog 161 #[.agg #[.pointer (some ⟨b,0,none⟩),.int .i64 F,.int .i64 S],.int .i64 p] W fun e w'=>e=.returned (.tuple #[.string ⟨(oneB ((bytesL l).drop p)).toArray⟩,.int .i64 0])∧Below W.heap.size W w'):=Lib.hid (fun p W hp hW=>by
    have h1:=record_c B b st F S p W (h.below hW) hg hgo hS hp;rw[show((st.now.drop F).take S)=l from hl,bytesL_drop]at h1;exact h1)
  have HT0:=Lib.hid hT0;have HLL:=Lib.hid hll;clear hT0 h hg hgo ho hS hl hll;go_enter Tryz.func129,Tryz.ntmps129;go_wp2_with fail;refine cO.mono ?_;rintro e w1 ⟨rfl,hb1⟩;have HB1:=Lib.hid hb1;clear hb1 cO;go_wp2;obtain⟨W0,hW0⟩:∃W0,w1.alloc (.cells #[.pointer (some ⟨b,0,none⟩),.int .i64 F,.int .i64 S] 218)=W0:=⟨_,rfl⟩;have HB0:Hid (Below w.heap.size w W0):=Lib.hid (by rw[←hW0];exact HB1.out.alloc HB1.out.size _);have HS0:Hid (W0.heap.size=w1.heap.size+1):=Lib.hid (by rw[←hW0];simp);have HC0:Hid (W0.heap[w1.heap.size]?=some (.cells #[.pointer (some ⟨b,0,none⟩),.int .i64 F,.int .i64 S] 218 (0,0))):=Lib.hid (by rw[←hW0];exact heap_alloc_new _ _);have HBX:Hid (Below W0.heap.size W0 W0∧W0.cell? ⟨w1.heap.size,0,none⟩=some (.pointer (some ⟨b,0,none⟩))∧W0.cell? ⟨w1.heap.size,1,none⟩=some (.int .i64 F)∧W0.cell? ⟨w1.heap.size,2,none⟩=some (.int .i64 S)):=Lib.hid ⟨Below.refl _ _,by rw[cell_of_row _ _ _ _ _ _ HC0.out];rfl,by rw[cell_of_row _ _ _ _ _ _ HC0.out];rfl,by rw[cell_of_row _ _ _ _ _ _ HC0.out];rfl⟩;have hgS:w1.heap.size<W0.heap.size:=by rw[HS0.out];omega
  have HBW:Hid (∀W,Below W0.heap.size W0 W→Below w.heap.size w W):=Lib.hid (fun W hW=>HB0.out.trans (hW.mono HB0.out.size));rw[hW0];clear hW0;generalize w1.heap.size=g at *;go_loopw [12,11] (fun av ov wr=>∃(p:Nat) (out:List (List UInt8)),av=.int .i64 p∧p≤S+1∧out.length<p∧p=1+(layB out).length∧out++scanB ((bytesL l).drop p)=L∧(∃o,o=ov∧wr.ownsRow W0.heap.size 9 1 o out.length (frV out))∧Below W0.heap.size W0 wr) (fun av _ _=>S+1-(intOf av).toNat)
  case atStart=>exact⟨1,[],rfl,by omega,by simp,rfl,hL0,⟨_,rfl,rfl,Or.inl ⟨rfl,rfl⟩⟩,Below.refl _ _⟩
  case round =>
    obtain⟨p,out,rfl,hp,hop,hpl,hs,⟨ov,rfl,hown⟩,hb⟩:=hrel;have HSC:=Lib.hid hs;have HP:=Lib.hid hpl;have HO:=Lib.hid hown;have HB:=Lib.hid hb;obtain⟨_,k0,k1,k2⟩:=box_step hgS HBX.out hb;clear hs hown hb hpl;go_wp2_with fail;refine(cR.out p _ (by omega) (HBW.out _ HB.out)).mono ?_;rintro e w2 ⟨rfl,hb2⟩;have hown1:=HO.out.kept (grown_of_belowB hb2 none) (by cases h:ov.ownBlock with|none=>exact Or.inl rfl|some x=>exact Or.inr (by simp));have HO1:=Lib.hid hown1;have HB2:Hid (Below W0.heap.size W0 w2):=Lib.hid (HB.out.trans (hb2.mono HB.out.size));clear hown1 hb2 k0 k1 k2;obtain⟨R,hR⟩:∃R,oneB ((bytesL l).drop p)=R:=⟨_,rfl⟩;rw[hR];have HRD:=Lib.hid hR;clear hR;by_cases hR:R=[]
    · subst hR;have HE:Hid (L=out):=Lib.hid (by rw[←HSC.out,scanB_stop (Or.inr HRD.out),List.append_nil]);have HTp:Hid (p=T):=Lib.hid (by rw[←HT0.out,HE.out];exact HP.out);have HOW:Hid (w2.ownsRow w.heap.size 9 1 ov out.length (frV out)):=Lib.hid (own_base HO1.out HB0.out.size);have HBE:=Lib.hid (HBW.out _ HB2.out);go_wp2;go_ret3;exact⟨_,by rw[←HTp.out];rfl,by rw[HE.out];exact HOW.out,HBE.out⟩
    · have HRN:=Lib.hid hR;have hlen:(bytesL l).length=S:=by unfold bytesL;rw[List.length_map,HLL.out]
      have hone:oneB ((bytesL l).drop p)≠[]:=by rw[HRD.out];exact hR
      have hpS:p<S:=by
        rcases Nat.lt_or_ge p S with h9|h9
        · exact h9
        · exact absurd (by rw[List.drop_eq_nil_of_le (by omega)];exact oneB_nil) hone
      have hdl:((bytesL l).drop p).length=S-p:=by rw[List.length_drop,hlen]
      obtain⟨q,hq⟩:∃q,(cutB R).length=q:=⟨_,rfl⟩;have hqn:q≤S-p:=by rw[←hq,←hdl,←HRD.out];exact oneB_le hone
      have hq1:1≤q:=by rw[←hq,cutB_cons hR,List.length_cons];omega
      have hRs:R.length≤60000:=(oneB_some HRD.out hR).1;have HNX:Hid ((out++[R])++scanB ((bytesL l).drop (p+q))=L):=Lib.hid (by
        rw[←HSC.out,scanB_next hone (fun e=>by rw[e]at hdl;simp at hdl;omega),HRD.out,hq,List.drop_drop,List.append_assoc];rfl)
      have HPQ:Hid (p+q=1+(layB (out++[R])).length):=Lib.hid (by
        unfold layB;rw[List.flatMap_append,List.length_append];have h1:=HP.out;unfold layB at h1;simp only[List.flatMap_cons,List.flatMap_nil,List.append_nil];rw[hq];omega)
      have hne:R.isEmpty=false:=by
        cases R with
        | nil=>exact absurd rfl hR
        | cons a b=>rfl
      have hcl:=cutB_length R;rw[hq]at hcl;obtain⟨m,hm⟩:∃m,R.length=m:=⟨_,rfl⟩;rw[hm]at hcl hRs;have hsz:(⟨R.toArray⟩:ByteArray).size=m:=by show R.toArray.size=m;rw[List.size_toArray];exact hm
      have cF:=fun W=>frames_n (m:Int) W (by omega)
      rw[framesI_nat,←hcl]at cF;have HA3:Hid ((w2.alloc (.cells #[.string ⟨R.toArray⟩] 9)).ownsRow W0.heap.size 9 1 ov out.length (frV out)):=Lib.hid (HO1.out.alloc _);have hpq:IntKind.i64.wrap ((p:Int)+(q:Int))=(p:Int)+(q:Int):=by rw[IntKind.wrap_i64];omega
      clear hdl hone hq hcl;go_wp2_with (at_builtin;refine wpList_append_own _ rfl _ _ 59 rfl W0.heap.size 9 i0 (.string ⟨#[]⟩) 1 16 Tryz.underlying59 hi0 hz0 hz1 hz2 rfl (by decide) _ _ _ rfl HA3.out ⟨w2.heap.size,0,none⟩ 1 1 [.string ⟨R.toArray⟩] rfl rfl ?c1 ?c2 ?c3 ?c4 ?c5 ?_)
      case c1 =>
        intro j u hj
        match j,hj with
        | 0,hj=>simp at hj;subst hj;simp[Addr.add]
      case c2=>intro u hu;simp at hu;subst hu;rfl
      case c3=>unfold maxLen;omega
      case c4=>omega
      case c5=>have h1:=HB2.out.size;simp;omega
      intro v' w3 hown' hgrow _;have HO3:=Lib.hid hown';have HB3:Hid (Below W0.heap.size W0 w3):=Lib.hid ((HB2.out.alloc HB2.out.size _).grown hgrow (by have:=HB2.out.size;simp;omega) (fun j hj=>(HO1.out.lt j hj).1));clear hown' hgrow;go_wp2_with fail;refine(cF _).mono ?_;rintro e w4 ⟨rfl,rfl⟩;go_wp2;go_roundw
      case rel=>exact⟨p+q,out++[R],by go_num,by omega,by simp;omega,HPQ.out,HNX.out,⟨_,rfl,by simpa[frV]using HO3.out⟩,HB3.out⟩
      case measure=>simp[intOf];omega
end Go.Proofs.YtdmkhmeaphaapaaGreat.V
namespace Go.Proofs.YtdmkhmeaphaapaaGreat.V
open Go.RowKit Go.Sort
set_option linter.unusedVariables false
def putsSt:St→Nat→List ByteArray→St
  | st,_,[]=>st
  | st,i,f::fs=>putsSt (putSt st i f) (i+1) fs
theorem putsSt_snoc:∀(fs:List ByteArray) (st:St) (i:Nat) (f:ByteArray),putsSt st i (fs++[f])=putSt (putsSt st i fs) (i+fs.length) f
  | [],st,i,f=>rfl
  | g::fs,st,i,f=>by
    show putsSt (putSt st i g) (i+1) (fs++[f])=putSt (putsSt (putSt st i g) (i+1) fs) _ f
    rw[putsSt_snoc fs,List.length_cons,show i+(fs.length+1)=i+1+fs.length by omega]
theorem free_gone {st:St}(h:st.lim=false):goneB st=false:=by
  unfold goneB;rw[h];rfl
theorem puts_good:∀(fs:List ByteArray) (st:St) (i:Nat),Good st→st.lim=false→i+fs.length≤st.now.length→(∀f∈fs,f.size=64) →
    Good (putsSt st i fs)∧(putsSt st i fs).lim=false∧(putsSt st i fs).now.length=st.now.length∧(putsSt st i fs).pend.length=st.pend.length+fs.length∧(putsSt st i fs).safe=st.safe
  | [],st,i,hg,hl,_,_=>⟨hg,hl,rfl,rfl,rfl⟩
  | f::fs,st,i,hg,hl,hi,hs=>by
    simp only[List.length_cons]at hi;have ha:=ask_ok (free_gone hl) (show i<st.now.length by omega);have h1:=puts_good fs (putSt st i f) (i+1) (good_put hg ha (hs f (by simp))) hl (by simp[putSt];omega) (fun g hg=>hs g (by simp[hg]));obtain⟨a,b,c,d,e⟩:=h1;refine⟨a,b,?_,?_,e⟩
    · show(putsSt (putSt st i f) (i+1) fs).now.length=_
      rw[c];simp[putSt]
    · show(putsSt (putSt st i f) (i+1) fs).pend.length=_
      rw[d];simp[putSt];omega
theorem puts_now:∀(fs:List ByteArray) (st:St) (i:Nat),i+fs.length≤st.now.length→(putsSt st i fs).now=st.now.take i++fs++st.now.drop (i+fs.length)
  | [],st,i,_=>by simp[putsSt]
  | f::fs,st,i,hi=>by
    simp only[List.length_cons]at hi;show(putsSt (putSt st i f) (i+1) fs).now=_
    rw[puts_now fs (putSt st i f) (i+1) (by simp[putSt];omega)];show(st.now.set i f).take (i+1)++fs++(st.now.set i f).drop (i+1+fs.length)=_
    rw[List.drop_set_of_lt (by omega),List.set_eq_take_append_cons_drop,if_pos (by omega)];have hl:(st.now.take i).length=i:=by rw[List.length_take];omega
    rw[List.take_append,hl,List.take_of_length_le (by omega),show i+1-i=1 by omega];simp[show i+1+fs.length=i+(fs.length+1) by omega]
theorem puts_pend:∀(fs:List ByteArray) (st:St) (i:Nat),(putsSt st i fs).pend=st.pend++(List.range' i fs.length).zip fs
  | [],st,i=>by simp[putsSt]
  | f::fs,st,i=>by
    show(putsSt (putSt st i f) (i+1) fs).pend=_
    rw[puts_pend fs];simp[putSt,List.range'_succ]
end Go.Proofs.YtdmkhmeaphaapaaGreat.V
namespace Go.Proofs.YtdmkhmeaphaapaaGreat.V
open Go.RowKit Go.Sort
set_option linter.unusedVariables false
set_option maxHeartbeats 2000000 in
theorem write_no (B b:Nat)(st:St)(fr sz at_ q:Int)(s:ByteArray)(w:World)(h:Dev B w b st)(hg:Good st)(ho:openI st fr sz=q)(hne:q≠0) :
    Calls Tryz.prog 95 #[.pointer (some ⟨b,0,none⟩),.int .i64 fr,.int .i64 sz,.int .i64 at_,.string s] w fun e w'=>e=.returned (.tuple #[.int .i64 0,.int .i64 q])∧Below w.heap.size w w':=by
  have cO:=open_no B b st fr sz q w h hg ho hne;have hne2:(q==0)=false:=by simpa using hne
  clear h hg ho hne;go_enter Tryz.func95,Tryz.ntmps95;go_wp2_with fail;refine cO.mono ?_;rintro e w1 ⟨rfl,hb1⟩;have HB1:Hid (Below w.heap.size w (w1.alloc (.cells #[.pointer none,.int .i64 0,.int .i64 0] 218))):=Lib.hid (hb1.alloc hb1.size _);clear hb1 cO;go_wp2;go_ret2;exact⟨rfl,HB1.out⟩
def writeI (S:Nat)(at_:Int)(n:Nat):Int:=if at_<1 then 1 else if n<1∨60000<n then 4 else if(S:Int)-at_<((n+61)/62:Nat) then 11 else 0
set_option maxHeartbeats 4000000 in
theorem write_bad (B b:Nat)(st:St)(F S:Nat)(at_ q:Int)(s:ByteArray)(w:World)(h:Dev B w b st)(hg:Good st)(ho:openI st F S=0)(hS:F+S≤st.now.length)(hat:-9223372036854775808≤at_∧at_≤9223372036854775807)(hs:s.size≤9223372036854775807)(hq:writeI S at_ s.size=q)(hne:q≠0) :
    Calls Tryz.prog 95 #[.pointer (some ⟨b,0,none⟩),.int .i64 F,.int .i64 S,.int .i64 at_,.string s] w fun e w'=>e=.returned (.tuple #[.int .i64 0,.int .i64 q])∧Below w.heap.size w w':=by
  have cO:=open_ok B b st F S w h hg ho;have hf:=hg.few;have hS4:S≤4096:=by omega
  obtain⟨n,hn⟩:∃n,s.size=n:=⟨_,rfl⟩;rw[hn]at hs hq;have HN:=Lib.hid hn;unfold writeI at hq;clear h hg ho hS hf;have HB1:Hid (∀w1,Below w.heap.size w w1→Below w.heap.size w (w1.alloc (.cells #[.pointer (some ⟨b,0,none⟩),.int .i64 F,.int .i64 S] 218))):=Lib.hid (fun w1 hb1=>hb1.alloc hb1.size _);by_cases h1:at_<1
  · rw[if_pos h1]at hq;subst hq;go_enter Tryz.func95,Tryz.ntmps95;go_wp2_with fail;refine cO.mono ?_;rintro e w1 ⟨rfl,hb1⟩;have HB2:=Lib.hid (HB1.out w1 hb1);clear hb1 cO;go_wp2;go_ret2;exact⟨rfl,HB2.out⟩
  · rw[if_neg h1]at hq;by_cases h2:n<1
    · rw[if_pos (Or.inl h2)]at hq;subst hq;have h2z:(n:Int)<1:=by omega
      have h0:n=0:=by omega
      subst h0;go_enter Tryz.func95,Tryz.ntmps95;go_wp2_with fail;refine cO.mono ?_;rintro e w1 ⟨rfl,hb1⟩;have HB2:=Lib.hid (HB1.out w1 hb1);clear hb1 cO;go_wp2;go_ret2;exact⟨rfl,HB2.out⟩
    · have h2z:¬((n:Int)<1):=by omega
      have hd2:decide ((n:Int)<1)=false:=decide_eq_false h2z;by_cases h3:60000<n
      · rw[if_pos (Or.inr h3)]at hq;subst hq;have h3z:(60000:Int)<(n:Int):=by omega
        go_enter Tryz.func95,Tryz.ntmps95;go_wp2_with fail;refine cO.mono ?_;rintro e w1 ⟨rfl,hb1⟩;have HB2:=Lib.hid (HB1.out w1 hb1);clear hb1 cO;go_wp2;go_ret2;exact⟨rfl,HB2.out⟩
      · rw[if_neg (by omega)]at hq;have h3z:¬((60000:Int)<(n:Int)):=by omega
        have hd3:decide ((60000:Int)<(n:Int))=false:=decide_eq_false h3z;split at hq
        case isFalse=>exact absurd hq.symm hne
        rename_i h4;subst hq;have cF:=fun W=>frames_n (n:Int) W (by omega)
        rw[framesI_nat]at cF;generalize (n+61)/62=k at *;have cH:=fun W=>has_c (some ⟨b,0,none⟩) F S at_ k W (by omega)
        rw[decide_eq_false (by omega)]at cH;go_enter Tryz.func95,Tryz.ntmps95;go_wp2_with fail;refine cO.mono ?_;rintro e w1 ⟨rfl,hb1⟩;have HB2:=Lib.hid (HB1.out w1 hb1);clear hb1 cO;go_upto_region 8 with fail;obtain⟨W0,hW0⟩:∃W0,w1.alloc (.cells #[.pointer (some ⟨b,0,none⟩),.int .i64 F,.int .i64 S] 218)=W0:=⟨_,rfl⟩;have hC0:W0.heap[w1.heap.size]?=some (.cells #[.pointer (some ⟨b,0,none⟩),.int .i64 F,.int .i64 S] 218 (0,0)):=by rw[←hW0];exact heap_alloc_new _ _
        have hgS:w1.heap.size<W0.heap.size:=lt_of_get hC0;have hS0:Below W0.heap.size W0 W0∧W0.cell? ⟨w1.heap.size,0,none⟩=some (.pointer (some ⟨b,0,none⟩))∧W0.cell? ⟨w1.heap.size,1,none⟩=some (.int .i64 F)∧W0.cell? ⟨w1.heap.size,2,none⟩=some (.int .i64 S):=⟨Below.refl _ _,by rw[cell_of_row _ _ _ _ _ _ hC0];rfl,by rw[cell_of_row _ _ _ _ _ _ hC0];rfl,by rw[cell_of_row _ _ _ _ _ _ hC0];rfl⟩;have j0:=hS0.2.1;have j1:=hS0.2.2.1;have j2:=hS0.2.2.2;rw[hW0]at HB2;rw[hW0];clear hC0 hW0;generalize w1.heap.size=g at *;go_region_held3 (fun W=>Below W0.heap.size W0 W∧W.cell? ⟨g,0,none⟩=some (.pointer (some ⟨b,0,none⟩))∧W.cell? ⟨g,1,none⟩=some (.int .i64 F)∧W.cell? ⟨g,2,none⟩=some (.int .i64 S)) (first|assumption|exact box_drew ‹_›|exact box_step hgS ‹_› ‹_›) (first|(go_at_call 133;refine(cF _).mono ?_;rintro e w' ⟨rfl,rfl⟩)|(go_at_call 132;refine(cH _).mono ?_;rintro e w' ⟨rfl,hb⟩));rename_i hHeld;have HB9:Hid (Below w.heap.size w _):=Lib.hid (HB2.out.trans (hHeld.1.mono HB2.out.size));clear hS0 j0 j1 j2 hb hHeld;go_wp2;go_ret2;exact⟨rfl,HB9.out⟩
end Go.Proofs.YtdmkhmeaphaapaaGreat.V
namespace Go.Proofs.YtdmkhmeaphaapaaGreat.V
open Go.RowKit Go.Sort
set_option linter.unusedVariables false
def framesL (s:ByteArray):List ByteArray:=(cutB s.data.toList).map fun f=>(⟨f.toArray⟩:ByteArray)
theorem framesL_length (s:ByteArray):(framesL s).length=(s.size+61)/62:=by
  unfold framesL;rw[List.length_map,cutB_length,Array.length_toList];rfl
theorem framesL_size (s:ByteArray):∀f∈framesL s,f.size=64:=fun f hf=>by
  obtain⟨g,hg,rfl⟩:=List.mem_map.1 hf;show g.toArray.size=64
  rw[List.size_toArray];exact cutB_all _ g hg
theorem framesL_bytes (s:ByteArray):bytesL (framesL s)=cutB s.data.toList:=bytesL_mk _
end Go.Proofs.YtdmkhmeaphaapaaGreat.V
