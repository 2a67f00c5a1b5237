/- Kit. -/
import Derived.Test.YtdmkhmeaphaapaaGreatMZ29
import Derived.Test.YtdmkhmeaphaapaaGreatMZ0
set_option maxRecDepth 100000
set_option linter.unusedVariables false
set_option linter.unusedSimpArgs false
namespace Go.Proofs.YtdmkhmeaphaapaaGreat.V
open Go.RowKit Go.Sort
def Nc (st:St)(i:Nat)(fs:List ByteArray):Prop:=∀j,j<fs.length→BJ (Bh st i (fs.take j))=false
theorem GR {fs:List ByteArray}{j:Nat}{f:ByteArray}(st:St)(i:Nat)(hf:fs[j]?=some f):Bh st i (fs.take (j+1))=BU (Bh st i (fs.take j)) (i+j) f:=by
 have hj:=(Ed.1 hf).1;rw[List.take_add_one,hf];show Bh st i (fs.take j++[f])=_
 rw[Qt,BV,Nat.min_eq_left (by omega)]
theorem Jo {st:St}{i:Nat}{fs:List ByteArray}(hg:Good st)(hi:i+fs.length≤st.now.length)(hs:∀f∈fs,f.size=64)(hr:Nc st i fs):∀j,j≤fs.length →
 Good (Bh st i (fs.take j))∧(Bh st i (fs.take j)).lim=st.lim∧(Bh st i (fs.take j)).now.length=st.now.length∧(Bh st i (fs.take j)).pend.length=st.pend.length+j∧(Bh st i (fs.take j)).safe=st.safe
 | 0,_=>⟨hg,rfl,rfl,rfl,rfl⟩
 | j+1,hj=>by
  obtain⟨g1,g2,g3,g4,g5⟩:=Jo hg hi hs hr j (by omega);obtain⟨f,hf⟩:∃f,fs[j]?=some f:=⟨_,Ci (by omega)⟩;rw[GR st i hf];refine⟨Ip g1 (EU (hr j (by omega)) (by omega)) (hs f (Dr hf)),g2,by rw[←g3];simp[BU],?_,g5⟩;simp[BU];omega
theorem Y1 (B b:Nat)(st:St)(F A j:Nat)(sz:Int)(f:ByteArray)(W:World)(h:Dev B W b st)(hg:Good st)(hgo:BJ st=false)(hp:st.pend.length≤1000)(hB:B≤W.heap.size)(hi:F+A+j<st.now.length)(hf:f.size=64) :
 Calls Tryz.prog 135 #[.agg #[.pointer (some ⟨b,0,none⟩),.int .i64 F,.int .i64 sz],.int .i64 ((A:Int)+(j:Int)),.string f] W fun e w'=>e=.returned (.int .i64 0)∧Dev B w' b (BU st (F+A+j) f)∧Below B W w'∧Off AZ W w':=by
 have hq:Dn st ((F+A+j:Nat):Int) f=0:=by
  unfold Dn;rw[if_pos (EU hgo hi),if_pos hf]
 have AcT:=hg.few;have h1:=qo B b st F sz ((A:Int)+(j:Int)) ((F+A+j:Nat):Int) f W h hg hp hB (by omega) (by omega);unfold EC at h1;rw[hq,if_pos rfl,DW]at h1;exact h1
theorem MC {st:St}(h:BJ st=true)(n:Nat)(i:Int):EW n st.lim st.left i=13:=by
 unfold BJ at h;unfold EW;rw[if_pos h]
theorem jS (B b:Nat)(st:St)(F A j:Nat)(sz:Int)(f:ByteArray)(W:World)(h:Dev B W b st)(hg:Good st)(hgo:BJ st=true)(hp:st.pend.length≤1000)(hB:B≤W.heap.size)(hi:F+A+j≤1000000) :
 Calls Tryz.prog 135 #[.agg #[.pointer (some ⟨b,0,none⟩),.int .i64 F,.int .i64 sz],.int .i64 ((A:Int)+(j:Int)),.string f] W fun e w'=>e=.returned (.int .i64 13)∧Dev B w' b st∧Below B W w'∧Off AZ W w':=by
 have hq:Dn st ((F+A+j:Nat):Int) f=13:=by
  unfold Dn;rw[MC hgo,if_neg (by decide)]
 have h1:=qo B b st F sz ((A:Int)+(j:Int)) ((F+A+j:Nat):Int) f W h hg hp hB (by omega) (by omega);unfold EC at h1;rw[hq,if_neg (by decide)]at h1;exact h1
def J6 (B b:Nat)(st:St)(F A k:Nat)(fs:List ByteArray)(w:World)(e:Ending)(w':World):Prop:=
 ∃j,j≤k∧(e=.returned (.tuple #[.int .i64 ((A+k:Nat):Int),.int .i64 0])∧j=k∨e=.returned (.tuple #[.int .i64 0,.int .i64 13])∧j<k∧BJ (Bh st (F+A) (fs.take j))=true)∧Nc st (F+A) (fs.take j)∧Dev B w' b (Bh st (F+A) (fs.take j))∧Below B w w'∧Off AZ w w'
set_option maxHeartbeats 8000000 in
theorem fE (B b:Nat)(st:St)(F S A:Nat)(s:ByteArray)(w:World)(h:Dev B w b st)(hg:Good st)(ho:Dt st F S=0)(hS:F+S≤st.now.length)(hA:1≤A)(hn1:1≤s.size)(hn6:s.size≤60000)(hkA:A+(s.size+61)/62≤S)(hp:st.pend.length+(s.size+61)/62≤1000)(hB:B≤w.heap.size) :
 Calls Tryz.prog 95 #[.pointer (some ⟨b,0,none⟩),.int .i64 F,.int .i64 S,.int .i64 A,.string s] w (J6 B b st F A ((s.size+61)/62) (Bu s) w):=by
 unfold J6;have cO:=Rc B b st F S w h hg ho;have hf:=hg.few;have rT:S≤4096:=by omega
 obtain⟨n,hn⟩:∃n,s.size=n:=⟨_,rfl⟩;have hfl:=Cf s;have hfs:=Eb s;have cR:Hid (∀W,Calls Tryz.prog 134 #[.string s] W fun e w'=>∃v,e=.returned v∧w'.ownsRow W.heap.size 9 1 v (Co s.data.toList).length (Ut (Co s.data.toList))∧Below W.heap.size W w'):=Aa (fun W=>YF s W hn6);have HSO:Hid (∀(B:Nat) W v,W.ownsRow B 9 1 v (Co s.data.toList).length (Ut (Co s.data.toList))→DL W v (Bu s)):=Aa (fun B W v hv=>Oq hv);rw[hn]at hn1 hn6 hkA hp hfl ⊢;have HN:=Aa hn;obtain⟨k,hk⟩:∃k,(n+61)/62=k:=⟨_,rfl⟩;have cF:=fun W=>KF (n:Int) W (by omega)
 rw[GH]at cF;rw[hk]at hkA hp hfl cF ⊢;obtain⟨fs,AaR⟩:∃fs,Bu s=fs:=⟨_,rfl⟩;rw[AaR]at hfl hfs HSO ⊢;have zY:=Aa hfl;have xq:Hid (∀j,j≤k→(fs.take j).length=j):=Aa (fun j hj=>by rw[BV];omega);have HST:Hid (∀j,j≤k→Nc st (F+A) (fs.take j)→Good (Bh st (F+A) (fs.take j))∧(Bh st (F+A) (fs.take j)).now.length=st.now.length∧(Bh st (F+A) (fs.take j)).pend.length=st.pend.length+j):=Aa (fun j hj hr=>by
  have hl:=xq.out j hj;have h1:=Jo (st:=st) (i:=F+A) (fs:=fs.take j) hg (by omega) (fun f hf=>hfs f (List.mem_of_mem_take hf)) hr j (by omega);rw[List.take_take,Nat.min_self]at h1;exact⟨h1.1,h1.2.2.1,h1.2.2.2.1⟩)
 have Ab':Hid (∀(j:Nat) (f:ByteArray) W,fs[j]?=some f→Nc st (F+A) (fs.take j)→BJ (Bh st (F+A) (fs.take j))=false→Dev B W b (Bh st (F+A) (fs.take j))→B≤W.heap.size→Calls Tryz.prog 135 #[.agg #[.pointer (some ⟨b,0,none⟩),.int .i64 F,.int .i64 S],.int .i64 ((A:Int)+(j:Int)),.string f] W fun e w'=>e=.returned (.int .i64 0)∧Dev B w' b (Bh st (F+A) (fs.take (j+1)))∧Below B W w'∧Off AZ W w'):=Aa (fun j f W hj hr hgo hd hBW=>by
  have hjk:j<k:=by have:=(Ed.1 hj).1;omega
  obtain⟨g1,g3,g4⟩:=HST.out j (by omega) hr;have h1:=Y1 B b (Bh st (F+A) (fs.take j)) F A j S f W hd g1 hgo (by omega) hBW (by omega) (hfs f (Dr hj));rw[GR st (F+A) hj];exact h1)
 have Abl:Hid (∀(j:Nat) (f:ByteArray) W,j<k→Nc st (F+A) (fs.take j)→BJ (Bh st (F+A) (fs.take j))=true→Dev B W b (Bh st (F+A) (fs.take j))→B≤W.heap.size→Calls Tryz.prog 135 #[.agg #[.pointer (some ⟨b,0,none⟩),.int .i64 F,.int .i64 S],.int .i64 ((A:Int)+(j:Int)),.string f] W fun e w'=>e=.returned (.int .i64 13)∧Dev B w' b (Bh st (F+A) (fs.take j))∧Below B W w'∧Off AZ W w'):=Aa (fun j f W hjk hr hgo hd hBW=>by
  obtain⟨g1,g3,g4⟩:=HST.out j (by omega) hr;exact jS B b (Bh st (F+A) (fs.take j)) F A j S f W hd g1 hgo (by omega) hBW (by omega))
 have HRN:Hid (∀(j:Nat),j<k→Nc st (F+A) (fs.take j)→BJ (Bh st (F+A) (fs.take j))=false→Nc st (F+A) (fs.take (j+1))):=Aa (fun j hjk hr hgo i hi=>by
  rw[xq.out (j+1) (by omega)]at hi;rw[List.take_take,Nat.min_eq_left (by omega)];by_cases hij:i=j
  · rw[hij];exact hgo
  · have h1:=hr i (by rw[xq.out j (by omega)];omega);rw[List.take_take,Nat.min_eq_left (by omega)]at h1;exact h1)
 have fo:Hid (Nc st (F+A) (fs.take 0)):=Aa (fun j hj=>by simp at hj);have cH:=fun W=>oH (some ⟨b,0,none⟩) F S A k W (by omega)
 rw[AX (by omega)]at cH;have HDB:Hid (∀W,Below w.heap.size w W→Dev B W b (Bh st (F+A) (fs.take 0))):=Aa (fun W hW=>h.below hW);have h1z:¬((A:Int)<1):=by omega
 have h2z:¬((n:Int)<1):=by omega
 have hd2:decide ((n:Int)<1)=false:=A7 h2z;have h3z:¬((60000:Int)<(n:Int)):=by omega
 have hd3:decide ((60000:Int)<(n:Int))=false:=A7 h3z;have HCL:Hid ((Co s.data.toList).length=k):=Aa (by rw[DK,BP];show(s.size+61)/62=k;rw[hn];exact hk);clear h hg ho hS hf hfs AaR hfl;go_enter Tryz.func95,Tryz.ntmps95;go_wp2_with fail;refine cO.mono ?_;rintro e w1 ⟨rfl,hb1⟩;have HB1:=Aa hb1;clear hb1 cO;go_upto_region 8 with fail;obtain⟨W0,hW0⟩:∃W0,w1.alloc (.cells #[.pointer (some ⟨b,0,none⟩),.int .i64 F,.int .i64 S] 218)=W0:=⟨_,rfl⟩;have HB2:Hid (Below w.heap.size w W0):=Aa (by rw[←hW0];exact HB1.out.alloc HB1.out.size _);have hC0:W0.heap[w1.heap.size]?=some (.cells #[.pointer (some ⟨b,0,none⟩),.int .i64 F,.int .i64 S] 218 (0,0)):=by rw[←hW0];exact Ai _ _
 have NI:w1.heap.size<W0.heap.size:=Ab hC0;have M6:=Aa hC0;have hS0:Below W0.heap.size W0 W0∧W0.cell? ⟨w1.heap.size,0,none⟩=some (.pointer (some ⟨b,0,none⟩))∧W0.cell? ⟨w1.heap.size,1,none⟩=some (.int .i64 F)∧W0.cell? ⟨w1.heap.size,2,none⟩=some (.int .i64 S):=⟨Ad _ _,by rw[AB _ _ _ _ _ _ hC0];rfl,by rw[AB _ _ _ _ _ _ hC0];rfl,by rw[AB _ _ _ _ _ _ hC0];rfl⟩;have j0:=hS0.2.1;have j1:=hS0.2.2.1;have j2:=hS0.2.2.2;rw[hW0];clear hC0 hW0;generalize w1.heap.size=g at *;go_region_held3 (fun W=>Below W0.heap.size W0 W∧W.cell? ⟨g,0,none⟩=some (.pointer (some ⟨b,0,none⟩))∧W.cell? ⟨g,1,none⟩=some (.int .i64 F)∧W.cell? ⟨g,2,none⟩=some (.int .i64 S)) (first|assumption|exact JB ‹_›|exact Ck NI ‹_› ‹_›) (first|(go_at_call 133;refine(cF _).mono ?_;rintro e w' ⟨rfl,rfl⟩)|(go_at_call 132;refine(cH _).mono ?_;rintro e w' ⟨rfl,hb⟩));rename_i hHeld;have HH9:=Aa hHeld.1;clear hS0 j0 j1 j2 hb hHeld cH;go_wp2_with fail;refine(cR.out _).mono ?_;rintro e w3 ⟨v,rfl,hown,hb3⟩;have HB3:Hid (Below W0.heap.size W0 w3):=Aa (HH9.out.trans (hb3.mono HH9.out.size));have xH:Hid (Below w.heap.size w w3):=Aa (HB2.out.trans (HB3.out.mono HB2.out.size));have HOW:=Aa hown;have HC3:Hid (w3.heap[g]?=some (.cells #[.pointer (some ⟨b,0,none⟩),.int .i64 F,.int .i64 S] 218 (0,0))):=Aa (by rw[HB3.out.block _ NI];exact M6.out);obtain⟨va,vc,rfl⟩:=(HSO.out _ _ _ hown).len;rw[zY.out]at HOW;clear hown hb3;rw[zY.out];go_wp2;go_loopw [47] (fun iv wr=>∃j:Nat,j≤k∧iv=.int .i64 j∧Nc st (F+A) (fs.take j)∧Dev B wr b (Bh st (F+A) (fs.take j))∧Below B w3 wr∧Off AZ w3 wr) (fun iv _=>k-(intOf iv).toNat)
 case atStart=>exact⟨0,by omega,rfl,fo.out,HDB.out _ xH.out,Ad _ _,Off.refl _ _⟩
 case round =>
  obtain⟨j,hj,rfl,hr,hd,hb,hoff⟩:=hrel;have HD:=Aa hd;have HB:=Aa hb;have HOf:=Aa hoff;have HR:=Aa hr;have GD:Hid (Below B w wr):=Aa ((xH.out.mono hB).trans hb);have Xw:Hid (Off AZ w wr):=Aa ((Off.Ar xH.out _).trans hoff);by_cases hjk:j<k
  · have hjz:(j:Int)<(k:Int):=by omega
    obtain⟨f,hfj⟩:∃f,fs[j]?=some f:=⟨_,Ci (by rw[zY.out];exact hjk)⟩;have hst:=HSO.out _ _ _ (K4 HOW.out (by decide) hoff);rw[show(Value.slice va k vc)=.slice va fs.length vc by rw[zY.out]]at hst;rw[zY.out]at hst;obtain⟨g2,o2,rfl,_,kc⟩:=hst.at hfj;have JI:=hoff 218 (by decide) _ _ _ HC3.out;have k0:wr.cell? ⟨g,0,none⟩=some (.pointer (some ⟨b,0,none⟩)):=by rw[AB _ _ _ _ _ _ JI];rfl
    have k1:wr.cell? ⟨g,1,none⟩=some (.int .i64 F):=by rw[AB _ _ _ _ _ _ JI];rfl
    have k2:wr.cell? ⟨g,2,none⟩=some (.int .i64 S):=by rw[AB _ _ _ _ _ _ JI];rfl
    have hAj:IntKind.i64.wrap ((A:Int)+(j:Int))=(A:Int)+(j:Int):=by rw[El];omega
    have HFJ:=Aa hfj;have rG:Hid (B≤wr.heap.size):=Aa (Al hB (Al xH.out.size HB.out.size));clear hst JI hfj hd hb hoff hr;cases hgo:BJ (Bh st (F+A) (fs.take j)) with
    | false =>
     have GK:=Aa hgo;clear hgo;go_wp2_with fail;refine(Ab'.out j f wr HFJ.out HR.out GK.out HD.out rG.out).mono ?_;rintro e w5 ⟨rfl,hd5,hb5,WL⟩;have HD5:=Aa hd5;have JG:Hid (Below B w3 w5):=Aa (HB.out.trans hb5);have Ze:Hid (Off AZ w3 w5):=Aa (HOf.out.trans WL);have qW:=Aa (HRN.out j hjk HR.out GK.out);clear hd5 hb5 WL k0 k1 k2 kc;go_wp2;go_roundw
     case rel=>exact⟨j+1,by omega,by first|rfl|go_num,qW.out,HD5.out,JG.out,Ze.out⟩
     case measure=>simp[intOf];omega
    | true =>
     have GK:=Aa hgo;clear hgo;go_wp2_with fail;refine(Abl.out j f wr hjk HR.out GK.out HD.out rG.out).mono ?_;rintro e w5 ⟨rfl,hd5,hb5,WL⟩;have HD5:=Aa hd5;have JG:Hid (Below B w w5):=Aa (GD.out.trans hb5);have Ze:Hid (Off AZ w w5):=Aa (Xw.out.trans WL);clear hd5 hb5 WL k0 k1 k2 kc;go_wp2;go_ret2;exact⟨j,by omega,Or.inr ⟨rfl,hjk,GK.out⟩,HR.out,HD5.out,JG.out,Ze.out⟩
  · have hjz:¬((j:Int)<(k:Int)):=by omega
    have uX:j=k:=by omega
    have hAk:IntKind.i64.wrap ((A:Int)+(k:Int))=(A:Int)+(k:Int):=by rw[El];omega
    have AbR:((A+k:Nat):Int)=(A:Int)+(k:Int):=by omega
    have xB:=Aa uX;clear hd hb hoff hr uX;go_wp2_with fail;refine(cF _).mono ?_;rintro e w5 ⟨rfl,rfl⟩;go_wp2;go_ret2;exact⟨j,hj,Or.inl ⟨by rw[AbR];rfl,xB.out⟩,HR.out,HD.out,GD.out,Xw.out⟩
def MF (st:St)(i k:Nat):Prop:=∀j,j<k→BJ (AP st i j)=false
theorem fF {st:St}{i:Nat}(hg:Good st)(hgo:BJ st=false)(hi:i<st.now.length) :
 Good (Gm st i)∧(Gm st i).lim=st.lim∧(Gm st i).now=st.now.set i BD∧(Gm st i).pend.length≤st.pend.length+1∧(Gm st i).safe=st.safe:=by
 unfold Gm;split
 · rename_i hz;refine⟨hg,rfl,?_,by omega,rfl⟩;apply List.ext_getElem?;intro j;by_cases hj:i=j
   · subst hj;rw[List.getElem?_set_self hi,Ci hi];rw[FK,Ci hi]at hz;exact Gu some hz
   · rw[Ji hj]
 · exact⟨Ip hg (EU hgo hi) rfl,rfl,rfl,by simp[BU],rfl⟩
theorem Hu {st:St}{i:Nat}(hg:Good st):∀k,i+k≤st.now.length→MF st i k →
 Good (AP st i k)∧(AP st i k).lim=st.lim∧(AP st i k).now=st.now.take i++List.replicate k BD++st.now.drop (i+k)∧(AP st i k).pend.length≤st.pend.length+k∧(AP st i k).safe=st.safe
 | 0,_,_=>⟨hg,rfl,by simp[AP],by simp[AP],rfl⟩
 | k+1,hk,hr=>by
  obtain⟨g1,g2,g3,g4,g5⟩:=Hu (i:=i) hg k (by omega) (fun j hj=>hr j (by omega));have hlen:(AP st i k).now.length=st.now.length:=by
   rw[g3];simp;omega
  obtain⟨e1,e2,e3,e4,e5⟩:=fF g1 (hr k (by omega)) (show i+k<(AP st i k).now.length by omega);refine⟨e1,e2.trans g2,?_,?_,e5.trans g5⟩
  · show(Gm (AP st i k) (i+k)).now=_
    rw[e3,g3];have hl1:(st.now.take i).length=i:=by rw[BV];omega
    rw[Cc,List.set_append,if_neg (by omega),hl1,show i+k-i=k by omega,List.set_append,if_neg (by simp),JL,Nat.sub_self];have hgp:i+k<st.now.length:=by omega
    rw[List.drop_eq_getElem_cons hgp,kI,List.replicate_succ'];simp[Nat.add_assoc]
  · show(Gm (AP st i k) (i+k)).pend.length≤_
    omega
set_option maxHeartbeats 4000000 in
theorem jP (B b:Nat)(st:St)(F i:Nat)(sz:Int)(w:World)(h:Dev B w b st)(hg:Good st)(hgo:BJ st=false)(hp:st.pend.length≤1000)(hB:B≤w.heap.size)(hi:F+i<st.now.length) :
 Calls Tryz.prog 131 #[.agg #[.pointer (some ⟨b,0,none⟩),.int .i64 F,.int .i64 sz],.int .i64 i] w fun e w'=>e=.returned (.int .i64 0)∧Dev B w' b (Gm st (F+i))∧Below B w w'∧Off AZ w w':=by
 have hf:=hg.few;obtain⟨x,hx⟩:∃x,st.now.getD (F+i) ⟨#[]⟩=x:=⟨_,rfl⟩;unfold Gm;rw[hx];have cG:Hid (∀W,Below w.heap.size w W→Calls Tryz.prog 162 #[.agg #[.pointer (some ⟨b,0,none⟩),.int .i64 F,.int .i64 sz],.int .i64 i] W fun e w'=>e=.returned (.tuple #[.string x,.int .i64 0])∧Below W.heap.size W w'):=Aa (fun W hW=>by
  have h1:=Xf B b st F sz i ((F+i:Nat):Int) W (h.below hW) hg (by omega) (by omega);rw[EU hgo hi,if_pos rfl,DW,hx]at h1;exact h1)
 have cP:Hid (∀W,Below w.heap.size w W→Calls Tryz.prog 135 #[.agg #[.pointer (some ⟨b,0,none⟩),.int .i64 F,.int .i64 sz],.int .i64 i,.string BD] W fun e w'=>e=.returned (.int .i64 0)∧Dev B w' b (BU st (F+i) BD)∧Below B W w'∧Off AZ W w'):=Aa (fun W hW=>by
  have h1:=Y1 B b st F i 0 sz BD W (h.below hW) hg hgo hp (Al hB hW.size) hi rfl;rw[show(i:Int)+((0:Nat):Int)=(i:Int) by omega]at h1;exact h1)
 have HD:Hid (∀W,Below w.heap.size w W→Dev B W b st):=Aa (fun W hW=>h.below hW);have cN:=U7;obtain⟨W0,hW0⟩:∃W0,w.alloc (.cells #[.pointer (some ⟨b,0,none⟩),.int .i64 F,.int .i64 sz] 218)=W0:=⟨_,rfl⟩;have HB0:Hid (Below w.heap.size w W0):=Aa (by rw[←hW0];exact(Ad _ _).alloc (Ae _) _);have Uf:Hid (W0.heap.size=w.heap.size+1):=Aa (by rw[←hW0];simp);have M6:Hid (W0.heap[w.heap.size]?=some (.cells #[.pointer (some ⟨b,0,none⟩),.int .i64 F,.int .i64 sz] 218 (0,0))):=Aa (by rw[←hW0];exact Ai _ _);have JK:Hid (Below W0.heap.size W0 W0∧W0.cell? ⟨w.heap.size,0,none⟩=some (.pointer (some ⟨b,0,none⟩))∧W0.cell? ⟨w.heap.size,1,none⟩=some (.int .i64 F)∧W0.cell? ⟨w.heap.size,2,none⟩=some (.int .i64 sz)):=Aa ⟨Ad _ _,by rw[AB _ _ _ _ _ _ M6.out];rfl,by rw[AB _ _ _ _ _ _ M6.out];rfl,by rw[AB _ _ _ _ _ _ M6.out];rfl⟩;have NI:w.heap.size<W0.heap.size:=by rw[Uf.out];omega
 have FJ:Hid (∀W,Below W0.heap.size W0 W→Below w.heap.size w W):=Aa (fun W hW=>HB0.out.trans (hW.mono (by rw[Uf.out];omega)));obtain⟨_,k0,k1,k2⟩:=JK.out;clear h hg hgo hp hi hf hx;by_cases hz:x=BD
 · subst hz;rw[if_pos rfl];clear cP;generalize hZ:BD=Z at *;go_enter Tryz.func131,Tryz.ntmps131;go_wp2_with fail;refine(cG.out _ HB0.out).mono ?_;rintro e w1 ⟨rfl,hb1⟩;have Uw:=Aa (Ck NI JK.out hb1);clear hb1 k0 k1 k2;go_wp2_with fail;refine(cN _).mono ?_;rintro e w2 ⟨rfl,hb2⟩;have HS2:=Aa (Ck NI Uw.out hb2);have xH:=Aa (FJ.out _ HS2.out.1);clear hb2 cN;go_wp2;go_ret;exact⟨rfl,HD.out _ xH.out,xH.out.mono hB,Off.Ar xH.out _⟩
 · rw[if_neg hz];have hne:=MJ hz;generalize BD=Z at *;clear hz;go_enter Tryz.func131,Tryz.ntmps131;go_wp2_with fail;refine(cG.out _ HB0.out).mono ?_;rintro e w1 ⟨rfl,hb1⟩;have Uw:=Aa (Ck NI JK.out hb1);clear hb1 k0 k1 k2;go_wp2_with fail;refine(cN _).mono ?_;rintro e w2 ⟨rfl,hb2⟩;have HS2:=Aa (Ck NI Uw.out hb2);clear hb2;obtain⟨_,j0,j1,j2⟩:=HS2.out;have q0:w2.drew.cell? ⟨w.heap.size,0,none⟩=some (.pointer (some ⟨b,0,none⟩)):=j0;have q1:w2.drew.cell? ⟨w.heap.size,1,none⟩=some (.int .i64 F):=j1;have q2:w2.drew.cell? ⟨w.heap.size,2,none⟩=some (.int .i64 sz):=j2;have HKK:Hid (∀w3,Below w2.drew.heap.size w2.drew w3→(w3.cell? ⟨w.heap.size,0,none⟩=some (.pointer (some ⟨b,0,none⟩))∧w3.cell? ⟨w.heap.size,1,none⟩=some (.int .i64 F)∧w3.cell? ⟨w.heap.size,2,none⟩=some (.int .i64 sz))∧Below w.heap.size w w3):=Aa (fun w3 hb3=>by
    have h1:=Ck NI (JB HS2.out) hb3;exact⟨h1.2,FJ.out _ h1.1⟩)
   go_wp2;go_region_with (first|(go_at_call 163;refine(cN _).mono ?_;rintro e w3 ⟨rfl,hb3⟩;obtain⟨⟨p0,p1,p2⟩,hbw⟩:=HKK.out _ hb3)|(go_at_call 135;refine(cP.out _ (by assumption)).mono ?_;rintro e w4 ⟨rfl,hd4,hb4,ho4⟩))
   all_goals (try go_wp2)
   all_goals go_ret
   all_goals exact⟨rfl,hd4,(hbw.mono hB).trans hb4,(Off.Ar hbw _).trans ho4⟩
set_option maxHeartbeats 4000000 in
theorem aR (B b:Nat)(st:St)(F i:Nat)(sz:Int)(w:World)(h:Dev B w b st)(hg:Good st)(hgo:BJ st=true)(hi:F+i≤1000000) :
 Calls Tryz.prog 131 #[.agg #[.pointer (some ⟨b,0,none⟩),.int .i64 F,.int .i64 sz],.int .i64 i] w fun e w'=>e=.returned (.int .i64 13)∧Below w.heap.size w w':=by
 have cG:Hid (∀W,Below w.heap.size w W→Calls Tryz.prog 162 #[.agg #[.pointer (some ⟨b,0,none⟩),.int .i64 F,.int .i64 sz],.int .i64 i] W fun e w'=>e=.returned (.tuple #[.string ⟨#[]⟩,.int .i64 13])∧Below W.heap.size W w'):=Aa (fun W hW=>by
  have h1:=Xf B b st F sz i ((F+i:Nat):Int) W (h.below hW) hg (by omega) (by omega);rw[MC hgo,if_neg (by decide)]at h1;exact h1)
 obtain⟨W0,hW0⟩:∃W0,w.alloc (.cells #[.pointer (some ⟨b,0,none⟩),.int .i64 F,.int .i64 sz] 218)=W0:=⟨_,rfl⟩;have HB0:Hid (Below w.heap.size w W0):=Aa (by rw[←hW0];exact(Ad _ _).alloc (Ae _) _);have M6:Hid (W0.heap[w.heap.size]?=some (.cells #[.pointer (some ⟨b,0,none⟩),.int .i64 F,.int .i64 sz] 218 (0,0))):=Aa (by rw[←hW0];exact Ai _ _);have k0:W0.cell? ⟨w.heap.size,0,none⟩=some (.pointer (some ⟨b,0,none⟩)):=by rw[AB _ _ _ _ _ _ M6.out];rfl
 have k1:W0.cell? ⟨w.heap.size,1,none⟩=some (.int .i64 F):=by rw[AB _ _ _ _ _ _ M6.out];rfl
 have k2:W0.cell? ⟨w.heap.size,2,none⟩=some (.int .i64 sz):=by rw[AB _ _ _ _ _ _ M6.out];rfl
 clear h hg hgo hi;go_enter Tryz.func131,Tryz.ntmps131;go_wp2_with fail;refine(cG.out _ HB0.out).mono ?_;rintro e w1 ⟨rfl,hb1⟩;have HB1:Hid (Below w.heap.size w w1):=Aa (HB0.out.trans (hb1.mono HB0.out.size));clear hb1 k0 k1 k2;go_wp2;go_ret;exact⟨rfl,HB1.out⟩
def fB (B b:Nat)(st:St)(i k:Nat)(w:World)(e:Ending)(w':World):Prop:=
 ∃j,j≤k∧(e=.returned (.int .i64 0)∧j=k∨e=.returned (.int .i64 13)∧j<k∧BJ (AP st i j)=true)∧MF st i j∧Dev B w' b (AP st i j)∧Below B w w'∧Off AZ w w'
set_option maxHeartbeats 8000000 in
theorem kR (B b:Nat)(st:St)(F S a:Nat)(at_:Int)(w:World)(h:Dev B w b st)(hg:Good st)(ho:Dt st F S=0)(hS:F+S≤st.now.length)(ha:max at_ 1=(a:Int))(hat:at_≤9223372036854775807)(hp:st.pend.length+S≤1000)(hB:B≤w.heap.size) :
 Calls Tryz.prog 94 #[.pointer (some ⟨b,0,none⟩),.int .i64 F,.int .i64 S,.int .i64 at_] w (fB B b st (F+a) (S-a) w):=by
 unfold fB;have cO:=Rc B b st F S w h hg ho;have hf:=hg.few;have rT:S≤4096:=by omega
 obtain⟨k,hk⟩:∃k,S-a=k:=⟨_,rfl⟩;rw[hk];have HW:Hid (∀j W,j<k→MF st (F+a) j→BJ (AP st (F+a) j)=false→Dev B W b (AP st (F+a) j)→B≤W.heap.size→Calls Tryz.prog 131 #[.agg #[.pointer (some ⟨b,0,none⟩),.int .i64 F,.int .i64 S],.int .i64 ((a:Int)+(j:Int))] W fun e w'=>e=.returned (.int .i64 0)∧Dev B w' b (AP st (F+a) (j+1))∧Below B W w'∧Off AZ W w'):=Aa (fun j W hj hr hgo hd hBW=>by
  obtain⟨g1,g2,g3,g4,_⟩:=Hu (i:=F+a) hg j (by omega) hr;have hlen:(AP st (F+a) j).now.length=st.now.length:=by
   rw[g3];simp;omega
  have h1:=jP B b (AP st (F+a) j) F (a+j) S W hd g1 hgo (by omega) hBW (by omega);rw[show((a+j:Nat):Int)=(a:Int)+(j:Int) by omega,show F+(a+j)=F+a+j by omega]at h1;exact h1)
 have HWG:Hid (∀j W,j<k→MF st (F+a) j→BJ (AP st (F+a) j)=true→Dev B W b (AP st (F+a) j)→Calls Tryz.prog 131 #[.agg #[.pointer (some ⟨b,0,none⟩),.int .i64 F,.int .i64 S],.int .i64 ((a:Int)+(j:Int))] W fun e w'=>e=.returned (.int .i64 13)∧Below W.heap.size W w'):=Aa (fun j W hj hr hgo hd=>by
  obtain⟨g1,g2,g3,g4,_⟩:=Hu (i:=F+a) hg j (by omega) hr;have h1:=aR B b (AP st (F+a) j) F (a+j) S W hd g1 hgo (by omega);rw[show((a+j:Nat):Int)=(a:Int)+(j:Int) by omega]at h1;exact h1)
 have HRN:Hid (∀j,MF st (F+a) j→BJ (AP st (F+a) j)=false→MF st (F+a) (j+1)):=Aa (fun j hr hgo i hi=>by
  by_cases hij:i=j
  · rw[hij];exact hgo
  · exact hr i (by omega))
 have fo:Hid (MF st (F+a) 0):=Aa (fun j hj=>by omega);have HDB:Hid (∀W,Below w.heap.size w W→Dev B W b (AP st (F+a) 0)):=Aa (fun W hW=>h.below hW);have ha9:(a:Int)≤9223372036854775807:=by omega
 have ha1:1≤a:=by omega
 clear h hg ho hS hf hp;go_enter Tryz.func94,Tryz.ntmps94;go_wp2_with fail;refine cO.mono ?_;rintro e w1 ⟨rfl,hb1⟩;have HB1:=Aa hb1;clear hb1 cO;go_wp2;obtain⟨W0,hW0⟩:∃W0,w1.alloc (.cells #[.pointer (some ⟨b,0,none⟩),.int .i64 F,.int .i64 S] 218)=W0:=⟨_,rfl⟩;have HB0:Hid (Below w.heap.size w W0):=Aa (by rw[←hW0];exact HB1.out.alloc HB1.out.size _);have M6:Hid (W0.heap[w1.heap.size]?=some (.cells #[.pointer (some ⟨b,0,none⟩),.int .i64 F,.int .i64 S] 218 (0,0))):=Aa (by rw[←hW0];exact Ai _ _);rw[hW0];clear hW0;generalize w1.heap.size=g at *
 try rw[ha]
 clear hat;go_loopw [11] (fun iv wr=>∃j:Nat,j≤k∧iv=.int .i64 ((a:Int)+(j:Int))∧MF st (F+a) j∧Dev B wr b (AP st (F+a) j)∧Below B w wr∧Off AZ W0 wr) (fun iv _=>S-(intOf iv).toNat)
 case atStart=>exact⟨0,by omega,by first|rfl|(rw[ha];congr 1)|(congr 1;omega),fo.out,HDB.out _ HB0.out,HB0.out.mono hB,Off.refl _ _⟩
 case round =>
  obtain⟨j,hj,rfl,hr,hd,hb,hoff⟩:=hrel;have HR:=Aa hr;have HD:=Aa hd;have HB:=Aa hb;have HOf:=Aa hoff;have JI:=hoff 218 (by decide) _ _ _ M6.out;have k0:wr.cell? ⟨g,0,none⟩=some (.pointer (some ⟨b,0,none⟩)):=by rw[AB _ _ _ _ _ _ JI];rfl
  have k1:wr.cell? ⟨g,1,none⟩=some (.int .i64 F):=by rw[AB _ _ _ _ _ _ JI];rfl
  have k2:wr.cell? ⟨g,2,none⟩=some (.int .i64 S):=by rw[AB _ _ _ _ _ _ JI];rfl
  clear JI hd hb hoff hr;by_cases hjk:a+j<S
  · have hjz:(a:Int)+(j:Int)<(S:Int):=by omega
    have haw:IntKind.i64.wrap ((a:Int)+(j:Int)+1)=(a:Int)+(j:Int)+1:=by rw[El];omega
    have rG:Hid (B≤wr.heap.size):=Aa (Al hB HB.out.size);have xB:Hid (j<k):=Aa (by omega);cases hgo:BJ (AP st (F+a) j) with
    | false =>
     have GK:=Aa hgo;clear hgo;go_wp2_with fail;refine(HW.out j wr xB.out HR.out GK.out HD.out rG.out).mono ?_;rintro e w5 ⟨rfl,hd5,hb5,WL⟩;have HD5:=Aa hd5;have qW:=Aa (HRN.out j HR.out GK.out);have JG:Hid (Below B w w5):=Aa (HB.out.trans hb5);have Ze:Hid (Off AZ W0 w5):=Aa (HOf.out.trans WL);clear hd5 hb5 WL k0 k1 k2;go_wp2;go_roundw
     case rel=>exact⟨j+1,by omega,by congr 1,qW.out,HD5.out,JG.out,Ze.out⟩
     case measure=>simp[intOf];omega
    | true =>
     have GK:=Aa hgo;clear hgo;go_wp2_with fail;refine(HWG.out j wr xB.out HR.out GK.out HD.out).mono ?_;rintro e w5 ⟨rfl,hb5⟩;have HD5:=Aa (HD.out.below hb5);have JG:Hid (Below B w w5):=Aa (HB.out.trans (hb5.mono rG.out));have Ze:Hid (Off AZ w w5):=Aa (((Off.Ar HB0.out _).trans HOf.out).trans (Off.Ar hb5 _));clear hb5 k0 k1 k2;go_wp2;go_ret;exact⟨j,Nat.le_of_lt xB.out,Or.inr ⟨rfl,xB.out,GK.out⟩,HR.out,HD5.out,JG.out,Ze.out⟩
  · have hjz:¬((a:Int)+(j:Int)<(S:Int)):=by omega
    have uX:j=k∨(k=0∧j=0):=by omega
    have xB:Hid (j=k):=Aa (by omega);clear uX;have Xw:Hid (Off AZ w wr):=Aa ((Off.Ar HB0.out _).trans HOf.out);go_wp2;go_ret;exact⟨j,hj,Or.inl ⟨rfl,xB.out⟩,HR.out,HD.out,HB.out,Xw.out⟩
set_option maxHeartbeats 2000000 in
theorem Vt (B b:Nat)(st:St)(k:Nat)(w:World)(h:Dev B w b st)(hg:Good st)(hgo:BJ st=false)(hk:k<st.now.length) :
 Calls Tryz.prog 92 #[.pointer (some ⟨b,0,none⟩),.int .i64 k] w fun e w'=>e=.returned (.tuple #[.int .u64 (AL (st.now.getD k ⟨#[]⟩)),.int .i64 0])∧Below w.heap.size w w':=by
 have cG:=YD B b st k w h hg;unfold G9 at cG;have ha:EW st.now.length st.lim st.left k=0:=EU hgo hk;rw[ha,if_pos rfl,DW]at cG;have hx:st.now[k]?=some (st.now.getD k ⟨#[]⟩):=by rw[FK,Ci hk];rfl
 have hxs:=hg.cu _ (Dr hx);generalize st.now.getD k ⟨#[]⟩=x at *;have cE:=jf x w hxs;generalize AL x=E at *;clear h hg hgo hk ha hx;go_enter Tryz.func92,Tryz.ntmps92;go_wp2_with fail;refine cG.mono ?_;rintro e w1 ⟨rfl,rfl⟩;go_wp2_with fail;refine cE.mono ?_;rintro e w2 ⟨rfl,hb2⟩;have HB2:=Aa hb2;clear hb2;go_wp2;go_ret2;exact⟨rfl,HB2.out⟩
set_option maxHeartbeats 2000000 in
theorem V9 (B b:Nat)(st:St)(k N:Nat)(w:World)(h:Dev B w b st)(hg:Good st)(hgo:BJ st=false)(hk:k<st.now.length)(hp:st.pend.length≤1000)(hB:B≤w.heap.size)(hN:N<18446744073709551616) :
 Calls Tryz.prog 153 #[.pointer (some ⟨b,0,none⟩),.int .i64 k,.int .u64 N] w fun e w'=>e=.returned (.int .i64 0)∧Dev B w' b (BU st k (C8 N))∧Below B w w'∧Off AZ w w':=by
 have ha:EW st.now.length st.lim st.left k=0:=EU hgo hk;have hq:Dn st k (C8 N)=0:=by
  unfold Dn;rw[if_pos ha,if_pos (H9 N)]
 have cP:Hid (∀W,Below w.heap.size w W→Calls Tryz.prog 165 #[.pointer (some ⟨b,0,none⟩),.int .i64 k,.string (C8 N)] W fun e w'=>e=.returned (.int .i64 0)∧Dev B w' b (BU st k (C8 N))∧Below B W w'∧Off AZ W w'):=Aa (fun W hW=>by
  have h1:=UZ B b st k (C8 N) W (h.below hW) hg hp (Al hB hW.size);unfold EC at h1;rw[hq,if_pos rfl,DW]at h1;exact h1)
 have cH:=ai N w hN;generalize C8 N=Z at *;clear h hg hgo hk ha hq hp;go_enter Tryz.func153,Tryz.ntmps153;go_wp2_with fail;refine cH.mono ?_;rintro e w1 ⟨rfl,hb1⟩;have HB1:=Aa hb1;clear hb1;go_wp2_with fail;refine(cP.out _ HB1.out).mono ?_;rintro e w2 ⟨rfl,hd,hb,ho⟩;have HD:=Aa hd;have HB2:Hid (Below B w w2):=Aa ((HB1.out.mono hB).trans hb);have IL:Hid (Off AZ w w2):=Aa ((Off.Ar HB1.out _).trans ho);clear hd hb ho;go_wp2;go_ret;exact⟨rfl,HD.out,HB2.out,IL.out⟩
set_option maxHeartbeats 2000000 in
theorem Ul (B b:Nat)(st:St)(k:Int)(N:Nat)(w:World)(h:Dev B w b st)(hg:Good st)(hgo:BJ st=true)(hp:st.pend.length≤1000)(hB:B≤w.heap.size)(hN:N<18446744073709551616) :
 Calls Tryz.prog 153 #[.pointer (some ⟨b,0,none⟩),.int .i64 k,.int .u64 N] w fun e w'=>e=.returned (.int .i64 13)∧Dev B w' b st∧Below B w w'∧Off AZ w w':=by
 have hq:Dn st k (C8 N)=13:=by
  unfold Dn;rw[MC hgo,if_neg (by decide)]
 have cP:Hid (∀W,Below w.heap.size w W→Calls Tryz.prog 165 #[.pointer (some ⟨b,0,none⟩),.int .i64 k,.string (C8 N)] W fun e w'=>e=.returned (.int .i64 13)∧Dev B w' b st∧Below B W w'∧Off AZ W w'):=Aa (fun W hW=>by
  have h1:=UZ B b st k (C8 N) W (h.below hW) hg hp (Al hB hW.size);unfold EC at h1;rw[hq,if_neg (by decide)]at h1;exact h1)
 have cH:=ai N w hN;generalize C8 N=Z at *;clear h hg hgo hq hp;go_enter Tryz.func153,Tryz.ntmps153;go_wp2_with fail;refine cH.mono ?_;rintro e w1 ⟨rfl,hb1⟩;have HB1:=Aa hb1;clear hb1;go_wp2_with fail;refine(cP.out _ HB1.out).mono ?_;rintro e w2 ⟨rfl,hd,hb,ho⟩;have HD:=Aa hd;have HB2:Hid (Below B w w2):=Aa ((HB1.out.mono hB).trans hb);have IL:Hid (Off AZ w w2):=Aa ((Off.Ar HB1.out _).trans ho);clear hd hb ho;go_wp2;go_ret;exact⟨rfl,HD.out,HB2.out,IL.out⟩
theorem aX {st:St}{F S A:Nat}{fs:List ByteArray}(hS:F+S≤st.now.length)(hA:A+fs.length≤S):G7 (Bh st (F+A) fs) F S=(G7 st F S).take A++fs++(G7 st F S).drop (A+fs.length):=by
 unfold G7;rw[Kl fs st (F+A) (by omega)];have e1:(st.now.take (F+A)++fs++st.now.drop (F+A+fs.length)).drop F=(st.now.drop F).take A++fs++(st.now.drop F).drop (A+fs.length):=by
  rw[Cc,List.drop_append,BV,Nat.min_eq_left (by omega),show F-(F+A)=0 by omega,List.drop_zero,List.drop_take,show F+A-F=A by omega,List.drop_drop,Cc,show F+(A+fs.length)=F+A+fs.length by omega]
 rw[e1];have hl:(st.now.drop F).length=st.now.length-F:=D8;generalize st.now.drop F=N at *;rw[List.take_append,List.take_append,Bg,BV,Nat.min_eq_left (by omega),CO (l:=N.take A) (by rw[BV];omega),CO (l:=fs) (by omega),List.take_take,Nat.min_eq_left (by omega),List.drop_take]
theorem Ic (a b:List ByteArray):Ac (a++b)=Ac a++Ac b:=by unfold Ac;rw[List.map_append]
def recs (rs:List ByteArray):List (List UInt8):=Ac rs
theorem XM:∀m,DY (List.replicate m FO)=[]
 | 0=>Gw (Or.inl rfl)
 | m+1=>by
  rw[List.replicate_succ];exact Gw (Or.inr (PS _))
theorem Uz (m:Nat):∀f∈List.replicate m FO,f.length=64:=fun f hf=>by
 rw[(List.mem_replicate.1 hf).2];rfl
def Holds (st:St)(F k:Nat)(rs:List ByteArray):Prop:=∃h m,Ac (G7 st F k)=h::(Ce (recs rs)++List.replicate m FO)
theorem Holds.scan {st:St}{F k:Nat}{rs:List ByteArray}(h:Holds st F k rs)(hr:∀s∈rs,1≤s.size∧s.size≤60000):DY ((Ac (G7 st F k)).drop 1)=recs rs:=by
 obtain⟨h0,m,he⟩:=h;rw[he];show DY (Ce (recs rs)++List.replicate m FO)=_
 rw[UN _ _ (fun r hr2=>by
  obtain⟨s,hs,rfl⟩:=Cy.1 hr2;have:=hr s hs;have hl:s.data.toList.length=s.size:=BP;exact⟨fun e=>by rw[e]at hl;simp at hl;omega,by omega⟩) (Uz m),XM,Ct]
theorem E9 (a b:List ByteArray):recs (a++b)=recs a++recs b:=Ic a b
theorem FX (a b:List (List UInt8)):Ce (a++b)=Ce a++Ce b:=by unfold Ce;rw[FL]
theorem Jq (s:ByteArray):Ce (recs [s])=Co s.data.toList:=by
 show(Co s.data.toList++[])=_
 rw[Ct]
theorem Holds.put {st:St}{F k A:Nat}{rs:List ByteArray}{s:ByteArray}(h:Holds st F k rs)(hS:F+k≤st.now.length)(hA:A=1+(Ce (recs rs)).length)(hk:A+(s.size+61)/62≤k):Holds (Bh st (F+A) (Bu s)) F k (rs++[s]):=by
 obtain⟨h0,m,he⟩:=h;have hfl:=Cf s;refine⟨h0,m-(s.size+61)/62,?_⟩;rw[aX hS (by omega),Ic,Ic,JX,QK,he,Nq,hfl];have hcl:(Co s.data.toList).length=(s.size+61)/62:=by rw[DK,BP];rfl
 rw[hA,Nat.add_comm 1,List.take_succ_cons,List.take_left',show(Ce (recs rs)).length+1+(s.size+61)/62=((Ce (recs rs)).length+(s.size+61)/62)+1 by omega,List.drop_succ_cons,E9,FX,Jq]
 · rw[List.drop_append,List.drop_eq_nil_of_le (by omega),Hm,show(Ce (recs rs)).length+(s.size+61)/62-(Ce (recs rs)).length=(s.size+61)/62 by omega,List.drop_replicate];simp
 · rfl
theorem Aah (F k:Nat)(hk:1≤k):Holds (Ho (F+k)) F k []:=by
 refine⟨FO,k-1,?_⟩;unfold G7 Ho;simp only[List.drop_replicate,List.take_replicate,Nat.add_sub_cancel_left,Nat.min_self];obtain⟨j,rfl⟩:∃j,k=j+1:=⟨k-1,by omega⟩;unfold Ac;rw[List.map_replicate,show BD.data.toList=FO by decide +kernel,List.replicate_succ];rfl
theorem Pe (k:Nat):Ac (List.replicate k BD)=List.replicate k FO:=by
 unfold Ac;rw[List.map_replicate,show BD.data.toList=FO by decide +kernel]
end Go.Proofs.YtdmkhmeaphaapaaGreat.V
