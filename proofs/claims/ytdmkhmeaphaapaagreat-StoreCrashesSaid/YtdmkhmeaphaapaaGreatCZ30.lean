/- Kit. -/
import Derived.Test.YtdmkhmeaphaapaaGreatCZ29
import Derived.Test.YtdmkhmeaphaapaaGreatCZ0
set_option maxRecDepth 100000
set_option linter.unusedVariables false
set_option linter.unusedSimpArgs false
namespace Go.Proofs.YtdmkhmeaphaapaaGreat.V
open Go.RowKit Go.Sort
def Nv (st:St)(i:Nat)(fs:List ByteArray):Prop:=∀j,j<fs.length→BJ (Bj st i (fs.take j))=false
theorem G8 {fs:List ByteArray}{j:Nat}{f:ByteArray}(st:St)(i:Nat)(hf:fs[j]?=some f):Bj st i (fs.take (j+1))=BV (Bj st i (fs.take j)) (i+j) f:=by
 have hj:=(DL.1 hf).1;rw[List.take_add_one,hf];show Bj st i (fs.take j++[f])=_
 rw[QD,Cc,Nat.min_eq_left (by omega)]
theorem KA {st:St}{i:Nat}{fs:List ByteArray}(hg:Good st)(hi:i+fs.length≤st.now.length)(hs:∀f∈fs,f.size=64)(hr:Nv st i fs):∀j,j≤fs.length →
 Good (Bj st i (fs.take j))∧(Bj st i (fs.take j)).lim=st.lim∧(Bj st i (fs.take j)).now.length=st.now.length∧(Bj st i (fs.take j)).pend.length=st.pend.length+j∧(Bj st i (fs.take j)).safe=st.safe
 | 0,_=>⟨hg,rfl,rfl,rfl,rfl⟩
 | j+1,hj=>by
  obtain⟨g1,g2,g3,g4,g5⟩:=KA hg hi hs hr j (by omega);obtain⟨f,hf⟩:∃f,fs[j]?=some f:=⟨_,Co (by omega)⟩;rw[G8 st i hf];refine⟨IG g1 (E9 (hr j (by omega)) (by omega)) (hs f (CU hf)),g2,by rw[←g3];simp[BV],?_,g5⟩;simp[BV];omega
theorem ZE (B b:Nat)(st:St)(F A j:Nat)(sz:Int)(f:ByteArray)(W:World)(h:Dev B W b st)(hg:Good st)(hgo:BJ st=false)(hp:st.pend.length≤1000)(hB:B≤W.heap.size)(hi:F+A+j<st.now.length)(hf:f.size=64) :
 Calls Tryz.prog 135 #[.agg #[.pointer (some ⟨b,0,none⟩),.int .i64 F,.int .i64 sz],.int .i64 ((A:Int)+(j:Int)),.string f] W fun e w'=>e=.returned (.int .i64 0)∧Dev B w' b (BV st (F+A+j) f)∧Below B W w'∧Off AZ W w':=by
 have hq:Dq st ((F+A+j:Nat):Int) f=0:=by
  unfold Dq;rw[if_pos (E9 hgo hi),if_pos hf]
 have Adx:=hg.few;have h1:=sS B b st F sz ((A:Int)+(j:Int)) ((F+A+j:Nat):Int) f W h hg hp hB (by omega) (by omega);unfold ED at h1;rw[hq,if_pos rfl,DY]at h1;exact h1
theorem MM {st:St}(h:BJ st=true)(n:Nat)(i:Int):Fa n st.lim st.left i=13:=by
 unfold BJ at h;unfold Fa;rw[if_pos h]
theorem lM (B b:Nat)(st:St)(F A j:Nat)(sz:Int)(f:ByteArray)(W:World)(h:Dev B W b st)(hg:Good st)(hgo:BJ st=true)(hp:st.pend.length≤1000)(hB:B≤W.heap.size)(hi:F+A+j≤1000000) :
 Calls Tryz.prog 135 #[.agg #[.pointer (some ⟨b,0,none⟩),.int .i64 F,.int .i64 sz],.int .i64 ((A:Int)+(j:Int)),.string f] W fun e w'=>e=.returned (.int .i64 13)∧Dev B w' b st∧Below B W w'∧Off AZ W w':=by
 have hq:Dq st ((F+A+j:Nat):Int) f=13:=by
  unfold Dq;rw[MM hgo,if_neg (by decide)]
 have h1:=sS B b st F sz ((A:Int)+(j:Int)) ((F+A+j:Nat):Int) f W h hg hp hB (by omega) (by omega);unfold ED at h1;rw[hq,if_neg (by decide)]at h1;exact h1
def Kj (B b:Nat)(st:St)(F A k:Nat)(fs:List ByteArray)(w:World)(e:Ending)(w':World):Prop:=
 ∃j,j≤k∧(e=.returned (.tuple #[.int .i64 ((A+k:Nat):Int),.int .i64 0])∧j=k∨e=.returned (.tuple #[.int .i64 0,.int .i64 13])∧j<k∧BJ (Bj st (F+A) (fs.take j))=true)∧Nv st (F+A) (fs.take j)∧Dev B w' b (Bj st (F+A) (fs.take j))∧Below B w w'∧Off AZ w w'
set_option maxHeartbeats 8000000 in
theorem iK (B b:Nat)(st:St)(F S A:Nat)(s:ByteArray)(w:World)(h:Dev B w b st)(hg:Good st)(ho:Du st F S=0)(hS:F+S≤st.now.length)(hA:1≤A)(hn1:1≤s.size)(hn6:s.size≤60000)(hkA:A+(s.size+61)/62≤S)(hp:st.pend.length+(s.size+61)/62≤1000)(hB:B≤w.heap.size) :
 Calls Tryz.prog 95 #[.pointer (some ⟨b,0,none⟩),.int .i64 F,.int .i64 S,.int .i64 A,.string s] w (Kj B b st F A ((s.size+61)/62) (BF s) w):=by
 unfold Kj;have cO:=Rv B b st F S w h hg ho;have hf:=hg.few;have uM:S≤4096:=by omega
 obtain⟨n,hn⟩:∃n,s.size=n:=⟨_,rfl⟩;have hfl:=CP s;have hfs:=EB s;have cR:Hid (∀W,Calls Tryz.prog 134 #[.string s] W fun e w'=>∃v,e=.returned v∧w'.ownsRow W.heap.size 9 1 v (Cs s.data.toList).length (UO (Cs s.data.toList))∧Below W.heap.size W w'):=Aa (fun W=>Zi s W hn6);have HSO:Hid (∀(B:Nat) W v,W.ownsRow B 9 1 v (Cs s.data.toList).length (UO (Cs s.data.toList))→Eo W v (BF s)):=Aa (fun B W v hv=>OI hv);rw[hn]at hn1 hn6 hkA hp hfl ⊢;have HN:=Aa hn;obtain⟨k,hk⟩:∃k,(n+61)/62=k:=⟨_,rfl⟩;have cF:=fun W=>KQ (n:Int) W (by omega)
 rw[GU]at cF;rw[hk]at hkA hp hfl cF ⊢;obtain⟨fs,AbB⟩:∃fs,BF s=fs:=⟨_,rfl⟩;rw[AbB]at hfl hfs HSO ⊢;have HFL:=Aa hfl;have y7:Hid (∀j,j≤k→(fs.take j).length=j):=Aa (fun j hj=>by rw[Cc];omega);have HST:Hid (∀j,j≤k→Nv st (F+A) (fs.take j)→Good (Bj st (F+A) (fs.take j))∧(Bj st (F+A) (fs.take j)).now.length=st.now.length∧(Bj st (F+A) (fs.take j)).pend.length=st.pend.length+j):=Aa (fun j hj hr=>by
  have hl:=y7.out j hj;have h1:=KA (st:=st) (i:=F+A) (fs:=fs.take j) hg (by omega) (fun f hf=>hfs f (List.mem_of_mem_take hf)) hr j (by omega);rw[List.take_take,Nat.min_self]at h1;exact⟨h1.1,h1.2.2.1,h1.2.2.2.1⟩)
 have AcS:Hid (∀(j:Nat) (f:ByteArray) W,fs[j]?=some f→Nv st (F+A) (fs.take j)→BJ (Bj st (F+A) (fs.take j))=false→Dev B W b (Bj st (F+A) (fs.take j))→B≤W.heap.size→Calls Tryz.prog 135 #[.agg #[.pointer (some ⟨b,0,none⟩),.int .i64 F,.int .i64 S],.int .i64 ((A:Int)+(j:Int)),.string f] W fun e w'=>e=.returned (.int .i64 0)∧Dev B w' b (Bj st (F+A) (fs.take (j+1)))∧Below B W w'∧Off AZ W w'):=Aa (fun j f W hj hr hgo hd hBW=>by
  have hjk:j<k:=by have:=(DL.1 hj).1;omega
  obtain⟨g1,g3,g4⟩:=HST.out j (by omega) hr;have h1:=ZE B b (Bj st (F+A) (fs.take j)) F A j S f W hd g1 hgo (by omega) hBW (by omega) (hfs f (CU hj));rw[G8 st (F+A) hj];exact h1)
 have Ab7:Hid (∀(j:Nat) (f:ByteArray) W,j<k→Nv st (F+A) (fs.take j)→BJ (Bj st (F+A) (fs.take j))=true→Dev B W b (Bj st (F+A) (fs.take j))→B≤W.heap.size→Calls Tryz.prog 135 #[.agg #[.pointer (some ⟨b,0,none⟩),.int .i64 F,.int .i64 S],.int .i64 ((A:Int)+(j:Int)),.string f] W fun e w'=>e=.returned (.int .i64 13)∧Dev B w' b (Bj st (F+A) (fs.take j))∧Below B W w'∧Off AZ W w'):=Aa (fun j f W hjk hr hgo hd hBW=>by
  obtain⟨g1,g3,g4⟩:=HST.out j (by omega) hr;exact lM B b (Bj st (F+A) (fs.take j)) F A j S f W hd g1 hgo (by omega) hBW (by omega))
 have HRN:Hid (∀(j:Nat),j<k→Nv st (F+A) (fs.take j)→BJ (Bj st (F+A) (fs.take j))=false→Nv st (F+A) (fs.take (j+1))):=Aa (fun j hjk hr hgo i hi=>by
  rw[y7.out (j+1) (by omega)]at hi;rw[List.take_take,Nat.min_eq_left (by omega)];by_cases hij:i=j
  · rw[hij];exact hgo
  · have h1:=hr i (by rw[y7.out j (by omega)];omega);rw[List.take_take,Nat.min_eq_left (by omega)]at h1;exact h1)
 have iw:Hid (Nv st (F+A) (fs.take 0)):=Aa (fun j hj=>by simp at hj);have cH:=fun W=>qG (some ⟨b,0,none⟩) F S A k W (by omega)
 rw[A8 (by omega)]at cH;have HDB:Hid (∀W,Below w.heap.size w W→Dev B W b (Bj st (F+A) (fs.take 0))):=Aa (fun W hW=>h.below hW);have h1z:¬((A:Int)<1):=by omega
 have h2z:¬((n:Int)<1):=by omega
 have hd2:decide ((n:Int)<1)=false:=Bb h2z;have h3z:¬((60000:Int)<(n:Int)):=by omega
 have hd3:decide ((60000:Int)<(n:Int))=false:=Bb h3z;have HCL:Hid ((Cs s.data.toList).length=k):=Aa (by rw[Dp,BQ];show(s.size+61)/62=k;rw[hn];exact hk);clear h hg ho hS hf hfs AbB hfl;go_enter Tryz.func95,Tryz.ntmps95;go_wp2_with fail;refine cO.mono ?_;rintro e w1 ⟨rfl,hb1⟩;have HB1:=Aa hb1;clear hb1 cO;go_upto_region 8 with fail;obtain⟨W0,hW0⟩:∃W0,w1.alloc (.cells #[.pointer (some ⟨b,0,none⟩),.int .i64 F,.int .i64 S] 218)=W0:=⟨_,rfl⟩;have HB2:Hid (Below w.heap.size w W0):=Aa (by rw[←hW0];exact HB1.out.alloc HB1.out.size _);have hC0:W0.heap[w1.heap.size]?=some (.cells #[.pointer (some ⟨b,0,none⟩),.int .i64 F,.int .i64 S] 218 (0,0)):=by rw[←hW0];exact Ai _ _
 have Oa:w1.heap.size<W0.heap.size:=Ab hC0;have Nn:=Aa hC0;have hS0:Below W0.heap.size W0 W0∧W0.cell? ⟨w1.heap.size,0,none⟩=some (.pointer (some ⟨b,0,none⟩))∧W0.cell? ⟨w1.heap.size,1,none⟩=some (.int .i64 F)∧W0.cell? ⟨w1.heap.size,2,none⟩=some (.int .i64 S):=⟨Ad _ _,by rw[AB _ _ _ _ _ _ hC0];rfl,by rw[AB _ _ _ _ _ _ hC0];rfl,by rw[AB _ _ _ _ _ _ hC0];rfl⟩;have j0:=hS0.2.1;have j1:=hS0.2.2.1;have j2:=hS0.2.2.2;rw[hW0];clear hC0 hW0;generalize w1.heap.size=g at *;go_region_held3 (fun W=>Below W0.heap.size W0 W∧W.cell? ⟨g,0,none⟩=some (.pointer (some ⟨b,0,none⟩))∧W.cell? ⟨g,1,none⟩=some (.int .i64 F)∧W.cell? ⟨g,2,none⟩=some (.int .i64 S)) (first|assumption|exact JL ‹_›|exact Cr Oa ‹_› ‹_›) (first|(go_at_call 133;refine(cF _).mono ?_;rintro e w' ⟨rfl,rfl⟩)|(go_at_call 132;refine(cH _).mono ?_;rintro e w' ⟨rfl,hb⟩));rename_i hHeld;have HH9:=Aa hHeld.1;clear hS0 j0 j1 j2 hb hHeld cH;go_wp2_with fail;refine(cR.out _).mono ?_;rintro e w3 ⟨v,rfl,hown,hb3⟩;have HB3:Hid (Below W0.heap.size W0 w3):=Aa (HH9.out.trans (hb3.mono HH9.out.size));have zB:Hid (Below w.heap.size w w3):=Aa (HB2.out.trans (HB3.out.mono HB2.out.size));have HOW:=Aa hown;have HC3:Hid (w3.heap[g]?=some (.cells #[.pointer (some ⟨b,0,none⟩),.int .i64 F,.int .i64 S] 218 (0,0))):=Aa (by rw[HB3.out.block _ Oa];exact Nn.out);obtain⟨va,vc,rfl⟩:=(HSO.out _ _ _ hown).len;rw[HFL.out]at HOW;clear hown hb3;rw[HFL.out];go_wp2;go_loopw [47] (fun iv wr=>∃j:Nat,j≤k∧iv=.int .i64 j∧Nv st (F+A) (fs.take j)∧Dev B wr b (Bj st (F+A) (fs.take j))∧Below B w3 wr∧Off AZ w3 wr) (fun iv _=>k-(intOf iv).toNat)
 case atStart=>exact⟨0,by omega,rfl,iw.out,HDB.out _ zB.out,Ad _ _,Off.refl _ _⟩
 case round =>
  obtain⟨j,hj,rfl,hr,hd,hb,hoff⟩:=hrel;have HD:=Aa hd;have HB:=Aa hb;have HOf:=Aa hoff;have HR:=Aa hr;have GN:Hid (Below B w wr):=Aa ((zB.out.mono hB).trans hb);have X7:Hid (Off AZ w wr):=Aa ((Off.Ar zB.out _).trans hoff);by_cases hjk:j<k
  · have hjz:(j:Int)<(k:Int):=by omega
    obtain⟨f,hfj⟩:∃f,fs[j]?=some f:=⟨_,Co (by rw[HFL.out];exact hjk)⟩;have hst:=HSO.out _ _ _ (Lc HOW.out (by decide) hoff);rw[show(Value.slice va k vc)=.slice va fs.length vc by rw[HFL.out]]at hst;rw[HFL.out]at hst;obtain⟨g2,o2,rfl,_,kc⟩:=hst.at hfj;have JU:=hoff 218 (by decide) _ _ _ HC3.out;have k0:wr.cell? ⟨g,0,none⟩=some (.pointer (some ⟨b,0,none⟩)):=by rw[AB _ _ _ _ _ _ JU];rfl
    have k1:wr.cell? ⟨g,1,none⟩=some (.int .i64 F):=by rw[AB _ _ _ _ _ _ JU];rfl
    have k2:wr.cell? ⟨g,2,none⟩=some (.int .i64 S):=by rw[AB _ _ _ _ _ _ JU];rfl
    have hAj:IntKind.i64.wrap ((A:Int)+(j:Int))=(A:Int)+(j:Int):=by rw[El];omega
    have HFJ:=Aa hfj;have uD:Hid (B≤wr.heap.size):=Aa (Ao hB (Ao zB.out.size HB.out.size));clear hst JU hfj hd hb hoff hr;cases hgo:BJ (Bj st (F+A) (fs.take j)) with
    | false =>
     have Ht:=Aa hgo;clear hgo;go_wp2_with fail;refine(AcS.out j f wr HFJ.out HR.out Ht.out HD.out uD.out).mono ?_;rintro e w5 ⟨rfl,hd5,hb5,Xn⟩;have HD5:=Aa hd5;have I4:Hid (Below B w3 w5):=Aa (HB.out.trans hb5);have ZX:Hid (Off AZ w3 w5):=Aa (HOf.out.trans Xn);have dX:=Aa (HRN.out j hjk HR.out Ht.out);clear hd5 hb5 Xn k0 k1 k2 kc;go_wp2;go_roundw
     case rel=>exact⟨j+1,by omega,by first|rfl|go_num,dX.out,HD5.out,I4.out,ZX.out⟩
     case measure=>simp[intOf];omega
    | true =>
     have Ht:=Aa hgo;clear hgo;go_wp2_with fail;refine(Ab7.out j f wr hjk HR.out Ht.out HD.out uD.out).mono ?_;rintro e w5 ⟨rfl,hd5,hb5,Xn⟩;have HD5:=Aa hd5;have I4:Hid (Below B w w5):=Aa (GN.out.trans hb5);have ZX:Hid (Off AZ w w5):=Aa (X7.out.trans Xn);clear hd5 hb5 Xn k0 k1 k2 kc;go_wp2;go_ret2;exact⟨j,by omega,Or.inr ⟨rfl,hjk,Ht.out⟩,HR.out,HD5.out,I4.out,ZX.out⟩
  · have hjz:¬((j:Int)<(k:Int)):=by omega
    have xm:j=k:=by omega
    have hAk:IntKind.i64.wrap ((A:Int)+(k:Int))=(A:Int)+(k:Int):=by rw[El];omega
    have AcH:((A+k:Nat):Int)=(A:Int)+(k:Int):=by omega
    have zq:=Aa xm;clear hd hb hoff hr xm;go_wp2_with fail;refine(cF _).mono ?_;rintro e w5 ⟨rfl,rfl⟩;go_wp2;go_ret2;exact⟨j,hj,Or.inl ⟨by rw[AcH];rfl,zq.out⟩,HR.out,HD.out,GN.out,X7.out⟩
def MO (st:St)(i k:Nat):Prop:=∀j,j<k→BJ (AQ st i j)=false
theorem iL {st:St}{i:Nat}(hg:Good st)(hgo:BJ st=false)(hi:i<st.now.length) :
 Good (Gv st i)∧(Gv st i).lim=st.lim∧(Gv st i).now=st.now.set i BC∧(Gv st i).pend.length≤st.pend.length+1∧(Gv st i).safe=st.safe:=by
 unfold Gv;split
 · rename_i hz;refine⟨hg,rfl,?_,by omega,rfl⟩;apply List.ext_getElem?;intro j;by_cases hj:i=j
   · subst hj;rw[List.getElem?_set_self hi,Co hi];rw[Gi,Co hi]at hz;exact Gu some hz
   · rw[Jr hj]
 · exact⟨IG hg (E9 hgo hi) rfl,rfl,rfl,by simp[BV],rfl⟩
theorem H9 {st:St}{i:Nat}(hg:Good st):∀k,i+k≤st.now.length→MO st i k →
 Good (AQ st i k)∧(AQ st i k).lim=st.lim∧(AQ st i k).now=st.now.take i++List.replicate k BC++st.now.drop (i+k)∧(AQ st i k).pend.length≤st.pend.length+k∧(AQ st i k).safe=st.safe
 | 0,_,_=>⟨hg,rfl,by simp[AQ],by simp[AQ],rfl⟩
 | k+1,hk,hr=>by
  obtain⟨g1,g2,g3,g4,g5⟩:=H9 (i:=i) hg k (by omega) (fun j hj=>hr j (by omega));have hlen:(AQ st i k).now.length=st.now.length:=by
   rw[g3];simp;omega
  obtain⟨e1,e2,e3,e4,e5⟩:=iL g1 (hr k (by omega)) (show i+k<(AQ st i k).now.length by omega);refine⟨e1,e2.trans g2,?_,?_,e5.trans g5⟩
  · show(Gv (AQ st i k) (i+k)).now=_
    rw[e3,g3];have hl1:(st.now.take i).length=i:=by rw[Cc];omega
    rw[Ch,List.set_append,if_neg (by omega),hl1,show i+k-i=k by omega,List.set_append,if_neg (by simp),JX,Nat.sub_self];have hgp:i+k<st.now.length:=by omega
    rw[List.drop_eq_getElem_cons hgp,mJ,List.replicate_succ'];simp[Nat.add_assoc]
  · show(Gv (AQ st i k) (i+k)).pend.length≤_
    omega
set_option maxHeartbeats 4000000 in
theorem lJ (B b:Nat)(st:St)(F i:Nat)(sz:Int)(w:World)(h:Dev B w b st)(hg:Good st)(hgo:BJ st=false)(hp:st.pend.length≤1000)(hB:B≤w.heap.size)(hi:F+i<st.now.length) :
 Calls Tryz.prog 131 #[.agg #[.pointer (some ⟨b,0,none⟩),.int .i64 F,.int .i64 sz],.int .i64 i] w fun e w'=>e=.returned (.int .i64 0)∧Dev B w' b (Gv st (F+i))∧Below B w w'∧Off AZ w w':=by
 have hf:=hg.few;obtain⟨x,hx⟩:∃x,st.now.getD (F+i) ⟨#[]⟩=x:=⟨_,rfl⟩;unfold Gv;rw[hx];have cG:Hid (∀W,Below w.heap.size w W→Calls Tryz.prog 162 #[.agg #[.pointer (some ⟨b,0,none⟩),.int .i64 F,.int .i64 sz],.int .i64 i] W fun e w'=>e=.returned (.tuple #[.string x,.int .i64 0])∧Below W.heap.size W w'):=Aa (fun W hW=>by
  have h1:=XG B b st F sz i ((F+i:Nat):Int) W (h.below hW) hg (by omega) (by omega);rw[E9 hgo hi,if_pos rfl,DY,hx]at h1;exact h1)
 have cP:Hid (∀W,Below w.heap.size w W→Calls Tryz.prog 135 #[.agg #[.pointer (some ⟨b,0,none⟩),.int .i64 F,.int .i64 sz],.int .i64 i,.string BC] W fun e w'=>e=.returned (.int .i64 0)∧Dev B w' b (BV st (F+i) BC)∧Below B W w'∧Off AZ W w'):=Aa (fun W hW=>by
  have h1:=ZE B b st F i 0 sz BC W (h.below hW) hg hgo hp (Ao hB hW.size) hi rfl;rw[show(i:Int)+((0:Nat):Int)=(i:Int) by omega]at h1;exact h1)
 have HD:Hid (∀W,Below w.heap.size w W→Dev B W b st):=Aa (fun W hW=>h.below hW);have cN:=Vu;obtain⟨W0,hW0⟩:∃W0,w.alloc (.cells #[.pointer (some ⟨b,0,none⟩),.int .i64 F,.int .i64 sz] 218)=W0:=⟨_,rfl⟩;have HB0:Hid (Below w.heap.size w W0):=Aa (by rw[←hW0];exact(Ad _ _).alloc (Ae _) _);have XR:Hid (W0.heap.size=w.heap.size+1):=Aa (by rw[←hW0];simp);have Nn:Hid (W0.heap[w.heap.size]?=some (.cells #[.pointer (some ⟨b,0,none⟩),.int .i64 F,.int .i64 sz] 218 (0,0))):=Aa (by rw[←hW0];exact Ai _ _);have JV:Hid (Below W0.heap.size W0 W0∧W0.cell? ⟨w.heap.size,0,none⟩=some (.pointer (some ⟨b,0,none⟩))∧W0.cell? ⟨w.heap.size,1,none⟩=some (.int .i64 F)∧W0.cell? ⟨w.heap.size,2,none⟩=some (.int .i64 sz)):=Aa ⟨Ad _ _,by rw[AB _ _ _ _ _ _ Nn.out];rfl,by rw[AB _ _ _ _ _ _ Nn.out];rfl,by rw[AB _ _ _ _ _ _ Nn.out];rfl⟩;have Oa:w.heap.size<W0.heap.size:=by rw[XR.out];omega
 have FU:Hid (∀W,Below W0.heap.size W0 W→Below w.heap.size w W):=Aa (fun W hW=>HB0.out.trans (hW.mono (by rw[XR.out];omega)));obtain⟨_,k0,k1,k2⟩:=JV.out;clear h hg hgo hp hi hf hx;by_cases hz:x=BC
 · subst hz;rw[if_pos rfl];clear cP;generalize hZ:BC=Z at *;go_enter Tryz.func131,Tryz.ntmps131;go_wp2_with fail;refine(cG.out _ HB0.out).mono ?_;rintro e w1 ⟨rfl,hb1⟩;have Rm:=Aa (Cr Oa JV.out hb1);clear hb1 k0 k1 k2;go_wp2_with fail;refine(cN _).mono ?_;rintro e w2 ⟨rfl,hb2⟩;have HS2:=Aa (Cr Oa Rm.out hb2);have zB:=Aa (FU.out _ HS2.out.1);clear hb2 cN;go_wp2;go_ret;exact⟨rfl,HD.out _ zB.out,zB.out.mono hB,Off.Ar zB.out _⟩
 · rw[if_neg hz];have hne:=MV hz;generalize BC=Z at *;clear hz;go_enter Tryz.func131,Tryz.ntmps131;go_wp2_with fail;refine(cG.out _ HB0.out).mono ?_;rintro e w1 ⟨rfl,hb1⟩;have Rm:=Aa (Cr Oa JV.out hb1);clear hb1 k0 k1 k2;go_wp2_with fail;refine(cN _).mono ?_;rintro e w2 ⟨rfl,hb2⟩;have HS2:=Aa (Cr Oa Rm.out hb2);clear hb2;obtain⟨_,j0,j1,j2⟩:=HS2.out;have q0:w2.drew.cell? ⟨w.heap.size,0,none⟩=some (.pointer (some ⟨b,0,none⟩)):=j0;have q1:w2.drew.cell? ⟨w.heap.size,1,none⟩=some (.int .i64 F):=j1;have q2:w2.drew.cell? ⟨w.heap.size,2,none⟩=some (.int .i64 sz):=j2;have HKK:Hid (∀w3,Below w2.drew.heap.size w2.drew w3→(w3.cell? ⟨w.heap.size,0,none⟩=some (.pointer (some ⟨b,0,none⟩))∧w3.cell? ⟨w.heap.size,1,none⟩=some (.int .i64 F)∧w3.cell? ⟨w.heap.size,2,none⟩=some (.int .i64 sz))∧Below w.heap.size w w3):=Aa (fun w3 hb3=>by
    have h1:=Cr Oa (JL HS2.out) hb3;exact⟨h1.2,FU.out _ h1.1⟩)
   go_wp2;go_region_with (first|(go_at_call 163;refine(cN _).mono ?_;rintro e w3 ⟨rfl,hb3⟩;obtain⟨⟨p0,p1,p2⟩,hbw⟩:=HKK.out _ hb3)|(go_at_call 135;refine(cP.out _ (by assumption)).mono ?_;rintro e w4 ⟨rfl,hd4,hb4,ho4⟩))
   all_goals (try go_wp2)
   all_goals go_ret
   all_goals exact⟨rfl,hd4,(hbw.mono hB).trans hb4,(Off.Ar hbw _).trans ho4⟩
set_option maxHeartbeats 4000000 in
theorem dC (B b:Nat)(st:St)(F i:Nat)(sz:Int)(w:World)(h:Dev B w b st)(hg:Good st)(hgo:BJ st=true)(hi:F+i≤1000000) :
 Calls Tryz.prog 131 #[.agg #[.pointer (some ⟨b,0,none⟩),.int .i64 F,.int .i64 sz],.int .i64 i] w fun e w'=>e=.returned (.int .i64 13)∧Below w.heap.size w w':=by
 have cG:Hid (∀W,Below w.heap.size w W→Calls Tryz.prog 162 #[.agg #[.pointer (some ⟨b,0,none⟩),.int .i64 F,.int .i64 sz],.int .i64 i] W fun e w'=>e=.returned (.tuple #[.string ⟨#[]⟩,.int .i64 13])∧Below W.heap.size W w'):=Aa (fun W hW=>by
  have h1:=XG B b st F sz i ((F+i:Nat):Int) W (h.below hW) hg (by omega) (by omega);rw[MM hgo,if_neg (by decide)]at h1;exact h1)
 obtain⟨W0,hW0⟩:∃W0,w.alloc (.cells #[.pointer (some ⟨b,0,none⟩),.int .i64 F,.int .i64 sz] 218)=W0:=⟨_,rfl⟩;have HB0:Hid (Below w.heap.size w W0):=Aa (by rw[←hW0];exact(Ad _ _).alloc (Ae _) _);have Nn:Hid (W0.heap[w.heap.size]?=some (.cells #[.pointer (some ⟨b,0,none⟩),.int .i64 F,.int .i64 sz] 218 (0,0))):=Aa (by rw[←hW0];exact Ai _ _);have k0:W0.cell? ⟨w.heap.size,0,none⟩=some (.pointer (some ⟨b,0,none⟩)):=by rw[AB _ _ _ _ _ _ Nn.out];rfl
 have k1:W0.cell? ⟨w.heap.size,1,none⟩=some (.int .i64 F):=by rw[AB _ _ _ _ _ _ Nn.out];rfl
 have k2:W0.cell? ⟨w.heap.size,2,none⟩=some (.int .i64 sz):=by rw[AB _ _ _ _ _ _ Nn.out];rfl
 clear h hg hgo hi;go_enter Tryz.func131,Tryz.ntmps131;go_wp2_with fail;refine(cG.out _ HB0.out).mono ?_;rintro e w1 ⟨rfl,hb1⟩;have HB1:Hid (Below w.heap.size w w1):=Aa (HB0.out.trans (hb1.mono HB0.out.size));clear hb1 k0 k1 k2;go_wp2;go_ret;exact⟨rfl,HB1.out⟩
def iH (B b:Nat)(st:St)(i k:Nat)(w:World)(e:Ending)(w':World):Prop:=
 ∃j,j≤k∧(e=.returned (.int .i64 0)∧j=k∨e=.returned (.int .i64 13)∧j<k∧BJ (AQ st i j)=true)∧MO st i j∧Dev B w' b (AQ st i j)∧Below B w w'∧Off AZ w w'
set_option maxHeartbeats 8000000 in
theorem mV (B b:Nat)(st:St)(F S a:Nat)(at_:Int)(w:World)(h:Dev B w b st)(hg:Good st)(ho:Du st F S=0)(hS:F+S≤st.now.length)(ha:max at_ 1=(a:Int))(hat:at_≤9223372036854775807)(hp:st.pend.length+S≤1000)(hB:B≤w.heap.size) :
 Calls Tryz.prog 94 #[.pointer (some ⟨b,0,none⟩),.int .i64 F,.int .i64 S,.int .i64 at_] w (iH B b st (F+a) (S-a) w):=by
 unfold iH;have cO:=Rv B b st F S w h hg ho;have hf:=hg.few;have uM:S≤4096:=by omega
 obtain⟨k,hk⟩:∃k,S-a=k:=⟨_,rfl⟩;rw[hk];have HW:Hid (∀j W,j<k→MO st (F+a) j→BJ (AQ st (F+a) j)=false→Dev B W b (AQ st (F+a) j)→B≤W.heap.size→Calls Tryz.prog 131 #[.agg #[.pointer (some ⟨b,0,none⟩),.int .i64 F,.int .i64 S],.int .i64 ((a:Int)+(j:Int))] W fun e w'=>e=.returned (.int .i64 0)∧Dev B w' b (AQ st (F+a) (j+1))∧Below B W w'∧Off AZ W w'):=Aa (fun j W hj hr hgo hd hBW=>by
  obtain⟨g1,g2,g3,g4,_⟩:=H9 (i:=F+a) hg j (by omega) hr;have hlen:(AQ st (F+a) j).now.length=st.now.length:=by
   rw[g3];simp;omega
  have h1:=lJ B b (AQ st (F+a) j) F (a+j) S W hd g1 hgo (by omega) hBW (by omega);rw[show((a+j:Nat):Int)=(a:Int)+(j:Int) by omega,show F+(a+j)=F+a+j by omega]at h1;exact h1)
 have HWG:Hid (∀j W,j<k→MO st (F+a) j→BJ (AQ st (F+a) j)=true→Dev B W b (AQ st (F+a) j)→Calls Tryz.prog 131 #[.agg #[.pointer (some ⟨b,0,none⟩),.int .i64 F,.int .i64 S],.int .i64 ((a:Int)+(j:Int))] W fun e w'=>e=.returned (.int .i64 13)∧Below W.heap.size W w'):=Aa (fun j W hj hr hgo hd=>by
  obtain⟨g1,g2,g3,g4,_⟩:=H9 (i:=F+a) hg j (by omega) hr;have h1:=dC B b (AQ st (F+a) j) F (a+j) S W hd g1 hgo (by omega);rw[show((a+j:Nat):Int)=(a:Int)+(j:Int) by omega]at h1;exact h1)
 have HRN:Hid (∀j,MO st (F+a) j→BJ (AQ st (F+a) j)=false→MO st (F+a) (j+1)):=Aa (fun j hr hgo i hi=>by
  by_cases hij:i=j
  · rw[hij];exact hgo
  · exact hr i (by omega))
 have iw:Hid (MO st (F+a) 0):=Aa (fun j hj=>by omega);have HDB:Hid (∀W,Below w.heap.size w W→Dev B W b (AQ st (F+a) 0)):=Aa (fun W hW=>h.below hW);have ha9:(a:Int)≤9223372036854775807:=by omega
 have ha1:1≤a:=by omega
 clear h hg ho hS hf hp;go_enter Tryz.func94,Tryz.ntmps94;go_wp2_with fail;refine cO.mono ?_;rintro e w1 ⟨rfl,hb1⟩;have HB1:=Aa hb1;clear hb1 cO;go_wp2;obtain⟨W0,hW0⟩:∃W0,w1.alloc (.cells #[.pointer (some ⟨b,0,none⟩),.int .i64 F,.int .i64 S] 218)=W0:=⟨_,rfl⟩;have HB0:Hid (Below w.heap.size w W0):=Aa (by rw[←hW0];exact HB1.out.alloc HB1.out.size _);have Nn:Hid (W0.heap[w1.heap.size]?=some (.cells #[.pointer (some ⟨b,0,none⟩),.int .i64 F,.int .i64 S] 218 (0,0))):=Aa (by rw[←hW0];exact Ai _ _);rw[hW0];clear hW0;generalize w1.heap.size=g at *
 try rw[ha]
 clear hat;go_loopw [11] (fun iv wr=>∃j:Nat,j≤k∧iv=.int .i64 ((a:Int)+(j:Int))∧MO st (F+a) j∧Dev B wr b (AQ st (F+a) j)∧Below B w wr∧Off AZ W0 wr) (fun iv _=>S-(intOf iv).toNat)
 case atStart=>exact⟨0,by omega,by first|rfl|(rw[ha];congr 1)|(congr 1;omega),iw.out,HDB.out _ HB0.out,HB0.out.mono hB,Off.refl _ _⟩
 case round =>
  obtain⟨j,hj,rfl,hr,hd,hb,hoff⟩:=hrel;have HR:=Aa hr;have HD:=Aa hd;have HB:=Aa hb;have HOf:=Aa hoff;have JU:=hoff 218 (by decide) _ _ _ Nn.out;have k0:wr.cell? ⟨g,0,none⟩=some (.pointer (some ⟨b,0,none⟩)):=by rw[AB _ _ _ _ _ _ JU];rfl
  have k1:wr.cell? ⟨g,1,none⟩=some (.int .i64 F):=by rw[AB _ _ _ _ _ _ JU];rfl
  have k2:wr.cell? ⟨g,2,none⟩=some (.int .i64 S):=by rw[AB _ _ _ _ _ _ JU];rfl
  clear JU hd hb hoff hr;by_cases hjk:a+j<S
  · have hjz:(a:Int)+(j:Int)<(S:Int):=by omega
    have haw:IntKind.i64.wrap ((a:Int)+(j:Int)+1)=(a:Int)+(j:Int)+1:=by rw[El];omega
    have uD:Hid (B≤wr.heap.size):=Aa (Ao hB HB.out.size);have zq:Hid (j<k):=Aa (by omega);cases hgo:BJ (AQ st (F+a) j) with
    | false =>
     have Ht:=Aa hgo;clear hgo;go_wp2_with fail;refine(HW.out j wr zq.out HR.out Ht.out HD.out uD.out).mono ?_;rintro e w5 ⟨rfl,hd5,hb5,Xn⟩;have HD5:=Aa hd5;have dX:=Aa (HRN.out j HR.out Ht.out);have I4:Hid (Below B w w5):=Aa (HB.out.trans hb5);have ZX:Hid (Off AZ W0 w5):=Aa (HOf.out.trans Xn);clear hd5 hb5 Xn k0 k1 k2;go_wp2;go_roundw
     case rel=>exact⟨j+1,by omega,by congr 1,dX.out,HD5.out,I4.out,ZX.out⟩
     case measure=>simp[intOf];omega
    | true =>
     have Ht:=Aa hgo;clear hgo;go_wp2_with fail;refine(HWG.out j wr zq.out HR.out Ht.out HD.out).mono ?_;rintro e w5 ⟨rfl,hb5⟩;have HD5:=Aa (HD.out.below hb5);have I4:Hid (Below B w w5):=Aa (HB.out.trans (hb5.mono uD.out));have ZX:Hid (Off AZ w w5):=Aa (((Off.Ar HB0.out _).trans HOf.out).trans (Off.Ar hb5 _));clear hb5 k0 k1 k2;go_wp2;go_ret;exact⟨j,Nat.le_of_lt zq.out,Or.inr ⟨rfl,zq.out,Ht.out⟩,HR.out,HD5.out,I4.out,ZX.out⟩
  · have hjz:¬((a:Int)+(j:Int)<(S:Int)):=by omega
    have xm:j=k∨(k=0∧j=0):=by omega
    have zq:Hid (j=k):=Aa (by omega);clear xm;have X7:Hid (Off AZ w wr):=Aa ((Off.Ar HB0.out _).trans HOf.out);go_wp2;go_ret;exact⟨j,hj,Or.inl ⟨rfl,zq.out⟩,HR.out,HD.out,HB.out,X7.out⟩
set_option maxHeartbeats 2000000 in
theorem VR (B b:Nat)(st:St)(k:Nat)(w:World)(h:Dev B w b st)(hg:Good st)(hgo:BJ st=false)(hk:k<st.now.length) :
 Calls Tryz.prog 92 #[.pointer (some ⟨b,0,none⟩),.int .i64 k] w fun e w'=>e=.returned (.tuple #[.int .u64 (AO (st.now.getD k ⟨#[]⟩)),.int .i64 0])∧Below w.heap.size w w':=by
 have cG:=Zg B b st k w h hg;unfold Hu at cG;have ha:Fa st.now.length st.lim st.left k=0:=E9 hgo hk;rw[ha,if_pos rfl,DY]at cG;have hx:st.now[k]?=some (st.now.getD k ⟨#[]⟩):=by rw[Gi,Co hk];rfl
 have hxs:=hg.fq _ (CU hx);generalize st.now.getD k ⟨#[]⟩=x at *;have cE:=kL x w hxs;generalize AO x=E at *;clear h hg hgo hk ha hx;go_enter Tryz.func92,Tryz.ntmps92;go_wp2_with fail;refine cG.mono ?_;rintro e w1 ⟨rfl,rfl⟩;go_wp2_with fail;refine cE.mono ?_;rintro e w2 ⟨rfl,hb2⟩;have HB2:=Aa hb2;clear hb2;go_wp2;go_ret2;exact⟨rfl,HB2.out⟩
set_option maxHeartbeats 2000000 in
theorem WI (B b:Nat)(st:St)(k N:Nat)(w:World)(h:Dev B w b st)(hg:Good st)(hgo:BJ st=false)(hk:k<st.now.length)(hp:st.pend.length≤1000)(hB:B≤w.heap.size)(hN:N<18446744073709551616) :
 Calls Tryz.prog 153 #[.pointer (some ⟨b,0,none⟩),.int .i64 k,.int .u64 N] w fun e w'=>e=.returned (.int .i64 0)∧Dev B w' b (BV st k (C8 N))∧Below B w w'∧Off AZ w w':=by
 have ha:Fa st.now.length st.lim st.left k=0:=E9 hgo hk;have hq:Dq st k (C8 N)=0:=by
  unfold Dq;rw[if_pos ha,if_pos (Ih N)]
 have cP:Hid (∀W,Below w.heap.size w W→Calls Tryz.prog 165 #[.pointer (some ⟨b,0,none⟩),.int .i64 k,.string (C8 N)] W fun e w'=>e=.returned (.int .i64 0)∧Dev B w' b (BV st k (C8 N))∧Below B W w'∧Off AZ W w'):=Aa (fun W hW=>by
  have h1:=Vn B b st k (C8 N) W (h.below hW) hg hp (Ao hB hW.size);unfold ED at h1;rw[hq,if_pos rfl,DY]at h1;exact h1)
 have cH:=bQ N w hN;generalize C8 N=Z at *;clear h hg hgo hk ha hq hp;go_enter Tryz.func153,Tryz.ntmps153;go_wp2_with fail;refine cH.mono ?_;rintro e w1 ⟨rfl,hb1⟩;have HB1:=Aa hb1;clear hb1;go_wp2_with fail;refine(cP.out _ HB1.out).mono ?_;rintro e w2 ⟨rfl,hd,hb,ho⟩;have HD:=Aa hd;have HB2:Hid (Below B w w2):=Aa ((HB1.out.mono hB).trans hb);have JQ:Hid (Off AZ w w2):=Aa ((Off.Ar HB1.out _).trans ho);clear hd hb ho;go_wp2;go_ret;exact⟨rfl,HD.out,HB2.out,JQ.out⟩
set_option maxHeartbeats 2000000 in
theorem UH (B b:Nat)(st:St)(k:Int)(N:Nat)(w:World)(h:Dev B w b st)(hg:Good st)(hgo:BJ st=true)(hp:st.pend.length≤1000)(hB:B≤w.heap.size)(hN:N<18446744073709551616) :
 Calls Tryz.prog 153 #[.pointer (some ⟨b,0,none⟩),.int .i64 k,.int .u64 N] w fun e w'=>e=.returned (.int .i64 13)∧Dev B w' b st∧Below B w w'∧Off AZ w w':=by
 have hq:Dq st k (C8 N)=13:=by
  unfold Dq;rw[MM hgo,if_neg (by decide)]
 have cP:Hid (∀W,Below w.heap.size w W→Calls Tryz.prog 165 #[.pointer (some ⟨b,0,none⟩),.int .i64 k,.string (C8 N)] W fun e w'=>e=.returned (.int .i64 13)∧Dev B w' b st∧Below B W w'∧Off AZ W w'):=Aa (fun W hW=>by
  have h1:=Vn B b st k (C8 N) W (h.below hW) hg hp (Ao hB hW.size);unfold ED at h1;rw[hq,if_neg (by decide)]at h1;exact h1)
 have cH:=bQ N w hN;generalize C8 N=Z at *;clear h hg hgo hq hp;go_enter Tryz.func153,Tryz.ntmps153;go_wp2_with fail;refine cH.mono ?_;rintro e w1 ⟨rfl,hb1⟩;have HB1:=Aa hb1;clear hb1;go_wp2_with fail;refine(cP.out _ HB1.out).mono ?_;rintro e w2 ⟨rfl,hd,hb,ho⟩;have HD:=Aa hd;have HB2:Hid (Below B w w2):=Aa ((HB1.out.mono hB).trans hb);have JQ:Hid (Off AZ w w2):=Aa ((Off.Ar HB1.out _).trans ho);clear hd hb ho;go_wp2;go_ret;exact⟨rfl,HD.out,HB2.out,JQ.out⟩
theorem dH {st:St}{F S A:Nat}{fs:List ByteArray}(hS:F+S≤st.now.length)(hA:A+fs.length≤S):Hq (Bj st (F+A) fs) F S=(Hq st F S).take A++fs++(Hq st F S).drop (A+fs.length):=by
 unfold Hq;rw[Kz fs st (F+A) (by omega)];have e1:(st.now.take (F+A)++fs++st.now.drop (F+A+fs.length)).drop F=(st.now.drop F).take A++fs++(st.now.drop F).drop (A+fs.length):=by
  rw[Ch,List.drop_append,Cc,Nat.min_eq_left (by omega),show F-(F+A)=0 by omega,List.drop_zero,List.drop_take,show F+A-F=A by omega,List.drop_drop,Ch,show F+(A+fs.length)=F+A+fs.length by omega]
 rw[e1];have hl:(st.now.drop F).length=st.now.length-F:=Ea;generalize st.now.drop F=N at *;rw[List.take_append,List.take_append,A7,Cc,Nat.min_eq_left (by omega),CV (l:=N.take A) (by rw[Cc];omega),CV (l:=fs) (by omega),List.take_take,Nat.min_eq_left (by omega),List.drop_take]
theorem Ip (a b:List ByteArray):Ac (a++b)=Ac a++Ac b:=by unfold Ac;rw[List.map_append]
def recs (rs:List ByteArray):List (List UInt8):=Ac rs
theorem Yq:∀m,DZ (List.replicate m FM)=[]
 | 0=>GJ (Or.inl rfl)
 | m+1=>by
  rw[List.replicate_succ];exact GJ (Or.inr (P8 _))
theorem UY (m:Nat):∀f∈List.replicate m FM,f.length=64:=fun f hf=>by
 rw[(List.mem_replicate.1 hf).2];rfl
def Holds (st:St)(F k:Nat)(rs:List ByteArray):Prop:=∃h m,Ac (Hq st F k)=h::(BZ (recs rs)++List.replicate m FM)
theorem Holds.scan {st:St}{F k:Nat}{rs:List ByteArray}(h:Holds st F k rs)(hr:∀s∈rs,1≤s.size∧s.size≤60000):DZ ((Ac (Hq st F k)).drop 1)=recs rs:=by
 obtain⟨h0,m,he⟩:=h;rw[he];show DZ (BZ (recs rs)++List.replicate m FM)=_
 rw[Vf _ _ (fun r hr2=>by
  obtain⟨s,hs,rfl⟩:=CG.1 hr2;have:=hr s hs;have hl:s.data.toList.length=s.size:=BQ;exact⟨fun e=>by rw[e]at hl;simp at hl;omega,by omega⟩) (UY m),Yq,Cz]
theorem Fq (a b:List ByteArray):recs (a++b)=recs a++recs b:=Ip a b
theorem F5 (a b:List (List UInt8)):BZ (a++b)=BZ a++BZ b:=by unfold BZ;rw[FB]
theorem JA (s:ByteArray):BZ (recs [s])=Cs s.data.toList:=by
 show(Cs s.data.toList++[])=_
 rw[Cz]
theorem Holds.put {st:St}{F k A:Nat}{rs:List ByteArray}{s:ByteArray}(h:Holds st F k rs)(hS:F+k≤st.now.length)(hA:A=1+(BZ (recs rs)).length)(hk:A+(s.size+61)/62≤k):Holds (Bj st (F+A) (BF s)) F k (rs++[s]):=by
 obtain⟨h0,m,he⟩:=h;have hfl:=CP s;refine⟨h0,m-(s.size+61)/62,?_⟩;rw[dH hS (by omega),Ip,Ip,Ka,QX,he,NH,hfl];have hcl:(Cs s.data.toList).length=(s.size+61)/62:=by rw[Dp,BQ];rfl
 rw[hA,Nat.add_comm 1,List.take_succ_cons,List.take_left',show(BZ (recs rs)).length+1+(s.size+61)/62=((BZ (recs rs)).length+(s.size+61)/62)+1 by omega,List.drop_succ_cons,Fq,F5,JA]
 · rw[List.drop_append,List.drop_eq_nil_of_le (by omega),G5,show(BZ (recs rs)).length+(s.size+61)/62-(BZ (recs rs)).length=(s.size+61)/62 by omega,List.drop_replicate];simp
 · rfl
theorem Aa7 (F k:Nat)(hk:1≤k):Holds (Hz (F+k)) F k []:=by
 refine⟨FM,k-1,?_⟩;unfold Hq Hz;simp only[List.drop_replicate,List.take_replicate,Nat.add_sub_cancel_left,Nat.min_self];obtain⟨j,rfl⟩:∃j,k=j+1:=⟨k-1,by omega⟩;unfold Ac;rw[List.map_replicate,show BC.data.toList=FM by decide +kernel,List.replicate_succ];rfl
theorem Px (k:Nat):Ac (List.replicate k BC)=List.replicate k FM:=by
 unfold Ac;rw[List.map_replicate,show BC.data.toList=FM by decide +kernel]
def Abk (rs:List ByteArray):List ByteArray:=(BZ (recs rs)).map fun f=>(⟨f.toArray⟩:ByteArray)
structure AbS (B b:Nat)(r1 r2:List ByteArray)(A:Nat)(st:St)(W:World):Prop where
 dev:Dev B W b st
 good:Good st
 lim:st.lim=false
 len:st.now.length=80
 at_:A=1+(BZ (recs (r1++r2))).length
 room:A≤80
 holds:Holds st 0 80 (r1++r2)
 safe:∃h q,Ac st.safe=h::(BZ (recs r1)++List.replicate q FM)
 pend:st.pend=(List.range' (1+(BZ (recs r1)).length) (Abk r2).length).zip (Abk r2)
 sizes:∀s∈r1++r2,1≤s.size∧s.size≤60000
def LoX (B b:Nat)(r1 r2:List ByteArray)(A:Nat)(W:World):Prop:=∃st,AbS B b r1 r2 A st W
theorem LoX.nums {B b A:Nat}{r1 r2:List ByteArray}{W:World}(h:LoX B b r1 r2 A W):1≤A∧A≤80∧(r1++r2).length≤80:=by
 obtain⟨st,h⟩:=h;have h1:=h.at_;have h2:=h.room;refine⟨by omega,h2,?_⟩;have h3:∀rs:List ByteArray,(∀s∈rs,1≤s.size∧s.size≤60000)→rs.length≤(BZ (recs rs)).length:=fun rs=>by
  induction rs with
  | nil=>intro _;exact Ae _
  | cons s rs ih =>
   intro hs;have hh:=hs s (by simp);show rs.length+1≤(Cs s.data.toList++BZ (recs rs)).length
   have hi:=ih (fun t ht=>hs t (by simp[ht]));have hc:(Cs s.data.toList).length=(s.size+61)/62:=by rw[Dp,BQ];rfl
   rw[A7,hc];omega
 have:=h3 _ h.sizes;omega
end Go.Proofs.YtdmkhmeaphaapaaGreat.V
