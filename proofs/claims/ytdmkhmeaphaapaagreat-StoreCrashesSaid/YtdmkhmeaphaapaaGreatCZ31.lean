/- Kit. -/
import Derived.Test.YtdmkhmeaphaapaaGreatCZ30
import Derived.Test.YtdmkhmeaphaapaaGreatCZ29
import Derived.Test.YtdmkhmeaphaapaaGreatCZ0
set_option maxRecDepth 100000
set_option linter.unusedVariables false
set_option linter.unusedSimpArgs false
namespace Go.Proofs.YtdmkhmeaphaapaaGreat.V
open Go.RowKit Go.Sort
def Out (st:St)(x:List ByteArray):Prop:=∃M,x=Bz M st.pend st.safe
theorem fK {st:St}{i:Nat}{s:ByteArray}{x:List ByteArray}(h:Out (BV st i s) x):∃y,Out st y∧(x=y∨x=y.set i s):=by
 obtain⟨M,rfl⟩:=h;refine⟨Bz M st.pend st.safe,⟨M,rfl⟩,?_⟩;have h1:=MN M st.pend (i,s) st.safe;show Bz M (st.pend++[(i,s)]) st.safe=Bz M st.pend st.safe∨Bz M (st.pend++[(i,s)]) st.safe=(Bz M st.pend st.safe).set i s
 rw[h1];split
 · exact Or.inr rfl
 · exact Or.inl rfl
theorem Vq {st:St}{x:List ByteArray}(h:Out (Dt st) x):x=st.now:=by
 obtain⟨M,rfl⟩:=h;rfl
theorem vU {st:St}{n:Int}{x:List ByteArray}(h:Out (JK st n) x):Out st x:=by
 unfold JK at h;split at h
 · exact h
 · exact h
theorem YC (st:St)(l:List Int):Out st (Dm st l).now:=⟨_,rfl⟩
def CW (st:St)(P:List ByteArray→Prop):Prop:=∀x,Out st x→P x
theorem CW.imp {st:St}{P Q:List ByteArray→Prop}(h:CW st P)(hi:∀x,P x→Q x):CW st Q:=fun x hx=>hi x (h x hx)
theorem CW.put {st:St}{P:List ByteArray→Prop}{i:Nat}{s:ByteArray}(h:CW st P)(hs:∀x,P x→P (x.set i s)):CW (BV st i s) P:=fun x hx=>by
 obtain⟨y,hy,h9⟩:=fK hx;rcases h9 with h9|h9
 · rw[h9];exact h y hy
 · rw[h9];exact hs y (h y hy)
theorem CW.puts {st:St}{P:List ByteArray→Prop}{i:Nat}{fs:List ByteArray}(h:CW st P)(hs:∀j f,fs[j]?=some f→∀x,P x→P (x.set (i+j) f)):∀j,j≤fs.length→CW (Bj st i (fs.take j)) P
 | 0,_=>h
 | j+1,hj=>by
  obtain⟨f,hf⟩:∃f,fs[j]?=some f:=⟨_,Co (by omega)⟩;rw[G8 st i hf];exact(CW.puts h hs j (by omega)).put (hs j f hf)
theorem CW.flush {st:St}{P:List ByteArray→Prop}(h:P st.now):CW (Dt st) P:=fun x hx=>by rw[Vq hx];exact h
theorem CW.cut {st:St}{P:List ByteArray→Prop}{n:Int}(h:CW st P):CW (JK st n) P:=fun x hx=>h x (vU hx)
theorem CW.Im {st:St}{P:List ByteArray→Prop}(h:CW st P)(l:List Int):P (Dm st l).now:=h _ (YC st l)
theorem WS {x:List ByteArray}{i F h:Nat}{s:ByteArray}(hi:i<F∨F+h≤i):((x.set i s).drop F).take h=(x.drop F).take h:=by
 apply List.ext_getElem?;intro j;rw[JR,JR];split
 · rw[I5,I5,Jr (by omega)]
 · rfl
theorem Mj {x:List ByteArray}{F h j:Nat}{s:ByteArray}(hj:j<h):((x.set (F+j) s).drop F).take h=((x.drop F).take h).set j s:=by
 apply List.ext_getElem?;intro i;rw[JR,List.getElem?_set,JR];by_cases hi:i<h
 · rw[if_pos hi,I5,List.getElem?_set];by_cases e:j=i
   · subst e;rw[if_pos rfl,if_pos rfl];simp only[List.length_take,List.length_drop];by_cases hl:F+j<x.length
     · rw[if_pos hl,if_pos (by omega)]
     · rw[if_neg hl,if_neg (by omega)]
   · rw[if_neg (by omega),if_neg e,if_pos hi,I5]
 · rw[if_neg hi,if_neg hi];split
   · omega
   · rfl
theorem Oq (l:List ByteArray)(j:Nat)(s:ByteArray):Ac (l.set j s)=(Ac l).set j s.data.toList:=by
 unfold Ac;rw[List.map_set]
theorem DN.append:∀{fs a gs b:List (List UInt8)},DN fs a→DN gs b→DN (fs++gs) (a++b)
 | [],[],gs,b,_,h=>h
 | f::fs,g::a,gs,b,h,h'=>⟨h.1,DN.append h.2 h'⟩
 | [],g::a,_,_,h,_=>h.elim
 | f::fs,[],_,_,h,_=>h.elim
theorem Te:∀fs:List (List UInt8),DN fs (List.replicate fs.length FM)
 | []=>trivial
 | f::fs=>⟨Or.inr rfl,Te fs⟩
theorem DN.set:∀{fs a:List (List UInt8)} {p:Nat} {f:List UInt8},DN fs a→fs[p]?=some f→DN fs (a.set p f)
 | [],[],_,_,_,h=>by cases h
 | g::fs,b::a,0,f,h,hf=>by
  injection hf with hf;subst hf;exact⟨Or.inl rfl,h.2⟩
 | g::fs,b::a,p+1,f,h,hf=>⟨h.1,DN.set h.2 hf⟩
 | [],g::a,_,_,h,_=>h.elim
 | f::fs,[],_,_,h,_=>h.elim
structure LD (n F h E:Nat)(r1 r2:List ByteArray)(x:List ByteArray):Prop where
 len:x.length=n
 ep:AO (x.getD F ⟨#[]⟩)=E
 bk:∃hd a m,Ac ((x.drop F).take h)=hd::(BZ (recs r1)++(a++List.replicate m FM))∧DN (BZ (recs r2)) a
theorem getD_set_ne {x:List ByteArray}{i F:Nat}{s d:ByteArray}(h:i≠F):(x.set i s).getD F d=x.getD F d:=by
 rw[Gi,Gi,Jr h]
theorem II {x:List ByteArray}{F:Nat}{s d:ByteArray}(h:F<x.length):(x.set F s).getD F d=s:=by
 rw[Gi,List.getElem?_set_self h];rfl
theorem LD.out {n F h E:Nat}{r1 r2 x:List ByteArray}(hc:LD n F h E r1 r2 x){i:Nat}{s:ByteArray}(hi:i<F∨F+h≤i)(hne:i≠F):LD n F h E r1 r2 (x.set i s):=by
 refine⟨by rw[List.length_set];exact hc.len,by rw[getD_set_ne hne];exact hc.ep,?_⟩;rw[WS hi];exact hc.bk
theorem LD.weaken {n F h E:Nat}{r1 r2 x:List ByteArray}(hc:LD n F h E r1 r2 x)(hF:F+h≤n)(s:ByteArray)(hr:1+(BZ (recs r1)).length+(BZ (recs r2)).length+(Cs s.data.toList).length≤h):LD n F h E r1 (r2++[s]) x:=by
 obtain⟨hd,a,m,he,hl⟩:=hc.bk;have hla:=DN.length hl;have hlen:(Ac ((x.drop F).take h)).length=h:=by
  unfold Ac;rw[DW,Cc,Ea,hc.len];omega
 have hm:1+(BZ (recs r1)).length+a.length+m=h:=by
  rw[he]at hlen;simp at hlen;omega
 refine⟨hc.len,hc.ep,hd,a++List.replicate (Cs s.data.toList).length FM,m-(Cs s.data.toList).length,?_,?_⟩
 · rw[he];congr 2;rw[Ch,List.replicate_append_replicate];congr 2;omega
 · rw[Fq,F5,JA];exact hl.append (Te _)
theorem LD.put {n F h E:Nat}{r1 r2 x:List ByteArray}(hc:LD n F h E r1 r2 x)(hF:F+h≤n){p:Nat}{f:ByteArray}(hf:(BZ (recs r2))[p]?=some f.data.toList):LD n F h E r1 r2 (x.set (F+(1+(BZ (recs r1)).length+p)) f):=by
 obtain⟨hd,a,m,he,hl⟩:=hc.bk;have hla:=DN.length hl;have hp:p<(BZ (recs r2)).length:=(DL.1 hf).1;have hlen:(Ac ((x.drop F).take h)).length=h:=by
  unfold Ac;rw[DW,Cc,Ea,hc.len];omega
 have hm:1+(BZ (recs r1)).length+a.length+m=h:=by
  rw[he]at hlen;simp at hlen;omega
 refine⟨by rw[List.length_set];exact hc.len,by rw[getD_set_ne (by omega)];exact hc.ep,hd,a.set p f.data.toList,m,?_,hl.set hf⟩;rw[Mj (by omega),Oq,he,Nat.add_assoc,Nat.add_comm 1,Aa8,List.set_append,if_neg (by omega),List.set_append,if_pos (by omega),show(BZ (recs r1)).length+p-(BZ (recs r1)).length=p by omega]
theorem LD.scan {n F h E:Nat}{r1 r2 x:List ByteArray}(hc:LD n F h E r1 r2 x)(h1:∀s∈r1,1≤s.size∧s.size≤60000)(h2:∀s∈r2,1≤s.size∧s.size≤60000) :
 ∃y,y <+: r2∧DZ ((Ac ((x.drop F).take h)).drop 1)=recs (r1++y):=by
 obtain⟨hd,a,m,he,hl⟩:=hc.bk;have hnz:∀rs:List ByteArray,(∀s∈rs,1≤s.size∧s.size≤60000)→∀r∈recs rs,r≠[]∧r.length≤60000:=fun rs hr r hr2=>by
  obtain⟨s,hs,rfl⟩:=CG.1 hr2;have:=hr s hs;have hl:s.data.toList.length=s.size:=BQ;exact⟨fun e=>by rw[e]at hl;simp at hl;omega,by omega⟩
 have hsc:DZ ((Ac ((x.drop F).take h)).drop 1)=recs r1++DZ (a++List.replicate m FM):=by
  rw[he];show DZ (BZ (recs r1)++(a++List.replicate m FM))=_
  refine Vf _ _ (hnz r1 h1) (fun f hf=>?_);rcases EI.1 hf with h3|h3
  · exact DN.sizes hl (Tm _) f h3
  · exact UY m f h3
 have hpre:=jQ (recs r2) a (List.replicate m FM) (hnz r2 h2) hl (fun f hf=>(List.mem_replicate.1 hf).2);generalize DZ (a++List.replicate m FM)=y at *;obtain⟨t,ht⟩:=hpre;refine⟨r2.take y.length,List.take_prefix _ _,?_⟩;rw[hsc,Fq];congr 1;unfold recs;rw[Ka];show y=(recs r2).take y.length
 rw[←ht,List.take_left' rfl]
theorem Vp {st:St}{n F h E:Nat}{r1 r2:List ByteArray}{Q:List ByteArray→Prop}(hF:F+h≤n)(s:ByteArray)(hr:1+(BZ (recs r1)).length+(BZ (recs r2)).length+(Cs s.data.toList).length≤h)
 (hQ:∀x i f,F<i→i<F+h→Q x→Q (x.set i f)) (ho:CW st (fun x=>LD n F h E r1 r2 x∧Q x)) (j:Nat) (hj:j≤(BF s).length) :
 CW (Bj st (F+(1+(BZ (recs (r1++r2))).length)) ((BF s).take j)) (fun x=>LD n F h E r1 (r2++[s]) x∧Q x):=by
 have hrl:(BZ (recs (r1++r2))).length=(BZ (recs r1)).length+(BZ (recs r2)).length:=by rw[Fq,F5,A7]
 have hfb:=NH s;have hfl:(BF s).length=(Cs s.data.toList).length:=by rw[←hfb];unfold Ac;rw[DW]
 refine CW.puts (ho.imp fun x hx=>⟨hx.1.weaken hF s hr,hx.2⟩) (fun i f hf x hx=>?_) j hj;have hi:i<(BF s).length:=(DL.1 hf).1;refine⟨?_,hQ x _ f (by omega) (by omega) hx.2⟩;have h1:=hx.1.put hF (p:=(BZ (recs r2)).length+i) (f:=f) (by
  rw[Fq,F5,JA,List.getElem?_append_right (by omega),show(BZ (recs r2)).length+i-(BZ (recs r2)).length=i by omega,←hfb];unfold Ac;rw[GZ,hf];rfl)
 rw[show F+(1+(BZ (recs r1)).length+((BZ (recs r2)).length+i))=F+(1+(BZ (recs (r1++r2))).length)+i by omega]at h1;exact h1
def BH (h:Nat):Bool→Nat
 | false=>0
 | true=>h
theorem Jq (h:Nat)(k:Bool)(hh:1≤h):BH h (!k)+h≤BH h k∨BH h k+h≤BH h (!k):=by
 cases k<;>simp[BH]
theorem Gc {n h:Nat}(hn:2*h≤n)(k:Bool):BH h k+h≤n:=by
 cases k<;>simp[BH]<;>omega
structure VX (n h:Nat)(k:Bool)(E:Nat)(r1 r2:List ByteArray)(x:List ByteArray):Prop where
 cur:LD n (BH h k) h E r1 r2 x
 WW:AO (x.getD (BH h (!k)) ⟨#[]⟩)<E
def I8 (h:Nat)(x:List ByteArray):Bool:=decide (AO (x.getD 0 ⟨#[]⟩)<AO (x.getD h ⟨#[]⟩))
theorem VX.pick {n h E:Nat}{k:Bool}{r1 r2 x:List ByteArray}(hv:VX n h k E r1 r2 x):I8 h x=k:=by
 have h1:=hv.cur.ep;have h2:=hv.WW;unfold I8;cases k with
 | false =>
  simp only[BH,Bool.not_false]at h1 h2;exact Bb (by omega)
 | true =>
  simp only[BH,Bool.not_true]at h1 h2;exact A8 (by omega)
def FO (h:Nat)(x:List ByteArray):List (List UInt8):=DZ ((Ac ((x.drop (BH h (I8 h x))).take h)).drop 1)
theorem VX.read {n h E:Nat}{k:Bool}{r1 r2 x:List ByteArray}(hv:VX n h k E r1 r2 x)(h1:∀s∈r1,1≤s.size∧s.size≤60000)(h2:∀s∈r2,1≤s.size∧s.size≤60000) :
 ∃y,y <+: r2∧FO h x=recs (r1++y):=by
 unfold FO;rw[hv.pick];exact hv.cur.scan h1 h2
theorem VX.set {n h E:Nat}{k:Bool}{r1 r2 x:List ByteArray}(hv:VX n h k E r1 r2 x)(hh:1≤h){i:Nat}{s:ByteArray}(h1:BH h (!k)<i)(h2:i<BH h (!k)+h):VX n h k E r1 r2 (x.set i s):=by
 have ha:=Jq h k hh;exact⟨hv.cur.out (by omega) (by omega),by rw[getD_set_ne (by omega)];exact hv.WW⟩
theorem VX.none {n h E:Nat}{k:Bool}{r1 r2 x:List ByteArray}(hv:VX n h k E r1 r2 x)(hh:1≤h)(hn:2*h≤n):VX n h k E r1 r2 (x.set (BH h (!k)) (C8 0)):=by
 have ha:=Jq h k hh;have hl:=Gc hn (!k);have hE:=hv.WW;refine⟨hv.cur.out (by omega) (by omega),?_⟩;rw[II (by rw[hv.cur.len];omega),JJ 0 (by decide)];omega
theorem VX.renew {n h E:Nat}{k:Bool}{r1 r2 q x:List ByteArray}(hv:VX n h k E r1 r2 x)(hh:1≤h)(hn:2*h≤n)(hE:E+1<18446744073709551616)(hq:LD n (BH h (!k)) h 0 q [] x):VX n h (!k) (E+1) q [] (x.set (BH h (!k)) (C8 (E+1))):=by
 have ha:=Jq h k hh;have hl:=Gc hn (!k);obtain⟨hd,a,m,he,qE⟩:=hq.bk;refine⟨⟨by rw[List.length_set];exact hv.cur.len,by rw[II (by rw[hv.cur.len];omega),JJ (E+1) hE],(C8 (E+1)).data.toList,a,m,?_,qE⟩,?_⟩
 · have h1:=Mj (x:=x) (F:=BH h (!k)) (h:=h) (j:=0) (s:=C8 (E+1)) (by omega);rw[Nat.add_zero]at h1;rw[h1,Oq,he];rfl
 · rw[Bool.not_not,getD_set_ne (by omega),hv.cur.ep];omega
theorem KS {st:St}{n F h E:Nat}{rs:List ByteArray}(hn:st.now.length=n)(hh:Holds st F h rs)(hE:AO (st.now.getD F ⟨#[]⟩)=E):LD n F h E rs [] st.now:=by
 obtain⟨hd,m,he⟩:=hh;exact⟨hn,hE,hd,[],m,he,trivial⟩
theorem Ig {st st':St}{F h:Nat}{rs:List ByteArray}(hh:Holds st F h rs)(hs:(st'.now.drop F).take h=(st.now.drop F).take h):Holds st' F h rs:=by
 obtain⟨hd,m,he⟩:=hh;exact⟨hd,m,by unfold Hq at he ⊢;rw[hs];exact he⟩
theorem QE {x fs:List ByteArray}{i F h:Nat}(hi:i+fs.length≤x.length)(ho:i+fs.length≤F∨F+h≤i):((x.take i++fs++x.drop (i+fs.length)).drop F).take h=(x.drop F).take h:=by
 apply List.ext_getElem?;intro j;rw[JR,JR];split
 · rw[I5,I5];have hl:(x.take i).length=i:=by rw[Cc];omega
   rcases ho with ho|ho
   · rw[Ch,List.getElem?_append_right (by omega),List.getElem?_append_right (by omega),hl,I5];congr 1;omega
   · rw[Ch,LG (by omega),JR,if_pos (by omega)]
 · rfl
theorem Fu {x fs:List ByteArray}{i F:Nat}{d:ByteArray}(hi:i+fs.length≤x.length)(ho:i+fs.length≤F∨F<i):(x.take i++fs++x.drop (i+fs.length)).getD F d=x.getD F d:=by
 have h1:=QE (x:=x) (fs:=fs) (i:=i) (F:=F) (h:=1) hi (by omega);have h2:=Gu (fun l=>l[0]?) h1;simp only[List.getElem?_take,List.getElem?_drop]at h2;rw[Gi,Gi];simpa using Gu (fun o=>Option.getD o d) h2
theorem QM {st st':St}{F h:Nat}(hh:1≤h)(hl:F+h≤st.now.length)(he:st'.now=st.now.take (F+1)++List.replicate (h-1) BC++st.now.drop (F+1+(h-1))):Holds st' F h []:=by
 obtain⟨j,rfl⟩:∃j,h=j+1:=⟨h-1,by omega⟩;simp only[Nat.add_sub_cancel]at he;refine⟨(st.now.getD F ⟨#[]⟩).data.toList,j,?_⟩;show Ac ((st'.now.drop F).take (j+1))=_::([]++List.replicate j FM)
 have hF:F<st.now.length:=by omega
 have e1:(st'.now.drop F).take (j+1)=st.now.getD F ⟨#[]⟩::List.replicate j BC:=by
  have e2:(st.now.drop F).take 1=[st.now[F]]:=by rw[List.drop_eq_getElem_cons hF];rfl
  rw[he,Ch,List.drop_append,Cc,Nat.min_eq_left (by omega),show F-(F+1)=0 by omega,List.drop_zero,List.drop_take,show F+1-F=1 by omega,e2];rw[Gi,Co hF];show List.take (j+1) (st.now[F]::(List.replicate j BC++_))=st.now[F]::_
  rw[List.take_succ_cons,List.take_left' (by simp)]
 rw[e1];show _::Ac (List.replicate j BC)=_
 rw[Px];rfl
theorem Sy (l:List (List UInt8)):∃t,l=BZ (DZ l)++t:=by
 induction h:l.length using Nat.strongRecOn generalizing l with
 | ind n ih =>
  by_cases h0:l=[]∨Es l=[]
  · rw[GJ h0];exact⟨l,rfl⟩
  · have hl:l≠[]:=fun e=>h0 (Or.inl e)
    have ho:Es l≠[]:=fun e=>h0 (Or.inr e)
    rw[NT ho hl];obtain⟨_,t,ht⟩:=KD rfl ho;have hc:1≤(Cs (Es l)).length:=by rw[Dn ho,GY];omega
    show ∃t,l=(Cs (Es l)++BZ (DZ (l.drop (Cs (Es l)).length)))++t
    generalize Cs (Es l)=c at *;have hd:l.drop c.length=t:=by rw[←ht,List.drop_left]
    have hlen:0<l.length:=List.length_pos_iff.2 hl;obtain⟨u,hu⟩:=ih t.length (by
     have:=Gu List.length ht;rw[A7]at this;omega) t rfl
    refine⟨u,?_⟩;rw[hd,Ch,←hu,ht]
theorem je (l:List (List UInt8)):∀r∈DZ l,r≠[]∧r.length≤60000:=by
 induction h:l.length using Nat.strongRecOn generalizing l with
 | ind n ih =>
  intro r hr;by_cases h0:l=[]∨Es l=[]
  · rw[GJ h0]at hr;cases hr
  · have hl:l≠[]:=fun e=>h0 (Or.inl e)
    have ho:Es l≠[]:=fun e=>h0 (Or.inr e)
    rw[NT ho hl]at hr;rcases Em.1 hr with rfl|hr
    · exact⟨ho,(KD rfl ho).1⟩
    · have hc:1≤(Cs (Es l)).length:=by rw[Dn ho,GY];omega
      have hlen:0<l.length:=List.length_pos_iff.2 hl;exact ih _ (by rw[Ea];omega) _ rfl r hr
theorem vM (l:List (List UInt8)):(BZ (DZ l)).length≤l.length:=by
 obtain⟨t,ht⟩:=Sy l;have:=Gu List.length ht;rw[A7]at this;omega
structure Dx (n h:Nat)(k:Bool)(E A:Nat)(img:ByteArray)(rs r1 r2:List ByteArray)(lm:Bool)(st:St):Prop where
 good:Good st
 len:st.now.length=n
 h2:2≤h
 hn:2*h≤n
 n2:n≤400
 lim:lm=false→st.lim=false
 all:img::rs=r1++r2
 sizes:∀s∈img::rs,1≤s.size∧s.size≤60000
 end_:A=1+(BZ (recs (img::rs))).length
 room:A≤h
 IY:st.pend.length≤(BZ (recs r2)).length
 hold:Holds st (BH h k) h (img::rs)
 ep:AO (st.now.getD (BH h k) ⟨#[]⟩)=E
 WW:AO (st.now.getD (BH h (!k)) ⟨#[]⟩)<E
 out:CW st (VX n h k E r1 r2)
def DX (n h:Nat)(k:Bool)(E:Nat)(r1 r2:List ByteArray)(fresh:ByteArray)(x:List ByteArray):Prop:=
 (∃y,y <+: r2∧VX n h k E r1 y x)∨(fresh.size≠0∧fresh.size≤60000∧VX n h (!k) (E+1) [fresh] [] x)
structure IX (n h:Nat)(k:Bool)(E:Nat)(r1 r2:List ByteArray)(fresh:ByteArray)(st:St):Prop where
 good:Good st
 len:st.now.length=n
 IY:st.pend.length≤1000
 out:CW st (DX n h k E r1 r2 fresh)
structure Gf (n h:Nat)(k:Bool)(E:Nat)(r1 r2:List ByteArray)(p:Nat)(lm:Bool)(st:St):Prop where
 good:Good st
 len:st.now.length=n
 lim:lm=false→st.lim=false
 IY:st.pend.length≤p
 out:CW st (VX n h k E r1 r2)
 Tc:VX n h k E r1 r2 st.now
theorem DN.refl:∀l:List (List UInt8),DN l l
 | []=>trivial
 | f::l=>⟨Or.inl rfl,DN.refl l⟩
theorem lh {n F h E:Nat}{r1 r2 x:List ByteArray}(hc:LD n F h E (r1++r2) [] x):LD n F h E r1 r2 x:=by
 obtain⟨hd,a,m,he,hl⟩:=hc.bk;have ha:a=[]:=by
  have h1:=DN.length hl;exact Kw h1
 subst ha;refine⟨hc.len,hc.ep,hd,BZ (recs r2),m,?_,DN.refl _⟩;rw[he,Fq,F5];simp
theorem Pv (s:ByteArray):(Cs s.data.toList).length=(s.size+61)/62:=by
 rw[Dp,BQ];rfl
theorem YV (rs:List ByteArray)(s:ByteArray):(BZ (recs (rs++[s]))).length=(BZ (recs rs)).length+(s.size+61)/62:=by
 rw[Fq,F5,A7,JA,Dp,BQ];rfl
theorem Xd (a b:List ByteArray):(BZ (recs (a++b))).length=(BZ (recs a)).length+(BZ (recs b)).length:=by
 rw[Fq,F5,A7]
section
variable {n h:Nat}{k:Bool}{E A p:Nat}{img fresh:ByteArray}{rs r1 r2:List ByteArray}{lm:Bool}{st:St}
theorem Dx.Tc (hL:Dx n h k E A img rs r1 r2 lm st):VX n h k E r1 r2 st.now:=by
 refine⟨lh ?_,hL.WW⟩;rw[←hL.all];exact KS hL.len hL.hold hL.ep
theorem Dx.Yy (hL:Dx n h k E A img rs r1 r2 lm st):st.pend.length≤h:=by
 have h1:=hL.IY;have h2:=hL.end_;have h3:=hL.room;rw[hL.all,Xd]at h2;omega
theorem Dx.stg (hL:Dx n h k E A img rs r1 r2 lm st):Gf n h k E r1 r2 h lm st:=⟨hL.good,hL.len,hL.lim,hL.Yy,hL.out,hL.Tc⟩
theorem Dx.dead (hL:Dx n h k E A img rs r1 r2 lm st)(t:List ByteArray)(fresh:ByteArray):IX n h k E r1 (r2++t) fresh st:=by
 have h1:=hL.Yy;have h2:=hL.n2;have h3:=hL.hn;exact⟨hL.good,hL.len,by omega,hL.out.imp fun x hx=>Or.inl ⟨r2,List.prefix_append _ _,hx⟩⟩
theorem Gf.dead (hS:Gf n h k E r1 r2 p lm st)(hp:p≤1000)(fresh:ByteArray):IX n h k E r1 r2 fresh st:=
 ⟨hS.good,hS.len,Ao hS.IY hp,hS.out.imp fun x hx=>Or.inl ⟨r2,List.prefix_refl _,hx⟩⟩
theorem Dx.cut (hL:Dx n h k E A img rs r1 r2 lm st){N:Int}(h1:-9223372036854775808≤N)(h2:N≤9223372036854775807):Dx n h k E A img rs r1 r2 true (JK st N):=by
 have hn:(JK st N).now=st.now∧(JK st N).pend=st.pend:=by
  unfold JK;split<;>exact⟨rfl,rfl⟩
 refine⟨Zf hL.good h1 h2,by rw[hn.1];exact hL.len,hL.h2,hL.hn,hL.n2,by simp,hL.all,hL.sizes,hL.end_,hL.room,by rw[hn.2];exact hL.IY,?_,by rw[hn.1];exact hL.ep,by rw[hn.1];exact hL.WW,hL.out.cut⟩;exact Ig hL.hold (by rw[hn.1])
theorem IX.cut (hD:IX n h k E r1 r2 fresh st){N:Int}(h1:-9223372036854775808≤N)(h2:N≤9223372036854775807):IX n h k E r1 r2 fresh (JK st N):=by
 have hn:(JK st N).now=st.now∧(JK st N).pend=st.pend:=by
  unfold JK;split<;>exact⟨rfl,rfl⟩
 exact⟨Zf hD.good h1 h2,by rw[hn.1];exact hD.len,by rw[hn.2];exact hD.IY,hD.out.cut⟩
theorem Dx.flush (hL:Dx n h k E A img rs r1 r2 lm st):Dx n h k E A img rs (r1++r2) [] lm (Dt st):=by
 refine⟨GL hL.good,hL.len,hL.h2,hL.hn,hL.n2,hL.lim,by rw[Cz];exact hL.all,hL.sizes,hL.end_,hL.room,Nat.zero_le _,Ig hL.hold rfl,hL.ep,hL.WW,CW.flush ⟨?_,hL.WW⟩⟩;rw[←hL.all];exact KS hL.len hL.hold hL.ep
theorem TF (hL:Dx n h k E A img rs r1 r2 lm st){m:Nat}(hm:A+m≤h):BH h k+A+m≤st.now.length∧1≤A:=by
 have h1:=Gc hL.hn k;have h2:=hL.end_;have h3:=hL.len;omega
theorem Dx.append (hL:Dx n h k E A img rs r1 r2 lm st){s:ByteArray}(h1:1≤s.size)(h6:s.size≤60000)(hfit:A+(s.size+61)/62≤h)(hr:Nv st (BH h k+A) (BF s)) :
 Dx n h k E (A+(s.size+61)/62) img (rs++[s]) r1 (r2++[s]) lm (Bj st (BH h k+A) (BF s)):=by
 have hfl:=CP s;obtain⟨hi,hA1⟩:=TF hL hfit;have hp:=KA (st:=st) (i:=BH h k+A) (fs:=BF s) hL.good (by omega) (EB s) hr _ (Ae _);rw[List.take_length]at hp;obtain⟨g1,g2,g3,g4,g5⟩:=hp;have Abx:=Kz (BF s) st (BH h k+A) (by omega);have hap:=Jq h k (by have:=hL.h2;omega);have hle:=Gc hL.hn (!k);have hlen:=hL.len;refine⟨g1,g3.trans hL.len,hL.h2,hL.hn,hL.n2,fun e=>g2.trans (hL.lim e),?_,?_,?_,hfit,?_,?_,?_,?_,?_⟩
 · rw[←List.cons_append,hL.all,Ch]
 · intro x hx;rw[←List.cons_append]at hx;rcases EI.1 hx with hx|hx
   · exact hL.sizes x hx
   · rw[Cn.1 hx];exact⟨h1,h6⟩
 · rw[←List.cons_append,YV,hL.end_];omega
 · rw[g4,YV,hfl];have:=hL.IY;omega
 · rw[←List.cons_append];exact hL.hold.put (by have:=Gc hL.hn k;omega) hL.end_ hfit
 · rw[Abx,Fu (by omega) (Or.inr (by omega))];exact hL.ep
 · rw[Abx,Fu (by omega) (by omega)];exact hL.WW
 · have ho:=Vp (st:=st) (n:=n) (F:=BH h k) (h:=h) (E:=E) (r1:=r1) (r2:=r2) (Q:=fun x=>AO (x.getD (BH h (!k)) ⟨#[]⟩)<E) (Gc hL.hn k) s (by
    have h9:=hL.end_;rw[hL.all,Xd]at h9;rw[Pv];omega) (fun x i f hi1 hi2 hq=>by rw[getD_set_ne (by omega)];exact hq) (hL.out.imp fun x hx=>⟨hx.cur,hx.WW⟩) _ (Ae _)
   rw[List.take_length,←hL.all,←hL.end_]at ho;exact ho.imp fun x hx=>⟨hx.1,hx.2⟩
theorem Dx.ZI (hL:Dx n h k E A img rs r1 r2 lm st){s:ByteArray}(h1:1≤s.size)(h6:s.size≤60000)(hfit:A+(s.size+61)/62≤h){j:Nat}(hj:j≤(s.size+61)/62)(hr:Nv st (BH h k+A) ((BF s).take j))(fresh:ByteArray) :
 IX n h k E r1 (r2++[s]) fresh (Bj st (BH h k+A) ((BF s).take j)):=by
 have hfl:=CP s;obtain⟨hi,hA1⟩:=TF hL hfit;have hlt:((BF s).take j).length=j:=by rw[Cc];omega
 have hp:=KA (st:=st) (i:=BH h k+A) (fs:=(BF s).take j) hL.good (by omega) (fun f hf=>EB s f (List.mem_of_mem_take hf)) hr _ (Ae _);rw[List.take_length]at hp;obtain⟨g1,g2,g3,g4,g5⟩:=hp;have hap:=Jq h k (by have:=hL.h2;omega);have hph:=hL.Yy;have hn2:=hL.n2;have hnn:=hL.hn;refine⟨g1,g3.trans hL.len,by omega,?_⟩;have ho:=Vp (st:=st) (n:=n) (F:=BH h k) (h:=h) (E:=E) (r1:=r1) (r2:=r2) (Q:=fun x=>AO (x.getD (BH h (!k)) ⟨#[]⟩)<E) (Gc hL.hn k) s (by
  have h9:=hL.end_;rw[hL.all,Xd]at h9;rw[Pv];omega) (fun x i f hi1 hi2 hq=>by rw[getD_set_ne (by omega)];exact hq) (hL.out.imp fun x hx=>⟨hx.cur,hx.WW⟩) j (by omega)
 rw[←hL.all,←hL.end_]at ho;exact ho.imp fun x hx=>Or.inl ⟨_,List.prefix_refl _,⟨hx.1,hx.2⟩⟩
end
section
variable {n h:Nat}{k:Bool}{E A p:Nat}{img fresh:ByteArray}{rs r1 r2:List ByteArray}{lm:Bool}{st:St}
theorem Gf.Abe (hS:Gf n h k E r1 r2 p lm st)(hh:1≤h)(hn:2*h≤n)(hgo:BJ st=false){i:Nat}{s:ByteArray}(h1:BH h (!k)<i)(h2:i<BH h (!k)+h)(hs:s.size=64):Gf n h k E r1 r2 (p+1) lm (BV st i s):=by
 have hle:=Gc hn (!k);have hlen:=hS.len;have hp:=hS.IY;exact⟨IG hS.good (E9 hgo (by omega)) hs,by simp[BV,hlen],fun e=>hS.lim e,by simp[BV];omega,hS.out.put (fun x hx=>hx.set hh h1 h2),hS.Tc.set hh h1 h2⟩
theorem Gf.mono (hS:Gf n h k E r1 r2 p lm st){q:Nat}(hq:p≤q):Gf n h k E r1 r2 q lm st:=⟨hS.good,hS.len,hS.lim,Ao hS.IY hq,hS.out,hS.Tc⟩
theorem Gf.shut (hS:Gf n h k E r1 r2 p lm st)(hh:1≤h)(hn:2*h≤n)(hgo:BJ st=false):Gf n h k E r1 r2 (p+1) lm (BV st (BH h (!k)) (C8 0))∧AO ((BV st (BH h (!k)) (C8 0)).now.getD (BH h (!k)) ⟨#[]⟩)=0:=by
 have hle:=Gc hn (!k);have hlen:=hS.len;have hp:=hS.IY;refine⟨⟨IG hS.good (E9 hgo (by omega)) (Ih 0),by simp[BV,hlen],fun e=>hS.lim e,by simp[BV];omega,hS.out.put (fun x hx=>hx.none hh hn),hS.Tc.none hh hn⟩,?_⟩;show AO ((st.now.set _ _).getD _ _)=0
 rw[II (by omega),JJ 0 (by decide)]
theorem Gf.flush (hS:Gf n h k E r1 r2 p lm st):Gf n h k E r1 r2 0 lm (Dt st):=
 ⟨GL hS.good,hS.len,hS.lim,Nat.zero_le _,CW.flush hS.Tc,hS.Tc⟩
theorem Gf.U4 (hS:Gf n h k E r1 r2 p lm st)(hh:1≤h)(hn:2*h≤n):∀j,j≤h-1→MO st (BH h (!k)+1) j→Gf n h k E r1 r2 (p+j) lm (AQ st (BH h (!k)+1) j)
 | 0,_,_=>hS
 | j+1,hj,hr=>by
  have ih:=hS.U4 hh hn j (by omega) (fun i hi=>hr i (by omega));show Gf n h k E r1 r2 (p+j+1) lm (Gv (AQ st (BH h (!k)+1) j) (BH h (!k)+1+j))
  unfold Gv;split
  · exact ih.mono (by omega)
  · exact ih.Abe hh hn (hr j (by omega)) (by omega) (by omega) rfl
theorem Gf.puts (hS:Gf n h k E r1 r2 p lm st)(hh:1≤h)(hn:2*h≤n){fs:List ByteArray}(hf:∀f∈fs,f.size=64)(hl:1+fs.length≤h):∀j,j≤fs.length→Nv st (BH h (!k)+1) (fs.take j)→Gf n h k E r1 r2 (p+j) lm (Bj st (BH h (!k)+1) (fs.take j))
 | 0,_,_=>hS
 | j+1,hj,hr=>by
  have hr':Nv st (BH h (!k)+1) (fs.take j):=fun i hi=>by
   rw[Cc]at hi;have h1:=hr i (by rw[Cc];omega);rw[List.take_take,Nat.min_eq_left (by omega)]at h1 ⊢;exact h1
  have ih:=hS.puts hh hn hf hl j (by omega) hr';obtain⟨f,hfj⟩:∃f,fs[j]?=some f:=⟨_,Co (by omega)⟩;rw[G8 _ _ hfj];have hgo:=hr j (by rw[Cc];omega);rw[List.take_take,Nat.min_eq_left (by omega)]at hgo;exact ih.Abe hh hn hgo (by omega) (by omega) (hf f (CU hfj))
theorem Gf.Aba (hS:Gf n h k E r1 r2 p lm st)(hh:1≤h)(hn:2*h≤n)(hr:MO st (BH h (!k)+1) (h-1))(he:AO (st.now.getD (BH h (!k)) ⟨#[]⟩)=0) :
 Gf n h k E r1 r2 (p+(h-1)) lm (AQ st (BH h (!k)+1) (h-1))∧Holds (AQ st (BH h (!k)+1) (h-1)) (BH h (!k)) h []∧AO ((AQ st (BH h (!k)+1) (h-1)).now.getD (BH h (!k)) ⟨#[]⟩)=0:=by
 have hle:=Gc hn (!k);have hlen:=hS.len;obtain⟨g1,g2,g3,g4,g5⟩:=H9 (i:=BH h (!k)+1) hS.good (h-1) (by omega) hr;refine⟨hS.U4 hh hn (h-1) (Ae _) hr,QM hh (by omega) g3,?_⟩;have h1:=Fu (x:=st.now) (fs:=List.replicate (h-1) BC) (i:=BH h (!k)+1) (F:=BH h (!k)) (d:=⟨#[]⟩) (by simp;omega) (Or.inr (by omega));rw[JX]at h1;rw[g3,h1];exact he
theorem Gf.written (hS:Gf n h k E r1 r2 p lm st)(hh:1≤h)(hn:2*h≤n){s:ByteArray}(hfit:1+(s.size+61)/62≤h)(hr:Nv st (BH h (!k)+1) (BF s))(hw:Holds st (BH h (!k)) h [])(he:AO (st.now.getD (BH h (!k)) ⟨#[]⟩)=0) :
 Gf n h k E r1 r2 (p+(s.size+61)/62) lm (Bj st (BH h (!k)+1) (BF s))∧Holds (Bj st (BH h (!k)+1) (BF s)) (BH h (!k)) h [s]∧AO ((Bj st (BH h (!k)+1) (BF s)).now.getD (BH h (!k)) ⟨#[]⟩)=0:=by
 have hle:=Gc hn (!k);have hlen:=hS.len;have hfl:=CP s;have h1:=hS.puts hh hn (EB s) (by omega) _ (Ae _) (by rw[List.take_length];exact hr);rw[List.take_length,hfl]at h1;refine⟨h1,hw.put (by omega) rfl hfit,?_⟩;rw[Kz _ _ _ (by omega),Fu (by omega) (Or.inr (by omega))];exact he
theorem VJ {F:Nat}(hc:LD n F h E r1 [] st.now):Holds st F h r1:=by
 obtain⟨hd,a,m,he,hl⟩:=hc.bk;have ha:a=[]:=Kw (DN.length hl);subst ha;exact⟨hd,m,he⟩
theorem Gf.signed (hS:Gf n h k E r1 r2 0 lm st)(hh:2≤h)(hn:2*h≤n)(hn2:n≤400){s:ByteArray}(h1:1≤s.size)(h6:s.size≤60000)(hfit:1+(s.size+61)/62≤h)(hw:Holds st (BH h (!k)) h [s])(he:AO (st.now.getD (BH h (!k)) ⟨#[]⟩)=0)(hE:E+1<18446744073709551616)(hgo:BJ st=false)(ho:CW st (fun x=>x=st.now)) :
 IX n h k E r1 r2 s (BV st (BH h (!k)) (C8 (E+1)))∧Dx n h (!k) (E+1) (1+(s.size+61)/62) s [] [s] [] lm (Dt (BV st (BH h (!k)) (C8 (E+1)))):=by
 have hle:=Gc hn (!k);have hlen:=hS.len;have hnew:VX n h (!k) (E+1) [s] [] (st.now.set (BH h (!k)) (C8 (E+1))):=hS.Tc.renew (by omega) hn hE (KS hS.len hw he);have hg:Good (BV st (BH h (!k)) (C8 (E+1))):=IG hS.good (E9 hgo (by omega)) (Ih (E+1));have hpd:st.pend.length=0:=by have:=hS.IY;omega
 refine⟨⟨hg,by simp[BV,hlen],by simp[BV,hpd],fun x hx=>?_⟩,?_⟩
 · obtain⟨y,hy,h9⟩:=fK hx;have hy2:y=st.now:=ho y hy;subst hy2;rcases h9 with h9|h9
   · rw[h9];exact Or.inl ⟨r2,List.prefix_refl _,hS.Tc⟩
   · rw[h9];exact Or.inr ⟨by omega,h6,hnew⟩
 · refine⟨GL hg,by simp[Dt,BV,hlen],hh,hn,hn2,fun e=>hS.lim e,rfl,?_,?_,hfit,Nat.zero_le _,VJ (n:=n) (E:=E+1) hnew.cur,hnew.cur.ep,hnew.WW,CW.flush hnew⟩
   · intro x hx;rw[Cn.1 hx];exact⟨h1,h6⟩
   · show _=1+(BZ (recs [s])).length
     rw[JA,Pv]
theorem YD {st:St}:CW (Dt st) (fun x=>x=(Dt st).now):=fun x hx=>by rw[Vq hx];rfl
end
theorem dG (x:List ByteArray){F A h:Nat}(hA:A≤h)(hx:F+h≤x.length):((x.take (F+A)++List.replicate (h-A) BC++x.drop (F+A+(h-A))).drop F).take h=((x.drop F).take h).take A++List.replicate (h-A) BC:=by
 apply List.ext_getElem?;intro j;have hl:(x.take (F+A)).length=F+A:=by rw[Cc];omega
 have hl2:(((x.drop F).take h).take A).length=A:=by rw[Cc,Cc,Ea];omega
 rw[JR];by_cases h1:j<A
 · rw[if_pos (by omega),I5,Ch,LG (by omega),JR,if_pos (by omega),LG (by omega),JR,if_pos h1,JR,if_pos (by omega),I5]
 · by_cases h2:j<h
   · rw[if_pos h2,I5,Ch,List.getElem?_append_right (by omega),LG (by simp;omega),List.getElem?_append_right (by omega),hl,hl2];congr 1;omega
   · rw[if_neg h2,List.getElem?_eq_none (by rw[A7,hl2,JX];omega)]
theorem Rx (l:List (List UInt8)):recs (l.map fun r=>(⟨r.toArray⟩:ByteArray))=l:=Ng l
section
variable {n h:Nat}{k:Bool}{E A p:Nat}{img fresh s:ByteArray}{rs r1 r2:List ByteArray}{lm:Bool}{st:St}
theorem aW {l:List (List UInt8)}(h:∀r∈l,r≠[]∧r.length≤60000){rs:List ByteArray}(he:l=recs rs):∀s∈rs,1≤s.size∧s.size≤60000:=fun s hs=>by
 obtain⟨h1,h2⟩:=h s.data.toList (by rw[he];exact CG.2 ⟨s,hs,rfl⟩);have h3:s.data.toList.length=s.size:=BQ;have h4:0<s.data.toList.length:=List.length_pos_iff.2 h1;omega
theorem jC (hg:Good st)(hl:st.lim=false)(hlen:st.now.length=n)(h2:2≤h)(hn:2*h≤n)(hn2:n≤400)(hk:I8 h st.now=k)(hR:FO h st.now=recs (img::rs))(hep:AO (st.now.getD (BH h k) ⟨#[]⟩)=E)(hoth:AO (st.now.getD (BH h (!k)) ⟨#[]⟩)<E)
 (hA:A=1+(BZ (recs (img::rs))).length):A≤h∧Dx n h k E A img rs (img::rs) [] false (Dt (AQ st (BH h k+A) (h-A))):=by
 have hle:=Gc hn k;have hap:=Jq h k (by omega);have hle2:=Gc hn (!k);have hRb:DZ ((Ac ((st.now.drop (BH h k)).take h)).drop 1)=recs (img::rs):=by
  rw[←hR];unfold FO;rw[hk]
 have hbl:(Ac ((st.now.drop (BH h k)).take h)).length=h:=by
  unfold Ac;rw[DW,Cc,Ea];omega
 obtain⟨t,ht⟩:=Sy ((Ac ((st.now.drop (BH h k)).take h)).drop 1);have hsz:=aW (je ((Ac ((st.now.drop (BH h k)).take h)).drop 1)) hRb;rw[hRb]at ht;have gU:A≤h:=by
  have:=Gu List.length ht;rw[A7,Ea,hbl]at this;omega
 refine⟨gU,?_⟩;obtain⟨g1,g2,g3,g4,g5⟩:=NQ (i:=BH h k+A) hg hl (h-A) (by omega);have hlen':(AQ st (BH h k+A) (h-A)).now.length=n:=by
  rw[g3];simp;omega
 have hsp:∀F,(F<BH h k+A∨BH h k+h≤F)→(AQ st (BH h k+A) (h-A)).now.getD F ⟨#[]⟩=st.now.getD F ⟨#[]⟩:=fun F hF=>by
  have h1:=Fu (x:=st.now) (fs:=List.replicate (h-A) BC) (i:=BH h k+A) (F:=F) (d:=⟨#[]⟩) (by simp;omega) (by simp;omega);rw[JX]at h1;rw[g3,h1]
 have yK:Holds (AQ st (BH h k+A) (h-A)) (BH h k) h (img::rs):=by
  obtain⟨hd,tl,he⟩:∃hd tl,Ac ((st.now.drop (BH h k)).take h)=hd::tl:=by
   cases hc:Ac ((st.now.drop (BH h k)).take h) with
   | nil=>rw[hc]at hbl;simp at hbl;omega
   | cons a b=>exact⟨a,b,rfl⟩
  refine⟨hd,h-A,?_⟩;unfold Hq;rw[g3,dG _ gU (by omega),Ip,Ka,he,Px];rw[he]at ht;have ht':tl=BZ (recs (img::rs))++t:=ht;rw[ht',hA,Nat.add_comm 1,List.take_succ_cons,List.take_left' rfl];rfl
 have e1:AO ((AQ st (BH h k+A) (h-A)).now.getD (BH h k) ⟨#[]⟩)=E:=by rw[hsp _ (Or.inl (by omega))];exact hep
 have e2:AO ((AQ st (BH h k+A) (h-A)).now.getD (BH h (!k)) ⟨#[]⟩)<E:=by rw[hsp _ (by omega)];exact hoth
 exact⟨GL g1,hlen',h2,hn,hn2,fun _=>g2,by simp,hsz,hA,gU,Nat.zero_le _,Ig yK rfl,e1,e2,CW.flush ⟨KS hlen' yK e1,e2⟩⟩
theorem DX.read {x:List ByteArray}(hd:DX n h k E r1 r2 fresh x)(hs:∀s∈r1++r2,1≤s.size∧s.size≤60000)(hne:r1≠[]) :
 ∃k' E' LV rs',I8 h x=k'∧FO h x=recs (LV::rs')∧AO (x.getD (BH h k') ⟨#[]⟩)=E'∧AO (x.getD (BH h (!k')) ⟨#[]⟩)<E'∧E'≤E+1∧((∃y,y <+: r2∧LV::rs'=r1++y)∨(fresh.size≠0∧LV=fresh∧rs'=[])):=by
 rcases hd with⟨y0,hy0,hv⟩|⟨hf,hf6,hv⟩
 · have hs2:∀s∈y0,1≤s.size∧s.size≤60000:=fun s hs'=>hs s (List.mem_append_right _ (hy0.subset hs'))
   obtain⟨y,hy,hr⟩:=hv.read (fun s hs'=>hs s (List.mem_append_left _ hs')) hs2;obtain⟨a,t,rfl⟩:∃a t,r1=a::t:=by
    cases r1 with
    | nil=>exact absurd rfl hne
    | cons a t=>exact⟨a,t,rfl⟩
   exact⟨k,E,a,t++y,hv.pick,hr,hv.cur.ep,hv.WW,by omega,Or.inl ⟨y,hy.trans hy0,rfl⟩⟩
 · obtain⟨y,hy,hr⟩:=hv.read (fun s hs'=>by rw[Cn.1 hs'];omega) (fun s hs'=>by cases hs');have hy0:y=[]:=List.prefix_nil.1 hy;subst hy0;exact⟨!k,E+1,fresh,[],hv.pick,hr,hv.cur.ep,hv.WW,Ae _,Or.inr ⟨hf,rfl,rfl⟩⟩
theorem IX.Im (hD:IX n h k E r1 r2 fresh st)(l:List Int):Good (Dm st l)∧(Dm st l).lim=false∧(Dm st l).now.length=n∧(Dm st l).pend=[]∧DX n h k E r1 r2 fresh (Dm st l).now:=
 ⟨Xu hD.good l,rfl,(SE st hD.good l).trans hD.len,rfl,hD.out.Im l⟩
structure NM (n p:Nat)(st:St):Prop where
 good:Good st
 len:st.now.length=n
 lim:st.lim=false
 IY:st.pend.length≤p
theorem NM.put (hS:NM n p st){i:Nat}{s:ByteArray}(hi:i<n)(hs:s.size=64):NM n (p+1) (BV st i s):=by
 have hlen:=hS.len;have hp:=hS.IY;exact⟨IG hS.good (E9 (Cf hS.lim) (by omega)) hs,by simp[BV,hlen],hS.lim,by simp[BV];omega⟩
theorem NM.flush (hS:NM n p st):NM n 0 (Dt st):=⟨GL hS.good,hS.len,hS.lim,Nat.zero_le _⟩
theorem NM.U4 (hS:NM n p st){i m:Nat}(hi:i+m≤n):NM n (p+m) (AQ st i m)∧(AQ st i m).now=st.now.take i++List.replicate m BC++st.now.drop (i+m):=by
 have hlen:=hS.len;have hp:=hS.IY;obtain⟨g1,g2,g3,g4,g5⟩:=NQ (i:=i) hS.good hS.lim m (by omega);exact⟨⟨g1,by rw[g3];simp;omega,g2,by omega⟩,g3⟩
theorem NM.puts (hS:NM n p st){i:Nat}{fs:List ByteArray}(hi:i+fs.length≤n)(hf:∀f∈fs,f.size=64):NM n (p+fs.length) (Bj st i fs):=by
 have hlen:=hS.len;have hp:=hS.IY;obtain⟨g1,g2,g3,g4⟩:=Vm fs st i hS.good hS.lim (by omega) hf;exact⟨g1,by rw[Kz _ _ _ (by omega)];simp;omega,g2,by rw[Vl];simp;omega⟩
def OA (n h:Nat)(s:ByteArray):Nat→St→Prop
 | 0,st=>NM n 0 st
 | 1,st=>NM n 0 st
 | 2,st=>NM n 0 st
 | 3,st=>NM n 1 st
 | 4,st=>NM n 2 st∧AO (st.now.getD h ⟨#[]⟩)=0
 | 5,st=>NM n 0 st∧AO (st.now.getD h ⟨#[]⟩)=0
 | 6,st=>NM n 200 st∧AO (st.now.getD h ⟨#[]⟩)=0∧Holds st 0 h []
 | 7,st=>NM n 400 st∧AO (st.now.getD h ⟨#[]⟩)=0∧Holds st 0 h []
 | 8,st=>NM n 600 st∧AO (st.now.getD h ⟨#[]⟩)=0∧Holds st 0 h [s]
 | 9,st=>NM n 0 st∧AO (st.now.getD h ⟨#[]⟩)=0∧Holds st 0 h [s]
 | 10,st=>NM n 1 st∧VX n h false 1 [s] [] st.now
 | _,st=>Dx n h false 1 (1+(s.size+61)/62) s [] [s] [] false st∧st.pend=[]
theorem qY (hS:OA n h s 2 st)(h2:2≤h)(hn:2*h≤n):OA n h s 3 (BV st 0 (C8 0)):=NM.put hS (by omega) (Ih 0)
theorem qX (hS:OA n h s 3 st)(h2:2≤h)(hn:2*h≤n):OA n h s 4 (BV st h (C8 0)):=by
 refine⟨NM.put hS (by omega) (Ih 0),?_⟩;show AO ((st.now.set _ _).getD _ _)=0
 have hS':NM n 1 st:=hS;have:=hS'.len;rw[II (by omega),JJ 0 (by decide)]
theorem kJ (hS:OA n h s 4 st):OA n h s 5 (Dt st):=⟨hS.1.flush,hS.2⟩
theorem qW (hS:OA n h s 5 st)(h2:2≤h)(hn:2*h≤n)(hn2:n≤400):OA n h s 6 (AQ st (0+1) (h-1)):=by
 obtain⟨g1,g3⟩:=hS.1.U4 (i:=0+1) (m:=h-1) (by omega);have hlen:=hS.1.len;refine⟨⟨g1.good,g1.len,g1.lim,by have:=g1.IY;omega⟩,?_,QM (F:=0) (by omega) (by omega) g3⟩;have h1:=Fu (x:=st.now) (fs:=List.replicate (h-1) BC) (i:=0+1) (F:=h) (d:=⟨#[]⟩) (by simp;omega) (by simp;omega);rw[JX]at h1;rw[g3,h1];exact hS.2
theorem qV (hS:OA n h s 6 st)(h2:2≤h)(hn:2*h≤n)(hn2:n≤400):OA n h s 7 (AQ st (h+1) (h-1)):=by
 obtain⟨g1,g3⟩:=hS.1.U4 (i:=h+1) (m:=h-1) (by omega);have hlen:=hS.1.len;refine⟨⟨g1.good,g1.len,g1.lim,by have:=g1.IY;omega⟩,?_,Ig hS.2.2 ?_⟩
 · have h1:=Fu (x:=st.now) (fs:=List.replicate (h-1) BC) (i:=h+1) (F:=h) (d:=⟨#[]⟩) (by simp;omega) (by simp);rw[JX]at h1;rw[g3,h1];exact hS.2.1
 · have h1:=QE (x:=st.now) (fs:=List.replicate (h-1) BC) (i:=h+1) (F:=0) (h:=h) (by simp;omega) (by simp);rw[JX]at h1;rw[g3,h1]
theorem qU (hS:OA n h s 7 st)(h2:2≤h)(hn:2*h≤n)(hn2:n≤400)(hfit:1+(s.size+61)/62≤h):OA n h s 8 (Bj st (0+1) (BF s)):=by
 have hlen:=hS.1.len;have hfl:=CP s;have g1:=hS.1.puts (i:=0+1) (fs:=BF s) (by omega) (EB s);refine⟨⟨g1.good,g1.len,g1.lim,by have:=g1.IY;omega⟩,?_,hS.2.2.put (F:=0) (by omega) rfl hfit⟩;rw[Kz _ _ _ (by omega),Fu (by omega) (Or.inl (by omega))];exact hS.2.1
theorem kI (hS:OA n h s 8 st):OA n h s 9 (Dt st):=⟨hS.1.flush,hS.2.1,Ig hS.2.2 rfl⟩
theorem xE (hS:OA n h s 9 st)(h2:2≤h)(hn:2*h≤n)(hn2:n≤400):OA n h s 10 (BV st 0 (C8 1)):=by
 have hlen:=hS.1.len;have hc:=KS (E:=AO (st.now.getD 0 ⟨#[]⟩)) hlen hS.2.2 rfl;obtain⟨hd,a,m,he,qE⟩:=hc.bk;refine⟨hS.1.put (by omega) (Ih 1),⟨⟨?_,?_,(C8 1).data.toList,a,m,?_,qE⟩,?_⟩⟩
 · show(st.now.set _ _).length=n
   rw[List.length_set];exact hlen
 · show AO ((st.now.set 0 _).getD 0 _)=1
   rw[II (by omega),JJ 1 (by decide)]
 · have h1:=Mj (x:=st.now) (F:=0) (h:=h) (j:=0) (s:=C8 1) (by omega);rw[Nat.add_zero]at h1;show Ac (((st.now.set 0 (C8 1)).drop 0).take h)=_
   rw[h1,Oq,he];rfl
 · show AO ((st.now.set 0 _).getD h _)<1
   rw[getD_set_ne (by omega),hS.2.1];omega
theorem kH (hS:OA n h s 10 st)(h2:2≤h)(hn:2*h≤n)(hn2:n≤400)(h1:1≤s.size)(h6:s.size≤60000)(hfit:1+(s.size+61)/62≤h):OA n h s 11 (Dt st):=by
 obtain⟨hf,hv⟩:=hS;refine⟨⟨GL hf.good,hf.len,h2,hn,hn2,fun _=>hf.lim,rfl,?_,?_,hfit,Nat.zero_le _,VJ (n:=n) (E:=1) hv.cur,hv.cur.ep,hv.WW,CW.flush hv⟩,rfl⟩
 · intro x hx;rw[Cn.1 hx];exact⟨h1,h6⟩
 · show _=1+(BZ (recs [s])).length
   rw[JA,Pv]
end
end Go.Proofs.YtdmkhmeaphaapaaGreat.V
