/- Kit. -/
import Derived.Test.YtdmkhmeaphaapaaGreatMZ30
import Derived.Test.YtdmkhmeaphaapaaGreatMZ29
import Derived.Test.YtdmkhmeaphaapaaGreatMZ0
set_option maxRecDepth 100000
set_option linter.unusedVariables false
set_option linter.unusedSimpArgs false
namespace Go.Proofs.YtdmkhmeaphaapaaGreat.V
open Go.RowKit Go.Sort
def Out (st:St)(x:List ByteArray):Prop:=∃M,x=Bz M st.pend st.safe
theorem dC {st:St}{i:Nat}{s:ByteArray}{x:List ByteArray}(h:Out (BU st i s) x):∃y,Out st y∧(x=y∨x=y.set i s):=by
 obtain⟨M,rfl⟩:=h;refine⟨Bz M st.pend st.safe,⟨M,rfl⟩,?_⟩;have h1:=ME M st.pend (i,s) st.safe;show Bz M (st.pend++[(i,s)]) st.safe=Bz M st.pend st.safe∨Bz M (st.pend++[(i,s)]) st.safe=(Bz M st.pend st.safe).set i s
 rw[h1];split
 · exact Or.inr rfl
 · exact Or.inl rfl
theorem U4 {st:St}{x:List ByteArray}(h:Out (Dq st) x):x=st.now:=by
 obtain⟨M,rfl⟩:=h;rfl
theorem uf {st:St}{n:Int}{x:List ByteArray}(h:Out (JA st n) x):Out st x:=by
 unfold JA at h;split at h
 · exact h
 · exact h
theorem XZ (st:St)(l:List Int):Out st (Dl st l).now:=⟨_,rfl⟩
def CW (st:St)(P:List ByteArray→Prop):Prop:=∀x,Out st x→P x
theorem CW.imp {st:St}{P Q:List ByteArray→Prop}(h:CW st P)(hi:∀x,P x→Q x):CW st Q:=fun x hx=>hi x (h x hx)
theorem CW.put {st:St}{P:List ByteArray→Prop}{i:Nat}{s:ByteArray}(h:CW st P)(hs:∀x,P x→P (x.set i s)):CW (BU st i s) P:=fun x hx=>by
 obtain⟨y,hy,h9⟩:=dC hx;rcases h9 with h9|h9
 · rw[h9];exact h y hy
 · rw[h9];exact hs y (h y hy)
theorem CW.puts {st:St}{P:List ByteArray→Prop}{i:Nat}{fs:List ByteArray}(h:CW st P)(hs:∀j f,fs[j]?=some f→∀x,P x→P (x.set (i+j) f)):∀j,j≤fs.length→CW (Bh st i (fs.take j)) P
 | 0,_=>h
 | j+1,hj=>by
  obtain⟨f,hf⟩:∃f,fs[j]?=some f:=⟨_,Ci (by omega)⟩;rw[GR st i hf];exact(CW.puts h hs j (by omega)).put (hs j f hf)
theorem CW.flush {st:St}{P:List ByteArray→Prop}(h:P st.now):CW (Dq st) P:=fun x hx=>by rw[U4 hx];exact h
theorem CW.cut {st:St}{P:List ByteArray→Prop}{n:Int}(h:CW st P):CW (JA st n) P:=fun x hx=>h x (uf hx)
theorem CW.I1 {st:St}{P:List ByteArray→Prop}(h:CW st P)(l:List Int):P (Dl st l).now:=h _ (XZ st l)
theorem Wn {x:List ByteArray}{i F h:Nat}{s:ByteArray}(hi:i<F∨F+h≤i):((x.set i s).drop F).take h=(x.drop F).take h:=by
 apply List.ext_getElem?;intro j;rw[Jh,Jh];split
 · rw[IM,IM,Ji (by omega)]
 · rfl
theorem Ma {x:List ByteArray}{F h j:Nat}{s:ByteArray}(hj:j<h):((x.set (F+j) s).drop F).take h=((x.drop F).take h).set j s:=by
 apply List.ext_getElem?;intro i;rw[Jh,List.getElem?_set,Jh];by_cases hi:i<h
 · rw[if_pos hi,IM,List.getElem?_set];by_cases e:j=i
   · subst e;rw[if_pos rfl,if_pos rfl];simp only[List.length_take,List.length_drop];by_cases hl:F+j<x.length
     · rw[if_pos hl,if_pos (by omega)]
     · rw[if_neg hl,if_neg (by omega)]
   · rw[if_neg (by omega),if_neg e,if_pos hi,IM]
 · rw[if_neg hi,if_neg hi];split
   · omega
   · rfl
theorem NZ (l:List ByteArray)(j:Nat)(s:ByteArray):Ac (l.set j s)=(Ac l).set j s.data.toList:=by
 unfold Ac;rw[List.map_set]
theorem DN.append:∀{fs a gs b:List (List UInt8)},DN fs a→DN gs b→DN (fs++gs) (a++b)
 | [],[],gs,b,_,h=>h
 | f::fs,g::a,gs,b,h,h'=>⟨h.1,DN.append h.2 h'⟩
 | [],g::a,_,_,h,_=>h.elim
 | f::fs,[],_,_,h,_=>h.elim
theorem SG:∀fs:List (List UInt8),DN fs (List.replicate fs.length FO)
 | []=>trivial
 | f::fs=>⟨Or.inr rfl,SG fs⟩
theorem DN.set:∀{fs a:List (List UInt8)} {p:Nat} {f:List UInt8},DN fs a→fs[p]?=some f→DN fs (a.set p f)
 | [],[],_,_,_,h=>by cases h
 | g::fs,b::a,0,f,h,hf=>by
  injection hf with hf;subst hf;exact⟨Or.inl rfl,h.2⟩
 | g::fs,b::a,p+1,f,h,hf=>⟨h.1,DN.set h.2 hf⟩
 | [],g::a,_,_,h,_=>h.elim
 | f::fs,[],_,_,h,_=>h.elim
structure Lt (n F h E:Nat)(r1 r2:List ByteArray)(x:List ByteArray):Prop where
 len:x.length=n
 ep:AL (x.getD F ⟨#[]⟩)=E
 bk:∃hd a m,Ac ((x.drop F).take h)=hd::(Ce (recs r1)++(a++List.replicate m FO))∧DN (Ce (recs r2)) a
theorem getD_set_ne {x:List ByteArray}{i F:Nat}{s d:ByteArray}(h:i≠F):(x.set i s).getD F d=x.getD F d:=by
 rw[FK,FK,Ji h]
theorem Iq {x:List ByteArray}{F:Nat}{s d:ByteArray}(h:F<x.length):(x.set F s).getD F d=s:=by
 rw[FK,List.getElem?_set_self h];rfl
theorem Lt.out {n F h E:Nat}{r1 r2 x:List ByteArray}(hc:Lt n F h E r1 r2 x){i:Nat}{s:ByteArray}(hi:i<F∨F+h≤i)(hne:i≠F):Lt n F h E r1 r2 (x.set i s):=by
 refine⟨by rw[List.length_set];exact hc.len,by rw[getD_set_ne hne];exact hc.ep,?_⟩;rw[Wn hi];exact hc.bk
theorem Lt.weaken {n F h E:Nat}{r1 r2 x:List ByteArray}(hc:Lt n F h E r1 r2 x)(hF:F+h≤n)(s:ByteArray)(hr:1+(Ce (recs r1)).length+(Ce (recs r2)).length+(Co s.data.toList).length≤h):Lt n F h E r1 (r2++[s]) x:=by
 obtain⟨hd,a,m,he,hl⟩:=hc.bk;have hla:=DN.length hl;have hlen:(Ac ((x.drop F).take h)).length=h:=by
  unfold Ac;rw[Em,BV,D8,hc.len];omega
 have hm:1+(Ce (recs r1)).length+a.length+m=h:=by
  rw[he]at hlen;simp at hlen;omega
 refine⟨hc.len,hc.ep,hd,a++List.replicate (Co s.data.toList).length FO,m-(Co s.data.toList).length,?_,?_⟩
 · rw[he];congr 2;rw[Cc,List.replicate_append_replicate];congr 2;omega
 · rw[E9,FX,Jq];exact hl.append (SG _)
theorem Lt.put {n F h E:Nat}{r1 r2 x:List ByteArray}(hc:Lt n F h E r1 r2 x)(hF:F+h≤n){p:Nat}{f:ByteArray}(hf:(Ce (recs r2))[p]?=some f.data.toList):Lt n F h E r1 r2 (x.set (F+(1+(Ce (recs r1)).length+p)) f):=by
 obtain⟨hd,a,m,he,hl⟩:=hc.bk;have hla:=DN.length hl;have hp:p<(Ce (recs r2)).length:=(Ed.1 hf).1;have hlen:(Ac ((x.drop F).take h)).length=h:=by
  unfold Ac;rw[Em,BV,D8,hc.len];omega
 have hm:1+(Ce (recs r1)).length+a.length+m=h:=by
  rw[he]at hlen;simp at hlen;omega
 refine⟨by rw[List.length_set];exact hc.len,by rw[getD_set_ne (by omega)];exact hc.ep,hd,a.set p f.data.toList,m,?_,hl.set hf⟩;rw[Ma (by omega),NZ,he,Nat.add_assoc,Nat.add_comm 1,Aai,List.set_append,if_neg (by omega),List.set_append,if_pos (by omega),show(Ce (recs r1)).length+p-(Ce (recs r1)).length=p by omega]
theorem Lt.scan {n F h E:Nat}{r1 r2 x:List ByteArray}(hc:Lt n F h E r1 r2 x)(h1:∀s∈r1,1≤s.size∧s.size≤60000)(h2:∀s∈r2,1≤s.size∧s.size≤60000) :
 ∃y,y <+: r2∧DY ((Ac ((x.drop F).take h)).drop 1)=recs (r1++y):=by
 obtain⟨hd,a,m,he,hl⟩:=hc.bk;have hnz:∀rs:List ByteArray,(∀s∈rs,1≤s.size∧s.size≤60000)→∀r∈recs rs,r≠[]∧r.length≤60000:=fun rs hr r hr2=>by
  obtain⟨s,hs,rfl⟩:=Cy.1 hr2;have:=hr s hs;have hl:s.data.toList.length=s.size:=BP;exact⟨fun e=>by rw[e]at hl;simp at hl;omega,by omega⟩
 have hsc:DY ((Ac ((x.drop F).take h)).drop 1)=recs r1++DY (a++List.replicate m FO):=by
  rw[he];show DY (Ce (recs r1)++(a++List.replicate m FO))=_
  refine UN _ _ (hnz r1 h1) (fun f hf=>?_);rcases FB.1 hf with h3|h3
  · exact DN.sizes hl (SV _) f h3
  · exact Uz m f h3
 have hpre:=iA (recs r2) a (List.replicate m FO) (hnz r2 h2) hl (fun f hf=>(List.mem_replicate.1 hf).2);generalize DY (a++List.replicate m FO)=y at *;obtain⟨t,ht⟩:=hpre;refine⟨r2.take y.length,List.take_prefix _ _,?_⟩;rw[hsc,E9];congr 1;unfold recs;rw[JX];show y=(recs r2).take y.length
 rw[←ht,List.take_left' rfl]
theorem U3 {st:St}{n F h E:Nat}{r1 r2:List ByteArray}{Q:List ByteArray→Prop}(hF:F+h≤n)(s:ByteArray)(hr:1+(Ce (recs r1)).length+(Ce (recs r2)).length+(Co s.data.toList).length≤h)
 (hQ:∀x i f,F<i→i<F+h→Q x→Q (x.set i f)) (ho:CW st (fun x=>Lt n F h E r1 r2 x∧Q x)) (j:Nat) (hj:j≤(Bu s).length) :
 CW (Bh st (F+(1+(Ce (recs (r1++r2))).length)) ((Bu s).take j)) (fun x=>Lt n F h E r1 (r2++[s]) x∧Q x):=by
 have hrl:(Ce (recs (r1++r2))).length=(Ce (recs r1)).length+(Ce (recs r2)).length:=by rw[E9,FX,Bg]
 have hfb:=Nq s;have hfl:(Bu s).length=(Co s.data.toList).length:=by rw[←hfb];unfold Ac;rw[Em]
 refine CW.puts (ho.imp fun x hx=>⟨hx.1.weaken hF s hr,hx.2⟩) (fun i f hf x hx=>?_) j hj;have hi:i<(Bu s).length:=(Ed.1 hf).1;refine⟨?_,hQ x _ f (by omega) (by omega) hx.2⟩;have h1:=hx.1.put hF (p:=(Ce (recs r2)).length+i) (f:=f) (by
  rw[E9,FX,Jq,List.getElem?_append_right (by omega),show(Ce (recs r2)).length+i-(Ce (recs r2)).length=i by omega,←hfb];unfold Ac;rw[Hl,hf];rfl)
 rw[show F+(1+(Ce (recs r1)).length+((Ce (recs r2)).length+i))=F+(1+(Ce (recs (r1++r2))).length)+i by omega]at h1;exact h1
def BF (h:Nat):Bool→Nat
 | false=>0
 | true=>h
theorem Jg (h:Nat)(k:Bool)(hh:1≤h):BF h (!k)+h≤BF h k∨BF h k+h≤BF h (!k):=by
 cases k<;>simp[BF]
theorem Fy {n h:Nat}(hn:2*h≤n)(k:Bool):BF h k+h≤n:=by
 cases k<;>simp[BF]<;>omega
structure VX (n h:Nat)(k:Bool)(E:Nat)(r1 r2:List ByteArray)(x:List ByteArray):Prop where
 cur:Lt n (BF h k) h E r1 r2 x
 Ws:AL (x.getD (BF h (!k)) ⟨#[]⟩)<E
def IU (h:Nat)(x:List ByteArray):Bool:=decide (AL (x.getD 0 ⟨#[]⟩)<AL (x.getD h ⟨#[]⟩))
theorem VX.pick {n h E:Nat}{k:Bool}{r1 r2 x:List ByteArray}(hv:VX n h k E r1 r2 x):IU h x=k:=by
 have h1:=hv.cur.ep;have h2:=hv.Ws;unfold IU;cases k with
 | false =>
  simp only[BF,Bool.not_false]at h1 h2;exact A7 (by omega)
 | true =>
  simp only[BF,Bool.not_true]at h1 h2;exact AX (by omega)
def FD (h:Nat)(x:List ByteArray):List (List UInt8):=DY ((Ac ((x.drop (BF h (IU h x))).take h)).drop 1)
theorem VX.read {n h E:Nat}{k:Bool}{r1 r2 x:List ByteArray}(hv:VX n h k E r1 r2 x)(h1:∀s∈r1,1≤s.size∧s.size≤60000)(h2:∀s∈r2,1≤s.size∧s.size≤60000) :
 ∃y,y <+: r2∧FD h x=recs (r1++y):=by
 unfold FD;rw[hv.pick];exact hv.cur.scan h1 h2
theorem VX.set {n h E:Nat}{k:Bool}{r1 r2 x:List ByteArray}(hv:VX n h k E r1 r2 x)(hh:1≤h){i:Nat}{s:ByteArray}(h1:BF h (!k)<i)(h2:i<BF h (!k)+h):VX n h k E r1 r2 (x.set i s):=by
 have ha:=Jg h k hh;exact⟨hv.cur.out (by omega) (by omega),by rw[getD_set_ne (by omega)];exact hv.Ws⟩
theorem VX.none {n h E:Nat}{k:Bool}{r1 r2 x:List ByteArray}(hv:VX n h k E r1 r2 x)(hh:1≤h)(hn:2*h≤n):VX n h k E r1 r2 (x.set (BF h (!k)) (C8 0)):=by
 have ha:=Jg h k hh;have hl:=Fy hn (!k);have hE:=hv.Ws;refine⟨hv.cur.out (by omega) (by omega),?_⟩;rw[Iq (by rw[hv.cur.len];omega),Jz 0 (by decide)];omega
theorem VX.renew {n h E:Nat}{k:Bool}{r1 r2 q x:List ByteArray}(hv:VX n h k E r1 r2 x)(hh:1≤h)(hn:2*h≤n)(hE:E+1<18446744073709551616)(hq:Lt n (BF h (!k)) h 0 q [] x):VX n h (!k) (E+1) q [] (x.set (BF h (!k)) (C8 (E+1))):=by
 have ha:=Jg h k hh;have hl:=Fy hn (!k);obtain⟨hd,a,m,he,oz⟩:=hq.bk;refine⟨⟨by rw[List.length_set];exact hv.cur.len,by rw[Iq (by rw[hv.cur.len];omega),Jz (E+1) hE],(C8 (E+1)).data.toList,a,m,?_,oz⟩,?_⟩
 · have h1:=Ma (x:=x) (F:=BF h (!k)) (h:=h) (j:=0) (s:=C8 (E+1)) (by omega);rw[Nat.add_zero]at h1;rw[h1,NZ,he];rfl
 · rw[Bool.not_not,getD_set_ne (by omega),hv.cur.ep];omega
theorem KH {st:St}{n F h E:Nat}{rs:List ByteArray}(hn:st.now.length=n)(hh:Holds st F h rs)(hE:AL (st.now.getD F ⟨#[]⟩)=E):Lt n F h E rs [] st.now:=by
 obtain⟨hd,m,he⟩:=hh;exact⟨hn,hE,hd,[],m,he,trivial⟩
theorem H7 {st st':St}{F h:Nat}{rs:List ByteArray}(hh:Holds st F h rs)(hs:(st'.now.drop F).take h=(st.now.drop F).take h):Holds st' F h rs:=by
 obtain⟨hd,m,he⟩:=hh;exact⟨hd,m,by unfold G7 at he ⊢;rw[hs];exact he⟩
theorem Qu {x fs:List ByteArray}{i F h:Nat}(hi:i+fs.length≤x.length)(ho:i+fs.length≤F∨F+h≤i):((x.take i++fs++x.drop (i+fs.length)).drop F).take h=(x.drop F).take h:=by
 apply List.ext_getElem?;intro j;rw[Jh,Jh];split
 · rw[IM,IM];have hl:(x.take i).length=i:=by rw[BV];omega
   rcases ho with ho|ho
   · rw[Cc,List.getElem?_append_right (by omega),List.getElem?_append_right (by omega),hl,IM];congr 1;omega
   · rw[Cc,LM (by omega),Jh,if_pos (by omega)]
 · rfl
theorem Fb {x fs:List ByteArray}{i F:Nat}{d:ByteArray}(hi:i+fs.length≤x.length)(ho:i+fs.length≤F∨F<i):(x.take i++fs++x.drop (i+fs.length)).getD F d=x.getD F d:=by
 have h1:=Qu (x:=x) (fs:=fs) (i:=i) (F:=F) (h:=1) hi (by omega);have h2:=Gu (fun l=>l[0]?) h1;simp only[List.getElem?_take,List.getElem?_drop]at h2;rw[FK,FK];simpa using Gu (fun o=>Option.getD o d) h2
theorem QC {st st':St}{F h:Nat}(hh:1≤h)(hl:F+h≤st.now.length)(he:st'.now=st.now.take (F+1)++List.replicate (h-1) BD++st.now.drop (F+1+(h-1))):Holds st' F h []:=by
 obtain⟨j,rfl⟩:∃j,h=j+1:=⟨h-1,by omega⟩;simp only[Nat.add_sub_cancel]at he;refine⟨(st.now.getD F ⟨#[]⟩).data.toList,j,?_⟩;show Ac ((st'.now.drop F).take (j+1))=_::([]++List.replicate j FO)
 have hF:F<st.now.length:=by omega
 have e1:(st'.now.drop F).take (j+1)=st.now.getD F ⟨#[]⟩::List.replicate j BD:=by
  have e2:(st.now.drop F).take 1=[st.now[F]]:=by rw[List.drop_eq_getElem_cons hF];rfl
  rw[he,Cc,List.drop_append,BV,Nat.min_eq_left (by omega),show F-(F+1)=0 by omega,List.drop_zero,List.drop_take,show F+1-F=1 by omega,e2];rw[FK,Ci hF];show List.take (j+1) (st.now[F]::(List.replicate j BD++_))=st.now[F]::_
  rw[List.take_succ_cons,List.take_left' (by simp)]
 rw[e1];show _::Ac (List.replicate j BD)=_
 rw[Pe];rfl
theorem Sb (l:List (List UInt8)):∃t,l=Ce (DY l)++t:=by
 induction h:l.length using Nat.strongRecOn generalizing l with
 | ind n ih =>
  by_cases h0:l=[]∨Es l=[]
  · rw[Gw h0];exact⟨l,rfl⟩
  · have hl:l≠[]:=fun e=>h0 (Or.inl e)
    have ho:Es l≠[]:=fun e=>h0 (Or.inr e)
    rw[NA ho hl];obtain⟨_,t,ht⟩:=Ko rfl ho;have hc:1≤(Co (Es l)).length:=by rw[Dm ho,GM];omega
    show ∃t,l=(Co (Es l)++Ce (DY (l.drop (Co (Es l)).length)))++t
    generalize Co (Es l)=c at *;have hd:l.drop c.length=t:=by rw[←ht,List.drop_left]
    have hlen:0<l.length:=List.length_pos_iff.2 hl;obtain⟨u,hu⟩:=ih t.length (by
     have:=Gu List.length ht;rw[Bg]at this;omega) t rfl
    refine⟨u,?_⟩;rw[hd,Cc,←hu,ht]
theorem gD (l:List (List UInt8)):∀r∈DY l,r≠[]∧r.length≤60000:=by
 induction h:l.length using Nat.strongRecOn generalizing l with
 | ind n ih =>
  intro r hr;by_cases h0:l=[]∨Es l=[]
  · rw[Gw h0]at hr;cases hr
  · have hl:l≠[]:=fun e=>h0 (Or.inl e)
    have ho:Es l≠[]:=fun e=>h0 (Or.inr e)
    rw[NA ho hl]at hr;rcases Er.1 hr with rfl|hr
    · exact⟨ho,(Ko rfl ho).1⟩
    · have hc:1≤(Co (Es l)).length:=by rw[Dm ho,GM];omega
      have hlen:0<l.length:=List.length_pos_iff.2 hl;exact ih _ (by rw[D8];omega) _ rfl r hr
theorem tO (l:List (List UInt8)):(Ce (DY l)).length≤l.length:=by
 obtain⟨t,ht⟩:=Sb l;have:=Gu List.length ht;rw[Bg]at this;omega
structure Dj (n h:Nat)(k:Bool)(E A:Nat)(img:ByteArray)(rs r1 r2:List ByteArray)(lm:Bool)(st:St):Prop where
 good:Good st
 len:st.now.length=n
 h2:2≤h
 hn:2*h≤n
 n2:n≤400
 lim:lm=false→st.lim=false
 all:img::rs=r1++r2
 sizes:∀s∈img::rs,1≤s.size∧s.size≤60000
 end_:A=1+(Ce (recs (img::rs))).length
 room:A≤h
 IE:st.pend.length≤(Ce (recs r2)).length
 hold:Holds st (BF h k) h (img::rs)
 ep:AL (st.now.getD (BF h k) ⟨#[]⟩)=E
 Ws:AL (st.now.getD (BF h (!k)) ⟨#[]⟩)<E
 out:CW st (VX n h k E r1 r2)
def DX (n h:Nat)(k:Bool)(E:Nat)(r1 r2:List ByteArray)(fresh:ByteArray)(x:List ByteArray):Prop:=
 (∃y,y <+: r2∧VX n h k E r1 y x)∨(fresh.size≠0∧fresh.size≤60000∧VX n h (!k) (E+1) [fresh] [] x)
structure He (n h:Nat)(k:Bool)(E:Nat)(r1 r2:List ByteArray)(fresh:ByteArray)(st:St):Prop where
 good:Good st
 len:st.now.length=n
 IE:st.pend.length≤1000
 out:CW st (DX n h k E r1 r2 fresh)
structure F6 (n h:Nat)(k:Bool)(E:Nat)(r1 r2:List ByteArray)(p:Nat)(lm:Bool)(st:St):Prop where
 good:Good st
 len:st.now.length=n
 lim:lm=false→st.lim=false
 IE:st.pend.length≤p
 out:CW st (VX n h k E r1 r2)
 SB:VX n h k E r1 r2 st.now
theorem DN.refl:∀l:List (List UInt8),DN l l
 | []=>trivial
 | f::l=>⟨Or.inl rfl,DN.refl l⟩
theorem jE {n F h E:Nat}{r1 r2 x:List ByteArray}(hc:Lt n F h E (r1++r2) [] x):Lt n F h E r1 r2 x:=by
 obtain⟨hd,a,m,he,hl⟩:=hc.bk;have ha:a=[]:=by
  have h1:=DN.length hl;exact Kj h1
 subst ha;refine⟨hc.len,hc.ep,hd,Ce (recs r2),m,?_,DN.refl _⟩;rw[he,E9,FX];simp
theorem Pb (s:ByteArray):(Co s.data.toList).length=(s.size+61)/62:=by
 rw[DK,BP];rfl
theorem SS (rs:List ByteArray)(s:ByteArray):(Ce (recs (rs++[s]))).length=(Ce (recs rs)).length+(s.size+61)/62:=by
 rw[E9,FX,Bg,Jq,DK,BP];rfl
theorem Rj (a b:List ByteArray):(Ce (recs (a++b))).length=(Ce (recs a)).length+(Ce (recs b)).length:=by
 rw[E9,FX,Bg]
section
variable {n h:Nat}{k:Bool}{E A p:Nat}{img fresh:ByteArray}{rs r1 r2:List ByteArray}{lm:Bool}{st:St}
theorem Dj.SB (hL:Dj n h k E A img rs r1 r2 lm st):VX n h k E r1 r2 st.now:=by
 refine⟨jE ?_,hL.Ws⟩;rw[←hL.all];exact KH hL.len hL.hold hL.ep
theorem Dj.Wl (hL:Dj n h k E A img rs r1 r2 lm st):st.pend.length≤h:=by
 have h1:=hL.IE;have h2:=hL.end_;have h3:=hL.room;rw[hL.all,Rj]at h2;omega
theorem Dj.stg (hL:Dj n h k E A img rs r1 r2 lm st):F6 n h k E r1 r2 h lm st:=⟨hL.good,hL.len,hL.lim,hL.Wl,hL.out,hL.SB⟩
theorem Dj.dead (hL:Dj n h k E A img rs r1 r2 lm st)(t:List ByteArray)(fresh:ByteArray):He n h k E r1 (r2++t) fresh st:=by
 have h1:=hL.Wl;have h2:=hL.n2;have h3:=hL.hn;exact⟨hL.good,hL.len,by omega,hL.out.imp fun x hx=>Or.inl ⟨r2,List.prefix_append _ _,hx⟩⟩
theorem F6.dead (hS:F6 n h k E r1 r2 p lm st)(hp:p≤1000)(fresh:ByteArray):He n h k E r1 r2 fresh st:=
 ⟨hS.good,hS.len,Al hS.IE hp,hS.out.imp fun x hx=>Or.inl ⟨r2,List.prefix_refl _,hx⟩⟩
theorem Dj.cut (hL:Dj n h k E A img rs r1 r2 lm st){N:Int}(h1:-9223372036854775808≤N)(h2:N≤9223372036854775807):Dj n h k E A img rs r1 r2 true (JA st N):=by
 have hn:(JA st N).now=st.now∧(JA st N).pend=st.pend:=by
  unfold JA;split<;>exact⟨rfl,rfl⟩
 refine⟨YC hL.good h1 h2,by rw[hn.1];exact hL.len,hL.h2,hL.hn,hL.n2,by simp,hL.all,hL.sizes,hL.end_,hL.room,by rw[hn.2];exact hL.IE,?_,by rw[hn.1];exact hL.ep,by rw[hn.1];exact hL.Ws,hL.out.cut⟩;exact H7 hL.hold (by rw[hn.1])
theorem He.cut (hD:He n h k E r1 r2 fresh st){N:Int}(h1:-9223372036854775808≤N)(h2:N≤9223372036854775807):He n h k E r1 r2 fresh (JA st N):=by
 have hn:(JA st N).now=st.now∧(JA st N).pend=st.pend:=by
  unfold JA;split<;>exact⟨rfl,rfl⟩
 exact⟨YC hD.good h1 h2,by rw[hn.1];exact hD.len,by rw[hn.2];exact hD.IE,hD.out.cut⟩
theorem Dj.flush (hL:Dj n h k E A img rs r1 r2 lm st):Dj n h k E A img rs (r1++r2) [] lm (Dq st):=by
 refine⟨Gz hL.good,hL.len,hL.h2,hL.hn,hL.n2,hL.lim,by rw[Ct];exact hL.all,hL.sizes,hL.end_,hL.room,Nat.zero_le _,H7 hL.hold rfl,hL.ep,hL.Ws,CW.flush ⟨?_,hL.Ws⟩⟩;rw[←hL.all];exact KH hL.len hL.hold hL.ep
theorem Tm (hL:Dj n h k E A img rs r1 r2 lm st){m:Nat}(hm:A+m≤h):BF h k+A+m≤st.now.length∧1≤A:=by
 have h1:=Fy hL.hn k;have h2:=hL.end_;have h3:=hL.len;omega
theorem Dj.append (hL:Dj n h k E A img rs r1 r2 lm st){s:ByteArray}(h1:1≤s.size)(h6:s.size≤60000)(hfit:A+(s.size+61)/62≤h)(hr:Nc st (BF h k+A) (Bu s)) :
 Dj n h k E (A+(s.size+61)/62) img (rs++[s]) r1 (r2++[s]) lm (Bh st (BF h k+A) (Bu s)):=by
 have hfl:=Cf s;obtain⟨hi,hA1⟩:=Tm hL hfit;have hp:=Jo (st:=st) (i:=BF h k+A) (fs:=Bu s) hL.good (by omega) (Eb s) hr _ (Ae _);rw[List.take_length]at hp;obtain⟨g1,g2,g3,g4,g5⟩:=hp;have AaI:=Kl (Bu s) st (BF h k+A) (by omega);have hap:=Jg h k (by have:=hL.h2;omega);have hle:=Fy hL.hn (!k);have hlen:=hL.len;refine⟨g1,g3.trans hL.len,hL.h2,hL.hn,hL.n2,fun e=>g2.trans (hL.lim e),?_,?_,?_,hfit,?_,?_,?_,?_,?_⟩
 · rw[←List.cons_append,hL.all,Cc]
 · intro x hx;rw[←List.cons_append]at hx;rcases FB.1 hx with hx|hx
   · exact hL.sizes x hx
   · rw[CU.1 hx];exact⟨h1,h6⟩
 · rw[←List.cons_append,SS,hL.end_];omega
 · rw[g4,SS,hfl];have:=hL.IE;omega
 · rw[←List.cons_append];exact hL.hold.put (by have:=Fy hL.hn k;omega) hL.end_ hfit
 · rw[AaI,Fb (by omega) (Or.inr (by omega))];exact hL.ep
 · rw[AaI,Fb (by omega) (by omega)];exact hL.Ws
 · have ho:=U3 (st:=st) (n:=n) (F:=BF h k) (h:=h) (E:=E) (r1:=r1) (r2:=r2) (Q:=fun x=>AL (x.getD (BF h (!k)) ⟨#[]⟩)<E) (Fy hL.hn k) s (by
    have h9:=hL.end_;rw[hL.all,Rj]at h9;rw[Pb];omega) (fun x i f hi1 hi2 hq=>by rw[getD_set_ne (by omega)];exact hq) (hL.out.imp fun x hx=>⟨hx.cur,hx.Ws⟩) _ (Ae _)
   rw[List.take_length,←hL.all,←hL.end_]at ho;exact ho.imp fun x hx=>⟨hx.1,hx.2⟩
theorem Dj.QM (hL:Dj n h k E A img rs r1 r2 lm st){s:ByteArray}(h1:1≤s.size)(h6:s.size≤60000)(hfit:A+(s.size+61)/62≤h){j:Nat}(hj:j≤(s.size+61)/62)(hr:Nc st (BF h k+A) ((Bu s).take j))(fresh:ByteArray) :
 He n h k E r1 (r2++[s]) fresh (Bh st (BF h k+A) ((Bu s).take j)):=by
 have hfl:=Cf s;obtain⟨hi,hA1⟩:=Tm hL hfit;have hlt:((Bu s).take j).length=j:=by rw[BV];omega
 have hp:=Jo (st:=st) (i:=BF h k+A) (fs:=(Bu s).take j) hL.good (by omega) (fun f hf=>Eb s f (List.mem_of_mem_take hf)) hr _ (Ae _);rw[List.take_length]at hp;obtain⟨g1,g2,g3,g4,g5⟩:=hp;have hap:=Jg h k (by have:=hL.h2;omega);have hph:=hL.Wl;have hn2:=hL.n2;have hnn:=hL.hn;refine⟨g1,g3.trans hL.len,by omega,?_⟩;have ho:=U3 (st:=st) (n:=n) (F:=BF h k) (h:=h) (E:=E) (r1:=r1) (r2:=r2) (Q:=fun x=>AL (x.getD (BF h (!k)) ⟨#[]⟩)<E) (Fy hL.hn k) s (by
  have h9:=hL.end_;rw[hL.all,Rj]at h9;rw[Pb];omega) (fun x i f hi1 hi2 hq=>by rw[getD_set_ne (by omega)];exact hq) (hL.out.imp fun x hx=>⟨hx.cur,hx.Ws⟩) j (by omega)
 rw[←hL.all,←hL.end_]at ho;exact ho.imp fun x hx=>Or.inl ⟨_,List.prefix_refl _,⟨hx.1,hx.2⟩⟩
end
section
variable {n h:Nat}{k:Bool}{E A p:Nat}{img fresh:ByteArray}{rs r1 r2:List ByteArray}{lm:Bool}{st:St}
theorem F6.Aar (hS:F6 n h k E r1 r2 p lm st)(hh:1≤h)(hn:2*h≤n)(hgo:BJ st=false){i:Nat}{s:ByteArray}(h1:BF h (!k)<i)(h2:i<BF h (!k)+h)(hs:s.size=64):F6 n h k E r1 r2 (p+1) lm (BU st i s):=by
 have hle:=Fy hn (!k);have hlen:=hS.len;have hp:=hS.IE;exact⟨Ip hS.good (EU hgo (by omega)) hs,by simp[BU,hlen],fun e=>hS.lim e,by simp[BU];omega,hS.out.put (fun x hx=>hx.set hh h1 h2),hS.SB.set hh h1 h2⟩
theorem F6.mono (hS:F6 n h k E r1 r2 p lm st){q:Nat}(hq:p≤q):F6 n h k E r1 r2 q lm st:=⟨hS.good,hS.len,hS.lim,Al hS.IE hq,hS.out,hS.SB⟩
theorem F6.shut (hS:F6 n h k E r1 r2 p lm st)(hh:1≤h)(hn:2*h≤n)(hgo:BJ st=false):F6 n h k E r1 r2 (p+1) lm (BU st (BF h (!k)) (C8 0))∧AL ((BU st (BF h (!k)) (C8 0)).now.getD (BF h (!k)) ⟨#[]⟩)=0:=by
 have hle:=Fy hn (!k);have hlen:=hS.len;have hp:=hS.IE;refine⟨⟨Ip hS.good (EU hgo (by omega)) (H9 0),by simp[BU,hlen],fun e=>hS.lim e,by simp[BU];omega,hS.out.put (fun x hx=>hx.none hh hn),hS.SB.none hh hn⟩,?_⟩;show AL ((st.now.set _ _).getD _ _)=0
 rw[Iq (by omega),Jz 0 (by decide)]
theorem F6.flush (hS:F6 n h k E r1 r2 p lm st):F6 n h k E r1 r2 0 lm (Dq st):=
 ⟨Gz hS.good,hS.len,hS.lim,Nat.zero_le _,CW.flush hS.SB,hS.SB⟩
theorem F6.UD (hS:F6 n h k E r1 r2 p lm st)(hh:1≤h)(hn:2*h≤n):∀j,j≤h-1→MF st (BF h (!k)+1) j→F6 n h k E r1 r2 (p+j) lm (AP st (BF h (!k)+1) j)
 | 0,_,_=>hS
 | j+1,hj,hr=>by
  have ih:=hS.UD hh hn j (by omega) (fun i hi=>hr i (by omega));show F6 n h k E r1 r2 (p+j+1) lm (Gm (AP st (BF h (!k)+1) j) (BF h (!k)+1+j))
  unfold Gm;split
  · exact ih.mono (by omega)
  · exact ih.Aar hh hn (hr j (by omega)) (by omega) (by omega) rfl
theorem F6.puts (hS:F6 n h k E r1 r2 p lm st)(hh:1≤h)(hn:2*h≤n){fs:List ByteArray}(hf:∀f∈fs,f.size=64)(hl:1+fs.length≤h):∀j,j≤fs.length→Nc st (BF h (!k)+1) (fs.take j)→F6 n h k E r1 r2 (p+j) lm (Bh st (BF h (!k)+1) (fs.take j))
 | 0,_,_=>hS
 | j+1,hj,hr=>by
  have hr':Nc st (BF h (!k)+1) (fs.take j):=fun i hi=>by
   rw[BV]at hi;have h1:=hr i (by rw[BV];omega);rw[List.take_take,Nat.min_eq_left (by omega)]at h1 ⊢;exact h1
  have ih:=hS.puts hh hn hf hl j (by omega) hr';obtain⟨f,hfj⟩:∃f,fs[j]?=some f:=⟨_,Ci (by omega)⟩;rw[GR _ _ hfj];have hgo:=hr j (by rw[BV];omega);rw[List.take_take,Nat.min_eq_left (by omega)]at hgo;exact ih.Aar hh hn hgo (by omega) (by omega) (hf f (Dr hfj))
theorem F6.Aal (hS:F6 n h k E r1 r2 p lm st)(hh:1≤h)(hn:2*h≤n)(hr:MF st (BF h (!k)+1) (h-1))(he:AL (st.now.getD (BF h (!k)) ⟨#[]⟩)=0) :
 F6 n h k E r1 r2 (p+(h-1)) lm (AP st (BF h (!k)+1) (h-1))∧Holds (AP st (BF h (!k)+1) (h-1)) (BF h (!k)) h []∧AL ((AP st (BF h (!k)+1) (h-1)).now.getD (BF h (!k)) ⟨#[]⟩)=0:=by
 have hle:=Fy hn (!k);have hlen:=hS.len;obtain⟨g1,g2,g3,g4,g5⟩:=Hu (i:=BF h (!k)+1) hS.good (h-1) (by omega) hr;refine⟨hS.UD hh hn (h-1) (Ae _) hr,QC hh (by omega) g3,?_⟩;have h1:=Fb (x:=st.now) (fs:=List.replicate (h-1) BD) (i:=BF h (!k)+1) (F:=BF h (!k)) (d:=⟨#[]⟩) (by simp;omega) (Or.inr (by omega));rw[JL]at h1;rw[g3,h1];exact he
theorem F6.written (hS:F6 n h k E r1 r2 p lm st)(hh:1≤h)(hn:2*h≤n){s:ByteArray}(hfit:1+(s.size+61)/62≤h)(hr:Nc st (BF h (!k)+1) (Bu s))(hw:Holds st (BF h (!k)) h [])(he:AL (st.now.getD (BF h (!k)) ⟨#[]⟩)=0) :
 F6 n h k E r1 r2 (p+(s.size+61)/62) lm (Bh st (BF h (!k)+1) (Bu s))∧Holds (Bh st (BF h (!k)+1) (Bu s)) (BF h (!k)) h [s]∧AL ((Bh st (BF h (!k)+1) (Bu s)).now.getD (BF h (!k)) ⟨#[]⟩)=0:=by
 have hle:=Fy hn (!k);have hlen:=hS.len;have hfl:=Cf s;have h1:=hS.puts hh hn (Eb s) (by omega) _ (Ae _) (by rw[List.take_length];exact hr);rw[List.take_length,hfl]at h1;refine⟨h1,hw.put (by omega) rfl hfit,?_⟩;rw[Kl _ _ _ (by omega),Fb (by omega) (Or.inr (by omega))];exact he
theorem Vm {F:Nat}(hc:Lt n F h E r1 [] st.now):Holds st F h r1:=by
 obtain⟨hd,a,m,he,hl⟩:=hc.bk;have ha:a=[]:=Kj (DN.length hl);subst ha;exact⟨hd,m,he⟩
theorem F6.signed (hS:F6 n h k E r1 r2 0 lm st)(hh:2≤h)(hn:2*h≤n)(hn2:n≤400){s:ByteArray}(h1:1≤s.size)(h6:s.size≤60000)(hfit:1+(s.size+61)/62≤h)(hw:Holds st (BF h (!k)) h [s])(he:AL (st.now.getD (BF h (!k)) ⟨#[]⟩)=0)(hE:E+1<18446744073709551616)(hgo:BJ st=false)(ho:CW st (fun x=>x=st.now)) :
 He n h k E r1 r2 s (BU st (BF h (!k)) (C8 (E+1)))∧Dj n h (!k) (E+1) (1+(s.size+61)/62) s [] [s] [] lm (Dq (BU st (BF h (!k)) (C8 (E+1)))):=by
 have hle:=Fy hn (!k);have hlen:=hS.len;have hnew:VX n h (!k) (E+1) [s] [] (st.now.set (BF h (!k)) (C8 (E+1))):=hS.SB.renew (by omega) hn hE (KH hS.len hw he);have hg:Good (BU st (BF h (!k)) (C8 (E+1))):=Ip hS.good (EU hgo (by omega)) (H9 (E+1));have hpd:st.pend.length=0:=by have:=hS.IE;omega
 refine⟨⟨hg,by simp[BU,hlen],by simp[BU,hpd],fun x hx=>?_⟩,?_⟩
 · obtain⟨y,hy,h9⟩:=dC hx;have hy2:y=st.now:=ho y hy;subst hy2;rcases h9 with h9|h9
   · rw[h9];exact Or.inl ⟨r2,List.prefix_refl _,hS.SB⟩
   · rw[h9];exact Or.inr ⟨by omega,h6,hnew⟩
 · refine⟨Gz hg,by simp[Dq,BU,hlen],hh,hn,hn2,fun e=>hS.lim e,rfl,?_,?_,hfit,Nat.zero_le _,Vm (n:=n) (E:=E+1) hnew.cur,hnew.cur.ep,hnew.Ws,CW.flush hnew⟩
   · intro x hx;rw[CU.1 hx];exact⟨h1,h6⟩
   · show _=1+(Ce (recs [s])).length
     rw[Jq,Pb]
theorem X0 {st:St}:CW (Dq st) (fun x=>x=(Dq st).now):=fun x hx=>by rw[U4 hx];rfl
end
theorem aW (x:List ByteArray){F A h:Nat}(hA:A≤h)(hx:F+h≤x.length):((x.take (F+A)++List.replicate (h-A) BD++x.drop (F+A+(h-A))).drop F).take h=((x.drop F).take h).take A++List.replicate (h-A) BD:=by
 apply List.ext_getElem?;intro j;have hl:(x.take (F+A)).length=F+A:=by rw[BV];omega
 have hl2:(((x.drop F).take h).take A).length=A:=by rw[BV,BV,D8];omega
 rw[Jh];by_cases h1:j<A
 · rw[if_pos (by omega),IM,Cc,LM (by omega),Jh,if_pos (by omega),LM (by omega),Jh,if_pos h1,Jh,if_pos (by omega),IM]
 · by_cases h2:j<h
   · rw[if_pos h2,IM,Cc,List.getElem?_append_right (by omega),LM (by simp;omega),List.getElem?_append_right (by omega),hl,hl2];congr 1;omega
   · rw[if_neg h2,List.getElem?_eq_none (by rw[Bg,hl2,JL];omega)]
theorem Rf (l:List (List UInt8)):recs (l.map fun r=>(⟨r.toArray⟩:ByteArray))=l:=M0 l
section
variable {n h:Nat}{k:Bool}{E A p:Nat}{img fresh s:ByteArray}{rs r1 r2:List ByteArray}{lm:Bool}{st:St}
theorem ZL {l:List (List UInt8)}(h:∀r∈l,r≠[]∧r.length≤60000){rs:List ByteArray}(he:l=recs rs):∀s∈rs,1≤s.size∧s.size≤60000:=fun s hs=>by
 obtain⟨h1,h2⟩:=h s.data.toList (by rw[he];exact Cy.2 ⟨s,hs,rfl⟩);have h3:s.data.toList.length=s.size:=BP;have h4:0<s.data.toList.length:=List.length_pos_iff.2 h1;omega
theorem gV (hg:Good st)(hl:st.lim=false)(hlen:st.now.length=n)(h2:2≤h)(hn:2*h≤n)(hn2:n≤400)(hk:IU h st.now=k)(hR:FD h st.now=recs (img::rs))(hep:AL (st.now.getD (BF h k) ⟨#[]⟩)=E)(hoth:AL (st.now.getD (BF h (!k)) ⟨#[]⟩)<E)
 (hA:A=1+(Ce (recs (img::rs))).length):A≤h∧Dj n h k E A img rs (img::rs) [] false (Dq (AP st (BF h k+A) (h-A))):=by
 have hle:=Fy hn k;have hap:=Jg h k (by omega);have hle2:=Fy hn (!k);have hRb:DY ((Ac ((st.now.drop (BF h k)).take h)).drop 1)=recs (img::rs):=by
  rw[←hR];unfold FD;rw[hk]
 have hbl:(Ac ((st.now.drop (BF h k)).take h)).length=h:=by
  unfold Ac;rw[Em,BV,D8];omega
 obtain⟨t,ht⟩:=Sb ((Ac ((st.now.drop (BF h k)).take h)).drop 1);have hsz:=ZL (gD ((Ac ((st.now.drop (BF h k)).take h)).drop 1)) hRb;rw[hRb]at ht;have eF:A≤h:=by
  have:=Gu List.length ht;rw[Bg,D8,hbl]at this;omega
 refine⟨eF,?_⟩;obtain⟨g1,g2,g3,g4,g5⟩:=Nw (i:=BF h k+A) hg hl (h-A) (by omega);have hlen':(AP st (BF h k+A) (h-A)).now.length=n:=by
  rw[g3];simp;omega
 have hsp:∀F,(F<BF h k+A∨BF h k+h≤F)→(AP st (BF h k+A) (h-A)).now.getD F ⟨#[]⟩=st.now.getD F ⟨#[]⟩:=fun F hF=>by
  have h1:=Fb (x:=st.now) (fs:=List.replicate (h-A) BD) (i:=BF h k+A) (F:=F) (d:=⟨#[]⟩) (by simp;omega) (by simp;omega);rw[JL]at h1;rw[g3,h1]
 have wS:Holds (AP st (BF h k+A) (h-A)) (BF h k) h (img::rs):=by
  obtain⟨hd,tl,he⟩:∃hd tl,Ac ((st.now.drop (BF h k)).take h)=hd::tl:=by
   cases hc:Ac ((st.now.drop (BF h k)).take h) with
   | nil=>rw[hc]at hbl;simp at hbl;omega
   | cons a b=>exact⟨a,b,rfl⟩
  refine⟨hd,h-A,?_⟩;unfold G7;rw[g3,aW _ eF (by omega),Ic,JX,he,Pe];rw[he]at ht;have ht':tl=Ce (recs (img::rs))++t:=ht;rw[ht',hA,Nat.add_comm 1,List.take_succ_cons,List.take_left' rfl];rfl
 have e1:AL ((AP st (BF h k+A) (h-A)).now.getD (BF h k) ⟨#[]⟩)=E:=by rw[hsp _ (Or.inl (by omega))];exact hep
 have e2:AL ((AP st (BF h k+A) (h-A)).now.getD (BF h (!k)) ⟨#[]⟩)<E:=by rw[hsp _ (by omega)];exact hoth
 exact⟨Gz g1,hlen',h2,hn,hn2,fun _=>g2,by simp,hsz,hA,eF,Nat.zero_le _,H7 wS rfl,e1,e2,CW.flush ⟨KH hlen' wS e1,e2⟩⟩
theorem DX.read {x:List ByteArray}(hd:DX n h k E r1 r2 fresh x)(hs:∀s∈r1++r2,1≤s.size∧s.size≤60000)(hne:r1≠[]) :
 ∃k' E' LH rs',IU h x=k'∧FD h x=recs (LH::rs')∧AL (x.getD (BF h k') ⟨#[]⟩)=E'∧AL (x.getD (BF h (!k')) ⟨#[]⟩)<E'∧E'≤E+1∧((∃y,y <+: r2∧LH::rs'=r1++y)∨(fresh.size≠0∧LH=fresh∧rs'=[])):=by
 rcases hd with⟨y0,hy0,hv⟩|⟨hf,hf6,hv⟩
 · have hs2:∀s∈y0,1≤s.size∧s.size≤60000:=fun s hs'=>hs s (List.mem_append_right _ (hy0.subset hs'))
   obtain⟨y,hy,hr⟩:=hv.read (fun s hs'=>hs s (List.mem_append_left _ hs')) hs2;obtain⟨a,t,rfl⟩:∃a t,r1=a::t:=by
    cases r1 with
    | nil=>exact absurd rfl hne
    | cons a t=>exact⟨a,t,rfl⟩
   exact⟨k,E,a,t++y,hv.pick,hr,hv.cur.ep,hv.Ws,by omega,Or.inl ⟨y,hy.trans hy0,rfl⟩⟩
 · obtain⟨y,hy,hr⟩:=hv.read (fun s hs'=>by rw[CU.1 hs'];omega) (fun s hs'=>by cases hs');have hy0:y=[]:=List.prefix_nil.1 hy;subst hy0;exact⟨!k,E+1,fresh,[],hv.pick,hr,hv.cur.ep,hv.Ws,Ae _,Or.inr ⟨hf,rfl,rfl⟩⟩
theorem He.I1 (hD:He n h k E r1 r2 fresh st)(l:List Int):Good (Dl st l)∧(Dl st l).lim=false∧(Dl st l).now.length=n∧(Dl st l).pend=[]∧DX n h k E r1 r2 fresh (Dl st l).now:=
 ⟨WT hD.good l,rfl,(Si st hD.good l).trans hD.len,rfl,hD.out.I1 l⟩
structure Nu (n p:Nat)(st:St):Prop where
 good:Good st
 len:st.now.length=n
 lim:st.lim=false
 IE:st.pend.length≤p
theorem Nu.put (hS:Nu n p st){i:Nat}{s:ByteArray}(hi:i<n)(hs:s.size=64):Nu n (p+1) (BU st i s):=by
 have hlen:=hS.len;have hp:=hS.IE;exact⟨Ip hS.good (EU (Cb hS.lim) (by omega)) hs,by simp[BU,hlen],hS.lim,by simp[BU];omega⟩
theorem Nu.flush (hS:Nu n p st):Nu n 0 (Dq st):=⟨Gz hS.good,hS.len,hS.lim,Nat.zero_le _⟩
theorem Nu.UD (hS:Nu n p st){i m:Nat}(hi:i+m≤n):Nu n (p+m) (AP st i m)∧(AP st i m).now=st.now.take i++List.replicate m BD++st.now.drop (i+m):=by
 have hlen:=hS.len;have hp:=hS.IE;obtain⟨g1,g2,g3,g4,g5⟩:=Nw (i:=i) hS.good hS.lim m (by omega);exact⟨⟨g1,by rw[g3];simp;omega,g2,by omega⟩,g3⟩
theorem Nu.puts (hS:Nu n p st){i:Nat}{fs:List ByteArray}(hi:i+fs.length≤n)(hf:∀f∈fs,f.size=64):Nu n (p+fs.length) (Bh st i fs):=by
 have hlen:=hS.len;have hp:=hS.IE;obtain⟨g1,g2,g3,g4⟩:=UY fs st i hS.good hS.lim (by omega) hf;exact⟨g1,by rw[Kl _ _ _ (by omega)];simp;omega,g2,by rw[UX];simp;omega⟩
def Oe (n h:Nat)(s:ByteArray):Nat→St→Prop
 | 0,st=>Nu n 0 st
 | 1,st=>Nu n 0 st
 | 2,st=>Nu n 0 st
 | 3,st=>Nu n 1 st
 | 4,st=>Nu n 2 st∧AL (st.now.getD h ⟨#[]⟩)=0
 | 5,st=>Nu n 0 st∧AL (st.now.getD h ⟨#[]⟩)=0
 | 6,st=>Nu n 200 st∧AL (st.now.getD h ⟨#[]⟩)=0∧Holds st 0 h []
 | 7,st=>Nu n 400 st∧AL (st.now.getD h ⟨#[]⟩)=0∧Holds st 0 h []
 | 8,st=>Nu n 600 st∧AL (st.now.getD h ⟨#[]⟩)=0∧Holds st 0 h [s]
 | 9,st=>Nu n 0 st∧AL (st.now.getD h ⟨#[]⟩)=0∧Holds st 0 h [s]
 | 10,st=>Nu n 1 st∧VX n h false 1 [s] [] st.now
 | _,st=>Dj n h false 1 (1+(s.size+61)/62) s [] [s] [] false st∧st.pend=[]
theorem o9 (hS:Oe n h s 2 st)(h2:2≤h)(hn:2*h≤n):Oe n h s 3 (BU st 0 (C8 0)):=Nu.put hS (by omega) (H9 0)
theorem o8 (hS:Oe n h s 3 st)(h2:2≤h)(hn:2*h≤n):Oe n h s 4 (BU st h (C8 0)):=by
 refine⟨Nu.put hS (by omega) (H9 0),?_⟩;show AL ((st.now.set _ _).getD _ _)=0
 have hS':Nu n 1 st:=hS;have:=hS'.len;rw[Iq (by omega),Jz 0 (by decide)]
theorem jd (hS:Oe n h s 4 st):Oe n h s 5 (Dq st):=⟨hS.1.flush,hS.2⟩
theorem o7 (hS:Oe n h s 5 st)(h2:2≤h)(hn:2*h≤n)(hn2:n≤400):Oe n h s 6 (AP st (0+1) (h-1)):=by
 obtain⟨g1,g3⟩:=hS.1.UD (i:=0+1) (m:=h-1) (by omega);have hlen:=hS.1.len;refine⟨⟨g1.good,g1.len,g1.lim,by have:=g1.IE;omega⟩,?_,QC (F:=0) (by omega) (by omega) g3⟩;have h1:=Fb (x:=st.now) (fs:=List.replicate (h-1) BD) (i:=0+1) (F:=h) (d:=⟨#[]⟩) (by simp;omega) (by simp;omega);rw[JL]at h1;rw[g3,h1];exact hS.2
theorem oZ (hS:Oe n h s 6 st)(h2:2≤h)(hn:2*h≤n)(hn2:n≤400):Oe n h s 7 (AP st (h+1) (h-1)):=by
 obtain⟨g1,g3⟩:=hS.1.UD (i:=h+1) (m:=h-1) (by omega);have hlen:=hS.1.len;refine⟨⟨g1.good,g1.len,g1.lim,by have:=g1.IE;omega⟩,?_,H7 hS.2.2 ?_⟩
 · have h1:=Fb (x:=st.now) (fs:=List.replicate (h-1) BD) (i:=h+1) (F:=h) (d:=⟨#[]⟩) (by simp;omega) (by simp);rw[JL]at h1;rw[g3,h1];exact hS.2.1
 · have h1:=Qu (x:=st.now) (fs:=List.replicate (h-1) BD) (i:=h+1) (F:=0) (h:=h) (by simp;omega) (by simp);rw[JL]at h1;rw[g3,h1]
theorem oW (hS:Oe n h s 7 st)(h2:2≤h)(hn:2*h≤n)(hn2:n≤400)(hfit:1+(s.size+61)/62≤h):Oe n h s 8 (Bh st (0+1) (Bu s)):=by
 have hlen:=hS.1.len;have hfl:=Cf s;have g1:=hS.1.puts (i:=0+1) (fs:=Bu s) (by omega) (Eb s);refine⟨⟨g1.good,g1.len,g1.lim,by have:=g1.IE;omega⟩,?_,hS.2.2.put (F:=0) (by omega) rfl hfit⟩;rw[Kl _ _ _ (by omega),Fb (by omega) (Or.inl (by omega))];exact hS.2.1
theorem jb (hS:Oe n h s 8 st):Oe n h s 9 (Dq st):=⟨hS.1.flush,hS.2.1,H7 hS.2.2 rfl⟩
theorem vC (hS:Oe n h s 9 st)(h2:2≤h)(hn:2*h≤n)(hn2:n≤400):Oe n h s 10 (BU st 0 (C8 1)):=by
 have hlen:=hS.1.len;have hc:=KH (E:=AL (st.now.getD 0 ⟨#[]⟩)) hlen hS.2.2 rfl;obtain⟨hd,a,m,he,oz⟩:=hc.bk;refine⟨hS.1.put (by omega) (H9 1),⟨⟨?_,?_,(C8 1).data.toList,a,m,?_,oz⟩,?_⟩⟩
 · show(st.now.set _ _).length=n
   rw[List.length_set];exact hlen
 · show AL ((st.now.set 0 _).getD 0 _)=1
   rw[Iq (by omega),Jz 1 (by decide)]
 · have h1:=Ma (x:=st.now) (F:=0) (h:=h) (j:=0) (s:=C8 1) (by omega);rw[Nat.add_zero]at h1;show Ac (((st.now.set 0 (C8 1)).drop 0).take h)=_
   rw[h1,NZ,he];rfl
 · show AL ((st.now.set 0 _).getD h _)<1
   rw[getD_set_ne (by omega),hS.2.1];omega
theorem ja (hS:Oe n h s 10 st)(h2:2≤h)(hn:2*h≤n)(hn2:n≤400)(h1:1≤s.size)(h6:s.size≤60000)(hfit:1+(s.size+61)/62≤h):Oe n h s 11 (Dq st):=by
 obtain⟨hf,hv⟩:=hS;refine⟨⟨Gz hf.good,hf.len,h2,hn,hn2,fun _=>hf.lim,rfl,?_,?_,hfit,Nat.zero_le _,Vm (n:=n) (E:=1) hv.cur,hv.cur.ep,hv.Ws,CW.flush hv⟩,rfl⟩
 · intro x hx;rw[CU.1 hx];exact⟨h1,h6⟩
 · show _=1+(Ce (recs [s])).length
   rw[Jq,Pb]
end
end Go.Proofs.YtdmkhmeaphaapaaGreat.V
