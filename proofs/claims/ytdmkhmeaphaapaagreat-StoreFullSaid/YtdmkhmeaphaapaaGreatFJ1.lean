/- Kit. -/
import Derived.Test.YtdmkhmeaphaapaaGreatFW7
import Derived.Test.YtdmkhmeaphaapaaGreatFW6
set_option maxRecDepth 100000
namespace Go.Proofs.YtdmkhmeaphaapaaGreat.V
open Go.RowKit Go.Sort
set_option linter.unusedVariables false
def Out (st:St)(x:List ByteArray):Prop:=∃M,x=applyKept M st.pend st.safe
theorem out_put {st:St}{i:Nat}{s:ByteArray}{x:List ByteArray}(h:Out (putSt st i s) x):∃y,Out st y∧(x=y∨x=y.set i s):=by
  obtain⟨M,rfl⟩:=h;refine⟨applyKept M st.pend st.safe,⟨M,rfl⟩,?_⟩;have h1:=applyKept_snoc M st.pend (i,s) st.safe;show applyKept M (st.pend++[(i,s)]) st.safe=applyKept M st.pend st.safe∨applyKept M (st.pend++[(i,s)]) st.safe=(applyKept M st.pend st.safe).set i s
  rw[h1];split
  · exact Or.inr rfl
  · exact Or.inl rfl
theorem out_flush {st:St}{x:List ByteArray}(h:Out (flushSt st) x):x=st.now:=by
  obtain⟨M,rfl⟩:=h;rfl
theorem out_cut {st:St}{n:Int}{x:List ByteArray}(h:Out (cutSt st n) x):Out st x:=by
  unfold cutSt at h;split at h
  · exact h
  · exact h
theorem out_restart (st:St)(l:List Int):Out st (restartSt st l).now:=⟨_,rfl⟩
def OutAll (st:St)(P:List ByteArray→Prop):Prop:=∀x,Out st x→P x
theorem OutAll.imp {st:St}{P Q:List ByteArray→Prop}(h:OutAll st P)(hi:∀x,P x→Q x):OutAll st Q:=fun x hx=>hi x (h x hx)
theorem OutAll.put {st:St}{P:List ByteArray→Prop}{i:Nat}{s:ByteArray}(h:OutAll st P)(hs:∀x,P x→P (x.set i s)):OutAll (putSt st i s) P:=fun x hx=>by
  obtain⟨y,hy,h9⟩:=out_put hx;rcases h9 with h9|h9
  · rw[h9];exact h y hy
  · rw[h9];exact hs y (h y hy)
theorem OutAll.puts {st:St}{P:List ByteArray→Prop}{i:Nat}{fs:List ByteArray}(h:OutAll st P)(hs:∀j f,fs[j]?=some f→∀x,P x→P (x.set (i+j) f)):∀j,j≤fs.length→OutAll (putsSt st i (fs.take j)) P
  | 0,_=>h
  | j+1,hj=>by
    obtain⟨f,hf⟩:∃f,fs[j]?=some f:=⟨_,List.getElem?_eq_getElem (by omega)⟩;rw[puts_take_succ st i hf];exact(OutAll.puts h hs j (by omega)).put (hs j f hf)
theorem OutAll.wipes {st:St}{P:List ByteArray→Prop}{i:Nat}(h:OutAll st P):∀k,(∀j,j<k→∀x,P x→P (x.set (i+j) zero64))→OutAll (wipesSt st i k) P
  | 0,_=>h
  | k+1,hs=>by
    have ih:=OutAll.wipes h k (fun j hj=>hs j (by omega));show OutAll (wipe1 (wipesSt st i k) (i+k)) P
    unfold wipe1;split
    · exact ih
    · exact ih.put (hs k (by omega))
theorem OutAll.flush {st:St}{P:List ByteArray→Prop}(h:P st.now):OutAll (flushSt st) P:=fun x hx=>by rw[out_flush hx];exact h
theorem OutAll.cut {st:St}{P:List ByteArray→Prop}{n:Int}(h:OutAll st P):OutAll (cutSt st n) P:=fun x hx=>h x (out_cut hx)
theorem OutAll.restart {st:St}{P:List ByteArray→Prop}(h:OutAll st P)(l:List Int):P (restartSt st l).now:=h _ (out_restart st l)
theorem part_set_out {x:List ByteArray}{i F h:Nat}{s:ByteArray}(hi:i<F∨F+h≤i):((x.set i s).drop F).take h=(x.drop F).take h:=by
  apply List.ext_getElem?;intro j;rw[List.getElem?_take,List.getElem?_take];split
  · rw[List.getElem?_drop,List.getElem?_drop,List.getElem?_set_ne (by omega)]
  · rfl
theorem part_set_in {x:List ByteArray}{F h j:Nat}{s:ByteArray}(hj:j<h):((x.set (F+j) s).drop F).take h=((x.drop F).take h).set j s:=by
  apply List.ext_getElem?;intro i;rw[List.getElem?_take,List.getElem?_set,List.getElem?_take];by_cases hi:i<h
  · rw[if_pos hi,List.getElem?_drop,List.getElem?_set];by_cases e:j=i
    · subst e;rw[if_pos rfl,if_pos rfl];simp only[List.length_take,List.length_drop];by_cases hl:F+j<x.length
      · rw[if_pos hl,if_pos (by omega)]
      · rw[if_neg hl,if_neg (by omega)]
    · rw[if_neg (by omega),if_neg e,if_pos hi,List.getElem?_drop]
  · rw[if_neg hi,if_neg hi];split
    · omega
    · rfl
theorem bytesL_set (l:List ByteArray)(j:Nat)(s:ByteArray):bytesL (l.set j s)=(bytesL l).set j s.data.toList:=by
  unfold bytesL;rw[List.map_set]
theorem LostF.append:∀{fs a gs b:List (List UInt8)},LostF fs a→LostF gs b→LostF (fs++gs) (a++b)
  | [],[],gs,b,_,h=>h
  | f::fs,g::a,gs,b,h,h'=>⟨h.1,LostF.append h.2 h'⟩
  | [],g::a,_,_,h,_=>h.elim
  | f::fs,[],_,_,h,_=>h.elim
theorem lost_zeros:∀fs:List (List UInt8),LostF fs (List.replicate fs.length zeroF)
  | []=>trivial
  | f::fs=>⟨Or.inr rfl,lost_zeros fs⟩
theorem LostF.set:∀{fs a:List (List UInt8)} {p:Nat} {f:List UInt8},LostF fs a→fs[p]?=some f→LostF fs (a.set p f)
  | [],[],_,_,_,h=>by cases h
  | g::fs,b::a,0,f,h,hf=>by
    injection hf with hf;subst hf;exact⟨Or.inl rfl,h.2⟩
  | g::fs,b::a,p+1,f,h,hf=>⟨h.1,LostF.set h.2 hf⟩
  | [],g::a,_,_,h,_=>h.elim
  | f::fs,[],_,_,h,_=>h.elim
structure CurX (n F h E:Nat)(r1 r2:List ByteArray)(x:List ByteArray):Prop where
  len:x.length=n
  ep:epochI (x.getD F ⟨#[]⟩)=E
  bk:∃hd a m,bytesL ((x.drop F).take h)=hd::(layB (recs r1)++(a++List.replicate m zeroF))∧LostF (layB (recs r2)) a
theorem getD_set_ne {x:List ByteArray}{i F:Nat}{s d:ByteArray}(h:i≠F):(x.set i s).getD F d=x.getD F d:=by
  rw[List.getD_eq_getElem?_getD,List.getD_eq_getElem?_getD,List.getElem?_set_ne h]
theorem getD_set_eq {x:List ByteArray}{F:Nat}{s d:ByteArray}(h:F<x.length):(x.set F s).getD F d=s:=by
  rw[List.getD_eq_getElem?_getD,List.getElem?_set_self h];rfl
theorem CurX.out {n F h E:Nat}{r1 r2 x:List ByteArray}(hc:CurX n F h E r1 r2 x){i:Nat}{s:ByteArray}(hi:i<F∨F+h≤i)(hne:i≠F):CurX n F h E r1 r2 (x.set i s):=by
  refine⟨by rw[List.length_set];exact hc.len,by rw[getD_set_ne hne];exact hc.ep,?_⟩;rw[part_set_out hi];exact hc.bk
theorem CurX.weaken {n F h E:Nat}{r1 r2 x:List ByteArray}(hc:CurX n F h E r1 r2 x)(hF:F+h≤n)(s:ByteArray)(hr:1+(layB (recs r1)).length+(layB (recs r2)).length+(cutB s.data.toList).length≤h):CurX n F h E r1 (r2++[s]) x:=by
  obtain⟨hd,a,m,he,hl⟩:=hc.bk;have hla:=LostF.length hl;have hlen:(bytesL ((x.drop F).take h)).length=h:=by
    unfold bytesL;rw[List.length_map,List.length_take,List.length_drop,hc.len];omega
  have hm:1+(layB (recs r1)).length+a.length+m=h:=by
    rw[he]at hlen;simp at hlen;omega
  refine⟨hc.len,hc.ep,hd,a++List.replicate (cutB s.data.toList).length zeroF,m-(cutB s.data.toList).length,?_,?_⟩
  · rw[he];congr 2;rw[List.append_assoc,List.replicate_append_replicate];congr 2;omega
  · rw[recs_append,layB_append,layB_one];exact hl.append (lost_zeros _)
theorem CurX.put {n F h E:Nat}{r1 r2 x:List ByteArray}(hc:CurX n F h E r1 r2 x)(hF:F+h≤n){p:Nat}{f:ByteArray}(hf:(layB (recs r2))[p]?=some f.data.toList):CurX n F h E r1 r2 (x.set (F+(1+(layB (recs r1)).length+p)) f):=by
  obtain⟨hd,a,m,he,hl⟩:=hc.bk;have hla:=LostF.length hl;have hp:p<(layB (recs r2)).length:=(List.getElem?_eq_some_iff.1 hf).1;have hlen:(bytesL ((x.drop F).take h)).length=h:=by
    unfold bytesL;rw[List.length_map,List.length_take,List.length_drop,hc.len];omega
  have hm:1+(layB (recs r1)).length+a.length+m=h:=by
    rw[he]at hlen;simp at hlen;omega
  refine⟨by rw[List.length_set];exact hc.len,by rw[getD_set_ne (by omega)];exact hc.ep,hd,a.set p f.data.toList,m,?_,hl.set hf⟩;rw[part_set_in (by omega),bytesL_set,he,Nat.add_assoc,Nat.add_comm 1,List.set_cons_succ,List.set_append,if_neg (by omega),List.set_append,if_pos (by omega),show(layB (recs r1)).length+p-(layB (recs r1)).length=p by omega]
theorem CurX.scan {n F h E:Nat}{r1 r2 x:List ByteArray}(hc:CurX n F h E r1 r2 x)(h1:∀s∈r1,1≤s.size∧s.size≤60000)(h2:∀s∈r2,1≤s.size∧s.size≤60000) :
    ∃y,y <+: r2∧scanB ((bytesL ((x.drop F).take h)).drop 1)=recs (r1++y):=by
  obtain⟨hd,a,m,he,hl⟩:=hc.bk;have hnz:∀rs:List ByteArray,(∀s∈rs,1≤s.size∧s.size≤60000)→∀r∈recs rs,r≠[]∧r.length≤60000:=fun rs hr r hr2=>by
    obtain⟨s,hs,rfl⟩:=List.mem_map.1 hr2;have:=hr s hs;have hl:s.data.toList.length=s.size:=Array.length_toList;exact⟨fun e=>by rw[e]at hl;simp at hl;omega,by omega⟩
  have hsc:scanB ((bytesL ((x.drop F).take h)).drop 1)=recs r1++scanB (a++List.replicate m zeroF):=by
    rw[he];show scanB (layB (recs r1)++(a++List.replicate m zeroF))=_
    refine scanB_lay _ _ (hnz r1 h1) (fun f hf=>?_);rcases List.mem_append.1 hf with h3|h3
    · exact LostF.sizes hl (layB_all _) f h3
    · exact zeros_all m f h3
  have hpre:=lost_scan (recs r2) a (List.replicate m zeroF) (hnz r2 h2) hl (fun f hf=>(List.mem_replicate.1 hf).2);generalize scanB (a++List.replicate m zeroF)=y at *;obtain⟨t,ht⟩:=hpre;refine⟨r2.take y.length,List.take_prefix _ _,?_⟩;rw[hsc,recs_append];congr 1;unfold recs;rw[bytesL_take];show y=(recs r2).take y.length
  rw[←ht,List.take_left' rfl]
theorem out_write {st:St}{n F h E:Nat}{r1 r2:List ByteArray}{Q:List ByteArray→Prop}(hF:F+h≤n)(s:ByteArray)(hr:1+(layB (recs r1)).length+(layB (recs r2)).length+(cutB s.data.toList).length≤h)
    (hQ:∀x i f,F<i→i<F+h→Q x→Q (x.set i f)) (ho:OutAll st (fun x=>CurX n F h E r1 r2 x∧Q x)) (j:Nat) (hj:j≤(framesL s).length) :
    OutAll (putsSt st (F+(1+(layB (recs (r1++r2))).length)) ((framesL s).take j)) (fun x=>CurX n F h E r1 (r2++[s]) x∧Q x):=by
  have hrl:(layB (recs (r1++r2))).length=(layB (recs r1)).length+(layB (recs r2)).length:=by rw[recs_append,layB_append,List.length_append]
  have hfb:=framesL_bytes s;have hfl:(framesL s).length=(cutB s.data.toList).length:=by rw[←hfb];unfold bytesL;rw[List.length_map]
  refine OutAll.puts (ho.imp fun x hx=>⟨hx.1.weaken hF s hr,hx.2⟩) (fun i f hf x hx=>?_) j hj;have hi:i<(framesL s).length:=(List.getElem?_eq_some_iff.1 hf).1;refine⟨?_,hQ x _ f (by omega) (by omega) hx.2⟩;have h1:=hx.1.put hF (p:=(layB (recs r2)).length+i) (f:=f) (by
    rw[recs_append,layB_append,layB_one,List.getElem?_append_right (by omega),show(layB (recs r2)).length+i-(layB (recs r2)).length=i by omega,←hfb];unfold bytesL;rw[List.getElem?_map,hf];rfl)
  rw[show F+(1+(layB (recs r1)).length+((layB (recs r2)).length+i))=F+(1+(layB (recs (r1++r2))).length)+i by omega]at h1;exact h1
end Go.Proofs.YtdmkhmeaphaapaaGreat.V
namespace Go.Proofs.YtdmkhmeaphaapaaGreat.V
open Go.RowKit Go.Sort
set_option linter.unusedVariables false
def bkF (h:Nat):Bool→Nat
  | false=>0
  | true=>h
theorem bkF_apart (h:Nat)(k:Bool)(hh:1≤h):bkF h (!k)+h≤bkF h k∨bkF h k+h≤bkF h (!k):=by
  cases k<;>simp[bkF]
theorem bkF_le {n h:Nat}(hn:2*h≤n)(k:Bool):bkF h k+h≤n:=by
  cases k<;>simp[bkF]<;>omega
structure VX (n h:Nat)(k:Bool)(E:Nat)(r1 r2:List ByteArray)(x:List ByteArray):Prop where
  cur:CurX n (bkF h k) h E r1 r2 x
  oth:epochI (x.getD (bkF h (!k)) ⟨#[]⟩)<E
def pickX (h:Nat)(x:List ByteArray):Bool:=decide (epochI (x.getD 0 ⟨#[]⟩)<epochI (x.getD h ⟨#[]⟩))
theorem VX.pick {n h E:Nat}{k:Bool}{r1 r2 x:List ByteArray}(hv:VX n h k E r1 r2 x):pickX h x=k:=by
  have h1:=hv.cur.ep;have h2:=hv.oth;unfold pickX;cases k with
  | false =>
    simp only[bkF,Bool.not_false]at h1 h2;exact decide_eq_false (by omega)
  | true =>
    simp only[bkF,Bool.not_true]at h1 h2;exact decide_eq_true (by omega)
def readX (h:Nat)(x:List ByteArray):List (List UInt8):=scanB ((bytesL ((x.drop (bkF h (pickX h x))).take h)).drop 1)
theorem VX.read {n h E:Nat}{k:Bool}{r1 r2 x:List ByteArray}(hv:VX n h k E r1 r2 x)(h1:∀s∈r1,1≤s.size∧s.size≤60000)(h2:∀s∈r2,1≤s.size∧s.size≤60000) :
    ∃y,y <+: r2∧readX h x=recs (r1++y):=by
  unfold readX;rw[hv.pick];exact hv.cur.scan h1 h2
theorem VX.set {n h E:Nat}{k:Bool}{r1 r2 x:List ByteArray}(hv:VX n h k E r1 r2 x)(hh:1≤h){i:Nat}{s:ByteArray}(h1:bkF h (!k)<i)(h2:i<bkF h (!k)+h):VX n h k E r1 r2 (x.set i s):=by
  have ha:=bkF_apart h k hh;exact⟨hv.cur.out (by omega) (by omega),by rw[getD_set_ne (by omega)];exact hv.oth⟩
theorem VX.none {n h E:Nat}{k:Bool}{r1 r2 x:List ByteArray}(hv:VX n h k E r1 r2 x)(hh:1≤h)(hn:2*h≤n):VX n h k E r1 r2 (x.set (bkF h (!k)) (headB 0)):=by
  have ha:=bkF_apart h k hh;have hl:=bkF_le hn (!k);have hE:=hv.oth;refine⟨hv.cur.out (by omega) (by omega),?_⟩;rw[getD_set_eq (by rw[hv.cur.len];omega),epoch_head 0 (by decide)];omega
theorem VX.renew {n h E:Nat}{k:Bool}{r1 r2 q x:List ByteArray}(hv:VX n h k E r1 r2 x)(hh:1≤h)(hn:2*h≤n)(hE:E+1<18446744073709551616)(hq:CurX n (bkF h (!k)) h 0 q [] x):VX n h (!k) (E+1) q [] (x.set (bkF h (!k)) (headB (E+1))):=by
  have ha:=bkF_apart h k hh;have hl:=bkF_le hn (!k);obtain⟨hd,a,m,he,hlost⟩:=hq.bk;refine⟨⟨by rw[List.length_set];exact hv.cur.len,by rw[getD_set_eq (by rw[hv.cur.len];omega),epoch_head (E+1) hE],(headB (E+1)).data.toList,a,m,?_,hlost⟩,?_⟩
  · have h1:=part_set_in (x:=x) (F:=bkF h (!k)) (h:=h) (j:=0) (s:=headB (E+1)) (by omega);rw[Nat.add_zero]at h1;rw[h1,bytesL_set,he];rfl
  · rw[Bool.not_not,getD_set_ne (by omega),hv.cur.ep];omega
theorem cur_holds {st:St}{n F h E:Nat}{rs:List ByteArray}(hn:st.now.length=n)(hh:Holds st F h rs)(hE:epochI (st.now.getD F ⟨#[]⟩)=E):CurX n F h E rs [] st.now:=by
  obtain⟨hd,m,he⟩:=hh;exact⟨hn,hE,hd,[],m,he,trivial⟩
theorem holds_same {st st':St}{F h:Nat}{rs:List ByteArray}(hh:Holds st F h rs)(hs:(st'.now.drop F).take h=(st.now.drop F).take h):Holds st' F h rs:=by
  obtain⟨hd,m,he⟩:=hh;exact⟨hd,m,by unfold bankL at he ⊢;rw[hs];exact he⟩
theorem part_splice {x fs:List ByteArray}{i F h:Nat}(hi:i+fs.length≤x.length)(ho:i+fs.length≤F∨F+h≤i):((x.take i++fs++x.drop (i+fs.length)).drop F).take h=(x.drop F).take h:=by
  apply List.ext_getElem?;intro j;rw[List.getElem?_take,List.getElem?_take];split
  · rw[List.getElem?_drop,List.getElem?_drop];have hl:(x.take i).length=i:=by rw[List.length_take];omega
    rcases ho with ho|ho
    · rw[List.append_assoc,List.getElem?_append_right (by omega),List.getElem?_append_right (by omega),hl,List.getElem?_drop];congr 1;omega
    · rw[List.append_assoc,List.getElem?_append_left (by omega),List.getElem?_take,if_pos (by omega)]
  · rfl
theorem head_splice {x fs:List ByteArray}{i F:Nat}{d:ByteArray}(hi:i+fs.length≤x.length)(ho:i+fs.length≤F∨F<i):(x.take i++fs++x.drop (i+fs.length)).getD F d=x.getD F d:=by
  have h1:=part_splice (x:=x) (fs:=fs) (i:=i) (F:=F) (h:=1) hi (by omega);have h2:=congrArg (fun l=>l[0]?) h1;simp only[List.getElem?_take,List.getElem?_drop]at h2;rw[List.getD_eq_getElem?_getD,List.getD_eq_getElem?_getD];simpa using congrArg (fun o=>Option.getD o d) h2
theorem holds_wiped {st st':St}{F h:Nat}(hh:1≤h)(hl:F+h≤st.now.length)(he:st'.now=st.now.take (F+1)++List.replicate (h-1) zero64++st.now.drop (F+1+(h-1))):Holds st' F h []:=by
  obtain⟨j,rfl⟩:∃j,h=j+1:=⟨h-1,by omega⟩;simp only[Nat.add_sub_cancel]at he;refine⟨(st.now.getD F ⟨#[]⟩).data.toList,j,?_⟩;show bytesL ((st'.now.drop F).take (j+1))=_::([]++List.replicate j zeroF)
  have hF:F<st.now.length:=by omega
  have e1:(st'.now.drop F).take (j+1)=st.now.getD F ⟨#[]⟩::List.replicate j zero64:=by
    have e2:(st.now.drop F).take 1=[st.now[F]]:=by rw[List.drop_eq_getElem_cons hF];rfl
    rw[he,List.append_assoc,List.drop_append,List.length_take,Nat.min_eq_left (by omega),show F-(F+1)=0 by omega,List.drop_zero,List.drop_take,show F+1-F=1 by omega,e2];rw[List.getD_eq_getElem?_getD,List.getElem?_eq_getElem hF];show List.take (j+1) (st.now[F]::(List.replicate j zero64++_))=st.now[F]::_
    rw[List.take_succ_cons,List.take_left' (by simp)]
  rw[e1];show _::bytesL (List.replicate j zero64)=_
  rw[bytesL_zeros];rfl
end Go.Proofs.YtdmkhmeaphaapaaGreat.V
namespace Go.Proofs.YtdmkhmeaphaapaaGreat.V
open Go.RowKit Go.Sort
set_option linter.unusedVariables false
theorem scan_split (l:List (List UInt8)):∃t,l=layB (scanB l)++t:=by
  induction h:l.length using Nat.strongRecOn generalizing l with
  | ind n ih =>
    by_cases h0:l=[]∨oneB l=[]
    · rw[scanB_stop h0];exact⟨l,rfl⟩
    · have hl:l≠[]:=fun e=>h0 (Or.inl e)
      have ho:oneB l≠[]:=fun e=>h0 (Or.inr e)
      rw[scanB_next ho hl];obtain⟨_,t,ht⟩:=oneB_some rfl ho;have hc:1≤(cutB (oneB l)).length:=by rw[cutB_cons ho,List.length_cons];omega
      show ∃t,l=(cutB (oneB l)++layB (scanB (l.drop (cutB (oneB l)).length)))++t
      generalize cutB (oneB l)=c at *;have hd:l.drop c.length=t:=by rw[←ht,List.drop_left]
      have hlen:0<l.length:=List.length_pos_iff.2 hl;obtain⟨u,hu⟩:=ih t.length (by
        have:=congrArg List.length ht;rw[List.length_append]at this;omega) t rfl
      refine⟨u,?_⟩;rw[hd,List.append_assoc,←hu,ht]
theorem scan_good (l:List (List UInt8)):∀r∈scanB l,r≠[]∧r.length≤60000:=by
  induction h:l.length using Nat.strongRecOn generalizing l with
  | ind n ih =>
    intro r hr;by_cases h0:l=[]∨oneB l=[]
    · rw[scanB_stop h0]at hr;cases hr
    · have hl:l≠[]:=fun e=>h0 (Or.inl e)
      have ho:oneB l≠[]:=fun e=>h0 (Or.inr e)
      rw[scanB_next ho hl]at hr;rcases List.mem_cons.1 hr with rfl|hr
      · exact⟨ho,(oneB_some rfl ho).1⟩
      · have hc:1≤(cutB (oneB l)).length:=by rw[cutB_cons ho,List.length_cons];omega
        have hlen:0<l.length:=List.length_pos_iff.2 hl;exact ih _ (by rw[List.length_drop];omega) _ rfl r hr
theorem scan_le (l:List (List UInt8)):(layB (scanB l)).length≤l.length:=by
  obtain⟨t,ht⟩:=scan_split l;have:=congrArg List.length ht;rw[List.length_append]at this;omega
end Go.Proofs.YtdmkhmeaphaapaaGreat.V
namespace Go.Proofs.YtdmkhmeaphaapaaGreat.V
open Go.RowKit Go.Sort
set_option linter.unusedVariables false
structure LiveS (n h:Nat)(k:Bool)(E A:Nat)(img:ByteArray)(rs r1 r2:List ByteArray)(lm:Bool)(st:St):Prop where
  good:Good st
  len:st.now.length=n
  h2:2≤h
  hn:2*h≤n
  n2:n≤400
  lim:lm=false→st.lim=false
  all:img::rs=r1++r2
  sizes:∀s∈img::rs,1≤s.size∧s.size≤60000
  end_:A=1+(layB (recs (img::rs))).length
  room:A≤h
  pnd:st.pend.length≤(layB (recs r2)).length
  hold:Holds st (bkF h k) h (img::rs)
  ep:epochI (st.now.getD (bkF h k) ⟨#[]⟩)=E
  oth:epochI (st.now.getD (bkF h (!k)) ⟨#[]⟩)<E
  out:OutAll st (VX n h k E r1 r2)
def DX (n h:Nat)(k:Bool)(E:Nat)(r1 r2:List ByteArray)(fresh:ByteArray)(x:List ByteArray):Prop:=
  (∃y,y <+: r2∧VX n h k E r1 y x)∨(fresh.size≠0∧fresh.size≤60000∧VX n h (!k) (E+1) [fresh] [] x)
structure DeadS (n h:Nat)(k:Bool)(E:Nat)(r1 r2:List ByteArray)(fresh:ByteArray)(st:St):Prop where
  good:Good st
  len:st.now.length=n
  pnd:st.pend.length≤1000
  out:OutAll st (DX n h k E r1 r2 fresh)
structure StgS (n h:Nat)(k:Bool)(E:Nat)(r1 r2:List ByteArray)(p:Nat)(lm:Bool)(st:St):Prop where
  good:Good st
  len:st.now.length=n
  lim:lm=false→st.lim=false
  pnd:st.pend.length≤p
  out:OutAll st (VX n h k E r1 r2)
  now_:VX n h k E r1 r2 st.now
theorem LostF.refl:∀l:List (List UInt8),LostF l l
  | []=>trivial
  | f::l=>⟨Or.inl rfl,LostF.refl l⟩
theorem cur_split {n F h E:Nat}{r1 r2 x:List ByteArray}(hc:CurX n F h E (r1++r2) [] x):CurX n F h E r1 r2 x:=by
  obtain⟨hd,a,m,he,hl⟩:=hc.bk;have ha:a=[]:=by
    have h1:=LostF.length hl;exact List.eq_nil_of_length_eq_zero h1
  subst ha;refine⟨hc.len,hc.ep,hd,layB (recs r2),m,?_,LostF.refl _⟩;rw[he,recs_append,layB_append];simp
theorem cut_len (s:ByteArray):(cutB s.data.toList).length=(s.size+61)/62:=by
  rw[cutB_length,Array.length_toList];rfl
theorem lay_snoc (rs:List ByteArray)(s:ByteArray):(layB (recs (rs++[s]))).length=(layB (recs rs)).length+(s.size+61)/62:=by
  rw[recs_append,layB_append,List.length_append,layB_one,cutB_length,Array.length_toList];rfl
theorem lay_app (a b:List ByteArray):(layB (recs (a++b))).length=(layB (recs a)).length+(layB (recs b)).length:=by
  rw[recs_append,layB_append,List.length_append]
section
variable {n h:Nat}{k:Bool}{E A p:Nat}{img fresh:ByteArray}{rs r1 r2:List ByteArray}{lm:Bool}{st:St}
theorem LiveS.now_ (hL:LiveS n h k E A img rs r1 r2 lm st):VX n h k E r1 r2 st.now:=by
  refine⟨cur_split ?_,hL.oth⟩;rw[←hL.all];exact cur_holds hL.len hL.hold hL.ep
theorem LiveS.pndh (hL:LiveS n h k E A img rs r1 r2 lm st):st.pend.length≤h:=by
  have h1:=hL.pnd;have h2:=hL.end_;have h3:=hL.room;rw[hL.all,lay_app]at h2;omega
theorem LiveS.stg (hL:LiveS n h k E A img rs r1 r2 lm st):StgS n h k E r1 r2 h lm st:=⟨hL.good,hL.len,hL.lim,hL.pndh,hL.out,hL.now_⟩
theorem LiveS.dead (hL:LiveS n h k E A img rs r1 r2 lm st)(t:List ByteArray)(fresh:ByteArray):DeadS n h k E r1 (r2++t) fresh st:=by
  have h1:=hL.pndh;have h2:=hL.n2;have h3:=hL.hn;exact⟨hL.good,hL.len,by omega,hL.out.imp fun x hx=>Or.inl ⟨r2,List.prefix_append _ _,hx⟩⟩
theorem StgS.dead (hS:StgS n h k E r1 r2 p lm st)(hp:p≤1000)(fresh:ByteArray):DeadS n h k E r1 r2 fresh st:=
  ⟨hS.good,hS.len,Nat.le_trans hS.pnd hp,hS.out.imp fun x hx=>Or.inl ⟨r2,List.prefix_refl _,hx⟩⟩
theorem LiveS.cut (hL:LiveS n h k E A img rs r1 r2 lm st){N:Int}(h1:-9223372036854775808≤N)(h2:N≤9223372036854775807):LiveS n h k E A img rs r1 r2 true (cutSt st N):=by
  have hn:(cutSt st N).now=st.now∧(cutSt st N).pend=st.pend:=by
    unfold cutSt;split<;>exact⟨rfl,rfl⟩
  refine⟨good_cut hL.good h1 h2,by rw[hn.1];exact hL.len,hL.h2,hL.hn,hL.n2,by simp,hL.all,hL.sizes,hL.end_,hL.room,by rw[hn.2];exact hL.pnd,?_,by rw[hn.1];exact hL.ep,by rw[hn.1];exact hL.oth,hL.out.cut⟩;exact holds_same hL.hold (by rw[hn.1])
theorem DeadS.cut (hD:DeadS n h k E r1 r2 fresh st){N:Int}(h1:-9223372036854775808≤N)(h2:N≤9223372036854775807):DeadS n h k E r1 r2 fresh (cutSt st N):=by
  have hn:(cutSt st N).now=st.now∧(cutSt st N).pend=st.pend:=by
    unfold cutSt;split<;>exact⟨rfl,rfl⟩
  exact⟨good_cut hD.good h1 h2,by rw[hn.1];exact hD.len,by rw[hn.2];exact hD.pnd,hD.out.cut⟩
theorem LiveS.flush (hL:LiveS n h k E A img rs r1 r2 lm st):LiveS n h k E A img rs (r1++r2) [] lm (flushSt st):=by
  refine⟨good_flush hL.good,hL.len,hL.h2,hL.hn,hL.n2,hL.lim,by rw[List.append_nil];exact hL.all,hL.sizes,hL.end_,hL.room,Nat.zero_le _,holds_same hL.hold rfl,hL.ep,hL.oth,OutAll.flush ⟨?_,hL.oth⟩⟩;rw[←hL.all];exact cur_holds hL.len hL.hold hL.ep
theorem frames_bkF (hL:LiveS n h k E A img rs r1 r2 lm st){m:Nat}(hm:A+m≤h):bkF h k+A+m≤st.now.length∧1≤A:=by
  have h1:=bkF_le hL.hn k;have h2:=hL.end_;have h3:=hL.len;omega
theorem LiveS.append (hL:LiveS n h k E A img rs r1 r2 lm st){s:ByteArray}(h1:1≤s.size)(h6:s.size≤60000)(hfit:A+(s.size+61)/62≤h)(hr:Runs st (bkF h k+A) (framesL s)) :
    LiveS n h k E (A+(s.size+61)/62) img (rs++[s]) r1 (r2++[s]) lm (putsSt st (bkF h k+A) (framesL s)):=by
  have hfl:=framesL_length s;obtain⟨hi,hA1⟩:=frames_bkF hL hfit;have hp:=puts_any (st:=st) (i:=bkF h k+A) (fs:=framesL s) hL.good (by omega) (framesL_size s) hr _ (Nat.le_refl _);rw[List.take_length]at hp;obtain⟨g1,g2,g3,g4,g5⟩:=hp;have hnow:=puts_now (framesL s) st (bkF h k+A) (by omega);have hap:=bkF_apart h k (by have:=hL.h2;omega);have hle:=bkF_le hL.hn (!k);have hlen:=hL.len;refine⟨g1,g3.trans hL.len,hL.h2,hL.hn,hL.n2,fun e=>g2.trans (hL.lim e),?_,?_,?_,hfit,?_,?_,?_,?_,?_⟩
  · rw[←List.cons_append,hL.all,List.append_assoc]
  · intro x hx;rw[←List.cons_append]at hx;rcases List.mem_append.1 hx with hx|hx
    · exact hL.sizes x hx
    · rw[List.mem_singleton.1 hx];exact⟨h1,h6⟩
  · rw[←List.cons_append,lay_snoc,hL.end_];omega
  · rw[g4,lay_snoc,hfl];have:=hL.pnd;omega
  · rw[←List.cons_append];exact hL.hold.put (by have:=bkF_le hL.hn k;omega) hL.end_ hfit
  · rw[hnow,head_splice (by omega) (Or.inr (by omega))];exact hL.ep
  · rw[hnow,head_splice (by omega) (by omega)];exact hL.oth
  · have ho:=out_write (st:=st) (n:=n) (F:=bkF h k) (h:=h) (E:=E) (r1:=r1) (r2:=r2) (Q:=fun x=>epochI (x.getD (bkF h (!k)) ⟨#[]⟩)<E) (bkF_le hL.hn k) s (by
      have h9:=hL.end_;rw[hL.all,lay_app]at h9;rw[cut_len];omega) (fun x i f hi1 hi2 hq=>by rw[getD_set_ne (by omega)];exact hq) (hL.out.imp fun x hx=>⟨hx.cur,hx.oth⟩) _ (Nat.le_refl _)
    rw[List.take_length,←hL.all,←hL.end_]at ho;exact ho.imp fun x hx=>⟨hx.1,hx.2⟩
theorem LiveS.append_lost (hL:LiveS n h k E A img rs r1 r2 lm st){s:ByteArray}(h1:1≤s.size)(h6:s.size≤60000)(hfit:A+(s.size+61)/62≤h){j:Nat}(hj:j≤(s.size+61)/62)(hr:Runs st (bkF h k+A) ((framesL s).take j))(fresh:ByteArray) :
    DeadS n h k E r1 (r2++[s]) fresh (putsSt st (bkF h k+A) ((framesL s).take j)):=by
  have hfl:=framesL_length s;obtain⟨hi,hA1⟩:=frames_bkF hL hfit;have hlt:((framesL s).take j).length=j:=by rw[List.length_take];omega
  have hp:=puts_any (st:=st) (i:=bkF h k+A) (fs:=(framesL s).take j) hL.good (by omega) (fun f hf=>framesL_size s f (List.mem_of_mem_take hf)) hr _ (Nat.le_refl _);rw[List.take_length]at hp;obtain⟨g1,g2,g3,g4,g5⟩:=hp;have hap:=bkF_apart h k (by have:=hL.h2;omega);have hph:=hL.pndh;have hn2:=hL.n2;have hnn:=hL.hn;refine⟨g1,g3.trans hL.len,by omega,?_⟩;have ho:=out_write (st:=st) (n:=n) (F:=bkF h k) (h:=h) (E:=E) (r1:=r1) (r2:=r2) (Q:=fun x=>epochI (x.getD (bkF h (!k)) ⟨#[]⟩)<E) (bkF_le hL.hn k) s (by
      have h9:=hL.end_;rw[hL.all,lay_app]at h9;rw[cut_len];omega) (fun x i f hi1 hi2 hq=>by rw[getD_set_ne (by omega)];exact hq) (hL.out.imp fun x hx=>⟨hx.cur,hx.oth⟩) j (by omega)
  rw[←hL.all,←hL.end_]at ho;exact ho.imp fun x hx=>Or.inl ⟨_,List.prefix_refl _,⟨hx.1,hx.2⟩⟩
end
end Go.Proofs.YtdmkhmeaphaapaaGreat.V
namespace Go.Proofs.YtdmkhmeaphaapaaGreat.V
open Go.RowKit Go.Sort
set_option linter.unusedVariables false
section
variable {n h:Nat}{k:Bool}{E A p:Nat}{img fresh:ByteArray}{rs r1 r2:List ByteArray}{lm:Bool}{st:St}
theorem StgS.put1 (hS:StgS n h k E r1 r2 p lm st)(hh:1≤h)(hn:2*h≤n)(hgo:goneB st=false){i:Nat}{s:ByteArray}(h1:bkF h (!k)<i)(h2:i<bkF h (!k)+h)(hs:s.size=64):StgS n h k E r1 r2 (p+1) lm (putSt st i s):=by
  have hle:=bkF_le hn (!k);have hlen:=hS.len;have hp:=hS.pnd;exact⟨good_put hS.good (ask_ok hgo (by omega)) hs,by simp[putSt,hlen],fun e=>hS.lim e,by simp[putSt];omega,hS.out.put (fun x hx=>hx.set hh h1 h2),hS.now_.set hh h1 h2⟩
theorem StgS.mono (hS:StgS n h k E r1 r2 p lm st){q:Nat}(hq:p≤q):StgS n h k E r1 r2 q lm st:=⟨hS.good,hS.len,hS.lim,Nat.le_trans hS.pnd hq,hS.out,hS.now_⟩
theorem StgS.shut (hS:StgS n h k E r1 r2 p lm st)(hh:1≤h)(hn:2*h≤n)(hgo:goneB st=false):StgS n h k E r1 r2 (p+1) lm (putSt st (bkF h (!k)) (headB 0))∧epochI ((putSt st (bkF h (!k)) (headB 0)).now.getD (bkF h (!k)) ⟨#[]⟩)=0:=by
  have hle:=bkF_le hn (!k);have hlen:=hS.len;have hp:=hS.pnd;refine⟨⟨good_put hS.good (ask_ok hgo (by omega)) (headB_size 0),by simp[putSt,hlen],fun e=>hS.lim e,by simp[putSt];omega,hS.out.put (fun x hx=>hx.none hh hn),hS.now_.none hh hn⟩,?_⟩;show epochI ((st.now.set _ _).getD _ _)=0
  rw[getD_set_eq (by omega),epoch_head 0 (by decide)]
theorem StgS.flush (hS:StgS n h k E r1 r2 p lm st):StgS n h k E r1 r2 0 lm (flushSt st):=
  ⟨good_flush hS.good,hS.len,hS.lim,Nat.zero_le _,OutAll.flush hS.now_,hS.now_⟩
theorem StgS.wipes (hS:StgS n h k E r1 r2 p lm st)(hh:1≤h)(hn:2*h≤n):∀j,j≤h-1→RunsW st (bkF h (!k)+1) j→StgS n h k E r1 r2 (p+j) lm (wipesSt st (bkF h (!k)+1) j)
  | 0,_,_=>hS
  | j+1,hj,hr=>by
    have ih:=hS.wipes hh hn j (by omega) (fun i hi=>hr i (by omega));show StgS n h k E r1 r2 (p+j+1) lm (wipe1 (wipesSt st (bkF h (!k)+1) j) (bkF h (!k)+1+j))
    unfold wipe1;split
    · exact ih.mono (by omega)
    · exact ih.put1 hh hn (hr j (by omega)) (by omega) (by omega) rfl
theorem StgS.puts (hS:StgS n h k E r1 r2 p lm st)(hh:1≤h)(hn:2*h≤n){fs:List ByteArray}(hf:∀f∈fs,f.size=64)(hl:1+fs.length≤h):∀j,j≤fs.length→Runs st (bkF h (!k)+1) (fs.take j)→StgS n h k E r1 r2 (p+j) lm (putsSt st (bkF h (!k)+1) (fs.take j))
  | 0,_,_=>hS
  | j+1,hj,hr=>by
    have hr':Runs st (bkF h (!k)+1) (fs.take j):=fun i hi=>by
      rw[List.length_take]at hi;have h1:=hr i (by rw[List.length_take];omega);rw[List.take_take,Nat.min_eq_left (by omega)]at h1 ⊢;exact h1
    have ih:=hS.puts hh hn hf hl j (by omega) hr';obtain⟨f,hfj⟩:∃f,fs[j]?=some f:=⟨_,List.getElem?_eq_getElem (by omega)⟩;rw[puts_take_succ _ _ hfj];have hgo:=hr j (by rw[List.length_take];omega);rw[List.take_take,Nat.min_eq_left (by omega)]at hgo;exact ih.put1 hh hn hgo (by omega) (by omega) (hf f (List.mem_of_getElem? hfj))
theorem StgS.wiped (hS:StgS n h k E r1 r2 p lm st)(hh:1≤h)(hn:2*h≤n)(hr:RunsW st (bkF h (!k)+1) (h-1))(he:epochI (st.now.getD (bkF h (!k)) ⟨#[]⟩)=0) :
    StgS n h k E r1 r2 (p+(h-1)) lm (wipesSt st (bkF h (!k)+1) (h-1))∧Holds (wipesSt st (bkF h (!k)+1) (h-1)) (bkF h (!k)) h []∧epochI ((wipesSt st (bkF h (!k)+1) (h-1)).now.getD (bkF h (!k)) ⟨#[]⟩)=0:=by
  have hle:=bkF_le hn (!k);have hlen:=hS.len;obtain⟨g1,g2,g3,g4,g5⟩:=wipes_any (i:=bkF h (!k)+1) hS.good (h-1) (by omega) hr;refine⟨hS.wipes hh hn (h-1) (Nat.le_refl _) hr,holds_wiped hh (by omega) g3,?_⟩;have h1:=head_splice (x:=st.now) (fs:=List.replicate (h-1) zero64) (i:=bkF h (!k)+1) (F:=bkF h (!k)) (d:=⟨#[]⟩) (by simp;omega) (Or.inr (by omega));rw[List.length_replicate]at h1;rw[g3,h1];exact he
theorem StgS.written (hS:StgS n h k E r1 r2 p lm st)(hh:1≤h)(hn:2*h≤n){s:ByteArray}(hfit:1+(s.size+61)/62≤h)(hr:Runs st (bkF h (!k)+1) (framesL s))(hw:Holds st (bkF h (!k)) h [])(he:epochI (st.now.getD (bkF h (!k)) ⟨#[]⟩)=0) :
    StgS n h k E r1 r2 (p+(s.size+61)/62) lm (putsSt st (bkF h (!k)+1) (framesL s))∧Holds (putsSt st (bkF h (!k)+1) (framesL s)) (bkF h (!k)) h [s]∧epochI ((putsSt st (bkF h (!k)+1) (framesL s)).now.getD (bkF h (!k)) ⟨#[]⟩)=0:=by
  have hle:=bkF_le hn (!k);have hlen:=hS.len;have hfl:=framesL_length s;have h1:=hS.puts hh hn (framesL_size s) (by omega) _ (Nat.le_refl _) (by rw[List.take_length];exact hr);rw[List.take_length,hfl]at h1;refine⟨h1,hw.put (by omega) rfl hfit,?_⟩;rw[puts_now _ _ _ (by omega),head_splice (by omega) (Or.inr (by omega))];exact he
theorem holds_cur {F:Nat}(hc:CurX n F h E r1 [] st.now):Holds st F h r1:=by
  obtain⟨hd,a,m,he,hl⟩:=hc.bk;have ha:a=[]:=List.eq_nil_of_length_eq_zero (LostF.length hl);subst ha;exact⟨hd,m,he⟩
theorem StgS.signed (hS:StgS n h k E r1 r2 0 lm st)(hh:2≤h)(hn:2*h≤n)(hn2:n≤400){s:ByteArray}(h1:1≤s.size)(h6:s.size≤60000)(hfit:1+(s.size+61)/62≤h)(hw:Holds st (bkF h (!k)) h [s])(he:epochI (st.now.getD (bkF h (!k)) ⟨#[]⟩)=0)(hE:E+1<18446744073709551616)(hgo:goneB st=false)(ho:OutAll st (fun x=>x=st.now)) :
    DeadS n h k E r1 r2 s (putSt st (bkF h (!k)) (headB (E+1)))∧LiveS n h (!k) (E+1) (1+(s.size+61)/62) s [] [s] [] lm (flushSt (putSt st (bkF h (!k)) (headB (E+1)))):=by
  have hle:=bkF_le hn (!k);have hlen:=hS.len;have hnew:VX n h (!k) (E+1) [s] [] (st.now.set (bkF h (!k)) (headB (E+1))):=hS.now_.renew (by omega) hn hE (cur_holds hS.len hw he);have hg:Good (putSt st (bkF h (!k)) (headB (E+1))):=good_put hS.good (ask_ok hgo (by omega)) (headB_size (E+1));have hpd:st.pend.length=0:=by have:=hS.pnd;omega
  refine⟨⟨hg,by simp[putSt,hlen],by simp[putSt,hpd],fun x hx=>?_⟩,?_⟩
  · obtain⟨y,hy,h9⟩:=out_put hx;have hy2:y=st.now:=ho y hy;subst hy2;rcases h9 with h9|h9
    · rw[h9];exact Or.inl ⟨r2,List.prefix_refl _,hS.now_⟩
    · rw[h9];exact Or.inr ⟨by omega,h6,hnew⟩
  · refine⟨good_flush hg,by simp[flushSt,putSt,hlen],hh,hn,hn2,fun e=>hS.lim e,rfl,?_,?_,hfit,Nat.zero_le _,holds_cur (n:=n) (E:=E+1) hnew.cur,hnew.cur.ep,hnew.oth,OutAll.flush hnew⟩
    · intro x hx;rw[List.mem_singleton.1 hx];exact⟨h1,h6⟩
    · show _=1+(layB (recs [s])).length
      rw[layB_one,cut_len]
theorem out_flushed {st:St}:OutAll (flushSt st) (fun x=>x=(flushSt st).now):=fun x hx=>by rw[out_flush hx];rfl
end
end Go.Proofs.YtdmkhmeaphaapaaGreat.V
namespace Go.Proofs.YtdmkhmeaphaapaaGreat.V
open Go.RowKit Go.Sort
set_option linter.unusedVariables false
theorem bank_wiped (x:List ByteArray){F A h:Nat}(hA:A≤h)(hx:F+h≤x.length):((x.take (F+A)++List.replicate (h-A) zero64++x.drop (F+A+(h-A))).drop F).take h=((x.drop F).take h).take A++List.replicate (h-A) zero64:=by
  apply List.ext_getElem?;intro j;have hl:(x.take (F+A)).length=F+A:=by rw[List.length_take];omega
  have hl2:(((x.drop F).take h).take A).length=A:=by rw[List.length_take,List.length_take,List.length_drop];omega
  rw[List.getElem?_take];by_cases h1:j<A
  · rw[if_pos (by omega),List.getElem?_drop,List.append_assoc,List.getElem?_append_left (by omega),List.getElem?_take,if_pos (by omega),List.getElem?_append_left (by omega),List.getElem?_take,if_pos h1,List.getElem?_take,if_pos (by omega),List.getElem?_drop]
  · by_cases h2:j<h
    · rw[if_pos h2,List.getElem?_drop,List.append_assoc,List.getElem?_append_right (by omega),List.getElem?_append_left (by simp;omega),List.getElem?_append_right (by omega),hl,hl2];congr 1;omega
    · rw[if_neg h2,List.getElem?_eq_none (by rw[List.length_append,hl2,List.length_replicate];omega)]
theorem mk_recs (l:List (List UInt8)):recs (l.map fun r=>(⟨r.toArray⟩:ByteArray))=l:=bytesL_mk l
section
variable {n h:Nat}{k:Bool}{E A p:Nat}{img fresh s:ByteArray}{rs r1 r2:List ByteArray}{lm:Bool}{st:St}
theorem recs_sizes {l:List (List UInt8)}(h:∀r∈l,r≠[]∧r.length≤60000){rs:List ByteArray}(he:l=recs rs):∀s∈rs,1≤s.size∧s.size≤60000:=fun s hs=>by
  obtain⟨h1,h2⟩:=h s.data.toList (by rw[he];exact List.mem_map.2 ⟨s,hs,rfl⟩);have h3:s.data.toList.length=s.size:=Array.length_toList;have h4:0<s.data.toList.length:=List.length_pos_iff.2 h1;omega
theorem open_live (hg:Good st)(hl:st.lim=false)(hlen:st.now.length=n)(h2:2≤h)(hn:2*h≤n)(hn2:n≤400)(hk:pickX h st.now=k)(hR:readX h st.now=recs (img::rs))(hep:epochI (st.now.getD (bkF h k) ⟨#[]⟩)=E)(hoth:epochI (st.now.getD (bkF h (!k)) ⟨#[]⟩)<E)
    (hA:A=1+(layB (recs (img::rs))).length):A≤h∧LiveS n h k E A img rs (img::rs) [] false (flushSt (wipesSt st (bkF h k+A) (h-A))):=by
  have hle:=bkF_le hn k;have hap:=bkF_apart h k (by omega);have hle2:=bkF_le hn (!k);have hRb:scanB ((bytesL ((st.now.drop (bkF h k)).take h)).drop 1)=recs (img::rs):=by
    rw[←hR];unfold readX;rw[hk]
  have hbl:(bytesL ((st.now.drop (bkF h k)).take h)).length=h:=by
    unfold bytesL;rw[List.length_map,List.length_take,List.length_drop];omega
  obtain⟨t,ht⟩:=scan_split ((bytesL ((st.now.drop (bkF h k)).take h)).drop 1);have hsz:=recs_sizes (scan_good ((bytesL ((st.now.drop (bkF h k)).take h)).drop 1)) hRb;rw[hRb]at ht;have hAh:A≤h:=by
    have:=congrArg List.length ht;rw[List.length_append,List.length_drop,hbl]at this;omega
  refine⟨hAh,?_⟩;obtain⟨g1,g2,g3,g4,g5⟩:=wipes_good (i:=bkF h k+A) hg hl (h-A) (by omega);have hlen':(wipesSt st (bkF h k+A) (h-A)).now.length=n:=by
    rw[g3];simp;omega
  have hsp:∀F,(F<bkF h k+A∨bkF h k+h≤F)→(wipesSt st (bkF h k+A) (h-A)).now.getD F ⟨#[]⟩=st.now.getD F ⟨#[]⟩:=fun F hF=>by
    have h1:=head_splice (x:=st.now) (fs:=List.replicate (h-A) zero64) (i:=bkF h k+A) (F:=F) (d:=⟨#[]⟩) (by simp;omega) (by simp;omega);rw[List.length_replicate]at h1;rw[g3,h1]
  have hhold:Holds (wipesSt st (bkF h k+A) (h-A)) (bkF h k) h (img::rs):=by
    obtain⟨hd,tl,he⟩:∃hd tl,bytesL ((st.now.drop (bkF h k)).take h)=hd::tl:=by
      cases hc:bytesL ((st.now.drop (bkF h k)).take h) with
      | nil=>rw[hc]at hbl;simp at hbl;omega
      | cons a b=>exact⟨a,b,rfl⟩
    refine⟨hd,h-A,?_⟩;unfold bankL;rw[g3,bank_wiped _ hAh (by omega),bytesL_append,bytesL_take,he,bytesL_zeros];rw[he]at ht;have ht':tl=layB (recs (img::rs))++t:=ht;rw[ht',hA,Nat.add_comm 1,List.take_succ_cons,List.take_left' rfl];rfl
  have e1:epochI ((wipesSt st (bkF h k+A) (h-A)).now.getD (bkF h k) ⟨#[]⟩)=E:=by rw[hsp _ (Or.inl (by omega))];exact hep
  have e2:epochI ((wipesSt st (bkF h k+A) (h-A)).now.getD (bkF h (!k)) ⟨#[]⟩)<E:=by rw[hsp _ (by omega)];exact hoth
  exact⟨good_flush g1,hlen',h2,hn,hn2,fun _=>g2,by simp,hsz,hA,hAh,Nat.zero_le _,holds_same hhold rfl,e1,e2,OutAll.flush ⟨cur_holds hlen' hhold e1,e2⟩⟩
theorem DX.read {x:List ByteArray}(hd:DX n h k E r1 r2 fresh x)(hs:∀s∈r1++r2,1≤s.size∧s.size≤60000)(hne:r1≠[]) :
    ∃k' E' img' rs',pickX h x=k'∧readX h x=recs (img'::rs')∧epochI (x.getD (bkF h k') ⟨#[]⟩)=E'∧epochI (x.getD (bkF h (!k')) ⟨#[]⟩)<E'∧E'≤E+1∧((∃y,y <+: r2∧img'::rs'=r1++y)∨(fresh.size≠0∧img'=fresh∧rs'=[])):=by
  rcases hd with⟨y0,hy0,hv⟩|⟨hf,hf6,hv⟩
  · have hs2:∀s∈y0,1≤s.size∧s.size≤60000:=fun s hs'=>hs s (List.mem_append_right _ (hy0.subset hs'))
    obtain⟨y,hy,hr⟩:=hv.read (fun s hs'=>hs s (List.mem_append_left _ hs')) hs2;obtain⟨a,t,rfl⟩:∃a t,r1=a::t:=by
      cases r1 with
      | nil=>exact absurd rfl hne
      | cons a t=>exact⟨a,t,rfl⟩
    exact⟨k,E,a,t++y,hv.pick,hr,hv.cur.ep,hv.oth,by omega,Or.inl ⟨y,hy.trans hy0,rfl⟩⟩
  · obtain⟨y,hy,hr⟩:=hv.read (fun s hs'=>by rw[List.mem_singleton.1 hs'];omega) (fun s hs'=>by cases hs');have hy0:y=[]:=List.prefix_nil.1 hy;subst hy0;exact⟨!k,E+1,fresh,[],hv.pick,hr,hv.cur.ep,hv.oth,Nat.le_refl _,Or.inr ⟨hf,rfl,rfl⟩⟩
theorem DeadS.restart (hD:DeadS n h k E r1 r2 fresh st)(l:List Int):Good (restartSt st l)∧(restartSt st l).lim=false∧(restartSt st l).now.length=n∧(restartSt st l).pend=[]∧DX n h k E r1 r2 fresh (restartSt st l).now:=
  ⟨good_restart hD.good l,rfl,(restart_length st hD.good l).trans hD.len,rfl,hD.out.restart l⟩
structure FmS (n p:Nat)(st:St):Prop where
  good:Good st
  len:st.now.length=n
  lim:st.lim=false
  pnd:st.pend.length≤p
theorem FmS.put (hS:FmS n p st){i:Nat}{s:ByteArray}(hi:i<n)(hs:s.size=64):FmS n (p+1) (putSt st i s):=by
  have hlen:=hS.len;have hp:=hS.pnd;exact⟨good_put hS.good (ask_ok (free_gone hS.lim) (by omega)) hs,by simp[putSt,hlen],hS.lim,by simp[putSt];omega⟩
theorem FmS.flush (hS:FmS n p st):FmS n 0 (flushSt st):=⟨good_flush hS.good,hS.len,hS.lim,Nat.zero_le _⟩
theorem FmS.wipes (hS:FmS n p st){i m:Nat}(hi:i+m≤n):FmS n (p+m) (wipesSt st i m)∧(wipesSt st i m).now=st.now.take i++List.replicate m zero64++st.now.drop (i+m):=by
  have hlen:=hS.len;have hp:=hS.pnd;obtain⟨g1,g2,g3,g4,g5⟩:=wipes_good (i:=i) hS.good hS.lim m (by omega);exact⟨⟨g1,by rw[g3];simp;omega,g2,by omega⟩,g3⟩
theorem FmS.puts (hS:FmS n p st){i:Nat}{fs:List ByteArray}(hi:i+fs.length≤n)(hf:∀f∈fs,f.size=64):FmS n (p+fs.length) (putsSt st i fs):=by
  have hlen:=hS.len;have hp:=hS.pnd;obtain⟨g1,g2,g3,g4⟩:=puts_good fs st i hS.good hS.lim (by omega) hf;exact⟨g1,by rw[puts_now _ _ _ (by omega)];simp;omega,g2,by rw[puts_pend];simp;omega⟩
def FmI (n h:Nat)(s:ByteArray):Nat→St→Prop
  | 0,st=>FmS n 0 st
  | 1,st=>FmS n 0 st
  | 2,st=>FmS n 0 st
  | 3,st=>FmS n 1 st
  | 4,st=>FmS n 2 st∧epochI (st.now.getD h ⟨#[]⟩)=0
  | 5,st=>FmS n 0 st∧epochI (st.now.getD h ⟨#[]⟩)=0
  | 6,st=>FmS n 200 st∧epochI (st.now.getD h ⟨#[]⟩)=0∧Holds st 0 h []
  | 7,st=>FmS n 400 st∧epochI (st.now.getD h ⟨#[]⟩)=0∧Holds st 0 h []
  | 8,st=>FmS n 600 st∧epochI (st.now.getD h ⟨#[]⟩)=0∧Holds st 0 h [s]
  | 9,st=>FmS n 0 st∧epochI (st.now.getD h ⟨#[]⟩)=0∧Holds st 0 h [s]
  | 10,st=>FmS n 1 st∧VX n h false 1 [s] [] st.now
  | _,st=>LiveS n h false 1 (1+(s.size+61)/62) s [] [s] [] false st∧st.pend=[]
theorem fm_shut1 (hS:FmI n h s 2 st)(h2:2≤h)(hn:2*h≤n):FmI n h s 3 (putSt st 0 (headB 0)):=FmS.put hS (by omega) (headB_size 0)
theorem fm_shut2 (hS:FmI n h s 3 st)(h2:2≤h)(hn:2*h≤n):FmI n h s 4 (putSt st h (headB 0)):=by
  refine⟨FmS.put hS (by omega) (headB_size 0),?_⟩;show epochI ((st.now.set _ _).getD _ _)=0
  have hS':FmS n 1 st:=hS;have:=hS'.len;rw[getD_set_eq (by omega),epoch_head 0 (by decide)]
theorem fm_flush1 (hS:FmI n h s 4 st):FmI n h s 5 (flushSt st):=⟨hS.1.flush,hS.2⟩
theorem fm_wipe1 (hS:FmI n h s 5 st)(h2:2≤h)(hn:2*h≤n)(hn2:n≤400):FmI n h s 6 (wipesSt st (0+1) (h-1)):=by
  obtain⟨g1,g3⟩:=hS.1.wipes (i:=0+1) (m:=h-1) (by omega);have hlen:=hS.1.len;refine⟨⟨g1.good,g1.len,g1.lim,by have:=g1.pnd;omega⟩,?_,holds_wiped (F:=0) (by omega) (by omega) g3⟩;have h1:=head_splice (x:=st.now) (fs:=List.replicate (h-1) zero64) (i:=0+1) (F:=h) (d:=⟨#[]⟩) (by simp;omega) (by simp;omega);rw[List.length_replicate]at h1;rw[g3,h1];exact hS.2
theorem fm_wipe2 (hS:FmI n h s 6 st)(h2:2≤h)(hn:2*h≤n)(hn2:n≤400):FmI n h s 7 (wipesSt st (h+1) (h-1)):=by
  obtain⟨g1,g3⟩:=hS.1.wipes (i:=h+1) (m:=h-1) (by omega);have hlen:=hS.1.len;refine⟨⟨g1.good,g1.len,g1.lim,by have:=g1.pnd;omega⟩,?_,holds_same hS.2.2 ?_⟩
  · have h1:=head_splice (x:=st.now) (fs:=List.replicate (h-1) zero64) (i:=h+1) (F:=h) (d:=⟨#[]⟩) (by simp;omega) (by simp);rw[List.length_replicate]at h1;rw[g3,h1];exact hS.2.1
  · have h1:=part_splice (x:=st.now) (fs:=List.replicate (h-1) zero64) (i:=h+1) (F:=0) (h:=h) (by simp;omega) (by simp);rw[List.length_replicate]at h1;rw[g3,h1]
theorem fm_write (hS:FmI n h s 7 st)(h2:2≤h)(hn:2*h≤n)(hn2:n≤400)(hfit:1+(s.size+61)/62≤h):FmI n h s 8 (putsSt st (0+1) (framesL s)):=by
  have hlen:=hS.1.len;have hfl:=framesL_length s;have g1:=hS.1.puts (i:=0+1) (fs:=framesL s) (by omega) (framesL_size s);refine⟨⟨g1.good,g1.len,g1.lim,by have:=g1.pnd;omega⟩,?_,hS.2.2.put (F:=0) (by omega) rfl hfit⟩;rw[puts_now _ _ _ (by omega),head_splice (by omega) (Or.inl (by omega))];exact hS.2.1
theorem fm_flush2 (hS:FmI n h s 8 st):FmI n h s 9 (flushSt st):=⟨hS.1.flush,hS.2.1,holds_same hS.2.2 rfl⟩
theorem fm_sign (hS:FmI n h s 9 st)(h2:2≤h)(hn:2*h≤n)(hn2:n≤400):FmI n h s 10 (putSt st 0 (headB 1)):=by
  have hlen:=hS.1.len;have hc:=cur_holds (E:=epochI (st.now.getD 0 ⟨#[]⟩)) hlen hS.2.2 rfl;obtain⟨hd,a,m,he,hlost⟩:=hc.bk;refine⟨hS.1.put (by omega) (headB_size 1),⟨⟨?_,?_,(headB 1).data.toList,a,m,?_,hlost⟩,?_⟩⟩
  · show(st.now.set _ _).length=n
    rw[List.length_set];exact hlen
  · show epochI ((st.now.set 0 _).getD 0 _)=1
    rw[getD_set_eq (by omega),epoch_head 1 (by decide)]
  · have h1:=part_set_in (x:=st.now) (F:=0) (h:=h) (j:=0) (s:=headB 1) (by omega);rw[Nat.add_zero]at h1;show bytesL (((st.now.set 0 (headB 1)).drop 0).take h)=_
    rw[h1,bytesL_set,he];rfl
  · show epochI ((st.now.set 0 _).getD h _)<1
    rw[getD_set_ne (by omega),hS.2.1];omega
theorem fm_flush3 (hS:FmI n h s 10 st)(h2:2≤h)(hn:2*h≤n)(hn2:n≤400)(h1:1≤s.size)(h6:s.size≤60000)(hfit:1+(s.size+61)/62≤h):FmI n h s 11 (flushSt st):=by
  obtain⟨hf,hv⟩:=hS;refine⟨⟨good_flush hf.good,hf.len,h2,hn,hn2,fun _=>hf.lim,rfl,?_,?_,hfit,Nat.zero_le _,holds_cur (n:=n) (E:=1) hv.cur,hv.cur.ep,hv.oth,OutAll.flush hv⟩,rfl⟩
  · intro x hx;rw[List.mem_singleton.1 hx];exact⟨h1,h6⟩
  · show _=1+(layB (recs [s])).length
    rw[layB_one,cut_len]
end
end Go.Proofs.YtdmkhmeaphaapaaGreat.V
