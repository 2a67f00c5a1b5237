/- Kit. -/
import Derived.Test.YtdmkhmeaphaapaaGreatCZ11
import Derived.Test.YtdmkhmeaphaapaaGreatCZ13
import Derived.Test.YtdmkhmeaphaapaaGreatCZ14
import Derived.Test.YtdmkhmeaphaapaaGreatCZ5
import Derived.Test.YtdmkhmeaphaapaaGreatCZ1
import Derived.Test.YtdmkhmeaphaapaaGreatCZ0
set_option maxRecDepth 100000
set_option linter.unusedVariables false
set_option linter.unusedSimpArgs false
namespace Go.Proofs.YtdmkhmeaphaapaaGreat
open Go.RowKit Go.Sort
theorem EW {l:List Az}{n:Int}:AP l n=0↔n≠0∧∀x∈l,x.e.node≠n:=by
 unfold AP;by_cases h:n=0
 · simp[h]
 · rw[if_neg h,Fs];simp[h]
theorem EX {l A:List Az}{n:Int}(h:AP l n≠0):AP (l++A) n=AP l n:=by
 unfold AP at *;by_cases h0:n=0
 · rw[if_pos h0,if_pos h0]
 · rw[if_neg h0]at h;rw[if_neg h0,if_neg h0];unfold Cu nodeAt at *;rw[List.find?_append];cases h1:l.find? fun x=>decide (x.e.node=n) with
   | none=>rw[h1]at h;exact absurd rfl h
   | some y=>rfl
theorem Pg {l:List Az}{d:Int}{e:Br}(h:AP l e.node=0):AP (l++[⟨d,e⟩]) e.node=if e.dir=true then 2 else 1:=by
 obtain⟨h0,h1⟩:=EW.1 h;unfold AP;rw[if_neg h0];unfold Cu nodeAt;rw[List.find?_append,List.find?_eq_none.2 (fun x hx=>by simpa using h1 x hx)];simp
theorem Dh (l A:List Az)(q:Int):Ak (l++A) q=Ak l q++Ak A q:=by
 unfold Ak;rw[List.filter_append,List.map_append]
theorem F9 {A:List Az}{q:Int}(h:∀x∈A,x.BD≠q):Ak A q=[]:=by
 unfold Ak;rw[List.filter_eq_nil_iff.2 (fun x hx=>by simpa using h x hx)];rfl
theorem FJ {A:List Az}{q:Int}{e:Br}:e∈Ak A q↔(⟨q,e⟩:Az)∈A:=by
 unfold Ak;rw[CG];constructor
 · rintro⟨x,hx,rfl⟩;rw[List.mem_filter,LU]at hx;obtain⟨h1,h2⟩:=hx;subst h2;exact h1
 · intro h;exact⟨⟨q,e⟩,by rw[List.mem_filter];exact⟨h,by simp⟩,rfl⟩
theorem Aq.wh {l:List Az}{c:Int}(h:Aq l c){n:Int}(hn:AP l n≠2):Ak l n=[]:=F9 fun x hx e=>hn (e▸h.BD x hx)
def Fits (l:List Az)(c d:Int)(e:Br):Prop:=(1≤e.node∧e.node≤200)∧AP l e.node=0∧Ec e.name e.short=0∧(∀y∈Ak l d,y.name≠e.name)∧(IB (Ak l d)<e.Al∧e.Al<c)∧∀x∈l,x.e.Al≠e.Al
instance (l:List Az) (c d:Int) (e:Br):Decidable (Fits l c d e):=by unfold Fits;infer_instance
theorem Ko {α:Type}{R:α→α→Prop}{l:List α}{x:α}:(l++[x]).Pairwise R↔l.Pairwise R∧∀y∈l,R y x:=by
 rw[List.pairwise_append];simp
theorem Aq.Aah {l:List Az}{c:Int}(h:Aq l c)(d:Int):0≤IB (Ak l d)∧∀y∈l,y.BD=d→y.e.Al≤IB (Ak l d):=by
 have hr:(Ak l d).Pairwise fun a b=>a.Al<b.Al:=by
  unfold Ak;rw[List.pairwise_map];refine List.Pairwise.imp_of_mem ?_ (h.rise.filter _);intro a b ha hb hab;rw[List.mem_filter,LU]at ha hb;exact hab.1 (ha.2.trans hb.2.symm)
 have hp:∀y∈Ak l d,1≤y.Al:=fun y hy=>(h.Ho _ (FJ.1 hy)).1
 have key:∀l:List Br,l.Pairwise (fun a b=>a.Al<b.Al)→(∀y∈l,1≤y.Al)→0≤IB l∧∀y∈l,y.Al≤IB l:=by
  intro l hl hl1;unfold IB;rcases List.eq_nil_or_concat l with rfl|⟨m,z,rfl⟩
  · simp
  · rw[List.concat_eq_append]at *;rw[List.getLast?_append];simp only[List.getLast?_singleton,Option.some_or];obtain⟨h1,h2⟩:=Ko.1 hl;refine⟨by have:=hl1 z (by simp);omega,fun y hy=>?_⟩;rcases EI.1 hy with hy|hy
    · have:=h2 y hy;omega
    · rw[Cn]at hy;rw[hy];exact Int.le_refl _
 obtain⟨h1,h2⟩:=key _ hr hp;exact⟨h1,fun y hy hd=>h2 _ (FJ.2 (by subst hd;exact hy))⟩
theorem KP {l:List Az}{c d:Int}{e:Br}(h:Aq l c)(hd:AP l d=2)(hf:Fits l c d e):Aq (l++[⟨d,e⟩]) c:=by
 obtain⟨⟨f1,f2⟩,f3,f4,f5,⟨f6,f7⟩,f8⟩:=hf;obtain⟨k1,k2⟩:=EW.1 f3;have hk:∀n,AP l n=2→AP (l++[⟨d,e⟩]) n=2:=fun n hn=>by rw[EX (by omega)];exact hn
 obtain⟨g1,g2⟩:=h.Aah d;have hck:1≤e.Al:=by omega
 have snoc:∀{P:Az→Prop},(∀x∈l,P x)→P ⟨d,e⟩→∀x∈l++[⟨d,e⟩],P x:=by
  intro P h1 h2 x hx;rcases EI.1 hx with hx|hx
  · exact h1 x hx
  · rw[Cn]at hx;rw[hx];exact h2
 refine⟨snoc h.node ⟨f1,f2⟩,?_,snoc (fun x hx=>hk _ (h.BD x hx)) (hk _ hd),snoc h.form f4,?_,snoc h.Ho ⟨hck,f7⟩,?_,?_,h.Ml⟩
 · unfold ET;rw[List.map_append];refine List.nodup_append.2 ⟨h.nd,by simp,?_⟩;intro a ha b hb;rw[CG]at ha;obtain⟨x,hx,rfl⟩:=ha;simp at hb;rw[hb];exact k2 x hx
 · rw[Ko];refine⟨h.names,fun y hy qy=>f5 y.e (FJ.2 ?_)⟩;have Ace:y.BD=d:=qy;subst Ace;exact hy
 · rw[Ko];refine⟨h.rise,fun y hy=>⟨fun qy=>?_,f8 y hy⟩⟩;have:=g2 y hy qy;show y.e.Al<e.Al
   omega
 · obtain⟨H,hH⟩:=h.low;refine⟨fun m=>if m=e.node.toNat then 0 else H m+1,snoc (fun x hx=>?_) ?_⟩
   · have h1:=h.node x hx;have h2:=k2 x hx;show(if x.e.node.toNat=e.node.toNat then 0 else H x.e.node.toNat+1)<(if x.BD.toNat=e.node.toNat then 0 else H x.BD.toNat+1)
     rw[if_neg (by omega)];have h3:x.BD≠e.node:=fun e2=>by
      have:=h.BD x hx;rw[e2,f3]at this;omega
     have h4:=(h.KN hx).1;rw[if_neg (by omega)];have:=hH x hx;omega
   · show(if e.node.toNat=e.node.toNat then 0 else _)<_
     rw[if_pos rfl];have h3:d≠e.node:=fun e2=>by
      rw[e2,f3]at hd;omega
     have h4:0≤d:=by
      apply Js;intro hc;have:=h.far (d:=d) (by omega);omega
     show 0<(if d.toNat=e.node.toNat then 0 else H d.toNat+1)
     rw[if_neg (by omega)];omega
def Eu (c:Int)(rec:Int→List Az×Nat→Bool×(List Az×Nat))(d:Int):List Br→List Az×Nat→Bool×(List Az×Nat)
 | [],s=>(true,s)
 | e::es,s=>if Fits s.1 c d e then
  (if e.dir=true then(if(rec e.node (s.1++[⟨d,e⟩],s.2)).1=true then Eu c rec d es (rec e.node (s.1++[⟨d,e⟩],s.2)).2 else(false,(rec e.node (s.1++[⟨d,e⟩],s.2)).2))
   else Eu c rec d es (s.1++[⟨d,e⟩],s.2))
  else(false,s)
def Gs (G:Cw)(c:Int):Nat→Int→List Az×Nat→Bool×(List Az×Nat)
 | 0,_,s=>(false,s)
 | k+1,d,s=>match G d with
  | none=>(false,s)
  | some es=>Eu c (Gs G c k) d es (s.1,s.2+1)
def Bp (A:List Az):List Int:=(A.filter fun x=>x.e.dir).map fun x=>x.e.node
theorem Ef (A B:List Az):Bp (A++B)=Bp A++Bp B:=by
 unfold Bp;rw[List.filter_append,List.map_append]
theorem Dj {A:List Az}{n:Int}:n∈Bp A↔∃x∈A,x.e.dir=true∧x.e.node=n:=by
 unfold Bp;rw[CG];constructor
 · rintro⟨x,hx,rfl⟩;rw[List.mem_filter]at hx;exact⟨x,hx.1,hx.2,rfl⟩
 · rintro⟨x,hx,h1,rfl⟩;exact⟨x,by rw[List.mem_filter];exact⟨hx,h1⟩,rfl⟩
def Down:List Int→List Az→Prop
 | _,[]=>True
 | D,x::A=>x.BD∈D∧Down (if x.e.dir=true then x.e.node::D else D) A
theorem Down.mono:∀{A:List Az} {D D':List Int},Down D A→(∀q∈D,q∈D')→Down D' A
 | [],_,_,_,_=>trivial
 | x::A,D,D',h,hs=>⟨hs _ h.1,h.2.mono fun q hq=>by
  split at hq
  · rename_i hd;rw[if_pos hd];rcases Em.1 hq with h1|h1
    · exact Em.2 (Or.inl h1)
    · exact Em.2 (Or.inr (hs q h1))
  · rename_i hd;rw[if_neg hd];exact hs q hq⟩
theorem Down.app:∀{A B:List Az} {D:List Int},Down D A→Down (Bp A++D) B→Down D (A++B)
 | [],_,_,_,h=>h
 | x::A,B,D,h,hb=>⟨h.1,h.2.app (hb.mono fun q hq=>by
  rw[EI]at hq ⊢;rcases hq with hq|hq
  · rw[show x::A=[x]++A from rfl,Ef,EI]at hq;rcases hq with hq|hq
    · obtain⟨y,hy,qy,rfl⟩:=Dj.1 hq;rw[Cn]at hy;subst hy;right;rw[if_pos qy];exact List.mem_cons_self
    · exact Or.inl hq
  · right;split
    · exact Em.2 (Or.inr hq)
    · exact hq)⟩
theorem Down.BD:∀{A:List Az} {D:List Int},Down D A→∀x∈A,x.BD∈D∨x.BD∈Bp A
 | [],_,_,x,hx=>nomatch hx
 | y::A,D,h,x,hx=>by
  rw[show y::A=[y]++A from rfl,Ef,EI];rcases Em.1 hx with rfl|hx
  · exact Or.inl h.1
  · rcases h.2.BD x hx with h1|h1
    · split at h1
      · rename_i hd;rcases Em.1 h1 with h2|h2
        · exact Or.inr (Or.inl (Dj.2 ⟨y,by simp,hd,h2.symm⟩))
        · exact Or.inl h2
      · exact Or.inl h1
    · exact Or.inr (Or.inr h1)
structure Uy (G:Cw)(c d:Int)(l A:List Az):Prop where
 good:Aq (l++A) c
 down:Down [d] A
 full:∀q∈Bp A,G q=some (Ak A q)
theorem Uy.free {G:Cw}{c d:Int}{l A:List Az}(h:Uy G c d l A){x:Az}(hx:x∈A):AP l x.e.node=0:=by
 refine EW.2 ⟨?_,fun y hy e=>?_⟩
 · have:=h.good.node x (by simp[hx]);omega
 · have hn:=h.good.nd;unfold ET at hn;rw[List.map_append]at hn;exact(List.nodup_append.1 hn).2.2 _ (List.mem_map_of_mem hy) _ (List.mem_map_of_mem hx) e
theorem Uy.BD {G:Cw}{c d:Int}{l A:List Az}(h:Uy G c d l A){x:Az}(hx:x∈A):x.BD=d∨AP l x.BD=0:=by
 rcases h.down.BD x hx with h1|h1
 · exact Or.inl (by simpa using h1)
 · obtain⟨y,hy,_,hn⟩:=Dj.1 h1;exact Or.inr (by rw[←hn];exact h.free hy)
structure Mid (G:Cw)(c d:Int)(l P:List Az)(p:List Br):Prop where
 add:Uy G c d l P
 Fy:Ak P d=p
theorem Mid.put {G:Cw}{c d:Int}{l P:List Az}{p:List Br}{e:Br}(h:Mid G c d l P p)(hd:AP l d=2)(hf:Fits (l++P) c d e)(he:e.dir≠true):Mid G c d l (P++[⟨d,e⟩]) (p++[e]):=by
 refine⟨⟨?_,?_,fun q hq=>?_⟩,?_⟩
 · rw[←Ch];exact KP h.add.good (by rw[EX (by omega)];exact hd) hf
 · refine h.add.down.app ⟨by simp,?_⟩;trivial
 · rw[Ef,EI]at hq;rcases hq with hq|hq
   · obtain⟨y,hy,_,hn⟩:=Dj.1 hq;have h1:=h.add.free hy;rw[hn]at h1;rw[Dh,F9 (A:=[⟨d,e⟩]) (fun x hx e2=>by
      rw[Cn]at hx;subst hx;have e3:d=q:=e2;rw[←e3,hd]at h1;omega),Cz]
     exact h.add.full q hq
   · obtain⟨y,hy,qy,_⟩:=Dj.1 hq;rw[Cn]at hy;subst hy;exact absurd qy he
 · rw[Dh,h.Fy];simp[Ak]
theorem Mid.sub {G:Cw}{c d:Int}{l P A:List Az}{p:List Br}{e:Br}(h:Mid G c d l P p)(hd:AP l d=2)(hf:Fits (l++P) c d e)(he:e.dir=true)(ha:Uy G c e.node (l++P++[⟨d,e⟩]) A)(hg:G e.node=some (Ak A e.node)) :
 Mid G c d l (P++[⟨d,e⟩]++A) (p++[e]):=by
 have hfr:=hf.2.1;have hfl:AP l e.node=0:=by
  obtain⟨h0,h1⟩:=EW.1 hfr;exact EW.2 ⟨h0,fun x hx=>h1 x (by simp[hx])⟩
 have hde:d≠e.node:=fun e2=>by rw[e2,hfl]at hd;omega
 have hout:∀q,q≠e.node→AP (l++P++[⟨d,e⟩]) q≠0→Ak A q=[]:=fun q hq hk=>F9 fun x hx e2=>by
  rcases ha.BD hx with h1|h1
  · exact hq (e2▸h1)
  · exact hk (e2▸h1)
 have hdk:AP (l++P++[⟨d,e⟩]) d≠0:=by
  rw[EX (l:=l++P) (by rw[EX (by omega)];omega),EX (by omega)];omega
 have hPn:∀q,AP (l++P) q=0→Ak (P++[⟨d,e⟩]) q=[]:=fun q hq=>F9 fun x hx e2=>by
  rcases EI.1 hx with hx|hx
  · have h9:=h.add.good.BD x (by simp[hx]);rw[e2,hq]at h9;omega
  · rw[Cn]at hx;subst hx;have e3:d=q:=e2;rw[←e3,EX (by omega)]at hq;omega
 refine⟨⟨?_,?_,fun q hq=>?_⟩,?_⟩
 · have:=ha.good;simpa[List.append_assoc]using this
 · refine Down.app (Down.app h.add.down ⟨by simp,trivial⟩) (ha.down.mono fun q hq=>?_);rw[Cn]at hq;rw[hq,Ef,EI,EI];exact Or.inl (Or.inr (Dj.2 ⟨⟨d,e⟩,by simp,he,rfl⟩))
 · rw[Ef,Ef,EI,EI]at hq;rcases hq with(hq|hq)|hq
   · obtain⟨y,hy,_,hn⟩:=Dj.1 hq;have h1:=h.add.free hy;rw[hn]at h1;have h2:AP (l++P) q≠0:=fun h3=>(EW.1 h3).2 y (by simp[hy]) hn
     have hqe:q≠e.node:=fun e2=>h2 (e2▸hfr)
     rw[Dh,Dh,F9 (A:=[⟨d,e⟩]) (fun x hx e2=>by
      rw[Cn]at hx;subst hx;have e3:d=q:=e2;rw[←e3,hd]at h1;omega),Cz,hout q hqe (by rw[EX h2];exact h2),Cz]
     exact h.add.full q hq
   · obtain⟨y,hy,_,hn⟩:=Dj.1 hq;rw[Cn]at hy;subst hy;have e3:e.node=q:=hn;subst e3;rw[Dh,hPn _ hfr,G5];exact hg
   · obtain⟨y,hy,_,hn⟩:=Dj.1 hq;have h1:=ha.free hy;rw[hn]at h1;have h2:AP (l++P) q=0:=by
      obtain⟨h0,h3⟩:=EW.1 h1;exact EW.2 ⟨h0,fun x hx=>h3 x (by simp only[List.mem_append]at hx ⊢;exact Or.inl hx)⟩
     rw[Dh,hPn q h2,G5];exact ha.full q hq
 · rw[Dh,Dh,h.Fy,hout d hde hdk];simp[Ak]
def tT (G:Cw)(c:Int)(rec:Int→List Az×Nat→Bool×(List Az×Nat)):Prop:=
 ∀d l f,Aq l c→AP l d=2→Ak l d=[]→(rec d (l,f)).1=true→∃A,(rec d (l,f)).2=(l++A,f+1+(Bp A).length)∧Uy G c d l A∧G d=some (Ak A d)
theorem go_ok {G:Cw}{c d:Int}{rec:Int→List Az×Nat→Bool×(List Az×Nat)}(hrec:tT G c rec){l:List Az}(hd:AP l d=2)(hl:Ak l d=[]) :
 ∀(es:List Br) (P:List Az) (p:List Br) (f:Nat),Mid G c d l P p→(Eu c rec d es (l++P,f)).1=true →
  ∃A,(Eu c rec d es (l++P,f)).2=(l++A,f+(Bp A).length-(Bp P).length)∧Mid G c d l A (p++es)∧(Bp P).length≤(Bp A).length
 | [],P,p,f,hm,_=>⟨P,by show(l++P,f)=_;congr 1;omega,by simpa using hm,Ae _⟩
 | e::es,P,p,f,hm,ht=>by
  unfold Eu at ht ⊢;by_cases hf:Fits (l++P) c d e
  · simp only[if_pos hf]at ht ⊢;by_cases he:e.dir=true
    · simp only[if_pos he]at ht ⊢;by_cases hr:(rec e.node (l++P++[⟨d,e⟩],f)).1=true
      · simp only[if_pos hr]at ht ⊢;have hdP:AP (l++P) d=2:=by rw[EX (by omega)];exact hd
        have hg1:=KP hm.add.good hdP hf;have hk1:AP (l++P++[⟨d,e⟩]) e.node=2:=by rw[Pg hf.2.1,if_pos he]
        have hn1:Ak (l++P++[⟨d,e⟩]) e.node=[]:=by
         rw[Dh,hm.add.good.wh (by rw[hf.2.1];decide),G5];refine F9 fun x hx e2=>?_
         rw[Cn]at hx;subst hx;have e3:d=e.node:=e2;rw[e3,hf.2.1]at hdP;omega
        obtain⟨A1,h1,h2,h3⟩:=hrec e.node (l++P++[⟨d,e⟩]) f hg1 hk1 hn1 hr;have hm2:=hm.sub hd hf he h2 h3;rw[h1]at ht ⊢;have e9:l++P++[⟨d,e⟩]++A1=l++(P++[⟨d,e⟩]++A1):=by simp[List.append_assoc]
        rw[e9]at ht ⊢;obtain⟨A,h4,h5,h6⟩:=go_ok hrec hd hl es _ _ _ hm2 ht;have hlen:(Bp (P++[⟨d,e⟩]++A1)).length=(Bp P).length+1+(Bp A1).length:=by
         rw[Ef,Ef,A7,A7,show Bp [(⟨d,e⟩:Az)]=[e.node] by simp[Bp,he]];rfl
        refine⟨A,?_,by simpa[List.append_assoc]using h5,by omega⟩;rw[h4];congr 1;omega
      · simp only[if_neg hr]at ht;cases ht
    · simp only[if_neg he]at ht ⊢;have hm2:=hm.put hd hf he;have e9:l++P++[⟨d,e⟩]=l++(P++[⟨d,e⟩]):=by simp[List.append_assoc]
      rw[e9]at ht ⊢;obtain⟨A,h4,h5,h6⟩:=go_ok hrec hd hl es _ _ _ hm2 ht;have hlen:(Bp (P++[⟨d,e⟩])).length=(Bp P).length:=by
       rw[Ef];simp[Bp,he]
      refine⟨A,?_,by simpa[List.append_assoc]using h5,by omega⟩;rw[h4,hlen]
  · simp only[if_neg hf]at ht;cases ht
theorem RD (G:Cw)(c:Int):∀k,tT G c (Gs G c k)
 | 0,d,l,f,_,_,_,ht=>by cases ht
 | k+1,d,l,f,hg,hd,hl,ht=>by
  unfold Gs at ht ⊢;cases hG:G d with
  | none=>rw[hG]at ht;cases ht
  | some es =>
   simp only[hG]at ht ⊢;have hm:Mid G c d l [] []:=⟨⟨by simpa using hg,trivial,fun q hq=>nomatch hq⟩,rfl⟩;have e9:l++([]:List Az)=l:=Cz _;obtain⟨A,h1,h2,h3⟩:=go_ok (RD G c k) hd hl es [] [] (f+1) hm (by rw[e9];exact ht);rw[e9]at h1;refine⟨A,?_,h2.add,by rw[h2.Fy,G5]⟩;rw[h1];congr 1
structure Whole (G:Cw)(c:Int):Prop where
 ok:∀q es,G q=some es→∀e∈es,Ec e.name e.short=0∧1≤e.node∧e.node≤200∧1≤e.Al∧e.Al<c∧(G e.node).isSome=e.dir
 rise:∀q es,G q=some es→WO es
 apart:∀q q' es es',G q=some es→G q'=some es'→∀(i j:Nat) x y,es[i]?=some x→es'[j]?=some y→(q≠q'∨i≠j)→¬clash ⟨q,x⟩ ⟨q',y⟩
def Pre (G:Cw)(l:List Az):Prop:=∀q,∃r,(G q).getD []=Ak l q++r
theorem oJ {G:Cw}{l:List Az}(h:Pre G l){y:Az}(hy:y∈l):∃es i,G y.BD=some es∧es[i]?=some y.e∧i<(Ak l y.BD).length:=by
 have h1:y.e∈Ak l y.BD:=FJ.2 hy;obtain⟨i,hi⟩:=List.mem_iff_getElem?.1 h1;have hlt:=(DL.1 hi).1;obtain⟨r,hr⟩:=h y.BD;cases hG:G y.BD with
 | none =>
  rw[hG]at hr;have:Ak l y.BD=[]:=by
   have:=Gu List.length hr;simp at this;exact Kw (by omega)
  rw[this]at hlt;simp at hlt
 | some es =>
  rw[hG]at hr;have hr2:es=Ak l y.BD++r:=hr;exact⟨es,i,rfl,by rw[hr2,LG hlt];exact hi,hlt⟩
theorem aj {G:Cw}{c:Int}(hw:Whole G c){l:List Az}(hp:Pre G l)(hg:Aq l c){d:Int}{p es:List Br}{e:Br}(hG:G d=some (p++e::es))(he:Ak l d=p):Fits l c d e:=by
 have hpos:(p++e::es)[p.length]?=some e:=by simp
 have hmem:e∈p++e::es:=by simp
 obtain⟨o1,o2,o3,o4,o5,o6⟩:=hw.ok d _ hG e hmem;have hno:∀y∈l,¬clash y (Az.mk d e):=fun y hy=>by
  obtain⟨es',i,g1,g2,g3⟩:=oJ hp hy;refine hw.apart y.BD d es' _ g1 hG i p.length y.e e g2 hpos ?_;by_cases hq:y.BD=d
  · right;rw[hq,he]at g3;omega
  · exact Or.inl hq
 have hc:∀y∈l,y.e.node≠e.node∧y.e.Al≠e.Al∧(y.BD=d→y.e.name≠e.name):=fun y hy=>by
  have h1:=hno y hy;unfold clash at h1;refine⟨?_,?_,?_⟩
  · exact fun h=>h1 (Or.inl h)
  · exact fun h=>h1 (Or.inr (Or.inl h))
  · exact fun h h2=>h1 (Or.inr (Or.inr (And.intro h h2)))
 unfold Fits;refine⟨⟨o2,o3⟩,EW.2 ⟨by omega,fun y hy=>(hc y hy).1⟩,o1,fun y hy=>?_,⟨?_,o5⟩,fun y hy=>(hc y hy).2.1⟩
 · exact(hc _ (FJ.1 hy)).2.2 rfl
 · rw[he];unfold IB;rcases List.eq_nil_or_concat p with rfl|⟨m,z,rfl⟩
   · show 0<e.Al
     omega
   · rw[List.concat_eq_append]at hG ⊢;rw[List.getLast?_append];simp only[List.getLast?_singleton,Option.some_or];exact hw.rise d _ hG m.length z e (by simp) (by simp)
theorem oI {G:Cw}{l:List Az}(hp:Pre G l){d:Int}{p es:List Br}{e:Br}(hG:G d=some (p++e::es))(he:Ak l d=p):Pre G (l++[⟨d,e⟩]):=fun q=>by
 by_cases hq:d=q
 · subst hq;refine⟨es,?_⟩;rw[hG,Dh,he];simp[Ak]
 · obtain⟨r,hr⟩:=hp q;refine⟨r,?_⟩;rw[Dh,F9 (A:=[⟨d,e⟩]) (fun x hx e2=>by
    rw[Cn]at hx;subst hx;exact hq e2),Cz]
   exact hr
def tJ (G:Cw)(c:Int)(k:Nat)(rec:Int→List Az×Nat→Bool×(List Az×Nat)):Prop:=
 ∀d l f,Aq l c→AP l d=2→Ak l d=[]→(G d).isSome=true→Pre G l→201≤l.length+k→(rec d (l,f)).1=true∧Pre G (rec d (l,f)).2.1
theorem bZ {G:Cw}{c d:Int}(hw:Whole G c){k:Nat}{rec:Int→List Az×Nat→Bool×(List Az×Nat)}(hok:tT G c rec)(hrec:tJ G c k rec) :
 ∀(es:List Br) (l:List Az) (p:List Br) (f:Nat),Aq l c→AP l d=2→Ak l d=p→G d=some (p++es)→Pre G l→200≤l.length+k→(Eu c rec d es (l,f)).1=true∧Pre G (Eu c rec d es (l,f)).2.1
 | [],l,p,f,hg,hd,he,hG,hp,hk=>⟨rfl,hp⟩
 | e::es,l,p,f,hg,hd,he,hG,hp,hk=>by
  have hf:=aj hw hp hg hG he;have hp1:=oI hp hG he;have hg1:=KP hg hd hf;have hd1:AP (l++[⟨d,e⟩]) d=2:=by rw[EX (by omega)];exact hd
  have he1:Ak (l++[⟨d,e⟩]) d=p++[e]:=by rw[Dh,he];simp[Ak]
  have hG1:G d=some (p++[e]++es):=by rw[hG];simp
  have hlen:(l++[(⟨d,e⟩:Az)]).length=l.length+1:=by simp
  unfold Eu;simp only[if_pos hf];by_cases Oc:e.dir=true
  · simp only[if_pos Oc];have ho:=(hw.ok d _ hG e (by simp)).2.2.2.2.2;have hk1:AP (l++[⟨d,e⟩]) e.node=2:=by rw[Pg hf.2.1,if_pos Oc]
    have hn1:Ak (l++[⟨d,e⟩]) e.node=[]:=by
     rw[Dh,hg.wh (by rw[hf.2.1];decide),G5];refine F9 fun x hx e2=>?_
     rw[Cn]at hx;subst hx;have e3:d=e.node:=e2;rw[e3,hf.2.1]at hd;omega
    obtain⟨r1,r2⟩:=hrec e.node (l++[⟨d,e⟩]) f hg1 hk1 hn1 (by rw[ho];exact Oc) hp1 (by omega);obtain⟨A1,a1,a2,a3⟩:=hok e.node (l++[⟨d,e⟩]) f hg1 hk1 hn1 r1;simp only[if_pos r1];rw[a1]at r2 ⊢;have hde:d≠e.node:=fun e2=>by rw[e2,hf.2.1]at hd;omega
    have hA:Ak A1 d=[]:=F9 fun x hx e2=>by
     rcases a2.BD hx with h1|h1
     · exact hde (e2.symm.trans h1)
     · rw[e2,hd1]at h1;omega
    exact bZ hw hok hrec es _ (p++[e]) _ a2.good (by rw[EX (by omega)];exact hd1) (by rw[Dh,he1,hA,Cz]) hG1 r2 (by rw[A7];omega)
  · simp only[if_neg Oc];exact bZ hw hok hrec es _ (p++[e]) _ hg1 hd1 he1 hG1 hp1 (by omega)
theorem Zl {G:Cw}{c:Int}(hw:Whole G c):∀k,tJ G c k (Gs G c k)
 | 0,d,l,f,hg,hd,he,hs,hp,hk=>by
  have:=hg.len;omega
 | k+1,d,l,f,hg,hd,he,hs,hp,hk=>by
  unfold Gs;cases hG:G d with
  | none=>rw[hG]at hs;cases hs
  | some es =>
   simp only;exact bZ hw (RD G c k) (Zl hw k) es l [] (f+1) hg hd he (by rw[hG];rfl) hp (by omega)
def UG (l:List UInt8):Nat:=l.foldl (fun n b=>n*256+b.toNat) 0
theorem ni (l:List UInt8):∀a:Nat,l.foldl (fun n b=>n*256+b.toNat) a=a*256^l.length+UG l:=by
 induction l with
 | nil=>intro a;simp[UG]
 | cons b l ih =>
  intro a;have h1:=ih (a*256+b.toNat);have h2:=ih (0*256+b.toNat);show l.foldl _ (a*256+b.toNat)=a*256^(l.length+1)+l.foldl _ (0*256+b.toNat)
  rw[h1,h2,Nat.pow_succ];simp only[Nat.zero_mul,Nat.zero_add,Nat.add_mul,Nat.mul_assoc,Nat.mul_comm 256,Nat.add_assoc]
theorem RX (b:UInt8)(l:List UInt8):UG (b::l)=b.toNat*256^l.length+UG l:=by
 show l.foldl _ (0*256+b.toNat)=_
 rw[ni,Nat.zero_mul,Gh]
theorem ng (l:List UInt8):UG l<256^l.length:=by
 induction l with
 | nil=>decide
 | cons b l ih =>
  rw[RX,GY,Nat.pow_succ];have h:=b.toNat_lt;have h2:b.toNat*256^l.length≤255*256^l.length:=Nat.mul_le_mul_right _ (by omega);omega
theorem ik (a m n:Nat):∀k,BB (a*256^(k+m)+n) k=BB n k:=by
 intro k
 induction k generalizing m with
 | zero=>rfl
 | succ k ih =>
  show UInt8.ofNat _::BB _ k=UInt8.ofNat _::BB n k
  have h1:a*256^(k+1+m)=a*256^(k+(m+1)):=by rw[show k+1+m=k+(m+1) by omega]
  rw[h1,ih (m+1)];have h2:(a*256^(k+(m+1))+n)/256^k=n/256^k+a*256^m*256:=by
   rw[Nat.pow_add,show a*(256^k*256^(m+1))=(a*256^m*256)*256^k by rw[Nat.pow_succ];simp only[Nat.mul_assoc,Nat.mul_comm,Nat.mul_left_comm],Nat.add_comm,Nat.add_mul_div_right _ _ (Nat.pow_pos (by decide))]
  rw[h2];congr 1;apply UInt8.toNat_inj.1;rw[Ju,Ju,Nat.add_mul_mod_self_right]
theorem xP (l:List UInt8):BB (UG l) l.length=l:=by
 induction l with
 | nil=>rfl
 | cons b l ih =>
  rw[RX];show UInt8.ofNat _::BB _ l.length=b::l
  have h:=ik b.toNat 0 (UG l) l.length;rw[Nat.add_zero]at h;rw[h,ih];congr 1;apply UInt8.toNat_inj.1;have hv:=ng l;rw[Ju,Nat.add_comm,Nat.add_mul_div_right _ _ (Nat.pow_pos (by decide)),Nat.div_eq_of_lt hv,Gh];have:=b.toNat_lt;omega
theorem eX (n : Nat) : ∀ k, n < 256 ^ k → UG (BB n k) = n := by
  intro k
  induction k generalizing n with
  | zero => intro h; have : n = 0 := by simpa using h
            subst this; rfl
  | succ k ih =>
    intro h
    show UG (UInt8.ofNat _ :: BB n k) = n
    rw [RX, Ju, Ah]
    have hp : 0 < 256 ^ k := Nat.pow_pos (by decide)
    have hd : n / 256 ^ k < 256 := by
      rw [Nat.div_lt_iff_lt_mul hp]; rw [Nat.pow_succ] at h; omega
    rw [Nat.mod_eq_of_lt hd]
    have h2 : n = n / 256 ^ k * 256 ^ (k + 0) + n % 256 ^ k := by
      rw [Nat.add_zero, Nat.mul_comm]; exact (Nat.div_add_mod n _).symm
    have h3 : BB n k = BB (n % 256 ^ k) k := by
      conv => lhs; rw [h2]
      exact ik _ 0 _ k
    rw [h3, ih _ (Nat.mod_lt _ hp), Nat.mul_comm]
    exact Nat.div_add_mod n _
def takeN (k:Nat)(l:List UInt8):Option (Nat×List UInt8):=if k≤l.length then some (FD k l,l.drop k) else none
theorem rd_val (k:Nat)(l:List UInt8):FD k l=UG (l.take k):=rfl
theorem CL {k:Nat}{l:List UInt8}{n:Nat}{r:List UInt8}:takeN k l=some (n,r)↔l=BB n k++r∧n<256^k:=by
 unfold takeN;constructor
 · intro h;split at h
   · rename_i hk;obtain⟨h1,h2⟩:=Prod.mk.inj (BS h);have hl:(l.take k).length=k:=by rw[Cc];omega
     have e1:=xP (l.take k);rw[hl,←rd_val,h1]at e1;have e2:=ng (l.take k);rw[hl,←rd_val,h1]at e2;refine⟨?_,e2⟩;rw[e1,←h2,List.take_append_drop]
   · exact absurd h (by simp)
 · rintro⟨rfl,h⟩;rw[if_pos (by rw[A7,Ah];omega),IQ,rd_val,ML,eX n k h]
def takeB (k:Nat)(l:List UInt8):Option (ByteArray×List UInt8):=if k≤l.length then some (⟨(l.take k).toArray⟩,l.drop k) else none
theorem Vb {k:Nat}{l:List UInt8}{s:ByteArray}{r:List UInt8}:takeB k l=some (s,r)↔l=s.data.toList++r∧s.size=k:=by
 unfold takeB;constructor
 · intro h;split at h
   · rename_i hk;obtain⟨h1,h2⟩:=Prod.mk.inj (BS h);subst h1 h2;refine⟨?_,?_⟩
     · show l=(l.take k).toArray.toList++l.drop k
       rw[List.take_append_drop]
     · show(l.take k).toArray.size=k
       rw[Gq,Cc];omega
   · exact absurd h (by simp)
 · rintro⟨rfl,rfl⟩;have hs:s.data.toList.length=s.size:=BQ;rw[if_pos (by rw[A7,hs];omega),List.take_left' hs,List.drop_left' hs]
def GD (e:Br):List UInt8:=EU e.name++(BB e.node.toNat 2++(BB (DI e.dir) 1++(BB e.Al.toNat 8++BB e.short.toNat 4)))
def uG (e:Br):Prop:=e.name.size<256∧(0≤e.node∧e.node<65536)∧(0≤e.Al∧e.Al<18446744073709551616)∧(0≤e.short∧e.short<4294967296)
def AaE (l:List UInt8):Option (Br×List UInt8):=
 (takeN 1 l).bind fun a=>(takeB a.1 a.2).bind fun s=>(takeN 2 s.2).bind fun n=>(takeN 1 n.2).bind fun d =>
  if 1<d.1 then none else(takeN 8 d.2).bind fun c=>(takeN 4 c.2).bind fun h=>some (⟨s.1,n.1,decide (d.1=1),c.1,h.1⟩,h.2)
theorem Zo {l:List UInt8}{e:Br}{r:List UInt8}:AaE l=some (e,r)↔l=GD e++r∧uG e:=by
 unfold AaE;constructor
 · intro h;obtain⟨⟨a,l1⟩,h1,h⟩:=Iu.1 h;obtain⟨⟨s,l2⟩,h2,h⟩:=Iu.1 h;obtain⟨⟨n,l3⟩,h3,h⟩:=Iu.1 h;obtain⟨⟨d,l4⟩,h4,h⟩:=Iu.1 h;split at h
   · exact absurd h (by simp)
   · rename_i hd;obtain⟨⟨c,l5⟩,h5,h⟩:=Iu.1 h;obtain⟨⟨q,l6⟩,h6,h⟩:=Iu.1 h;obtain⟨g1,g2⟩:=Prod.mk.inj (BS h);subst g1 g2;obtain⟨rfl,k1⟩:=CL.1 h1;obtain⟨e2,rfl⟩:=Vb.1 h2;obtain⟨e3,k3⟩:=CL.1 h3;obtain⟨e4,k4⟩:=CL.1 h4;obtain⟨e5,k5⟩:=CL.1 h5;obtain⟨e6,k6⟩:=CL.1 h6;simp only at e2 e3 e4 e5 e6 hd k1;subst e2 e3 e4 e5 e6;refine⟨?_,k1,⟨Int.natCast_nonneg _,by show(n:Int)<_;omega⟩,⟨Int.natCast_nonneg _,by show(c:Int)<_;omega⟩,⟨Int.natCast_nonneg _,by show(q:Int)<_;omega⟩⟩;have hb:DI (decide (d=1))=d:=by
      unfold DI;have:d=0∨d=1:=by omega
      rcases this with rfl|rfl<;>rfl
     unfold GD EU;simp only[Int.toNat_natCast,hb,List.append_assoc]
 · rintro⟨rfl,k1,⟨k2,k3⟩,⟨k4,k5⟩,⟨k6,k7⟩⟩;obtain⟨s,n,d,c,q⟩:=e;simp only at k1 k2 k3 k4 k5 k6 k7;obtain⟨n,rfl⟩:∃m:Nat,n=m:=⟨n.toNat,by omega⟩;obtain⟨c,rfl⟩:∃m:Nat,c=m:=⟨c.toNat,by omega⟩;obtain⟨q,rfl⟩:∃m:Nat,q=m:=⟨q.toNat,by omega⟩;unfold GD EU;simp only[Int.toNat_natCast,List.append_assoc];have hb:DI d<2:=by unfold DI;split<;>omega
   rw[CL.2 ⟨rfl,k1⟩];simp only[Option.bind_some];rw[Vb.2 ⟨rfl,rfl⟩];simp only[Option.bind_some];rw[CL.2 ⟨rfl,by omega⟩];simp only[Option.bind_some];rw[CL.2 ⟨rfl,by omega⟩];simp only[Option.bind_some];rw[if_neg (by omega),CL.2 ⟨rfl,by omega⟩];simp only[Option.bind_some];rw[CL.2 ⟨rfl,by omega⟩];simp only[Option.bind_some];cases d<;>rfl
def YK {α:Type}(P:List UInt8→Option (α×List UInt8)):Nat→List UInt8→Option (List α×List UInt8)
 | 0,l=>some ([],l)
 | n+1,l=>(P l).bind fun x=>(YK P n x.2).bind fun y=>some (x.1::y.1,y.2)
theorem M7 {α:Type}{P:List UInt8→Option (α×List UInt8)}{B:α→List UInt8}{ok:α→Prop}
 (hP:∀l x r,P l=some (x,r)↔l=B x++r∧ok x):∀{n:Nat} {l:List UInt8} {xs:List α} {r:List UInt8},
 YK P n l=some (xs,r)↔l=xs.flatMap B++r∧xs.length=n∧∀x∈xs,ok x:=by
 intro n
 induction n with
 | zero =>
  intro l xs r;constructor
  · intro h;obtain⟨rfl,rfl⟩:=Prod.mk.inj (BS h);exact⟨rfl,rfl,fun _ h=>absurd h (by simp)⟩
  · rintro⟨rfl,h,_⟩;obtain rfl:=Kw h;rfl
 | succ n ih =>
  intro l xs r;unfold YK;constructor
  · intro h;obtain⟨⟨x,l1⟩,h1,h⟩:=Iu.1 h;obtain⟨⟨ys,l2⟩,h2,h⟩:=Iu.1 h;obtain⟨rfl,rfl⟩:=Prod.mk.inj (BS h);obtain⟨rfl,o1⟩:=(hP _ _ _).1 h1;obtain⟨e2,rfl,o2⟩:=ih.1 h2;simp only at e2;subst e2;refine⟨by simp only[List.flatMap_cons,List.append_assoc],rfl,fun y hy=>?_⟩;rcases Em.1 hy with rfl|hy
    · exact o1
    · exact o2 y hy
  · rintro⟨rfl,h,o⟩;obtain _|⟨x,ys⟩:=xs
    · exact absurd h (by simp)
    · rw[List.flatMap_cons,Ch,(hP _ x _).2 ⟨rfl,o x (List.mem_cons_self ..)⟩];simp only[Option.bind_some];rw[ih.2 ⟨rfl,by simpa using h,fun y hy=>o y (List.mem_cons_of_mem _ hy)⟩];rfl
def CB (d:Int×List Br):List UInt8:=BB d.1.toNat 2++(BB d.2.length 2++d.2.flatMap GD)
def iE (d:Int×List Br):Prop:=(0≤d.1∧d.1<65536)∧d.2.length<65536∧∀e∈d.2,uG e
def AaJ (l:List UInt8):Option ((Int×List Br)×List UInt8):=
 (takeN 2 l).bind fun q=>(takeN 2 q.2).bind fun n=>(YK AaE n.1 n.2).bind fun es=>some (((q.1:Int),es.1),es.2)
theorem Zv {l:List UInt8}{d:Int×List Br}{r:List UInt8}:AaJ l=some (d,r)↔l=CB d++r∧iE d:=by
 unfold AaJ;constructor
 · intro h;obtain⟨⟨q,l1⟩,h1,h⟩:=Iu.1 h;obtain⟨⟨n,l2⟩,h2,h⟩:=Iu.1 h;obtain⟨⟨es,l3⟩,h3,h⟩:=Iu.1 h;obtain⟨rfl,rfl⟩:=Prod.mk.inj (BS h);obtain⟨rfl,k1⟩:=CL.1 h1;obtain⟨e2,k2⟩:=CL.1 h2;obtain⟨e3,rfl,o⟩:=(M7 fun l x r=>Zo).1 h3;simp only at e2 e3;subst e2 e3;refine⟨?_,⟨Int.natCast_nonneg _,by show(q:Int)<_;omega⟩,k2,o⟩;unfold CB;simp only[Int.toNat_natCast,List.append_assoc]
 · rintro⟨rfl,⟨k1,k2⟩,k3,o⟩;obtain⟨q,es⟩:=d;simp only at k1 k2 k3 o;obtain⟨q,rfl⟩:∃m:Nat,q=m:=⟨q.toNat,by omega⟩;unfold CB;simp only[Int.toNat_natCast,List.append_assoc];rw[CL.2 ⟨rfl,by omega⟩];simp only[Option.bind_some];rw[CL.2 ⟨rfl,by omega⟩];simp only[Option.bind_some];rw[(M7 fun l x r=>Zo).2 ⟨rfl,rfl,o⟩];rfl
def N8 (nx:Int)(ds:List (Int×List Br)):List UInt8:=BB nx.toNat 8++(BB ds.length 2++ds.flatMap CB)
def ZN (nx:Int)(ds:List (Int×List Br)):Prop:=(0≤nx∧nx<18446744073709551616)∧ds.length<65536∧∀d∈ds,iE d
def Abl (l:List UInt8):Option (Int×List (Int×List Br)):=
 (takeN 8 l).bind fun c=>(takeN 2 c.2).bind fun n=>(YK AaJ n.1 n.2).bind fun ds=>if ds.2=[] then some ((c.1:Int),ds.1) else none
theorem YZ {l:List UInt8}{nx:Int}{ds:List (Int×List Br)}:Abl l=some (nx,ds)↔l=N8 nx ds∧ZN nx ds:=by
 unfold Abl;constructor
 · intro h;obtain⟨⟨c,l1⟩,h1,h⟩:=Iu.1 h;obtain⟨⟨n,l2⟩,h2,h⟩:=Iu.1 h;obtain⟨⟨ys,l3⟩,h3,h⟩:=Iu.1 h;split at h
   · rename_i hl;obtain⟨rfl,rfl⟩:=Prod.mk.inj (BS h);obtain⟨rfl,k1⟩:=CL.1 h1;obtain⟨e2,k2⟩:=CL.1 h2;obtain⟨e3,rfl,o⟩:=(M7 fun l x r=>Zv).1 h3;simp only at e2 e3 hl;subst e2 e3 hl;refine⟨?_,⟨Int.natCast_nonneg _,by show(c:Int)<_;omega⟩,k2,o⟩;unfold N8;simp only[Int.toNat_natCast,List.append_nil]
   · exact absurd h (by simp)
 · rintro⟨rfl,⟨k1,k2⟩,k3,o⟩;obtain⟨c,rfl⟩:∃m:Nat,nx=m:=⟨nx.toNat,by omega⟩;unfold N8;simp only[Int.toNat_natCast];rw[CL.2 ⟨rfl,by omega⟩];simp only[Option.bind_some];rw[CL.2 ⟨rfl,by omega⟩];simp only[Option.bind_some];rw[(M7 (r:=[]) fun l x r=>Zv).2 ⟨by rw[Cz],rfl,o⟩];rfl
theorem wR {a b:Int}{ds es:List (Int×List Br)}(ha:ZN a ds)(hb:ZN b es)(h:N8 a ds=N8 b es):a=b∧ds=es:=by
 have h1:=YZ.2 ⟨rfl,ha⟩;have h2:=YZ.2 ⟨h,hb⟩;rw[h1]at h2;exact Prod.mk.inj (BS h2)
def Nc (ds:List (Int×List Br)):Nat:=(ds.map fun d=>d.2.length).sum
theorem rE (e:Br)(h:e.name.size<256):(GD e).length≤271:=by
 unfold GD;simp only[List.length_append,Ah,BP];omega
theorem rD (es:List Br)(h:∀e∈es,e.name.size<256):(es.flatMap GD).length≤271*es.length:=by
 induction es with
 | nil=>simp
 | cons e es ih =>
  have h1:=rE e (h e (List.mem_cons_self ..));have h2:=ih fun x hx=>h x (List.mem_cons_of_mem _ hx)
  rw[List.flatMap_cons,A7,GY];omega
theorem rP (ds:List (Int×List Br))(h:∀d∈ds,∀e∈d.2,e.name.size<256):(ds.flatMap CB).length≤4*ds.length+271*Nc ds:=by
 induction ds with
 | nil=>simp[Nc]
 | cons d ds ih =>
  have h1:=rD d.2 (h d (List.mem_cons_self ..));have h2:=ih fun x hx=>h x (List.mem_cons_of_mem _ hx)
  have h3:Nc (d::ds)=d.2.length+Nc ds:=rfl;have h4:(CB d).length=4+(d.2.flatMap GD).length:=by
   unfold CB;simp only[List.length_append,Ah];omega
  rw[List.flatMap_cons,A7,GY,h3,h4];omega
theorem wQ (nx:Int)(ds:List (Int×List Br))(h:∀d∈ds,∀e∈d.2,e.name.size<256)(h1:ds.length≤201)(h2:Nc ds≤200):(N8 nx ds).length≤60000:=by
 have h3:=rP ds h;unfold N8;simp only[List.length_append,Ah];omega
end Go.Proofs.YtdmkhmeaphaapaaGreat
namespace Go.Proofs.YtdmkhmeaphaapaaGreat
open Go.RowKit Go.Sort
def eH (e:Br):Prop:=uG e∧e.Al≤9223372036854775807
def Oy (d:Int×List Br):Prop:=iE d∧∀e∈d.2,e.Al≤9223372036854775807
theorem Oy.ent {d:Int×List Br}(h:Oy d){e:Br}(he:e∈d.2):eH e:=⟨h.1.2.2 e he,h.2 e he⟩
end Go.Proofs.YtdmkhmeaphaapaaGreat
namespace Go.Proofs.YtdmkhmeaphaapaaGreat
open Go.RowKit Go.Sort
abbrev IW:TypeId:=197
theorem Za:JO IW 0:=⟨by decide,by kernel_rfl⟩
theorem Jg.drew {T:TypeId}(w:World):Jg T w w.drew:=fun T0 _ _=>Dl.below (Cy (Ad _ _))
theorem Jg.alloc {T:TypeId}(w:World)(o:Obj):Jg T w (w.alloc o):=fun T0 _ _=>Dl.alloc o
theorem Jg.below {T:TypeId}{w w':World}(h:Below w.heap.size w w'):Jg T w w':=fun T0 _ _=>Dl.below h
theorem La {T T0:TypeId}{w w':World}(hf:Jg T w w')(h8:T0≠5)(hT:T0≠T){B c n:Nat}{v:Value}{xs:List Value}(h:w.ownsRow B T0 c v n xs):w'.ownsRow B T0 c v n xs:=
 AV h fun g hg=>by
  obtain⟨cur,hc⟩:=CJ h hg;rw[hc,hf T0 h8 hT _ _ _ hc]
structure Nz (w:World)(B b q:Nat)(x:Br)(u:List UInt8)(W:World):Prop where
 d:W.heap[q]?=some (.cells #[.string x.name,.int .i64 x.node,.bool x.dir,.int .i64 x.Al,.int .i64 x.short] 112 (0,0))
 wr:Rk IW B b (Lib.byteCells u) W
 b:Below B w W
 f:Jg IW w W
 s:B≤W.heap.size
section
variable {w W W':World}{B b q:Nat}{x:Br}{u:List UInt8}
theorem Nz.step (h:Nz w B b q x u W){u':List UInt8}{e:Ending}(hp:Gd IW B b W u' e W'):e=.returned (.tuple #[])∧Nz w B b q x u' W':=by
 obtain⟨he,hw,hb,hf⟩:=hp;exact⟨he,hf _ (by decide) (by decide) _ _ _ h.d,hw,h.b.trans hb,h.f.trans hf,Ao h.s hb.size⟩
theorem Nz.drew (h:Nz w B b q x u W):Nz w B b q x u W.drew:=
 ⟨h.d,h.wr.below (Cy (Ad _ _)),Cy h.b,h.f.trans (Jg.drew W),h.s⟩
theorem Nz.num (h:Nz w B b q x u W)(z kk:Int)(k:Nat)(hk:kk=(k:Int))(xh:k≤8)(hz:0≤z∧z≤9223372036854775807)(hu:u.length≤1000000) :
 Calls Tryz.prog 75 #[DF b,.int .i64 z,.int .i64 kk] W fun e w'=>e=.returned (.tuple #[])∧Nz w B b q x (u++BB z.toNat k) w':=by
 subst hk;have h9:=KE Za B b z.toNat k u W h.wr (by omega) xh hu h.s;rw[show((z.toNat:Nat):Int)=z by omega]at h9;exact h9.mono fun e w' hp=>h.step hp
theorem Nz.name (h:Nz w B b q x u W)(s:ByteArray)(hs:s.size≤255)(hu:u.length≤999000) :
 Calls Tryz.prog 76 #[DF b,.string s] W fun e w'=>e=.returned (.tuple #[])∧Nz w B b q x (u++EU s) w':=
 (eQ Za B b s u W h.wr hs hu h.s).mono fun e w' hp=>h.step hp
theorem Nz.flag (h:Nz w B b q x u W)(t:Bool)(hu:u.length≤999000) :
 Calls Tryz.prog 77 #[DF b,.bool t] W fun e w'=>e=.returned (.tuple #[])∧Nz w B b q x (u++BB (DI t) 1) w':=
 (eT Za B b t u W h.wr hu h.s).mono fun e w' hp=>h.step hp
end
set_option maxHeartbeats 8000000 in
theorem mW (B b:Nat)(x:Br)(l:List UInt8)(w:World)(h:Rk IW B b (Lib.byteCells l) w)(hx:eH x)(hl:l.length≤900000)(hB:B≤w.heap.size) :
 Calls Tryz.prog 154 #[DF b,Di x] w (Gd IW B b w (l++GD x)):=by
 unfold Gd;obtain⟨L,hL⟩:∃L,l++GD x=L:=⟨_,rfl⟩;rw[hL];unfold GD at hL;obtain⟨⟨k1,⟨k2,k3⟩,⟨k4,k5⟩,⟨k6,k7⟩⟩,k8⟩:=hx;obtain⟨s,n,d,c,q0⟩:=x;unfold Di;simp only at hL k1 k2 k3 k4 k5 k6 k7 k8 ⊢;have HL:=Aa hL;clear hL;have HE:Hid (Nz w B b w.heap.size ⟨s,n,d,c,q0⟩ l (w.alloc (.cells #[.string s,.int .i64 n,.bool d,.int .i64 c,.int .i64 q0] 112))):=Aa
  ⟨Ai _ _,h.below ((Ad _ _).alloc (Ae _) _),(Ad _ _).alloc hB _,Jg.alloc _ _,by simp;omega⟩
 clear h hB;go_enter Tryz.func154,Tryz.ntmps154;go_upto_region 1 with fail;generalize (w.alloc (.cells #[.string s,.int .i64 n,.bool d,.int .i64 c,.int .i64 q0] 112))=W0 at *;generalize w.heap.size=q at *;have hcs:=Aj HE.out.d;obtain⟨⟨c0,c1,c2,c3,c4⟩,_⟩:=hcs;go_still_tail 5,(by kernel_rfl);change wpList _ _ _ _ _ W0.drew;have HE:=Aa HE.out.drew;generalize W0.drew=W1 at *;obtain⟨⟨c0,c1,c2,c3,c4⟩,_⟩:=Aj HE.out.d;go_wp2_with (go_at_call 76;(with_reducible refine(HE.out.name _ (by omega) (by omega)).mono ?_);rintro e w2 ⟨rfl,he⟩;have HE:=Aa he;clear he);clear c0 c1 c2 c3 c4;have hcs:=Aj HE.out.d;obtain⟨⟨c0,c1,c2,c3,c4⟩,_⟩:=hcs;go_still_tail 5,(by kernel_rfl);change wpList _ _ _ _ _ w2.drew;have HE:=Aa HE.out.drew;generalize w2.drew=W2 at *;obtain⟨⟨c0,c1,c2,c3,c4⟩,_⟩:=Aj HE.out.d;go_wp2_with (go_at_call 75;(with_reducible refine(HE.out.num _ 2 2 rfl (by omega) (by omega) (by simp only[List.length_append,Ah,BP];omega)).mono ?_);rintro e w3 ⟨rfl,he⟩;have HE:=Aa he;clear he);clear c0 c1 c2 c3 c4;have hcs:=Aj HE.out.d;obtain⟨⟨c0,c1,c2,c3,c4⟩,_⟩:=hcs;go_still_tail 5,(by kernel_rfl);change wpList _ _ _ _ _ w3.drew;have HE:=Aa HE.out.drew;generalize w3.drew=W3 at *;obtain⟨⟨c0,c1,c2,c3,c4⟩,_⟩:=Aj HE.out.d;go_wp2_with (go_at_call 77;(with_reducible refine(HE.out.flag _ (by simp only[List.length_append,Ah,BP];omega)).mono ?_);rintro e w4 ⟨rfl,he⟩;have HE:=Aa he;clear he);clear c0 c1 c2 c3 c4;have hcs:=Aj HE.out.d;obtain⟨⟨c0,c1,c2,c3,c4⟩,_⟩:=hcs;go_still_tail 5,(by kernel_rfl);change wpList _ _ _ _ _ w4.drew;have HE:=Aa HE.out.drew;generalize w4.drew=W4 at *;obtain⟨⟨c0,c1,c2,c3,c4⟩,_⟩:=Aj HE.out.d;go_wp2_with (go_at_call 75;(with_reducible refine(HE.out.num _ 8 8 rfl (by omega) (by omega) (by simp only[List.length_append,Ah,BP];omega)).mono ?_);rintro e w5 ⟨rfl,he⟩;have HE:=Aa he;clear he);clear c0 c1 c2 c3 c4;have hcs:=Aj HE.out.d;obtain⟨⟨c0,c1,c2,c3,c4⟩,_⟩:=hcs;go_still_tail 5,(by kernel_rfl);change wpList _ _ _ _ _ w5.drew;have HE:=Aa HE.out.drew;generalize w5.drew=W5 at *;obtain⟨⟨c0,c1,c2,c3,c4⟩,_⟩:=Aj HE.out.d;go_wp2_with (go_at_call 75;(with_reducible refine(HE.out.num _ 4 4 rfl (by omega) (by omega) (by simp only[List.length_append,Ah,BP];omega)).mono ?_);rintro e w6 ⟨rfl,he⟩;have HE:=Aa he;clear he);go_end0;refine⟨rfl,?_,HE.out.b,HE.out.f⟩;have h9:=HE.out.wr;rw[←HL.out];simp only[List.append_assoc]at h9;exact h9
structure PO (w:World)(B b q:Nat)(d:Int)(v:Value)(B2:Nat)(es:List Br)(u:List UInt8)(W:World):Prop where
 d:W.heap[q]?=some (.cells #[.int .i64 d,v] 200 (0,0))
 es:W.ownsRow B2 112 5 v es.length (es.flatMap DU)
 wr:Rk IW B b (Lib.byteCells u) W
 b:Below B w W
 f:Jg IW w W
 s:B≤W.heap.size
section
variable {w W W':World}{B b q B2:Nat}{d:Int}{v:Value}{es:List Br}{u:List UInt8}
theorem PO.step (h:PO w B b q d v B2 es u W){u':List UInt8}{e:Ending}(hp:Gd IW B b W u' e W'):e=.returned (.tuple #[])∧PO w B b q d v B2 es u' W':=by
 obtain⟨he,hw,hb,hf⟩:=hp;exact⟨he,hf _ (by decide) (by decide) _ _ _ h.d,La (T:=IW) (T0:=112) hf (by decide) (by decide) h.es,hw,h.b.trans hb,h.f.trans hf,Ao h.s hb.size⟩
theorem PO.drew (h:PO w B b q d v B2 es u W):PO w B b q d v B2 es u W.drew:=
 ⟨h.d,La (T:=IW) (T0:=112) (Jg.drew W) (by decide) (by decide) h.es,h.wr.below (Cy (Ad _ _)),Cy h.b,h.f.trans (Jg.drew W),h.s⟩
theorem PO.num (h:PO w B b q d v B2 es u W)(z kk:Int)(k:Nat)(hk:kk=(k:Int))(xh:k≤8)(hz:0≤z∧z≤9223372036854775807)(hu:u.length≤1000000) :
 Calls Tryz.prog 75 #[DF b,.int .i64 z,.int .i64 kk] W fun e w'=>e=.returned (.tuple #[])∧PO w B b q d v B2 es (u++BB z.toNat k) w':=by
 subst hk;have h9:=KE Za B b z.toNat k u W h.wr (by omega) xh hu h.s;rw[show((z.toNat:Nat):Int)=z by omega]at h9;exact h9.mono fun e w' hp=>h.step hp
theorem PO.cells (h:PO w B b q d v B2 es u W):W.cell? ⟨q,0,none⟩=some (.int .i64 d)∧W.cell? ⟨q,1,none⟩=some v:=⟨Ap h.d 0,Ap h.d 1⟩
theorem PO.post (h:PO w B b q d v B2 es u W):Rk IW B b (Lib.byteCells u) W∧Below B w W∧Jg IW w W:=⟨h.wr,h.b,h.f⟩
end
theorem JI {α:Type}{f:α→List UInt8}{es:List α}{i:Nat}{x:α}(h:es[i]?=some x):(es.take (i+1)).flatMap f=(es.take i).flatMap f++f x:=by
 rw[GQ h,FB];simp
theorem GA {α:Type}(f:α→List UInt8)(es:List α)(i:Nat):((es.take i).flatMap f).length≤(es.flatMap f).length:=by
 conv=>rhs;rw[←List.take_append_drop i es,FB,A7]
 omega
set_option maxHeartbeats 8000000 in
theorem mX (B b:Nat)(d:Int)(v:Value)(B2:Nat)(es:List Br)(l:List UInt8)(w:World)(h:Rk IW B b (Lib.byteCells l) w)(hr:w.ownsRow B2 112 5 v es.length (es.flatMap DU))(hd:Oy (d,es))(hl:l.length+(CB (d,es)).length≤900000)(hB:B≤w.heap.size) :
 Calls Tryz.prog 113 #[DF b,.agg #[.int .i64 d,v]] w (Gd IW B b w (l++CB (d,es))):=by
 unfold Gd;obtain⟨L,hL⟩:∃L,l++CB (d,es)=L:=⟨_,rfl⟩;have hlen:(es.flatMap GD).length≤900000-l.length-4:=by
  unfold CB at hl;simp only[List.length_append,Ah]at hl;omega
 have hl4:l.length≤899996:=by
  unfold CB at hl;simp only[List.length_append,Ah]at hl;omega
 rw[hL];unfold CB at hL;obtain⟨⟨k1,k2⟩,k3,_⟩:=hd.1;simp only at hL k1 k2 k3;obtain⟨a,cap,rfl⟩:∃a cap,v=.slice a es.length cap:=(AL.own (Eb _) hr rfl).len;obtain⟨n,hn⟩:∃n,es.length=n:=⟨_,rfl⟩;have HE:Hid (PO w B b w.heap.size d (.slice a es.length cap) B2 es l (w.alloc (.cells #[.int .i64 d,.slice a es.length cap] 200))):=Aa
  ⟨Ai _ _,hr.alloc _,h.below ((Ad _ _).alloc (Ae _) _),(Ad _ _).alloc hB _,Jg.alloc _ _,by simp;omega⟩
 have HD:=Aa hd;have HL:=Aa hL;have uz:=Aa hlen;have HN:=Aa hn;have HAT:Hid (∀(W:World) (i:Nat) (x:Br),W.ownsRow B2 112 5 (.slice a n cap) es.length (es.flatMap DU)→es[i]?=some x→∃g off,a=some ⟨g,off,none⟩∧g<W.heap.size∧W.rangeAt g (off+i*5) (DU x)):=Aa fun W i x hW hi=>AL.at (AL.own (Eb _) hW rfl) hi
 rw[hn]at HE k3 ⊢;have hnL:BB es.length 2=BB n 2:=by rw[hn]
 have HNL:=Aa hnL;clear h hB hL hr hd hn hl hlen hnL;go_enter Tryz.func113,Tryz.ntmps113;go_upto_region 1 with fail;generalize (w.alloc (.cells #[.int .i64 d,.slice a n cap] 200))=W0 at *;generalize w.heap.size=q at *;obtain⟨c0,c1⟩:=HE.out.cells;go_still_tail 5,(by kernel_rfl);change wpList _ _ _ _ _ W0.drew;have HE:=Aa HE.out.drew;generalize W0.drew=W1 at *;obtain⟨c0,c1⟩:=HE.out.cells;go_wp2_with (go_at_call 75;(with_reducible refine(HE.out.num _ 2 2 rfl (by omega) (by omega) (by omega)).mono ?_);rintro e w2 ⟨rfl,he⟩;have HE:=Aa he;clear he);clear c0 c1;obtain⟨c0,c1⟩:=HE.out.cells;go_still_tail 6,(by kernel_rfl);change wpList _ _ _ _ _ w2.drew;have HE:=Aa HE.out.drew;generalize w2.drew=W2 at *;clear c0 c1;obtain⟨c0,c1⟩:=HE.out.cells;go_wp2_with (go_at_call 75;(with_reducible refine(HE.out.num _ 2 2 rfl (by omega) (by omega) (by simp only[List.length_append,Ah];omega)).mono ?_);rintro e w3 ⟨rfl,he⟩;have HE:=Aa he;clear he;obtain⟨c0,c1⟩:=HE.out.cells);have HP:=Aa HE.out.post;have HES:=Aa HE.out.es;have HS:=Aa HE.out.s;clear HE c0 c1;rw[DY]at HP;go_loopw [22] (fun iv wr=>∃i:Nat,i≤n∧iv=.int .i64 i∧Rk IW B b (Lib.byteCells (l++BB d.toNat 2++BB n 2++(es.take i).flatMap GD)) wr∧Below B w wr∧Jg IW w wr∧Jg IW w3 wr∧B≤wr.heap.size) (fun iv _=>n-(intOf iv).toNat)
 case atStart=>exact⟨0,by omega,rfl,by simpa using HP.out.1,HP.out.2.1,HP.out.2.2,Jg.refl _,HS.out⟩
 case round =>
  obtain⟨i,hi,rfl,hw,hb,hf,hf3,hs⟩:=hrel;have HW:=Aa hw;have HB:=Aa hb;have HF:=Aa hf;have Ex:=Aa hf3;have HSS:=Aa hs;clear hw hb hf hf3 hs;by_cases him:i<n
  · have hiz:(i:Int)<(n:Int):=by omega
    have hi0:(0:Int)≤(i:Int):=by omega
    obtain⟨x,hx⟩:∃x,es[i]?=some x:=⟨_,Co (by rw[HN.out];omega)⟩;have hES:wr.ownsRow B2 112 5 (.slice a n cap) es.length (es.flatMap DU):=La (T:=IW) (T0:=112) Ex.out (by decide) (by decide) HES.out;obtain⟨g,off,rfl,hg,hr⟩:=HAT.out wr i x hES hx;obtain⟨d0,d1,d2,d3,d4⟩:=Ii hr;have LQ:=Aa (HD.out.ent (CU hx));have UT:=Aa (JI (f:=GD) hx);have hle:=GA GD es i;have hln:((l++BB d.toNat 2++BB n 2)++(es.take i).flatMap GD).length≤900000:=by
     have:=uz.out;simp only[List.length_append,Ah];omega
    have cE:Hid (∀W,Below wr.heap.size wr W→Calls Tryz.prog 154 #[DF b,Di x] W (Gd IW B b W (l++BB d.toNat 2++BB n 2++(es.take (i+1)).flatMap GD))):=Aa fun W hW=>by
     have h9:=mW B b x (l++BB d.toNat 2++BB n 2++(es.take i).flatMap GD) W (HW.out.below hW) LQ.out hln (Ao HSS.out hW.size);rw[UT.out,←Ch];exact h9
    unfold Gd Di at cE;clear hr hES hle hln hx;obtain⟨nm,nd,dr,ck,sh⟩:=x;simp only at d0 d1 d2 d3 d4;simp only at cE;have K5:Hid (Below wr.heap.size wr (wr.alloc (.cells #[.string nm,.int .i64 nd,.bool dr,.int .i64 ck,.int .i64 sh] 112))):=Aa ((Ad _ _).alloc (Ae _) _);go_wp2_with (go_at_call 154;refine(cE.out _ K5.out).mono ?_;rintro e w5 ⟨rfl,h5,hb5,hf5⟩;have H5:=Aa h5;have I4:=Aa hb5;have l7:=Aa hf5;clear h5 hb5 hf5);go_roundw
    case rel=>exact⟨i+1,by omega,by first|rfl|go_num,H5.out,(HB.out.trans (K5.out.mono HSS.out)).trans I4.out,(HF.out.trans (Jg.below K5.out)).trans l7.out,(Ex.out.trans (Jg.below K5.out)).trans l7.out,Ao HSS.out (Ao K5.out.size I4.out.size)⟩
    case measure=>simp[intOf];omega
  · have hiz:¬(i:Int)<(n:Int):=by omega
    have HA:Hid (es.take i=es):=Aa (CV (by rw[HN.out];omega));go_wp2;go_end0;refine⟨rfl,?_,HB.out,HF.out⟩;have h9:=HW.out;rw[HA.out]at h9;rw[←HL.out,HNL.out];simp only[List.append_assoc]at h9;exact h9
end Go.Proofs.YtdmkhmeaphaapaaGreat
