/- Kit. -/
import Derived.Test.YtdmkhmeaphaapaaGreatFQF
import Derived.Test.YtdmkhmeaphaapaaGreatFQI
import Derived.Test.YtdmkhmeaphaapaaGreatFQ5
import Derived.Test.YtdmkhmeaphaapaaGreatFX1
import Derived.Test.YtdmkhmeaphaapaaGreatFQB
import Derived.Test.YtdmkhmeaphaapaaGreatFQ1
set_option maxRecDepth 100000
namespace Go.Proofs.YtdmkhmeaphaapaaGreat
open Go.RowKit Go.Sort
set_option linter.unusedVariables false
set_option linter.unusedSimpArgs false
theorem kind_free {l:List Itm}{n:Int}:kindI l n=0↔n≠0∧∀x∈l,x.e.node≠n:=by
  unfold kindI;by_cases h:n=0
  · simp[h]
  · rw[if_neg h,kindGo_zero];simp[h]
theorem kind_app {l A:List Itm}{n:Int}(h:kindI l n≠0):kindI (l++A) n=kindI l n:=by
  unfold kindI at *;by_cases h0:n=0
  · rw[if_pos h0,if_pos h0]
  · rw[if_neg h0]at h;rw[if_neg h0,if_neg h0];unfold kindGo nodeAt at *;rw[List.find?_append];cases h1:l.find? fun x=>decide (x.e.node=n) with
    | none=>rw[h1]at h;exact absurd rfl h
    | some y=>rfl
theorem kind_put {l:List Itm}{d:Int}{e:Ent}(h:kindI l e.node=0):kindI (l++[⟨d,e⟩]) e.node=if e.dir=true then 2 else 1:=by
  obtain⟨h0,h1⟩:=kind_free.1 h;unfold kindI;rw[if_neg h0];unfold kindGo nodeAt;rw[List.find?_append,List.find?_eq_none.2 (fun x hx=>by simpa using h1 x hx)];simp
theorem ents_app (l A:List Itm)(q:Int):entsI (l++A) q=entsI l q++entsI A q:=by
  unfold entsI;rw[List.filter_append,List.map_append]
theorem ents_nil {A:List Itm}{q:Int}(h:∀x∈A,x.inn≠q):entsI A q=[]:=by
  unfold entsI;rw[List.filter_eq_nil_iff.2 (fun x hx=>by simpa using h x hx)];rfl
theorem ents_mem {A:List Itm}{q:Int}{e:Ent}:e∈entsI A q↔(⟨q,e⟩:Itm)∈A:=by
  unfold entsI;rw[List.mem_map];constructor
  · rintro⟨x,hx,rfl⟩;rw[List.mem_filter,decide_eq_true_eq]at hx;obtain⟨h1,h2⟩:=hx;subst h2;exact h1
  · intro h;exact⟨⟨q,e⟩,by rw[List.mem_filter];exact⟨h,by simp⟩,rfl⟩
theorem GoodT.noin {l:List Itm}{c:Int}(h:GoodT l c){n:Int}(hn:kindI l n≠2):entsI l n=[]:=ents_nil fun x hx e=>hn (e▸h.inn x hx)
def Fits (l:List Itm)(c d:Int)(e:Ent):Prop:=(1≤e.node∧e.node≤200)∧kindI l e.node=0∧badE e.name e.short=0∧(∀y∈entsI l d,y.name≠e.name)∧(lastI (entsI l d)<e.cookie∧e.cookie<c)∧∀x∈l,x.e.cookie≠e.cookie
instance (l:List Itm) (c d:Int) (e:Ent):Decidable (Fits l c d e):=by unfold Fits;infer_instance
theorem pairwise_snoc {α:Type}{R:α→α→Prop}{l:List α}{x:α}:(l++[x]).Pairwise R↔l.Pairwise R∧∀y∈l,R y x:=by
  rw[List.pairwise_append];simp
theorem GoodT.lastCk {l:List Itm}{c:Int}(h:GoodT l c)(d:Int):0≤lastI (entsI l d)∧∀y∈l,y.inn=d→y.e.cookie≤lastI (entsI l d):=by
  have hr:(entsI l d).Pairwise fun a b=>a.cookie<b.cookie:=by
    unfold entsI;rw[List.pairwise_map];refine List.Pairwise.imp_of_mem ?_ (h.rise.filter _);intro a b ha hb hab;rw[List.mem_filter,decide_eq_true_eq]at ha hb;exact hab.1 (ha.2.trans hb.2.symm)
  have hp:∀y∈entsI l d,1≤y.cookie:=fun y hy=>(h.cook _ (ents_mem.1 hy)).1
  have key:∀l:List Ent,l.Pairwise (fun a b=>a.cookie<b.cookie)→(∀y∈l,1≤y.cookie)→0≤lastI l∧∀y∈l,y.cookie≤lastI l:=by
    intro l hl hl1;unfold lastI;rcases List.eq_nil_or_concat l with rfl|⟨m,z,rfl⟩
    · simp
    · rw[List.concat_eq_append]at *;rw[List.getLast?_append];simp only[List.getLast?_singleton,Option.some_or];obtain⟨h1,h2⟩:=pairwise_snoc.1 hl;refine⟨by have:=hl1 z (by simp);omega,fun y hy=>?_⟩;rcases List.mem_append.1 hy with hy|hy
      · have:=h2 y hy;omega
      · rw[List.mem_singleton]at hy;rw[hy];exact Int.le_refl _
  obtain⟨h1,h2⟩:=key _ hr hp;exact⟨h1,fun y hy hd=>h2 _ (ents_mem.2 (by subst hd;exact hy))⟩
theorem good_snoc {l:List Itm}{c d:Int}{e:Ent}(h:GoodT l c)(hd:kindI l d=2)(hf:Fits l c d e):GoodT (l++[⟨d,e⟩]) c:=by
  obtain⟨⟨f1,f2⟩,f3,f4,f5,⟨f6,f7⟩,f8⟩:=hf;obtain⟨k1,k2⟩:=kind_free.1 f3;have hk:∀n,kindI l n=2→kindI (l++[⟨d,e⟩]) n=2:=fun n hn=>by rw[kind_app (by omega)];exact hn
  obtain⟨g1,g2⟩:=h.lastCk d;have hck:1≤e.cookie:=by omega
  have snoc:∀{P:Itm→Prop},(∀x∈l,P x)→P ⟨d,e⟩→∀x∈l++[⟨d,e⟩],P x:=by
    intro P h1 h2 x hx;rcases List.mem_append.1 hx with hx|hx
    · exact h1 x hx
    · rw[List.mem_singleton]at hx;rw[hx];exact h2
  refine⟨snoc h.node ⟨f1,f2⟩,?_,snoc (fun x hx=>hk _ (h.inn x hx)) (hk _ hd),snoc h.form f4,?_,snoc h.cook ⟨hck,f7⟩,?_,?_,h.nx1⟩
  · unfold nodesI;rw[List.map_append];refine List.nodup_append.2 ⟨h.nd,by simp,?_⟩;intro a ha b hb;rw[List.mem_map]at ha;obtain⟨x,hx,rfl⟩:=ha;simp at hb;rw[hb];exact k2 x hx
  · rw[pairwise_snoc];refine⟨h.names,fun y hy hyd=>f5 y.e (ents_mem.2 ?_)⟩;have hyd':y.inn=d:=hyd;subst hyd';exact hy
  · rw[pairwise_snoc];refine⟨h.rise,fun y hy=>⟨fun hyd=>?_,f8 y hy⟩⟩;have:=g2 y hy hyd;show y.e.cookie<e.cookie
    omega
  · obtain⟨H,hH⟩:=h.low;refine⟨fun m=>if m=e.node.toNat then 0 else H m+1,snoc (fun x hx=>?_) ?_⟩
    · have h1:=h.node x hx;have h2:=k2 x hx;show(if x.e.node.toNat=e.node.toNat then 0 else H x.e.node.toNat+1)<(if x.inn.toNat=e.node.toNat then 0 else H x.inn.toNat+1)
      rw[if_neg (by omega)];have h3:x.inn≠e.node:=fun e2=>by
        have:=h.inn x hx;rw[e2,f3]at this;omega
      have h4:=(h.inn_range hx).1;rw[if_neg (by omega)];have:=hH x hx;omega
    · show(if e.node.toNat=e.node.toNat then 0 else _)<_
      rw[if_pos rfl];have h3:d≠e.node:=fun e2=>by
        rw[e2,f3]at hd;omega
      have h4:0≤d:=by
        apply Classical.byContradiction;intro hc;have:=h.far (d:=d) (by omega);omega
      show 0<(if d.toNat=e.node.toNat then 0 else H d.toNat+1)
      rw[if_neg (by omega)];omega
def fillGo (c:Int)(rec:Int→List Itm×Nat→Bool×(List Itm×Nat))(d:Int):List Ent→List Itm×Nat→Bool×(List Itm×Nat)
  | [],s=>(true,s)
  | e::es,s=>if Fits s.1 c d e then
      (if e.dir=true then(if(rec e.node (s.1++[⟨d,e⟩],s.2)).1=true then fillGo c rec d es (rec e.node (s.1++[⟨d,e⟩],s.2)).2 else(false,(rec e.node (s.1++[⟨d,e⟩],s.2)).2))
       else fillGo c rec d es (s.1++[⟨d,e⟩],s.2))
    else(false,s)
def fillI (G:DirsG)(c:Int):Nat→Int→List Itm×Nat→Bool×(List Itm×Nat)
  | 0,_,s=>(false,s)
  | k+1,d,s=>match G d with
    | none=>(false,s)
    | some es=>fillGo c (fillI G c k) d es (s.1,s.2+1)
def dirNodes (A:List Itm):List Int:=(A.filter fun x=>x.e.dir).map fun x=>x.e.node
theorem dirNodes_app (A B:List Itm):dirNodes (A++B)=dirNodes A++dirNodes B:=by
  unfold dirNodes;rw[List.filter_append,List.map_append]
theorem dirNodes_mem {A:List Itm}{n:Int}:n∈dirNodes A↔∃x∈A,x.e.dir=true∧x.e.node=n:=by
  unfold dirNodes;rw[List.mem_map];constructor
  · rintro⟨x,hx,rfl⟩;rw[List.mem_filter]at hx;exact⟨x,hx.1,hx.2,rfl⟩
  · rintro⟨x,hx,h1,rfl⟩;exact⟨x,by rw[List.mem_filter];exact⟨hx,h1⟩,rfl⟩
def Down:List Int→List Itm→Prop
  | _,[]=>True
  | D,x::A=>x.inn∈D∧Down (if x.e.dir=true then x.e.node::D else D) A
theorem Down.mono:∀{A:List Itm} {D D':List Int},Down D A→(∀q∈D,q∈D')→Down D' A
  | [],_,_,_,_=>trivial
  | x::A,D,D',h,hs=>⟨hs _ h.1,h.2.mono fun q hq=>by
      split at hq
      · rename_i hd;rw[if_pos hd];rcases List.mem_cons.1 hq with h1|h1
        · exact List.mem_cons.2 (Or.inl h1)
        · exact List.mem_cons.2 (Or.inr (hs q h1))
      · rename_i hd;rw[if_neg hd];exact hs q hq⟩
theorem Down.app:∀{A B:List Itm} {D:List Int},Down D A→Down (dirNodes A++D) B→Down D (A++B)
  | [],_,_,_,h=>h
  | x::A,B,D,h,hb=>⟨h.1,h.2.app (hb.mono fun q hq=>by
      rw[List.mem_append]at hq ⊢;rcases hq with hq|hq
      · rw[show x::A=[x]++A from rfl,dirNodes_app,List.mem_append]at hq;rcases hq with hq|hq
        · obtain⟨y,hy,hyd,rfl⟩:=dirNodes_mem.1 hq;rw[List.mem_singleton]at hy;subst hy;right;rw[if_pos hyd];exact List.mem_cons_self
        · exact Or.inl hq
      · right;split
        · exact List.mem_cons.2 (Or.inr hq)
        · exact hq)⟩
theorem Down.inn:∀{A:List Itm} {D:List Int},Down D A→∀x∈A,x.inn∈D∨x.inn∈dirNodes A
  | [],_,_,x,hx=>nomatch hx
  | y::A,D,h,x,hx=>by
    rw[show y::A=[y]++A from rfl,dirNodes_app,List.mem_append];rcases List.mem_cons.1 hx with rfl|hx
    · exact Or.inl h.1
    · rcases h.2.inn x hx with h1|h1
      · split at h1
        · rename_i hd;rcases List.mem_cons.1 h1 with h2|h2
          · exact Or.inr (Or.inl (dirNodes_mem.2 ⟨y,by simp,hd,h2.symm⟩))
          · exact Or.inl h2
        · exact Or.inl h1
      · exact Or.inr (Or.inr h1)
structure Added (G:DirsG)(c d:Int)(l A:List Itm):Prop where
  good:GoodT (l++A) c
  down:Down [d] A
  full:∀q∈dirNodes A,G q=some (entsI A q)
theorem Added.free {G:DirsG}{c d:Int}{l A:List Itm}(h:Added G c d l A){x:Itm}(hx:x∈A):kindI l x.e.node=0:=by
  refine kind_free.2 ⟨?_,fun y hy e=>?_⟩
  · have:=h.good.node x (by simp[hx]);omega
  · have hn:=h.good.nd;unfold nodesI at hn;rw[List.map_append]at hn;exact(List.nodup_append.1 hn).2.2 _ (List.mem_map_of_mem hy) _ (List.mem_map_of_mem hx) e
theorem Added.inn {G:DirsG}{c d:Int}{l A:List Itm}(h:Added G c d l A){x:Itm}(hx:x∈A):x.inn=d∨kindI l x.inn=0:=by
  rcases h.down.inn x hx with h1|h1
  · exact Or.inl (by simpa using h1)
  · obtain⟨y,hy,_,hn⟩:=dirNodes_mem.1 h1;exact Or.inr (by rw[←hn];exact h.free hy)
structure Mid (G:DirsG)(c d:Int)(l P:List Itm)(p:List Ent):Prop where
  add:Added G c d l P
  ents:entsI P d=p
theorem Mid.put {G:DirsG}{c d:Int}{l P:List Itm}{p:List Ent}{e:Ent}(h:Mid G c d l P p)(hd:kindI l d=2)(hf:Fits (l++P) c d e)(he:e.dir≠true):Mid G c d l (P++[⟨d,e⟩]) (p++[e]):=by
  refine⟨⟨?_,?_,fun q hq=>?_⟩,?_⟩
  · rw[←List.append_assoc];exact good_snoc h.add.good (by rw[kind_app (by omega)];exact hd) hf
  · refine h.add.down.app ⟨by simp,?_⟩;trivial
  · rw[dirNodes_app,List.mem_append]at hq;rcases hq with hq|hq
    · obtain⟨y,hy,_,hn⟩:=dirNodes_mem.1 hq;have h1:=h.add.free hy;rw[hn]at h1;rw[ents_app,ents_nil (A:=[⟨d,e⟩]) (fun x hx e2=>by
        rw[List.mem_singleton]at hx;subst hx;have e3:d=q:=e2;rw[←e3,hd]at h1;omega),List.append_nil]
      exact h.add.full q hq
    · obtain⟨y,hy,hyd,_⟩:=dirNodes_mem.1 hq;rw[List.mem_singleton]at hy;subst hy;exact absurd hyd he
  · rw[ents_app,h.ents];simp[entsI]
theorem Mid.sub {G:DirsG}{c d:Int}{l P A:List Itm}{p:List Ent}{e:Ent}(h:Mid G c d l P p)(hd:kindI l d=2)(hf:Fits (l++P) c d e)(he:e.dir=true)(ha:Added G c e.node (l++P++[⟨d,e⟩]) A)(hg:G e.node=some (entsI A e.node)) :
    Mid G c d l (P++[⟨d,e⟩]++A) (p++[e]):=by
  have hfr:=hf.2.1;have hfl:kindI l e.node=0:=by
    obtain⟨h0,h1⟩:=kind_free.1 hfr;exact kind_free.2 ⟨h0,fun x hx=>h1 x (by simp[hx])⟩
  have hde:d≠e.node:=fun e2=>by rw[e2,hfl]at hd;omega
  have hout:∀q,q≠e.node→kindI (l++P++[⟨d,e⟩]) q≠0→entsI A q=[]:=fun q hq hk=>ents_nil fun x hx e2=>by
    rcases ha.inn hx with h1|h1
    · exact hq (e2▸h1)
    · exact hk (e2▸h1)
  have hdk:kindI (l++P++[⟨d,e⟩]) d≠0:=by
    rw[kind_app (l:=l++P) (by rw[kind_app (by omega)];omega),kind_app (by omega)];omega
  have hPn:∀q,kindI (l++P) q=0→entsI (P++[⟨d,e⟩]) q=[]:=fun q hq=>ents_nil fun x hx e2=>by
    rcases List.mem_append.1 hx with hx|hx
    · have h9:=h.add.good.inn x (by simp[hx]);rw[e2,hq]at h9;omega
    · rw[List.mem_singleton]at hx;subst hx;have e3:d=q:=e2;rw[←e3,kind_app (by omega)]at hq;omega
  refine⟨⟨?_,?_,fun q hq=>?_⟩,?_⟩
  · have:=ha.good;simpa[List.append_assoc]using this
  · refine Down.app (Down.app h.add.down ⟨by simp,trivial⟩) (ha.down.mono fun q hq=>?_);rw[List.mem_singleton]at hq;rw[hq,dirNodes_app,List.mem_append,List.mem_append];exact Or.inl (Or.inr (dirNodes_mem.2 ⟨⟨d,e⟩,by simp,he,rfl⟩))
  · rw[dirNodes_app,dirNodes_app,List.mem_append,List.mem_append]at hq;rcases hq with(hq|hq)|hq
    · obtain⟨y,hy,_,hn⟩:=dirNodes_mem.1 hq;have h1:=h.add.free hy;rw[hn]at h1;have h2:kindI (l++P) q≠0:=fun h3=>(kind_free.1 h3).2 y (by simp[hy]) hn
      have hqe:q≠e.node:=fun e2=>h2 (e2▸hfr)
      rw[ents_app,ents_app,ents_nil (A:=[⟨d,e⟩]) (fun x hx e2=>by
        rw[List.mem_singleton]at hx;subst hx;have e3:d=q:=e2;rw[←e3,hd]at h1;omega),List.append_nil,hout q hqe (by rw[kind_app h2];exact h2),List.append_nil]
      exact h.add.full q hq
    · obtain⟨y,hy,_,hn⟩:=dirNodes_mem.1 hq;rw[List.mem_singleton]at hy;subst hy;have e3:e.node=q:=hn;subst e3;rw[ents_app,hPn _ hfr,List.nil_append];exact hg
    · obtain⟨y,hy,_,hn⟩:=dirNodes_mem.1 hq;have h1:=ha.free hy;rw[hn]at h1;have h2:kindI (l++P) q=0:=by
        obtain⟨h0,h3⟩:=kind_free.1 h1;exact kind_free.2 ⟨h0,fun x hx=>h3 x (by simp only[List.mem_append]at hx ⊢;exact Or.inl hx)⟩
      rw[ents_app,hPn q h2,List.nil_append];exact ha.full q hq
  · rw[ents_app,ents_app,h.ents,hout d hde hdk];simp[entsI]
def OkRec (G:DirsG)(c:Int)(rec:Int→List Itm×Nat→Bool×(List Itm×Nat)):Prop:=
  ∀d l f,GoodT l c→kindI l d=2→entsI l d=[]→(rec d (l,f)).1=true→∃A,(rec d (l,f)).2=(l++A,f+1+(dirNodes A).length)∧Added G c d l A∧G d=some (entsI A d)
theorem go_ok {G:DirsG}{c d:Int}{rec:Int→List Itm×Nat→Bool×(List Itm×Nat)}(hrec:OkRec G c rec){l:List Itm}(hd:kindI l d=2)(hl:entsI l d=[]) :
    ∀(es:List Ent) (P:List Itm) (p:List Ent) (f:Nat),Mid G c d l P p→(fillGo c rec d es (l++P,f)).1=true →
      ∃A,(fillGo c rec d es (l++P,f)).2=(l++A,f+(dirNodes A).length-(dirNodes P).length)∧Mid G c d l A (p++es)∧(dirNodes P).length≤(dirNodes A).length
  | [],P,p,f,hm,_=>⟨P,by show(l++P,f)=_;congr 1;omega,by simpa using hm,Nat.le_refl _⟩
  | e::es,P,p,f,hm,ht=>by
    unfold fillGo at ht ⊢;by_cases hf:Fits (l++P) c d e
    · simp only[if_pos hf]at ht ⊢;by_cases he:e.dir=true
      · simp only[if_pos he]at ht ⊢;by_cases hr:(rec e.node (l++P++[⟨d,e⟩],f)).1=true
        · simp only[if_pos hr]at ht ⊢;have hdP:kindI (l++P) d=2:=by rw[kind_app (by omega)];exact hd
          have hg1:=good_snoc hm.add.good hdP hf;have hk1:kindI (l++P++[⟨d,e⟩]) e.node=2:=by rw[kind_put hf.2.1,if_pos he]
          have hn1:entsI (l++P++[⟨d,e⟩]) e.node=[]:=by
            rw[ents_app,hm.add.good.noin (by rw[hf.2.1];decide),List.nil_append];refine ents_nil fun x hx e2=>?_
            rw[List.mem_singleton]at hx;subst hx;have e3:d=e.node:=e2;rw[e3,hf.2.1]at hdP;omega
          obtain⟨A1,h1,h2,h3⟩:=hrec e.node (l++P++[⟨d,e⟩]) f hg1 hk1 hn1 hr;have hm2:=hm.sub hd hf he h2 h3;rw[h1]at ht ⊢;have e9:l++P++[⟨d,e⟩]++A1=l++(P++[⟨d,e⟩]++A1):=by simp[List.append_assoc]
          rw[e9]at ht ⊢;obtain⟨A,h4,h5,h6⟩:=go_ok hrec hd hl es _ _ _ hm2 ht;have hlen:(dirNodes (P++[⟨d,e⟩]++A1)).length=(dirNodes P).length+1+(dirNodes A1).length:=by
            rw[dirNodes_app,dirNodes_app,List.length_append,List.length_append,show dirNodes [(⟨d,e⟩:Itm)]=[e.node] by simp[dirNodes,he]];rfl
          refine⟨A,?_,by simpa[List.append_assoc]using h5,by omega⟩;rw[h4];congr 1;omega
        · simp only[if_neg hr]at ht;cases ht
      · simp only[if_neg he]at ht ⊢;have hm2:=hm.put hd hf he;have e9:l++P++[⟨d,e⟩]=l++(P++[⟨d,e⟩]):=by simp[List.append_assoc]
        rw[e9]at ht ⊢;obtain⟨A,h4,h5,h6⟩:=go_ok hrec hd hl es _ _ _ hm2 ht;have hlen:(dirNodes (P++[⟨d,e⟩])).length=(dirNodes P).length:=by
          rw[dirNodes_app];simp[dirNodes,he]
        refine⟨A,?_,by simpa[List.append_assoc]using h5,by omega⟩;rw[h4,hlen]
    · simp only[if_neg hf]at ht;cases ht
theorem fill_ok (G:DirsG)(c:Int):∀k,OkRec G c (fillI G c k)
  | 0,d,l,f,_,_,_,ht=>by cases ht
  | k+1,d,l,f,hg,hd,hl,ht=>by
    unfold fillI at ht ⊢;cases hG:G d with
    | none=>rw[hG]at ht;cases ht
    | some es =>
      simp only[hG]at ht ⊢;have hm:Mid G c d l [] []:=⟨⟨by simpa using hg,trivial,fun q hq=>nomatch hq⟩,rfl⟩;have e9:l++([]:List Itm)=l:=List.append_nil _;obtain⟨A,h1,h2,h3⟩:=go_ok (fill_ok G c k) hd hl es [] [] (f+1) hm (by rw[e9];exact ht);rw[e9]at h1;refine⟨A,?_,h2.add,by rw[h2.ents,List.nil_append]⟩;rw[h1];congr 1
structure Whole (G:DirsG)(c:Int):Prop where
  ok:∀q es,G q=some es→∀e∈es,badE e.name e.short=0∧1≤e.node∧e.node≤200∧1≤e.cookie∧e.cookie<c∧(G e.node).isSome=e.dir
  rise:∀q es,G q=some es→risingE es
  apart:∀q q' es es',G q=some es→G q'=some es'→∀(i j:Nat) x y,es[i]?=some x→es'[j]?=some y→(q≠q'∨i≠j)→¬clash ⟨q,x⟩ ⟨q',y⟩
def Pre (G:DirsG)(l:List Itm):Prop:=∀q,∃r,(G q).getD []=entsI l q++r
theorem pre_item {G:DirsG}{l:List Itm}(h:Pre G l){y:Itm}(hy:y∈l):∃es i,G y.inn=some es∧es[i]?=some y.e∧i<(entsI l y.inn).length:=by
  have h1:y.e∈entsI l y.inn:=ents_mem.2 hy;obtain⟨i,hi⟩:=List.mem_iff_getElem?.1 h1;have hlt:=(List.getElem?_eq_some_iff.1 hi).1;obtain⟨r,hr⟩:=h y.inn;cases hG:G y.inn with
  | none =>
    rw[hG]at hr;have:entsI l y.inn=[]:=by
      have:=congrArg List.length hr;simp at this;exact List.eq_nil_of_length_eq_zero (by omega)
    rw[this]at hlt;simp at hlt
  | some es =>
    rw[hG]at hr;have hr2:es=entsI l y.inn++r:=hr;exact⟨es,i,rfl,by rw[hr2,List.getElem?_append_left hlt];exact hi,hlt⟩
theorem whole_fits {G:DirsG}{c:Int}(hw:Whole G c){l:List Itm}(hp:Pre G l)(hg:GoodT l c){d:Int}{p es:List Ent}{e:Ent}(hG:G d=some (p++e::es))(he:entsI l d=p):Fits l c d e:=by
  have hpos:(p++e::es)[p.length]?=some e:=by simp
  have hmem:e∈p++e::es:=by simp
  obtain⟨o1,o2,o3,o4,o5,o6⟩:=hw.ok d _ hG e hmem;have hno:∀y∈l,¬clash y (Itm.mk d e):=fun y hy=>by
    obtain⟨es',i,g1,g2,g3⟩:=pre_item hp hy;refine hw.apart y.inn d es' _ g1 hG i p.length y.e e g2 hpos ?_;by_cases hq:y.inn=d
    · right;rw[hq,he]at g3;omega
    · exact Or.inl hq
  have hc:∀y∈l,y.e.node≠e.node∧y.e.cookie≠e.cookie∧(y.inn=d→y.e.name≠e.name):=fun y hy=>by
    have h1:=hno y hy;unfold clash at h1;refine⟨?_,?_,?_⟩
    · exact fun h=>h1 (Or.inl h)
    · exact fun h=>h1 (Or.inr (Or.inl h))
    · exact fun h h2=>h1 (Or.inr (Or.inr (And.intro h h2)))
  unfold Fits;refine⟨⟨o2,o3⟩,kind_free.2 ⟨by omega,fun y hy=>(hc y hy).1⟩,o1,fun y hy=>?_,⟨?_,o5⟩,fun y hy=>(hc y hy).2.1⟩
  · exact(hc _ (ents_mem.1 hy)).2.2 rfl
  · rw[he];unfold lastI;rcases List.eq_nil_or_concat p with rfl|⟨m,z,rfl⟩
    · show 0<e.cookie
      omega
    · rw[List.concat_eq_append]at hG ⊢;rw[List.getLast?_append];simp only[List.getLast?_singleton,Option.some_or];exact hw.rise d _ hG m.length z e (by simp) (by simp)
theorem pre_snoc {G:DirsG}{l:List Itm}(hp:Pre G l){d:Int}{p es:List Ent}{e:Ent}(hG:G d=some (p++e::es))(he:entsI l d=p):Pre G (l++[⟨d,e⟩]):=fun q=>by
  by_cases hq:d=q
  · subst hq;refine⟨es,?_⟩;rw[hG,ents_app,he];simp[entsI]
  · obtain⟨r,hr⟩:=hp q;refine⟨r,?_⟩;rw[ents_app,ents_nil (A:=[⟨d,e⟩]) (fun x hx e2=>by
      rw[List.mem_singleton]at hx;subst hx;exact hq e2),List.append_nil]
    exact hr
def YesRec (G:DirsG)(c:Int)(k:Nat)(rec:Int→List Itm×Nat→Bool×(List Itm×Nat)):Prop:=
  ∀d l f,GoodT l c→kindI l d=2→entsI l d=[]→(G d).isSome=true→Pre G l→201≤l.length+k→(rec d (l,f)).1=true∧Pre G (rec d (l,f)).2.1
theorem go_yes {G:DirsG}{c d:Int}(hw:Whole G c){k:Nat}{rec:Int→List Itm×Nat→Bool×(List Itm×Nat)}(hok:OkRec G c rec)(hrec:YesRec G c k rec) :
    ∀(es:List Ent) (l:List Itm) (p:List Ent) (f:Nat),GoodT l c→kindI l d=2→entsI l d=p→G d=some (p++es)→Pre G l→200≤l.length+k→(fillGo c rec d es (l,f)).1=true∧Pre G (fillGo c rec d es (l,f)).2.1
  | [],l,p,f,hg,hd,he,hG,hp,hk=>⟨rfl,hp⟩
  | e::es,l,p,f,hg,hd,he,hG,hp,hk=>by
    have hf:=whole_fits hw hp hg hG he;have hp1:=pre_snoc hp hG he;have hg1:=good_snoc hg hd hf;have hd1:kindI (l++[⟨d,e⟩]) d=2:=by rw[kind_app (by omega)];exact hd
    have he1:entsI (l++[⟨d,e⟩]) d=p++[e]:=by rw[ents_app,he];simp[entsI]
    have hG1:G d=some (p++[e]++es):=by rw[hG];simp
    have hlen:(l++[(⟨d,e⟩:Itm)]).length=l.length+1:=by simp
    unfold fillGo;simp only[if_pos hf];by_cases hdir:e.dir=true
    · simp only[if_pos hdir];have ho:=(hw.ok d _ hG e (by simp)).2.2.2.2.2;have hk1:kindI (l++[⟨d,e⟩]) e.node=2:=by rw[kind_put hf.2.1,if_pos hdir]
      have hn1:entsI (l++[⟨d,e⟩]) e.node=[]:=by
        rw[ents_app,hg.noin (by rw[hf.2.1];decide),List.nil_append];refine ents_nil fun x hx e2=>?_
        rw[List.mem_singleton]at hx;subst hx;have e3:d=e.node:=e2;rw[e3,hf.2.1]at hd;omega
      obtain⟨r1,r2⟩:=hrec e.node (l++[⟨d,e⟩]) f hg1 hk1 hn1 (by rw[ho];exact hdir) hp1 (by omega);obtain⟨A1,a1,a2,a3⟩:=hok e.node (l++[⟨d,e⟩]) f hg1 hk1 hn1 r1;simp only[if_pos r1];rw[a1]at r2 ⊢;have hde:d≠e.node:=fun e2=>by rw[e2,hf.2.1]at hd;omega
      have hA:entsI A1 d=[]:=ents_nil fun x hx e2=>by
        rcases a2.inn hx with h1|h1
        · exact hde (e2.symm.trans h1)
        · rw[e2,hd1]at h1;omega
      exact go_yes hw hok hrec es _ (p++[e]) _ a2.good (by rw[kind_app (by omega)];exact hd1) (by rw[ents_app,he1,hA,List.append_nil]) hG1 r2 (by rw[List.length_append];omega)
    · simp only[if_neg hdir];exact go_yes hw hok hrec es _ (p++[e]) _ hg1 hd1 he1 hG1 hp1 (by omega)
theorem fill_yes {G:DirsG}{c:Int}(hw:Whole G c):∀k,YesRec G c k (fillI G c k)
  | 0,d,l,f,hg,hd,he,hs,hp,hk=>by
    have:=hg.len;omega
  | k+1,d,l,f,hg,hd,he,hs,hp,hk=>by
    unfold fillI;cases hG:G d with
    | none=>rw[hG]at hs;cases hs
    | some es =>
      simp only;exact go_yes hw (fill_ok G c k) (fill_yes hw k) es l [] (f+1) hg hd he (by rw[hG];rfl) hp (by omega)
end Go.Proofs.YtdmkhmeaphaapaaGreat
namespace Go.Proofs.YtdmkhmeaphaapaaGreat
open Go.RowKit Go.Sort
set_option linter.unusedVariables false
set_option linter.unusedSimpArgs false
def valB (l:List UInt8):Nat:=l.foldl (fun n b=>n*256+b.toNat) 0
theorem val_from (l:List UInt8):∀a:Nat,l.foldl (fun n b=>n*256+b.toNat) a=a*256^l.length+valB l:=by
  induction l with
  | nil=>intro a;simp[valB]
  | cons b l ih =>
    intro a;have h1:=ih (a*256+b.toNat);have h2:=ih (0*256+b.toNat);show l.foldl _ (a*256+b.toNat)=a*256^(l.length+1)+l.foldl _ (0*256+b.toNat)
    rw[h1,h2,Nat.pow_succ];simp only[Nat.zero_mul,Nat.zero_add,Nat.add_mul,Nat.mul_assoc,Nat.mul_comm 256,Nat.add_assoc]
theorem val_cons (b:UInt8)(l:List UInt8):valB (b::l)=b.toNat*256^l.length+valB l:=by
  show l.foldl _ (0*256+b.toNat)=_
  rw[val_from,Nat.zero_mul,Nat.zero_add]
theorem val_lt (l:List UInt8):valB l<256^l.length:=by
  induction l with
  | nil=>decide
  | cons b l ih =>
    rw[val_cons,List.length_cons,Nat.pow_succ];have h:=b.toNat_lt;have h2:b.toNat*256^l.length≤255*256^l.length:=Nat.mul_le_mul_right _ (by omega);omega
theorem beB_add (a m n:Nat):∀k,beB (a*256^(k+m)+n) k=beB n k:=by
  intro k
  induction k generalizing m with
  | zero=>rfl
  | succ k ih =>
    show UInt8.ofNat _::beB _ k=UInt8.ofNat _::beB n k
    have h1:a*256^(k+1+m)=a*256^(k+(m+1)):=by rw[show k+1+m=k+(m+1) by omega]
    rw[h1,ih (m+1)];have h2:(a*256^(k+(m+1))+n)/256^k=n/256^k+a*256^m*256:=by
      rw[Nat.pow_add,show a*(256^k*256^(m+1))=(a*256^m*256)*256^k by rw[Nat.pow_succ];simp only[Nat.mul_assoc,Nat.mul_comm,Nat.mul_left_comm],Nat.add_comm,Nat.add_mul_div_right _ _ (Nat.pow_pos (by decide))]
    rw[h2];congr 1;apply UInt8.toNat_inj.1;rw[u8_of,u8_of,Nat.add_mul_mod_self_right]
theorem beB_val (l:List UInt8):beB (valB l) l.length=l:=by
  induction l with
  | nil=>rfl
  | cons b l ih =>
    rw[val_cons];show UInt8.ofNat _::beB _ l.length=b::l
    have h:=beB_add b.toNat 0 (valB l) l.length;rw[Nat.add_zero]at h;rw[h,ih];congr 1;apply UInt8.toNat_inj.1;have hv:=val_lt l;rw[u8_of,Nat.add_comm,Nat.add_mul_div_right _ _ (Nat.pow_pos (by decide)),Nat.div_eq_of_lt hv,Nat.zero_add];have:=b.toNat_lt;omega
theorem val_beB (n : Nat) : ∀ k, n < 256 ^ k → valB (beB n k) = n := by
  intro k
  induction k generalizing n with
  | zero => intro h; have : n = 0 := by simpa using h
            subst this; rfl
  | succ k ih =>
    intro h
    show valB (UInt8.ofNat _ :: beB n k) = n
    rw [val_cons, u8_of, beB_len]
    have hp : 0 < 256 ^ k := Nat.pow_pos (by decide)
    have hd : n / 256 ^ k < 256 := by
      rw [Nat.div_lt_iff_lt_mul hp]; rw [Nat.pow_succ] at h; omega
    rw [Nat.mod_eq_of_lt hd]
    have h2 : n = n / 256 ^ k * 256 ^ (k + 0) + n % 256 ^ k := by
      rw [Nat.add_zero, Nat.mul_comm]; exact (Nat.div_add_mod n _).symm
    have h3 : beB n k = beB (n % 256 ^ k) k := by
      conv => lhs; rw [h2]
      exact beB_add _ 0 _ k
    rw [h3, ih _ (Nat.mod_lt _ hp), Nat.mul_comm]
    exact Nat.div_add_mod n _
def takeN (k:Nat)(l:List UInt8):Option (Nat×List UInt8):=if k≤l.length then some (rdN k l,l.drop k) else none
theorem rd_val (k:Nat)(l:List UInt8):rdN k l=valB (l.take k):=rfl
theorem takeN_iff {k:Nat}{l:List UInt8}{n:Nat}{r:List UInt8}:takeN k l=some (n,r)↔l=beB n k++r∧n<256^k:=by
  unfold takeN;constructor
  · intro h;split at h
    · rename_i hk;obtain⟨h1,h2⟩:=Prod.mk.inj (Option.some.inj h);have hl:(l.take k).length=k:=by rw[List.length_take];omega
      have e1:=beB_val (l.take k);rw[hl,←rd_val,h1]at e1;have e2:=val_lt (l.take k);rw[hl,←rd_val,h1]at e2;refine⟨?_,e2⟩;rw[e1,←h2,List.take_append_drop]
    · exact absurd h (by simp)
  · rintro⟨rfl,h⟩;rw[if_pos (by rw[List.length_append,beB_len];omega),beB_drop,rd_val,beB_take,val_beB n k h]
def takeB (k:Nat)(l:List UInt8):Option (ByteArray×List UInt8):=if k≤l.length then some (⟨(l.take k).toArray⟩,l.drop k) else none
theorem takeB_iff {k:Nat}{l:List UInt8}{s:ByteArray}{r:List UInt8}:takeB k l=some (s,r)↔l=s.data.toList++r∧s.size=k:=by
  unfold takeB;constructor
  · intro h;split at h
    · rename_i hk;obtain⟨h1,h2⟩:=Prod.mk.inj (Option.some.inj h);subst h1 h2;refine⟨?_,?_⟩
      · show l=(l.take k).toArray.toList++l.drop k
        rw[List.take_append_drop]
      · show(l.take k).toArray.size=k
        rw[List.size_toArray,List.length_take];omega
    · exact absurd h (by simp)
  · rintro⟨rfl,rfl⟩;have hs:s.data.toList.length=s.size:=Array.length_toList;rw[if_pos (by rw[List.length_append,hs];omega),List.take_left' hs,List.drop_left' hs]
def entY (e:Ent):List UInt8:=nameB e.name++(beB e.node.toNat 2++(beB (boolN e.dir) 1++(beB e.cookie.toNat 8++beB e.short.toNat 4)))
def EntOk (e:Ent):Prop:=e.name.size<256∧(0≤e.node∧e.node<65536)∧(0≤e.cookie∧e.cookie<18446744073709551616)∧(0≤e.short∧e.short<4294967296)
def entP (l:List UInt8):Option (Ent×List UInt8):=
  (takeN 1 l).bind fun a=>(takeB a.1 a.2).bind fun s=>(takeN 2 s.2).bind fun n=>(takeN 1 n.2).bind fun d =>
    if 1<d.1 then none else(takeN 8 d.2).bind fun c=>(takeN 4 c.2).bind fun h=>some (⟨s.1,n.1,decide (d.1=1),c.1,h.1⟩,h.2)
theorem entP_iff {l:List UInt8}{e:Ent}{r:List UInt8}:entP l=some (e,r)↔l=entY e++r∧EntOk e:=by
  unfold entP;constructor
  · intro h;obtain⟨⟨a,l1⟩,h1,h⟩:=Option.bind_eq_some_iff.1 h;obtain⟨⟨s,l2⟩,h2,h⟩:=Option.bind_eq_some_iff.1 h;obtain⟨⟨n,l3⟩,h3,h⟩:=Option.bind_eq_some_iff.1 h;obtain⟨⟨d,l4⟩,h4,h⟩:=Option.bind_eq_some_iff.1 h;split at h
    · exact absurd h (by simp)
    · rename_i hd;obtain⟨⟨c,l5⟩,h5,h⟩:=Option.bind_eq_some_iff.1 h;obtain⟨⟨q,l6⟩,h6,h⟩:=Option.bind_eq_some_iff.1 h;obtain⟨g1,g2⟩:=Prod.mk.inj (Option.some.inj h);subst g1 g2;obtain⟨rfl,k1⟩:=takeN_iff.1 h1;obtain⟨e2,rfl⟩:=takeB_iff.1 h2;obtain⟨e3,k3⟩:=takeN_iff.1 h3;obtain⟨e4,k4⟩:=takeN_iff.1 h4;obtain⟨e5,k5⟩:=takeN_iff.1 h5;obtain⟨e6,k6⟩:=takeN_iff.1 h6;simp only at e2 e3 e4 e5 e6 hd k1;subst e2 e3 e4 e5 e6;refine⟨?_,k1,⟨Int.natCast_nonneg _,by show(n:Int)<_;omega⟩,⟨Int.natCast_nonneg _,by show(c:Int)<_;omega⟩,⟨Int.natCast_nonneg _,by show(q:Int)<_;omega⟩⟩;have hb:boolN (decide (d=1))=d:=by
        unfold boolN;have:d=0∨d=1:=by omega
        rcases this with rfl|rfl<;>rfl
      unfold entY nameB;simp only[Int.toNat_natCast,hb,List.append_assoc]
  · rintro⟨rfl,k1,⟨k2,k3⟩,⟨k4,k5⟩,⟨k6,k7⟩⟩;obtain⟨s,n,d,c,q⟩:=e;simp only at k1 k2 k3 k4 k5 k6 k7;obtain⟨n,rfl⟩:∃m:Nat,n=m:=⟨n.toNat,by omega⟩;obtain⟨c,rfl⟩:∃m:Nat,c=m:=⟨c.toNat,by omega⟩;obtain⟨q,rfl⟩:∃m:Nat,q=m:=⟨q.toNat,by omega⟩;unfold entY nameB;simp only[Int.toNat_natCast,List.append_assoc];have hb:boolN d<2:=by unfold boolN;split<;>omega
    rw[takeN_iff.2 ⟨rfl,k1⟩];simp only[Option.bind_some];rw[takeB_iff.2 ⟨rfl,rfl⟩];simp only[Option.bind_some];rw[takeN_iff.2 ⟨rfl,by omega⟩];simp only[Option.bind_some];rw[takeN_iff.2 ⟨rfl,by omega⟩];simp only[Option.bind_some];rw[if_neg (by omega),takeN_iff.2 ⟨rfl,by omega⟩];simp only[Option.bind_some];rw[takeN_iff.2 ⟨rfl,by omega⟩];simp only[Option.bind_some];cases d<;>rfl
def manyP {α:Type}(P:List UInt8→Option (α×List UInt8)):Nat→List UInt8→Option (List α×List UInt8)
  | 0,l=>some ([],l)
  | n+1,l=>(P l).bind fun x=>(manyP P n x.2).bind fun y=>some (x.1::y.1,y.2)
theorem manyP_iff {α:Type}{P:List UInt8→Option (α×List UInt8)}{B:α→List UInt8}{ok:α→Prop}
    (hP:∀l x r,P l=some (x,r)↔l=B x++r∧ok x):∀{n:Nat} {l:List UInt8} {xs:List α} {r:List UInt8},
    manyP P n l=some (xs,r)↔l=xs.flatMap B++r∧xs.length=n∧∀x∈xs,ok x:=by
  intro n
  induction n with
  | zero =>
    intro l xs r;constructor
    · intro h;obtain⟨rfl,rfl⟩:=Prod.mk.inj (Option.some.inj h);exact⟨rfl,rfl,fun _ h=>absurd h (by simp)⟩
    · rintro⟨rfl,h,_⟩;obtain rfl:=List.eq_nil_of_length_eq_zero h;rfl
  | succ n ih =>
    intro l xs r;unfold manyP;constructor
    · intro h;obtain⟨⟨x,l1⟩,h1,h⟩:=Option.bind_eq_some_iff.1 h;obtain⟨⟨ys,l2⟩,h2,h⟩:=Option.bind_eq_some_iff.1 h;obtain⟨rfl,rfl⟩:=Prod.mk.inj (Option.some.inj h);obtain⟨rfl,o1⟩:=(hP _ _ _).1 h1;obtain⟨e2,rfl,o2⟩:=ih.1 h2;simp only at e2;subst e2;refine⟨by simp only[List.flatMap_cons,List.append_assoc],rfl,fun y hy=>?_⟩;rcases List.mem_cons.1 hy with rfl|hy
      · exact o1
      · exact o2 y hy
    · rintro⟨rfl,h,o⟩;obtain _|⟨x,ys⟩:=xs
      · exact absurd h (by simp)
      · rw[List.flatMap_cons,List.append_assoc,(hP _ x _).2 ⟨rfl,o x (List.mem_cons_self ..)⟩];simp only[Option.bind_some];rw[ih.2 ⟨rfl,by simpa using h,fun y hy=>o y (List.mem_cons_of_mem _ hy)⟩];rfl
def dirsB (d:Int×List Ent):List UInt8:=beB d.1.toNat 2++(beB d.2.length 2++d.2.flatMap entY)
def DirOk (d:Int×List Ent):Prop:=(0≤d.1∧d.1<65536)∧d.2.length<65536∧∀e∈d.2,EntOk e
def dirP (l:List UInt8):Option ((Int×List Ent)×List UInt8):=
  (takeN 2 l).bind fun q=>(takeN 2 q.2).bind fun n=>(manyP entP n.1 n.2).bind fun es=>some (((q.1:Int),es.1),es.2)
theorem dirP_iff {l:List UInt8}{d:Int×List Ent}{r:List UInt8}:dirP l=some (d,r)↔l=dirsB d++r∧DirOk d:=by
  unfold dirP;constructor
  · intro h;obtain⟨⟨q,l1⟩,h1,h⟩:=Option.bind_eq_some_iff.1 h;obtain⟨⟨n,l2⟩,h2,h⟩:=Option.bind_eq_some_iff.1 h;obtain⟨⟨es,l3⟩,h3,h⟩:=Option.bind_eq_some_iff.1 h;obtain⟨rfl,rfl⟩:=Prod.mk.inj (Option.some.inj h);obtain⟨rfl,k1⟩:=takeN_iff.1 h1;obtain⟨e2,k2⟩:=takeN_iff.1 h2;obtain⟨e3,rfl,o⟩:=(manyP_iff fun l x r=>entP_iff).1 h3;simp only at e2 e3;subst e2 e3;refine⟨?_,⟨Int.natCast_nonneg _,by show(q:Int)<_;omega⟩,k2,o⟩;unfold dirsB;simp only[Int.toNat_natCast,List.append_assoc]
  · rintro⟨rfl,⟨k1,k2⟩,k3,o⟩;obtain⟨q,es⟩:=d;simp only at k1 k2 k3 o;obtain⟨q,rfl⟩:∃m:Nat,q=m:=⟨q.toNat,by omega⟩;unfold dirsB;simp only[Int.toNat_natCast,List.append_assoc];rw[takeN_iff.2 ⟨rfl,by omega⟩];simp only[Option.bind_some];rw[takeN_iff.2 ⟨rfl,by omega⟩];simp only[Option.bind_some];rw[(manyP_iff fun l x r=>entP_iff).2 ⟨rfl,rfl,o⟩];rfl
def imgB (nx:Int)(ds:List (Int×List Ent)):List UInt8:=beB nx.toNat 8++(beB ds.length 2++ds.flatMap dirsB)
def ImgOk (nx:Int)(ds:List (Int×List Ent)):Prop:=(0≤nx∧nx<18446744073709551616)∧ds.length<65536∧∀d∈ds,DirOk d
def imgP (l:List UInt8):Option (Int×List (Int×List Ent)):=
  (takeN 8 l).bind fun c=>(takeN 2 c.2).bind fun n=>(manyP dirP n.1 n.2).bind fun ds=>if ds.2=[] then some ((c.1:Int),ds.1) else none
theorem imgP_iff {l:List UInt8}{nx:Int}{ds:List (Int×List Ent)}:imgP l=some (nx,ds)↔l=imgB nx ds∧ImgOk nx ds:=by
  unfold imgP;constructor
  · intro h;obtain⟨⟨c,l1⟩,h1,h⟩:=Option.bind_eq_some_iff.1 h;obtain⟨⟨n,l2⟩,h2,h⟩:=Option.bind_eq_some_iff.1 h;obtain⟨⟨ys,l3⟩,h3,h⟩:=Option.bind_eq_some_iff.1 h;split at h
    · rename_i hl;obtain⟨rfl,rfl⟩:=Prod.mk.inj (Option.some.inj h);obtain⟨rfl,k1⟩:=takeN_iff.1 h1;obtain⟨e2,k2⟩:=takeN_iff.1 h2;obtain⟨e3,rfl,o⟩:=(manyP_iff fun l x r=>dirP_iff).1 h3;simp only at e2 e3 hl;subst e2 e3 hl;refine⟨?_,⟨Int.natCast_nonneg _,by show(c:Int)<_;omega⟩,k2,o⟩;unfold imgB;simp only[Int.toNat_natCast,List.append_nil]
    · exact absurd h (by simp)
  · rintro⟨rfl,⟨k1,k2⟩,k3,o⟩;obtain⟨c,rfl⟩:∃m:Nat,nx=m:=⟨nx.toNat,by omega⟩;unfold imgB;simp only[Int.toNat_natCast];rw[takeN_iff.2 ⟨rfl,by omega⟩];simp only[Option.bind_some];rw[takeN_iff.2 ⟨rfl,by omega⟩];simp only[Option.bind_some];rw[(manyP_iff (r:=[]) fun l x r=>dirP_iff).2 ⟨by rw[List.append_nil],rfl,o⟩];rfl
theorem img_inj {a b:Int}{ds es:List (Int×List Ent)}(ha:ImgOk a ds)(hb:ImgOk b es)(h:imgB a ds=imgB b es):a=b∧ds=es:=by
  have h1:=imgP_iff.2 ⟨rfl,ha⟩;have h2:=imgP_iff.2 ⟨h,hb⟩;rw[h1]at h2;exact Prod.mk.inj (Option.some.inj h2)
def entsLen (ds:List (Int×List Ent)):Nat:=(ds.map fun d=>d.2.length).sum
theorem entY_len (e:Ent)(h:e.name.size<256):(entY e).length≤271:=by
  unfold entY;simp only[List.length_append,beB_len,nameB_len];omega
theorem ents_len (es:List Ent)(h:∀e∈es,e.name.size<256):(es.flatMap entY).length≤271*es.length:=by
  induction es with
  | nil=>simp
  | cons e es ih =>
    have h1:=entY_len e (h e (List.mem_cons_self ..));have h2:=ih fun x hx=>h x (List.mem_cons_of_mem _ hx)
    rw[List.flatMap_cons,List.length_append,List.length_cons];omega
theorem dirs_len (ds:List (Int×List Ent))(h:∀d∈ds,∀e∈d.2,e.name.size<256):(ds.flatMap dirsB).length≤4*ds.length+271*entsLen ds:=by
  induction ds with
  | nil=>simp[entsLen]
  | cons d ds ih =>
    have h1:=ents_len d.2 (h d (List.mem_cons_self ..));have h2:=ih fun x hx=>h x (List.mem_cons_of_mem _ hx)
    have h3:entsLen (d::ds)=d.2.length+entsLen ds:=rfl;have h4:(dirsB d).length=4+(d.2.flatMap entY).length:=by
      unfold dirsB;simp only[List.length_append,beB_len];omega
    rw[List.flatMap_cons,List.length_append,List.length_cons,h3,h4];omega
theorem img_len (nx:Int)(ds:List (Int×List Ent))(h:∀d∈ds,∀e∈d.2,e.name.size<256)(h1:ds.length≤201)(h2:entsLen ds≤200):(imgB nx ds).length≤60000:=by
  have h3:=dirs_len ds h;unfold imgB;simp only[List.length_append,beB_len];omega
end Go.Proofs.YtdmkhmeaphaapaaGreat
namespace Go.Proofs.YtdmkhmeaphaapaaGreat
open Go.RowKit Go.Sort
def EntFit (e:Ent):Prop:=EntOk e∧e.cookie≤9223372036854775807
def DirFit (d:Int×List Ent):Prop:=DirOk d∧∀e∈d.2,e.cookie≤9223372036854775807
theorem DirFit.ent {d:Int×List Ent}(h:DirFit d){e:Ent}(he:e∈d.2):EntFit e:=⟨h.1.2.2 e he,h.2 e he⟩
end Go.Proofs.YtdmkhmeaphaapaaGreat
namespace Go.Proofs.YtdmkhmeaphaapaaGreat
open Go.RowKit Go.Sort
set_option linter.unusedVariables false
set_option linter.unusedSimpArgs false
abbrev IW:TypeId:=197
theorem hasIW:HasBld IW 0:=⟨by decide,by kernel_rfl⟩
theorem FrB.drew {T:TypeId}(w:World):FrB T w w.drew:=fun T0 _ _=>KeptT.below (Below.drew (Below.refl _ _))
theorem FrB.alloc {T:TypeId}(w:World)(o:Obj):FrB T w (w.alloc o):=fun T0 _ _=>KeptT.alloc o
theorem FrB.below {T:TypeId}{w w':World}(h:Below w.heap.size w w'):FrB T w w':=fun T0 _ _=>KeptT.below h
theorem row_fr {T T0:TypeId}{w w':World}(hf:FrB T w w')(h8:T0≠5)(hT:T0≠T){B c n:Nat}{v:Value}{xs:List Value}(h:w.ownsRow B T0 c v n xs):w'.ownsRow B T0 c v n xs:=
  ownsRow_same h fun g hg=>by
    obtain⟨cur,hc⟩:=ownsRow_typ h hg;rw[hc,hf T0 h8 hT _ _ _ hc]
structure EntW (w:World)(B b q:Nat)(x:Ent)(u:List UInt8)(W:World):Prop where
  d:W.heap[q]?=some (.cells #[.string x.name,.int .i64 x.node,.bool x.dir,.int .i64 x.cookie,.int .i64 x.short] 112 (0,0))
  wr:WrB IW B b (Lib.byteCells u) W
  b:Below B w W
  f:FrB IW w W
  s:B≤W.heap.size
section
variable {w W W':World}{B b q:Nat}{x:Ent}{u:List UInt8}
theorem EntW.step (h:EntW w B b q x u W){u':List UInt8}{e:Ending}(hp:WrPost IW B b W u' e W'):e=.returned (.tuple #[])∧EntW w B b q x u' W':=by
  obtain⟨he,hw,hb,hf⟩:=hp;exact⟨he,hf _ (by decide) (by decide) _ _ _ h.d,hw,h.b.trans hb,h.f.trans hf,Nat.le_trans h.s hb.size⟩
theorem EntW.drew (h:EntW w B b q x u W):EntW w B b q x u W.drew:=
  ⟨h.d,h.wr.below (Below.drew (Below.refl _ _)),Below.drew h.b,h.f.trans (FrB.drew W),h.s⟩
theorem EntW.num (h:EntW w B b q x u W)(z kk:Int)(k:Nat)(hk:kk=(k:Int))(hk8:k≤8)(hz:0≤z∧z≤9223372036854775807)(hu:u.length≤1000000) :
    Calls Tryz.prog 75 #[ptV b,.int .i64 z,.int .i64 kk] W fun e w'=>e=.returned (.tuple #[])∧EntW w B b q x (u++beB z.toNat k) w':=by
  subst hk;have h9:=number_c hasIW B b z.toNat k u W h.wr (by omega) hk8 hu h.s;rw[show((z.toNat:Nat):Int)=z by omega]at h9;exact h9.mono fun e w' hp=>h.step hp
theorem EntW.name (h:EntW w B b q x u W)(s:ByteArray)(hs:s.size≤255)(hu:u.length≤999000) :
    Calls Tryz.prog 76 #[ptV b,.string s] W fun e w'=>e=.returned (.tuple #[])∧EntW w B b q x (u++nameB s) w':=
  (wname_c hasIW B b s u W h.wr hs hu h.s).mono fun e w' hp=>h.step hp
theorem EntW.flag (h:EntW w B b q x u W)(t:Bool)(hu:u.length≤999000) :
    Calls Tryz.prog 77 #[ptV b,.bool t] W fun e w'=>e=.returned (.tuple #[])∧EntW w B b q x (u++beB (boolN t) 1) w':=
  (wflag_c hasIW B b t u W h.wr hu h.s).mono fun e w' hp=>h.step hp
end
set_option maxHeartbeats 8000000 in
theorem wentry_c (B b:Nat)(x:Ent)(l:List UInt8)(w:World)(h:WrB IW B b (Lib.byteCells l) w)(hx:EntFit x)(hl:l.length≤900000)(hB:B≤w.heap.size) :
    Calls Tryz.prog 154 #[ptV b,entV x] w (WrPost IW B b w (l++entY x)):=by
  unfold WrPost;obtain⟨L,hL⟩:∃L,l++entY x=L:=⟨_,rfl⟩;rw[hL];unfold entY at hL;obtain⟨⟨k1,⟨k2,k3⟩,⟨k4,k5⟩,⟨k6,k7⟩⟩,k8⟩:=hx;obtain⟨s,n,d,c,q0⟩:=x;unfold entV;simp only at hL k1 k2 k3 k4 k5 k6 k7 k8 ⊢;have HL:=Lib.hid hL;clear hL;have HE:Hid (EntW w B b w.heap.size ⟨s,n,d,c,q0⟩ l (w.alloc (.cells #[.string s,.int .i64 n,.bool d,.int .i64 c,.int .i64 q0] 112))):=Lib.hid
    ⟨heap_alloc_new _ _,h.below ((Below.refl _ _).alloc (Nat.le_refl _) _),(Below.refl _ _).alloc hB _,FrB.alloc _ _,by simp;omega⟩
  clear h hB;go_enter Tryz.func154,Tryz.ntmps154;go_upto_region 1 with fail;generalize (w.alloc (.cells #[.string s,.int .i64 n,.bool d,.int .i64 c,.int .i64 q0] 112))=W0 at *;generalize w.heap.size=q at *;have hcs:=five_cells HE.out.d;obtain⟨⟨c0,c1,c2,c3,c4⟩,_⟩:=hcs;go_still_tail 5,(by kernel_rfl);change wpList _ _ _ _ _ W0.drew;have HE:=Lib.hid HE.out.drew;generalize W0.drew=W1 at *;obtain⟨⟨c0,c1,c2,c3,c4⟩,_⟩:=five_cells HE.out.d;go_wp2_with (go_at_call 76;(with_reducible refine(HE.out.name _ (by omega) (by omega)).mono ?_);rintro e w2 ⟨rfl,he⟩;have HE:=Lib.hid he;clear he);clear c0 c1 c2 c3 c4;have hcs:=five_cells HE.out.d;obtain⟨⟨c0,c1,c2,c3,c4⟩,_⟩:=hcs;go_still_tail 5,(by kernel_rfl);change wpList _ _ _ _ _ w2.drew;have HE:=Lib.hid HE.out.drew;generalize w2.drew=W2 at *;obtain⟨⟨c0,c1,c2,c3,c4⟩,_⟩:=five_cells HE.out.d;go_wp2_with (go_at_call 75;(with_reducible refine(HE.out.num _ 2 2 rfl (by omega) (by omega) (by simp only[List.length_append,beB_len,nameB_len];omega)).mono ?_);rintro e w3 ⟨rfl,he⟩;have HE:=Lib.hid he;clear he);clear c0 c1 c2 c3 c4;have hcs:=five_cells HE.out.d;obtain⟨⟨c0,c1,c2,c3,c4⟩,_⟩:=hcs;go_still_tail 5,(by kernel_rfl);change wpList _ _ _ _ _ w3.drew;have HE:=Lib.hid HE.out.drew;generalize w3.drew=W3 at *;obtain⟨⟨c0,c1,c2,c3,c4⟩,_⟩:=five_cells HE.out.d;go_wp2_with (go_at_call 77;(with_reducible refine(HE.out.flag _ (by simp only[List.length_append,beB_len,nameB_len];omega)).mono ?_);rintro e w4 ⟨rfl,he⟩;have HE:=Lib.hid he;clear he);clear c0 c1 c2 c3 c4;have hcs:=five_cells HE.out.d;obtain⟨⟨c0,c1,c2,c3,c4⟩,_⟩:=hcs;go_still_tail 5,(by kernel_rfl);change wpList _ _ _ _ _ w4.drew;have HE:=Lib.hid HE.out.drew;generalize w4.drew=W4 at *;obtain⟨⟨c0,c1,c2,c3,c4⟩,_⟩:=five_cells HE.out.d;go_wp2_with (go_at_call 75;(with_reducible refine(HE.out.num _ 8 8 rfl (by omega) (by omega) (by simp only[List.length_append,beB_len,nameB_len];omega)).mono ?_);rintro e w5 ⟨rfl,he⟩;have HE:=Lib.hid he;clear he);clear c0 c1 c2 c3 c4;have hcs:=five_cells HE.out.d;obtain⟨⟨c0,c1,c2,c3,c4⟩,_⟩:=hcs;go_still_tail 5,(by kernel_rfl);change wpList _ _ _ _ _ w5.drew;have HE:=Lib.hid HE.out.drew;generalize w5.drew=W5 at *;obtain⟨⟨c0,c1,c2,c3,c4⟩,_⟩:=five_cells HE.out.d;go_wp2_with (go_at_call 75;(with_reducible refine(HE.out.num _ 4 4 rfl (by omega) (by omega) (by simp only[List.length_append,beB_len,nameB_len];omega)).mono ?_);rintro e w6 ⟨rfl,he⟩;have HE:=Lib.hid he;clear he);go_end0;refine⟨rfl,?_,HE.out.b,HE.out.f⟩;have h9:=HE.out.wr;rw[←HL.out];simp only[List.append_assoc]at h9;exact h9
end Go.Proofs.YtdmkhmeaphaapaaGreat
namespace Go.Proofs.YtdmkhmeaphaapaaGreat
open Go.RowKit Go.Sort
set_option linter.unusedVariables false
set_option linter.unusedSimpArgs false
structure DirW (w:World)(B b q:Nat)(d:Int)(v:Value)(B2:Nat)(es:List Ent)(u:List UInt8)(W:World):Prop where
  d:W.heap[q]?=some (.cells #[.int .i64 d,v] 200 (0,0))
  es:W.ownsRow B2 112 5 v es.length (es.flatMap entC)
  wr:WrB IW B b (Lib.byteCells u) W
  b:Below B w W
  f:FrB IW w W
  s:B≤W.heap.size
section
variable {w W W':World}{B b q B2:Nat}{d:Int}{v:Value}{es:List Ent}{u:List UInt8}
theorem DirW.step (h:DirW w B b q d v B2 es u W){u':List UInt8}{e:Ending}(hp:WrPost IW B b W u' e W'):e=.returned (.tuple #[])∧DirW w B b q d v B2 es u' W':=by
  obtain⟨he,hw,hb,hf⟩:=hp;exact⟨he,hf _ (by decide) (by decide) _ _ _ h.d,row_fr (T:=IW) (T0:=112) hf (by decide) (by decide) h.es,hw,h.b.trans hb,h.f.trans hf,Nat.le_trans h.s hb.size⟩
theorem DirW.drew (h:DirW w B b q d v B2 es u W):DirW w B b q d v B2 es u W.drew:=
  ⟨h.d,row_fr (T:=IW) (T0:=112) (FrB.drew W) (by decide) (by decide) h.es,h.wr.below (Below.drew (Below.refl _ _)),Below.drew h.b,h.f.trans (FrB.drew W),h.s⟩
theorem DirW.num (h:DirW w B b q d v B2 es u W)(z kk:Int)(k:Nat)(hk:kk=(k:Int))(hk8:k≤8)(hz:0≤z∧z≤9223372036854775807)(hu:u.length≤1000000) :
    Calls Tryz.prog 75 #[ptV b,.int .i64 z,.int .i64 kk] W fun e w'=>e=.returned (.tuple #[])∧DirW w B b q d v B2 es (u++beB z.toNat k) w':=by
  subst hk;have h9:=number_c hasIW B b z.toNat k u W h.wr (by omega) hk8 hu h.s;rw[show((z.toNat:Nat):Int)=z by omega]at h9;exact h9.mono fun e w' hp=>h.step hp
theorem DirW.cells (h:DirW w B b q d v B2 es u W):W.cell? ⟨q,0,none⟩=some (.int .i64 d)∧W.cell? ⟨q,1,none⟩=some v:=⟨Lib.cell_of_heap h.d 0,Lib.cell_of_heap h.d 1⟩
theorem DirW.post (h:DirW w B b q d v B2 es u W):WrB IW B b (Lib.byteCells u) W∧Below B w W∧FrB IW w W:=⟨h.wr,h.b,h.f⟩
end
theorem flatB_take {α:Type}{f:α→List UInt8}{es:List α}{i:Nat}{x:α}(h:es[i]?=some x):(es.take (i+1)).flatMap f=(es.take i).flatMap f++f x:=by
  rw[take_snoc h,List.flatMap_append];simp
theorem flatB_take_le {α:Type}(f:α→List UInt8)(es:List α)(i:Nat):((es.take i).flatMap f).length≤(es.flatMap f).length:=by
  conv=>rhs;rw[←List.take_append_drop i es,List.flatMap_append,List.length_append]
  omega
set_option maxHeartbeats 8000000 in
theorem wdir_c (B b:Nat)(d:Int)(v:Value)(B2:Nat)(es:List Ent)(l:List UInt8)(w:World)(h:WrB IW B b (Lib.byteCells l) w)(hr:w.ownsRow B2 112 5 v es.length (es.flatMap entC))(hd:DirFit (d,es))(hl:l.length+(dirsB (d,es)).length≤900000)(hB:B≤w.heap.size) :
    Calls Tryz.prog 113 #[ptV b,.agg #[.int .i64 d,v]] w (WrPost IW B b w (l++dirsB (d,es))):=by
  unfold WrPost;obtain⟨L,hL⟩:∃L,l++dirsB (d,es)=L:=⟨_,rfl⟩;have hlen:(es.flatMap entY).length≤900000-l.length-4:=by
    unfold dirsB at hl;simp only[List.length_append,beB_len]at hl;omega
  have hl4:l.length≤899996:=by
    unfold dirsB at hl;simp only[List.length_append,beB_len]at hl;omega
  rw[hL];unfold dirsB at hL;obtain⟨⟨k1,k2⟩,k3,_⟩:=hd.1;simp only at hL k1 k2 k3;obtain⟨a,cap,rfl⟩:∃a cap,v=.slice a es.length cap:=(LstIs.own (entC_len _) hr rfl).len;obtain⟨n,hn⟩:∃n,es.length=n:=⟨_,rfl⟩;have HE:Hid (DirW w B b w.heap.size d (.slice a es.length cap) B2 es l (w.alloc (.cells #[.int .i64 d,.slice a es.length cap] 200))):=Lib.hid
    ⟨heap_alloc_new _ _,hr.alloc _,h.below ((Below.refl _ _).alloc (Nat.le_refl _) _),(Below.refl _ _).alloc hB _,FrB.alloc _ _,by simp;omega⟩
  have HD:=Lib.hid hd;have HL:=Lib.hid hL;have HLN:=Lib.hid hlen;have HN:=Lib.hid hn;have HAT:Hid (∀(W:World) (i:Nat) (x:Ent),W.ownsRow B2 112 5 (.slice a n cap) es.length (es.flatMap entC)→es[i]?=some x→∃g off,a=some ⟨g,off,none⟩∧g<W.heap.size∧W.rangeAt g (off+i*5) (entC x)):=Lib.hid fun W i x hW hi=>LstIs.at (LstIs.own (entC_len _) hW rfl) hi
  rw[hn]at HE k3 ⊢;have hnL:beB es.length 2=beB n 2:=by rw[hn]
  have HNL:=Lib.hid hnL;clear h hB hL hr hd hn hl hlen hnL;go_enter Tryz.func113,Tryz.ntmps113;go_upto_region 1 with fail;generalize (w.alloc (.cells #[.int .i64 d,.slice a n cap] 200))=W0 at *;generalize w.heap.size=q at *;obtain⟨c0,c1⟩:=HE.out.cells;go_still_tail 5,(by kernel_rfl);change wpList _ _ _ _ _ W0.drew;have HE:=Lib.hid HE.out.drew;generalize W0.drew=W1 at *;obtain⟨c0,c1⟩:=HE.out.cells;go_wp2_with (go_at_call 75;(with_reducible refine(HE.out.num _ 2 2 rfl (by omega) (by omega) (by omega)).mono ?_);rintro e w2 ⟨rfl,he⟩;have HE:=Lib.hid he;clear he);clear c0 c1;obtain⟨c0,c1⟩:=HE.out.cells;go_still_tail 6,(by kernel_rfl);change wpList _ _ _ _ _ w2.drew;have HE:=Lib.hid HE.out.drew;generalize w2.drew=W2 at *;clear c0 c1;obtain⟨c0,c1⟩:=HE.out.cells;go_wp2_with (go_at_call 75;(with_reducible refine(HE.out.num _ 2 2 rfl (by omega) (by omega) (by simp only[List.length_append,beB_len];omega)).mono ?_);rintro e w3 ⟨rfl,he⟩;have HE:=Lib.hid he;clear he;obtain⟨c0,c1⟩:=HE.out.cells);have HP:=Lib.hid HE.out.post;have HES:=Lib.hid HE.out.es;have HS:=Lib.hid HE.out.s;clear HE c0 c1;rw[Int.toNat_natCast]at HP;go_loopw [22] (fun iv wr=>∃i:Nat,i≤n∧iv=.int .i64 i∧WrB IW B b (Lib.byteCells (l++beB d.toNat 2++beB n 2++(es.take i).flatMap entY)) wr∧Below B w wr∧FrB IW w wr∧FrB IW w3 wr∧B≤wr.heap.size) (fun iv _=>n-(intOf iv).toNat)
  case atStart=>exact⟨0,by omega,rfl,by simpa using HP.out.1,HP.out.2.1,HP.out.2.2,FrB.refl _,HS.out⟩
  case round =>
    obtain⟨i,hi,rfl,hw,hb,hf,hf3,hs⟩:=hrel;have HW:=Lib.hid hw;have HB:=Lib.hid hb;have HF:=Lib.hid hf;have HF3:=Lib.hid hf3;have HSS:=Lib.hid hs;clear hw hb hf hf3 hs;by_cases him:i<n
    · have hiz:(i:Int)<(n:Int):=by omega
      have hi0:(0:Int)≤(i:Int):=by omega
      obtain⟨x,hx⟩:∃x,es[i]?=some x:=⟨_,List.getElem?_eq_getElem (by rw[HN.out];omega)⟩;have hES:wr.ownsRow B2 112 5 (.slice a n cap) es.length (es.flatMap entC):=row_fr (T:=IW) (T0:=112) HF3.out (by decide) (by decide) HES.out;obtain⟨g,off,rfl,hg,hr⟩:=HAT.out wr i x hES hx;obtain⟨d0,d1,d2,d3,d4⟩:=ent_at hr;have HFX:=Lib.hid (HD.out.ent (List.mem_of_getElem? hx));have HTK:=Lib.hid (flatB_take (f:=entY) hx);have hle:=flatB_take_le entY es i;have hln:((l++beB d.toNat 2++beB n 2)++(es.take i).flatMap entY).length≤900000:=by
        have:=HLN.out;simp only[List.length_append,beB_len];omega
      have cE:Hid (∀W,Below wr.heap.size wr W→Calls Tryz.prog 154 #[ptV b,entV x] W (WrPost IW B b W (l++beB d.toNat 2++beB n 2++(es.take (i+1)).flatMap entY))):=Lib.hid fun W hW=>by
        have h9:=wentry_c B b x (l++beB d.toNat 2++beB n 2++(es.take i).flatMap entY) W (HW.out.below hW) HFX.out hln (Nat.le_trans HSS.out hW.size);rw[HTK.out,←List.append_assoc];exact h9
      unfold WrPost entV at cE;clear hr hES hle hln hx;obtain⟨nm,nd,dr,ck,sh⟩:=x;simp only at d0 d1 d2 d3 d4;simp only at cE;have HBA:Hid (Below wr.heap.size wr (wr.alloc (.cells #[.string nm,.int .i64 nd,.bool dr,.int .i64 ck,.int .i64 sh] 112))):=Lib.hid ((Below.refl _ _).alloc (Nat.le_refl _) _);go_wp2_with (go_at_call 154;refine(cE.out _ HBA.out).mono ?_;rintro e w5 ⟨rfl,h5,hb5,hf5⟩;have H5:=Lib.hid h5;have HB5:=Lib.hid hb5;have HF5:=Lib.hid hf5;clear h5 hb5 hf5);go_roundw
      case rel=>exact⟨i+1,by omega,by first|rfl|go_num,H5.out,(HB.out.trans (HBA.out.mono HSS.out)).trans HB5.out,(HF.out.trans (FrB.below HBA.out)).trans HF5.out,(HF3.out.trans (FrB.below HBA.out)).trans HF5.out,Nat.le_trans HSS.out (Nat.le_trans HBA.out.size HB5.out.size)⟩
      case measure=>simp[intOf];omega
    · have hiz:¬(i:Int)<(n:Int):=by omega
      have HA:Hid (es.take i=es):=Lib.hid (List.take_of_length_le (by rw[HN.out];omega));go_wp2;go_end0;refine⟨rfl,?_,HB.out,HF.out⟩;have h9:=HW.out;rw[HA.out]at h9;rw[←HL.out,HNL.out];simp only[List.append_assoc]at h9;exact h9
end Go.Proofs.YtdmkhmeaphaapaaGreat
