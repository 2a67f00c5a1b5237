/- Kit. -/
import Derived.Test.YtdmkhmeaphaapaaGreatCZ15
import Derived.Test.YtdmkhmeaphaapaaGreatCZ0
import Derived.Test.YtdmkhmeaphaapaaGreatCZ12
import Derived.Test.YtdmkhmeaphaapaaGreatCZ10
set_option maxRecDepth 100000
set_option linter.unusedVariables false
set_option linter.unusedSimpArgs false
namespace Go.Proofs.YtdmkhmeaphaapaaGreat
open Go.RowKit Go.Sort
theorem Om {x y:Az}(h:clash x y):clash y x:=by
 unfold clash at *;rcases h with h|h|⟨h,h2⟩
 · exact Or.inl h.symm
 · exact Or.inr (Or.inl h.symm)
 · exact Or.inr (Or.inr (And.intro h.symm h2.symm))
theorem We (all:List Az):XI all all.length↔all.Pairwise fun a b=>¬clash a b:=by
 rw[List.pairwise_iff_getElem];unfold XI;constructor
 · intro h i j hi hj hij;exact h j i _ _ hj hij (Co hj) (Co hi)
 · intro h j k x y hj hk hx hy;obtain⟨h1,h2⟩:=DL.1 hx;obtain⟨h3,h4⟩:=DL.1 hy;rw[←h2,←h4];exact h k j h3 h1 hk
theorem PE {G:Cw}{keys:List Int}{x:Az}:x∈allI G keys↔x.BD∈keys∧x.e∈(G x.BD).getD []:=by
 unfold allI;rw[List.mem_flatMap];constructor
 · rintro⟨q,hq,hx⟩;rw[CG]at hx;obtain⟨e,he,rfl⟩:=hx;exact⟨hq,he⟩
 · rintro⟨h1,h2⟩;exact⟨x.BD,h1,CG.2 ⟨x.e,h2,rfl⟩⟩
def xR (G:Cw)(keys:List Int):Prop:=∀q,(G q).isSome=true→q∈keys
theorem PW {G:Cw}{keys:List Int}(hs:xR G keys){q:Int}:q∈Jv G keys↔(G q).isSome=true:=by
 unfold Jv;rw[List.mem_filter];exact⟨fun h=>h.2,fun h=>⟨hs q h,h⟩⟩
theorem Yz {α:Type}{R:α→α→Prop}{l:List α}(h:l.Pairwise R)(Aci:∀a b,R a b→R b a){a b:α}(ha:a∈l)(hb:b∈l)(hne:a≠b):R a b:=by
 obtain⟨i,hi,rfl⟩:=List.mem_iff_getElem.1 ha;obtain⟨j,hj,rfl⟩:=List.mem_iff_getElem.1 hb;rw[List.pairwise_iff_getElem]at h;have hij:i≠j:=fun e=>hne (by subst e;rfl)
 rcases Nat.lt_or_gt_of_ne hij with h1|h1
 · exact h i j hi hj h1
 · exact Aci _ _ (h j i hj hi h1)
theorem Q6 {G:Cw}{c:Int}{keys:List Int}(h:eG c G keys)(hs:xR G keys):Whole G c:=by
 have hap:=(We _).1 h.apart;unfold allI at hap;rw[List.pairwise_flatMap]at hap;obtain⟨a1,a2⟩:=hap;refine⟨fun q es hG e he=>?_,fun q es hG=>h.rise q (hs q (by rw[hG];rfl)) es hG,fun q q' es es' hG hG' i j x y hx hy hne=>?_⟩
 · have hx:(⟨q,e⟩:Az)∈allI G keys:=PE.2 ⟨hs q (by rw[hG];rfl),by show e∈(G q).getD [];rw[hG];exact he⟩;obtain⟨o1,o2,o3,o4,o5,o6⟩:=h.ok _ hx;refine⟨o1,o2,o3,o4,o5,?_⟩;rw[←o6,Bool.eq_iff_iff,LU];exact(PW hs).symm
 · by_cases hq:q=q'
   · subst hq;rw[hG]at hG';obtain rfl:=BS hG';have hij:i≠j:=hne.resolve_left (fun h=>h rfl);have h1:=a1 q (hs q (by rw[hG];rfl));rw[hG]at h1;simp only[Option.getD_some]at h1;rw[List.pairwise_map,List.pairwise_iff_getElem]at h1;obtain⟨i1,i2⟩:=DL.1 hx;obtain⟨j1,j2⟩:=DL.1 hy;rw[←i2,←j2];rcases Nat.lt_or_gt_of_ne hij with h2|h2
     · exact h1 i j i1 j1 h2
     · exact fun hc=>h1 j i j1 i1 h2 (Om hc)
   · have h1:=Yz a2 (fun a b hab x hx y hy hc=>hab y hy x hx (Om hc)) (hs q (by rw[hG];rfl)) (hs q' (by rw[hG'];rfl)) hq;refine h1 ⟨q,x⟩ (CG.2 ⟨x,?_,rfl⟩) ⟨q',y⟩ (CG.2 ⟨y,?_,rfl⟩)
     · rw[hG];exact CU hx
     · rw[hG'];exact CU hy
theorem TC {c:Int}(hc:1≤c):Aq [] c:=Qg.mono hc
theorem VW {A:List Az}{c:Int}(h:Aq A c):(0::Bp A).Nodup:=by
 refine List.nodup_cons.2 ⟨fun h0=>?_,?_⟩
 · obtain⟨x,hx,_,hn⟩:=Dj.1 h0;have:=h.node x hx;omega
 · have hn:=h.nd;unfold ET at hn;unfold Bp;exact hn.sublist (List.filter_sublist.map _)
abbrev Fx (G:Cw)(c:Int):Bool×(List Az×Nat):=Gs G c 202 0 ([],0)
theorem Og {G:Cw}{c:Int}(hc:1≤c)(h:(Fx G c).1=true):∃A,(Fx G c).2=(A,1+(Bp A).length)∧Aq A c∧Down [0] A∧∀q∈0::Bp A,G q=some (Ak A q):=by
 obtain⟨A,h1,h2,h3⟩:=RD G c 202 0 [] 0 (TC hc) rfl rfl h;refine⟨A,by rw[show(Fx G c).2=_ from h1];rw[G5,Gh],by have:=h2.good;rwa[G5]at this,h2.down,fun q hq=>?_⟩;rcases Em.1 hq with rfl|hq
 · exact h3
 · exact h2.full q hq
theorem nH {l m:List Int}(hl:l.Nodup)(hs:∀x∈l,x∈m)(hlen:m.length≤l.length):∀x∈m,x∈l:=fun x hx=>by
 apply Js;intro hn;have:=EF (x::l) m (List.nodup_cons.2 ⟨hn,hl⟩) (fun y hy=>by
  rcases Em.1 hy with rfl|hy
  · exact hx
  · exact hs y hy)
 simp at this;omega
theorem YM {G:Cw}{c:Int}{keys:List Int}(h:eG c G keys)(hs:xR G keys)(hnd:keys.Nodup):(Fx G c).1=true∧(Fx G c).2.2=(Jv G keys).length:=by
 have hw:=Q6 h hs;have h0:=(PW hs).1 h.root;obtain⟨r1,_⟩:=Zl hw 202 0 [] 0 (TC h.pos) rfl rfl h0 (fun q=>⟨(G q).getD [],rfl⟩) (by decide);refine⟨r1,?_⟩;obtain⟨A,h1,hg,hd,hf⟩:=Og h.pos r1;rw[h1];have hD:∀q∈0::Bp A,q∈Jv G keys:=fun q hq=>(PW hs).2 (by rw[hf q hq];rfl)
 have hR:∀t,Reach (allI G keys) t→t∈0::Bp A:=by
  intro t ht
  induction ht with
  | root=>exact List.mem_cons_self
  | step hr hx hdx ih =>
   have h2:=(PE.1 hx).2;rw[hf _ ih]at h2;exact List.mem_cons_of_mem _ (Dj.2 ⟨_,FJ.1 h2,hdx,rfl⟩)
 have hT:∀t∈Jv G keys,t∈0::Bp A:=fun t ht=>hR t (h.reach t ht)
 have n1:=EF _ _ (VW hg) hD;have n2:=EF (Jv G keys) _ (hnd.filter _) hT;simp only[List.length_cons]at n1 n2;show 1+(Bp A).length=_
 omega
theorem bY {A:List Az}{c:Int}(h:Aq A c):A.Pairwise fun a b=>¬clash a b:=by
 have hn:=h.nd;unfold ET at hn;rw[List.Nodup,List.pairwise_map]at hn;refine((hn.and h.names).and h.rise).imp ?_;rintro a b ⟨⟨h1,h2⟩,h3⟩ hc;unfold clash at hc;rcases hc with hc|hc|⟨hc,hc2⟩
 · exact h1 hc
 · exact h3.2 hc
 · exact h2 hc hc2
theorem kD {A:List Az}{c:Int}(h:Aq A c)(q:Int):WO (Ak A q):=by
 have hp:(Ak A q).Pairwise fun a b=>a.Al<b.Al:=by
  unfold Ak;rw[List.pairwise_map];refine List.Pairwise.imp_of_mem ?_ (h.rise.filter _);intro a b ha hb hab;rw[List.mem_filter,LU]at ha hb;exact hab.1 (ha.2.trans hb.2.symm)
 rw[List.pairwise_iff_getElem]at hp;intro i x y hx hy;obtain⟨i1,i2⟩:=DL.1 hx;obtain⟨j1,j2⟩:=DL.1 hy;rw[←i2,←j2];exact hp i (i+1) i1 j1 (Nat.lt_succ_self i)
theorem Jo {l:List Az}{q:Int}:q∈AR l↔(∃n:Nat,n≤200∧q=(n:Int))∧AP l q=2:=by
 unfold AR Cb;rw[List.mem_filter,CG,LU];constructor
 · rintro⟨⟨n,hn,rfl⟩,h⟩;rw[List.mem_range]at hn;exact⟨⟨n,by omega,rfl⟩,h⟩
 · rintro⟨⟨n,hn,rfl⟩,h⟩;exact⟨⟨n,List.mem_range.2 (by omega),rfl⟩,h⟩
theorem J8 (l:List Az):(AR l).Nodup:=by
 unfold AR Cb;refine List.Pairwise.filter _ ?_;rw[List.pairwise_map];refine List.Pairwise.imp ?_ List.nodup_range;intro a b h e;exact h (Int.ofNat.inj e)
theorem Aq.XA {l:List Az}{c:Int}(h:Aq l c){q:Int}:q∈AR l↔AP l q=2:=by
 rw[Jo];refine⟨fun h=>h.2,fun h2=>⟨⟨q.toNat,?_,?_⟩,h2⟩⟩
 · apply Js;intro hc;have:=h.far (d:=q) (by omega);omega
 · apply Js;intro hc;have:=h.far (d:=q) (by omega);omega
def Nr (l:List Az):Cw:=fun q=>if q∈AR l then some (Ak l q) else none
theorem SQ (l:List Az):xR (Nr l) (AR l):=fun q h=>by
 unfold Nr at h;split at h
 · assumption
 · cases h
theorem KC (l:List Az):Jv (Nr l) (AR l)=AR l:=by
 unfold Jv;rw[List.filter_eq_self];intro q hq;unfold Nr;rw[if_pos hq];rfl
theorem Aq.Xg {l:List Az}{c:Int}(h:Aq l c){x:Az}(hx:x∈l):AP l x.e.node=if x.e.dir=true then 2 else 1:=by
 have h1:=h.node x hx;unfold AP;rw[if_neg (by omega)];unfold Cu;rw[Ld h hx]
theorem jw {l:List Az}{c:Int}(h:Aq l c):∀x∈l,Reach l x.BD:=by
 obtain⟨H,hH⟩:=h.low;obtain⟨M,hM⟩:∃M,∀x∈l,H x.BD.toNat≤M:=by
  clear h hH
  induction l with
  | nil=>exact⟨0,fun x hx=>nomatch hx⟩
  | cons y r ih =>
   obtain⟨M,hM⟩:=ih;refine⟨M+H y.BD.toNat,fun x hx=>?_⟩;rcases Em.1 hx with rfl|hx
   · omega
   · have:=hM x hx;omega
 have key:∀k x,x∈l→M-H x.BD.toNat<k→Reach l x.BD:=by
  intro k
  induction k with
  | zero=>intro x hx hk;omega
  | succ k ih =>
   intro x hx hk;have h2:=h.BD x hx;by_cases h0:x.BD=0
   · rw[h0];exact Reach.root
   · unfold AP at h2;rw[if_neg h0]at h2;unfold Cu at h2;cases hn:nodeAt l x.BD with
     | none=>rw[hn]at h2;cases h2
     | some y =>
      rw[hn]at h2;obtain⟨y1,y2⟩:=F4 hn;have qy:y.e.dir=true:=by
       simp only at h2;split at h2
       · assumption
       · cases h2
      rw[←y2];refine Reach.step (ih y y1 ?_) y1 qy;have h3:=hH y y1;have h4:=hM y y1;rw[y2]at h3;omega
 exact fun x hx=>key _ x hx (Nat.lt_succ_self _)
theorem O4 {l:List Az}{c:Int}(h:Aq l c){x:Az}:x∈allI (Nr l) (AR l)↔x∈l:=by
 rw[PE];unfold Nr;constructor
 · rintro⟨h1,h2⟩;rw[if_pos h1]at h2;exact FJ.1 h2
 · intro hx;have h1:x.BD∈AR l:=h.XA.2 (h.BD x hx);exact⟨h1,by rw[if_pos h1];exact FJ.2 hx⟩
theorem SS {l:List Az}{c:Int}(h:Aq l c):eG c (Nr l) (AR l):=by
 have hroot:(0:Int)∈AR l:=h.XA.2 rfl;have hap:=bY h;refine⟨fun q hq m hG=>?_,h.Ml,by rw[KC];exact hroot,fun x hx=>?_,(We _).2 ?_,fun t ht=>?_⟩
 · unfold Nr at hG;rw[if_pos hq]at hG;rw[←BS hG];exact kD h q
 · have hx2:=(O4 h).1 hx;rw[KC];refine⟨h.form x hx2,(h.node x hx2).1,(h.node x hx2).2,(h.Ho x hx2).1,(h.Ho x hx2).2,?_⟩;rw[Bool.eq_iff_iff,LU,h.XA,h.Xg hx2];cases x.e.dir<;>simp
 · unfold allI;rw[List.pairwise_flatMap];refine⟨fun q hq=>?_,?_⟩
   · unfold Nr;rw[if_pos hq];simp only[Option.getD_some];unfold Ak;rw[List.pairwise_map,List.pairwise_map];refine List.Pairwise.imp_of_mem ?_ (hap.filter _);intro a b ha hb hab;rw[List.mem_filter,LU]at ha hb;have e1:(⟨q,a.e⟩:Az)=a:=by rw[←ha.2]
     have e2:(⟨q,b.e⟩:Az)=b:=by rw[←hb.2]
     rw[e1,e2];exact hab
   · refine(J8 l).imp_of_mem ?_;intro a b ha hb hab x hx y hy;rw[CG]at hx hy;obtain⟨ex,hx,rfl⟩:=hx;obtain⟨ey,hy,rfl⟩:=hy;have m1:=(O4 h).1 (show(⟨a,ex⟩:Az)∈allI (Nr l) (AR l) from PE.2 ⟨ha,hx⟩);have m2:=(O4 h).1 (show(⟨b,ey⟩:Az)∈allI (Nr l) (AR l) from PE.2 ⟨hb,hy⟩);exact Yz hap (fun _ _ h hc=>h (Om hc)) m1 m2 (fun e=>hab (Gu Az.BD e))
 · rw[KC]at ht;have hk:=h.XA.1 ht;have hr:∀x∈l,Reach (allI (Nr l) (AR l)) x.BD:=fun x hx=>by
    have h9:=jw h x hx;generalize x.BD=q at h9
    induction h9 with
    | root=>exact Reach.root
    | step _ hx hd ih=>exact Reach.step ih ((O4 h).2 hx) hd
   unfold AP at hk;split at hk
   · rename_i h0;rw[h0];exact Reach.root
   · unfold Cu at hk;cases hn:nodeAt l t with
     | none=>rw[hn]at hk;cases hk
     | some y =>
      rw[hn]at hk;obtain⟨y1,y2⟩:=F4 hn;have qy:y.e.dir=true:=by
       simp only at hk;split at hk
       · assumption
       · cases hk
      rw[←y2];exact Reach.step (hr y y1) ((O4 h).2 y1) qy
structure Twin (l l':List Az):Prop where
 Fy:∀q,Ak l' q=Ak l q
theorem Twin.mem {l l':List Az}(h:Twin l l'){x:Az}:x∈l'↔x∈l:=by
 have h1:=FJ (A:=l') (q:=x.BD) (e:=x.e);have h2:=FJ (A:=l) (q:=x.BD) (e:=x.e);rw[h.Fy]at h1;exact h1.symm.trans h2
theorem Twin.len {l l':List Az}{c c':Int}(h:Twin l l')(hg:Aq l c)(hg':Aq l' c'):l'.length=l.length:=by
 have h1:=EF (ET l') (ET l) hg'.nd (fun n hn=>by
  unfold ET at hn ⊢;obtain⟨x,hx,rfl⟩:=CG.1 hn;exact List.mem_map_of_mem (h.mem.1 hx))
 have h2:=EF (ET l) (ET l') hg.nd (fun n hn=>by
  unfold ET at hn ⊢;obtain⟨x,hx,rfl⟩:=CG.1 hn;exact List.mem_map_of_mem (h.mem.2 hx))
 unfold ET at h1 h2;simp only[List.length_map]at h1 h2;omega
theorem Twin.kind {l l':List Az}{c c':Int}(h:Twin l l')(hg:Aq l c)(hg':Aq l' c')(n:Int):AP l' n=AP l n:=by
 by_cases h0:AP l n=0
 · rw[h0];obtain⟨h1,h2⟩:=EW.1 h0;exact EW.2 ⟨h1,fun x hx=>h2 x (h.mem.1 hx)⟩
 · by_cases hn:n=0
   · subst hn;rfl
   · have h3:=h0;unfold AP at h3;rw[if_neg hn]at h3;unfold Cu at h3;cases ha:nodeAt l n with
     | none=>rw[ha]at h3;exact absurd rfl h3
     | some y =>
      obtain⟨y1,y2⟩:=F4 ha;rw[←y2,hg.Xg y1,hg'.Xg (h.mem.2 y1)]
theorem QT {l l':List Az}(h:∀n,AP l' n=AP l n):∀k n,F8 l' k n=F8 l k n
 | 0,_=>rfl
 | k+1,n=>by
  unfold F8;rw[h,QT h k (n+1)]
theorem Twin.link {l l':List Az}{c c' nx:Int}(h:Twin l l')(hg:Aq l c)(hg':Aq l' c')(d:Int)(s:ByteArray)(Bg:Bool)(sh:Int) :
 (D7 l' nx d s Bg sh).2=(D7 l nx d s Bg sh).2∧(D7 l' nx d s Bg sh).1.2=(D7 l nx d s Bg sh).1.2∧Twin (D7 l nx d s Bg sh).1.1 (D7 l' nx d s Bg sh).1.1:=by
 have hk:=h.kind hg hg';have e1:A9 l' d=A9 l d:=by unfold A9;rw[hk]
 have e2:BK l' d s=BK l d s:=by unfold BK D6;rw[e1,h.Fy]
 have e3:Hl l'=Hl l:=QT hk 200 1;unfold D7;rw[e1,e2,e3];split
 · exact⟨rfl,rfl,h⟩
 · split
   · exact⟨rfl,rfl,h⟩
   · split
     · exact⟨rfl,rfl,h⟩
     · split
       · exact⟨rfl,rfl,h⟩
       · refine⟨rfl,rfl,⟨fun q=>?_⟩⟩;show Ak (Dq l' nx d _) q=Ak (Dq l nx d _) q
         unfold Dq;rw[Dh,Dh,h.Fy]
theorem oO {l:List Az}{c:Int}(h:Aq l c):∃l',(Fx (Nr l) c)=(true,(l',(AR l).length))∧Aq l' c∧Twin l l':=by
 obtain⟨h1,h2⟩:=YM (SS h) (SQ l) (J8 l);obtain⟨A,a1,a2,a3,a4⟩:=Og h.Ml h1;rw[KC]at h2;refine⟨A,?_,a2,⟨fun q=>?_⟩⟩
 · rw[a1]at h2;have h3:1+(Bp A).length=(AR l).length:=h2;exact Prod.ext h1 (by rw[a1,h3])
 · have hD:∀q∈0::Bp A,q∈AR l:=fun q hq=>SQ l q (by rw[a4 q hq];rfl)
   have hT:=nH (VW a2) hD (by rw[a1]at h2;have h3:1+(Bp A).length=(AR l).length:=h2;simp only[List.length_cons];omega);by_cases hq:q∈AR l
   · have h5:=a4 q (hT q hq);unfold Nr at h5;rw[if_pos hq]at h5;exact(BS h5).symm
   · have h6:Ak l q=[]:=h.wh fun hk=>hq (h.XA.2 hk)
     rw[h6];refine F9 fun x hx e=>hq ?_
     rcases a3.BD x hx with h7|h7
     · rw[Cn]at h7;rw[←e,h7];exact hD 0 List.mem_cons_self
     · rw[←e];exact hD _ (List.mem_cons_of_mem _ h7)
def AU (l:List Az):List (Int×List Br):=(AR l).map fun q=>(q,Ak l q)
def BG (l:List Az)(nx:Int):List UInt8:=N8 nx (AU l)
theorem ZH {s:ByteArray}{sh:Int}(h:Ec s sh=0):s.size<256∧0≤sh∧sh≤1000000:=by
 unfold Ec at h;split at h
 · rename_i hg;split at h
   · exact absurd h (by decide)
   · refine⟨?_,by omega,by omega⟩;unfold Hg at hg;simp only[Bool.and_eq_true,decide_eq_true_eq]at hg;have:=hg.2.2.1;omega
 · exact absurd h (by decide)
theorem dw (l:List Az):(AR l).Pairwise (·<·):=by
 unfold AR Cb;refine List.Pairwise.filter _ ?_;rw[List.pairwise_map];exact List.Pairwise.imp (fun h=>Int.ofNat_lt.2 h) List.pairwise_lt_range
theorem J7 {l:List Az}{q:Int}(h:q∈AR l):0≤q∧q≤200:=by
 unfold AR Cb at h;rw[List.mem_filter,CG]at h;obtain⟨⟨n,hn,rfl⟩,_⟩:=h;have:=List.mem_range.1 hn;show(0:Int)≤(n:Int)∧(n:Int)≤200
 omega
theorem rC (l:List Az):∀ds:List Int,ds.Pairwise (·<·)→(ds.map fun q=>(Ak l q).length).sum≤l.length:=by
 induction l with
 | nil =>
  intro ds _;have:∀ds:List Int,(ds.map fun q=>(Ak [] q).length).sum=0:=fun ds=>by
   induction ds with
   | nil=>rfl
   | cons q ds ih=>rw[List.map_cons,List.sum_cons,ih];rfl
  rw[this];exact Nat.zero_le _
 | cons x l ih =>
  intro ds hd;have h1:=ih ds hd;have h2:∀es:List Int,es.Pairwise (·<·)→(es.map fun q=>(Ak (x::l) q).length).sum≤(es.map fun q=>(Ak l q).length).sum+(if x.BD∈es then 1 else 0):=by
   intro es
   induction es with
   | nil=>intro _;simp
   | cons q es ih2 =>
    intro he;obtain⟨he1,he2⟩:=List.pairwise_cons.1 he;have h3:=ih2 he2;rw[List.map_cons,List.sum_cons,List.map_cons,List.sum_cons];have h4:(Ak (x::l) q).length=(Ak l q).length+if x.BD=q then 1 else 0:=by
     unfold Ak;rw[List.filter_cons];by_cases hq:x.BD=q
     · rw[if_pos (A8 hq),if_pos hq];rfl
     · rw[if_neg (by simpa using hq),if_neg hq];rfl
    rw[h4];by_cases hq:x.BD=q
    · have hn:x.BD∉es:=fun hm=>by have:=he1 _ hm;omega
      rw[if_neg hn]at h3;rw[if_pos hq,if_pos (by rw[hq];exact List.mem_cons_self ..)];omega
    · rw[if_neg hq];have:(x.BD∈q::es)=(x.BD∈es):=by
       rw[Em,eq_iff_iff];exact⟨fun h=>h.resolve_left hq,Or.inr⟩
      simp only[this];omega
  have h3:=h2 ds hd;rw[GY];split at h3<;>omega
theorem Xk {l:List Az}{nx:Int}(h:Aq l nx)(hx:nx<18446744073709551616):ZN nx (AU l):=by
 have hl:=h.len;refine⟨⟨by have:=h.Ml;omega,hx⟩,?_,fun d hd=>?_⟩
 · unfold AU;rw[DW];have:=Gn l 201;show(Cb l 201).length<_
   omega
 · unfold AU at hd;obtain⟨q,hq,rfl⟩:=CG.1 hd;have hq2:=J7 hq;refine⟨⟨hq2.1,by show q<_;omega⟩,?_,fun e he=>?_⟩
   · have:=IK l q;show(Ak l q).length<_
     omega
   · obtain⟨x,hx2,_,rfl⟩:=Dz.1 he;have h1:=ZH (h.form x hx2);have h2:=h.node x hx2;have h3:=h.Ho x hx2;exact⟨h1.1,⟨by omega,by omega⟩,⟨by omega,by omega⟩,⟨h1.2.1,by omega⟩⟩
theorem Jm {l:List Az}{nx:Int}(h:Aq l nx):(BG l nx).length≤60000:=by
 refine wQ nx (AU l) (fun d hd e he=>?_) ?_ ?_
 · unfold AU at hd;obtain⟨q,hq,rfl⟩:=CG.1 hd;obtain⟨x,hx2,_,rfl⟩:=Dz.1 he;exact(ZH (h.form x hx2)).1
 · unfold AU;rw[DW];exact Gn l 201
 · unfold Nc AU;rw[List.map_map];exact Ao (rC l _ (dw l)) h.len
theorem YY {l l':List Az}{nx:Int}(h:Aq l nx)(h':Aq l' nx)(ht:Twin l l'):BG l' nx=BG l nx:=by
 have hd:AR l'=AR l:=by
  unfold AR Cb;congr 1;funext q;rw[ht.kind h h' q]
 unfold BG AU;rw[hd];congr 1;exact List.map_congr_left fun q _=>by rw[ht.Fy]
theorem VS (l:List Az)(d:Int)(s:ByteArray)(q:Int):Ak (Bu l d s) q=(Ak l q).filter fun e=>!(decide (q=d)&&decide (e.name=s)):=by
 unfold Ak Bu;rw[List.filter_map,List.filter_filter,List.filter_filter];congr 1;refine List.filter_congr fun x _=>?_
 by_cases h:x.BD=q
 · subst h;simp
 · simp[h]
theorem Twin.refl (l:List Az):Twin l l:=⟨fun _=>rfl⟩
theorem Twin.symm {l l':List Az}(h:Twin l l'):Twin l' l:=⟨fun q=>(h.Fy q).symm⟩
theorem Twin.trans {a b c:List Az}(h:Twin a b)(h':Twin b c):Twin a c:=⟨fun q=>(h'.Fy q).trans (h.Fy q)⟩
theorem Twin.drop {l l':List Az}(h:Twin l l')(d:Int)(s:ByteArray):Twin (Bu l d s) (Bu l' d s):=⟨fun q=>by rw[VS,VS,h.Fy]⟩
theorem Twin.put {l l':List Az}(h:Twin l l')(nx d:Int)(e:Br):Twin (Dq l nx d e) (Dq l' nx d e):=⟨fun q=>by
 unfold Dq;rw[Dh,Dh,h.Fy]⟩
section
variable {l l':List Az}{c c':Int}
theorem Twin.node (h:Twin l l')(hg:Aq l c)(hg':Aq l' c')(n:Int):nodeAt l' n=nodeAt l n:=by
 cases ha:nodeAt l n with
 | some y =>
  obtain⟨y1,rfl⟩:=F4 ha;exact Ld hg' (h.mem.2 y1)
 | none =>
  cases hb:nodeAt l' n with
  | none=>rfl
  | some y =>
   obtain⟨y1,rfl⟩:=F4 hb;rw[Ld hg (h.mem.1 y1)]at ha;exact absurd ha (by simp)
theorem Twin.loop (h:Twin l l')(hg:Aq l c)(hg':Aq l' c')(x:Int):∀k n,loopGo l' x k n=loopGo l x k n
 | 0,_=>rfl
 | k+1,n=>by
  unfold loopGo EH;rw[h.node hg hg',Twin.loop h hg hg' x k]
theorem Twin.A9 (h:Twin l l')(hg:Aq l c)(hg':Aq l' c')(d:Int):Go.Proofs.YtdmkhmeaphaapaaGreat.A9 l' d=Go.Proofs.YtdmkhmeaphaapaaGreat.A9 l d:=by
 unfold Go.Proofs.YtdmkhmeaphaapaaGreat.A9;rw[h.kind hg hg']
theorem Twin.find (h:Twin l l')(hg:Aq l c)(hg':Aq l' c')(d:Int)(s:ByteArray):BK l' d s=BK l d s:=by
 unfold BK D6;rw[h.A9 hg hg',h.Fy]
theorem Twin.unlink (h:Twin l l')(hg:Aq l c)(hg':Aq l' c')(nx d:Int)(s:ByteArray)(Bg:Bool) :
 (BM l' nx d s Bg).2=(BM l nx d s Bg).2∧(BM l' nx d s Bg).1.2=(BM l nx d s Bg).1.2∧Twin (BM l nx d s Bg).1.1 (BM l' nx d s Bg).1.1:=by
 unfold BM;rw[h.find hg hg',Lj,Lj,h.Fy];split
 · exact⟨rfl,rfl,h⟩
 · split
   · exact⟨rfl,rfl,h⟩
   · split
     · exact⟨rfl,rfl,h⟩
     · split
       · exact⟨rfl,rfl,h⟩
       · exact⟨rfl,rfl,h.drop d s⟩
theorem Twin.move (h:Twin l l')(hg:Aq l c)(hg':Aq l' c')(nx d:Int)(s:ByteArray)(dt:Int)(ns:ByteArray)(sh:Int) :
 (D5 l' nx d s dt ns sh).2=(D5 l nx d s dt ns sh).2∧(D5 l' nx d s dt ns sh).1.2=(D5 l nx d s dt ns sh).1.2∧Twin (D5 l nx d s dt ns sh).1.1 (D5 l' nx d s dt ns sh).1.1:=by
 unfold D5;rw[h.find hg hg',h.find hg hg',h.A9 hg hg',h.loop hg hg'];split
 · exact⟨rfl,rfl,h⟩
 · split
   · exact⟨rfl,rfl,h⟩
   · split
     · exact⟨rfl,rfl,h⟩
     · split
       · exact⟨rfl,rfl,h⟩
       · split
         · exact⟨rfl,rfl,h⟩
         · exact⟨rfl,rfl,(h.drop d s).put nx dt _⟩
theorem Twin.do (h:Twin l l')(hg:Aq l c)(hg':Aq l' c')(nx:Int)(o:yU) :
 (UB l' nx o).2=(UB l nx o).2∧(UB l' nx o).1.2=(UB l nx o).1.2∧Twin (UB l nx o).1.1 (UB l' nx o).1.1:=by
 unfold UB;split
 · exact h.link hg hg' _ _ _ _
 · split
   · have:=h.unlink hg hg' nx o.d o.s o.Bg;exact⟨by rw[this.1],this.2.1,this.2.2⟩
   · have:=h.move hg hg' nx o.d o.s o.dt o.ns o.sh;exact⟨by rw[this.1],this.2.1,this.2.2⟩
end
theorem kF {l:List Az}{nx:Int}(h:Aq l nx)(d:Int)(s:ByteArray)(Bg:Bool)(sh:Int):Aq (D7 l nx d s Bg sh).1.1 (D7 l nx d s Bg sh).1.2:=by
 unfold D7;split
 · exact h
 · rename_i h1;split
   · exact h
   · rename_i h2;split
     · exact h
     · rename_i h3;split
       · exact h
       · rename_i h4;obtain⟨n,rfl,hn,hk⟩:=h.dir (Classical.not_not.1 h1);have h5:=VN l 200 1;have h6:1≤Hl l∧Hl l≤200:=by
          unfold Hl at h4 ⊢;omega
         exact h.link (Classical.not_not.1 h1) (Classical.not_not.1 h2) h3 h6.1 h6.2 (TD l h4)
theorem Ze {l:List Az}{nx:Int}(h:Aq l nx)(d:Int)(s:ByteArray)(Bg:Bool):Aq (BM l nx d s Bg).1.1 (BM l nx d s Bg).1.2:=by
 unfold BM;split
 · exact h
 · rename_i h1;split
   · exact h
   · split
     · exact h
     · split
       · exact h
       · rename_i h4;obtain⟨f1,f2,f3,f4⟩:=found (Classical.not_not.1 h1);have h5:=h.unlink f3 (by
          rw[Lj,LU]at h4;exact Kw (Nat.eq_zero_of_not_pos h4))
         simp only[f4]at h5;exact h5
theorem kE {l:List Az}{nx:Int}(h:Aq l nx)(d:Int)(s:ByteArray)(dt:Int)(ns:ByteArray)(sh:Int):Aq (D5 l nx d s dt ns sh).1.1 (D5 l nx d s dt ns sh).1.2:=by
 unfold D5;split
 · exact h
 · rename_i h1;split
   · exact h
   · rename_i h2;split
     · exact h
     · rename_i h3;split
       · exact h
       · rename_i h4;split
         · exact h
         · rename_i h5;obtain⟨f1,f2,f3,f4⟩:=found (Classical.not_not.1 h1);obtain⟨n,rfl,hn,hk⟩:=h.dir (Classical.not_not.1 h2);have h6:=h.move f3 (Classical.not_not.1 h2) (Classical.not_not.1 h3) h4 h5;simp only[f4]at h6;exact h6
theorem xA {l:List Az}{nx:Int}(h:Aq l nx)(o:yU):Aq (UB l nx o).1.1 (UB l nx o).1.2:=by
 unfold UB;split
 · exact kF h _ _ _ _
 · split
   · exact Ze h _ _ _
   · exact kE h _ _ _ _ _
end Go.Proofs.YtdmkhmeaphaapaaGreat
