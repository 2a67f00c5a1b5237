/- Kit. -/
import Derived.Test.YtdmkhmeaphaapaaGreatMZ15
import Derived.Test.YtdmkhmeaphaapaaGreatMZ0
import Derived.Test.YtdmkhmeaphaapaaGreatMZ12
import Derived.Test.YtdmkhmeaphaapaaGreatMZ10
set_option maxRecDepth 100000
set_option linter.unusedVariables false
set_option linter.unusedSimpArgs false
namespace Go.Proofs.YtdmkhmeaphaapaaGreat
open Go.RowKit Go.Sort
theorem NV {x y:Az}(h:clash x y):clash y x:=by
 unfold clash at *;rcases h with h|h|⟨h,h2⟩
 · exact Or.inl h.symm
 · exact Or.inr (Or.inl h.symm)
 · exact Or.inr (Or.inr (And.intro h.symm h2.symm))
theorem VG (all:List Az):Xh all all.length↔all.Pairwise fun a b=>¬clash a b:=by
 rw[List.pairwise_iff_getElem];unfold Xh;constructor
 · intro h i j hi hj hij;exact h j i _ _ hj hij (Ci hj) (Ci hi)
 · intro h j k x y hj hk hx hy;obtain⟨h1,h2⟩:=Ed.1 hx;obtain⟨h3,h4⟩:=Ed.1 hy;rw[←h2,←h4];exact h k j h3 h1 hk
theorem Pk {G:Cr}{keys:List Int}{x:Az}:x∈allI G keys↔x.BG∈keys∧x.e∈(G x.BG).getD []:=by
 unfold allI;rw[List.mem_flatMap];constructor
 · rintro⟨q,hq,hx⟩;rw[Cy]at hx;obtain⟨e,he,rfl⟩:=hx;exact⟨hq,he⟩
 · rintro⟨h1,h2⟩;exact⟨x.BG,h1,Cy.2 ⟨x.e,h2,rfl⟩⟩
def vP (G:Cr)(keys:List Int):Prop:=∀q,(G q).isSome=true→q∈keys
theorem PK {G:Cr}{keys:List Int}(hs:vP G keys){q:Int}:q∈Jn G keys↔(G q).isSome=true:=by
 unfold Jn;rw[List.mem_filter];exact⟨fun h=>h.2,fun h=>⟨hs q h,h⟩⟩
theorem XV {α:Type}{R:α→α→Prop}{l:List α}(h:l.Pairwise R)(Abx:∀a b,R a b→R b a){a b:α}(ha:a∈l)(hb:b∈l)(hne:a≠b):R a b:=by
 obtain⟨i,hi,rfl⟩:=List.mem_iff_getElem.1 ha;obtain⟨j,hj,rfl⟩:=List.mem_iff_getElem.1 hb;rw[List.pairwise_iff_getElem]at h;have hij:i≠j:=fun e=>hne (by subst e;rfl)
 rcases Nat.lt_or_gt_of_ne hij with h1|h1
 · exact h i j hi hj h1
 · exact Abx _ _ (h j i hj hi h1)
theorem QS {G:Cr}{c:Int}{keys:List Int}(h:bK c G keys)(hs:vP G keys):Whole G c:=by
 have hap:=(VG _).1 h.apart;unfold allI at hap;rw[List.pairwise_flatMap]at hap;obtain⟨a1,a2⟩:=hap;refine⟨fun q es hG e he=>?_,fun q es hG=>h.rise q (hs q (by rw[hG];rfl)) es hG,fun q q' es es' hG hG' i j x y hx hy hne=>?_⟩
 · have hx:(⟨q,e⟩:Az)∈allI G keys:=Pk.2 ⟨hs q (by rw[hG];rfl),by show e∈(G q).getD [];rw[hG];exact he⟩;obtain⟨o1,o2,o3,o4,o5,o6⟩:=h.ok _ hx;refine⟨o1,o2,o3,o4,o5,?_⟩;rw[←o6,Bool.eq_iff_iff,KU];exact(PK hs).symm
 · by_cases hq:q=q'
   · subst hq;rw[hG]at hG';obtain rfl:=Cm hG';have hij:i≠j:=hne.resolve_left (fun h=>h rfl);have h1:=a1 q (hs q (by rw[hG];rfl));rw[hG]at h1;simp only[Option.getD_some]at h1;rw[List.pairwise_map,List.pairwise_iff_getElem]at h1;obtain⟨i1,i2⟩:=Ed.1 hx;obtain⟨j1,j2⟩:=Ed.1 hy;rw[←i2,←j2];rcases Nat.lt_or_gt_of_ne hij with h2|h2
     · exact h1 i j i1 j1 h2
     · exact fun hc=>h1 j i j1 i1 h2 (NV hc)
   · have h1:=XV a2 (fun a b hab x hx y hy hc=>hab y hy x hx (NV hc)) (hs q (by rw[hG];rfl)) (hs q' (by rw[hG'];rfl)) hq;refine h1 ⟨q,x⟩ (Cy.2 ⟨x,?_,rfl⟩) ⟨q',y⟩ (Cy.2 ⟨y,?_,rfl⟩)
     · rw[hG];exact Dr hx
     · rw[hG'];exact Dr hy
theorem Tj {c:Int}(hc:1≤c):Aq [] c:=P5.mono hc
theorem Vy {A:List Az}{c:Int}(h:Aq A c):(0::Bn A).Nodup:=by
 refine List.nodup_cons.2 ⟨fun h0=>?_,?_⟩
 · obtain⟨x,hx,_,hn⟩:=Di.1 h0;have:=h.node x hx;omega
 · have hn:=h.nd;unfold EM at hn;unfold Bn;exact hn.sublist (List.filter_sublist.map _)
abbrev Fh (G:Cr)(c:Int):Bool×(List Az×Nat):=Gi G c 202 0 ([],0)
theorem NP {G:Cr}{c:Int}(hc:1≤c)(h:(Fh G c).1=true):∃A,(Fh G c).2=(A,1+(Bn A).length)∧Aq A c∧Down [0] A∧∀q∈0::Bn A,G q=some (Ak A q):=by
 obtain⟨A,h1,h2,h3⟩:=Ro G c 202 0 [] 0 (Tj hc) rfl rfl h;refine⟨A,by rw[show(Fh G c).2=_ from h1];rw[Hm,Gl],by have:=h2.good;rwa[Hm]at this,h2.down,fun q hq=>?_⟩;rcases Er.1 hq with rfl|hq
 · exact h3
 · exact h2.full q hq
theorem lC {l m:List Int}(hl:l.Nodup)(hs:∀x∈l,x∈m)(hlen:m.length≤l.length):∀x∈m,x∈l:=fun x hx=>by
 apply Jj;intro hn;have:=EE (x::l) m (List.nodup_cons.2 ⟨hn,hl⟩) (fun y hy=>by
  rcases Er.1 hy with rfl|hy
  · exact hx
  · exact hs y hy)
 simp at this;omega
theorem Ya {G:Cr}{c:Int}{keys:List Int}(h:bK c G keys)(hs:vP G keys)(hnd:keys.Nodup):(Fh G c).1=true∧(Fh G c).2.2=(Jn G keys).length:=by
 have hw:=QS h hs;have h0:=(PK hs).1 h.root;obtain⟨r1,_⟩:=YI hw 202 0 [] 0 (Tj h.pos) rfl rfl h0 (fun q=>⟨(G q).getD [],rfl⟩) (by decide);refine⟨r1,?_⟩;obtain⟨A,h1,hg,hd,hf⟩:=NP h.pos r1;rw[h1];have hD:∀q∈0::Bn A,q∈Jn G keys:=fun q hq=>(PK hs).2 (by rw[hf q hq];rfl)
 have hR:∀t,Reach (allI G keys) t→t∈0::Bn A:=by
  intro t ht
  induction ht with
  | root=>exact List.mem_cons_self
  | step hr hx hdx ih =>
   have h2:=(Pk.1 hx).2;rw[hf _ ih]at h2;exact List.mem_cons_of_mem _ (Di.2 ⟨_,Fv.1 h2,hdx,rfl⟩)
 have hT:∀t∈Jn G keys,t∈0::Bn A:=fun t ht=>hR t (h.reach t ht)
 have n1:=EE _ _ (Vy hg) hD;have n2:=EE (Jn G keys) _ (hnd.filter _) hT;simp only[List.length_cons]at n1 n2;show 1+(Bn A).length=_
 omega
theorem aA {A:List Az}{c:Int}(h:Aq A c):A.Pairwise fun a b=>¬clash a b:=by
 have hn:=h.nd;unfold EM at hn;rw[List.Nodup,List.pairwise_map]at hn;refine((hn.and h.names).and h.rise).imp ?_;rintro a b ⟨⟨h1,h2⟩,h3⟩ hc;unfold clash at hc;rcases hc with hc|hc|⟨hc,hc2⟩
 · exact h1 hc
 · exact h3.2 hc
 · exact h2 hc hc2
theorem iW {A:List Az}{c:Int}(h:Aq A c)(q:Int):Wj (Ak A q):=by
 have hp:(Ak A q).Pairwise fun a b=>a.Am<b.Am:=by
  unfold Ak;rw[List.pairwise_map];refine List.Pairwise.imp_of_mem ?_ (h.rise.filter _);intro a b ha hb hab;rw[List.mem_filter,KU]at ha hb;exact hab.1 (ha.2.trans hb.2.symm)
 rw[List.pairwise_iff_getElem]at hp;intro i x y hx hy;obtain⟨i1,i2⟩:=Ed.1 hx;obtain⟨j1,j2⟩:=Ed.1 hy;rw[←i2,←j2];exact hp i (i+1) i1 j1 (Nat.lt_succ_self i)
theorem Jf {l:List Az}{q:Int}:q∈AQ l↔(∃n:Nat,n≤200∧q=(n:Int))∧AO l q=2:=by
 unfold AQ Ca;rw[List.mem_filter,Cy,KU];constructor
 · rintro⟨⟨n,hn,rfl⟩,h⟩;rw[List.mem_range]at hn;exact⟨⟨n,by omega,rfl⟩,h⟩
 · rintro⟨⟨n,hn,rfl⟩,h⟩;exact⟨⟨n,List.mem_range.2 (by omega),rfl⟩,h⟩
theorem JV (l:List Az):(AQ l).Nodup:=by
 unfold AQ Ca;refine List.Pairwise.filter _ ?_;rw[List.pairwise_map];refine List.Pairwise.imp ?_ List.nodup_range;intro a b h e;exact h (Int.ofNat.inj e)
theorem Aq.WZ {l:List Az}{c:Int}(h:Aq l c){q:Int}:q∈AQ l↔AO l q=2:=by
 rw[Jf];refine⟨fun h=>h.2,fun h2=>⟨⟨q.toNat,?_,?_⟩,h2⟩⟩
 · apply Jj;intro hc;have:=h.far (d:=q) (by omega);omega
 · apply Jj;intro hc;have:=h.far (d:=q) (by omega);omega
def M9 (l:List Az):Cr:=fun q=>if q∈AQ l then some (Ak l q) else none
theorem Sr (l:List Az):vP (M9 l) (AQ l):=fun q h=>by
 unfold M9 at h;split at h
 · assumption
 · cases h
theorem Km (l:List Az):Jn (M9 l) (AQ l)=AQ l:=by
 unfold Jn;rw[List.filter_eq_self];intro q hq;unfold M9;rw[if_pos hq];rfl
theorem Aq.WC {l:List Az}{c:Int}(h:Aq l c){x:Az}(hx:x∈l):AO l x.e.node=if x.e.dir=true then 2 else 1:=by
 have h1:=h.node x hx;unfold AO;rw[if_neg (by omega)];unfold Cn;rw[K5 h hx]
theorem gP {l:List Az}{c:Int}(h:Aq l c):∀x∈l,Reach l x.BG:=by
 obtain⟨H,hH⟩:=h.low;obtain⟨M,hM⟩:∃M,∀x∈l,H x.BG.toNat≤M:=by
  clear h hH
  induction l with
  | nil=>exact⟨0,fun x hx=>nomatch hx⟩
  | cons y r ih =>
   obtain⟨M,hM⟩:=ih;refine⟨M+H y.BG.toNat,fun x hx=>?_⟩;rcases Er.1 hx with rfl|hx
   · omega
   · have:=hM x hx;omega
 have key:∀k x,x∈l→M-H x.BG.toNat<k→Reach l x.BG:=by
  intro k
  induction k with
  | zero=>intro x hx hk;omega
  | succ k ih =>
   intro x hx hk;have h2:=h.BG x hx;by_cases h0:x.BG=0
   · rw[h0];exact Reach.root
   · unfold AO at h2;rw[if_neg h0]at h2;unfold Cn at h2;cases hn:nodeAt l x.BG with
     | none=>rw[hn]at h2;cases h2
     | some y =>
      rw[hn]at h2;obtain⟨y1,y2⟩:=FV hn;have om:y.e.dir=true:=by
       simp only at h2;split at h2
       · assumption
       · cases h2
      rw[←y2];refine Reach.step (ih y y1 ?_) y1 om;have h3:=hH y y1;have h4:=hM y y1;rw[y2]at h3;omega
 exact fun x hx=>key _ x hx (Nat.lt_succ_self _)
theorem OL {l:List Az}{c:Int}(h:Aq l c){x:Az}:x∈allI (M9 l) (AQ l)↔x∈l:=by
 rw[Pk];unfold M9;constructor
 · rintro⟨h1,h2⟩;rw[if_pos h1]at h2;exact Fv.1 h2
 · intro hx;have h1:x.BG∈AQ l:=h.WZ.2 (h.BG x hx);exact⟨h1,by rw[if_pos h1];exact Fv.2 hx⟩
theorem Su {l:List Az}{c:Int}(h:Aq l c):bK c (M9 l) (AQ l):=by
 have hroot:(0:Int)∈AQ l:=h.WZ.2 rfl;have hap:=aA h;refine⟨fun q hq m hG=>?_,h.Md,by rw[Km];exact hroot,fun x hx=>?_,(VG _).2 ?_,fun t ht=>?_⟩
 · unfold M9 at hG;rw[if_pos hq]at hG;rw[←Cm hG];exact iW h q
 · have hx2:=(OL h).1 hx;rw[Km];refine⟨h.form x hx2,(h.node x hx2).1,(h.node x hx2).2,(h.GL x hx2).1,(h.GL x hx2).2,?_⟩;rw[Bool.eq_iff_iff,KU,h.WZ,h.WC hx2];cases x.e.dir<;>simp
 · unfold allI;rw[List.pairwise_flatMap];refine⟨fun q hq=>?_,?_⟩
   · unfold M9;rw[if_pos hq];simp only[Option.getD_some];unfold Ak;rw[List.pairwise_map,List.pairwise_map];refine List.Pairwise.imp_of_mem ?_ (hap.filter _);intro a b ha hb hab;rw[List.mem_filter,KU]at ha hb;have e1:(⟨q,a.e⟩:Az)=a:=by rw[←ha.2]
     have e2:(⟨q,b.e⟩:Az)=b:=by rw[←hb.2]
     rw[e1,e2];exact hab
   · refine(JV l).imp_of_mem ?_;intro a b ha hb hab x hx y hy;rw[Cy]at hx hy;obtain⟨ex,hx,rfl⟩:=hx;obtain⟨ey,hy,rfl⟩:=hy;have m1:=(OL h).1 (show(⟨a,ex⟩:Az)∈allI (M9 l) (AQ l) from Pk.2 ⟨ha,hx⟩);have m2:=(OL h).1 (show(⟨b,ey⟩:Az)∈allI (M9 l) (AQ l) from Pk.2 ⟨hb,hy⟩);exact XV hap (fun _ _ h hc=>h (NV hc)) m1 m2 (fun e=>hab (Gu Az.BG e))
 · rw[Km]at ht;have hk:=h.WZ.1 ht;have hr:∀x∈l,Reach (allI (M9 l) (AQ l)) x.BG:=fun x hx=>by
    have h9:=gP h x hx;generalize x.BG=q at h9
    induction h9 with
    | root=>exact Reach.root
    | step _ hx hd ih=>exact Reach.step ih ((OL h).2 hx) hd
   unfold AO at hk;split at hk
   · rename_i h0;rw[h0];exact Reach.root
   · unfold Cn at hk;cases hn:nodeAt l t with
     | none=>rw[hn]at hk;cases hk
     | some y =>
      rw[hn]at hk;obtain⟨y1,y2⟩:=FV hn;have om:y.e.dir=true:=by
       simp only at hk;split at hk
       · assumption
       · cases hk
      rw[←y2];exact Reach.step (hr y y1) ((OL h).2 y1) om
structure Twin (l l':List Az):Prop where
 Fw:∀q,Ak l' q=Ak l q
theorem Twin.mem {l l':List Az}(h:Twin l l'){x:Az}:x∈l'↔x∈l:=by
 have h1:=Fv (A:=l') (q:=x.BG) (e:=x.e);have h2:=Fv (A:=l) (q:=x.BG) (e:=x.e);rw[h.Fw]at h1;exact h1.symm.trans h2
theorem Twin.len {l l':List Az}{c c':Int}(h:Twin l l')(hg:Aq l c)(hg':Aq l' c'):l'.length=l.length:=by
 have h1:=EE (EM l') (EM l) hg'.nd (fun n hn=>by
  unfold EM at hn ⊢;obtain⟨x,hx,rfl⟩:=Cy.1 hn;exact List.mem_map_of_mem (h.mem.1 hx))
 have h2:=EE (EM l) (EM l') hg.nd (fun n hn=>by
  unfold EM at hn ⊢;obtain⟨x,hx,rfl⟩:=Cy.1 hn;exact List.mem_map_of_mem (h.mem.2 hx))
 unfold EM at h1 h2;simp only[List.length_map]at h1 h2;omega
theorem Twin.kind {l l':List Az}{c c':Int}(h:Twin l l')(hg:Aq l c)(hg':Aq l' c')(n:Int):AO l' n=AO l n:=by
 by_cases h0:AO l n=0
 · rw[h0];obtain⟨h1,h2⟩:=EO.1 h0;exact EO.2 ⟨h1,fun x hx=>h2 x (h.mem.1 hx)⟩
 · by_cases hn:n=0
   · subst hn;rfl
   · have h3:=h0;unfold AO at h3;rw[if_neg hn]at h3;unfold Cn at h3;cases ha:nodeAt l n with
     | none=>rw[ha]at h3;exact absurd rfl h3
     | some y =>
      obtain⟨y1,y2⟩:=FV ha;rw[←y2,hg.WC y1,hg'.WC (h.mem.2 y1)]
theorem QG {l l':List Az}(h:∀n,AO l' n=AO l n):∀k n,FZ l' k n=FZ l k n
 | 0,_=>rfl
 | k+1,n=>by
  unfold FZ;rw[h,QG h k (n+1)]
theorem Twin.link {l l':List Az}{c c' nx:Int}(h:Twin l l')(hg:Aq l c)(hg':Aq l' c')(d:Int)(s:ByteArray)(Ba:Bool)(sh:Int) :
 (D6 l' nx d s Ba sh).2=(D6 l nx d s Ba sh).2∧(D6 l' nx d s Ba sh).1.2=(D6 l nx d s Ba sh).1.2∧Twin (D6 l nx d s Ba sh).1.1 (D6 l' nx d s Ba sh).1.1:=by
 have hk:=h.kind hg hg';have e1:Bc l' d=Bc l d:=by unfold Bc;rw[hk]
 have e2:BQ l' d s=BQ l d s:=by unfold BQ D5;rw[e1,h.Fw]
 have e3:G5 l'=G5 l:=QG hk 200 1;unfold D6;rw[e1,e2,e3];split
 · exact⟨rfl,rfl,h⟩
 · split
   · exact⟨rfl,rfl,h⟩
   · split
     · exact⟨rfl,rfl,h⟩
     · split
       · exact⟨rfl,rfl,h⟩
       · refine⟨rfl,rfl,⟨fun q=>?_⟩⟩;show Ak (Dn l' nx d _) q=Ak (Dn l nx d _) q
         unfold Dn;rw[Dc,Dc,h.Fw]
theorem mJ {l:List Az}{c:Int}(h:Aq l c):∃l',(Fh (M9 l) c)=(true,(l',(AQ l).length))∧Aq l' c∧Twin l l':=by
 obtain⟨h1,h2⟩:=Ya (Su h) (Sr l) (JV l);obtain⟨A,a1,a2,a3,a4⟩:=NP h.Md h1;rw[Km]at h2;refine⟨A,?_,a2,⟨fun q=>?_⟩⟩
 · rw[a1]at h2;have h3:1+(Bn A).length=(AQ l).length:=h2;exact Prod.ext h1 (by rw[a1,h3])
 · have hD:∀q∈0::Bn A,q∈AQ l:=fun q hq=>Sr l q (by rw[a4 q hq];rfl)
   have hT:=lC (Vy a2) hD (by rw[a1]at h2;have h3:1+(Bn A).length=(AQ l).length:=h2;simp only[List.length_cons];omega);by_cases hq:q∈AQ l
   · have h5:=a4 q (hT q hq);unfold M9 at h5;rw[if_pos hq]at h5;exact(Cm h5).symm
   · have h6:Ak l q=[]:=h.uo fun hk=>hq (h.WZ.2 hk)
     rw[h6];refine F3 fun x hx e=>hq ?_
     rcases a3.BG x hx with h7|h7
     · rw[CU]at h7;rw[←e,h7];exact hD 0 List.mem_cons_self
     · rw[←e];exact hD _ (List.mem_cons_of_mem _ h7)
def AR (l:List Az):List (Int×List Bq):=(AQ l).map fun q=>(q,Ak l q)
def BI (l:List Az)(nx:Int):List UInt8:=NH nx (AR l)
theorem Y4 {s:ByteArray}{sh:Int}(h:Ei s sh=0):s.size<256∧0≤sh∧sh≤1000000:=by
 unfold Ei at h;split at h
 · rename_i hg;split at h
   · exact absurd h (by decide)
   · refine⟨?_,by omega,by omega⟩;unfold GZ at hg;simp only[Bool.and_eq_true,decide_eq_true_eq]at hg;have:=hg.2.2.1;omega
 · exact absurd h (by decide)
theorem aM (l:List Az):(AQ l).Pairwise (·<·):=by
 unfold AQ Ca;refine List.Pairwise.filter _ ?_;rw[List.pairwise_map];exact List.Pairwise.imp (fun h=>Int.ofNat_lt.2 h) List.pairwise_lt_range
theorem JU {l:List Az}{q:Int}(h:q∈AQ l):0≤q∧q≤200:=by
 unfold AQ Ca at h;rw[List.mem_filter,Cy]at h;obtain⟨⟨n,hn,rfl⟩,_⟩:=h;have:=List.mem_range.1 hn;show(0:Int)≤(n:Int)∧(n:Int)≤200
 omega
theorem pI (l:List Az):∀ds:List Int,ds.Pairwise (·<·)→(ds.map fun q=>(Ak l q).length).sum≤l.length:=by
 induction l with
 | nil =>
  intro ds _;have:∀ds:List Int,(ds.map fun q=>(Ak [] q).length).sum=0:=fun ds=>by
   induction ds with
   | nil=>rfl
   | cons q ds ih=>rw[List.map_cons,List.sum_cons,ih];rfl
  rw[this];exact Nat.zero_le _
 | cons x l ih =>
  intro ds hd;have h1:=ih ds hd;have h2:∀es:List Int,es.Pairwise (·<·)→(es.map fun q=>(Ak (x::l) q).length).sum≤(es.map fun q=>(Ak l q).length).sum+(if x.BG∈es then 1 else 0):=by
   intro es
   induction es with
   | nil=>intro _;simp
   | cons q es ih2 =>
    intro he;obtain⟨he1,he2⟩:=List.pairwise_cons.1 he;have h3:=ih2 he2;rw[List.map_cons,List.sum_cons,List.map_cons,List.sum_cons];have h4:(Ak (x::l) q).length=(Ak l q).length+if x.BG=q then 1 else 0:=by
     unfold Ak;rw[List.filter_cons];by_cases hq:x.BG=q
     · rw[if_pos (AX hq),if_pos hq];rfl
     · rw[if_neg (by simpa using hq),if_neg hq];rfl
    rw[h4];by_cases hq:x.BG=q
    · have hn:x.BG∉es:=fun hm=>by have:=he1 _ hm;omega
      rw[if_neg hn]at h3;rw[if_pos hq,if_pos (by rw[hq];exact List.mem_cons_self ..)];omega
    · rw[if_neg hq];have:(x.BG∈q::es)=(x.BG∈es):=by
       rw[Er,eq_iff_iff];exact⟨fun h=>h.resolve_left hq,Or.inr⟩
      simp only[this];omega
  have h3:=h2 ds hd;rw[GM];split at h3<;>omega
theorem WI {l:List Az}{nx:Int}(h:Aq l nx)(hx:nx<18446744073709551616):Y8 nx (AR l):=by
 have hl:=h.len;refine⟨⟨by have:=h.Md;omega,hx⟩,?_,fun d hd=>?_⟩
 · unfold AR;rw[Em];have:=Gb l 201;show(Ca l 201).length<_
   omega
 · unfold AR at hd;obtain⟨q,hq,rfl⟩:=Cy.1 hd;have hq2:=JU hq;refine⟨⟨hq2.1,by show q<_;omega⟩,?_,fun e he=>?_⟩
   · have:=Iu l q;show(Ak l q).length<_
     omega
   · obtain⟨x,hx2,_,rfl⟩:=Dy.1 he;have h1:=Y4 (h.form x hx2);have h2:=h.node x hx2;have h3:=h.GL x hx2;exact⟨h1.1,⟨by omega,by omega⟩,⟨by omega,by omega⟩,⟨h1.2.1,by omega⟩⟩
theorem Jd {l:List Az}{nx:Int}(h:Aq l nx):(BI l nx).length≤60000:=by
 refine uL nx (AR l) (fun d hd e he=>?_) ?_ ?_
 · unfold AR at hd;obtain⟨q,hq,rfl⟩:=Cy.1 hd;obtain⟨x,hx2,_,rfl⟩:=Dy.1 he;exact(Y4 (h.form x hx2)).1
 · unfold AR;rw[Em];exact Gb l 201
 · unfold MW AR;rw[List.map_map];exact Al (pI l _ (aM l)) h.len
theorem Ym {l l':List Az}{nx:Int}(h:Aq l nx)(h':Aq l' nx)(ht:Twin l l'):BI l' nx=BI l nx:=by
 have hd:AQ l'=AQ l:=by
  unfold AQ Ca;congr 1;funext q;rw[ht.kind h h' q]
 unfold BI AR;rw[hd];congr 1;exact List.map_congr_left fun q _=>by rw[ht.Fw]
theorem Vu (l:List Az)(d:Int)(s:ByteArray)(q:Int):Ak (Bv l d s) q=(Ak l q).filter fun e=>!(decide (q=d)&&decide (e.name=s)):=by
 unfold Ak Bv;rw[List.filter_map,List.filter_filter,List.filter_filter];congr 1;refine List.filter_congr fun x _=>?_
 by_cases h:x.BG=q
 · subst h;simp
 · simp[h]
theorem Twin.refl (l:List Az):Twin l l:=⟨fun _=>rfl⟩
theorem Twin.symm {l l':List Az}(h:Twin l l'):Twin l' l:=⟨fun q=>(h.Fw q).symm⟩
theorem Twin.trans {a b c:List Az}(h:Twin a b)(h':Twin b c):Twin a c:=⟨fun q=>(h'.Fw q).trans (h.Fw q)⟩
theorem Twin.drop {l l':List Az}(h:Twin l l')(d:Int)(s:ByteArray):Twin (Bv l d s) (Bv l' d s):=⟨fun q=>by rw[Vu,Vu,h.Fw]⟩
theorem Twin.put {l l':List Az}(h:Twin l l')(nx d:Int)(e:Bq):Twin (Dn l nx d e) (Dn l' nx d e):=⟨fun q=>by
 unfold Dn;rw[Dc,Dc,h.Fw]⟩
section
variable {l l':List Az}{c c':Int}
theorem Twin.node (h:Twin l l')(hg:Aq l c)(hg':Aq l' c')(n:Int):nodeAt l' n=nodeAt l n:=by
 cases ha:nodeAt l n with
 | some y =>
  obtain⟨y1,rfl⟩:=FV ha;exact K5 hg' (h.mem.2 y1)
 | none =>
  cases hb:nodeAt l' n with
  | none=>rfl
  | some y =>
   obtain⟨y1,rfl⟩:=FV hb;rw[K5 hg (h.mem.1 y1)]at ha;exact absurd ha (by simp)
theorem Twin.loop (h:Twin l l')(hg:Aq l c)(hg':Aq l' c')(x:Int):∀k n,loopGo l' x k n=loopGo l x k n
 | 0,_=>rfl
 | k+1,n=>by
  unfold loopGo EG;rw[h.node hg hg',Twin.loop h hg hg' x k]
theorem Twin.Bc (h:Twin l l')(hg:Aq l c)(hg':Aq l' c')(d:Int):Go.Proofs.YtdmkhmeaphaapaaGreat.Bc l' d=Go.Proofs.YtdmkhmeaphaapaaGreat.Bc l d:=by
 unfold Go.Proofs.YtdmkhmeaphaapaaGreat.Bc;rw[h.kind hg hg']
theorem Twin.find (h:Twin l l')(hg:Aq l c)(hg':Aq l' c')(d:Int)(s:ByteArray):BQ l' d s=BQ l d s:=by
 unfold BQ D5;rw[h.Bc hg hg',h.Fw]
theorem Twin.unlink (h:Twin l l')(hg:Aq l c)(hg':Aq l' c')(nx d:Int)(s:ByteArray)(Ba:Bool) :
 (BK l' nx d s Ba).2=(BK l nx d s Ba).2∧(BK l' nx d s Ba).1.2=(BK l nx d s Ba).1.2∧Twin (BK l nx d s Ba).1.1 (BK l' nx d s Ba).1.1:=by
 unfold BK;rw[h.find hg hg',Lb,Lb,h.Fw];split
 · exact⟨rfl,rfl,h⟩
 · split
   · exact⟨rfl,rfl,h⟩
   · split
     · exact⟨rfl,rfl,h⟩
     · split
       · exact⟨rfl,rfl,h⟩
       · exact⟨rfl,rfl,h.drop d s⟩
theorem Twin.move (h:Twin l l')(hg:Aq l c)(hg':Aq l' c')(nx d:Int)(s:ByteArray)(dt:Int)(ns:ByteArray)(sh:Int) :
 (DZ l' nx d s dt ns sh).2=(DZ l nx d s dt ns sh).2∧(DZ l' nx d s dt ns sh).1.2=(DZ l nx d s dt ns sh).1.2∧Twin (DZ l nx d s dt ns sh).1.1 (DZ l' nx d s dt ns sh).1.1:=by
 unfold DZ;rw[h.find hg hg',h.find hg hg',h.Bc hg hg',h.loop hg hg'];split
 · exact⟨rfl,rfl,h⟩
 · split
   · exact⟨rfl,rfl,h⟩
   · split
     · exact⟨rfl,rfl,h⟩
     · split
       · exact⟨rfl,rfl,h⟩
       · split
         · exact⟨rfl,rfl,h⟩
         · exact⟨rfl,rfl,(h.drop d s).put nx dt _⟩
theorem Twin.do (h:Twin l l')(hg:Aq l c)(hg':Aq l' c')(nx:Int)(o:xh) :
 (Rp l' nx o).2=(Rp l nx o).2∧(Rp l' nx o).1.2=(Rp l nx o).1.2∧Twin (Rp l nx o).1.1 (Rp l' nx o).1.1:=by
 unfold Rp;split
 · exact h.link hg hg' _ _ _ _
 · split
   · have:=h.unlink hg hg' nx o.d o.s o.Ba;exact⟨by rw[this.1],this.2.1,this.2.2⟩
   · have:=h.move hg hg' nx o.d o.s o.dt o.ns o.sh;exact⟨by rw[this.1],this.2.1,this.2.2⟩
end
theorem iY {l:List Az}{nx:Int}(h:Aq l nx)(d:Int)(s:ByteArray)(Ba:Bool)(sh:Int):Aq (D6 l nx d s Ba sh).1.1 (D6 l nx d s Ba sh).1.2:=by
 unfold D6;split
 · exact h
 · rename_i h1;split
   · exact h
   · rename_i h2;split
     · exact h
     · rename_i h3;split
       · exact h
       · rename_i h4;obtain⟨n,rfl,hn,hk⟩:=h.dir (Classical.not_not.1 h1);have h5:=Vp l 200 1;have h6:1≤G5 l∧G5 l≤200:=by
          unfold G5 at h4 ⊢;omega
         exact h.link (Classical.not_not.1 h1) (Classical.not_not.1 h2) h3 h6.1 h6.2 (Tk l h4)
theorem YB {l:List Az}{nx:Int}(h:Aq l nx)(d:Int)(s:ByteArray)(Ba:Bool):Aq (BK l nx d s Ba).1.1 (BK l nx d s Ba).1.2:=by
 unfold BK;split
 · exact h
 · rename_i h1;split
   · exact h
   · split
     · exact h
     · split
       · exact h
       · rename_i h4;obtain⟨f1,f2,f3,f4⟩:=found (Classical.not_not.1 h1);have h5:=h.unlink f3 (by
          rw[Lb,KU]at h4;exact Kj (Nat.eq_zero_of_not_pos h4))
         simp only[f4]at h5;exact h5
theorem iX {l:List Az}{nx:Int}(h:Aq l nx)(d:Int)(s:ByteArray)(dt:Int)(ns:ByteArray)(sh:Int):Aq (DZ l nx d s dt ns sh).1.1 (DZ l nx d s dt ns sh).1.2:=by
 unfold DZ;split
 · exact h
 · rename_i h1;split
   · exact h
   · rename_i h2;split
     · exact h
     · rename_i h3;split
       · exact h
       · rename_i h4;split
         · exact h
         · rename_i h5;obtain⟨f1,f2,f3,f4⟩:=found (Classical.not_not.1 h1);obtain⟨n,rfl,hn,hk⟩:=h.dir (Classical.not_not.1 h2);have h6:=h.move f3 (Classical.not_not.1 h2) (Classical.not_not.1 h3) h4 h5;simp only[f4]at h6;exact h6
theorem vv {l:List Az}{nx:Int}(h:Aq l nx)(o:xh):Aq (Rp l nx o).1.1 (Rp l nx o).1.2:=by
 unfold Rp;split
 · exact iY h _ _ _ _
 · split
   · exact YB h _ _ _
   · exact iX h _ _ _ _ _
theorem zk (l:List Az)(nx:Int)(o:xh)(h:(Rp l nx o).2.2≠0):(Rp l nx o).1=(l,nx)∧(Rp l nx o).2.1=0:=by
 unfold Rp D6 BK DZ at h ⊢
 repeat' split
 all_goals first|exact⟨rfl,rfl⟩|(exfalso;simp_all)
end Go.Proofs.YtdmkhmeaphaapaaGreat
