/- Kit. -/
import Derived.Test.YtdmkhmeaphaapaaGreatFX5
set_option maxRecDepth 100000
namespace Go.Proofs.YtdmkhmeaphaapaaGreat
open Go.RowKit Go.Sort
set_option linter.unusedVariables false
set_option linter.unusedSimpArgs false
theorem clash_symm {x y:Itm}(h:clash x y):clash y x:=by
  unfold clash at *;rcases h with h|h|⟨h,h2⟩
  · exact Or.inl h.symm
  · exact Or.inr (Or.inl h.symm)
  · exact Or.inr (Or.inr (And.intro h.symm h2.symm))
theorem apart_iff (all:List Itm):apartTo all all.length↔all.Pairwise fun a b=>¬clash a b:=by
  rw[List.pairwise_iff_getElem];unfold apartTo;constructor
  · intro h i j hi hj hij;exact h j i _ _ hj hij (List.getElem?_eq_getElem hj) (List.getElem?_eq_getElem hi)
  · intro h j k x y hj hk hx hy;obtain⟨h1,h2⟩:=List.getElem?_eq_some_iff.1 hx;obtain⟨h3,h4⟩:=List.getElem?_eq_some_iff.1 hy;rw[←h2,←h4];exact h k j h3 h1 hk
theorem all_mem {G:DirsG}{keys:List Int}{x:Itm}:x∈allI G keys↔x.inn∈keys∧x.e∈(G x.inn).getD []:=by
  unfold allI;rw[List.mem_flatMap];constructor
  · rintro⟨q,hq,hx⟩;rw[List.mem_map]at hx;obtain⟨e,he,rfl⟩:=hx;exact⟨hq,he⟩
  · rintro⟨h1,h2⟩;exact⟨x.inn,h1,List.mem_map.2 ⟨x.e,h2,rfl⟩⟩
def Supp (G:DirsG)(keys:List Int):Prop:=∀q,(G q).isSome=true→q∈keys
theorem there_mem {G:DirsG}{keys:List Int}(hs:Supp G keys){q:Int}:q∈thereI G keys↔(G q).isSome=true:=by
  unfold thereI;rw[List.mem_filter];exact⟨fun h=>h.2,fun h=>⟨hs q h,h⟩⟩
theorem pair_all {α:Type}{R:α→α→Prop}{l:List α}(h:l.Pairwise R)(hsym:∀a b,R a b→R b a){a b:α}(ha:a∈l)(hb:b∈l)(hne:a≠b):R a b:=by
  obtain⟨i,hi,rfl⟩:=List.mem_iff_getElem.1 ha;obtain⟨j,hj,rfl⟩:=List.mem_iff_getElem.1 hb;rw[List.pairwise_iff_getElem]at h;have hij:i≠j:=fun e=>hne (by subst e;rfl)
  rcases Nat.lt_or_gt_of_ne hij with h1|h1
  · exact h i j hi hj h1
  · exact hsym _ _ (h j i hj hi h1)
theorem whole_of_formed {G:DirsG}{c:Int}{keys:List Int}(h:Formed c G keys)(hs:Supp G keys):Whole G c:=by
  have hap:=(apart_iff _).1 h.apart;unfold allI at hap;rw[List.pairwise_flatMap]at hap;obtain⟨a1,a2⟩:=hap;refine⟨fun q es hG e he=>?_,fun q es hG=>h.rise q (hs q (by rw[hG];rfl)) es hG,fun q q' es es' hG hG' i j x y hx hy hne=>?_⟩
  · have hx:(⟨q,e⟩:Itm)∈allI G keys:=all_mem.2 ⟨hs q (by rw[hG];rfl),by show e∈(G q).getD [];rw[hG];exact he⟩;obtain⟨o1,o2,o3,o4,o5,o6⟩:=h.ok _ hx;refine⟨o1,o2,o3,o4,o5,?_⟩;rw[←o6,Bool.eq_iff_iff,decide_eq_true_eq];exact(there_mem hs).symm
  · by_cases hq:q=q'
    · subst hq;rw[hG]at hG';obtain rfl:=Option.some.inj hG';have hij:i≠j:=hne.resolve_left (fun h=>h rfl);have h1:=a1 q (hs q (by rw[hG];rfl));rw[hG]at h1;simp only[Option.getD_some]at h1;rw[List.pairwise_map,List.pairwise_iff_getElem]at h1;obtain⟨i1,i2⟩:=List.getElem?_eq_some_iff.1 hx;obtain⟨j1,j2⟩:=List.getElem?_eq_some_iff.1 hy;rw[←i2,←j2];rcases Nat.lt_or_gt_of_ne hij with h2|h2
      · exact h1 i j i1 j1 h2
      · exact fun hc=>h1 j i j1 i1 h2 (clash_symm hc)
    · have h1:=pair_all a2 (fun a b hab x hx y hy hc=>hab y hy x hx (clash_symm hc)) (hs q (by rw[hG];rfl)) (hs q' (by rw[hG'];rfl)) hq;refine h1 ⟨q,x⟩ (List.mem_map.2 ⟨x,?_,rfl⟩) ⟨q',y⟩ (List.mem_map.2 ⟨y,?_,rfl⟩)
      · rw[hG];exact List.mem_of_getElem? hx
      · rw[hG'];exact List.mem_of_getElem? hy
theorem good_nil {c:Int}(hc:1≤c):GoodT [] c:=goodT_nil.mono hc
theorem dir_nodup {A:List Itm}{c:Int}(h:GoodT A c):(0::dirNodes A).Nodup:=by
  refine List.nodup_cons.2 ⟨fun h0=>?_,?_⟩
  · obtain⟨x,hx,_,hn⟩:=dirNodes_mem.1 h0;have:=h.node x hx;omega
  · have hn:=h.nd;unfold nodesI at hn;unfold dirNodes;exact hn.sublist (List.filter_sublist.map _)
abbrev fillAll (G:DirsG)(c:Int):Bool×(List Itm×Nat):=fillI G c 202 0 ([],0)
theorem fillAll_ok {G:DirsG}{c:Int}(hc:1≤c)(h:(fillAll G c).1=true):∃A,(fillAll G c).2=(A,1+(dirNodes A).length)∧GoodT A c∧Down [0] A∧∀q∈0::dirNodes A,G q=some (entsI A q):=by
  obtain⟨A,h1,h2,h3⟩:=fill_ok G c 202 0 [] 0 (good_nil hc) rfl rfl h;refine⟨A,by rw[show(fillAll G c).2=_ from h1];rw[List.nil_append,Nat.zero_add],by have:=h2.good;rwa[List.nil_append]at this,h2.down,fun q hq=>?_⟩;rcases List.mem_cons.1 hq with rfl|hq
  · exact h3
  · exact h2.full q hq
theorem sub_same {l m:List Int}(hl:l.Nodup)(hs:∀x∈l,x∈m)(hlen:m.length≤l.length):∀x∈m,x∈l:=fun x hx=>by
  apply Classical.byContradiction;intro hn;have:=nodup_sub_len (x::l) m (List.nodup_cons.2 ⟨hn,hl⟩) (fun y hy=>by
    rcases List.mem_cons.1 hy with rfl|hy
    · exact hx
    · exact hs y hy)
  simp at this;omega
theorem made_yes {G:DirsG}{c:Int}{keys:List Int}(h:Formed c G keys)(hs:Supp G keys)(hnd:keys.Nodup):(fillAll G c).1=true∧(fillAll G c).2.2=(thereI G keys).length:=by
  have hw:=whole_of_formed h hs;have h0:=(there_mem hs).1 h.root;obtain⟨r1,_⟩:=fill_yes hw 202 0 [] 0 (good_nil h.pos) rfl rfl h0 (fun q=>⟨(G q).getD [],rfl⟩) (by decide);refine⟨r1,?_⟩;obtain⟨A,h1,hg,hd,hf⟩:=fillAll_ok h.pos r1;rw[h1];have hD:∀q∈0::dirNodes A,q∈thereI G keys:=fun q hq=>(there_mem hs).2 (by rw[hf q hq];rfl)
  have hR:∀t,Reach (allI G keys) t→t∈0::dirNodes A:=by
    intro t ht
    induction ht with
    | root=>exact List.mem_cons_self
    | step hr hx hdx ih =>
      have h2:=(all_mem.1 hx).2;rw[hf _ ih]at h2;exact List.mem_cons_of_mem _ (dirNodes_mem.2 ⟨_,ents_mem.1 h2,hdx,rfl⟩)
  have hT:∀t∈thereI G keys,t∈0::dirNodes A:=fun t ht=>hR t (h.reach t ht)
  have n1:=nodup_sub_len _ _ (dir_nodup hg) hD;have n2:=nodup_sub_len (thereI G keys) _ (hnd.filter _) hT;simp only[List.length_cons]at n1 n2;show 1+(dirNodes A).length=_
  omega
theorem good_apart {A:List Itm}{c:Int}(h:GoodT A c):A.Pairwise fun a b=>¬clash a b:=by
  have hn:=h.nd;unfold nodesI at hn;rw[List.Nodup,List.pairwise_map]at hn;refine((hn.and h.names).and h.rise).imp ?_;rintro a b ⟨⟨h1,h2⟩,h3⟩ hc;unfold clash at hc;rcases hc with hc|hc|⟨hc,hc2⟩
  · exact h1 hc
  · exact h3.2 hc
  · exact h2 hc hc2
theorem good_rise {A:List Itm}{c:Int}(h:GoodT A c)(q:Int):risingE (entsI A q):=by
  have hp:(entsI A q).Pairwise fun a b=>a.cookie<b.cookie:=by
    unfold entsI;rw[List.pairwise_map];refine List.Pairwise.imp_of_mem ?_ (h.rise.filter _);intro a b ha hb hab;rw[List.mem_filter,decide_eq_true_eq]at ha hb;exact hab.1 (ha.2.trans hb.2.symm)
  rw[List.pairwise_iff_getElem]at hp;intro i x y hx hy;obtain⟨i1,i2⟩:=List.getElem?_eq_some_iff.1 hx;obtain⟨j1,j2⟩:=List.getElem?_eq_some_iff.1 hy;rw[←i2,←j2];exact hp i (i+1) i1 j1 (Nat.lt_succ_self i)
end Go.Proofs.YtdmkhmeaphaapaaGreat
namespace Go.Proofs.YtdmkhmeaphaapaaGreat
open Go.RowKit Go.Sort
set_option linter.unusedVariables false
set_option linter.unusedSimpArgs false
theorem dirsI_mem {l:List Itm}{q:Int}:q∈dirsI l↔(∃n:Nat,n≤200∧q=(n:Int))∧kindI l q=2:=by
  unfold dirsI dirsTo;rw[List.mem_filter,List.mem_map,decide_eq_true_eq];constructor
  · rintro⟨⟨n,hn,rfl⟩,h⟩;rw[List.mem_range]at hn;exact⟨⟨n,by omega,rfl⟩,h⟩
  · rintro⟨⟨n,hn,rfl⟩,h⟩;exact⟨⟨n,List.mem_range.2 (by omega),rfl⟩,h⟩
theorem dirsI_nodup (l:List Itm):(dirsI l).Nodup:=by
  unfold dirsI dirsTo;refine List.Pairwise.filter _ ?_;rw[List.pairwise_map];refine List.Pairwise.imp ?_ List.nodup_range;intro a b h e;exact h (Int.ofNat.inj e)
theorem GoodT.dirs {l:List Itm}{c:Int}(h:GoodT l c){q:Int}:q∈dirsI l↔kindI l q=2:=by
  rw[dirsI_mem];refine⟨fun h=>h.2,fun h2=>⟨⟨q.toNat,?_,?_⟩,h2⟩⟩
  · apply Classical.byContradiction;intro hc;have:=h.far (d:=q) (by omega);omega
  · apply Classical.byContradiction;intro hc;have:=h.far (d:=q) (by omega);omega
def ownG (l:List Itm):DirsG:=fun q=>if q∈dirsI l then some (entsI l q) else none
theorem own_supp (l:List Itm):Supp (ownG l) (dirsI l):=fun q h=>by
  unfold ownG at h;split at h
  · assumption
  · cases h
theorem own_there (l:List Itm):thereI (ownG l) (dirsI l)=dirsI l:=by
  unfold thereI;rw[List.filter_eq_self];intro q hq;unfold ownG;rw[if_pos hq];rfl
theorem GoodT.kindDir {l:List Itm}{c:Int}(h:GoodT l c){x:Itm}(hx:x∈l):kindI l x.e.node=if x.e.dir=true then 2 else 1:=by
  have h1:=h.node x hx;unfold kindI;rw[if_neg (by omega)];unfold kindGo;rw[nodeAt_mem h hx]
theorem own_reach {l:List Itm}{c:Int}(h:GoodT l c):∀x∈l,Reach l x.inn:=by
  obtain⟨H,hH⟩:=h.low;obtain⟨M,hM⟩:∃M,∀x∈l,H x.inn.toNat≤M:=by
    clear h hH
    induction l with
    | nil=>exact⟨0,fun x hx=>nomatch hx⟩
    | cons y r ih =>
      obtain⟨M,hM⟩:=ih;refine⟨M+H y.inn.toNat,fun x hx=>?_⟩;rcases List.mem_cons.1 hx with rfl|hx
      · omega
      · have:=hM x hx;omega
  have key:∀k x,x∈l→M-H x.inn.toNat<k→Reach l x.inn:=by
    intro k
    induction k with
    | zero=>intro x hx hk;omega
    | succ k ih =>
      intro x hx hk;have h2:=h.inn x hx;by_cases h0:x.inn=0
      · rw[h0];exact Reach.root
      · unfold kindI at h2;rw[if_neg h0]at h2;unfold kindGo at h2;cases hn:nodeAt l x.inn with
        | none=>rw[hn]at h2;cases h2
        | some y =>
          rw[hn]at h2;obtain⟨y1,y2⟩:=nodeAt_some hn;have hyd:y.e.dir=true:=by
            simp only at h2;split at h2
            · assumption
            · cases h2
          rw[←y2];refine Reach.step (ih y y1 ?_) y1 hyd;have h3:=hH y y1;have h4:=hM y y1;rw[y2]at h3;omega
  exact fun x hx=>key _ x hx (Nat.lt_succ_self _)
theorem own_all {l:List Itm}{c:Int}(h:GoodT l c){x:Itm}:x∈allI (ownG l) (dirsI l)↔x∈l:=by
  rw[all_mem];unfold ownG;constructor
  · rintro⟨h1,h2⟩;rw[if_pos h1]at h2;exact ents_mem.1 h2
  · intro hx;have h1:x.inn∈dirsI l:=h.dirs.2 (h.inn x hx);exact⟨h1,by rw[if_pos h1];exact ents_mem.2 hx⟩
theorem own_formed {l:List Itm}{c:Int}(h:GoodT l c):Formed c (ownG l) (dirsI l):=by
  have hroot:(0:Int)∈dirsI l:=h.dirs.2 rfl;have hap:=good_apart h;refine⟨fun q hq m hG=>?_,h.nx1,by rw[own_there];exact hroot,fun x hx=>?_,(apart_iff _).2 ?_,fun t ht=>?_⟩
  · unfold ownG at hG;rw[if_pos hq]at hG;rw[←Option.some.inj hG];exact good_rise h q
  · have hx2:=(own_all h).1 hx;rw[own_there];refine⟨h.form x hx2,(h.node x hx2).1,(h.node x hx2).2,(h.cook x hx2).1,(h.cook x hx2).2,?_⟩;rw[Bool.eq_iff_iff,decide_eq_true_eq,h.dirs,h.kindDir hx2];cases x.e.dir<;>simp
  · unfold allI;rw[List.pairwise_flatMap];refine⟨fun q hq=>?_,?_⟩
    · unfold ownG;rw[if_pos hq];simp only[Option.getD_some];unfold entsI;rw[List.pairwise_map,List.pairwise_map];refine List.Pairwise.imp_of_mem ?_ (hap.filter _);intro a b ha hb hab;rw[List.mem_filter,decide_eq_true_eq]at ha hb;have e1:(⟨q,a.e⟩:Itm)=a:=by rw[←ha.2]
      have e2:(⟨q,b.e⟩:Itm)=b:=by rw[←hb.2]
      rw[e1,e2];exact hab
    · refine(dirsI_nodup l).imp_of_mem ?_;intro a b ha hb hab x hx y hy;rw[List.mem_map]at hx hy;obtain⟨ex,hx,rfl⟩:=hx;obtain⟨ey,hy,rfl⟩:=hy;have m1:=(own_all h).1 (show(⟨a,ex⟩:Itm)∈allI (ownG l) (dirsI l) from all_mem.2 ⟨ha,hx⟩);have m2:=(own_all h).1 (show(⟨b,ey⟩:Itm)∈allI (ownG l) (dirsI l) from all_mem.2 ⟨hb,hy⟩);exact pair_all hap (fun _ _ h hc=>h (clash_symm hc)) m1 m2 (fun e=>hab (congrArg Itm.inn e))
  · rw[own_there]at ht;have hk:=h.dirs.1 ht;have hr:∀x∈l,Reach (allI (ownG l) (dirsI l)) x.inn:=fun x hx=>by
      have h9:=own_reach h x hx;generalize x.inn=q at h9
      induction h9 with
      | root=>exact Reach.root
      | step _ hx hd ih=>exact Reach.step ih ((own_all h).2 hx) hd
    unfold kindI at hk;split at hk
    · rename_i h0;rw[h0];exact Reach.root
    · unfold kindGo at hk;cases hn:nodeAt l t with
      | none=>rw[hn]at hk;cases hk
      | some y =>
        rw[hn]at hk;obtain⟨y1,y2⟩:=nodeAt_some hn;have hyd:y.e.dir=true:=by
          simp only at hk;split at hk
          · assumption
          · cases hk
        rw[←y2];exact Reach.step (hr y y1) ((own_all h).2 y1) hyd
structure Twin (l l':List Itm):Prop where
  ents:∀q,entsI l' q=entsI l q
theorem Twin.mem {l l':List Itm}(h:Twin l l'){x:Itm}:x∈l'↔x∈l:=by
  have h1:=ents_mem (A:=l') (q:=x.inn) (e:=x.e);have h2:=ents_mem (A:=l) (q:=x.inn) (e:=x.e);rw[h.ents]at h1;exact h1.symm.trans h2
theorem Twin.kind {l l':List Itm}{c c':Int}(h:Twin l l')(hg:GoodT l c)(hg':GoodT l' c')(n:Int):kindI l' n=kindI l n:=by
  by_cases h0:kindI l n=0
  · rw[h0];obtain⟨h1,h2⟩:=kind_free.1 h0;exact kind_free.2 ⟨h1,fun x hx=>h2 x (h.mem.1 hx)⟩
  · by_cases hn:n=0
    · subst hn;rfl
    · have h3:=h0;unfold kindI at h3;rw[if_neg hn]at h3;unfold kindGo at h3;cases ha:nodeAt l n with
      | none=>rw[ha]at h3;exact absurd rfl h3
      | some y =>
        obtain⟨y1,y2⟩:=nodeAt_some ha;rw[←y2,hg.kindDir y1,hg'.kindDir (h.mem.2 y1)]
theorem freeGo_same {l l':List Itm}(h:∀n,kindI l' n=kindI l n):∀k n,freeGo l' k n=freeGo l k n
  | 0,_=>rfl
  | k+1,n=>by
    unfold freeGo;rw[h,freeGo_same h k (n+1)]
theorem Twin.link {l l':List Itm}{c c' nx:Int}(h:Twin l l')(hg:GoodT l c)(hg':GoodT l' c')(d:Int)(s:ByteArray)(isD:Bool)(sh:Int) :
    (linkI l' nx d s isD sh).2=(linkI l nx d s isD sh).2∧(linkI l' nx d s isD sh).1.2=(linkI l nx d s isD sh).1.2∧Twin (linkI l nx d s isD sh).1.1 (linkI l' nx d s isD sh).1.1:=by
  have hk:=h.kind hg hg';have e1:listE l' d=listE l d:=by unfold listE;rw[hk]
  have e2:findI l' d s=findI l d s:=by unfold findI listI;rw[e1,h.ents]
  have e3:freeN l'=freeN l:=freeGo_same hk 200 1;unfold linkI;rw[e1,e2,e3];split
  · exact⟨rfl,rfl,h⟩
  · split
    · exact⟨rfl,rfl,h⟩
    · split
      · exact⟨rfl,rfl,h⟩
      · split
        · exact⟨rfl,rfl,h⟩
        · refine⟨rfl,rfl,⟨fun q=>?_⟩⟩;show entsI (putI l' nx d _) q=entsI (putI l nx d _) q
          unfold putI;rw[ents_app,ents_app,h.ents]
theorem own_twin {l:List Itm}{c:Int}(h:GoodT l c):∃l',(fillAll (ownG l) c)=(true,(l',(dirsI l).length))∧GoodT l' c∧Twin l l':=by
  obtain⟨h1,h2⟩:=made_yes (own_formed h) (own_supp l) (dirsI_nodup l);obtain⟨A,a1,a2,a3,a4⟩:=fillAll_ok h.nx1 h1;rw[own_there]at h2;refine⟨A,?_,a2,⟨fun q=>?_⟩⟩
  · rw[a1]at h2;have h3:1+(dirNodes A).length=(dirsI l).length:=h2;exact Prod.ext h1 (by rw[a1,h3])
  · have hD:∀q∈0::dirNodes A,q∈dirsI l:=fun q hq=>own_supp l q (by rw[a4 q hq];rfl)
    have hT:=sub_same (dir_nodup a2) hD (by rw[a1]at h2;have h3:1+(dirNodes A).length=(dirsI l).length:=h2;simp only[List.length_cons];omega);by_cases hq:q∈dirsI l
    · have h5:=a4 q (hT q hq);unfold ownG at h5;rw[if_pos hq]at h5;exact(Option.some.inj h5).symm
    · have h6:entsI l q=[]:=h.noin fun hk=>hq (h.dirs.2 hk)
      rw[h6];refine ents_nil fun x hx e=>hq ?_
      rcases a3.inn x hx with h7|h7
      · rw[List.mem_singleton]at h7;rw[←e,h7];exact hD 0 List.mem_cons_self
      · rw[←e];exact hD _ (List.mem_cons_of_mem _ h7)
end Go.Proofs.YtdmkhmeaphaapaaGreat
namespace Go.Proofs.YtdmkhmeaphaapaaGreat
open Go.RowKit Go.Sort
set_option linter.unusedVariables false
set_option linter.unusedSimpArgs false
def dirsOf (l:List Itm):List (Int×List Ent):=(dirsI l).map fun q=>(q,entsI l q)
def imgI (l:List Itm)(nx:Int):List UInt8:=imgB nx (dirsOf l)
theorem badE_all {s:ByteArray}{sh:Int}(h:badE s sh=0):s.size<256∧0≤sh∧sh≤1000000:=by
  unfold badE at h;split at h
  · rename_i hg;split at h
    · exact absurd h (by decide)
    · refine⟨?_,by omega,by omega⟩;unfold goodB at hg;simp only[Bool.and_eq_true,decide_eq_true_eq]at hg;have:=hg.2.2.1;omega
  · exact absurd h (by decide)
theorem dirsI_rise (l:List Itm):(dirsI l).Pairwise (·<·):=by
  unfold dirsI dirsTo;refine List.Pairwise.filter _ ?_;rw[List.pairwise_map];exact List.Pairwise.imp (fun h=>Int.ofNat_lt.2 h) List.pairwise_lt_range
theorem dirsI_range {l:List Itm}{q:Int}(h:q∈dirsI l):0≤q∧q≤200:=by
  unfold dirsI dirsTo at h;rw[List.mem_filter,List.mem_map]at h;obtain⟨⟨n,hn,rfl⟩,_⟩:=h;have:=List.mem_range.1 hn;show(0:Int)≤(n:Int)∧(n:Int)≤200
  omega
theorem ents_sum (l:List Itm):∀ds:List Int,ds.Pairwise (·<·)→(ds.map fun q=>(entsI l q).length).sum≤l.length:=by
  induction l with
  | nil =>
    intro ds _;have:∀ds:List Int,(ds.map fun q=>(entsI [] q).length).sum=0:=fun ds=>by
      induction ds with
      | nil=>rfl
      | cons q ds ih=>rw[List.map_cons,List.sum_cons,ih];rfl
    rw[this];exact Nat.zero_le _
  | cons x l ih =>
    intro ds hd;have h1:=ih ds hd;have h2:∀es:List Int,es.Pairwise (·<·)→(es.map fun q=>(entsI (x::l) q).length).sum≤(es.map fun q=>(entsI l q).length).sum+(if x.inn∈es then 1 else 0):=by
      intro es
      induction es with
      | nil=>intro _;simp
      | cons q es ih2 =>
        intro he;obtain⟨he1,he2⟩:=List.pairwise_cons.1 he;have h3:=ih2 he2;rw[List.map_cons,List.sum_cons,List.map_cons,List.sum_cons];have h4:(entsI (x::l) q).length=(entsI l q).length+if x.inn=q then 1 else 0:=by
          unfold entsI;rw[List.filter_cons];by_cases hq:x.inn=q
          · rw[if_pos (decide_eq_true hq),if_pos hq];rfl
          · rw[if_neg (by simpa using hq),if_neg hq];rfl
        rw[h4];by_cases hq:x.inn=q
        · have hn:x.inn∉es:=fun hm=>by have:=he1 _ hm;omega
          rw[if_neg hn]at h3;rw[if_pos hq,if_pos (by rw[hq];exact List.mem_cons_self ..)];omega
        · rw[if_neg hq];have:(x.inn∈q::es)=(x.inn∈es):=by
            rw[List.mem_cons,eq_iff_iff];exact⟨fun h=>h.resolve_left hq,Or.inr⟩
          simp only[this];omega
    have h3:=h2 ds hd;rw[List.length_cons];split at h3<;>omega
theorem img_ok {l:List Itm}{nx:Int}(h:GoodT l nx)(hx:nx<18446744073709551616):ImgOk nx (dirsOf l):=by
  have hl:=h.len;refine⟨⟨by have:=h.nx1;omega,hx⟩,?_,fun d hd=>?_⟩
  · unfold dirsOf;rw[List.length_map];have:=dirsTo_le l 201;show(dirsTo l 201).length<_
    omega
  · unfold dirsOf at hd;obtain⟨q,hq,rfl⟩:=List.mem_map.1 hd;have hq2:=dirsI_range hq;refine⟨⟨hq2.1,by show q<_;omega⟩,?_,fun e he=>?_⟩
    · have:=entsI_le l q;show(entsI l q).length<_
      omega
    · obtain⟨x,hx2,_,rfl⟩:=mem_entsI.1 he;have h1:=badE_all (h.form x hx2);have h2:=h.node x hx2;have h3:=h.cook x hx2;exact⟨h1.1,⟨by omega,by omega⟩,⟨by omega,by omega⟩,⟨h1.2.1,by omega⟩⟩
theorem img_short {l:List Itm}{nx:Int}(h:GoodT l nx):(imgI l nx).length≤60000:=by
  refine img_len nx (dirsOf l) (fun d hd e he=>?_) ?_ ?_
  · unfold dirsOf at hd;obtain⟨q,hq,rfl⟩:=List.mem_map.1 hd;obtain⟨x,hx2,_,rfl⟩:=mem_entsI.1 he;exact(badE_all (h.form x hx2)).1
  · unfold dirsOf;rw[List.length_map];exact dirsTo_le l 201
  · unfold entsLen dirsOf;rw[List.map_map];exact Nat.le_trans (ents_sum l _ (dirsI_rise l)) h.len
theorem img_twin {l l':List Itm}{nx:Int}(h:GoodT l nx)(h':GoodT l' nx)(ht:Twin l l'):imgI l' nx=imgI l nx:=by
  have hd:dirsI l'=dirsI l:=by
    unfold dirsI dirsTo;congr 1;funext q;rw[ht.kind h h' q]
  unfold imgI dirsOf;rw[hd];congr 1;exact List.map_congr_left fun q _=>by rw[ht.ents]
end Go.Proofs.YtdmkhmeaphaapaaGreat
