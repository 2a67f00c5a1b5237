/- Kit. -/
import Derived.Test.YtdmkhmeaphaapaaGreatFX6
import Derived.Test.YtdmkhmeaphaapaaGreatFQG
import Derived.Test.YtdmkhmeaphaapaaGreatFQ4
import Derived.Test.YtdmkhmeaphaapaaGreatFX8
import Derived.Test.YtdmkhmeaphaapaaGreatFX4
import Derived.Test.YtdmkhmeaphaapaaGreatFQH
set_option maxRecDepth 100000
namespace Go.Proofs.YtdmkhmeaphaapaaGreat
open Go.RowKit Go.Sort
set_option linter.unusedVariables false
set_option linter.unusedSimpArgs false
theorem ents_drop (l:List Itm)(d:Int)(s:ByteArray)(q:Int):entsI (dropI l d s) q=(entsI l q).filter fun e=>!(decide (q=d)&&decide (e.name=s)):=by
  unfold entsI dropI;rw[List.filter_map,List.filter_filter,List.filter_filter];congr 1;refine List.filter_congr fun x _=>?_
  by_cases h:x.inn=q
  · subst h;simp
  · simp[h]
theorem Twin.refl (l:List Itm):Twin l l:=⟨fun _=>rfl⟩
theorem Twin.symm {l l':List Itm}(h:Twin l l'):Twin l' l:=⟨fun q=>(h.ents q).symm⟩
theorem Twin.trans {a b c:List Itm}(h:Twin a b)(h':Twin b c):Twin a c:=⟨fun q=>(h'.ents q).trans (h.ents q)⟩
theorem Twin.drop {l l':List Itm}(h:Twin l l')(d:Int)(s:ByteArray):Twin (dropI l d s) (dropI l' d s):=⟨fun q=>by rw[ents_drop,ents_drop,h.ents]⟩
theorem Twin.put {l l':List Itm}(h:Twin l l')(nx d:Int)(e:Ent):Twin (putI l nx d e) (putI l' nx d e):=⟨fun q=>by
  unfold putI;rw[ents_app,ents_app,h.ents]⟩
section
variable {l l':List Itm}{c c':Int}
theorem Twin.node (h:Twin l l')(hg:GoodT l c)(hg':GoodT l' c')(n:Int):nodeAt l' n=nodeAt l n:=by
  cases ha:nodeAt l n with
  | some y =>
    obtain⟨y1,rfl⟩:=nodeAt_some ha;exact nodeAt_mem hg' (h.mem.2 y1)
  | none =>
    cases hb:nodeAt l' n with
    | none=>rfl
    | some y =>
      obtain⟨y1,rfl⟩:=nodeAt_some hb;rw[nodeAt_mem hg (h.mem.1 y1)]at ha;exact absurd ha (by simp)
theorem Twin.loop (h:Twin l l')(hg:GoodT l c)(hg':GoodT l' c')(x:Int):∀k n,loopGo l' x k n=loopGo l x k n
  | 0,_=>rfl
  | k+1,n=>by
    unfold loopGo aboveI;rw[h.node hg hg',Twin.loop h hg hg' x k]
theorem Twin.listE (h:Twin l l')(hg:GoodT l c)(hg':GoodT l' c')(d:Int):Go.Proofs.YtdmkhmeaphaapaaGreat.listE l' d=Go.Proofs.YtdmkhmeaphaapaaGreat.listE l d:=by
  unfold Go.Proofs.YtdmkhmeaphaapaaGreat.listE;rw[h.kind hg hg']
theorem Twin.find (h:Twin l l')(hg:GoodT l c)(hg':GoodT l' c')(d:Int)(s:ByteArray):findI l' d s=findI l d s:=by
  unfold findI listI;rw[h.listE hg hg',h.ents]
theorem Twin.unlink (h:Twin l l')(hg:GoodT l c)(hg':GoodT l' c')(nx d:Int)(s:ByteArray)(isD:Bool) :
    (unlinkI l' nx d s isD).2=(unlinkI l nx d s isD).2∧(unlinkI l' nx d s isD).1.2=(unlinkI l nx d s isD).1.2∧Twin (unlinkI l nx d s isD).1.1 (unlinkI l' nx d s isD).1.1:=by
  unfold unlinkI;rw[h.find hg hg',hasIn_ents,hasIn_ents,h.ents];split
  · exact⟨rfl,rfl,h⟩
  · split
    · exact⟨rfl,rfl,h⟩
    · split
      · exact⟨rfl,rfl,h⟩
      · split
        · exact⟨rfl,rfl,h⟩
        · exact⟨rfl,rfl,h.drop d s⟩
theorem Twin.move (h:Twin l l')(hg:GoodT l c)(hg':GoodT l' c')(nx d:Int)(s:ByteArray)(dt:Int)(ns:ByteArray)(sh:Int) :
    (moveI l' nx d s dt ns sh).2=(moveI l nx d s dt ns sh).2∧(moveI l' nx d s dt ns sh).1.2=(moveI l nx d s dt ns sh).1.2∧Twin (moveI l nx d s dt ns sh).1.1 (moveI l' nx d s dt ns sh).1.1:=by
  unfold moveI;rw[h.find hg hg',h.find hg hg',h.listE hg hg',h.loop hg hg'];split
  · exact⟨rfl,rfl,h⟩
  · split
    · exact⟨rfl,rfl,h⟩
    · split
      · exact⟨rfl,rfl,h⟩
      · split
        · exact⟨rfl,rfl,h⟩
        · split
          · exact⟨rfl,rfl,h⟩
          · exact⟨rfl,rfl,(h.drop d s).put nx dt _⟩
theorem Twin.do (h:Twin l l')(hg:GoodT l c)(hg':GoodT l' c')(nx:Int)(o:OpT) :
    (doI l' nx o).2=(doI l nx o).2∧(doI l' nx o).1.2=(doI l nx o).1.2∧Twin (doI l nx o).1.1 (doI l' nx o).1.1:=by
  unfold doI;split
  · exact h.link hg hg' _ _ _ _
  · split
    · have:=h.unlink hg hg' nx o.d o.s o.isD;exact⟨by rw[this.1],this.2.1,this.2.2⟩
    · have:=h.move hg hg' nx o.d o.s o.dt o.ns o.sh;exact⟨by rw[this.1],this.2.1,this.2.2⟩
end
theorem good_link {l:List Itm}{nx:Int}(h:GoodT l nx)(d:Int)(s:ByteArray)(isD:Bool)(sh:Int):GoodT (linkI l nx d s isD sh).1.1 (linkI l nx d s isD sh).1.2:=by
  unfold linkI;split
  · exact h
  · rename_i h1;split
    · exact h
    · rename_i h2;split
      · exact h
      · rename_i h3;split
        · exact h
        · rename_i h4;obtain⟨n,rfl,hn,hk⟩:=h.dir (Classical.not_not.1 h1);have h5:=freeGo_le l 200 1;have h6:1≤freeN l∧freeN l≤200:=by
            unfold freeN at h4 ⊢;omega
          exact h.link (Classical.not_not.1 h1) (Classical.not_not.1 h2) h3 h6.1 h6.2 (freeN_kind l h4)
theorem good_unlink {l:List Itm}{nx:Int}(h:GoodT l nx)(d:Int)(s:ByteArray)(isD:Bool):GoodT (unlinkI l nx d s isD).1.1 (unlinkI l nx d s isD).1.2:=by
  unfold unlinkI;split
  · exact h
  · rename_i h1;split
    · exact h
    · split
      · exact h
      · split
        · exact h
        · rename_i h4;obtain⟨f1,f2,f3,f4⟩:=found (Classical.not_not.1 h1);have h5:=h.unlink f3 (by
            rw[hasIn_ents,decide_eq_true_eq]at h4;exact List.eq_nil_of_length_eq_zero (Nat.eq_zero_of_not_pos h4))
          simp only[f4]at h5;exact h5
theorem good_move {l:List Itm}{nx:Int}(h:GoodT l nx)(d:Int)(s:ByteArray)(dt:Int)(ns:ByteArray)(sh:Int):GoodT (moveI l nx d s dt ns sh).1.1 (moveI l nx d s dt ns sh).1.2:=by
  unfold moveI;split
  · exact h
  · rename_i h1;split
    · exact h
    · rename_i h2;split
      · exact h
      · rename_i h3;split
        · exact h
        · rename_i h4;split
          · exact h
          · rename_i h5;obtain⟨f1,f2,f3,f4⟩:=found (Classical.not_not.1 h1);obtain⟨n,rfl,hn,hk⟩:=h.dir (Classical.not_not.1 h2);have h6:=h.move f3 (Classical.not_not.1 h2) (Classical.not_not.1 h3) h4 h5;simp only[f4]at h6;exact h6
theorem good_do {l:List Itm}{nx:Int}(h:GoodT l nx)(o:OpT):GoodT (doI l nx o).1.1 (doI l nx o).1.2:=by
  unfold doI;split
  · exact good_link h _ _ _ _
  · split
    · exact good_unlink h _ _ _
    · exact good_move h _ _ _ _ _
end Go.Proofs.YtdmkhmeaphaapaaGreat
namespace Go.Proofs.YtdmkhmeaphaapaaGreat
open Go.RowKit Go.Sort
set_option linter.unusedVariables false
set_option linter.unusedSimpArgs false
abbrev TI:=List Itm×Int
def Like (a b:TI):Prop:=Twin a.1 b.1∧a.2=b.2
theorem Like.refl (a:TI):Like a a:=⟨Twin.refl _,rfl⟩
theorem Like.symm {a b:TI}(h:Like a b):Like b a:=⟨h.1.symm,h.2.symm⟩
theorem Like.trans {a b c:TI}(h:Like a b)(h':Like b c):Like a c:=⟨h.1.trans h'.1,h.2.trans h'.2⟩
def GoodTI (t:TI):Prop:=GoodT t.1 t.2
theorem good_de {t:TI}(h:GoodTI t)(x:De):GoodTI (deI t.1 t.2 x).1:=by
  unfold GoodTI deI;split
  · exact good_do h _
  · exact h
theorem de_may {t:TI}{x:De}(h:(deI t.1 t.2 x).2.2=0):May x:=by
  unfold deI at h;split at h
  · assumption
  · exact absurd h (by show ¬(1:Int)=0;decide)
theorem deI_grow (t:TI)(x:De):t.2≤(deI t.1 t.2 x).1.2∧(deI t.1 t.2 x).1.2≤t.2+1:=by
  unfold deI;split
  · exact doI_next _ _ _
  · exact⟨Int.le_refl _,by show t.2≤t.2+1;omega⟩
theorem like_de {a b:TI}(h:Like a b)(ha:GoodTI a)(hb:GoodTI b)(x:De):(deI b.1 b.2 x).2=(deI a.1 a.2 x).2∧Like (deI a.1 a.2 x).1 (deI b.1 b.2 x).1:=by
  obtain⟨h1,h2⟩:=h;unfold deI;split
  · rw[←h2];have h3:=h1.do ha hb a.2 (opOf x);exact⟨h3.1,h3.2.2,h3.2.1.symm⟩
  · exact⟨rfl,h1,h2⟩
def runD:TI→List De→Option TI
  | t,[]=>some t
  | t,x::r=>if(deI t.1 t.2 x).2.2=0 then runD (deI t.1 t.2 x).1 r else none
theorem runD_cons (t:TI)(x:De)(r:List De):runD t (x::r)=if(deI t.1 t.2 x).2.2=0 then runD (deI t.1 t.2 x).1 r else none:=rfl
theorem runD_app:∀(t:TI) (a b:List De),runD t (a++b)=(runD t a).bind fun u=>runD u b
  | t,[],b=>rfl
  | t,x::a,b=>by
    rw[List.cons_append,runD_cons,runD_cons];split
    · exact runD_app _ a b
    · rfl
theorem runD_snoc {t u:TI}{a:List De}{x:De}(h:runD t a=some u):runD t (a++[x])=if(deI u.1 u.2 x).2.2=0 then some (deI u.1 u.2 x).1 else none:=by
  rw[runD_app,h];show runD u [x]=_
  rw[runD_cons];split
  · rfl
  · rfl
theorem runD_good:∀{t u:TI} {a:List De},GoodTI t→runD t a=some u→GoodTI u
  | t,u,[],h,hr=>by
    obtain rfl:=Option.some.inj hr;exact h
  | t,u,x::a,h,hr=>by
    unfold runD at hr;split at hr
    · exact runD_good (good_de h x) hr
    · cases hr
theorem runD_like:∀{a b:TI} (ds:List De),Like a b→GoodTI a→GoodTI b→(runD a ds=none∧runD b ds=none)∨∃u v,runD a ds=some u∧runD b ds=some v∧Like u v
  | a,b,[],h,_,_=>Or.inr ⟨a,b,rfl,rfl,h⟩
  | a,b,x::ds,h,ha,hb=>by
    obtain⟨e1,e2⟩:=like_de h ha hb x;unfold runD;rw[e1];split
    · exact runD_like ds e2 (good_de ha x) (good_de hb x)
    · exact Or.inl ⟨rfl,rfl⟩
theorem runD_pre {t u:TI}{a b:List De}(h:runD t (a++b)=some u):∃v,runD t a=some v∧runD v b=some u:=by
  rw[runD_app]at h;exact Option.bind_eq_some_iff.1 h
def Mounts (img:List UInt8)(rs:List (List UInt8))(t:TI):Prop:=
  ∃(A:TI) (ds:List De),GoodTI A∧A.2≤9223372036854775807∧imgI A.1 A.2=img∧rs=ds.map bytesL∧(∀x∈ds,May x)∧runD A ds=some t
def NoMount (img:List UInt8)(rs:List (List UInt8)):Prop:=∀t,¬Mounts img rs t
theorem Mounts.good {img:List UInt8}{rs:List (List UInt8)}{t:TI}(h:Mounts img rs t):GoodTI t:=by
  obtain⟨A,ds,h1,_,_,_,_,h2⟩:=h;exact runD_good h1 h2
theorem bytes_list:∀{a b:List De},(∀x∈a,May x)→(∀x∈b,May x)→a.map bytesL=b.map bytesL→a=b
  | [],[],_,_,_=>rfl
  | [],_::_,_,_,h=>absurd h (by simp)
  | _::_,[],_,_,h=>absurd h (by simp)
  | x::a,y::b,ha,hb,h=>by
    rw[List.map_cons,List.map_cons]at h;obtain⟨h1,h2⟩:=List.cons.inj h;rw[bytes_first (r:=[]) (ha x (List.mem_cons_self ..)) (hb y (List.mem_cons_self ..)) (by rw[List.append_nil];exact h1.symm),bytes_list (fun z hz=>ha z (List.mem_cons_of_mem _ hz)) (fun z hz=>hb z (List.mem_cons_of_mem _ hz)) h2]
theorem Mounts.one {img:List UInt8}{rs:List (List UInt8)}{t u:TI}(h:Mounts img rs t)(h':Mounts img rs u):Like t u:=by
  obtain⟨A,ds,a1,a2,a3,a4,a5,a6⟩:=h;obtain⟨B,es,b1,b2,b3,b4,b5,b6⟩:=h';have he:=bytes_list a5 b5 (a4.symm.trans b4);subst he;obtain⟨c1,_,c2⟩:=twin_img a1 b1 a2 b2 (b3.trans a3.symm);rcases runD_like ds ⟨c2,c1.symm⟩ a1 b1 with⟨h1,_⟩|⟨x,y,h1,h2,h3⟩
  · rw[h1]at a6;cases a6
  · rw[h1]at a6;rw[h2]at b6;obtain rfl:=Option.some.inj a6;obtain rfl:=Option.some.inj b6;exact h3
theorem Mounts.own {t:TI}(h:GoodTI t)(hx:t.2≤9223372036854775807):Mounts (imgI t.1 t.2) [] t:=⟨t,[],h,hx,rfl,rfl,fun _ h=>absurd h (by simp),rfl⟩
theorem Mounts.snoc {img:List UInt8}{rs:List (List UInt8)}{t:TI}(h:Mounts img rs t){x:De}(hx:(deI t.1 t.2 x).2.2=0):Mounts img (rs++[bytesL x]) (deI t.1 t.2 x).1:=by
  obtain⟨A,ds,a1,a2,a3,a4,a5,a6⟩:=h;refine⟨A,ds++[x],a1,a2,a3,by rw[a4,List.map_append];rfl,fun y hy=>?_,?_⟩
  · rcases List.mem_append.1 hy with h|h
    · exact a5 y h
    · rw[List.mem_singleton.1 h];exact de_may hx
  · rw[runD_snoc a6,if_pos hx]
theorem Mounts.pre {img:List UInt8}{rs ss:List (List UInt8)}{t:TI}(h:Mounts img (rs++ss) t):∃u,Mounts img rs u:=by
  obtain⟨A,ds,a1,a2,a3,a4,a5,a6⟩:=h;obtain⟨d1,d2,rfl,e1,e2⟩:=List.map_eq_append_iff.1 a4.symm;obtain⟨v,v1,v2⟩:=runD_pre a6;exact⟨v,A,d1,a1,a2,a3,e1.symm,fun x hx=>a5 x (List.mem_append_left _ hx),v1⟩
theorem no_image {img:List UInt8}{rs:List (List UInt8)}(h:∀l nx,GoodT l nx→nx≤9223372036854775807→img≠imgI l nx):NoMount img rs:=by
  rintro t ⟨A,ds,a1,a2,a3,_⟩;exact h A.1 A.2 a1 a2 a3.symm
end Go.Proofs.YtdmkhmeaphaapaaGreat
namespace Go.Proofs.YtdmkhmeaphaapaaGreat
open Go.RowKit Go.Sort
set_option linter.unusedVariables false
set_option linter.unusedSimpArgs false
end Go.Proofs.YtdmkhmeaphaapaaGreat
namespace Go.Proofs.YtdmkhmeaphaapaaGreat
open Go.RowKit Go.Sort
set_option linter.unusedVariables false
end Go.Proofs.YtdmkhmeaphaapaaGreat
