/-
  What is proved: of any deeds and texts the law StoreMounts answers true: of a vault of whatever records a store is mounted just if they are deeds that can be done. Condition: none.
-/
import Derived.Test.YtdmkhmeaphaapaaGreatRows
import Derived.Test.YtdmkhmeaphaapaaGreatMZ38
import Derived.Test.YtdmkhmeaphaapaaGreatMZ44
import Derived.Test.YtdmkhmeaphaapaaGreatMZ0
set_option maxRecDepth 100000
set_option linter.unusedVariables false
set_option linter.unusedSimpArgs false
namespace Go.Proofs.YtdmkhmeaphaapaaGreat.storeMounts
open Go.ChangeShapes Go.WideShapes Go.ChangeAt Go.RowKit
open Go.ChangeMaps (open_string shut_string)
theorem lifted (os:Os)(started:os.Started)(H:Type)(enc:TypeId×Value→H) :
 ReturnsInHanded {} Tryz.checked os 5 .any (Rows.storeMountsSpec.pre6 enc Tryz.prog Tryz.f5 Rows.storeMountsRow.domain false) (Rows.storeMountsSpec.post enc Tryz.prog Tryz.f5 false true false false):=by
 refine returnsInHanded_of_change (C:=Tryz.checked) own started (by kernel_rfl) Tryz.func5
  (ChangeSpec.witness6 (enc:=enc) (C:=Tryz.checked) false ⟨#[],#[.slice none 0 0,.slice none 0 0],[]⟩ 8 (by kernel_rfl) (by kernel_rfl) (by kernel_rfl) (by kernel_rfl)) ?_
 intro W base args ds gs before hval0 hW hcnd _;have hval:∀(j:Nat) t v,Tryz.f5.params[j]?=some t→args[j]?=some v→Value.okWide Tryz.prog W .any base t v:=hval0;have hW':=hW;obtain⟨p,q,hA0,hV,rfl,_,_⟩:=hW;have hA:DataW.TrodAll enc Tryz.prog W 0 (fun _=>true) true Tryz.f5.params.toList args.toList ds p:=hA0;rw[Tryz.params5]at hA hval;obtain⟨v1,v2,d1,d2,p1,p2,rfl,rfl,rfl,h1,h2⟩:=trodAll_two hA;obtain⟨rfl,rfl⟩:=trodVars_none hV;simp only[List.append_nil]at hW';have hlt:∀x∈(p1++p2),x.block<W.heap.size:=fun x hx=>hW'.lt x (by simpa using hx)
 have hlt1:∀x∈p1,x.block<W.heap.size:=fun x hx=>hlt x (by simp[hx])
 obtain⟨l1,s1,m1⟩:=vN (hval 0 53 v1 rfl rfl) h1 hlt1;have hlt2:∀x∈p2,x.block<W.heap.size:=fun x hx=>hlt x (by simp[hx])
 obtain⟨l2,s2,m2,z2⟩:=bf (hval 1 59 v2 rfl rfl) h2 hlt2;refine(Uk lh v1 v2 l1 l2 W s1 m1.1 m1.2 s2 m2 z2).mono fun e W' ⟨he,hb⟩=>?_
 subst he;exact⟨_,rfl,_,_,_,[],(p1++p2),[],hW',trodAll_mk1 (shut_bool Tryz.underlying4 _),trodAll_mk2 (Below.trod laidOut (by kernel_rfl) (Fj (by kernel_rfl)) h1 hb hlt1) (Below.trod laidOut (by kernel_rfl) (Fj (by kernel_rfl)) h2 hb hlt2),rfl,hb.frame _,fun h=>by cases h⟩
theorem proved:Rows.StoreMountsSaid:=
 OpenClaim.holds_of_wide 5 Tryz.f5 rfl rfl rfl rfl rfl rfl rfl ⟨rfl,rfl,rfl,rfl,rfl⟩ rfl rfl rfl rfl rfl (by kernel_rfl) Tryz.func5 (by kernel_rfl)
  (Fj (by kernel_rfl)) (by unfold Func.isWrapper;first|(rw[if_pos (by decide +kernel)];kernel_rfl)|(rw[if_neg (by decide +kernel)];exact⟨rfl,rfl⟩))
  (fun os started H enc _=>lifted os started H enc)
#print axioms proved
end Go.Proofs.YtdmkhmeaphaapaaGreat.storeMounts
