/-
  What is proved: on a device of any size, of any deeds, the law StoreFull answers true: what is answered with an error leaves the tree as it was. Condition: none.
-/
import Derived.Test.YtdmkhmeaphaapaaGreatRows
import Derived.Test.YtdmkhmeaphaapaaGreatFS3
import Derived.Test.YtdmkhmeaphaapaaGreatFS7
import Derived.Test.YtdmkhmeaphaapaaGreatFS8
set_option maxRecDepth 100000
namespace Go.Proofs.YtdmkhmeaphaapaaGreat.storeFull
open Go.ChangeShapes Go.WideShapes Go.ChangeAt Go.RowKit
open Go.ChangeMaps (open_string shut_string)
set_option linter.unusedVariables false
theorem lifted (os:Os)(started:os.Started)(H:Type)(enc:TypeId×Value→H) :
    ReturnsInHanded {} Tryz.checked os 4 .any (Rows.storeFullSpec.pre6 enc Tryz.prog Tryz.f4 Rows.storeFullRow.domain false) (Rows.storeFullSpec.post enc Tryz.prog Tryz.f4 false true false false):=by
  refine returnsInHanded_of_change (C:=Tryz.checked) own started (by kernel_rfl) Tryz.func4
    (ChangeSpec.witness6 (enc:=enc) (C:=Tryz.checked) false ⟨#[],#[.int .u8 0,.slice none 0 0],[]⟩ 8 (by kernel_rfl) (by kernel_rfl) (by kernel_rfl) (by kernel_rfl)) ?_
  intro W base args ds gs before hval0 hW hcnd _;have hval:∀(j:Nat) t v,Tryz.f4.params[j]?=some t→args[j]?=some v→Value.okWide Tryz.prog W .any base t v:=hval0;have hW':=hW;obtain⟨p,q,hA0,hV,rfl,_,_⟩:=hW;have hA:DataW.TrodAll enc Tryz.prog W 0 (fun _=>true) true Tryz.f4.params.toList args.toList ds p:=hA0;rw[Tryz.params4]at hA hval;obtain⟨v1,v2,d1,d2,p1,p2,rfl,rfl,rfl,h1,h2⟩:=trodAll_two hA;obtain⟨rfl,rfl⟩:=trodVars_none hV;simp only[List.append_nil]at hW';have hlt:∀x∈(p1++p2),x.block<W.heap.size:=fun x hx=>hW'.lt x (by simpa using hx)
  obtain⟨x1,rfl,rfl,rfl,wx1⟩:=open_int Tryz.underlying5 (hval 0 5 v1 rfl rfl) h1;have hlt2:∀x∈p2,x.block<W.heap.size:=fun x hx=>hlt x (by simp[hx])
  obtain⟨l2,s2,m2⟩:=arg_des (hval 1 53 v2 rfl rfl) h2 hlt2;have k1:0≤x1∧x1≤255:=by simpa[Lit.wf,IntKind.min,IntKind.max,IntKind.signed,IntKind.bits]using wx1
  obtain⟨M,rfl⟩:∃M:Nat,x1=(M:Int):=⟨x1.toNat,by omega⟩;refine(storeFull_c theStore M (by omega) v2 l2 W s2 m2.1 m2.2).mono fun e W' ⟨he,hb⟩=>?_
  subst he;exact⟨_,rfl,_,_,_,[],([]++p2),[],hW',trodAll_mk1 (shut_bool Tryz.underlying4 _),trodAll_mk2 (shut_int Tryz.underlying5 wx1) (Below.trod laidOut (by kernel_rfl) (of_decide_eq_true (by kernel_rfl)) h2 hb hlt2),rfl,hb.frame _,fun h=>by cases h⟩
theorem proved:Rows.StoreFullSaid:=
  OpenClaim.holds_of_wide 4 Tryz.f4 rfl rfl rfl rfl rfl rfl rfl ⟨rfl,rfl,rfl,rfl,rfl⟩ rfl rfl rfl rfl rfl (by kernel_rfl) Tryz.func4 (by kernel_rfl)
    (of_decide_eq_true (by kernel_rfl)) (by unfold Func.isWrapper;first|(rw[if_pos (by decide +kernel)];kernel_rfl)|(rw[if_neg (by decide +kernel)];exact⟨rfl,rfl⟩))
    (fun os started H enc _=>lifted os started H enc)
#print axioms proved
end Go.Proofs.YtdmkhmeaphaapaaGreat.storeFull
