/- Kit. -/
import Derived.Test.YtdmkhmeaphaapaaGreatFQ3
import Derived.Laws.StructEq
set_option maxRecDepth 100000
namespace Go.Proofs.YtdmkhmeaphaapaaGreat
open Go.RowKit Go.Sort
set_option linter.unusedVariables false
structure OpT where
  k:Int
  d:Int
  dt:Int
  s:ByteArray
  ns:ByteArray
  isD:Bool
  sh:Int
deriving Inhabited
def doI (l:List Itm)(nx:Int)(o:OpT):(List Itm×Int)×Int×Int:=
  if o.k%3=0 then linkI l nx o.d o.s o.isD o.sh
  else if o.k%3=1 then((unlinkI l nx o.d o.s o.isD).1,0,(unlinkI l nx o.d o.s o.isD).2)
  else((moveI l nx o.d o.s o.dt o.ns o.sh).1,0,(moveI l nx o.d o.s o.dt o.ns o.sh).2)
end Go.Proofs.YtdmkhmeaphaapaaGreat
namespace Go.Proofs.YtdmkhmeaphaapaaGreat
open Go.RowKit Go.Sort
set_option linter.unusedVariables false
theorem ent_eql (x y:Ent)(w:World):(Op.equalIn 10000 112 (entV x) (entV y)).run Tryz.prog w=.ok (decide (x=y)) w:=by
  have hS:Tryz.prog.underlying 112=some (.struct (Tryz.prog.fieldsOf 112)):=by kernel_rfl
  have hp:Tryz.prog.stoodInHeld 112=false:=by kernel_rfl
  obtain⟨n1,a1,b1,c1,d1⟩:=x;obtain⟨n2,a2,b2,c2,d2⟩:=y;unfold entV;rw[show(10000:Nat)=9999+1 from rfl,run_equalIn_agg w 9999 112 _ _ hS hp];simp only[Program.fieldsOf,Tryz.underlying112];go_simp;have hn:(n1.toList==n2.toList)=decide (n1=n2):=by
    by_cases h:n1=n2
    · subst h;simp
    · rw[text_ne h,decide_eq_false h]
  have hl:n1.toList=n2.toList↔n1=n2:=⟨fun h=>by
    rw[ByteArray.toList_eq,ByteArray.toList_eq]at h;exact ByteArray.ext (Array.toList_inj.1 h),fun h=>by rw[h]⟩
  (try simp only[Ent.mk.injEq])
  (try rw[hn])
  by_cases h1:n1=n2<;>by_cases h2:a1=a2<;>by_cases h3:b1=b2<;>by_cases h4:c1=c2<;>by_cases h5:d1=d2<;>simp[hl,h1,h2,h3,h4,h5]
theorem ent_neq (x y:Ent)(w:World):(binOp .neq 112 (entV x) (entV y)).run Tryz.prog w=.ok (.bool (!decide (x=y))) w:=by
  have h:=ent_eql x y w;unfold entV at h ⊢;rw[run_neq_struct,h];rfl
theorem ent_guard (op:BinOp)(a b:Operand)(x y:Ent)(w:World):(eqGuard op 112 a b (entV x) (entV y)).run Tryz.prog w=.ok () w:=by
  unfold entV;exact run_eqGuard_agg w op 112 a b _ _ (by kernel_rfl)
end Go.Proofs.YtdmkhmeaphaapaaGreat
namespace Go.Proofs.YtdmkhmeaphaapaaGreat
open Go.RowKit Go.Sort
set_option linter.unusedVariables false
def numC (x:Int):List Value:=[.int .i64 x]
abbrev NumsL:=@LstIs Int numC 1
theorem numC_len (l:List Int):∀x∈l,(numC x).length=1:=fun _ _=>rfl
theorem numC_one (l:List Int):∀x∈l,∀u∈numC x,u.oneCell'=true:=fun x _ u hu=>by
  obtain rfl:=List.mem_singleton.1 hu;rfl
theorem intElem:ElemOf Tryz.prog 39 3 1:=
  ⟨Tryz.underlying39,by
    have h:(Tryz.prog.info? 3).map (fun i=>(i.zero,i.size,i.bytes))=some (some (.int .i64 0),1,8):=by kernel_rfl
    obtain⟨i0,h1,h2,h3,h4⟩:=info_parts h;exact⟨i0,_,8,h1,h2,h3,h4,rfl,by decide⟩,by decide⟩
theorem num_at {w:World}{g p:Nat}{x:Int}(h:w.rangeAt g p (numC x)):w.cell? ⟨g,p,none⟩=some (.int .i64 x):=h 0 _ rfl
def dirsTo (l:List Itm)(n:Nat):List Int:=((List.range n).map Int.ofNat).filter fun x=>decide (kindI l x=2)
def dirsI (l:List Itm):List Int:=dirsTo l 201
theorem dirsTo_succ (l:List Itm)(n:Nat):dirsTo l (n+1)=dirsTo l n++(if kindI l (n:Int)=2 then [(n:Int)] else []):=by
  unfold dirsTo;rw[List.range_succ,List.map_append,List.filter_append];congr 1;by_cases h:kindI l (n:Int)=2<;>simp[h]
theorem dirsTo_le (l:List Itm)(n:Nat):(dirsTo l n).length≤n:=by
  unfold dirsTo;exact Nat.le_trans (List.length_filter_le _ _) (by simp)
end Go.Proofs.YtdmkhmeaphaapaaGreat
