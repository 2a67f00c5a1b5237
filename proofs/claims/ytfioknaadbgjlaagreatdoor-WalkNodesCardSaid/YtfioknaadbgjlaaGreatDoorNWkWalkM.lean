/- Kit. -/
import Derived.Test.YtfioknaadbgjlaaGreatDoorNQ1
import Derived.Test.YtfioknaadbgjlaaGreatDoorNWkStr
set_option maxRecDepth 100000
set_option linter.unusedVariables false
set_option linter.unusedSimpArgs false
namespace Go.Proofs.YtfioknaadbgjlaaGreatDoor
open Go.RowKit Go.Sort
def fndV (o:Option Ent):Value:=match o with
  | some e=>.tuple #[entV e,.bool true]
  | none=>.tuple #[entV noEnt,.bool false]
def walkGo (fd:List Ent→List UInt8→Option Ent)(l:List Itm):Int→Bool→List (List UInt8)→Int×Bool×Int
  | n,d,[]=>(n,d,0)
  | n,d,x::r=>if d=false then(0,false,8) else match fd (listI l n) x with
    | none=>(0,false,5)
    | some e=>walkGo fd l e.node e.dir r
def walkI (fd:List Ent→List UInt8→Option Ent)(l:List Itm)(ns:List (List UInt8)):Int×Bool×Int:=walkGo fd l 0 true ns
def nodeI (fd:List Ent→List UInt8→Option Ent)(l:List Itm)(p:List UInt8):Int×Bool×Int:=if(splitI p).2≠0 then(0,false,(splitI p).2) else walkI fd l (splitI p).1
def parentI (fd:List Ent→List UInt8→Option Ent)(l:List Itm)(p:List UInt8):Int×List UInt8×Int:=
  if(splitI p).2≠0 then(0,[],(splitI p).2)
  else if(splitI p).1=[] then(0,[],1)
  else if(walkI fd l (splitI p).1.dropLast).2.2≠0 then(0,[],(walkI fd l (splitI p).1.dropLast).2.2)
  else if(walkI fd l (splitI p).1.dropLast).2.1=false then(0,[],8)
  else((walkI fd l (splitI p).1.dropLast).1,((splitI p).1.getLast?).getD [],0)
theorem listI_ok {ok:Ent→Prop}{l:List Itm}(h:∀x∈l,ok x.e)(n:Int):∀e∈listI l n,ok e:=by
  intro e he
  unfold listI at he
  split at he
  · unfold entsI at he
    obtain⟨x,hx,rfl⟩:=List.mem_map.1 he
    exact h x (List.mem_filter.1 hx).1
  · cases he
theorem walkGo_file (fd:List Ent→List UInt8→Option Ent)(l:List Itm)(n:Int)(x:List UInt8)(r:List (List UInt8)):walkGo fd l n false (x::r)=(0,false,8):=by
  rw[walkGo,if_pos rfl]
theorem walkGo_none {fd:List Ent→List UInt8→Option Ent}{l:List Itm}{n:Int}{x:List UInt8}(r:List (List UInt8))(h:fd (listI l n) x=none):walkGo fd l n true (x::r)=(0,false,5):=by
  rw[walkGo,if_neg (by decide),h]
theorem walkGo_some {fd:List Ent→List UInt8→Option Ent}{l:List Itm}{n:Int}{x:List UInt8}{e:Ent}(r:List (List UInt8))(h:fd (listI l n) x=some e):walkGo fd l n true (x::r)=walkGo fd l e.node e.dir r:=by
  rw[walkGo,if_neg (by decide),h]
theorem LstIs.pre {α:Type}{f:α→List Value}{c:Nat}{w:World}{a:Option Addr}{n cap:Nat}{l:List α}(h:LstIs f c w (.slice a n cap) l){k:Nat}(hk:k≤l.length)(cap':Nat):LstIs f c w (.slice a k cap') (l.take k):=by
  rcases h with⟨rfl,a',cap'',hv⟩|⟨g,off,cap'',hg,hv,hc⟩
  · refine Or.inl ⟨by simp,a,cap',?_⟩
    have:k=0:=by simpa using hk
    rw[this]
  · injection hv with h1 h2 h3
    subst h1
    refine Or.inr ⟨g,off,cap',hg,by rw[List.length_take,Nat.min_eq_left hk],fun j x hj=>hc j x ?_⟩
    rw[List.getElem?_take]at hj
    split at hj
    · exact hj
    · cases hj
end Go.Proofs.YtfioknaadbgjlaaGreatDoor
