/- Kit. -/
import Derived.Test.YtdmkhmeaphaapaaGreatFQ1
import Derived.Deep.AppendLies
import Derived.Deep.RegionLaw
import Derived.Deep.RegionHeld3
set_option maxRecDepth 100000
namespace Go.Proofs.YtdmkhmeaphaapaaGreat
open Go.RowKit Go.Sort
set_option linter.unusedVariables false
def badE (s:ByteArray)(sh:Int):Int:=if goodB s=true then(if sh<0∨1000000<sh then 1 else 0) else 3
def putI (l:List Itm)(nx d:Int)(e:Ent):List Itm:=l++[⟨d,{ e with cookie:=nx }⟩]
theorem own_form {B:Nat}{T:TypeId}{c:Nat}{w7:World}{v:Value}{n:Nat}{xs:List Value}(ho:w7.ownsRow B T c v n xs):∃a k cp,v=.slice a k cp:=by
  rcases ho.2 with⟨h,_⟩|⟨g,cap,cur,h,_⟩
  · exact⟨_,_,_,h⟩
  · exact⟨_,_,_,h⟩
end Go.Proofs.YtdmkhmeaphaapaaGreat
namespace Go.Proofs.YtdmkhmeaphaapaaGreat
open Go.RowKit Go.Sort
set_option linter.unusedVariables false
theorem two_cells {W:World}{b:Nat}{v0 v1:Value}{T:TypeId}(h:W.heap[b]?=some (.cells #[v0,v1] T (0,0))) :
    (W.cell? ⟨b,0,none⟩=some v0∧W.cell? ⟨b,1,none⟩=some v1)∧(W.frozen? ⟨b,0,none⟩=false∧W.frozen? ⟨b,1,none⟩=false):=
  ⟨⟨by rw[cell_of_row _ _ _ _ _ _ h];rfl,by rw[cell_of_row _ _ _ _ _ _ h];rfl⟩,⟨frozen_of_row _ _ _ _ _ h,frozen_of_row _ _ _ _ _ h⟩⟩
end Go.Proofs.YtdmkhmeaphaapaaGreat
namespace Go.Proofs.YtdmkhmeaphaapaaGreat
open Go.RowKit Go.Sort
set_option linter.unusedVariables false
def freeGo (l:List Itm):Nat→Nat→Nat
  | 0,_=>0
  | k+1,n=>if kindI l n=0 then n else freeGo l k (n+1)
def freeN (l:List Itm):Nat:=freeGo l 200 1
theorem freeGo_le (l:List Itm):∀k n,freeGo l k n=0∨(n≤freeGo l k n∧freeGo l k n<n+k)
  | 0,n=>Or.inl rfl
  | k+1,n=>by
    unfold freeGo;split
    · right;omega
    · rcases freeGo_le l k (n+1) with h|h
      · exact Or.inl h
      · right;omega
def linkI (l:List Itm)(nx d:Int)(s:ByteArray)(isD:Bool)(sh:Int):(List Itm×Int)×Int×Int:=
  if listE l d≠0 then((l,nx),0,listE l d)
  else if badE s sh≠0 then((l,nx),0,badE s sh)
  else if(findI l d s).2=0 then((l,nx),0,6)
  else if freeN l=0 then((l,nx),0,12)
  else((putI l nx d ⟨s,freeN l,isD,0,sh⟩,nx+1),freeN l,0)
structure Fr (w:World)(b:Nat)(v:Value)(nx:Int)(l:List Itm)(W:World):Prop where
  t:TreeAt W b v nx
  r:W.heap[b+1]?=some (.cells #[.slice none 0 0,.int .i64 0] 31 (0,0))
  i:ItmsT W v l
  bel:Below b w W
  sz:w.heap.size=b
theorem Fr.below {w W W':World}{b:Nat}{v:Value}{nx:Int}{l:List Itm}(h:Fr w b v nx l W)(hb:Below W.heap.size W W'):Fr w b v nx l W':=
  ⟨h.t.below hb,by rw[hb.block _ (lt_of_get h.r)];exact h.r,h.i.kept hb,h.bel.trans (hb.mono (by have:=h.bel.size;have:=h.sz;omega)),h.sz⟩
theorem Fr.cells {w W:World}{b:Nat}{v:Value}{nx:Int}{l:List Itm}(h:Fr w b v nx l W):W.cell? ⟨b,0,none⟩=some v∧W.cell? ⟨b,1,none⟩=some (.int .i64 nx)∧W.cell? ⟨b+1,0,none⟩=some (.slice none 0 0)∧W.cell? ⟨b+1,1,none⟩=some (.int .i64 0)∧W.frozen? ⟨b+1,0,none⟩=false∧W.frozen? ⟨b+1,1,none⟩=false:=
  ⟨h.t.l.1,h.t.l.2,(two_cells h.r).1.1,(two_cells h.r).1.2,(two_cells h.r).2.1,(two_cells h.r).2.2⟩
theorem Fr.done {w W:World}{b:Nat}{v:Value}{nx:Int}{l:List Itm}(h:Fr w b v nx l W){v8:Value}{nx8:Int}{l8:List Itm}(h8:ItmsT W v8 l8)(hb:v8.ownBlock≠some (b+1)) :
    ((W.setCell ⟨b+1,0,none⟩ v8).setCell ⟨b+1,1,none⟩ (.int .i64 nx8)).heap[b+1]?=some (.cells #[v8,.int .i64 nx8] 31 (0,0))∧ItmsT ((W.setCell ⟨b+1,0,none⟩ v8).setCell ⟨b+1,1,none⟩ (.int .i64 nx8)) v8 l8∧Below w.heap.size w ((W.setCell ⟨b+1,0,none⟩ v8).setCell ⟨b+1,1,none⟩ (.int .i64 nx8)):=by
  refine⟨?_,(h8.set hb 0 _).set hb 1 _,?_⟩
  · rw[heap_setCell_same _ (b+1) 1 _ _ _ (heap_setCell_same _ (b+1) 0 _ _ _ h.r)];rfl
  · rw[h.sz];exact(h.bel.setCell (p:=⟨b+1,0,none⟩) (Nat.le_succ _) _).setCell (p:=⟨b+1,1,none⟩) (Nat.le_succ _) _
end Go.Proofs.YtdmkhmeaphaapaaGreat
namespace Go.Proofs.YtdmkhmeaphaapaaGreat
open Go.RowKit Go.Sort
set_option linter.unusedVariables false
theorem below_drewN1 {B:Nat}{a w:World}(h:Below B a w):∀q,Below B a (w.drewN q)
  | 0=>h
  | q+1=>(below_drewN1 h q).drew
def hasIn (l:List Itm)(n:Int):Bool:=l.any fun x=>decide (x.inn=n)
def unlinkI (l:List Itm)(nx d:Int)(s:ByteArray)(isD:Bool):(List Itm×Int)×Int:=
  if(findI l d s).2≠0 then((l,nx),(findI l d s).2)
  else if isD=true∧(findI l d s).1.dir=false then((l,nx),8)
  else if isD=false∧(findI l d s).1.dir=true then((l,nx),7)
  else if hasIn l (findI l d s).1.node=true then((l,nx),9)
  else((dropI l d s,nx),0)
end Go.Proofs.YtdmkhmeaphaapaaGreat
