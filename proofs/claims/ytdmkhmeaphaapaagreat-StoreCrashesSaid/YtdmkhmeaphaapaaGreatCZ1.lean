/- Kit. -/
import Derived.Test.YtdmkhmeaphaapaaGreatProg
import Derived.WalkKit
import Derived.WalkSpells
import Derived.IntWalk
import Derived.ProofKit
import Derived.Lib.Hide
import Derived.Lib.Builder
import Derived.Below
import Derived.Sort.WalkC
import Derived.LoopTactic
import Derived.Deep.LoopGhost
import Derived.Deep.QuietTactic
import Derived.Deep.MidRow
import Derived.Deep.RegionHeld3
import Derived.Deep.AppendLies
import Derived.Deep.RegionLaw
import Derived.Laws.NewBlocks
import Derived.Laws.IdiomStrings
import Derived.Laws.MakeOwn
import Derived.KernelRfl
import Derived.Great.BuildSlice
import Derived.Deep.WholeRow
import Derived.Deep.CutRange
import Derived.Deep.CutBlock
import Derived.OwnWalk
import Derived.Maps.AppendAt
import Derived.Deep.Upon
import Derived.Handy
import Derived.PlainAid
import Derived.Test.YtdmkhmeaphaapaaGreatCZ0
set_option maxRecDepth 100000
set_option linter.unusedVariables false
set_option linter.unusedSimpArgs false
namespace Go.Proofs.YtdmkhmeaphaapaaGreat
open Go.RowKit
section
variable {α:Type}
theorem Hm (f:α→List Value)(c:Nat):∀(l:List α),(∀x∈l,(f x).length=c)→(l.flatMap f).length=l.length*c
 | [],_=>by simp
 | x::l,h=>by
  rw[List.flatMap_cons,A7,Hm f c l (fun y hy=>h y (by simp[hy])),h x (by simp),GY,Nat.add_mul];omega
theorem Nb (f:α→List Value)(c:Nat):∀(l:List α) (i:Nat),(∀x∈l,(f x).length=c)→(l.flatMap f).drop (i*c)=(l.drop i).flatMap f
 | [],i,_=>by simp
 | x::l,0,_=>by simp
 | x::l,i+1,h=>by
  rw[List.flatMap_cons,List.drop_succ_cons,←Nb f c l i (fun y hy=>h y (by simp[hy])),List.drop_append];rw[List.drop_eq_nil_of_le (by rw[h x (by simp),Nat.add_mul];omega),G5,h x (by simp),Nat.add_mul];congr 1;omega
theorem Qi (f:α→List Value)(c:Nat):∀(l:List α) (i:Nat),(∀x∈l,(f x).length=c)→(l.flatMap f).take (i*c)=(l.take i).flatMap f
 | [],i,_=>by simp
 | x::l,0,_=>by simp
 | x::l,i+1,h=>by
  rw[List.flatMap_cons,List.take_succ_cons,List.flatMap_cons,←Qi f c l i (fun y hy=>h y (by simp[hy])),List.take_append];rw[CV (by rw[h x (by simp),Nat.add_mul];omega),h x (by simp),Nat.add_mul];congr 2;omega
theorem VP (f:α→List Value)(c:Nat)(l:List α)(i:Nat)(x:α)(h:∀x∈l,(f x).length=c)(hi:l[i]?=some x):((l.flatMap f).drop (i*c)).take c=f x:=by
 rw[Nb f c l i h];obtain⟨hlt,he⟩:=DL.1 hi;rw[List.drop_eq_getElem_cons hlt,List.flatMap_cons,List.take_append,he];have hx:(f x).length=c:=h x (by rw[←he];exact List.getElem_mem hlt);rw[CV (by omega),hx,Nat.sub_self,List.take_zero,Cz]
end
theorem Ab {w:World}{k:Nat}{o:Obj}(hk:w.heap[k]?=some o):k<w.heap.size:=by
 rcases Nat.lt_or_ge k w.heap.size with h'|h'
 · exact h'
 · simp[Array.getElem?_eq_none h']at hk
def Off (ex:List TypeId)(w w':World):Prop:=∀(T:TypeId),T∉ex→∀(k:Nat) (cs:Array Value) (fr:Nat×Nat),w.heap[k]?=some (.cells cs T fr)→w'.heap[k]?=some (.cells cs T fr)
theorem Cq (b:Nat):∀(vs:List Value) (o:Nat) (w:World) (k:Nat),k≠b→(w.setCells b o vs).heap[k]?=w.heap[k]?
 | [],_,_,_,_=>rfl
 | v::r,o,w,k,h=>by
  rw[World.setCells,Cq b r (o+1) _ k h,heap_setCell_other w ⟨b,o,none⟩ k v h]
theorem size_setCells (b:Nat):∀(vs:List Value) (o:Nat) (w:World),(w.setCells b o vs).heap.size=w.heap.size
 | [],_,_=>rfl
 | v::r,o,w=>by rw[World.setCells,size_setCells b r];simp[World.setCell]
theorem Below.setCells {B:Nat}{a w:World}(h:Below B a w){b:Nat}(hb:B≤b)(o:Nat)(vs:List Value):Below B a (w.setCells b o vs):=by
 induction vs generalizing o w with
 | nil=>exact h
 | cons v r ih=>exact ih (h.setCell (p:=⟨b,o,none⟩) hb v) (o+1)
theorem Cm (b:Nat)(T:TypeId):∀(vs:List Value) (o:Nat) (w:World) (C:List Value),w.heap[b]?=some (.cells C.toArray T (0,0))→o+vs.length≤C.length →
 (w.setCells b o vs).heap[b]?=some (.cells (C.take o++vs++C.drop (o+vs.length)).toArray T (0,0))
 | [],o,w,C,h,_=>by simpa[World.setCells]using h
 | v::r,o,w,C,h,hl=>by
  rw[World.setCells];have h1:(w.setCell ⟨b,o,none⟩ v).heap[b]?=some (.cells (C.set o v).toArray T (0,0)):=by
   rw[Bn w b o C.toArray T v h];simp
  rw[Cm b T r (o+1) _ (C.set o v) h1 (by simp at hl ⊢;omega)];congr 3;simp only[List.length_cons]at hl ⊢;have ho:o<C.length:=by omega
  rw[List.take_succ_eq_append_getElem (by simpa using ho),List.getElem_set_self,List.take_set_of_le (Ae _),List.drop_set_of_lt (by omega)];simp;congr 1;omega
theorem C9 {w:World}{b:Nat}{C:Array Value}{T:TypeId}(hb:w.heap[b]?=some (.cells C T (0,0)))(o n:Nat)(h:o+n≤C.size):w.there b o n:=fun j hj=>by
 rw[AB w b (o+j) C T (0,0) hb,Array.getElem?_eq_getElem (by omega)];exact⟨rfl,Fp w b _ C T hb⟩
theorem FK {α:Type}(f:α→List Value)(c:Nat){l:List α}{i:Nat}{x:α}(h:∀x∈l,(f x).length=c)(hi:l[i]?=some x){w:World}{b:Nat}{T:TypeId}{fr:Nat×Nat}{R:List Value}(hb:w.heap[b]?=some (.cells (l.flatMap f++R).toArray T fr)):w.rangeAt b (i*c) (f x):=fun j v hv=>by
 rw[AB w b _ _ T fr hb];have hj:j<(f x).length:=(DL.1 hv).1;obtain⟨hlt,he⟩:=DL.1 hi;have hc:(f x).length=c:=h x (by rw[←he];exact List.getElem_mem hlt);have hle:i*c+c≤(l.flatMap f).length:=by
  rw[Hm f c l h]
  calc i*c+c=(i+1)*c:=by rw[Nat.add_mul];omega
   _≤l.length*c:=Nat.mul_le_mul_right c hlt
 rw[←VP f c l i x h hi]at hv;rw[JR,if_pos (by omega),I5]at hv;rw[Gp,LG (by omega)];exact hv
section
variable {P:Program}{ops:Array Oper}{rest:List Oper}{d:Option Tmp}{T:TypeId}{pos:String}{af:Array Edge}{a:Act}{w w':World}{Q:Exit→Act→World→Prop}
theorem Jt (ty:TypeId)(x:Operand)(px v:Value)(hx:a.eval x=px)(hr:(Instr.loadAt ty px).run P w=.ok v w)(h:wpList P ops Q rest (a.put d v) w) :
 wpList P ops Q ({ dst:=d,op:=.load ty x,type:=T,pos:=pos,after:=af,guard:=none }::rest) a w:=
 wpList_plain rfl fun _ hK=>by
  unfold Oper.wp execOp;simp only[hx,Sem.run_bind,hr,Result.andThen_ok];exact hK _ _ h
theorem U3 (ty:TypeId)(x y:Operand)(px vy:Value)(hx:a.eval x=px)(hy:a.eval y=vy)(hr:(Instr.storeAt ty px vy).run P w=.ok () w')(h:wpList P ops Q rest (a.put d undef) w') :
 wpList P ops Q ({ dst:=d,op:=.store ty x y,type:=T,pos:=pos,after:=af,guard:=none }::rest) a w:=
 wpList_plain rfl fun _ hK=>by
  unfold Oper.wp execOp;simp only[hx,hy,Sem.run_bind,hr,Result.andThen_ok];exact hK _ _ h
theorem PT (ty:TypeId)(parts:Array (Nat×Operand))(vs:Array (Nat×Value))(v:Value)(hv:(parts.toList.map fun(i,x)=>(i,a.eval x))=vs.toList)(hr:(Instr.build ty vs).run P w=.ok v w)(h:wpList P ops Q rest (a.put d v) w) :
 wpList P ops Q ({ dst:=d,op:=.build ty parts,type:=T,pos:=pos,after:=af,guard:=none }::rest) a w:=
 wpList_plain rfl fun _ hK=>by
  unfold Oper.wp execOp;have hv':(parts.map fun(i,x)=>(i,a.eval x))=vs:=by
   apply Array.ext';rw[Array.toList_map];exact hv
  simp only[hv',Sem.run_bind,hr,Result.andThen_ok];exact hK _ _ h
end
theorem Ci {w:World}{a b:Nat}{C D:Array Value}{T U:TypeId}{x y:Nat×Nat}(h:w.heap[a]?=some (.cells C T x))(h':w.heap[b]?=some (.cells D U y))(hn:T≠U):a≠b:=fun e=>by
 subst e;rw[h]at h';injection h' with h';injection h' with _ h2 _;exact hn h2
theorem GQ {α:Type}{l:List α}{j:Nat}{p:α}(h:l[j]?=some p):l.take (j+1)=l.take j++[p]:=by
 rw[List.take_add_one,h];rfl
def CQ (w:World)(v:Value)(l:List Int):Prop:=
 (l=[]∧∃a cap,v=.slice a 0 cap) ∨
 (∃g off cap,g<w.heap.size∧v=.slice (some ⟨g,off,none⟩) l.length cap∧∀j,j<l.length→w.cell? ⟨g,off+j,none⟩=some (.int .i64 (l.getD j 0)))
theorem CQ.kept {w w':World}{v:Value}{l:List Int}(h:CQ w v l)(hb:Below w.heap.size w w'):CQ w' v l:=by
 rcases h with h|⟨g,off,cap,hg,hv,hc⟩
 · exact Or.inl h
 · exact Or.inr ⟨g,off,cap,by have:=hb.size;omega,hv,fun j hj=>by rw[hb.cell (p:=⟨g,off+j,none⟩) hg];exact hc j hj⟩
theorem CQ.len {w:World}{v:Value}{l:List Int}(h:CQ w v l):∃a cap,v=.slice a l.length cap:=by
 rcases h with⟨rfl,a,cap,hv⟩|⟨g,off,cap,hg,hv,hc⟩
 · exact⟨a,cap,hv⟩
 · exact⟨_,cap,hv⟩
theorem CQ.at {w:World}{a:Option Addr}{n cap:Nat}{l:List Int}(h:CQ w (.slice a n cap) l){j:Nat}(hj:j<l.length):∃g off,a=some ⟨g,off,none⟩∧g<w.heap.size∧w.cell? ⟨g,off+j,none⟩=some (.int .i64 (l.getD j 0)):=by
 rcases h with⟨rfl,_⟩|⟨g,off,cap',hg,hv,hc⟩
 · exact absurd hj (by simp)
 · injection hv with h1 h2 h3;exact⟨g,off,h1,hg,hc j hj⟩
def boolRow (M:List Bool):Array Value:=(M.map Value.bool).toArray
theorem QY (M:List Bool)(i:Nat)(x:Bool):(boolRow M).setIfInBounds i (.bool x)=boolRow (M.set i x):=by
 unfold boolRow;apply Array.ext';rw[Array.toList_setIfInBounds,Iw,Iw,List.map_set]
theorem Kb {M:List Bool}{i:Nat}{x:Bool}(h:M[i]?=some x):(boolRow M)[i]?=some (.bool x):=by
 unfold boolRow;rw[Gp,GZ,h];rfl
end Go.Proofs.YtdmkhmeaphaapaaGreat
namespace Go.Proofs.YtdmkhmeaphaapaaGreat
open Go.RowKit Go.Sort
def AL {α:Type}(f:α→List Value)(c:Nat)(w:World)(v:Value)(l:List α):Prop:=
 (l=[]∧∃a cap,v=.slice a 0 cap) ∨
 (∃g off cap,g<w.heap.size∧v=.slice (some ⟨g,off,none⟩) l.length cap∧∀j x,l[j]?=some x→w.rangeAt g (off+j*c) (f x))
theorem DJ {w w':World}{g p:Nat}{cs:List Value}(h:w.rangeAt g p cs)(hg:g<w.heap.size)(hb:Below w.heap.size w w'):w'.rangeAt g p cs:=fun j v hj=>by
 rw[hb.cell (p:=⟨g,p+j,none⟩) hg];exact h j v hj
theorem AL.kept {α:Type}{f:α→List Value}{c:Nat}{w w':World}{v:Value}{l:List α}(h:AL f c w v l)(hb:Below w.heap.size w w'):AL f c w' v l:=by
 rcases h with h|⟨g,off,cap,hg,hv,hc⟩
 · exact Or.inl h
 · exact Or.inr ⟨g,off,cap,by have:=hb.size;omega,hv,fun j x hj=>DJ (hc j x hj) hg hb⟩
theorem AL.len {α:Type}{f:α→List Value}{c:Nat}{w:World}{v:Value}{l:List α}(h:AL f c w v l):∃a cap,v=.slice a l.length cap:=by
 rcases h with⟨rfl,a,cap,hv⟩|⟨g,off,cap,hg,hv,hc⟩
 · exact⟨a,cap,hv⟩
 · exact⟨_,cap,hv⟩
theorem AL.at {α:Type}{f:α→List Value}{c:Nat}{w:World}{a:Option Addr}{n cap:Nat}{l:List α}(h:AL f c w (.slice a n cap) l){j:Nat}{x:α}(hj:l[j]?=some x):∃g off,a=some ⟨g,off,none⟩∧g<w.heap.size∧w.rangeAt g (off+j*c) (f x):=by
 rcases h with⟨rfl,_⟩|⟨g,off,cap',hg,hv,hc⟩
 · cases hj
 · injection hv with h1 h2 h3;exact⟨g,off,h1,hg,hc j x hj⟩
theorem AL.nil {α:Type}(f:α→List Value)(c:Nat)(w:World):AL f c w (.slice none 0 0) []:=Or.inl ⟨rfl,_,_,rfl⟩
theorem AL.own {α:Type}{f:α→List Value}{c:Nat}{B:Nat}{T:TypeId}{w:World}{v:Value}{n:Nat}{l:List α}(hc:∀x∈l,(f x).length=c)(h:w.ownsRow B T c v n (l.flatMap f))(hn:n=l.length):AL f c w v l:=by
 subst hn;rcases h.2 with⟨hv,h0⟩|⟨g,cap,cur,hv,hg,hb,h1,h2,h3,h4⟩
 · exact Or.inl ⟨Kw h0,none,0,by rw[hv]⟩
 · refine Or.inr ⟨g,0,cap,(h.lt g (by rw[hv];rfl)).2,hv,fun j x hj=>?_⟩;have hb':w.heap[g]?=some (.cells (l.flatMap f++cur.toList.drop (l.length*c)).toArray T (0,0)):=by
    rw[hb,←h4,List.take_append_drop]
   rw[Gh];exact FK f c hc hj hb'
structure Br where
 name:ByteArray
 node:Int
 dir:Bool
 Al:Int
 short:Int
deriving DecidableEq,Inhabited
structure Az where
 BD:Int
 e:Br
deriving DecidableEq,Inhabited
def DU (e:Br):List Value:=[.string e.name,.int .i64 e.node,.bool e.dir,.int .i64 e.Al,.int .i64 e.short]
def KM (x:Az):List Value:=.int .i64 x.BD::DU x.e
abbrev DD:=@AL Br DU 5
abbrev MP:=@AL Az KM 6
theorem Eb (l:List Br):∀x∈l,(DU x).length=5:=fun _ _=>rfl
theorem FI (l:List Az):∀x∈l,(KM x).length=6:=fun _ _=>rfl
theorem IL (e:Br):∀v∈DU e,v.oneCell'=true:=fun v hv=>by
 simp[DU]at hv;rcases hv with rfl|rfl|rfl|rfl|rfl<;>rfl
theorem JE (e:Az):∀v∈KM e,v.oneCell'=true:=fun v hv=>by
 rcases Em.1 hv with rfl|hv
 · rfl
 · exact IL _ v hv
def H6:Br:=⟨⟨#[]⟩,0,false,0,0⟩
def Di (e:Br):Value:=.agg #[.string e.name,.int .i64 e.node,.bool e.dir,.int .i64 e.Al,.int .i64 e.short]
def Bq (v:Value)(nx:Int):Value:=.agg #[v,.int .i64 nx]
theorem Ii {w:World}{g p:Nat}{x:Br}(h:w.rangeAt g p (DU x)):w.cell? ⟨g,p,none⟩=some (.string x.name)∧w.cell? ⟨g,p+1,none⟩=some (.int .i64 x.node)∧w.cell? ⟨g,p+2,none⟩=some (.bool x.dir)∧w.cell? ⟨g,p+3,none⟩=some (.int .i64 x.Al)∧w.cell? ⟨g,p+4,none⟩=some (.int .i64 x.short):=
 ⟨h 0 _ rfl,h 1 _ rfl,h 2 _ rfl,h 3 _ rfl,h 4 _ rfl⟩
theorem Qf {w:World}{g p:Nat}{x:Az}(h:w.rangeAt g p (KM x)):w.cell? ⟨g,p,none⟩=some (.int .i64 x.BD)∧w.cell? ⟨g,p+1,none⟩=some (.string x.e.name)∧w.cell? ⟨g,p+2,none⟩=some (.int .i64 x.e.node)∧w.cell? ⟨g,p+3,none⟩=some (.bool x.e.dir)∧w.cell? ⟨g,p+4,none⟩=some (.int .i64 x.e.Al)∧w.cell? ⟨g,p+5,none⟩=some (.int .i64 x.e.short):=
 ⟨h 0 _ rfl,h 1 _ rfl,h 2 _ rfl,h 3 _ rfl,h 4 _ rfl,h 5 _ rfl⟩
def nodeAt (l:List Az)(n:Int):Option Az:=l.find? fun x=>decide (x.e.node=n)
def Cu (l:List Az)(n:Int):Int:=match nodeAt l n with
 | some x=>if x.e.dir=true then 2 else 1
 | none=>0
def AP (l:List Az)(n:Int):Int:=if n=0 then 2 else Cu l n
def EH (l:List Az)(n:Int):Int:=match nodeAt l n with
 | some x=>x.BD
 | none=>-1
def Ak (l:List Az)(d:Int):List Br:=(l.filter fun x=>decide (x.BD=d)).map Az.e
def A9 (l:List Az)(d:Int):Int:=if AP l d=0 then 5 else if AP l d=1 then 8 else 0
def D6 (l:List Az)(d:Int):List Br:=if A9 l d=0 then Ak l d else []
def named (l:List Br)(s:ByteArray):Option Br:=l.find? fun x=>decide (x.name=s)
def BK (l:List Az)(d:Int)(s:ByteArray):Br×Int:=match named (D6 l d) s with
 | some x=>(x,0)
 | none=>(H6,if A9 l d=0 then 5 else A9 l d)
def Bu (l:List Az)(d:Int)(s:ByteArray):List Az:=l.filter fun x=>!(decide (x.BD=d)&&decide (x.e.name=s))
theorem QG (x:Az)(l:List Az)(n:Int):nodeAt (x::l) n=if x.e.node=n then some x else nodeAt l n:=by
 unfold nodeAt;rw[List.find?_cons];by_cases h:x.e.node=n<;>simp[h]
theorem QK (x:Az)(l:List Az)(n:Int):Cu (x::l) n=if x.e.node=n then(if x.e.dir=true then 2 else 1) else Cu l n:=by
 unfold Cu;rw[QG];by_cases h:x.e.node=n
 · rw[if_pos h,if_pos h]
 · rw[if_neg h,if_neg h]
theorem ZK (x:Az)(l:List Az)(n:Int):EH (x::l) n=if x.e.node=n then x.BD else EH l n:=by
 unfold EH;rw[QG];by_cases h:x.e.node=n
 · rw[if_pos h,if_pos h]
 · rw[if_neg h,if_neg h]
theorem Xf (l:List Az)(n:Int):Cu l n=0∨Cu l n=1∨Cu l n=2:=by
 unfold Cu;split
 · split
   · exact Or.inr (Or.inr rfl)
   · exact Or.inr (Or.inl rfl)
 · exact Or.inl rfl
theorem J5 (l:List Az)(n:Int):AP l n=0∨AP l n=1∨AP l n=2:=by
 unfold AP;split
 · exact Or.inr (Or.inr rfl)
 · exact Xf l n
theorem DK {α:Type}{l:List α}{i:Nat}{x:α}(h:l[i]?=some x):l.drop i=x::l.drop (i+1):=by
 obtain⟨hlt,he⟩:=DL.1 h;rw[List.drop_eq_getElem_cons hlt,he]
def DC (W:World)(b:Nat)(v:Value)(nx:Int):Prop:=W.heap[b]?=some (.cells #[v,.int .i64 nx] 31 (0,0))
theorem DC.l {W:World}{b:Nat}{v:Value}{nx:Int}(h:DC W b v nx):W.cell? ⟨b,0,none⟩=some v∧W.cell? ⟨b,1,none⟩=some (.int .i64 nx):=⟨by rw[AB _ _ _ _ _ _ h];rfl,by rw[AB _ _ _ _ _ _ h];rfl⟩
theorem DC.below {W W':World}{b:Nat}{v:Value}{nx:Int}(h:DC W b v nx)(hb:Below W.heap.size W W'):DC W' b v nx:=by
 unfold DC;rw[hb.block _ (Ab h)];exact h
set_option maxHeartbeats 2000000 in
theorem Ms (v:Value)(l:List Az)(nx n:Int)(w:World)(hv:MP w v l)(hl:l.length≤1000) :
 Calls Tryz.prog 107 #[Bq v nx,.int .i64 n] w fun e w'=>e=.returned (.int .i64 (AP l n))∧Below w.heap.size w w':=by
 obtain⟨a,cap,rfl⟩:=hv.len;obtain⟨m,hm⟩:∃m,l.length=m:=⟨_,rfl⟩;rw[hm]at hl hv ⊢;have HT:Hid (DC (w.alloc (.cells #[.slice a m cap,.int .i64 nx] 31)) w.heap.size (.slice a m cap) nx):=Aa (Ai _ _);have HB:Hid (Below w.heap.size w (w.alloc (.cells #[.slice a m cap,.int .i64 nx] 31))):=Aa ((Ad _ _).alloc (Ae _) _);have HV:=Aa (AL.kept hv HB.out);have HM:=Aa hm;clear hv hm;unfold Bq;go_enter Tryz.func107,Tryz.ntmps107;by_cases hn0:n=0
 · subst hn0;go_wp2;go_ret;exact⟨rfl,HB.out⟩
 · have HK:Hid (AP l n=Cu l n):=Aa (by unfold AP;rw[if_neg hn0]);have e0:(n==0)=false:=by rw[Ba];exact hn0
   go_wp2;generalize w.alloc (.cells #[.slice a m cap,.int .i64 nx] 31)=W0 at *;obtain⟨hc0,hc1⟩:=HT.out.l;go_loopw [5] (fun iv wr=>∃i:Nat,i≤m∧iv=.int .i64 i∧Cu (l.drop i) n=Cu l n∧wr=W0) (fun iv _=>m-(intOf iv).toNat)
   case atStart=>exact⟨0,by omega,rfl,rfl,rfl⟩
   case round =>
    obtain⟨i,hi,rfl,hgo,rfl⟩:=hrel;have Ht:=Aa hgo;clear hgo;by_cases him:i<m
    · have hiz:(i:Int)<(m:Int):=by omega
      obtain⟨x,hx⟩:∃x,l[i]?=some x:=⟨_,Co (by rw[HM.out];omega)⟩;obtain⟨g,off,rfl,hg,hr⟩:=HV.out.at hx;obtain⟨d0,d1,d2,d3,d4,d5⟩:=Qf hr;have HG:Hid (Cu l n=if x.e.node=n then(if x.e.dir=true then 2 else 1) else Cu (l.drop (i+1)) n):=Aa (by rw[←Ht.out,DK hx,QK]);clear hr hx hg;generalize x.e.node=nd at *;generalize x.e.dir=dr at *;by_cases hnd:nd=n
      · subst hnd;cases dr with
        | true =>
         have HE:Hid (AP l nd=2):=Aa (by rw[HK.out,HG.out,if_pos rfl,if_pos rfl]);go_wp2;go_ret;exact⟨by rw[HE.out];rfl,HB.out⟩
        | false =>
         have HE:Hid (AP l nd=1):=Aa (by rw[HK.out,HG.out,if_pos rfl,if_neg (by decide)]);go_wp2;go_ret;exact⟨by rw[HE.out];rfl,HB.out⟩
      · have HE:Hid (Cu (l.drop (i+1)) n=Cu l n):=Aa (by rw[HG.out,if_neg hnd]);have e1:(nd==n)=false:=by rw[Ba];exact hnd
        go_wp2;go_roundw
        case rel=>exact⟨i+1,by omega,by first|rfl|go_num,HE.out,by first|rfl|trivial⟩
        case measure=>simp[intOf];omega
    · have hiz:¬(i:Int)<(m:Int):=by omega
      have HE:Hid (AP l n=0):=Aa (by rw[HK.out,←Ht.out,JW (by rw[HM.out];omega)];rfl);go_wp2;go_ret;exact⟨by rw[HE.out];rfl,HB.out⟩
set_option maxHeartbeats 2000000 in
theorem lV (v:Value)(l:List Az)(nx n:Int)(w:World)(hv:MP w v l)(hl:l.length≤1000) :
 Calls Tryz.prog 126 #[Bq v nx,.int .i64 n] w fun e w'=>e=.returned (.int .i64 (EH l n))∧Below w.heap.size w w':=by
 obtain⟨a,cap,rfl⟩:=hv.len;obtain⟨m,hm⟩:∃m,l.length=m:=⟨_,rfl⟩;rw[hm]at hl hv ⊢;have HT:Hid (DC (w.alloc (.cells #[.slice a m cap,.int .i64 nx] 31)) w.heap.size (.slice a m cap) nx):=Aa (Ai _ _);have HB:Hid (Below w.heap.size w (w.alloc (.cells #[.slice a m cap,.int .i64 nx] 31))):=Aa ((Ad _ _).alloc (Ae _) _);have HV:=Aa (AL.kept hv HB.out);have HM:=Aa hm;clear hv hm;unfold Bq;go_enter Tryz.func126,Tryz.ntmps126;go_wp2;generalize w.alloc (.cells #[.slice a m cap,.int .i64 nx] 31)=W0 at *;obtain⟨hc0,hc1⟩:=HT.out.l;go_loopw [5] (fun iv wr=>∃i:Nat,i≤m∧iv=.int .i64 i∧EH (l.drop i) n=EH l n∧wr=W0) (fun iv _=>m-(intOf iv).toNat)
 case atStart=>exact⟨0,by omega,rfl,rfl,rfl⟩
 case round =>
  obtain⟨i,hi,rfl,hgo,rfl⟩:=hrel;have Ht:=Aa hgo;clear hgo;by_cases him:i<m
  · have hiz:(i:Int)<(m:Int):=by omega
    obtain⟨x,hx⟩:∃x,l[i]?=some x:=⟨_,Co (by rw[HM.out];omega)⟩;obtain⟨g,off,rfl,hg,hr⟩:=HV.out.at hx;obtain⟨d0,d1,d2,d3,d4,d5⟩:=Qf hr;have HG:Hid (EH l n=if x.e.node=n then x.BD else EH (l.drop (i+1)) n):=Aa (by rw[←Ht.out,DK hx,ZK]);clear hr hx hg;generalize x.e.node=nd at *;by_cases hnd:nd=n
    · subst hnd;have HE:Hid (EH l nd=x.BD):=Aa (by rw[HG.out,if_pos rfl]);go_wp2;go_ret;exact⟨by rw[HE.out];rfl,HB.out⟩
    · have HE:Hid (EH (l.drop (i+1)) n=EH l n):=Aa (by rw[HG.out,if_neg hnd]);have e1:(nd==n)=false:=by rw[Ba];exact hnd
      go_wp2;go_roundw
      case rel=>exact⟨i+1,by omega,by first|rfl|go_num,HE.out,by first|rfl|trivial⟩
      case measure=>simp[intOf];omega
  · have hiz:¬(i:Int)<(m:Int):=by omega
    have HE:Hid (EH l n=-1):=Aa (by rw[←Ht.out,JW (by rw[HM.out];omega)];rfl);go_wp2;go_ret;exact⟨by rw[HE.out];rfl,HB.out⟩
theorem Tryz.M9:(Tryz.prog.info? 112).map (fun i=>(i.zero,i.size,i.bytes))=some (some (.agg #[.string ⟨#[]⟩,.int .i64 0,.bool false,.int .i64 0,.int .i64 0]),5,48):=by kernel_rfl
theorem TQ {l:List Az}{i:Nat}{x:Az}(h:l[i]?=some x)(d:Int):Ak (l.take (i+1)) d=Ak (l.take i) d++(if x.BD=d then [x.e] else []):=by
 rw[GQ h];unfold Ak;rw[List.filter_append,List.map_append];congr 1;by_cases hd:x.BD=d<;>simp[hd]
theorem IK (l:List Az)(d:Int):(Ak l d).length≤l.length:=by
 unfold Ak;rw[DW];exact List.length_filter_le _ _
theorem pV (l:List Az)(d:Int):(D6 l d).length≤l.length:=by
 unfold D6;split
 · exact IK l d
 · exact Nat.zero_le _
theorem YO (l:List Az)(d:Int):A9 l d=0∨A9 l d=5∨A9 l d=8:=by
 unfold A9;split
 · exact Or.inr (Or.inl rfl)
 · split
   · exact Or.inr (Or.inr rfl)
   · exact Or.inl rfl
def PL (l:List Az)(d:Int)(w0:World)(e:Ending)(w':World):Prop:=
 ∃v',e=.returned (.tuple #[v',.int .i64 (A9 l d)])∧DD w' v' (D6 l d)∧Below w0.heap.size w0 w'
set_option maxHeartbeats 4000000 in
theorem O9 (v:Value)(l:List Az)(nx n:Int)(w:World)(hv:MP w v l)(hl:l.length≤1000) :
 Calls Tryz.prog 69 #[Bq v nx,.int .i64 n] w (PL l n w):=by
 obtain⟨i0,hi0,hz0,hz1,hz2⟩:=info_parts Tryz.M9;obtain⟨a,cap,rfl⟩:=hv.len;have cK:=fun w hv=>Ms (.slice a l.length cap) l nx n w hv hl
 obtain⟨m,hm⟩:∃m,l.length=m:=⟨_,rfl⟩;rw[hm]at hl hv ⊢;simp only[hm]at cK;have HT:Hid (DC (w.alloc (.cells #[.slice a m cap,.int .i64 nx] 31)) w.heap.size (.slice a m cap) nx):=Aa (Ai _ _);have HB:Hid (Below w.heap.size w (w.alloc (.cells #[.slice a m cap,.int .i64 nx] 31))):=Aa ((Ad _ _).alloc (Ae _) _);have hv0:=AL.kept hv HB.out;have HM:=Aa hm;clear hv hm;unfold Bq at cK ⊢;go_enter Tryz.func69,Tryz.ntmps69;have hc0:=HT.out.l.1;have hc1:=HT.out.l.2;go_wp2_with fail;generalize w.alloc (.cells #[.slice a m cap,.int .i64 nx] 31)=W0 at *;refine(cK _ hv0).mono ?_;rintro e w1 ⟨rfl,hb1⟩;have HB1:Hid (Below w.heap.size w w1):=Aa (HB.out.trans (hb1.mono HB.out.size));have HV:=Aa (AL.kept hv0 hb1);have HT1:=Aa (HT.out.below hb1);clear hv0 hc0 hc1 hb1;have hc0:=HT1.out.l.1;have hc1:=HT1.out.l.2;rcases J5 l n with hk|hk|hk
 · have HE:Hid (A9 l n=5∧D6 l n=[]):=Aa (by
    have h1:A9 l n=5:=by unfold A9;rw[if_pos hk]
    exact⟨h1,by unfold D6;rw[h1];rfl⟩)
   rw[hk];clear hk;go_wp2;go_ret2;exact⟨_,by rw[HE.out.1];rfl,by rw[HE.out.2];exact AL.nil _ _ _,HB1.out⟩
 · have HE:Hid (A9 l n=8∧D6 l n=[]):=Aa (by
    have h1:A9 l n=8:=by unfold A9;rw[if_neg (by rw[hk];decide),if_pos hk]
    exact⟨h1,by unfold D6;rw[h1];rfl⟩)
   rw[hk];clear hk;go_wp2;go_ret2;exact⟨_,by rw[HE.out.1];rfl,by rw[HE.out.2];exact AL.nil _ _ _,HB1.out⟩
 · have HE:Hid (A9 l n=0∧D6 l n=Ak l n):=Aa (by
    have h1:A9 l n=0:=by unfold A9;rw[if_neg (by rw[hk];decide),if_neg (by rw[hk];decide)]
    exact⟨h1,by unfold D6;rw[h1];rfl⟩)
   rw[hk];clear hk;go_wp2;go_loopw [7,8] (fun ov iv wr=>∃(i:Nat),i≤m∧iv=.int .i64 i∧wr.ownsRow w1.heap.size 112 5 ov (Ak (l.take i) n).length ((Ak (l.take i) n).flatMap DU)∧Below w1.heap.size w1 wr) (fun _ iv _=>m-(intOf iv).toNat)
   case atStart=>exact⟨0,by omega,rfl,FV _ _ _ _,Ad _ _⟩
   case round =>
    obtain⟨i,hi,rfl,hown,hbel⟩:=hrel;have HO:=Aa hown;have hTr:=HT1.out.below hbel;have hc0:=hTr.l.1;have hc1:=hTr.l.2;clear hown hTr;by_cases him:i<m
    · have hiz:(i:Int)<(m:Int):=by omega
      obtain⟨x,hx⟩:∃x,l[i]?=some x:=⟨_,Co (by rw[HM.out];omega)⟩;have xW:=Aa (AL.kept HV.out hbel);obtain⟨g,off,rfl,hg,hr⟩:=xW.out.at hx;obtain⟨d0,d1,d2,d3,d4,d5⟩:=Qf hr;have HX:=Aa (TQ hx n);have Uo:=Aa (IK (l.take i) n);have dY:Hid ((Ak (l.take i) n).length≤1000):=Aa (by have:=Uo.out;rw[Cc]at this;omega);clear hr hx hg;obtain⟨BD,nm,nd,dr,ck,sh⟩:=x;simp only at d0 d1 d2 d3 d4 d5;by_cases hnd:BD=n
      · subst hnd;have HX2:Hid (Ak (l.take (i+1)) BD=Ak (l.take i) BD++[⟨nm,nd,dr,ck,sh⟩]):=Aa (by rw[HX.out,if_pos rfl]);clear HX;go_wp2_with (at_builtin;refine wpList_append_own _ rfl _ _ 86 rfl w1.heap.size 112 i0 (.agg #[.string ⟨#[]⟩,.int .i64 0,.bool false,.int .i64 0,.int .i64 0]) 5 48 Tryz.underlying86 hi0 hz0 hz1 hz2 rfl (by decide) _ _ _ rfl (HO.out.alloc _) ⟨wr.heap.size,0,none⟩ 1 1 (DU ⟨nm,nd,dr,ck,sh⟩) rfl rfl ?c1 (IL _) ?c3 ?c4 ?c5 ?_)
        case c1 =>
         intro j u hj;rw[Addr.add_mid,AB _ _ _ _ _ _ (Ai _ _),Gh,Gp];exact hj
        case c3=>have:=dY.out;unfold maxLen;omega
        case c4=>have:=dY.out;omega
        case c5=>have h1:=hbel.size;simp;omega
        intro v' w2 hown' hgrow _;have hB2:=(hbel.alloc hbel.size (.cells #[.string nm,.int .i64 nd,.bool dr,.int .i64 ck,.int .i64 sh] 112)).grown hgrow (by have h1:=hbel.size;simp;omega) (fun j hj=>(HO.out.lt j hj).1);have JQ:=Aa hown';have HB2:=Aa hB2;clear hown' hgrow hB2;go_wp2;go_roundw
        case rel=>exact⟨i+1,by omega,by first|rfl|go_num,by rw[HX2.out,FB,A7];exact JQ.out,HB2.out⟩
        case measure=>simp[intOf];omega
      · have HX2:Hid (Ak (l.take (i+1)) n=Ak (l.take i) n):=Aa (by rw[HX.out,if_neg hnd,Cz]);have e1:(BD==n)=false:=by rw[Ba];exact hnd
        clear HX;go_wp2;go_roundw
        case rel=>exact⟨i+1,by omega,by first|rfl|go_num,by rw[HX2.out];exact HO.out,hbel⟩
        case measure=>simp[intOf];omega
    · have hiz:¬(i:Int)<(m:Int):=by omega
      have HA:Hid (l.take i=l):=Aa (CV (by rw[HM.out];omega));go_wp2;go_ret2;exact⟨_,by rw[HE.out.1];rfl,by
       have h:=HO.out;rw[HA.out]at h;rw[HE.out.2];exact AL.own (Eb _) h rfl,HB1.out.trans (hbel.mono HB1.out.size)⟩
def K6 (l:List Az)(d:Int)(s:ByteArray)(w0:World)(e:Ending)(w':World):Prop:=
 e=  .returned (.tuple #[Di (BK l d s).1,.int .i64 (BK l d s).2])∧Below w0.heap.size w0 w'
theorem Rs {a b:ByteArray}(h:a≠b):(a.toList==b.toList)=false:=by
 rw[Ba,ByteArray.toList_eq,ByteArray.toList_eq];exact fun e=>h (ByteArray.ext (Array.toList_inj.1 e))
theorem bq (x:Br)(l:List Br)(s:ByteArray):named (x::l) s=if x.name=s then some x else named l s:=by
 unfold named;rw[List.find?_cons];by_cases h:x.name=s<;>simp[h]
theorem Aj {W:World}{b:Nat}{v0 v1 v2 v3 v4:Value}{T:TypeId}(h:W.heap[b]?=some (.cells #[v0,v1,v2,v3,v4] T (0,0))) :
 (W.cell? ⟨b,0,none⟩=some v0∧W.cell? ⟨b,1,none⟩=some v1∧W.cell? ⟨b,2,none⟩=some v2∧W.cell? ⟨b,3,none⟩=some v3∧W.cell? ⟨b,4,none⟩=some v4) ∧
 (W.frozen? ⟨b,0,none⟩=false∧W.frozen? ⟨b,1,none⟩=false∧W.frozen? ⟨b,2,none⟩=false∧W.frozen? ⟨b,3,none⟩=false∧W.frozen? ⟨b,4,none⟩=false):=
 ⟨⟨by rw[AB _ _ _ _ _ _ h];rfl,by rw[AB _ _ _ _ _ _ h];rfl,by rw[AB _ _ _ _ _ _ h];rfl,by rw[AB _ _ _ _ _ _ h];rfl,by rw[AB _ _ _ _ _ _ h];rfl⟩,
  ⟨Fp _ _ _ _ _ h,Fp _ _ _ _ _ h,Fp _ _ _ _ _ h,Fp _ _ _ _ _ h,Fp _ _ _ _ _ h⟩⟩
def mM:Obj:=.cells #[.string ⟨#[]⟩,.int .i64 0,.bool false,.int .i64 0,.int .i64 0] 112
set_option maxHeartbeats 4000000 in
theorem Pm (v:Value)(l:List Az)(nx n:Int)(s:ByteArray)(w:World)(hv:MP w v l)(hl:l.length≤1000) :
 Calls Tryz.prog 123 #[Bq v nx,.int .i64 n,.string s] w (K6 l n s w):=by
 obtain⟨a,cap,rfl⟩:=hv.len;have cL:=fun w hv=>O9 (.slice a l.length cap) l nx n w hv hl
 obtain⟨m,hm⟩:∃m,l.length=m:=⟨_,rfl⟩;rw[hm]at hl hv ⊢;simp only[hm]at cL;have HT:Hid (DC ((w.alloc (.cells #[.slice a m cap,.int .i64 nx] 31)).alloc mM) w.heap.size (.slice a m cap) nx):=Aa (by
  unfold DC;rw[Ct _ _ _ (by simp)];exact Ai _ _)
 have HZ:Hid (((w.alloc (.cells #[.slice a m cap,.int .i64 nx] 31)).alloc mM).heap[w.heap.size+1]?=some mM):=Aa (heap_alloc2_new _ _ _);have HB:Hid (Below w.heap.size w ((w.alloc (.cells #[.slice a m cap,.int .i64 nx] 31)).alloc mM)):=Aa (((Ad _ _).alloc (Ae _) _).alloc (by simp) _);have hv0:=AL.kept hv HB.out;have HM:=Aa hm;clear hv hm;unfold Bq at cL ⊢;unfold mM at HT HZ HB hv0;unfold K6;obtain⟨F,hF⟩:∃F,BK l n s=F:=⟨_,rfl⟩;rw[hF];have ZZ:=Aa hF;clear hF;go_enter Tryz.func123,Tryz.ntmps123;have hc0:=HT.out.l.1;have hc1:=HT.out.l.2;go_wp2_with fail;generalize (w.alloc (.cells #[.slice a m cap,.int .i64 nx] 31)).alloc (.cells #[.string ⟨#[]⟩,.int .i64 0,.bool false,.int .i64 0,.int .i64 0] 112)=W0 at *;refine(cL _ hv0).mono ?_;rintro e w1 ⟨lv,rfl,hle,hb1⟩;have HB1:Hid (Below w.heap.size w w1):=Aa (HB.out.trans (hb1.mono HB.out.size));have HZ1:Hid (w1.heap[w.heap.size+1]?=_):=Aa ((hb1.block _ (Ab HZ.out)).trans HZ.out);clear hv0 hc0 hc1 hb1 cL;obtain⟨⟨q0,q1,q2,q3,q4⟩,⟨f0,f1,f2,f3,f4⟩⟩:=Aj HZ1.out;obtain⟨a2,cap2,rfl⟩:=hle.len;have HKB:Hid ((D6 l n).length≤1000):=Aa (Ao (pV l n) (by rw[HM.out];exact hl));have HF:Hid (F=match named (D6 l n) s with|some x=>(x,0)|none=>(H6,if A9 l n=0 then 5 else A9 l n)):=Aa (by rw[←ZZ.out];rfl);clear ZZ;generalize A9 l n=E at *;generalize D6 l n=L at *;obtain⟨k,hk⟩:∃k,L.length=k:=⟨_,rfl⟩;rw[hk]at hle ⊢;have Uo:=Aa hle;have HK:=Aa hk;clear hle hk;have hkb:k≤1000:=by have:=HKB.out;have:=HK.out;omega
 go_wp2;go_loopw [10] (fun iv wr=>∃i:Nat,i≤k∧iv=.int .i64 i∧named (L.drop i) s=named L s∧wr=w1) (fun iv _=>k-(intOf iv).toNat)
 case atStart=>exact⟨0,by omega,rfl,rfl,rfl⟩
 case round =>
  obtain⟨i,hi,rfl,hgo,rfl⟩:=hrel;have Ht:=Aa hgo;clear hgo;by_cases hik:i<k
  · have hiz:(i:Int)<(k:Int):=by omega
    obtain⟨x,hx⟩:∃x,L[i]?=some x:=⟨_,Co (by rw[HK.out];omega)⟩;obtain⟨g,off,rfl,hg,hr⟩:=Uo.out.at hx;obtain⟨d0,d1,d2,d3,d4⟩:=Ii hr;have HG:Hid (named L s=if x.name=s then some x else named (L.drop (i+1)) s):=Aa (by rw[←Ht.out,DK hx,bq]);clear hr hx hg;by_cases hnd:x.name=s
    · have Qs:Hid (F=(x,0)):=Aa (by rw[HF.out,HG.out,if_pos hnd]);obtain⟨nm,nd,dr,ck,sh⟩:=x;simp only at d0 d1 d2 d3 d4 hnd;subst hnd;go_wp2
      (try simp only[Exit.inBlock,Exit.then])
      refine Bv (v:=.tuple #[Di ⟨nm,nd,dr,ck,sh⟩,.int .i64 0]) ?_ rfl ⟨by rw[Qs.out],?_⟩
      · rw[CZ rfl];unfold Di;go_simp
      · exact((((HB1.out.setCell (D9 _) _).setCell (D9 _) _).setCell (D9 _) _).setCell (D9 _) _).setCell (D9 _) _
    · have HE2:Hid (named (L.drop (i+1)) s=named L s):=Aa (by rw[HG.out,if_neg hnd]);have e1:=Rs hnd;go_wp2;go_roundw
      case rel=>exact⟨i+1,by omega,by first|rfl|go_num,HE2.out,by first|rfl|trivial⟩
      case measure=>simp[intOf];omega
  · have hiz:¬(i:Int)<(k:Int):=by omega
    have HN:Hid (named L s=none):=Aa (by rw[←Ht.out,JW (by rw[HK.out];omega)];rfl);by_cases hE:E=0
    · subst hE;have Qs:Hid (F=(H6,5)):=Aa (by rw[HF.out,HN.out];rfl);go_wp2
      (try simp only[Exit.inBlock,Exit.then])
      refine Bv (v:=.tuple #[Di H6,.int .i64 5]) ?_ rfl ⟨by rw[Qs.out],?_⟩
      · rw[CZ rfl];unfold Di H6;go_simp
      · exact((((HB1.out.setCell (D9 _) _).setCell (D9 _) _).setCell (D9 _) _).setCell (D9 _) _).setCell (D9 _) _
    · have Qs:Hid (F=(H6,E)):=Aa (by rw[HF.out,HN.out];simp[hE]);have e1:(E==0)=false:=by rw[Ba];exact hE
      go_wp2
      (try simp only[Exit.inBlock,Exit.then])
      refine Bv (v:=.tuple #[Di H6,.int .i64 E]) ?_ rfl ⟨by rw[Qs.out],?_⟩
      · rw[CZ rfl];unfold Di H6;go_simp
      · exact((((HB1.out.setCell (D9 _) _).setCell (D9 _) _).setCell (D9 _) _).setCell (D9 _) _).setCell (D9 _) _
end Go.Proofs.YtdmkhmeaphaapaaGreat
namespace Go.Proofs.YtdmkhmeaphaapaaGreat
open Go.RowKit
def Hg (b:ByteArray):Bool:=(List.range b.size).all (fun k=>decide (Go.PlainAid.bt b k≠0∧Go.PlainAid.bt b k≠47))&&(decide (b.toList≠[])&&(decide (b.size≤255)&&(decide (b.toList≠[46])&&decide (b.toList≠[46,46]))))
set_option maxHeartbeats 2000000 in
theorem jk (b:ByteArray)(hs:b.size≤9223372036854775807)(w:World):Calls Tryz.prog 159 #[.string b] w fun e w'=>e=.returned (.bool (Hg b))∧w'=w:=by
 obtain⟨X,hX⟩:∃X,Hg b=X:=⟨_,rfl⟩;rw[hX];have H1:=Aa (show ∀k,k<b.size→(Go.PlainAid.bt b k=0∨Go.PlainAid.bt b k=47)→X=false from fun k hk h=>by
  rw[←hX];unfold Hg;rw[Bool.and_eq_false_iff];left;rw[List.all_eq_false];exact⟨k,List.mem_range.2 hk,by simp;omega⟩)
 have H2:=Aa (show(∀k,k<b.size→Go.PlainAid.bt b k≠0∧Go.PlainAid.bt b k≠47)→X=(decide (b.toList≠[])&&(decide (b.size≤255)&&(decide (b.toList≠[46])&&decide (b.toList≠[46,46])))) from fun h=>by
  rw[←hX];unfold Hg;rw[show(List.range b.size).all (fun k=>decide (Go.PlainAid.bt b k≠0∧Go.PlainAid.bt b k≠47))=true by
   rw[List.all_eq_true];exact fun k hk=>A8 (h k (List.mem_range.1 hk)),Bool.true_and])
 clear hX;go_enter Tryz.func159,Tryz.ntmps159;go_wp2;go_loop [3] (fun iv=>∃i:Nat,i≤b.size∧iv=.int .i64 i∧∀k,k<i→Go.PlainAid.bt b k≠0∧Go.PlainAid.bt b k≠47) (fun iv=>b.size-(intOf iv).toNat)
 case atStart=>exact⟨0,by omega,rfl,fun k hk=>by omega⟩
 case round =>
  obtain⟨i,hi,rfl,hno⟩:=hrel;have Z9:=Aa hno;clear hno;by_cases hlt:i<b.size
  · have hz:(i:Int)<(b.size:Int):=by omega
    have hB:=Go.PlainAid.get_bt b;obtain⟨A,hA⟩:∃A:Int,Go.PlainAid.bt b i=A:=⟨_,rfl⟩;have a0:0≤A:=by have:=Go.PlainAid.bt_nonneg b i;omega
    have a1:A≤255:=by have:=Go.PlainAid.bt_le b i;omega
    by_cases h0:A=0
    · have HX:=Aa (H1.out i hlt (Or.inl (hA.trans h0)));subst h0;go_wp2;go_ret;exact⟨by rw[HX.out];rfl,rfl⟩
    · by_cases h47:A=47
      · have HX:=Aa (H1.out i hlt (Or.inr (hA.trans h47)));subst h47;go_wp2;go_ret;exact⟨by rw[HX.out];rfl,rfl⟩
      · have HX:=Aa (show ∀k,k<i+1→Go.PlainAid.bt b k≠0∧Go.PlainAid.bt b k≠47 from fun k hk=>by
         by_cases e:k=i
         · subst e;rw[hA];exact⟨h0,h47⟩
         · exact Z9.out k (by omega))
        have e0:(A==0)=false:=by rw[Ba];exact h0
        have e47:(A==47)=false:=by rw[Ba];exact h47
        go_wp2;go_round
        case rel=>exact⟨i+1,by omega,by go_num,HX.out⟩
        case measure=>simp[intOf];omega
  · have hie:i=b.size:=by omega
    have HX:=Aa (H2.out (fun k hk=>Z9.out k (by omega)));have hge:¬((i:Int)<(b.size:Int)):=by omega
    clear hie hlt;by_cases p0:b.toList=[]
    · have HY:Hid (X=false):=Aa (by rw[HX.out];simp[p0]);clear HX;go_wp2;go_ret;exact⟨by rw[HY.out];rfl,rfl⟩
    · by_cases AbK:b.size≤255
      · have AbJ:(b.size:Int)≤255:=by omega
        by_cases p1:b.toList=[46]
        · have HY:Hid (X=false):=Aa (by rw[HX.out];simp[p1]);clear HX;go_wp2;go_ret;exact⟨by rw[HY.out];rfl,rfl⟩
        · by_cases p2:b.toList=[46,46]
          · have HY:Hid (X=false):=Aa (by rw[HX.out];simp[p2]);clear HX;go_wp2;go_ret;exact⟨by rw[HY.out];rfl,rfl⟩
          · have HY:Hid (X=true):=Aa (by rw[HX.out];simp[p0,p1,p2,AbK]);have q0:b.toList.isEmpty=false:=by rw[List.isEmpty_eq_false_iff];exact p0
            have q1:(b.toList==[46])=false:=by rw[Ba];exact p1
            have q2:(b.toList==[46,46])=false:=by rw[Ba];exact p2
            clear p0 p1 p2;clear HX;go_wp2;go_ret;exact⟨by rw[HY.out];rfl,rfl⟩
      · have AbJ:¬((b.size:Int)≤255):=by omega
        have HY:Hid (X=false):=Aa (by rw[HX.out];simp[AbK]);clear HX;go_wp2;go_ret;exact⟨by rw[HY.out];rfl,rfl⟩
end Go.Proofs.YtdmkhmeaphaapaaGreat
namespace Go.Proofs.YtdmkhmeaphaapaaGreat
open Go.RowKit Go.Sort
section
variable {α:Type}{f:α→List Value}{c:Nat}{P:Program}
structure MS (P:Program)(T e:TypeId)(c:Nat):Prop where
 under:P.underlying T=some (.slice e)
 info:∃i z bytes,P.info? e=some i∧i.zero=some z∧i.size=c∧i.bytes=bytes∧z.cells.size=c∧bytes≤200
 pos:0<c
theorem Mg {T e ty:TypeId}(E:MS P T e c)(B:Nat){w:World}{v:Value}{n:Nat}{xs:List Value}(hown:w.ownsRow B e c v n xs)(vx:Value)(l:List α)(hf:∀x∈l,(f x).length=c)(h1:∀x∈l,∀u∈f x,u.oneCell'=true)(hxs:AL f c w vx l)(hl:n+l.length≤100000)(hB:B≤w.heap.size) :
 ∃v' w',(Builtin.append_ #[T,T] ty #[v,vx]).run P w=.ok v' w'∧w'.ownsRow B e c v' (n+l.length) (xs++l.flatMap f)∧w.grownBy w' v.ownBlock∧(v'.ownBlock=v.ownBlock∨v'.ownBlock=some w.heap.size):=by
 obtain⟨i0,z,bytes,hi0,hz0,hz1,hz2,hz3,hby⟩:=E.info;have hform:∃a k cp,v=.slice a k cp∧k≤cp:=by
  rcases hown.2 with⟨hv,_⟩|⟨g,cap,cur,hv,_,_,h2,_⟩
  · exact⟨_,_,_,hv,Ae _⟩
  · exact⟨_,_,_,hv,h2⟩
 have full:∀(g off cap:Nat),(∀j x,l[j]?=some x→w.rangeAt g (off+j*c) (f x))→∃v' w',(Builtin.append_ #[T,T] ty #[v,.slice (some ⟨g,off,none⟩) l.length cap]).run P w=.ok v' w'∧w'.ownsRow B e c v' (n+l.length) (xs++l.flatMap f)∧w.grownBy w' v.ownBlock∧(v'.ownBlock=v.ownBlock∨v'.ownBlock=some w.heap.size):=fun g off cap hc=>by
  have hfl:=Hm f c l hf;obtain⟨v',w',hr,h2,h3,_,h5⟩:=run_append_own_at (P:=P) (w:=w) B T ty e i0 z c bytes E.under hi0 hz0 hz1 hz2 hz3 E.pos v n xs hown ⟨g,off,none⟩ l.length cap (l.flatMap f) hfl
   (by
    intro j u hj;have hlt:j<(l.flatMap f).length:=(DL.1 hj).1;rw[hfl]at hlt;have hq:j/c<l.length:=Nat.div_lt_of_lt_mul (by rw[Nat.mul_comm];exact hlt);obtain⟨x,hx⟩:∃x,l[j/c]?=some x:=⟨_,Co hq⟩;have Abw:=VP f c l (j/c) x hf hx;have hm:j%c<c:=Nat.mod_lt _ E.pos;have hje:j/c*c+j%c=j:=by rw[Nat.mul_comm];exact Nat.div_add_mod j c
    have hxj:(f x)[j%c]?=some u:=by
     rw[←Abw,JR,if_pos hm,I5,hje];exact hj
    have:=hc (j/c) x hx (j%c) u hxj;rw[Addr.add_mid,←this,Nat.add_assoc,hje])
   (by
    intro u hu;obtain⟨x,hx,hu⟩:=List.mem_flatMap.1 hu;exact h1 x hx u hu)
   (by unfold maxLen;omega)
   (by
    have:(n+l.length)*bytes≤100000*200:=Nat.mul_le_mul hl hby;omega) hB
  exact⟨v',w',hr,h2,h3,h5⟩
 rcases hxs with⟨rfl,a,cap,rfl⟩|⟨g,off,cap,hg,rfl,hc⟩
 · cases a with
   | none =>
    obtain⟨av,kv,cv,rfl,hkc⟩:=hform;have hr:=run_append_nothing (P:=P) w T T ty e i0 E.under hi0 av kv cv hkc (.slice none 0 cap) (Src.ofNil w E.under cap);refine⟨_,w,hr,?_,⟨rfl,rfl,rfl,Ae _,fun _ _ _=>rfl⟩,Or.inl rfl⟩;simpa using hown
   | some a =>
    obtain⟨av,kv,cv,rfl,hkc⟩:=hform;have hr:=run_append_nothing (P:=P) w T T ty e i0 E.under hi0 av kv cv hkc (.slice (some a) 0 cap) (Src.ofSlice w E.under a 0 cap [] (by simp) (fun j u hj=>by cases hj) (fun u hu=>by cases hu));refine⟨_,w,hr,?_,⟨rfl,rfl,rfl,Ae _,fun _ _ _=>rfl⟩,Or.inl rfl⟩;simpa using hown
 · exact full g off cap hc
theorem Bf {T e:TypeId}(E:MS P T e c){ops:Array Oper}{o:Oper}{a:Act}{w:World}{K:Act→World→Prop}{Q:Exit→Act→World→Prop}{F:Prop}(hgd:o.guard=none)(s x:Operand)(ho:o.op=.call { callee:=.builtin .append,args:=#[s,x],argTypes:=#[T,T] })
 (B:Nat) (v:Value) (n:Nat) (xs:List Value) (hs:a.eval s=v) (hown:w.ownsRow B e c v n xs) (vx:Value) (l:List α) (hf:∀x∈l,(f x).length=c) (h1:∀x∈l,∀u∈f x,u.oneCell'=true) (hx:a.eval x=vx) (hxs:AL f c w vx l) (hl:n+l.length≤100000) (hB:B≤w.heap.size)
 (h:∀v' w',w'.ownsRow B e c v' (n+l.length) (xs++l.flatMap f)→w.grownBy w' v.ownBlock→(v'.ownBlock=v.ownBlock∨v'.ownBlock=some w.heap.size)→K (a.put o.dst v') w') :
 if Region.wanted o (yielded ops a.tmps)=true then Oper.wp P o a w K Q else F:=by
 have hw:Region.wanted o (yielded ops a.tmps)=true:=by simp[Region.wanted,hgd]
 rw[if_pos hw];obtain⟨v',w',hr,h2,h3,h4⟩:=Mg (ty:=o.type) E B hown vx l hf h1 hxs hl hB;unfold Oper.wp execOp;simp only[ho,resolve,invoke,builtin,Sem.run_bind,Sem.run_pure,Result.andThen_ok,List.map_toArray,List.map_cons,List.map_nil,hs,hx,hr];exact h v' w' h2 h3 h4
theorem AY {T e:TypeId}(E:MS P T e c){ops:Array Oper}{rest:List Oper}{o:Oper}{a:Act}{w:World}{Q:Exit→Act→World→Prop}(hgd:o.guard=none)(s x:Operand)(ho:o.op=.call { callee:=.builtin .append,args:=#[s,x],argTypes:=#[T,T] })
 (B:Nat) (v:Value) (n:Nat) (xs:List Value) (hs:a.eval s=v) (hown:w.ownsRow B e c v n xs) (vx:Value) (l:List α) (hf:∀x∈l,(f x).length=c) (h1:∀x∈l,∀u∈f x,u.oneCell'=true) (hx:a.eval x=vx) (hxs:AL f c w vx l) (hl:n+l.length≤100000) (hB:B≤w.heap.size)
 (h:∀v' w',w'.ownsRow B e c v' (n+l.length) (xs++l.flatMap f)→w.grownBy w' v.ownBlock→(v'.ownBlock=v.ownBlock∨v'.ownBlock=some w.heap.size)→wpList P ops Q rest (a.put o.dst v') w'):wpList P ops Q (o::rest) a w:=
 wpList_plain hgd fun _ hK=>by
  obtain⟨v',w',hr,h2,h3,h4⟩:=Mg (ty:=o.type) E B hown vx l hf h1 hxs hl hB;unfold Oper.wp execOp;simp only[ho,resolve,invoke,builtin,Sem.run_bind,Sem.run_pure,Result.andThen_ok,List.map_toArray,List.map_cons,List.map_nil,hs,hx,hr];exact hK _ _ (h v' w' h2 h3 h4)
theorem AL.block {w:World}{g:Nat}{T:TypeId}{fr:Nat×Nat}{l:List α}(hf:∀x∈l,(f x).length=c)(h:w.heap[g]?=some (.cells (l.flatMap f).toArray T fr)):AL f c w (.slice (some ⟨g,0,none⟩) l.length l.length) l:=by
 refine Or.inr ⟨g,0,l.length,Ab h,rfl,fun j x hj=>?_⟩;rw[Gh];exact FK f c (R:=[]) hf hj (by rw[Cz];exact h)
theorem Io {B g:Nat}{T:TypeId}{W:World}(h:W.heap[g]?=some (.cells #[] T (0,0)))(hB:B≤g):W.ownsRow B T c (.slice (some ⟨g,0,none⟩) 0 0) 0 []:=
 ⟨by simp,Or.inr ⟨g,0,#[],rfl,hB,h,Ae _,Nat.zero_le _,by simp,by simp⟩⟩
end
def Bi (w:World)(v:Value)(l:List Az):Prop:=MP w v l∧∀g,v.ownBlock=some g→∃cs,w.heap[g]?=some (.cells cs 195 (0,0))
theorem Bi.kept {w w':World}{v:Value}{l:List Az}(h:Bi w v l)(hb:Below w.heap.size w w'):Bi w' v l:=⟨AL.kept h.1 hb,fun g hg=>by
 obtain⟨cs,hc⟩:=h.2 g hg;exact⟨cs,by rw[hb.block g (Ab hc)];exact hc⟩⟩
theorem Bi.nil (w:World):Bi w (.slice none 0 0) []:=⟨AL.nil _ _ _,fun g hg=>by cases hg⟩
theorem AL.only {α:Type}{f:α→List Value}{c:Nat}{w w':World}{v:Value}{l:List α}(h:AL f c w v l)(hs:w.heap.size≤w'.heap.size)(hb:∀g,v.ownBlock=some g→w'.heap[g]?=w.heap[g]?):AL f c w' v l:=by
 rcases h with h|⟨g,off,cap,hg,hv,hc⟩
 · exact Or.inl h
 · refine Or.inr ⟨g,off,cap,by omega,hv,fun j x hj k u hu=>?_⟩;rw[Fj (w:=w) (a:=⟨g,off+j*c+k,none⟩) (hb g (by rw[hv];rfl))];exact hc j x hj k u hu
theorem Bi.own {B:Nat}{w:World}{v:Value}{n:Nat}{l:List Az}(h:w.ownsRow B 195 6 v n (l.flatMap KM))(hn:n=l.length):Bi w v l:=by
 refine⟨AL.own (FI l) h hn,fun g hg=>?_⟩;rcases h.2 with⟨hv,_⟩|⟨g',cap,cur,hv,_,hb,_⟩
 · rw[hv]at hg;cases hg
 · rw[hv]at hg;obtain rfl:=BS hg;exact⟨_,hb⟩
theorem Bi.set {w:World}{v:Value}{l:List Az}(h:Bi w v l){b:Nat}(hb:v.ownBlock≠some b)(o:Nat)(x:Value):Bi (w.setCell ⟨b,o,none⟩ x) v l:=by
 have hk:∀g,v.ownBlock=some g→(w.setCell ⟨b,o,none⟩ x).heap[g]?=w.heap[g]?:=fun g hg=>Bw w ⟨b,o,none⟩ x g (fun e=>hb (by rw[hg,e]))
 refine⟨AL.only h.1 (by simp[World.setCell]) hk,fun g hg=>?_⟩;obtain⟨cs,hc⟩:=h.2 g hg;exact⟨cs,by rw[hk g hg];exact hc⟩
theorem Lh:MS Tryz.prog 29 195 6:=
 ⟨Tryz.underlying29,by
  have h:(Tryz.prog.info? 195).map (fun i=>(i.zero,i.size,i.bytes))=some (some (.agg #[.int .i64 0,.string ⟨#[]⟩,.int .i64 0,.bool false,.int .i64 0,.int .i64 0]),6,56):=by kernel_rfl
  obtain⟨i0,h1,h2,h3,h4⟩:=info_parts h;exact⟨i0,_,56,h1,h2,h3,h4,rfl,by decide⟩,by decide⟩
theorem Xz:MS Tryz.prog 86 112 5:=
 ⟨Tryz.underlying86,by
  have h:(Tryz.prog.info? 112).map (fun i=>(i.zero,i.size,i.bytes))=some (some (.agg #[.string ⟨#[]⟩,.int .i64 0,.bool false,.int .i64 0,.int .i64 0]),5,48):=by kernel_rfl
  obtain⟨i0,h1,h2,h3,h4⟩:=info_parts h;exact⟨i0,_,48,h1,h2,h3,h4,rfl,by decide⟩,by decide⟩
end Go.Proofs.YtdmkhmeaphaapaaGreat
