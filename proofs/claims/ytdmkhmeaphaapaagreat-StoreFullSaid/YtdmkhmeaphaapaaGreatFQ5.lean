/- Kit. -/
import Derived.Test.YtdmkhmeaphaapaaGreatFQ4
import Derived.Test.YtdmkhmeaphaapaaGreatFQ1
import Derived.Maps.OwnSet
import Derived.Maps.OwnOps
import Derived.Maps.Range
set_option maxRecDepth 100000
namespace Go.Proofs.YtdmkhmeaphaapaaGreat
open Go.RowKit Go.Sort
set_option linter.unusedVariables false
inductive Reach (all:List Itm):Int→Prop where
  | root:Reach all 0
  | step {x:Itm} (h:Reach all x.inn) (hx:x∈all) (hd:x.e.dir=true):Reach all x.e.node
structure MetI (all:List Itm)(met:List Int)(i k:Nat):Prop where
  nd:met.Nodup
  root:(0:Int)∈met
  re:∀m∈met,Reach all m
  sub:∀m∈met,m=0∨m∈all.map fun x=>x.e.node
  done:∀j,j<i→∀d,met[j]?=some d→∀x∈all,x.inn=d→x.e.dir=true→x.e.node∈met
  now:∀d,met[i]?=some d→∀x∈all.take k,x.inn=d→x.e.dir=true→x.e.node∈met
theorem nodup_sub_len:∀(l m:List Int),l.Nodup→(∀x∈l,x∈m)→l.length≤m.length
  | [],m,_,_=>Nat.zero_le _
  | x::l,m,hn,hs=>by
    obtain⟨h1,h2⟩:=List.nodup_cons.1 hn;have hx:x∈m:=hs x List.mem_cons_self;have ih:=nodup_sub_len l (m.erase x) h2 (fun y hy=>(List.mem_erase_of_ne (show y≠x from fun e=>h1 (by rw[←e];exact hy))).2 (hs y (List.mem_cons_of_mem _ hy)));rw[List.length_erase_of_mem hx]at ih;have:0<m.length:=List.length_pos_of_mem hx;rw[List.length_cons];omega
theorem MetI.skip {all:List Itm}{met:List Int}{i k:Nat}{x:Itm}{d:Int}(h:MetI all met i k)(hx:all[k]?=some x)(hd:met[i]?=some d)(hn:x.inn=d→x.e.dir=true→x.e.node∈met):MetI all met i (k+1):=by
  refine⟨h.nd,h.root,h.re,h.sub,h.done,fun d' hd' y hy h1 h2=>?_⟩;rw[take_snoc hx,List.mem_append,List.mem_singleton]at hy;rcases hy with hy|rfl
  · exact h.now d' hd' y hy h1 h2
  · rw[hd]at hd';obtain rfl:=Option.some.inj hd';exact hn h1 h2
theorem MetI.next {all:List Itm}{met:List Int}{i k:Nat}(h:MetI all met i k)(hk:all.length≤k):MetI all met (i+1) 0:=by
  refine⟨h.nd,h.root,h.re,h.sub,fun j hj d hd x hx h1 h2=>?_,fun d hd x hx=>by simp at hx⟩;by_cases e:j=i
  · subst e;exact h.now d hd x (by rw[List.take_of_length_le hk];exact hx) h1 h2
  · exact h.done j (by omega) d hd x hx h1 h2
end Go.Proofs.YtdmkhmeaphaapaaGreat
namespace Go.Proofs.YtdmkhmeaphaapaaGreat
open Go.RowKit Go.Sort Go.Maps
open Go.WideShapes
set_option linter.unusedVariables false
def rawR (v:Value):Option (DataW Value×List MemPlace):=some (.held v,[])
def inI64 (x:Int):Prop:=-9223372036854775808≤x∧x≤9223372036854775807
theorem inI64_wf {x:Int}(h:inI64 x):(Lit.int .i64 x).wf=true:=by
  unfold inI64 at h;simp[Lit.wf,IntKind.min,IntKind.max,IntKind.signed,IntKind.bits];omega
def MapF (P:Program)(k:TypeId)(w:World)(b n:Nat)(F:Int→Option Value)(c:Nat):Prop:=
  ∃D:DataW Value,w.ownsMap P k rawR b n D∧Maps.size D=c∧∀x,inI64 x→Maps.has D (.int .i64 x)=(F x).isSome∧∀v,F x=some v→∀z,D.atKey (.int .i64 x) z=.held v
def updF (F:Int→Option Value)(x:Int)(v:Option Value):Int→Option Value:=fun y=>if y=x then v else F y
section
variable {P:Program}{k e t:TypeId}{w w':World}{b n c:Nat}{F:Int→Option Value}
theorem MapF.lt (h:MapF P k w b n F c):b<w.heap.size:=by
  obtain⟨D,h,_⟩:=h;exact h.lt
theorem MapF.grown {row:Option Nat}(h:MapF P k w b n F c)(hg:w.grownBy w' row)(hne:some b≠row):MapF P k w' b n F c:=by
  obtain⟨D,h,hs⟩:=h;exact⟨D,h.kept hg hne,hs⟩
theorem MapF.below (h:MapF P k w b n F c)(hb:Below w.heap.size w w'):MapF P k w' b n F c:=
  h.grown (row:=none) ⟨hb.os,hb.tape,hb.output,hb.size,fun j hj _=>hb.block j hj⟩ (by simp)
theorem MapF.isMap (h:MapF P k w b n F c):∃es cl,w.heap[b]?=some (.map es cl):=by
  obtain⟨D,⟨es,cl,h,_⟩,_⟩:=h;exact⟨es,cl,h⟩
theorem MapF.made (w:World):MapF P k (w.alloc (.map #[] 0)) w.heap.size 0 (fun _=>none) 0:=
  ⟨.map [],World.ownsMap_made _ _ _ _,rfl,fun x hx=>⟨rfl,fun v hv=>by cases hv⟩⟩
theorem MapF.look (h:MapF P k w b n F c)(hk:P.underlying k=some (.int .i64))(ht:P.underlying t=some (.map k e)){z:Value}(hz:(zeroValue e).run P w=.ok z w){x:Int}(hx:inI64 x) :
    (Instr.lookup t (.map (some b)) (.int .i64 x) true).run P w=.ok (.tuple #[(F x).getD z,.bool (F x).isSome]) w∧(Instr.lookup t (.map (some b)) (.int .i64 x) false).run P w=.ok ((F x).getD z) w:=by
  obtain⟨D,h,_,hF⟩:=h;obtain⟨h1,h2⟩:=hF x hx;have hkey:=keyOf_int_mk hk (inI64_wf hx);have hv:∀v ps,rawR v=some (D.atKey (.int .i64 x) (.held z),ps)→v=(F x).getD z:=by
    intro v ps hv;unfold rawR at hv;have hv':DataW.held v=D.atKey (.int .i64 x) (.held z):=by
      injection hv with hv;injection hv
    cases hf:F x with
    | none =>
      rw[hf]at h1;rw[Maps.atKey_of_not_has h1]at hv';injection hv'
    | some u =>
      rw[h2 u hf]at hv';injection hv'
  constructor
  · obtain⟨v,ps,hr,hvv⟩:=h.look_ok (int_keyed hk) ht hz (zd:=.held z) (zp:=[]) rfl hkey;rw[hr,h1,hv v ps hvv]
  · obtain⟨v,ps,hr,hvv⟩:=h.lookup (int_keyed hk) ht hz (zd:=.held z) (zp:=[]) rfl hkey;rw[hr,hv v ps hvv]
theorem lit_ne {x y:Int}(h:y≠x):Lit.int .i64 y≠Lit.int .i64 x:=fun e=>by
  injection e with _ e;exact h e
theorem MapF.update (h:MapF P k w b n F c)(hk:P.underlying k=some (.int .i64))(ht:P.underlying t=some (.map k e))(hn:n<maxLen){x:Int}(hx:inI64 x)(v:Value) :
    ∃w',(Instr.mapUpdate t (.map (some b)) (.int .i64 x) v).run P w=.ok () w'∧MapF P k w' b (n+1) (updF F x (some v)) (if(F x).isSome=true then c else c+1)∧w.mapTurned w' b:=by
  obtain⟨D,h,hs,hF⟩:=h;have hkey:=keyOf_int_mk hk (inI64_wf hx);have hM:=h.isMap;have hT:=h.tidy (int_keyed hk);obtain⟨w',hr,h',hm⟩:=h.store (int_keyed hk) ht hn hkey (val:=v) (d:=.held v) (ps:=[]) rfl;refine⟨w',hr,⟨_,h',?_,fun y hy=>?_⟩,hm⟩
  · rw[Maps.size_put hT,(hF x hx).1,hs]
  · unfold updF;by_cases e:y=x
    · subst e;rw[if_pos rfl];exact⟨Maps.has_put_same hM (by simp[WideAt.IsKeyLit]) _,fun u hu z=>by
        rw[Maps.atKey_put_same hM (by simp[WideAt.IsKeyLit])];injection hu with hu;rw[hu]⟩
    · rw[if_neg e];exact⟨by rw[Maps.has_put_other (lit_ne e)];exact(hF y hy).1,fun u hu z=>by rw[Maps.atKey_put_other (lit_ne e)];exact(hF y hy).2 u hu z⟩
theorem MapF.len (h:MapF P k w b n F c)(ht:P.underlying t=some (.map k e))(ty:TypeId):(Builtin.len_ #[t] ty #[.map (some b)]).run P w=.ok (.int .i64 (c:Int)) w:=by
  obtain⟨D,h,hs,_⟩:=h;rw[h.len ht ty,hs]
end
end Go.Proofs.YtdmkhmeaphaapaaGreat
namespace Go.Proofs.YtdmkhmeaphaapaaGreat
open Go.RowKit Go.Sort
set_option linter.unusedVariables false
abbrev DirsG:=Int→Option (List Ent)
def allI (G:DirsG)(keys:List Int):List Itm:=keys.flatMap fun q=>((G q).getD []).map (Itm.mk q)
def thereI (G:DirsG)(keys:List Int):List Int:=keys.filter fun q=>(G q).isSome
def risingE (l:List Ent):Prop:=∀i x y,l[i]?=some x→l[i+1]?=some y→x.cookie<y.cookie
def clash (x y:Itm):Prop:=x.e.node=y.e.node∨x.e.cookie=y.e.cookie∨(x.inn=y.inn∧x.e.name=y.e.name)
instance (x y:Itm):Decidable (clash x y):=by unfold clash;infer_instance
def okItm (cookie:Int)(there:List Int)(x:Itm):Prop:=badE x.e.name x.e.short=0∧1≤x.e.node∧x.e.node≤200∧1≤x.e.cookie∧x.e.cookie<cookie∧decide (x.e.node∈there)=x.e.dir
instance (cookie:Int) (there:List Int) (x:Itm):Decidable (okItm cookie there x):=by unfold okItm;infer_instance
def apartTo (all:List Itm)(i:Nat):Prop:=∀j k x y,j<i→k<j→all[j]?=some x→all[k]?=some y→¬clash y x
structure Formed (cookie:Int)(G:DirsG)(keys:List Int):Prop where
  rise:∀q∈keys,∀l,G q=some l→risingE l
  pos:1≤cookie
  root:(0:Int)∈thereI G keys
  ok:∀x∈allI G keys,okItm cookie (thereI G keys) x
  apart:apartTo (allI G keys) (allI G keys).length
  reach:∀t∈thereI G keys,Reach (allI G keys) t
structure DirsAt (w:World)(b n:Nat)(F:Int→Option Value)(G:DirsG):Prop where
  f:∃c,MapF Tryz.prog 3 w b n F c
  g:∀x,inI64 x→match F x with
    | none=>G x=none
    | some v=>∃l,G x=some l∧EntsIs w v l
theorem DirsAt.below {w w':World}{b n:Nat}{F:Int→Option Value}{G:DirsG}(h:DirsAt w b n F G)(hb:Below w.heap.size w w'):DirsAt w' b n F G:=by
  obtain⟨c,hf⟩:=h.f;refine⟨⟨c,hf.below hb⟩,fun x hx=>?_⟩;have hg:=h.g x hx;cases hv:F x with
  | none=>rw[hv]at hg;exact hg
  | some v =>
    rw[hv]at hg;obtain⟨l,h1,h2⟩:=hg;exact⟨l,h1,h2.kept hb⟩
theorem DirsAt.no {w:World}{b n:Nat}{F:Int→Option Value}{G:DirsG}(h:DirsAt w b n F G){x:Int}(hx:inI64 x)(hv:F x=none):G x=none:=by
  have:=h.g x hx;rw[hv]at this;exact this
theorem DirsAt.yes {w:World}{b n:Nat}{F:Int→Option Value}{G:DirsG}(h:DirsAt w b n F G){x:Int}(hx:inI64 x){v:Value}(hv:F x=some v):∃l,G x=some l∧EntsIs w v l:=by
  have:=h.g x hx;rw[hv]at this;exact this
theorem DirsAt.look {w W:World}{b n:Nat}{F:Int→Option Value}{G:DirsG}(h:DirsAt w b n F G)(hb:Below w.heap.size w W){x:Int}(hx:inI64 x):∃v l,EntsIs w v l∧(G x).getD []=l∧(Instr.lookup 235 (.map (some b)) (.int .i64 x) true).run Tryz.prog W=.ok (.tuple #[v,.bool (G x).isSome]) W∧(Instr.lookup 235 (.map (some b)) (.int .i64 x) false).run Tryz.prog W=.ok v W:=by
  obtain⟨c,hf⟩:=h.f;obtain⟨h1,h2⟩:=(hf.below hb).look Tryz.underlying3 Tryz.underlying235 (z:=.slice none 0 0) (by kernel_rfl) hx;cases hv:F x with
  | none =>
    rw[hv]at h1 h2;refine⟨.slice none 0 0,[],LstIs.nil _ _ _,by rw[h.no hx hv];rfl,?_,h2⟩;rw[h.no hx hv];exact h1
  | some v =>
    rw[hv]at h1 h2;obtain⟨l,hl,he⟩:=h.yes hx hv;refine⟨v,l,he,by rw[hl];rfl,?_,h2⟩;rw[hl];exact h1
theorem LstIs.spot {α:Type}{f:α→List Value}{c:Nat}{w:World}{g off n cap:Nat}{l:List α}(h:LstIs f c w (.slice (some ⟨g,off,none⟩) n cap) l){j:Nat}{x:α}(hj:l[j]?=some x):w.rangeAt g (off+j*c) (f x):=by
  obtain⟨g',off',he,_,hr⟩:=h.at hj;injection he with he;injection he with e1 e2;subst e1 e2;exact hr
theorem link_empty (s:ByteArray)(sh:Int):linkI [] 1 0 s false sh=if badE s sh=0 then(([⟨0,⟨s,1,false,1,sh⟩⟩],2),1,0) else(([],1),0,badE s sh):=by
  unfold linkI;have h1:listE [] 0=0:=by decide
  have h2:(findI [] 0 s).2=5:=rfl;have h3:freeN []=1:=by decide
  rw[h1,h2,h3];by_cases h:badE s sh=0
  · rw[if_pos h,if_neg (by simp),if_neg (by rw[h];simp),if_neg (by simp),if_neg (by simp)];rfl
  · rw[if_neg h,if_neg (by simp),if_pos h]
theorem below_step {B:Nat}{W0 W W':World}(hB:B≤W0.heap.size)(h:Below B W0 W)(h':Below W.heap.size W W'):Below B W0 W':=h.trans (h'.mono (Nat.le_trans hB h.size))
end Go.Proofs.YtdmkhmeaphaapaaGreat
