/- Kit. -/
import Derived.Test.YtdmkhmeaphaapaaGreatCZ10
import Derived.Test.YtdmkhmeaphaapaaGreatCZ1
import Derived.Maps.OwnSet
import Derived.Maps.OwnOps
import Derived.Maps.Range
import Derived.Test.YtdmkhmeaphaapaaGreatCZ0
import Derived.Test.YtdmkhmeaphaapaaGreatCZ9
set_option maxRecDepth 100000
set_option linter.unusedVariables false
set_option linter.unusedSimpArgs false
namespace Go.Proofs.YtdmkhmeaphaapaaGreat
open Go.RowKit Go.Sort
inductive Reach (all:List Az):Int→Prop where
 | root:Reach all 0
 | step {x:Az} (h:Reach all x.BD) (hx:x∈all) (hd:x.e.dir=true):Reach all x.e.node
theorem EF:∀(l m:List Int),l.Nodup→(∀x∈l,x∈m)→l.length≤m.length
 | [],m,_,_=>Nat.zero_le _
 | x::l,m,hn,hs=>by
  obtain⟨h1,h2⟩:=List.nodup_cons.1 hn;have hx:x∈m:=hs x List.mem_cons_self;have ih:=EF l (m.erase x) h2 (fun y hy=>(List.mem_erase_of_ne (show y≠x from fun e=>h1 (by rw[←e];exact hy))).2 (hs y (List.mem_cons_of_mem _ hy)));rw[List.length_erase_of_mem hx]at ih;have:0<m.length:=List.length_pos_of_mem hx;rw[GY];omega
end Go.Proofs.YtdmkhmeaphaapaaGreat
namespace Go.Proofs.YtdmkhmeaphaapaaGreat
open Go.RowKit Go.Sort Go.Maps
open Go.WideShapes
def zX (v:Value):Option (DataW Value×List MemPlace):=some (.held v,[])
def Hf (x:Int):Prop:=-9223372036854775808≤x∧x≤9223372036854775807
theorem YX {x:Int}(h:Hf x):(Lit.int .i64 x).wf=true:=by
 unfold Hf at h;simp[Lit.wf,IntKind.min,IntKind.max,IntKind.signed,IntKind.bits];omega
def IV (P:Program)(k:TypeId)(w:World)(b n:Nat)(F:Int→Option Value)(c:Nat):Prop:=
 ∃D:DataW Value,w.ownsMap P k zX b n D∧Maps.size D=c∧∀x,Hf x→Maps.has D (.int .i64 x)=(F x).isSome∧∀v,F x=some v→∀z,D.atKey (.int .i64 x) z=.held v
def vw (F:Int→Option Value)(x:Int)(v:Option Value):Int→Option Value:=fun y=>if y=x then v else F y
section
variable {P:Program}{k e t:TypeId}{w w':World}{b n c:Nat}{F:Int→Option Value}
theorem IV.lt (h:IV P k w b n F c):b<w.heap.size:=by
 obtain⟨D,h,_⟩:=h;exact h.lt
theorem IV.grown {row:Option Nat}(h:IV P k w b n F c)(hg:w.grownBy w' row)(hne:some b≠row):IV P k w' b n F c:=by
 obtain⟨D,h,hs⟩:=h;exact⟨D,h.kept hg hne,hs⟩
theorem IV.below (h:IV P k w b n F c)(hb:Below w.heap.size w w'):IV P k w' b n F c:=
 h.grown (row:=none) ⟨hb.os,hb.tape,hb.output,hb.size,fun j hj _=>hb.block j hj⟩ (by simp)
theorem IV.isMap (h:IV P k w b n F c):∃es cl,w.heap[b]?=some (.map es cl):=by
 obtain⟨D,⟨es,cl,h,_⟩,_⟩:=h;exact⟨es,cl,h⟩
theorem IV.made (w:World):IV P k (w.alloc (.map #[] 0)) w.heap.size 0 (fun _=>none) 0:=
 ⟨.map [],World.ownsMap_made _ _ _ _,rfl,fun x hx=>⟨rfl,fun v hv=>by cases hv⟩⟩
theorem IV.look (h:IV P k w b n F c)(hk:P.underlying k=some (.int .i64))(ht:P.underlying t=some (.map k e)){z:Value}(hz:(zeroValue e).run P w=.ok z w){x:Int}(hx:Hf x) :
 (Instr.lookup t (.map (some b)) (.int .i64 x) true).run P w=.ok (.tuple #[(F x).getD z,.bool (F x).isSome]) w∧(Instr.lookup t (.map (some b)) (.int .i64 x) false).run P w=.ok ((F x).getD z) w:=by
 obtain⟨D,h,_,hF⟩:=h;obtain⟨h1,h2⟩:=hF x hx;have hkey:=keyOf_int_mk hk (YX hx);have hv:∀v ps,zX v=some (D.atKey (.int .i64 x) (.held z),ps)→v=(F x).getD z:=by
  intro v ps hv;unfold zX at hv;have hv':DataW.held v=D.atKey (.int .i64 x) (.held z):=by
   injection hv with hv;injection hv
  cases hf:F x with
  | none =>
   rw[hf]at h1;rw[Maps.atKey_of_not_has h1]at hv';injection hv'
  | some u =>
   rw[h2 u hf]at hv';injection hv'
 constructor
 · obtain⟨v,ps,hr,hvv⟩:=h.look_ok (int_keyed hk) ht hz (zd:=.held z) (zp:=[]) rfl hkey;rw[hr,h1,hv v ps hvv]
 · obtain⟨v,ps,hr,hvv⟩:=h.lookup (int_keyed hk) ht hz (zd:=.held z) (zp:=[]) rfl hkey;rw[hr,hv v ps hvv]
theorem pU {x y:Int}(h:y≠x):Lit.int .i64 y≠Lit.int .i64 x:=fun e=>by
 injection e with _ e;exact h e
theorem IV.update (h:IV P k w b n F c)(hk:P.underlying k=some (.int .i64))(ht:P.underlying t=some (.map k e))(hn:n<maxLen){x:Int}(hx:Hf x)(v:Value) :
 ∃w',(Instr.mapUpdate t (.map (some b)) (.int .i64 x) v).run P w=.ok () w'∧IV P k w' b (n+1) (vw F x (some v)) (if(F x).isSome=true then c else c+1)∧w.mapTurned w' b:=by
 obtain⟨D,h,hs,hF⟩:=h;have hkey:=keyOf_int_mk hk (YX hx);have hM:=h.isMap;have hT:=h.tidy (int_keyed hk);obtain⟨w',hr,h',hm⟩:=h.store (int_keyed hk) ht hn hkey (val:=v) (d:=.held v) (ps:=[]) rfl;refine⟨w',hr,⟨_,h',?_,fun y hy=>?_⟩,hm⟩
 · rw[Maps.size_put hT,(hF x hx).1,hs]
 · unfold vw;by_cases e:y=x
   · subst e;rw[if_pos rfl];exact⟨Maps.has_put_same hM (by simp[WideAt.IsKeyLit]) _,fun u hu z=>by
      rw[Maps.atKey_put_same hM (by simp[WideAt.IsKeyLit])];injection hu with hu;rw[hu]⟩
   · rw[if_neg e];exact⟨by rw[Maps.has_put_other (pU e)];exact(hF y hy).1,fun u hu z=>by rw[Maps.atKey_put_other (pU e)];exact(hF y hy).2 u hu z⟩
theorem IV.len (h:IV P k w b n F c)(ht:P.underlying t=some (.map k e))(ty:TypeId):(Builtin.len_ #[t] ty #[.map (some b)]).run P w=.ok (.int .i64 (c:Int)) w:=by
 obtain⟨D,h,hs,_⟩:=h;rw[h.len ht ty,hs]
end
end Go.Proofs.YtdmkhmeaphaapaaGreat
namespace Go.Proofs.YtdmkhmeaphaapaaGreat
open Go.RowKit Go.Sort
abbrev Cw:=Int→Option (List Br)
def allI (G:Cw)(keys:List Int):List Az:=keys.flatMap fun q=>((G q).getD []).map (Az.mk q)
def Jv (G:Cw)(keys:List Int):List Int:=keys.filter fun q=>(G q).isSome
def WO (l:List Br):Prop:=∀i x y,l[i]?=some x→l[i+1]?=some y→x.Al<y.Al
def clash (x y:Az):Prop:=x.e.node=y.e.node∨x.e.Al=y.e.Al∨(x.BD=y.BD∧x.e.name=y.e.name)
instance (x y:Az):Decidable (clash x y):=by unfold clash;infer_instance
def o7 (Al:Int)(there:List Int)(x:Az):Prop:=Ec x.e.name x.e.short=0∧1≤x.e.node∧x.e.node≤200∧1≤x.e.Al∧x.e.Al<Al∧decide (x.e.node∈there)=x.e.dir
instance (Al:Int) (there:List Int) (x:Az):Decidable (o7 Al there x):=by unfold o7;infer_instance
def XI (all:List Az)(i:Nat):Prop:=∀j k x y,j<i→k<j→all[j]?=some x→all[k]?=some y→¬clash y x
structure eG (Al:Int)(G:Cw)(keys:List Int):Prop where
 rise:∀q∈keys,∀l,G q=some l→WO l
 pos:1≤Al
 root:(0:Int)∈Jv G keys
 ok:∀x∈allI G keys,o7 Al (Jv G keys) x
 apart:XI (allI G keys) (allI G keys).length
 reach:∀t∈Jv G keys,Reach (allI G keys) t
structure LC (w:World)(b n:Nat)(F:Int→Option Value)(G:Cw):Prop where
 f:∃c,IV Tryz.prog 3 w b n F c
 g:∀x,Hf x→match F x with
  | none=>G x=none
  | some v=>∃l,G x=some l∧DD w v l
theorem LC.no {w:World}{b n:Nat}{F:Int→Option Value}{G:Cw}(h:LC w b n F G){x:Int}(hx:Hf x)(hv:F x=none):G x=none:=by
 have:=h.g x hx;rw[hv]at this;exact this
theorem LC.yes {w:World}{b n:Nat}{F:Int→Option Value}{G:Cw}(h:LC w b n F G){x:Int}(hx:Hf x){v:Value}(hv:F x=some v):∃l,G x=some l∧DD w v l:=by
 have:=h.g x hx;rw[hv]at this;exact this
theorem LC.look {w W:World}{b n:Nat}{F:Int→Option Value}{G:Cw}(h:LC w b n F G)(hb:Below w.heap.size w W){x:Int}(hx:Hf x):∃v l,DD w v l∧(G x).getD []=l∧(Instr.lookup 235 (.map (some b)) (.int .i64 x) true).run Tryz.prog W=.ok (.tuple #[v,.bool (G x).isSome]) W∧(Instr.lookup 235 (.map (some b)) (.int .i64 x) false).run Tryz.prog W=.ok v W:=by
 obtain⟨c,hf⟩:=h.f;obtain⟨h1,h2⟩:=(hf.below hb).look Tryz.underlying3 Tryz.underlying235 (z:=.slice none 0 0) (by kernel_rfl) hx;cases hv:F x with
 | none =>
  rw[hv]at h1 h2;refine⟨.slice none 0 0,[],AL.nil _ _ _,by rw[h.no hx hv];rfl,?_,h2⟩;rw[h.no hx hv];exact h1
 | some v =>
  rw[hv]at h1 h2;obtain⟨l,hl,he⟩:=h.yes hx hv;refine⟨v,l,he,by rw[hl];rfl,?_,h2⟩;rw[hl];exact h1
theorem AL.spot {α:Type}{f:α→List Value}{c:Nat}{w:World}{g off n cap:Nat}{l:List α}(h:AL f c w (.slice (some ⟨g,off,none⟩) n cap) l){j:Nat}{x:α}(hj:l[j]?=some x):w.rangeAt g (off+j*c) (f x):=by
 obtain⟨g',off',he,_,hr⟩:=h.at hj;injection he with he;injection he with e1 e2;subst e1 e2;exact hr
theorem bC (s:ByteArray)(sh:Int):D7 [] 1 0 s false sh=if Ec s sh=0 then(([⟨0,⟨s,1,false,1,sh⟩⟩],2),1,0) else(([],1),0,Ec s sh):=by
 unfold D7;have h1:A9 [] 0=0:=by decide
 have h2:(BK [] 0 s).2=5:=rfl;have h3:Hl []=1:=by decide
 rw[h1,h2,h3];by_cases h:Ec s sh=0
 · rw[if_pos h,if_neg (by simp),if_neg (by rw[h];simp),if_neg (by simp),if_neg (by simp)];rfl
 · rw[if_neg h,if_neg (by simp),if_pos h]
theorem Dk {B:Nat}{W0 W W':World}(hB:B≤W0.heap.size)(h:Below B W0 W)(h':Below W.heap.size W W'):Below B W0 W':=h.trans (h'.mono (Ao hB h.size))
abbrev J2:Obj:=.cells #[.slice none 0 0,.int .i64 0] 31
theorem NR (W:World):(W.alloc J2).heap[W.heap.size]?=some J2:=Ai _ _
theorem PV {W W':World}{q:Nat}(h:W.heap[q]?=some J2)(hb:Below W.heap.size W W'):W'.heap[q]?=some J2:=(hb.block q (Ab h)).trans h
theorem KI (t:Bool):kindOf t≠0:=by cases t<;>decide
theorem He (x:Az)(l:List Az)(n:Int):Cu (x::l) n=if x.e.node=n then kindOf x.e.dir else Cu l n:=QK x l n
theorem Fs (n:Int):∀l:List Az,Cu l n=0↔∀x∈l,x.e.node≠n
 | []=>⟨(fun _ x hx=>nomatch hx),fun _=>rfl⟩
 | x::l=>by
  rw[He];by_cases h:x.e.node=n
  · rw[if_pos h];exact⟨fun h1=>absurd h1 (KI _),fun h1=>absurd h (h1 x List.mem_cons_self)⟩
  · rw[if_neg h,Fs n l];exact⟨fun h1 y hy=>by
     rcases Em.1 hy with rfl|hy
     · exact h
     · exact h1 y hy,fun h1 y hy=>h1 y (List.mem_cons_of_mem _ hy)⟩
abbrev ET (l:List Az):List Int:=l.map fun x=>x.e.node
theorem JC {x:Az}:∀{l:List Az},(ET l).Nodup→x∈l→Cu l x.e.node=kindOf x.e.dir
 | [],_,h=>by cases h
 | y::l,hn,h=>by
  rw[He];rcases Em.1 h with rfl|h
  · rw[if_pos rfl]
  · have hn':=List.nodup_cons.1 hn;rw[if_neg (fun e=>hn'.1 (CG.2 ⟨x,h,e.symm⟩))];exact JC hn'.2 h
theorem VF {l:List Az}{n:Int}(h:Cu l n≠0):∃x∈l,x.e.node=n:=by
 apply Js;intro h1;exact h ((Fs n l).2 fun x hx e=>h1 ⟨x,hx,e⟩)
theorem QI (x:Az)(n:Int):∀l:List Az,Cu (l++[x]) n=if Cu l n=0 then(if x.e.node=n then kindOf x.e.dir else 0) else Cu l n
 | []=>by rw[G5,He];rfl
 | y::l=>by
  rw[List.cons_append,He,He,QI x n l];by_cases h:y.e.node=n
  · rw[if_pos h,if_pos h,if_neg (KI _)]
  · rw[if_neg h,if_neg h]
theorem Dz {l:List Az}{d:Int}{e:Br}:e∈Ak l d↔∃x∈l,x.BD=d∧x.e=e:=by
 unfold Ak;rw[CG];exact⟨fun⟨x,hx,he⟩=>by
  rw[List.mem_filter]at hx;exact⟨x,hx.1,FL hx.2,he⟩,fun⟨x,hx,hd,he⟩=>⟨x,List.mem_filter.2 ⟨hx,A8 hd⟩,he⟩⟩
structure Aq (l:List Az)(nx:Int):Prop where
 node:∀x∈l,1≤x.e.node∧x.e.node≤200
 nd:(ET l).Nodup
 BD:∀x∈l,AP l x.BD=2
 form:∀x∈l,Ec x.e.name x.e.short=0
 names:l.Pairwise fun x y=>x.BD=y.BD→x.e.name≠y.e.name
 Ho:∀x∈l,1≤x.e.Al∧x.e.Al<nx
 rise:l.Pairwise fun x y=>(x.BD=y.BD→x.e.Al<y.e.Al)∧x.e.Al≠y.e.Al
 low:∃H:Nat→Nat,∀x∈l,H x.e.node.toNat<H x.BD.toNat
 Ml:1≤nx
def Bo (l:List Az):Nat→Int:=fun n=>AP l (n:Int)
def Bh (l:List Az):Nat→List Br:=fun n=>Ak l (n:Int)
section
variable {l:List Az}{nx:Int}
theorem Aq.far (h:Aq l nx){d:Int}(hd:d<0∨200<d):AP l d=0:=by
 unfold AP;rw[if_neg (by omega),Fs];intro x hx e;have:=h.node x hx;omega
theorem Aq.open' (h:Aq l nx)(d:Int):Du (Bo l) d=A9 l d:=by
 unfold Du A9;by_cases hd:d<0∨200<d
 · rw[if_pos hd,h.far hd];rfl
 · rw[if_neg hd];unfold Bo;rw[show((d.toNat:Nat):Int)=d by omega];rcases J5 l d with h0|h0|h0<;>rw[h0]<;>rfl
theorem Aq.dir (h:Aq l nx){d:Int}(hd:A9 l d=0):∃n:Nat,d=(n:Int)∧n≤200∧Bo l n=2:=G9 (by rw[h.open'];exact hd)
theorem Aq.AbN (h:Aq l nx)(d:Int)(s:ByteArray):PY (Bo l) (Bh l) d s=BK l d s:=by
 unfold PY BK D6;rw[h.open'];by_cases hd:A9 l d=0
 · obtain⟨n,rfl,hn,_⟩:=h.dir hd;rw[if_pos hd,if_pos hd];unfold Bh;rw[DY];simp only[if_pos hd];cases named (Ak l (n:Int)) s<;>rfl
 · rw[if_neg hd,if_neg hd];have:named [] s=none:=rfl;rw[this];simp only[if_neg hd]
theorem Aq.len (h:Aq l nx):l.length≤200:=by
 have h1:(ET l).length≤((List.range 200).map fun n=>((n+1:Nat):Int)).length:=EF _ _ h.nd (fun y hy=>by
  obtain⟨x,hx,rfl⟩:=CG.1 hy;have:=h.node x hx;exact CG.2 ⟨(x.e.node-1).toNat,List.mem_range.2 (by omega),by omega⟩)
 simpa using h1
theorem Aq.Nt (h:Aq l nx)(n:Nat):(Bh l n).length≤200:=Ao (IK l _) h.len
def BI (l:List Az):List Bool:=(List.range 201).map fun n=>decide (n≠0∧Bo l n≠0)
theorem G7 (l:List Az){n:Nat}(h:n≤200)(d:Bool):(BI l).getD n d=decide (n≠0∧Bo l n≠0):=by
 unfold BI;rw[Gi,GZ,List.getElem?_range (by omega)];rfl
theorem OC (l:List Az):∀k n,1≤n→n+k≤201→(GH (BI l) k n:Int)=F8 l k n
 | 0,n,_,_=>rfl
 | k+1,n,h1,h2=>by
  unfold GH F8;rw[G7 l (by omega)];by_cases h:AP l (n:Int)=0
  · rw[if_pos h,if_pos (Bb (fun hc=>hc.2 h))]
  · rw[if_neg h,if_neg (by rw[A8 ⟨by omega,h⟩];simp)];exact OC l k (n+1) (by omega) (by omega)
theorem iO (l:List Az):(Ie 200 (BI l):Int)=Hl l:=OC l 200 1 (by omega) (by omega)
theorem Ua (row:List Bool):∀k n,Ja row k n=((List.range' n k).filter fun j=>row.getD j false).length
 | 0,n=>rfl
 | k+1,n=>by
  unfold Ja;rw[List.range'_succ,List.filter_cons,Ua row k (n+1)];by_cases h:row.getD n false=true
  · rw[if_pos h,if_pos h,GY];omega
  · rw[if_neg h,if_neg h];omega
theorem Aq.count (h:Aq l nx):Kt 200 (BI l)=l.length:=by
 unfold Kt;rw[Ua];have hp:((List.range' 1 200).filter fun j=>(BI l).getD j false).Perm ((ET l).map Int.toNat):=by
  rw[List.perm_ext_iff_of_nodup (List.Pairwise.filter _ List.nodup_range')
   (by
    have h1:((ET l).map Int.toNat).Pairwise (·≠·):=by
     rw[List.pairwise_map];refine List.Pairwise.imp_of_mem ?_ h.nd;intro a b ha hb hne e;obtain⟨x,hx,rfl⟩:=CG.1 ha;obtain⟨y,hy,rfl⟩:=CG.1 hb;have:=h.node x hx;have:=h.node y hy;exact hne (by omega)
    exact h1)]
  intro n;rw[List.mem_filter,List.mem_range'];constructor
  · rintro⟨⟨i,hi,rfl⟩,h2⟩;rw[G7 l (by omega)]at h2;have h3:=(FL h2).2;unfold Bo AP at h3;rw[if_neg (by omega)]at h3;obtain⟨x,hx,he⟩:=VF h3;exact CG.2 ⟨x.e.node,CG.2 ⟨x,hx,rfl⟩,by omega⟩
  · intro h2;obtain⟨y,hy,rfl⟩:=CG.1 h2;obtain⟨x,hx,rfl⟩:=CG.1 hy;have h3:=h.node x hx;refine⟨⟨x.e.node.toNat-1,by omega,by omega⟩,?_⟩;rw[G7 l (by omega),A8];refine⟨by omega,?_⟩;unfold Bo AP;rw[show((x.e.node.toNat:Nat):Int)=x.e.node by omega,if_neg (by omega),JC h.nd hx];exact KI _
 have:=hp.length_eq;simpa using this
theorem Po (l:List Az):∀n,Eg (Bo l) n=Cb l n
 | 0=>rfl
 | n+1=>by
  unfold Eg;rw[MG,Po l n];rfl
theorem Lj (l:List Az)(d:Int):J6 l d=decide (0<(Ak l d).length):=by
 rw[Bool.eq_iff_iff,LU,List.length_pos_iff_exists_mem];unfold J6;rw[List.any_eq_true];exact⟨fun⟨x,hx,h⟩=>⟨x.e,Dz.2 ⟨x,hx,FL h,rfl⟩⟩,fun⟨e,he⟩=>by
  obtain⟨x,hx,h,_⟩:=Dz.1 he;exact⟨x,hx,A8 h⟩⟩
theorem Aq.names' (h:Aq l nx)(d:Int):(Ak l d).Pairwise fun a b=>a.name≠b.name:=by
 unfold Ak;rw[List.pairwise_map];refine List.Pairwise.imp_of_mem ?_ (List.Pairwise.filter _ h.names);intro a b ha hb hab;have h1:=FL (List.mem_filter.1 ha).2;have h2:=FL (List.mem_filter.1 hb).2;exact hab (h1.trans h2.symm)
end
theorem KJ (l:List Az)(n:Nat):Bo l n=if(n:Int)=0 then 2 else Cu l (n:Int):=rfl
theorem IE (l:List Az){n:Int}(h:0≤n):Bo l n.toNat=AP l n:=by
 unfold Bo;rw[show((n.toNat:Nat):Int)=n by omega]
theorem O3 {α:Type}{R:α→α→Prop}:∀{l:List α},l.Pairwise R→∀{a b:α},a∈l→b∈l→a≠b→R a b∨R b a
 | [],_,a,b,h,_,_=>by cases h
 | x::l,hp,a,b,ha,hb,hne=>by
  have hc:=List.pairwise_cons.1 hp;rcases Em.1 ha with e1|h1
  · rcases Em.1 hb with e2|h2
    · exact absurd (e1.trans e2.symm) hne
    · rw[e1];exact Or.inl (hc.1 b h2)
  · rcases Em.1 hb with e2|h2
    · rw[e2];exact Or.inr (hc.1 a h1)
    · exact O3 hc.2 h1 h2 hne
section
variable {l:List Az}{nx:Int}
theorem Qe (h:Aq l nx){x:Az}(hx:x∈l):AP l x.e.node=kindOf x.e.dir:=by
 unfold AP;rw[if_neg (by have:=h.node x hx;omega),JC h.nd hx]
theorem Zn (l:List Az)(x:Az)(d:Int):Ak (l++[x]) d=Ak l d++(if x.BD=d then [x.e] else []):=by
 unfold Ak;rw[List.filter_append,List.map_append];by_cases h:x.BD=d
 · rw[if_pos h];simp[h]
 · rw[if_neg h];simp[h]
theorem Oh (l:List Az)(d:Nat)(e:Br):Bh (l++[⟨(d:Int),e⟩])=upd (Bh l) d (Bh l d++[e]):=by
 funext n;unfold Bh upd;rw[Zn];by_cases h:n=d
 · subst h;rw[if_pos rfl,if_pos rfl]
 · rw[if_neg h,if_neg (by simp;omega),Cz]
theorem Lg (l:List Az)(d:Int)(e:Br){nd:Nat}(he:e.node=(nd:Int))(h1:1≤nd)(h0:Bo l nd=0):Bo (l++[⟨d,e⟩])=upd (Bo l) nd (kindOf e.dir):=by
 funext n;unfold upd;rw[KJ,if_neg (by omega)]at h0;rw[KJ,KJ];by_cases hz:(n:Int)=0
 · rw[if_pos hz,if_neg (by omega),if_pos hz]
 · rw[if_neg hz,QI];simp only[he];by_cases h:n=nd
   · subst h;rw[h0,if_pos rfl,if_pos rfl,if_pos rfl]
   · rw[if_neg h,if_neg hz];by_cases hk:Cu l (n:Int)=0
     · rw[if_pos hk,if_neg (by omega),hk]
     · rw[if_neg hk]
theorem Qv {l l':List Az}{nd:Nat}{x:Bool}(h2:nd≤200)(hx:decide (nd≠0∧Bo l' nd≠0)=x)(h:∀n,n≠nd→(Bo l' n=0↔Bo l n=0)):BI l'=(BI l).set nd x:=by
 apply List.ext_getElem?;intro n;by_cases hn:n≤200
 · have g:∀m:List Az,(BI m)[n]?=some (decide (n≠0∧Bo m n≠0)):=fun m=>by
    unfold BI;rw[GZ,List.getElem?_range (by omega)];rfl
   by_cases e:n=nd
   · subst e;rw[g,hx,List.getElem?_set_self (by unfold BI;rw[DW,List.length_range];omega)]
   · rw[g,Jr (fun e'=>e e'.symm),g];congr 1;rw[decide_eq_decide];have:=h n e;exact and_congr_right (fun _=>not_congr this)
 · have len:∀m:List Az,(BI m).length=201:=fun m=>by unfold BI;simp
   rw[List.getElem?_eq_none (by rw[len];omega),List.getElem?_eq_none (by rw[List.length_set,len];omega)]
theorem Ww {l l':List Az}(h:∀n:Nat,(Bo l' n=0↔Bo l n=0)):BI l'=BI l:=by
 unfold BI;apply List.map_congr_left;intro n _;rw[decide_eq_decide];exact and_congr_right (fun _=>not_congr (h n))
theorem Jk {α:Type}{R:α→α→Prop}{l:List α}{x:α}(h:l.Pairwise R)(hx:∀y∈l,R y x):(l++[x]).Pairwise R:=by
 rw[List.pairwise_append];exact⟨h,List.pairwise_singleton _ _,fun a ha b hb=>by
  obtain rfl:=Cn.1 hb;exact hx a ha⟩
theorem Qd {l:List Az}{d:Int}(h:A9 l d=0):AP l d=2:=by
 unfold A9 at h;rcases J5 l d with h0|h0|h0
 · rw[if_pos h0]at h;omega
 · rw[if_neg (by omega),if_pos h0]at h;omega
 · exact h0
theorem fQ {l:List Az}{d:Int}{s:ByteArray}(hd:A9 l d=0)(h:(BK l d s).2≠0):∀x∈l,x.BD=d→x.e.name≠s:=by
 intro x hx hi hs;unfold BK D6 at h;rw[if_pos hd]at h;cases hn:named (Ak l d) s with
 | none =>
  unfold named at hn;rw[List.find?_eq_none]at hn;exact hn x.e (Dz.2 ⟨x,hx,hi,rfl⟩) (A8 hs)
 | some y =>
  rw[hn]at h;exact h rfl
theorem found {l:List Az}{d:Int}{s:ByteArray}(h:(BK l d s).2=0):A9 l d=0∧named (Ak l d) s=some (BK l d s).1∧(⟨d,(BK l d s).1⟩:Az)∈l∧(BK l d s).1.name=s:=by
 have hd:A9 l d=0:=by
  apply Js;intro hd;unfold BK D6 at h;rw[if_neg hd]at h;have hn:named [] s=none:=rfl;rw[hn]at h;simp only[if_neg hd]at h;exact hd h
 unfold BK D6 at h ⊢;rw[if_pos hd]at h ⊢;cases hn:named (Ak l d) s with
 | none =>
  rw[hn]at h;simp only[if_pos hd]at h;omega
 | some y =>
  unfold named at hn;have h1:=List.find?_some hn;obtain⟨x,hx,hi,he⟩:=Dz.1 (List.mem_of_find?_eq_some hn);refine⟨hd,rfl,?_,FL h1⟩;obtain⟨i,e⟩:=x;simp only at hi he;subst hi;subst he;exact hx
theorem Aq.mono (h:Aq l nx){m:Int}(hm:nx≤m):Aq l m:=⟨h.node,h.nd,h.BD,h.form,h.names,fun x hx=>⟨(h.Ho x hx).1,by have:=(h.Ho x hx).2;omega⟩,h.rise,h.low,by have:=h.Ml;omega⟩
theorem Aq.link (h:Aq l nx){d:Nat}{s:ByteArray}{Bg:Bool}{sh:Int}(hd:A9 l (d:Int)=0)(hb:Ec s sh=0)(hn:(BK l d s).2≠0){nd:Nat}(h1:1≤nd)(h2:nd≤200)(h0:Bo l nd=0):Aq (Dq l nx (d:Int) ⟨s,(nd:Int),Bg,0,sh⟩) (nx+1):=by
 have hk:=Lg l (d:Int) ⟨s,(nd:Int),Bg,nx,sh⟩ (nd:=nd) rfl h1 h0;have hfr:∀x∈l,x.e.node≠(nd:Int):=by
  unfold Bo AP at h0;rw[if_neg (by omega)]at h0;exact(Fs _ _).1 h0
 have hkk:∀n:Int,AP l n=2→AP (l++[⟨(d:Int),⟨s,(nd:Int),Bg,nx,sh⟩⟩]) n=2:=fun n hn=>by
  have hb:0≤n:=by
   apply Js;intro hc;have:=h.far (d:=n) (by omega);omega
  have h3:=congrFun hk n.toNat;rw[IE _ hb]at h3;unfold upd at h3;rw[h3,if_neg (fun e=>by
   rw[←e,IE _ hb,hn]at h0;omega),IE _ hb]
  exact hn
 obtain⟨H,hH⟩:=h.low;have mem:∀x∈Dq l nx (d:Int) ⟨s,(nd:Int),Bg,0,sh⟩,x∈l∨x=⟨(d:Int),⟨s,(nd:Int),Bg,nx,sh⟩⟩:=fun x hx=>by
  rcases EI.1 hx with hx|hx
  · exact Or.inl hx
  · exact Or.inr (Cn.1 hx)
 refine⟨fun x hx=>?_,?_,fun x hx=>?_,fun x hx=>?_,?_,fun x hx=>?_,?_,⟨fun n=>if n=nd then 0 else H n+1,fun x hx=>?_⟩,by have:=h.Ml;omega⟩
 · rcases mem x hx with hx|rfl
   · exact h.node x hx
   · exact⟨by show(1:Int)≤(nd:Int);omega,by show(nd:Int)≤200;omega⟩
 · show(ET (l++[_])).Nodup
   unfold ET;rw[List.map_append];exact Jk h.nd (fun y hy e=>by
    obtain⟨x,hx,rfl⟩:=CG.1 hy;exact hfr x hx e)
 · rcases mem x hx with hx|rfl
   · exact hkk _ (h.BD x hx)
   · exact hkk _ (Qd hd)
 · rcases mem x hx with hx|rfl
   · exact h.form x hx
   · exact hb
 · exact Jk h.names (fun y hy e=>fQ hd hn y hy e)
 · rcases mem x hx with hx|rfl
   · have:=h.Ho x hx;exact⟨this.1,by omega⟩
   · exact⟨h.Ml,by show nx<nx+1;omega⟩
 · exact Jk h.rise (fun y hy=>⟨fun _=>(h.Ho y hy).2,by have:=(h.Ho y hy).2;show y.e.Al≠nx;omega⟩)
 · rcases mem x hx with hx|rfl
   · have e1:x.e.node.toNat≠nd:=by have:=hfr x hx;have:=h.node x hx;omega
     have e2:x.BD.toNat≠nd:=fun e=>by
      have h5:=h.BD x hx;have:0≤x.BD:=by
       apply Js;intro hc;have:=h.far (d:=x.BD) (by omega);omega
      unfold Bo at h0;rw[←e,show((x.BD.toNat:Nat):Int)=x.BD by omega,h5]at h0;omega
     simp only[if_neg e1,if_neg e2];have:=hH x hx;omega
   · have e2:d≠nd:=fun e=>by
      have h5:=Qd hd;unfold Bo at h0;rw[←e,h5]at h0;omega
     simp only[Int.toNat_natCast,if_neg e2,if_true];omega
theorem Mq (h:Aq l nx){x:Az}(hx:x∈l):∀y,y∈Bu l x.BD x.e.name↔y∈l∧y≠x:=by
 intro y;unfold Bu;rw[List.mem_filter];constructor
 · rintro⟨hy,h2⟩;refine⟨hy,fun e=>?_⟩;subst e;simp at h2
 · rintro⟨hy,hne⟩;refine⟨hy,?_⟩;have:¬(y.BD=x.BD∧y.e.name=x.e.name):=fun⟨e1,e2⟩=>by
    rcases O3 h.names hy hx hne with h1|h1
    · exact h1 e1 e2
    · exact h1 e1.symm e2.symm
   simp only[Bool.not_eq_true',Bool.and_eq_false_iff,decide_eq_false_iff_not];by_cases e1:y.BD=x.BD
   · exact Or.inr (fun e2=>this ⟨e1,e2⟩)
   · exact Or.inl e1
theorem TV (l:List Az)(d:Int)(s:ByteArray):(Bu l d s).Sublist l:=List.filter_sublist
theorem QJ (h:Aq l nx){x:Az}(hx:x∈l)(n:Int):Cu (Bu l x.BD x.e.name) n=if n=x.e.node then 0 else Cu l n:=by
 by_cases hn:n=x.e.node
 · rw[if_pos hn,Fs];intro y hy e;obtain⟨h1,h2⟩:=(Mq h hx y).1 hy;rcases O3 (List.pairwise_map.1 h.nd) h1 hx h2 with h3|h3
   · exact h3 (e.trans hn)
   · exact h3 (e.trans hn).symm
 · rw[if_neg hn];by_cases hk:Cu l n=0
   · rw[hk,Fs];intro y hy;exact(Fs n l).1 hk y ((Mq h hx y).1 hy).1
   · obtain⟨y,hy,rfl⟩:=VF hk;rw[JC h.nd hy];exact JC ((List.Sublist.map _ (TV l _ _)).nodup h.nd) ((Mq h hx y).2 ⟨hy,fun e=>hn (by rw[e])⟩)
theorem NY (h:Aq l nx){x:Az}(hx:x∈l):Bo (Bu l x.BD x.e.name)=upd (Bo l) x.e.node.toNat 0:=by
 have hnn:=h.node x hx;funext n;unfold upd;rw[KJ,KJ];by_cases hz:(n:Int)=0
 · rw[if_pos hz,if_pos hz,if_neg (by omega)]
 · rw[if_neg hz,if_neg hz,QJ h hx];by_cases e:n=x.e.node.toNat
   · rw[if_pos e,if_pos (by omega)]
   · rw[if_neg e,if_neg (by omega)]
theorem TN:∀{L:List Br} {i:Nat} {s:ByteArray} {x:Br},(L.Pairwise fun a b=>a.name≠b.name)→L[i]?=some x→x.name=s→L.filter (fun y=>decide (y.name≠s))=L.eraseIdx i
 | [],i,s,x,_,h,_=>by cases h
 | y::L,0,s,x,hp,h,hs=>by
  injection h with h;subst h;rw[List.filter_cons,if_neg (by simp[hs]),List.eraseIdx_cons_zero];rw[List.filter_eq_self];intro z hz;have:=(List.pairwise_cons.1 hp).1 z hz;rw[hs]at this;exact A8 (Ne.symm this)
 | y::L,i+1,s,x,hp,h,hs=>by
  rw[List.getElem?_cons_succ]at h;have hne:=(List.pairwise_cons.1 hp).1 x (CU h);rw[List.filter_cons,if_pos (A8 (by rw[←hs];exact hne)),List.eraseIdx_cons_succ,TN (List.pairwise_cons.1 hp).2 h hs]
theorem TP (h:Aq l nx){d:Nat}{s:ByteArray}{i:Nat}{x:Br}(hx:(Bh l d)[i]?=some x)(hs:x.name=s):Bh (Bu l (d:Int) s)=upd (Bh l) d ((Bh l d).eraseIdx i):=by
 funext n;unfold upd;by_cases e:n=d
 · subst e;have he:=TN (h.names' n) hx hs;rw[if_pos rfl];refine Eq.trans ?_ he;unfold Bh Ak Bu;rw[List.filter_filter,List.filter_map,List.filter_filter];congr 1;apply List.filter_congr;intro y _;by_cases h1:y.BD=(n:Int)<;>by_cases h2:y.e.name=s<;>simp[h1,h2]
 · rw[if_neg e];unfold Bh Ak Bu;rw[List.filter_filter];congr 1;apply List.filter_congr;intro y _;by_cases h1:y.BD=(n:Int)
   · have:y.BD≠(d:Int):=by omega
     simp[h1];omega
   · simp[h1]
theorem Aq.unlink (h:Aq l nx){x:Az}(hx:x∈l)(he:Ak l x.e.node=[]):Aq (Bu l x.BD x.e.name) nx:=by
 have hsub:=TV l x.BD x.e.name;obtain⟨H,hH⟩:=h.low;refine⟨fun y hy=>h.node y (hsub.subset hy),(hsub.map _).nodup h.nd,fun y hy=>?_,fun y hy=>h.form y (hsub.subset hy),h.names.sublist hsub,fun y hy=>h.Ho y (hsub.subset hy),h.rise.sublist hsub,⟨H,fun y hy=>hH y (hsub.subset hy)⟩,h.Ml⟩;have hy':=hsub.subset hy;have hi:=h.BD y hy';have hne:y.BD≠x.e.node:=fun e=>by
  have:y.e∈Ak l x.e.node:=Dz.2 ⟨y,hy',e,rfl⟩;rw[he]at this;cases this
 unfold AP at hi ⊢;by_cases hz:y.BD=0
 · rw[if_pos hz]
 · rw[if_neg hz]at hi ⊢;rw[QJ h hx,if_neg hne];exact hi
end
inductive Up (l:List Az)(x:Int):Int→Prop
 | here:Up l x x
 | step (y:Az):y∈l→Up l x y.BD→Up l x y.e.node
theorem Up.snoc {l:List Az}{n m:Int}(h:Up l m n):∀{y:Az},y∈l→y.e.node=m→Up l y.BD n:=by
 induction h with
 | here=>intro y hy e;rw[←e];exact Up.step y hy Up.here
 | step z hz _ ih=>intro y hy e;exact Up.step z hz (ih hy e)
section
variable {l:List Az}{nx:Int}
theorem Aq.KN (h:Aq l nx){x:Az}(hx:x∈l):0≤x.BD∧x.BD≤200:=by
 have h5:=h.BD x hx;constructor
 · apply Js;intro hc;have:=h.far (d:=x.BD) (by omega);omega
 · apply Js;intro hc;have:=h.far (d:=x.BD) (by omega);omega
theorem F4 {n:Int}{y:Az}(h:nodeAt l n=some y):y∈l∧y.e.node=n:=by
 unfold nodeAt at h;have h1:=List.find?_some h;exact⟨List.mem_of_find?_eq_some h,FL h1⟩
theorem gq (l:List Az)(x:Int):∀k n,loopGo l x k n=true→Up l x n
 | 0,n,h=>by cases h
 | k+1,n,h=>by
  unfold loopGo at h;split at h
  · cases h
  · split at h
    · rename_i e;rw[e];exact Up.here
    · unfold EH at h;cases hn:nodeAt l n with
      | none =>
       rw[hn]at h;cases k with
       | zero=>cases h
       | succ k =>
        unfold loopGo at h;rw[if_pos (by decide)]at h;cases h
      | some y =>
       rw[hn]at h;obtain⟨h1,h2⟩:=F4 hn;rw[←h2];exact Up.step y h1 (gq l x k y.BD h)
theorem Qc (l:List Az)(x:Int):∀k m n,k≤m→loopGo l x k n=true→loopGo l x m n=true
 | 0,m,n,_,h=>by cases h
 | k+1,0,n,hm,h=>by omega
 | k+1,m+1,n,hm,h=>by
  unfold loopGo at h ⊢;split at h
  · cases h
  · rename_i h1;rw[if_neg h1];split at h
    · rename_i h2;rw[if_pos h2]
    · rename_i h2;rw[if_neg h2];exact Qc l x k m _ (by omega) h
theorem Ld (h:Aq l nx){y:Az}(hy:y∈l):nodeAt l y.e.node=some y:=by
 cases hn:nodeAt l y.e.node with
 | none =>
  unfold nodeAt at hn;rw[List.find?_eq_none]at hn;exact absurd (A8 rfl) (hn y hy)
 | some z =>
  obtain⟨h1,h2⟩:=F4 hn;congr 1;apply Js;intro hne;rcases O3 (List.pairwise_map.1 h.nd) h1 hy hne with h3|h3
  · exact h3 h2
  · exact h3 h2.symm
theorem vz (h:Aq l nx){H:Nat→Nat}(hH:∀x∈l,H x.e.node.toNat<H x.BD.toNat){x n:Int}(hx:0≤x)(hu:Up l x n):0≤n∧loopGo l x ((l.filter fun y=>decide (H n.toNat≤H y.e.node.toNat)).length+1) n=true:=by
 induction hu with
 | here =>
  refine⟨hx,?_⟩;unfold loopGo;rw[if_neg (by omega),if_pos rfl]
 | step y hy _ ih =>
  have h1:=h.node y hy;refine⟨by omega,?_⟩;unfold loopGo;rw[if_neg (by omega)];split
  · rfl
  · unfold EH;rw[Ld h hy];refine Qc l x _ _ _ ?_ ih.2;have hlt:=hH y hy;have hsub:((l.filter fun z=>decide (H y.BD.toNat≤H z.e.node.toNat)).length)<(l.filter fun z=>decide (H y.e.node.toNat≤H z.e.node.toNat)).length:=by
     have hs:(l.filter fun z=>decide (H y.BD.toNat≤H z.e.node.toNat))=((l.filter fun z=>decide (H y.e.node.toNat≤H z.e.node.toNat)).filter fun z=>decide (H y.BD.toNat≤H z.e.node.toNat)):=by
      rw[List.filter_filter];apply List.filter_congr;intro z _;by_cases h2:H y.BD.toNat≤H z.e.node.toNat
      · rw[A8 h2,A8 (by omega)];rfl
      · rw[Bb h2];rfl
     rw[hs];apply Js;intro hc;have hle:=List.length_filter_le (fun z:Az=>decide (H y.BD.toNat≤H z.e.node.toNat)) (l.filter fun z=>decide (H y.e.node.toNat≤H z.e.node.toNat));have hall:=List.length_filter_eq_length_iff.1 (by omega:((l.filter fun z=>decide (H y.e.node.toNat≤H z.e.node.toNat)).filter fun z=>decide (H y.BD.toNat≤H z.e.node.toNat)).length=_);have:=FL (hall y (List.mem_filter.2 ⟨hy,A8 (Ae _)⟩));omega
    omega
theorem YN (h:Aq l nx){x n:Int}(hx:0≤x):loopGo l x 300 n=true↔Up l x n:=by
 refine⟨gq l x 300 n,fun hu=>?_⟩;obtain⟨H,hH⟩:=h.low;refine Qc l x _ _ _ ?_ (vz h hH hx hu).2;have:=h.len;have:=List.length_filter_le (fun y:Az=>decide (H n.toNat≤H y.e.node.toNat)) l;omega
theorem ZG (h:Aq l nx)(n:Int):∀k d,Ev (Bh l) n k d=true→Up l (d:Int) n
 | 0,d,h1=>by cases h1
 | k+1,d,h1=>by
  unfold Ev at h1;rw[List.any_eq_true]at h1;obtain⟨e,he,h1⟩:=h1;obtain⟨y,hy,hd,rfl⟩:=Dz.1 he;rw[Bool.or_eq_true]at h1;rw[←hd];rcases h1 with h1|h1
  · rw[←FL h1];exact Up.step y hy Up.here
  · have h2:=ZG h n k y.e.node.toNat h1;have:=h.node y hy;rw[show((y.e.node.toNat:Nat):Int)=y.e.node by omega]at h2;exact h2.snoc hy rfl
theorem V9 {H:Nat→Nat}(hH:∀x∈l,H x.e.node.toNat<H x.BD.toNat){y:Az}(hy:y∈l)(hi:0≤y.BD):∀k d,H d<k→Ev (Bh l) y.BD k d=true→Ev (Bh l) y.e.node k d=true
 | 0,d,hk,_=>absurd hk (Nat.not_lt_zero _)
 | k+1,d,hk,h1=>by
  unfold Ev at h1 ⊢;rw[List.any_eq_true]at h1 ⊢;obtain⟨e,he,h1⟩:=h1;obtain⟨z,hz,hd,rfl⟩:=Dz.1 he;have hlt:=hH z hz;rw[hd,DY]at hlt;refine⟨z.e,he,?_⟩;rw[Bool.or_eq_true]at h1 ⊢;right;rcases h1 with h1|h1
  · have hm:=FL h1;rw[hm]at hlt ⊢;cases k with
    | zero=>omega
    | succ k =>
     unfold Ev;rw[List.any_eq_true];refine⟨y.e,?_,by simp⟩;unfold Bh;rw[show((y.BD.toNat:Nat):Int)=y.BD by omega];exact Dz.2 ⟨y,hy,rfl,rfl⟩
  · exact V9 hH hy hi k _ (by omega) h1
theorem nk (h:Aq l nx){H:Nat→Nat}(hH:∀x∈l,H x.e.node.toNat<H x.BD.toNat){d k:Nat}(hk:H d<k){n:Int}(hu:Up l (d:Int) n):n=(d:Int)∨Ev (Bh l) n k d=true:=by
 induction hu with
 | here=>exact Or.inl rfl
 | step y hy _ ih =>
  right;rcases ih with ih|ih
  · cases k with
    | zero=>omega
    | succ k =>
     unfold Ev;rw[List.any_eq_true];exact⟨y.e,Dz.2 ⟨y,hy,ih,rfl⟩,by simp⟩
  · exact V9 hH hy (h.KN hy).1 k d hk ih
theorem Tf (h:Aq l nx){H:Nat→Nat}(hH:∀x∈l,H x.e.node.toNat<H x.BD.toNat)(d:Nat)(n:Int):loopGo l (d:Int) 300 n=(decide ((d:Int)=n)||Ev (Bh l) n (H d+1) d):=by
 rw[Bool.eq_iff_iff,YN h (by omega),Bool.or_eq_true,LU];constructor
 · intro hu;rcases nk h hH (Nat.lt_succ_self _) hu with h1|h1
   · exact Or.inl h1.symm
   · exact Or.inr h1
 · rintro(h1|h1)
   · rw[←h1];exact Up.here
   · exact ZG h n _ d h1
theorem Aq.lower (h:Aq l nx){H:Nat→Nat}(hH:∀x∈l,H x.e.node.toNat<H x.BD.toNat):Lower (Bh l) H:=
 ⟨fun d _ e he=>by
  obtain⟨y,hy,hd,rfl⟩:=Dz.1 he;have h1:=h.node y hy;have h2:=hH y hy;rw[hd,DY]at h2;exact⟨y.e.node.toNat,by omega,by omega,h2⟩,fun d _=>Ao (h.Nt d) (by omega)⟩
theorem Tp (h:Aq l nx){x:Az}(hx:x∈l)(dt:Int)(ns:ByteArray)(sh:Int):Bo (Dq (Bu l x.BD x.e.name) nx dt ⟨ns,x.e.node,x.e.dir,0,sh⟩)=Bo l:=by
 have hn:=h.node x hx;have h1:=Lg (Bu l x.BD x.e.name) dt ⟨ns,x.e.node,x.e.dir,nx,sh⟩ (nd:=x.e.node.toNat) (by show x.e.node=_;omega) (by omega) (by rw[NY h hx,upd_same]);refine h1.trans ?_;rw[NY h hx,eY];have h2:kindOf x.e.dir=Bo l x.e.node.toNat:=by
  rw[IE _ (by omega),Qe h hx]
 show upd (Bo l) _ (kindOf x.e.dir)=_
 rw[h2,R9]
open Classical in
theorem Aq.move (h:Aq l nx){x:Az}(hx:x∈l){dt:Nat}{ns:ByteArray}{sh:Int}(hd:A9 l (dt:Int)=0)(hb:Ec ns sh=0)(hl:loopGo l x.e.node 300 (dt:Int)≠true)(hn:(BK l (dt:Int) ns).2≠0):Aq (Dq (Bu l x.BD x.e.name) nx (dt:Int) ⟨ns,x.e.node,x.e.dir,0,sh⟩) (nx+1):=by
 have hnx:=h.node x hx;have hsub:=TV l x.BD x.e.name;have hk:=Tp h hx (dt:Int) ns sh;have hup:¬Up l x.e.node (dt:Int):=fun hu=>hl ((YN h (by omega)).2 hu)
 obtain⟨H,hH⟩:=h.low;have mem:∀y∈Dq (Bu l x.BD x.e.name) nx (dt:Int) ⟨ns,x.e.node,x.e.dir,0,sh⟩,(y∈l∧y≠x)∨y=⟨(dt:Int),⟨ns,x.e.node,x.e.dir,nx,sh⟩⟩:=fun y hy=>by
  rcases List.mem_append.1 hy with hy|hy
  · exact Or.inl ((Mq h hx y).1 hy)
  · exact Or.inr (List.mem_singleton.1 hy)
 have hkk:∀n:Int,0≤n→AP l n=2→AP (Dq (Bu l x.BD x.e.name) nx (dt:Int) ⟨ns,x.e.node,x.e.dir,0,sh⟩) n=2:=fun n h0 hn=>by
  rw[←IE _ h0,hk,IE _ h0];exact hn
 refine⟨fun y hy=>?_,?_,fun y hy=>?_,fun y hy=>?_,?_,fun y hy=>?_,?_,⟨fun n=>H n+(if Up l (n:Int) (dt:Int) then H x.e.node.toNat+1 else 0),fun y hy=>?_⟩,by have:=h.Ml;omega⟩
 · rcases mem y hy with hy|rfl
   · exact h.node y hy.1
   · exact hnx
 · show(ET (Bu l x.BD x.e.name++[_])).Nodup
   unfold ET;rw[List.map_append];exact Jk ((hsub.map _).nodup h.nd) (fun z hz e=>by
    obtain⟨y,hy,rfl⟩:=List.mem_map.1 hz;obtain⟨h1,h2⟩:=(Mq h hx y).1 hy;rcases O3 (List.pairwise_map.1 h.nd) h1 hx h2 with h3|h3
    · exact h3 e
    · exact h3 e.symm)
 · rcases mem y hy with hy|rfl
   · exact hkk _ (h.KN hy.1).1 (h.BD y hy.1)
   · exact hkk _ (by show(0:Int)≤(dt:Int);omega) (Qd hd)
 · rcases mem y hy with hy|rfl
   · exact h.form y hy.1
   · exact hb
 · exact Jk (h.names.sublist hsub) (fun y hy e=>fQ hd hn y (hsub.subset hy) e)
 · rcases mem y hy with hy|rfl
   · have:=h.Ho y hy.1;exact⟨this.1,by omega⟩
   · exact⟨h.Ml,by show nx<nx+1;omega⟩
 · exact Jk (h.rise.sublist hsub) (fun y hy=>⟨fun _=>(h.Ho y (hsub.subset hy)).2,by have:=(h.Ho y (hsub.subset hy)).2;show y.e.Al≠nx;omega⟩)
 · rcases mem y hy with⟨hy,_⟩|rfl
   · have h1:=hH y hy;have h2:=h.node y hy;have h3:=(h.KN hy).1
     dsimp only
     rw[show((y.e.node.toNat:Nat):Int)=y.e.node by omega,show((y.BD.toNat:Nat):Int)=y.BD by omega];by_cases hu:Up l y.e.node (dt:Int)
     · rw[if_pos hu,if_pos (hu.snoc hy rfl)];omega
     · rw[if_neg hu];omega
   · show H x.e.node.toNat+(if Up l ((x.e.node.toNat:Nat):Int) (dt:Int) then _ else 0)<H ((dt:Int)).toNat+(if Up l ((((dt:Int)).toNat:Nat):Int) (dt:Int) then _ else 0)
     rw[show((x.e.node.toNat:Nat):Int)=x.e.node by omega,if_neg hup,Int.toNat_natCast,if_pos Up.here];omega
end
end Go.Proofs.YtdmkhmeaphaapaaGreat
