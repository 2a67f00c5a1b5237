/- Kit. -/
import Derived.Test.YtdmkhmeaphaapaaGreatFS5
import Derived.Test.YtdmkhmeaphaapaaGreatFS4
import Derived.Test.YtdmkhmeaphaapaaGreatFS2
import Derived.StillTailTactics
import Derived.Deep.RegionLaw
set_option maxRecDepth 100000
namespace Go.Proofs.YtdmkhmeaphaapaaGreat
open Go.RowKit Go.Sort
set_option linter.unusedVariables false
set_option linter.unusedSimpArgs false
structure TXw (w:World)(X:List Value)(K:Nat→Int)(E:Nat→List Ent)(R:Nat→Value)(u:Nat)(v:Value)(ys:List Int)(c:Int):Prop where
  shape:TreeO X.toArray K R u v c
  rows:∀n,n≤200→w.ownsRow 0 112 5 (R n) (E n).length ((E n).flatMap entC)
  apart:∀i j g,i≤200→j≤200→(R i).ownBlock=some g→(R j).ownBlock=some g→i=j
  own:OwnN 0 w v ys
  good:GoodP 200 u ys
def TxIs (w:World)(X:List Value)(l:List Itm)(nx:Int):Prop:=∃R u v ys,TXw w X (kindN l) (entsN l) R u v ys nx∧outRow u ys=usedRow l∧GoodT l nx
theorem ownsRow_base0 {w:World}{B:Nat}{T:TypeId}{c:Nat}{v:Value}{n:Nat}{xs:List Value}(h:w.ownsRow B T c v n xs):w.ownsRow 0 T c v n xs:=by
  refine⟨h.1,?_⟩;rcases h.2 with h1|⟨g,cap,cur,hv,hg,h1⟩
  · exact Or.inl h1
  · exact Or.inr ⟨g,cap,cur,hv,Nat.zero_le _,h1⟩
def RowsStay (w w':World):Prop:=∀T,T=112∨T=3→∀(k:Nat) (cs:Array Value) (fr:Nat×Nat),w.heap[k]?=some (.cells cs T fr)→w'.heap[k]?=some (.cells cs T fr)
theorem RowsStay.ofSpares {w w':World}(h:Spares w w'):RowsStay w w':=fun T hT k cs fr hk=>h T (by rcases hT with rfl|rfl<;>simp[keepTs]) k cs fr hk
theorem RowsStay.ofRef {w w':World}(h:V.Off refTs w w'):RowsStay w w':=fun T hT k cs fr hk=>h T (by rcases hT with rfl|rfl<;>decide) k cs fr hk
theorem RowsStay.ofBelow {w w':World}(h:Below w.heap.size w w'):RowsStay w w':=fun T hT k cs fr hk=>by rw[h.block k (lt_of_get hk)];exact hk
namespace TxIs
variable {w w':World}{X:List Value}{l:List Itm}{nx:Int}{sb b F S A E:Nat}{img:ByteArray}{rv:Value}{op:Bool}
theorem good (h:TxIs w X l nx):GoodT l nx:=by
  obtain⟨R,u,v,ys,hm,ho,hg⟩:=h;exact hg
theorem keep (h:TxIs w X l nx)(hk:RowsStay w w'):TxIs w' X l nx:=by
  obtain⟨R,u,v,ys,hm,ho,hg⟩:=h;refine⟨R,u,v,ys,⟨hm.shape,fun n hn=>ownsRow_same (hm.rows n hn) fun g hg=>?_,hm.apart,ownsRow_same hm.own fun g hg=>?_,hm.good⟩,ho,hg⟩
  · obtain⟨cur,hc⟩:=ownsRow_typ (hm.rows n hn) hg;rw[hc];exact hk _ (Or.inl rfl) _ _ _ hc
  · obtain⟨cur,hc⟩:=ownsRow_typ hm.own hg;rw[hc];exact hk _ (Or.inr rfl) _ _ _ hc
theorem spares (h:TxIs w X l nx)(hk:Spares w w'):TxIs w' X l nx:=h.keep (RowsStay.ofSpares hk)
theorem len (h:TxIs w X l nx):X.length=406:=by
  obtain⟨R,u,v,ys,hm,_⟩:=h;have h1:=hm.shape.size;rwa[List.size_toArray]at h1
theorem te (h:TxIs w X l nx)(hv:V.St.VaultAt X w sb b F S A E img rv op):TeIs w sb l nx:=by
  obtain⟨R,u,v,ys,hm,ho,hg⟩:=h;refine⟨R,u,v,ys,⟨⟨_,X.toArray,hv,fun j x hx=>?_,hm.shape⟩,hm.rows,hm.apart,hm.own,hm.good⟩,ho,hg⟩;rw[List.getElem?_toArray]at hx ⊢;rw[Nat.add_comm];exact hx
theorem of {bt:Nat}{S:Nat→Prop}(h:theTree.Is w bt l nx S):∃cs:Array Value,w.heap[bt]?=some (.cells cs 96 (0,0))∧cs.size=406∧cs.all (·.oneCell')=true∧TxIs w cs.toList l nx:=by
  obtain⟨R,u,v,ys,hm,ho,hg,_⟩:=h;obtain⟨cs,hc,hO⟩:=hm.cells;refine⟨cs,hc,hO.size,treeO_one hO (fun n hn=>?_) ?_,R,u,v,ys,⟨by rw[Array.toArray_toList];exact hO,fun n hn=>ownsRow_base0 (hm.rows n hn),hm.apart,ownsRow_base0 hm.own,hm.good⟩,ho,hg⟩
  · obtain⟨a,cap,e⟩:=(hm.ents hn).len;exact⟨a,_,cap,e⟩
  · obtain⟨a,cap,e⟩:=hm.own.len;exact⟨a,_,cap,e⟩
end TxIs
def VL (X:List Value)(w:World)(B b sb n:Nat)(rm:Int)(O:TI→Prop)(lm:Bool)(E:Nat)(t:TI):Prop:=
  ∃(h:Nat) (k:Bool) (A:Nat) (img:ByteArray) (rs r1 r2:List ByteArray) (st:V.St) (rv:Value),V.St.LiveR X B b sb n h k E A img rs r1 r2 lm st rv w∧n/2=h∧r1≠[]∧Mounts (bl img) (rs.map bl) t∧rm=((n/2:Nat):Int)-(A:Int)∧∀u,OutO r1 r2 ⟨#[]⟩ u→O u
def VD (X:List Value)(w:World)(B b sb n:Nat)(O:TI→Prop)(E:Nat):Prop:=
  ∃(h:Nat) (k:Bool) (r1 r2:List ByteArray) (fresh:ByteArray) (st:V.St),V.St.DeadR X B b sb n h k E r1 r2 fresh st w∧n/2=h∧2≤h∧n≤400∧(∀s∈r1++r2,1≤s.size∧s.size≤60000)∧r1≠[]∧(∃t,MoB (r1++r2) t)∧(fresh.size≠0→∃t,Mounts (bl fresh) [] t)∧∀u,OutO r1 r2 fresh u→O u
theorem keep_va:∀T∈keepTs,T∉V.vaTs:=by decide
theorem keep_dev:∀T∈keepTs,T∉V.devTs:=by decide
theorem sp_va {w w':World}(h:V.Off V.vaTs w w'):Spares w w':=fun T hT k cs fr hk=>h T (keep_va T hT) k cs fr hk
theorem sp_dev {w w':World}(h:V.Off V.devTs w w'):Spares w w':=fun T hT k cs fr hk=>h T (keep_dev T hT) k cs fr hk
theorem sp_row {B:Nat}{w w':World}{rv:Value}{rs:List ByteArray}(h:V.OffRow (V.rowBlk rv) w w')(hr:V.RowAt B w rv rs):Spares w w':=fun T hT k cs fr hk=>h T (keep_va T hT) k cs fr (fun e=>by
  rcases hr with⟨_,rfl⟩|⟨g,off,cap,cur,rfl,_,_,_,hg,_⟩
  · cases e
  · injection e with e;subst e;rw[hk]at hg;injection hg with hg;injection hg with _ h3 _;rw[h3]at hT;exact absurd hT (by decide)) hk
section
variable {B b sb n:Nat}{X:List Value}{rm:Int}{O:TI→Prop}{lm:Bool}{E:Nat}{t:TI}{w w':World}
theorem VL.weak {O':TI→Prop}(h:VL X w B b sb n rm O lm E t)(hO:∀u,O u→O' u):VL X w B b sb n rm O' lm E t:=by
  obtain⟨h',k,A,img,rs,r1,r2,st,rv,a1,a2,a3,a4,a5,a6⟩:=h;exact⟨h',k,A,img,rs,r1,r2,st,rv,a1,a2,a3,a4,a5,fun u hu=>hO u (a6 u hu)⟩
theorem VD.weak {O':TI→Prop}(h:VD X w B b sb n O E)(hO:∀u,O u→O' u):VD X w B b sb n O' E:=by
  obtain⟨h',k,r1,r2,fresh,st,a1,a2,a3,a4,a5,a6,a7,a8,a9⟩:=h;exact⟨h',k,r1,r2,fresh,st,a1,a2,a3,a4,a5,a6,a7,a8,fun u hu=>hO u (a9 u hu)⟩
theorem VL.good (h:VL X w B b sb n rm O lm E t):GoodTI t∧0≤rm∧rm≤400:=by
  obtain⟨h',k,A,img,rs,r1,r2,st,rv,a1,a2,a3,a4,a5,a6⟩:=h;have h1:=a1.live.room;have h2:=a1.live.n2;refine⟨a4.good,?_,?_⟩<;>(rw[a5];omega)
theorem VL.below (h:VL X w B b sb n rm O lm E t)(hb:Below w.heap.size w w'):VL X w' B b sb n rm O lm E t:=by
  obtain⟨h',k,A,img,rs,r1,r2,st,rv,a1,a⟩:=h;exact⟨h',k,A,img,rs,r1,r2,st,rv,a1.below hb,a⟩
theorem VD.below (h:VD X w B b sb n O E)(hb:Below w.heap.size w w'):VD X w' B b sb n O E:=by
  obtain⟨h',k,r1,r2,fresh,st,a1,a⟩:=h;exact⟨h',k,r1,r2,fresh,st,a1.below hb,a⟩
theorem VL.off (h:VL X w B b sb n rm O lm E t)(ho:V.Off refTs w w'):VL X w' B b sb n rm O lm E t:=by
  obtain⟨h',k,A,img,rs,r1,r2,st,rv,a1,a⟩:=h;exact⟨h',k,A,img,rs,r1,r2,st,rv,⟨a1.live,a1.dev.off ho (by decide) (by decide) (by decide),V.HalfAt.off a1.vlt ho (by decide),rowAt_ref a1.row ho,a1.hvb⟩,a⟩
theorem VD.off (h:VD X w B b sb n O E)(ho:V.Off refTs w w'):VD X w' B b sb n O E:=by
  obtain⟨h',k,r1,r2,fresh,st,a1,a⟩:=h;obtain⟨A,img',rv,hv⟩:=a1.vlt;exact⟨h',k,r1,r2,fresh,st,⟨a1.dead,a1.dev.off ho (by decide) (by decide) (by decide),⟨A,img',rv,V.HalfAt.off hv ho (by decide)⟩,a1.hvb⟩,a⟩
theorem VL.at (h:VL X w B b sb n rm O lm E t):∃F S A img rv,V.St.VaultAt X w sb b F S A E img rv true∧S≤100000∧A≤100000∧rm=(S:Int)-(A:Int):=by
  obtain⟨h',k,A,img,rs,r1,r2,st,rv,a1,a2,a3,a4,a5,a6⟩:=h;have h1:=a1.live.room;have h2:=a1.live.n2;exact⟨_,_,_,_,_,a1.vlt,by omega,by omega,by rw[a5,a2]⟩
theorem VD.at (h:VD X w B b sb n O E):∃F S A E' img rv,V.St.VaultAt X w sb b F S A E' img rv false:=by
  obtain⟨h',k,r1,r2,fresh,st,a1,a⟩:=h;obtain⟨A,img',rv,hv⟩:=a1.vlt;exact⟨_,_,_,_,_,_,hv⟩
theorem VL.hB (h:VL X w B b sb n rm O lm E t):B≤sb∧sb<w.heap.size:=by
  obtain⟨h',k,A,img,rs,r1,r2,st,rv,a1,a⟩:=h;exact⟨a1.hvb,lt_of_get a1.vlt⟩
theorem VL.kn (h:VL X w B b sb n rm O false E t):∃k img rs st,V.Dev B w b st∧V.KnX n (n/2) k E img rs st∧Mounts (bl img) (rs.map bl) t∧rm=((n/2:Nat):Int)-((1+(V.layB (V.recs (img::rs))).length:Nat):Int):=by
  obtain⟨h',k,A,img,rs,r1,r2,st,rv,a1,a2,a3,a4,a5,a6⟩:=h;have hk:=a1.live.kn a2;subst a2;exact⟨k,img,rs,st,a1.dev,hk,a4,by rw[a5,a1.live.end_]⟩
theorem VL.restart (v:Value)(l:List Int)(h:VL X w B b sb n rm O lm E t)(hv:V.NumsIs w v l)(hl:l.length≤9223372036854775807)(hB:B≤w.heap.size) :
    Calls Tryz.prog 42 #[ptrV b,v] w fun e w'=>e=.returned (.tuple #[])∧(∃t' rm' E',KnD w' B b n t' rm' E'∧O t'∧E'≤E+1)∧Below B w w'∧Spares w w':=by
  obtain⟨h',k,A,img,rs,r1,r2,st,rv,hL,hh,hne,ht,a5,a6⟩:=h;have h1:=hL.live.pndh;have h2:=hL.live.n2;have h3:=hL.live.hn;refine(V.restart_c B b st v l w hL.dev hL.live.good (by omega) hv hl hB).mono ?_;rintro e w' ⟨rfl,hd,hb,ho⟩;have hD:=hL.live.dead [] ⟨#[]⟩;rw[List.append_nil]at hD;obtain⟨t',rm',E',g1,g2,g3⟩:=kn_restart hD hh hL.live.h2 hL.live.n2 (by rw[←hL.live.all];exact hL.live.sizes) hne ⟨t,img,rs,hL.live.all.symm,ht⟩ (fun h0=>absurd rfl h0) l hd;exact⟨rfl,⟨t',rm',E',g1,a6 _ g2,g3⟩,hb,sp_dev ho⟩
theorem VD.restart (v:Value)(l:List Int)(h:VD X w B b sb n O E)(hv:V.NumsIs w v l)(hl:l.length≤9223372036854775807)(hB:B≤w.heap.size) :
    Calls Tryz.prog 42 #[ptrV b,v] w fun e w'=>e=.returned (.tuple #[])∧(∃t' rm' E',KnD w' B b n t' rm' E'∧O t'∧E'≤E+1)∧Below B w w'∧Spares w w':=by
  obtain⟨h',k,r1,r2,fresh,st,hL,hh,h2,hn,hs,hne,hf,hg,a9⟩:=h;have h1:=hL.dead.pnd;refine(V.restart_c B b st v l w hL.dev hL.dead.good (by omega) hv hl hB).mono ?_;rintro e w' ⟨rfl,hd,hb,ho⟩;obtain⟨t',rm',E',g1,g2,g3⟩:=kn_restart hL.dead hh h2 hn hs hne hf hg l hd;exact⟨rfl,⟨t',rm',E',g1,a9 _ g2,g3⟩,hb,sp_dev ho⟩
theorem VL.cut {N:Int}(h:VL X w B b sb n rm O lm E t)(h1:-9223372036854775808≤N)(h2:N≤9223372036854775807) :
    Calls Tryz.prog 11 #[ptrV b,.int .i64 N] w fun e w'=>e=.returned (.tuple #[])∧VL X w' B b sb n rm O true E t∧Below B w w'∧Spares w w':=by
  obtain⟨h',k,A,img,rs,r1,r2,st,rv,hL,a⟩:=h;refine(V.cut_c B b st N w hL.dev).mono ?_;rintro e w' ⟨rfl,hd,hb,ho⟩;exact⟨rfl,⟨h',k,A,img,rs,r1,r2,_,rv,⟨hL.live.cut h1 h2,hd,V.HalfAt.base_off hL.vlt ho (by simp),hL.row.off ho.va,hL.hvb⟩,a⟩,hb,sp_dev ho⟩
theorem VD.cut {N:Int}(h:VD X w B b sb n O E)(h1:-9223372036854775808≤N)(h2:N≤9223372036854775807) :
    Calls Tryz.prog 11 #[ptrV b,.int .i64 N] w fun e w'=>e=.returned (.tuple #[])∧VD X w' B b sb n O E∧Below B w w'∧Spares w w':=by
  obtain⟨h',k,r1,r2,fresh,st,hL,a⟩:=h;refine(V.cut_c B b st N w hL.dev).mono ?_;rintro e w' ⟨rfl,hd,hb,ho⟩;obtain⟨A,img',rv,hv⟩:=hL.vlt;exact⟨rfl,⟨h',k,r1,r2,fresh,_,⟨hL.dead.cut h1 h2,hd,⟨A,img',rv,V.HalfAt.base_off hv ho (by simp)⟩,hL.hvb⟩,a⟩,hb,sp_dev ho⟩
end
end Go.Proofs.YtdmkhmeaphaapaaGreat
namespace Go.Proofs.YtdmkhmeaphaapaaGreat
open Go.RowKit Go.Sort
set_option linter.unusedVariables false
set_option linter.unusedSimpArgs false
theorem size_bytes (l:List UInt8):(⟨l.toArray⟩:ByteArray).size=l.length:=rfl
theorem bytesL_pos (x:De):1≤(bytesL x).length:=by
  unfold bytesL;rw[List.length_append,beB_len];omega
theorem imgI_pos (l:List Itm)(nx:Int):1≤(imgI l nx).length:=by
  unfold imgI imgB;simp only[List.length_append,beB_len];omega
theorem fits_eq {S A:Nat}{s:ByteArray}(h1:1≤s.size)(h2:s.size≤60000):V.fitsI S A s=if S<A+(s.size+61)/62 then 11 else 0:=by
  unfold V.fitsI;rw[if_neg (by omega)]
theorem recs_few13:∀{R:List (List UInt8)},(∀r∈R,r≠[]∧r.length≤60000)→R.length≤(V.layB R).length
  | [],_=>Nat.le_refl _
  | r::R,h=>by
    have h9:=recs_few13 (R:=R) (fun q hq=>h q (by simp[hq]));show R.length+1≤(V.cutB r++V.layB R).length
    have h8:=(h r (by simp)).1;rw[List.length_append,V.cutB_cons h8,List.length_cons];omega
theorem rs_few {n h:Nat}{k:Bool}{E A:Nat}{img:ByteArray}{rs r1 r2:List ByteArray}{lm:Bool}{st:V.St}(hl:V.LiveS n h k E A img rs r1 r2 lm st):rs.length≤400:=by
  have h1:=hl.end_;have h2:=hl.room;have h3:=hl.hn;have h4:=hl.n2;have h5:=recs_few13 (R:=V.recs (img::rs)) (fun r hr=>by
    unfold V.recs V.bytesL at hr;obtain⟨s,hs,rfl⟩:=List.mem_map.1 hr;have h6:=hl.sizes s hs;have h7:s.data.toList.length=s.size:=Array.length_toList;exact⟨fun e=>by rw[e]at h7;simp at h7;omega,by rw[h7];omega⟩)
  have h6:(V.recs (img::rs)).length=rs.length+1:=by unfold V.recs V.bytesL;simp
  omega
section
variable {B b sb n:Nat}{X:List Value}{rm:Int}{O:TI→Prop}{lm:Bool}{E:Nat}{t:TI}{w w':World}
def Aw (w:World)(sb k:Nat):Prop:=∃cs T fr,w.heap[k]?=some (.cells cs T fr)∧T∉V.vaTs∧∀rv,w.cell? ⟨sb,6,none⟩=some rv→V.rowBlk rv≠some k
def AwK (w w':World)(sb:Nat):Prop:=∀k,Aw w sb k→Aw w' sb k∧w'.heap[k]?=w.heap[k]?
theorem Aw.below {k:Nat}(h:Aw w sb k)(hb:Below w.heap.size w w')(hs:sb<w.heap.size):Aw w' sb k∧w'.heap[k]?=w.heap[k]?:=by
  obtain⟨cs,T,fr,h1,h2,h3⟩:=h;have h4:=hb.block k (lt_of_get h1);refine⟨⟨cs,T,fr,h4.trans h1,h2,fun rv hr=>h3 rv ?_⟩,h4⟩;rw[World.cell?_of_block (hb.block sb hs)]at hr;exact hr
theorem AwK.below (hb:Below w.heap.size w w')(hs:sb<w.heap.size):AwK w w' sb:=fun k hk=>hk.below hb hs
theorem AwK.trans {w'':World}(h:AwK w w' sb)(h':AwK w' w'' sb):AwK w w'' sb:=fun k hk=>⟨(h' k (h k hk).1).1,((h' k (h k hk).1).2).trans (h k hk).2⟩
theorem VL.row (h:VL X w B b sb n rm O lm E t):∃rv,w.cell? ⟨sb,6,none⟩=some rv∧∀k,V.rowBlk rv=some k→k<w.heap.size:=by
  obtain⟨h',k,A,img,rs,r1,r2,st,rv,hL,_⟩:=h;exact⟨rv,(V.St.VaultAt.more hL.vlt).2.1,fun k hk=>(hL.row.lt hk).2⟩
theorem VL.aw (h:VL X w B b sb n rm O lm E t)(hb:Below w.heap.size w w'){k:Nat}{cs:Array Value}{T:TypeId}{fr:Nat×Nat}(hk:w.heap.size≤k)(hc:w'.heap[k]?=some (.cells cs T fr))(hT:T∉V.vaTs):Aw w' sb k:=by
  obtain⟨rv,h1,h2⟩:=h.row;refine⟨cs,T,fr,hc,hT,fun rv' hr e=>?_⟩;rw[World.cell?_of_block (hb.block sb h.hB.2),h1]at hr;obtain rfl:=Option.some.inj hr;have:=h2 k e;omega
def ApQ (X:List Value)(w:World)(B b sb n:Nat)(rm:Int)(O:TI→Prop)(lm:Bool)(E:Nat)(t t':TI)(f:Int)(q:Int)(w':World):Prop:=
  (Below B w w'∧Spares w w')∧((q=0∧f≤rm∧VL X w' B b sb n (rm-f) (fun u=>O u∨Like t' u) lm E t')∨(q=13∧lm=true∧VD X w' B b sb n (fun u=>O u∨(f≤rm∧Like t' u)) E)∨(q=11∧¬f≤rm∧VL X w' B b sb n rm O lm E t∧AwK w w' sb))
def ApP (X:List Value)(w:World)(B b sb n:Nat)(rm:Int)(O:TI→Prop)(lm:Bool)(E:Nat)(t t':TI)(f:Int)(e:Ending)(w':World):Prop:=
  ∃q:Int,e=.returned (.int .i64 q)∧ApQ X w B b sb n rm O lm E t t' f q w'
theorem ApQ.from {t':TI}{f q:Int}{w1:World}(h:ApQ X w1 B b sb n rm O lm E t t' f q w')(hb:Below w.heap.size w w1)(hB:B≤w.heap.size)(hs:sb<w.heap.size):ApQ X w B b sb n rm O lm E t t' f q w':=by
  obtain⟨⟨h1,h2⟩,h3⟩:=h;refine⟨⟨(hb.mono hB).trans h1,(Spares.ofBelow hb).trans h2⟩,?_⟩;rcases h3 with h3|h3|⟨a,a2,a3,a4⟩
  · exact Or.inl h3
  · exact Or.inr (Or.inl h3)
  · exact Or.inr (Or.inr ⟨a,a2,a3,(AwK.below hb hs).trans a4⟩)
theorem vl_append (x:De)(h:VL X w B b sb n rm O lm E t)(hx:(deI t.1 t.2 x).2.2=0)(hB:B≤w.heap.size) :
    Calls Tryz.prog 24 #[ptrV sb,.string ⟨(bytesL x).toArray⟩] w (ApP X w B b sb n rm O lm E t (deI t.1 t.2 x).1 (framesN (bytesL x))):=by
  obtain⟨h',k,A,img,rs,r1,r2,st,rv,hL,hh,hne,ht,hrm,hO⟩:=h;have hm:=de_may hx;have h6:=bytesL_len x hm;have h1:=bytesL_pos x;have hsz:=size_bytes (bytesL x);have hroom:=hL.live.room;have hfe:=fits_eq (S:=h') (A:=A) (s:=⟨(bytesL x).toArray⟩) (by omega) (by omega);have hfN:framesN (bytesL x)=(((⟨(bytesL x).toArray⟩:ByteArray).size+61)/62:Nat):=by unfold framesN;rw[hsz]
  have hsn:=ht.snoc hx;have hmap:(rs++[(⟨(bytesL x).toArray⟩:ByteArray)]).map bl=rs.map bl++[bytesL x]:=by rw[List.map_append];rfl
  have hall:=hL.live.all;refine(V.St.append_c ⟨(bytesL x).toArray⟩ hL (by omega) (by have:=rs_few hL.live;omega) hB).mono ?_;rintro e w' ⟨q,rfl,hb,ho,hc⟩;refine⟨q,rfl,⟨hb,sp_row ho hL.row⟩,?_⟩;rcases hc with⟨rfl,hfit,st',rv',hL',_⟩|⟨rfl,hlm,st',hD⟩|⟨h0,h13,hfit,hL'⟩
  · obtain⟨_,_,h9⟩:=V.fits_ok hfit;refine Or.inl ⟨rfl,by rw[hfN,hrm];omega,h',k,_,img,_,r1,_,st',rv',hL',hh,hne,by rw[hmap];exact hsn,by rw[hfN,hrm];omega,fun u hu=>?_⟩;rcases OutO.snoc hall (by rw[hmap];exact hsn) u hu with h|h
    · exact Or.inl (hO u h)
    · exact Or.inr h
  · by_cases hfit:V.fitsI h' A ⟨(bytesL x).toArray⟩=0
    · have hts:V.St.tailF h' A ⟨(bytesL x).toArray⟩=[⟨(bytesL x).toArray⟩]:=by unfold V.St.tailF;rw[if_pos hfit]
      obtain⟨_,_,h9⟩:=V.fits_ok hfit;rw[hts]at hD;refine Or.inr (Or.inl ⟨rfl,hlm,h',k,r1,_,⟨#[]⟩,st',hD,hh,hL.live.h2,hL.live.n2,fun s hs=>?_,hne,⟨_,img,rs++[⟨(bytesL x).toArray⟩],by rw[←List.append_assoc,←hall];rfl,by rw[hmap];exact hsn⟩,fun h0=>absurd rfl h0,fun u hu=>?_⟩)
      · rw[←List.append_assoc,←hall]at hs;rcases List.mem_append.1 hs with h|h
        · exact hL.live.sizes s h
        · rw[List.mem_singleton.1 h];omega
      · rcases OutO.snoc hall (by rw[hmap];exact hsn) u hu with h|h
        · exact Or.inl (hO u h)
        · exact Or.inr ⟨by rw[hfN,hrm];omega,h⟩
    · have hts:V.St.tailF h' A ⟨(bytesL x).toArray⟩=[]:=by unfold V.St.tailF;rw[if_neg hfit]
      rw[hts,List.append_nil]at hD;exact Or.inr (Or.inl ⟨rfl,hlm,h',k,r1,r2,⟨#[]⟩,st',hD,hh,hL.live.h2,hL.live.n2,by rw[←hall];exact hL.live.sizes,hne,⟨t,img,rs,hall.symm,ht⟩,fun h0=>absurd rfl h0,fun u hu=>Or.inl (hO u hu)⟩)
  · rw[hfe]at hfit;split at hfit
    · refine Or.inr (Or.inr ⟨hfit.symm,by rw[hfN,hrm];omega,⟨h',k,A,img,rs,r1,r2,st,rv,hL',hh,hne,ht,hrm,hO⟩,fun j hj=>?_⟩);obtain⟨cs,T,fr,j1,j2,j3⟩:=hj;have hne2:=j3 rv (V.St.VaultAt.more hL.vlt).2.1;have j4:=ho T j2 j cs fr (fun e=>hne2 e.symm) j1;refine⟨⟨cs,T,fr,j4,j2,fun rv' hr=>?_⟩,j4.trans j1.symm⟩;rw[(V.St.VaultAt.more hL'.vlt).2.1]at hr;obtain rfl:=Option.some.inj hr;exact hne2
    · exact absurd hfit.symm h0
def RnQ (X:List Value)(w:World)(B b sb n:Nat)(rm:Int)(O:TI→Prop)(lm:Bool)(E:Nat)(t:TI)(q:Int)(w':World):Prop:=
  (Below B w w'∧Spares w w')∧((q=0∧framesN (imgI t.1 t.2)≤((n/2:Nat):Int)-1∧VL X w' B b sb n (((n/2:Nat):Int)-1-framesN (imgI t.1 t.2)) (Like t) lm (E+1) t∧AwK w w' sb)∨(q=13∧lm=true∧VD X w' B b sb n (fun u=>O u∨Like t u) E)∨(q=11∧((n/2:Nat):Int)-1<framesN (imgI t.1 t.2)∧VL X w' B b sb n rm O lm E t))
def RnP (X:List Value)(w:World)(B b sb n:Nat)(rm:Int)(O:TI→Prop)(lm:Bool)(E:Nat)(t:TI)(e:Ending)(w':World):Prop:=
  ∃q:Int,e=.returned (.int .i64 q)∧RnQ X w B b sb n rm O lm E t q w'
theorem RnQ.from {q:Int}{w1:World}(h:RnQ X w1 B b sb n rm O lm E t q w')(hb:Below w.heap.size w w1)(hB:B≤w.heap.size)(hs:sb<w.heap.size):RnQ X w B b sb n rm O lm E t q w':=by
  obtain⟨⟨h1,h2⟩,h3⟩:=h;refine⟨⟨(hb.mono hB).trans h1,(Spares.ofBelow hb).trans h2⟩,?_⟩;rcases h3 with⟨a,a2,a3,a4⟩|h3|h3
  · exact Or.inl ⟨a,a2,a3,(AwK.below hb hs).trans a4⟩
  · exact Or.inr (Or.inl h3)
  · exact Or.inr (Or.inr h3)
theorem vl_renew (h:VL X w B b sb n rm O lm E t)(hx:t.2≤9223372036854775807)(hE:E≤1000001)(hB:B≤w.heap.size) :
    Calls Tryz.prog 121 #[ptrV sb,.string ⟨(imgI t.1 t.2).toArray⟩] w (RnP X w B b sb n rm O lm E t):=by
  obtain⟨h',k,A,img,rs,r1,r2,st,rv,hL,hh,hne,ht,hrm,hO⟩:=h;have hg:GoodTI t:=ht.good;have h6:(imgI t.1 t.2).length≤60000:=img_short hg;have h1:=imgI_pos t.1 t.2;have hsz:=size_bytes (imgI t.1 t.2);have hfe:=fits_eq (S:=h') (A:=1) (s:=⟨(imgI t.1 t.2).toArray⟩) (by omega) (by omega);have hfN:framesN (imgI t.1 t.2)=(((⟨(imgI t.1 t.2).toArray⟩:ByteArray).size+61)/62:Nat):=by unfold framesN;rw[hsz]
  have hown:Mounts (bl ⟨(imgI t.1 t.2).toArray⟩) [] t:=Mounts.own hg hx;have hall:=hL.live.all;refine(V.St.renew_c ⟨(imgI t.1 t.2).toArray⟩ hL (by omega) (by omega) hB).mono ?_;rintro e w' ⟨q,rfl,hc⟩;refine⟨q,rfl,?_⟩;rcases hc with⟨rfl,hfit,hb,ho,st',rv',hL',hp,hrow⟩|⟨hb,ho,⟨rfl,hlm,st',hD⟩|⟨h0,h13,hfit,hL'⟩⟩
  · obtain⟨_,_,h9⟩:=V.fits_ok hfit;refine⟨⟨hb,sp_va ho⟩,Or.inl ⟨rfl,by rw[hfN];omega,⟨h',!k,_,_,[],_,[],st',rv',hL',hh,by simp,hown,by rw[hfN];omega,fun u hu=>OutO.all rfl hown u hu⟩,fun j hj=>?_⟩⟩;obtain⟨cs,T,fr,j1,j2,j3⟩:=hj;have j4:=ho T j2 j cs fr j1;refine⟨⟨cs,T,fr,j4,j2,fun rv2 hr=>?_⟩,j4.trans j1.symm⟩;rw[(V.St.VaultAt.more hL'.vlt).2.1]at hr;obtain rfl:=Option.some.inj hr;rw[hrow];simp
  · refine⟨⟨hb,sp_va ho⟩,Or.inr (Or.inl ⟨rfl,hlm,h',k,r1,r2,_,st',hD,hh,hL.live.h2,hL.live.n2,by rw[←hall];exact hL.live.sizes,hne,⟨t,img,rs,hall.symm,ht⟩,fun _=>⟨t,hown⟩,fun u hu=>?_⟩)⟩;rcases hu with⟨y,hy,hm⟩|⟨_,hm⟩
    · exact Or.inl (hO u (Or.inl ⟨y,hy,hm⟩))
    · exact Or.inr (hown.one hm)
  · refine⟨⟨hb,sp_va ho⟩,?_⟩;rw[hfe]at hfit;split at hfit
    · exact Or.inr (Or.inr ⟨hfit.symm,by rw[hfN];omega,h',k,A,img,rs,r1,r2,st,rv,hL',hh,hne,ht,hrm,hO⟩)
    · exact absurd hfit.symm h0
theorem vl_sync (h:VL X w B b sb n rm O lm E t)(hB:B≤w.heap.size) :
    Calls Tryz.prog 33 #[ptrV sb] w fun e w'=>∃q:Int,e=.returned (.int .i64 q)∧(Below B w w'∧Spares w w')∧((q=0∧VL X w' B b sb n rm (Like t) lm E t)∨(q=13∧lm=true∧VD X w' B b sb n O E)):=by
  obtain⟨h',k,A,img,rs,r1,r2,st,rv,hL,hh,hne,ht,hrm,hO⟩:=h;have hall:=hL.live.all;refine(V.St.sync_c hL hB).mono ?_;rintro e w' ⟨q,rfl,hb,ho,⟨rfl,st',hL'⟩|⟨rfl,hlm,st',hD⟩⟩
  · exact⟨0,rfl,⟨hb,sp_va ho⟩,Or.inl ⟨rfl,h',k,A,img,rs,_,[],st',rv,hL',hh,by simp[hne],ht,hrm,fun u hu=>OutO.all hall.symm ht u hu⟩⟩
  · exact⟨13,rfl,⟨hb,sp_va ho⟩,Or.inr ⟨rfl,hlm,h',k,r1,r2,⟨#[]⟩,st',hD,hh,hL.live.h2,hL.live.n2,by rw[←hall];exact hL.live.sizes,hne,⟨t,img,rs,hall.symm,ht⟩,fun h0=>absurd rfl h0,hO⟩⟩
theorem vd_sync (h:VD X w B b sb n O E):Calls Tryz.prog 33 #[ptrV sb] w fun e w'=>e=.returned (.int .i64 13)∧Below w.heap.size w w':=by
  obtain⟨F,S,A,E',img,rv,hv⟩:=h.at;exact V.St.sync_over hv
theorem vl_over (h:VL X w B b sb n rm O lm E t):Calls Tryz.prog 32 #[ptrV sb] w fun e w'=>e=.returned (.bool false)∧w'=w:=by
  obtain⟨F,S,A,img,rv,hv,_⟩:=h.at;exact(V.St.over_c hv).mono fun e w' ⟨h1,h2⟩=>⟨h1,h2.symm⟩
theorem vd_over (h:VD X w B b sb n O E):Calls Tryz.prog 32 #[ptrV sb] w fun e w'=>e=.returned (.bool true)∧w'=w:=by
  obtain⟨F,S,A,E',img,rv,hv⟩:=h.at;exact(V.St.over_c hv).mono fun e w' ⟨h1,h2⟩=>⟨h1,h2.symm⟩
theorem vl_room (h:VL X w B b sb n rm O lm E t):Calls Tryz.prog 43 #[ptrV sb] w fun e w'=>e=.returned (.int .i64 rm)∧Below w.heap.size w w':=by
  obtain⟨F,S,A,img,rv,hv,h1,h2,rfl⟩:=h.at;exact V.St.vroom_c hv h1 h2
end
end Go.Proofs.YtdmkhmeaphaapaaGreat
namespace Go.Proofs.YtdmkhmeaphaapaaGreat
open Go.RowKit Go.Sort
set_option linter.unusedVariables false
set_option linter.unusedSimpArgs false
section
variable {B b sb n:Nat}{X:List Value}{rm sz:Int}{O:TI→Prop}{lm:Bool}{E:Nat}{t:TI}{w w':World}
set_option maxHeartbeats 2000000 in
theorem keep1_c {g1 g2:Nat}(x:De)(h:VL X w B b sb n rm O lm E t)(hx:(deI t.1 t.2 x).2.2=0)(h1:w.heap[g1]?=some (.cells #[ptrV sb] 27 (0,0)))(h2:w.heap[g2]?=some (.cells #[.string ⟨(bytesL x).toArray⟩] 9 (0,0)))(hB:B≤w.heap.size) :
    Calls Tryz.prog 81 #[ptrV g1,ptrV g2] w (ApP X w B b sb n rm O lm E t (deI t.1 t.2 x).1 (framesN (bytesL x))):=by
  unfold ApP;have c1:w.drew.cell? ⟨g1,0,none⟩=some (ptrV sb):=Lib.cell_of_heap h1 0;have c2:w.drew.cell? ⟨g2,0,none⟩=some (.string ⟨(bytesL x).toArray⟩):=Lib.cell_of_heap h2 0;have e1:w.cell? ⟨g1,0,none⟩=some (ptrV sb):=c1;have e2:w.cell? ⟨g2,0,none⟩=some (.string ⟨(bytesL x).toArray⟩):=c2;have hdr:Below w.heap.size w w.drew:=Below.drew (Below.refl _ _);have cA:=vl_append x (h.below hdr) hx hB;unfold ApP at cA;have HF:Hid (∀q w',ApQ X w.drew B b sb n rm O lm E t (deI t.1 t.2 x).1 (framesN (bytesL x)) q w'→ApQ X w B b sb n rm O lm E t (deI t.1 t.2 x).1 (framesN (bytesL x)) q w'):=Lib.hid fun q w' hq=>hq.from hdr hB h.hB.2
  generalize framesN (bytesL x)=f at *;generalize (deI t.1 t.2 x).1=t' at *;generalize (⟨(bytesL x).toArray⟩:ByteArray)=s at *;clear h hx h1 h2 hdr;go_enter Tryz.func81,Tryz.ntmps81;go_wp2_with fail;go_still_tail 4,(by kernel_rfl);change wpList _ _ _ _ _ w.drew;generalize w.drew=w1 at *;go_wp2_with (go_at_call 24;refine cA.mono ?_;rintro e w2 ⟨q,rfl,hq⟩;have HQ:=Lib.hid (HF.out q w2 hq);clear hq);go_ret;exact⟨q,rfl,HQ.out⟩
set_option maxHeartbeats 2000000 in
theorem srenew_c (h:VL X w B b sb n rm O lm E t)(ht:TxIs w X t.1 t.2)(hx:t.2≤9223372036854775807)(hE:E≤1000001)(hB:B≤w.heap.size) :
    Calls Tryz.prog 82 #[ptrV sb] w (RnP X w B b sb n rm O lm E t):=by
  unfold RnP;obtain⟨F,S,A,img,rv,hv,_⟩:=h.at;have hte:=ht.te hv;have cC:=Ste.cook hte;have hc1:¬t.2<1:=by have:=ht.good.nx1;omega
  have CE:Hid (∀W,Below w.heap.size w W→Calls Tryz.prog 72 #[ptrE sb] W fun e w'=>e=.returned (.string ⟨(imgI t.1 t.2).toArray⟩)∧Below W.heap.size W w'):=Lib.hid fun W hW=>Ste.encode_c (Ste.below hte hW) hx
  have CR:Hid (∀W,Below w.heap.size w W→Calls Tryz.prog 121 #[ptrV sb,.string ⟨(imgI t.1 t.2).toArray⟩] W fun e w'=>∃q:Int,e=.returned (.int .i64 q)∧RnQ X w B b sb n rm O lm E t q w'):=Lib.hid fun W hW=>(vl_renew (h.below hW) hx hE (Nat.le_trans hB hW.size)).mono fun e w' ⟨q,he,hq⟩=>⟨q,he,hq.from hW hB h.hB.2⟩
  have HD0:Hid (Below w.heap.size w w.drew):=Lib.hid (Below.drew (Below.refl _ _));obtain⟨Q,hQ⟩:∃Q:Int→World→Prop,RnQ X w B b sb n rm O lm E t=Q:=⟨_,rfl⟩;rw[hQ]at CR ⊢;generalize (⟨(imgI t.1 t.2).toArray⟩:ByteArray)=s at *;generalize t.2=nx at *;clear h ht hv hte hx hE hQ;go_enter Tryz.func82,Tryz.ntmps82;go_wp2_with (go_at_call 66;refine cC.mono ?_;rintro e w1 ⟨rfl,rfl⟩);go_region_with (first|(go_at_call 72;(refine(CE.out _ HD0.out).mono ?_);rintro e w2 ⟨rfl,hb2⟩;have HB3:=Lib.hid (HD0.out.trans hb2))|(go_at_call 121;refine(CR.out _ HB3.out).mono ?_;rintro e w3 ⟨q,rfl,hq⟩))
  all_goals (try go_wp2)
  all_goals go_ret
  all_goals exact⟨q,rfl,hq⟩
theorem sdo_fit {x:De}(hx:(deI t.1 t.2 x).2.2=0)(h1:framesN (bytesL x)≤rm):sdoI t sz rm x=(((deI t.1 t.2 x).1,rm-framesN (bytesL x)),(deI t.1 t.2 x).2.1,0):=by
  unfold sdoI;rw[if_neg (by simpa using de_may hx),if_neg (by simpa using hx),if_pos h1]
theorem sdo_big {x:De}(hx:(deI t.1 t.2 x).2.2=0)(h1:¬framesN (bytesL x)≤rm)(h2:sz<framesN (imgI t.1 t.2)):sdoI t sz rm x=((t,rm),0,11):=by
  unfold sdoI;rw[if_neg (by simpa using de_may hx),if_neg (by simpa using hx),if_neg h1,if_pos h2]
theorem sdo_new {x:De}(hx:(deI t.1 t.2 x).2.2=0)(h1:¬framesN (bytesL x)≤rm)(h2:framesN (imgI t.1 t.2)≤sz)(h3:framesN (bytesL x)≤sz-framesN (imgI t.1 t.2)):sdoI t sz rm x=(((deI t.1 t.2 x).1,sz-framesN (imgI t.1 t.2)-framesN (bytesL x)),(deI t.1 t.2 x).2.1,0):=by
  unfold sdoI;rw[if_neg (by simpa using de_may hx),if_neg (by simpa using hx),if_neg h1,if_neg (by omega),if_pos h3]
theorem sdo_none {x:De}(hx:(deI t.1 t.2 x).2.2=0)(h1:¬framesN (bytesL x)≤rm)(h2:framesN (imgI t.1 t.2)≤sz)(h3:¬framesN (bytesL x)≤sz-framesN (imgI t.1 t.2)):sdoI t sz rm x=((t,sz-framesN (imgI t.1 t.2)),0,11):=by
  unfold sdoI;rw[if_neg (by simpa using de_may hx),if_neg (by simpa using hx),if_neg h1,if_neg (by omega),if_neg h3]
def KeQ (X:List Value)(w:World)(B b sb n:Nat)(sz rm:Int)(O:TI→Prop)(lm:Bool)(E:Nat)(t:TI)(x:De)(q:Int)(w':World):Prop:=
  (Below B w w'∧Spares w w')∧∃(O':TI→Prop) (E':Nat),E'≤E+1∧(∀u,O' u→O u∨Like t u∨Like (sdoI t sz rm x).1.1 u)∧((q=(sdoI t sz rm x).2.2∧VL X w' B b sb n (sdoI t sz rm x).1.2 O' lm E' (sdoI t sz rm x).1.1)∨(q=13∧lm=true∧VD X w' B b sb n O' E'))
def KeP (X:List Value)(w:World)(B b sb n:Nat)(sz rm:Int)(O:TI→Prop)(lm:Bool)(E:Nat)(t:TI)(x:De)(e:Ending)(w':World):Prop:=
  ∃q:Int,e=.returned (.int .i64 q)∧KeQ X w B b sb n sz rm O lm E t x q w'
theorem KeQ.from {x:De}{q:Int}{w1:World}(h:KeQ X w1 B b sb n sz rm O lm E t x q w')(hb:Below w.heap.size w w1)(hB:B≤w.heap.size):KeQ X w B b sb n sz rm O lm E t x q w':=by
  obtain⟨⟨h1,h2⟩,h3⟩:=h;exact⟨⟨(hb.mono hB).trans h1,(Spares.ofBelow hb).trans h2⟩,h3⟩
theorem ke_first {x:De}{q:Int}(hx:(deI t.1 t.2 x).2.2=0)(hq:q≠11)(h:ApQ X w B b sb n rm O lm E t (deI t.1 t.2 x).1 (framesN (bytesL x)) q w'):KeQ X w B b sb n sz rm O lm E t x q w':=by
  obtain⟨h0,h⟩:=h;refine⟨h0,?_⟩;rcases h with⟨rfl,hf,hv⟩|⟨rfl,hl,hv⟩|⟨h1,_⟩
  · refine⟨fun u=>O u∨Like (deI t.1 t.2 x).1 u,E,by omega,fun u hu=>?_,Or.inl ⟨?_,?_⟩⟩;rotate_left
    · rw[sdo_fit hx hf]
    · rw[sdo_fit hx hf];exact hv
    · rw[sdo_fit hx hf];rcases hu with h|h
      · exact Or.inl h
      · exact Or.inr (Or.inr h)
  · refine⟨fun u=>O u∨(framesN (bytesL x)≤rm∧Like (deI t.1 t.2 x).1 u),E,by omega,fun u hu=>?_,Or.inr ⟨rfl,hl,hv⟩⟩;rcases hu with h|⟨hf,h⟩
    · exact Or.inl h
    · rw[sdo_fit hx hf];exact Or.inr (Or.inr h)
  · exact absurd h1 hq
theorem ke_renew {x:De}{q:Int}{w1:World}(hx:(deI t.1 t.2 x).2.2=0)(hsz:sz=((n/2:Nat):Int)-1)(hf:¬framesN (bytesL x)≤rm)(h0:Below B w w1∧Spares w w1)(hq:q≠0)(h:RnQ X w1 B b sb n rm O lm E t q w'):KeQ X w B b sb n sz rm O lm E t x q w':=by
  obtain⟨h1,h⟩:=h;refine⟨⟨h0.1.trans h1.1,h0.2.trans h1.2⟩,?_⟩;rcases h with⟨h2,_⟩|⟨rfl,hl,hv⟩|⟨rfl,hk,hv⟩
  · exact absurd h2 hq
  · refine⟨fun u=>O u∨Like t u,E,by omega,fun u hu=>?_,Or.inr ⟨rfl,hl,hv⟩⟩;rcases hu with h|h
    · exact Or.inl h
    · exact Or.inr (Or.inl h)
  · subst hsz;exact⟨O,E,by omega,fun u hu=>Or.inl hu,Or.inl ⟨by rw[sdo_big hx hf hk],by rw[sdo_big hx hf hk];exact hv⟩⟩
theorem ke_again {x:De}{q:Int}{w1:World}(hx:(deI t.1 t.2 x).2.2=0)(hf:¬framesN (bytesL x)≤rm)(hk:framesN (imgI t.1 t.2)≤sz)(h0:Below B w w1∧Spares w w1)(h:ApQ X w1 B b sb n (sz-framesN (imgI t.1 t.2)) (Like t) lm (E+1) t (deI t.1 t.2 x).1 (framesN (bytesL x)) q w'):KeQ X w B b sb n sz rm O lm E t x q w':=by
  obtain⟨h1,h⟩:=h;refine⟨⟨h0.1.trans h1.1,h0.2.trans h1.2⟩,?_⟩;rcases h with⟨rfl,hf2,hv⟩|⟨rfl,hl,hv⟩|⟨rfl,hf2,hv,_⟩
  · refine⟨fun u=>Like t u∨Like (deI t.1 t.2 x).1 u,E+1,Nat.le_refl _,fun u hu=>?_,Or.inl ⟨?_,?_⟩⟩;rotate_left
    · rw[sdo_new hx hf hk hf2]
    · rw[sdo_new hx hf hk hf2];exact hv
    · rw[sdo_new hx hf hk hf2];exact Or.inr hu
  · refine⟨fun u=>Like t u∨(framesN (bytesL x)≤sz-framesN (imgI t.1 t.2)∧Like (deI t.1 t.2 x).1 u),E+1,Nat.le_refl _,fun u hu=>?_,Or.inr ⟨rfl,hl,hv⟩⟩;rcases hu with h|⟨hf2,h⟩
    · exact Or.inr (Or.inl h)
    · rw[sdo_new hx hf hk hf2];exact Or.inr (Or.inr h)
  · exact⟨Like t,E+1,Nat.le_refl _,fun u hu=>Or.inr (Or.inl hu),Or.inl ⟨by rw[sdo_none hx hf hk hf2],by rw[sdo_none hx hf hk hf2];exact hv⟩⟩
set_option maxHeartbeats 4000000 in
theorem run_c {g1 g2:Nat}(x:De)(h:VL X w B b sb n rm O lm E t)(ht:TxIs w X t.1 t.2)(hx:(deI t.1 t.2 x).2.2=0)(hxm:t.2≤9223372036854775807)(hE:E≤1000000)(hsz:sz=((n/2:Nat):Int)-1)
    (h1:w.heap[g1]?=some (.cells #[ptrV sb] 27 (0,0))) (h2:w.heap[g2]?=some (.cells #[.string ⟨(bytesL x).toArray⟩] 9 (0,0))) (a1:Aw w sb g1) (a2:Aw w sb g2) (hB:B≤w.heap.size) :
    Calls Tryz.prog 83 #[.agg #[.func (.func 81) #[] #[ptrV g1,ptrV g2],.func (.func 82) #[ptrV sb] #[]]] w (KeP X w B b sb n sz rm O lm E t x):=by
  unfold KeP;have hb0:Below w.heap.size w (w.alloc (.cells #[.func (.func 81) #[] #[ptrV g1,ptrV g2],.func (.func 82) #[ptrV sb] #[]] 156)):=(Below.refl _ _).alloc (Nat.le_refl _) _;have hsb:=h.hB.2;have hnew:=heap_alloc_new w (.cells #[.func (.func 81) #[] #[ptrV g1,ptrV g2],.func (.func 82) #[ptrV sb] #[]] 156);have hga:Aw (w.alloc (.cells #[.func (.func 81) #[] #[ptrV g1,ptrV g2],.func (.func 82) #[ptrV sb] #[]] 156)) sb w.heap.size:=h.aw hb0 (Nat.le_refl _) hnew (by decide);go_enter Tryz.func83,Tryz.ntmps83;go_upto_region 1 with fail;generalize (w.alloc (.cells #[.func (.func 81) #[] #[ptrV g1,ptrV g2],.func (.func 82) #[ptrV sb] #[]] 156))=W at *;have hBW:B≤W.heap.size:=Nat.le_trans hB hb0.size;have hl1:=h.below hb0;have ht1:=ht.spares (Spares.ofBelow hb0);have cK:=keep1_c x hl1 hx (by rw[hb0.block g1 (lt_of_get h1)];exact h1) (by rw[hb0.block g2 (lt_of_get h2)];exact h2) hBW;unfold ApP at cK;have HAT:Hid (∀W',AwK W W' sb→(W'.cell? ⟨w.heap.size,0,none⟩=some (.func (.func 81) #[] #[ptrV g1,ptrV g2])∧W'.cell? ⟨w.heap.size,1,none⟩=some (.func (.func 82) #[ptrV sb] #[]))∧W'.heap[g1]?=some (.cells #[ptrV sb] 27 (0,0))∧W'.heap[g2]?=some (.cells #[.string ⟨(bytesL x).toArray⟩] 9 (0,0))):=Lib.hid fun W' hk=>by
    have k0:=(hk w.heap.size hga).2.trans hnew;have k1:=(hk g1 (a1.below hb0 hsb).1).2.trans ((a1.below hb0 hsb).2.trans h1);have k2:=(hk g2 (a2.below hb0 hsb).1).2.trans ((a2.below hb0 hsb).2.trans h2);exact⟨⟨Lib.cell_of_heap k0 0,Lib.cell_of_heap k0 1⟩,k1,k2⟩
  have HT1:=Lib.hid ht1;have HSB1:Hid (Below B w W∧Spares w W):=Lib.hid ⟨hb0.mono hB,Spares.ofBelow hb0⟩;have HX:=Lib.hid hx;have HSZ:=Lib.hid hsz;have HB:=Lib.hid hBW;have HF1:Hid (∀q w',q≠11→ApQ X W B b sb n rm O lm E t (deI t.1 t.2 x).1 (framesN (bytesL x)) q w'→KeQ X w B b sb n sz rm O lm E t x q w'):=Lib.hid fun q w' hq hp=>(ke_first hx hq hp).from hb0 hB
  obtain⟨⟨c0,c1⟩,_,_⟩:=HAT.out W (fun k hk=>⟨hk,rfl⟩);clear h ht hx hsz h1 h2 a1 a2 hb0 hnew hga hl1 ht1 hBW;go_upto_region 2 with(go_at_call 81;refine cK.mono ?_;rintro e w2 ⟨q,rfl,hq⟩;have HQ:=Lib.hid hq;clear hq);clear c0 c1 cK;by_cases hq:q=11
  · subst hq;obtain⟨hp,hc⟩:=HQ.out;obtain⟨hnf,hl2,hk2⟩:¬framesN (bytesL x)≤rm∧VL X w2 B b sb n rm O lm E t∧AwK W w2 sb:=by
      rcases hc with⟨h1,_⟩|⟨h1,_⟩|⟨_,h2⟩
      · exact absurd h1 (by decide)
      · exact absurd h1 (by decide)
      · exact h2
    have ht2:=HT1.out.spares hp.2;have hB2:=Nat.le_trans HB.out hp.1.size;have cR:=srenew_c hl2 ht2 hxm (by omega) hB2;unfold RnP at cR;obtain⟨⟨c0,c1⟩,_,_⟩:=HAT.out w2 hk2;have HNF:=Lib.hid hnf;have HK2:=Lib.hid hk2;have HT2:=Lib.hid ht2;have HB2:=Lib.hid hB2;have HSB2:Hid (Below B w w2∧Spares w w2):=Lib.hid ⟨HSB1.out.1.trans hp.1,HSB1.out.2.trans hp.2⟩;clear hp hc hnf hl2 hk2 ht2 hB2;go_upto_region 5 with(go_at_call 82;refine cR.mono ?_;rintro e w3 ⟨q2,rfl,hq2⟩;have HQ2:=Lib.hid hq2;clear hq2);clear c0 c1 cR;by_cases hq2:q2=0
    · subst hq2;obtain⟨hp,hc⟩:=HQ2.out;obtain⟨hkk,hl3,hk3⟩:framesN (imgI t.1 t.2)≤((n/2:Nat):Int)-1∧VL X w3 B b sb n (((n/2:Nat):Int)-1-framesN (imgI t.1 t.2)) (Like t) lm (E+1) t∧AwK w2 w3 sb:=by
        rcases hc with⟨_,h2⟩|⟨h1,_⟩|⟨h1,_⟩
        · exact h2
        · exact absurd h1 (by decide)
        · exact absurd h1 (by decide)
      obtain⟨⟨c0,c1⟩,k1,k2⟩:=HAT.out w3 (HK2.out.trans hk3);have hB3:=Nat.le_trans HB2.out hp.1.size;have cK:=keep1_c x hl3 HX.out k1 k2 hB3;unfold ApP at cK;have HF3:Hid (∀q w',ApQ X w3 B b sb n (((n/2:Nat):Int)-1-framesN (imgI t.1 t.2)) (Like t) lm (E+1) t (deI t.1 t.2 x).1 (framesN (bytesL x)) q w'→KeQ X w B b sb n sz rm O lm E t x q w'):=Lib.hid fun q w' hp3=>by
        have h9:=HSZ.out;subst h9;exact ke_again HX.out (Int.not_le.2 HNF.out) hkk ⟨HSB2.out.1.trans hp.1,HSB2.out.2.trans hp.2⟩ hp3
      clear hp hc hkk hl3 hk3 k1 k2 hB3;go_wp2_with (go_at_call 81;refine cK.mono ?_;rintro e w4 ⟨q3,rfl,hq3⟩;have HQ3:=Lib.hid (HF3.out q3 w4 hq3);clear hq3);go_ret;exact⟨q3,rfl,HQ3.out⟩
    · have hqz:(q2==0)=false:=beq_eq_false_iff_ne.2 hq2;have HE:=Lib.hid (ke_renew HX.out HSZ.out (Int.not_le.2 HNF.out) HSB2.out hq2 HQ2.out);clear hq2;go_wp2;go_ret;exact⟨q2,rfl,HE.out⟩
  · have hqz:(q==11)=false:=beq_eq_false_iff_ne.2 hq;have HE:=Lib.hid (HF1.out q w2 hq HQ.out);clear hq;go_wp2;go_ret;exact⟨q,rfl,HE.out⟩
set_option maxHeartbeats 2000000 in
theorem keep_c (x:De)(h:VL X w B b sb n rm O lm E t)(ht:TxIs w X t.1 t.2)(hx:(deI t.1 t.2 x).2.2=0)(hxm:t.2≤9223372036854775807)(hE:E≤1000000)(hsz:sz=((n/2:Nat):Int)-1)(hB:B≤w.heap.size) :
    Calls Tryz.prog 37 #[ptrV sb,.string ⟨(bytesL x).toArray⟩] w (KeP X w B b sb n sz rm O lm E t x):=by
  unfold KeP;obtain⟨W,hW⟩:∃W,(w.alloc (.cells #[ptrV sb] 27)).alloc (.cells #[.string ⟨(bytesL x).toArray⟩] 9)=W:=⟨_,rfl⟩;have hbW:Below w.heap.size w W:=by rw[←hW];exact((Below.refl _ _).alloc (Nat.le_refl _) _).alloc (by simp) _
  have h2:W.heap[w.heap.size+1]?=some (.cells #[.string ⟨(bytesL x).toArray⟩] 9 (0,0)):=by
    rw[←hW];have:=heap_alloc_new (w.alloc (.cells #[ptrV sb] 27)) (.cells #[.string ⟨(bytesL x).toArray⟩] 9);rwa[show(w.alloc (.cells #[ptrV sb] 27)).heap.size=w.heap.size+1 by simp]at this
  have h1:W.heap[w.heap.size]?=some (.cells #[ptrV sb] 27 (0,0)):=by
    rw[←hW,Below.heap_alloc _ _ _ (by simp)];exact heap_alloc_new _ _
  have hBW:=Nat.le_trans hB hbW.size;have cR:=run_c x (h.below hbW) (ht.spares (Spares.ofBelow hbW)) hx hxm hE hsz h1 h2 (h.aw hbW (Nat.le_refl _) h1 (by decide)) (h.aw hbW (by omega) h2 (by decide)) hBW;unfold KeP at cR;have k1:W.cell? ⟨w.heap.size,0,none⟩=some (ptrV sb):=Lib.cell_of_heap h1 0;have HF:Hid (∀q w',KeQ X W B b sb n sz rm O lm E t x q w'→KeQ X w B b sb n sz rm O lm E t x q w'):=Lib.hid fun q w' hq=>hq.from hbW hB
  generalize (⟨(bytesL x).toArray⟩:ByteArray)=s at *;clear h ht hx hsz h1 h2 hBW hbW;go_enter Tryz.func37,Tryz.ntmps37;go_upto_region 1 with fail
  try rw[hW]
  clear hW;go_wp2_with (go_at_call 83;refine cR.mono ?_;rintro e w2 ⟨q,rfl,hq⟩;have HQ:=Lib.hid (HF.out q w2 hq);clear hq);go_ret;exact⟨q,rfl,HQ.out⟩
end
end Go.Proofs.YtdmkhmeaphaapaaGreat
