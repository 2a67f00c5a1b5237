/- Kit. -/
import Derived.Test.YtdmkhmeaphaapaaGreatMZ39
import Derived.Test.YtdmkhmeaphaapaaGreatMZ40
import Derived.Test.YtdmkhmeaphaapaaGreatMZ41
import Derived.Test.YtdmkhmeaphaapaaGreatMZ36
import Derived.Test.YtdmkhmeaphaapaaGreatMZ0
import Derived.StillTailTactics
import Derived.Deep.RegionLaw
set_option maxRecDepth 100000
set_option linter.unusedVariables false
set_option linter.unusedSimpArgs false
namespace Go.Proofs.YtdmkhmeaphaapaaGreat
open Go.RowKit Go.Sort
structure TXw (w:World)(X:List Value)(K:Nat→Int)(E:Nat→List Bq)(R:Nat→Value)(u:Nat)(v:Value)(ys:List Int)(c:Int):Prop where
 shape:GI X.toArray K R u v c
 rows:∀n,n≤200→w.ownsRow 0 112 5 (R n) (E n).length ((E n).flatMap DU)
 apart:∀i j g,i≤200→j≤200→(R i).ownBlock=some g→(R j).ownBlock=some g→i=j
 own:Dv 0 w v ys
 good:Fe 200 u ys
def Nb (w:World)(X:List Value)(l:List Az)(nx:Int):Prop:=∃R u v ys,TXw w X (Bl l) (Bf l) R u v ys nx∧A9 u ys=BH l∧Aq l nx
theorem Nk {w:World}{B:Nat}{T:TypeId}{c:Nat}{v:Value}{n:Nat}{xs:List Value}(h:w.ownsRow B T c v n xs):w.ownsRow 0 T c v n xs:=by
 refine⟨h.1,?_⟩;rcases h.2 with h1|⟨g,cap,cur,hv,hg,h1⟩
 · exact Or.inl h1
 · exact Or.inr ⟨g,cap,cur,hv,Nat.zero_le _,h1⟩
def EB (w w':World):Prop:=∀T,T=112∨T=3→∀(k:Nat) (cs:Array Value) (fr:Nat×Nat),w.heap[k]?=some (.cells cs T fr)→w'.heap[k]?=some (.cells cs T fr)
theorem EB.mW {w w':World}(h:Be w w'):EB w w':=fun T hT k cs fr hk=>h T (by rcases hT with rfl|rfl<;>simp[Jt]) k cs fr hk
theorem EB.Aav {w w':World}(h:V.Off Nj w w'):EB w w':=fun T hT k cs fr hk=>h T (by rcases hT with rfl|rfl<;>decide) k cs fr hk
theorem EB.Ar {w w':World}(h:Below w.heap.size w w'):EB w w':=fun T hT k cs fr hk=>by rw[h.block k (Ab hk)];exact hk
namespace Nb
variable {w w':World}{X:List Value}{l:List Az}{nx:Int}{sb b F S A E:Nat}{img:ByteArray}{rv:Value}{op:Bool}
theorem good (h:Nb w X l nx):Aq l nx:=by
 obtain⟨R,u,v,ys,hm,ho,hg⟩:=h;exact hg
theorem keep (h:Nb w X l nx)(hk:EB w w'):Nb w' X l nx:=by
 obtain⟨R,u,v,ys,hm,ho,hg⟩:=h;refine⟨R,u,v,ys,⟨hm.shape,fun n hn=>AV (hm.rows n hn) fun g hg=>?_,hm.apart,AV hm.own fun g hg=>?_,hm.good⟩,ho,hg⟩
 · obtain⟨cur,hc⟩:=Cz (hm.rows n hn) hg;rw[hc];exact hk _ (Or.inl rfl) _ _ _ hc
 · obtain⟨cur,hc⟩:=Cz hm.own hg;rw[hc];exact hk _ (Or.inr rfl) _ _ _ hc
theorem II (h:Nb w X l nx)(hk:Be w w'):Nb w' X l nx:=h.keep (EB.mW hk)
theorem len (h:Nb w X l nx):X.length=406:=by
 obtain⟨R,u,v,ys,hm,_⟩:=h;have h1:=hm.shape.size;rwa[FN]at h1
theorem te (h:Nb w X l nx)(hv:V.St.Ap X w sb b F S A E img rv op):TN w sb l nx:=by
 obtain⟨R,u,v,ys,hm,ho,hg⟩:=h;refine⟨R,u,v,ys,⟨⟨_,X.toArray,hv,fun j x hx=>?_,hm.shape⟩,hm.rows,hm.apart,hm.own,hm.good⟩,ho,hg⟩;rw[Gd]at hx ⊢;rw[Nat.add_comm];exact hx
theorem of {bt:Nat}{S:Nat→Prop}(h:Bp.Is w bt l nx S):∃cs:Array Value,w.heap[bt]?=some (.cells cs 96 (0,0))∧cs.size=406∧cs.all (·.oneCell')=true∧Nb w cs.toList l nx:=by
 obtain⟨R,u,v,ys,hm,ho,hg,_⟩:=h;obtain⟨cs,hc,hO⟩:=hm.cells;refine⟨cs,hc,hO.size,UF hO (fun n hn=>?_) ?_,R,u,v,ys,⟨by rw[Array.toArray_toList];exact hO,fun n hn=>Nk (hm.rows n hn),hm.apart,Nk hm.own,hm.good⟩,ho,hg⟩
 · obtain⟨a,cap,e⟩:=(hm.Fw hn).len;exact⟨a,_,cap,e⟩
 · obtain⟨a,cap,e⟩:=hm.own.len;exact⟨a,_,cap,e⟩
end Nb
def VL (X:List Value)(w:World)(B b sb n:Nat)(rm:Int)(O:TI→Prop)(lm:Bool)(E:Nat)(t:TI):Prop:=
 ∃(h:Nat) (k:Bool) (A:Nat) (img:ByteArray) (rs r1 r2:List ByteArray) (st:V.St) (rv:Value),V.St.DR X B b sb n h k E A img rs r1 r2 lm st rv w∧n/2=h∧r1≠[]∧Cg (bl img) (rs.map bl) t∧rm=((n/2:Nat):Int)-(A:Int)∧∀u,Pn r1 r2 ⟨#[]⟩ u→O u
def VD (X:List Value)(w:World)(B b sb n:Nat)(O:TI→Prop)(E:Nat):Prop:=
 ∃(h:Nat) (k:Bool) (r1 r2:List ByteArray) (fresh:ByteArray) (st:V.St),V.St.KS X B b sb n h k E r1 r2 fresh st w∧n/2=h∧2≤h∧n≤400∧(∀s∈r1++r2,1≤s.size∧s.size≤60000)∧r1≠[]∧(∃t,MoB (r1++r2) t)∧(fresh.size≠0→∃t,Cg (bl fresh) [] t)∧∀u,Pn r1 r2 fresh u→O u
theorem dP:∀T∈Jt,T∉V.CY:=by decide
theorem nR:∀T∈Jt,T∉V.AZ:=by decide
theorem Ou {w w':World}(h:V.Off V.CY w w'):Be w w':=fun T hT k cs fr hk=>h T (dP T hT) k cs fr hk
theorem V7 {w w':World}(h:V.Off V.AZ w w'):Be w w':=fun T hT k cs fr hk=>h T (nR T hT) k cs fr hk
theorem xR {B:Nat}{w w':World}{rv:Value}{rs:List ByteArray}(h:V.EY (V.BC rv) w w')(hr:V.Cw B w rv rs):Be w w':=fun T hT k cs fr hk=>h T (dP T hT) k cs fr (fun e=>by
 rcases hr with⟨_,rfl⟩|⟨g,off,cap,cur,rfl,_,_,_,hg,_⟩
 · cases e
 · injection e with e;subst e;rw[hk]at hg;injection hg with hg;injection hg with _ h3 _;rw[h3]at hT;exact absurd hT (by decide)) hk
section
variable {B b sb n:Nat}{X:List Value}{rm:Int}{O:TI→Prop}{lm:Bool}{E:Nat}{t:TI}{w w':World}
theorem VL.weak {O':TI→Prop}(h:VL X w B b sb n rm O lm E t)(hO:∀u,O u→O' u):VL X w B b sb n rm O' lm E t:=by
 obtain⟨h',k,A,img,rs,r1,r2,st,rv,a1,a2,a3,a4,a5,a6⟩:=h;exact⟨h',k,A,img,rs,r1,r2,st,rv,a1,a2,a3,a4,a5,fun u hu=>hO u (a6 u hu)⟩
theorem VD.weak {O':TI→Prop}(h:VD X w B b sb n O E)(hO:∀u,O u→O' u):VD X w B b sb n O' E:=by
 obtain⟨h',k,r1,r2,fresh,st,a1,a2,a3,a4,a5,a6,a7,a8,a9⟩:=h;exact⟨h',k,r1,r2,fresh,st,a1,a2,a3,a4,a5,a6,a7,a8,fun u hu=>hO u (a9 u hu)⟩
theorem VL.good (h:VL X w B b sb n rm O lm E t):Cq t∧0≤rm∧rm≤400:=by
 obtain⟨h',k,A,img,rs,r1,r2,st,rv,a1,a2,a3,a4,a5,a6⟩:=h;have h1:=a1.live.room;have h2:=a1.live.n2;refine⟨a4.good,?_,?_⟩<;>(rw[a5];omega)
theorem VL.below (h:VL X w B b sb n rm O lm E t)(hb:Below w.heap.size w w'):VL X w' B b sb n rm O lm E t:=by
 obtain⟨h',k,A,img,rs,r1,r2,st,rv,a1,a⟩:=h;exact⟨h',k,A,img,rs,r1,r2,st,rv,a1.below hb,a⟩
theorem VD.below (h:VD X w B b sb n O E)(hb:Below w.heap.size w w'):VD X w' B b sb n O E:=by
 obtain⟨h',k,r1,r2,fresh,st,a1,a⟩:=h;exact⟨h',k,r1,r2,fresh,st,a1.below hb,a⟩
theorem VL.off (h:VL X w B b sb n rm O lm E t)(ho:V.Off Nj w w'):VL X w' B b sb n rm O lm E t:=by
 obtain⟨h',k,A,img,rs,r1,r2,st,rv,a1,a⟩:=h;exact⟨h',k,A,img,rs,r1,r2,st,rv,⟨a1.live,a1.dev.off ho (by decide) (by decide) (by decide),V.Af.off a1.KW ho (by decide),UT a1.row ho,a1.hvb⟩,a⟩
theorem VD.off (h:VD X w B b sb n O E)(ho:V.Off Nj w w'):VD X w' B b sb n O E:=by
 obtain⟨h',k,r1,r2,fresh,st,a1,a⟩:=h;obtain⟨A,LH,rv,hv⟩:=a1.KW;exact⟨h',k,r1,r2,fresh,st,⟨a1.dead,a1.dev.off ho (by decide) (by decide) (by decide),⟨A,LH,rv,V.Af.off hv ho (by decide)⟩,a1.hvb⟩,a⟩
theorem VL.at (h:VL X w B b sb n rm O lm E t):∃F S A img rv,V.St.Ap X w sb b F S A E img rv true∧S≤100000∧A≤100000∧rm=(S:Int)-(A:Int):=by
 obtain⟨h',k,A,img,rs,r1,r2,st,rv,a1,a2,a3,a4,a5,a6⟩:=h;have h1:=a1.live.room;have h2:=a1.live.n2;exact⟨_,_,_,_,_,a1.KW,by omega,by omega,by rw[a5,a2]⟩
theorem VD.at (h:VD X w B b sb n O E):∃F S A E' img rv,V.St.Ap X w sb b F S A E' img rv false:=by
 obtain⟨h',k,r1,r2,fresh,st,a1,a⟩:=h;obtain⟨A,LH,rv,hv⟩:=a1.KW;exact⟨_,_,_,_,_,_,hv⟩
theorem VL.hB (h:VL X w B b sb n rm O lm E t):B≤sb∧sb<w.heap.size:=by
 obtain⟨h',k,A,img,rs,r1,r2,st,rv,a1,a⟩:=h;exact⟨a1.hvb,Ab a1.KW⟩
theorem VL.kn (h:VL X w B b sb n rm O false E t):∃k img rs st,V.Dev B w b st∧V.vR n (n/2) k E img rs st∧Cg (bl img) (rs.map bl) t∧rm=((n/2:Nat):Int)-((1+(V.Ce (V.recs (img::rs))).length:Nat):Int):=by
 obtain⟨h',k,A,img,rs,r1,r2,st,rv,a1,a2,a3,a4,a5,a6⟩:=h;have hk:=a1.live.kn a2;subst a2;exact⟨k,img,rs,st,a1.dev,hk,a4,by rw[a5,a1.live.end_]⟩
theorem VL.I1 (v:Value)(l:List Int)(h:VL X w B b sb n rm O lm E t)(hv:Eo w v l)(hl:l.length≤9223372036854775807)(hB:B≤w.heap.size) :
 Calls Tryz.prog 42 #[Aj b,v] w fun e w'=>e=.returned (.tuple #[])∧(∃t' rm' E',zA w' B b n t' rm' E'∧O t'∧E'≤E+1)∧Below B w w'∧Be w w':=by
 obtain⟨h',k,A,img,rs,r1,r2,st,rv,hL,hh,hne,ht,a5,a6⟩:=h;have h1:=hL.live.Wl;have h2:=hL.live.n2;have h3:=hL.live.hn;refine(V.UU B b st v l w hL.dev hL.live.good (by omega) hv hl hB).mono ?_;rintro e w' ⟨rfl,hd,hb,ho⟩;have hD:=hL.live.dead [] ⟨#[]⟩;rw[Ct]at hD;obtain⟨t',rm',E',g1,g2,g3⟩:=SX hD hh hL.live.h2 hL.live.n2 (by rw[←hL.live.all];exact hL.live.sizes) hne ⟨t,img,rs,hL.live.all.symm,ht⟩ (fun h0=>absurd rfl h0) l hd;exact⟨rfl,⟨t',rm',E',g1,a6 _ g2,g3⟩,hb,V7 ho⟩
theorem VD.I1 (v:Value)(l:List Int)(h:VD X w B b sb n O E)(hv:Eo w v l)(hl:l.length≤9223372036854775807)(hB:B≤w.heap.size) :
 Calls Tryz.prog 42 #[Aj b,v] w fun e w'=>e=.returned (.tuple #[])∧(∃t' rm' E',zA w' B b n t' rm' E'∧O t'∧E'≤E+1)∧Below B w w'∧Be w w':=by
 obtain⟨h',k,r1,r2,fresh,st,hL,hh,h2,hn,hs,hne,hf,hg,a9⟩:=h;have h1:=hL.dead.IE;refine(V.UU B b st v l w hL.dev hL.dead.good (by omega) hv hl hB).mono ?_;rintro e w' ⟨rfl,hd,hb,ho⟩;obtain⟨t',rm',E',g1,g2,g3⟩:=SX hL.dead hh h2 hn hs hne hf hg l hd;exact⟨rfl,⟨t',rm',E',g1,a9 _ g2,g3⟩,hb,V7 ho⟩
theorem VL.cut {N:Int}(h:VL X w B b sb n rm O lm E t)(h1:-9223372036854775808≤N)(h2:N≤9223372036854775807) :
 Calls Tryz.prog 11 #[Aj b,.int .i64 N] w fun e w'=>e=.returned (.tuple #[])∧VL X w' B b sb n rm O true E t∧Below B w w'∧Be w w':=by
 obtain⟨h',k,A,img,rs,r1,r2,st,rv,hL,a⟩:=h;refine(V.wX B b st N w hL.dev).mono ?_;rintro e w' ⟨rfl,hd,hb,ho⟩;exact⟨rfl,⟨h',k,A,img,rs,r1,r2,_,rv,⟨hL.live.cut h1 h2,hd,V.Af.KJ hL.KW ho (by simp),hL.row.off ho.va,hL.hvb⟩,a⟩,hb,V7 ho⟩
theorem VD.cut {N:Int}(h:VD X w B b sb n O E)(h1:-9223372036854775808≤N)(h2:N≤9223372036854775807) :
 Calls Tryz.prog 11 #[Aj b,.int .i64 N] w fun e w'=>e=.returned (.tuple #[])∧VD X w' B b sb n O E∧Below B w w'∧Be w w':=by
 obtain⟨h',k,r1,r2,fresh,st,hL,a⟩:=h;refine(V.wX B b st N w hL.dev).mono ?_;rintro e w' ⟨rfl,hd,hb,ho⟩;obtain⟨A,LH,rv,hv⟩:=hL.KW;exact⟨rfl,⟨h',k,r1,r2,fresh,_,⟨hL.dead.cut h1 h2,hd,⟨A,LH,rv,V.Af.KJ hv ho (by simp)⟩,hL.hvb⟩,a⟩,hb,V7 ho⟩
end
theorem size_bytes (l:List UInt8):(⟨l.toArray⟩:ByteArray).size=l.length:=rfl
theorem aP (x:De):1≤(Ac x).length:=by
 unfold Ac;rw[Bg,Ag];omega
theorem Yo (l:List Az)(nx:Int):1≤(BI l nx).length:=by
 unfold BI NH;simp only[List.length_append,Ag];omega
theorem WW {S A:Nat}{s:ByteArray}(h1:1≤s.size)(h2:s.size≤60000):V.Cu S A s=if S<A+(s.size+61)/62 then 11 else 0:=by
 unfold V.Cu;rw[if_neg (by omega)]
theorem Sl:∀{R:List (List UInt8)},(∀r∈R,r≠[]∧r.length≤60000)→R.length≤(V.Ce R).length
 | [],_=>Ae _
 | r::R,h=>by
  have h9:=Sl (R:=R) (fun q hq=>h q (by simp[hq]));show R.length+1≤(V.Co r++V.Ce R).length
  have h8:=(h r (by simp)).1;rw[Bg,V.Dm h8,GM];omega
theorem lW {n h:Nat}{k:Bool}{E A:Nat}{img:ByteArray}{rs r1 r2:List ByteArray}{lm:Bool}{st:V.St}(hl:V.Dj n h k E A img rs r1 r2 lm st):rs.length≤400:=by
 have h1:=hl.end_;have h2:=hl.room;have h3:=hl.hn;have h4:=hl.n2;have h5:=Sl (R:=V.recs (img::rs)) (fun r hr=>by
  unfold V.recs V.Ac at hr;obtain⟨s,hs,rfl⟩:=Cy.1 hr;have h6:=hl.sizes s hs;have h7:s.data.toList.length=s.size:=BP;exact⟨fun e=>by rw[e]at h7;simp at h7;omega,by rw[h7];omega⟩)
 have h6:(V.recs (img::rs)).length=rs.length+1:=by unfold V.recs V.Ac;simp
 omega
section
variable {B b sb n:Nat}{X:List Value}{rm:Int}{O:TI→Prop}{lm:Bool}{E:Nat}{t:TI}{w w':World}
def Aw (w:World)(sb k:Nat):Prop:=∃cs T fr,w.heap[k]?=some (.cells cs T fr)∧T∉V.CY∧∀rv,w.cell? ⟨sb,6,none⟩=some rv→V.BC rv≠some k
def ko (w w':World)(sb:Nat):Prop:=∀k,Aw w sb k→Aw w' sb k∧w'.heap[k]?=w.heap[k]?
theorem Aw.below {k:Nat}(h:Aw w sb k)(hb:Below w.heap.size w w')(hs:sb<w.heap.size):Aw w' sb k∧w'.heap[k]?=w.heap[k]?:=by
 obtain⟨cs,T,fr,h1,h2,h3⟩:=h;have h4:=hb.block k (Ab h1);refine⟨⟨cs,T,fr,h4.trans h1,h2,fun rv hr=>h3 rv ?_⟩,h4⟩;rw[Fz (hb.block sb hs)]at hr;exact hr
theorem ko.below (hb:Below w.heap.size w w')(hs:sb<w.heap.size):ko w w' sb:=fun k hk=>hk.below hb hs
theorem ko.trans {w'':World}(h:ko w w' sb)(h':ko w' w'' sb):ko w w'' sb:=fun k hk=>⟨(h' k (h k hk).1).1,((h' k (h k hk).1).2).trans (h k hk).2⟩
theorem VL.row (h:VL X w B b sb n rm O lm E t):∃rv,w.cell? ⟨sb,6,none⟩=some rv∧∀k,V.BC rv=some k→k<w.heap.size:=by
 obtain⟨h',k,A,img,rs,r1,r2,st,rv,hL,_⟩:=h;exact⟨rv,(V.St.Ap.more hL.KW).2.1,fun k hk=>(hL.row.lt hk).2⟩
theorem VL.aw (h:VL X w B b sb n rm O lm E t)(hb:Below w.heap.size w w'){k:Nat}{cs:Array Value}{T:TypeId}{fr:Nat×Nat}(hk:w.heap.size≤k)(hc:w'.heap[k]?=some (.cells cs T fr))(hT:T∉V.CY):Aw w' sb k:=by
 obtain⟨rv,h1,h2⟩:=h.row;refine⟨cs,T,fr,hc,hT,fun rv' hr e=>?_⟩;rw[Fz (hb.block sb h.hB.2),h1]at hr;obtain rfl:=Cm hr;have:=h2 k e;omega
def sG (X:List Value)(w:World)(B b sb n:Nat)(rm:Int)(O:TI→Prop)(lm:Bool)(E:Nat)(t t':TI)(f:Int)(q:Int)(w':World):Prop:=
 (Below B w w'∧Be w w')∧((q=0∧f≤rm∧VL X w' B b sb n (rm-f) (fun u=>O u∨CG t' u) lm E t')∨(q=13∧lm=true∧VD X w' B b sb n (fun u=>O u∨(f≤rm∧CG t' u)) E)∨(q=11∧¬f≤rm∧VL X w' B b sb n rm O lm E t∧ko w w' sb))
def ApP (X:List Value)(w:World)(B b sb n:Nat)(rm:Int)(O:TI→Prop)(lm:Bool)(E:Nat)(t t':TI)(f:Int)(e:Ending)(w':World):Prop:=
 ∃q:Int,e=.returned (.int .i64 q)∧sG X w B b sb n rm O lm E t t' f q w'
theorem sG.from {t':TI}{f q:Int}{w1:World}(h:sG X w1 B b sb n rm O lm E t t' f q w')(hb:Below w.heap.size w w1)(hB:B≤w.heap.size)(hs:sb<w.heap.size):sG X w B b sb n rm O lm E t t' f q w':=by
 obtain⟨⟨h1,h2⟩,h3⟩:=h;refine⟨⟨(hb.mono hB).trans h1,(Be.Ar hb).trans h2⟩,?_⟩;rcases h3 with h3|h3|⟨a,a2,a3,a4⟩
 · exact Or.inl h3
 · exact Or.inr (Or.inl h3)
 · exact Or.inr (Or.inr ⟨a,a2,a3,(ko.below hb hs).trans a4⟩)
theorem fG (x:De)(h:VL X w B b sb n rm O lm E t)(hx:(Eg t.1 t.2 x).2.2=0)(hB:B≤w.heap.size) :
 Calls Tryz.prog 24 #[Aj sb,.string ⟨(Ac x).toArray⟩] w (ApP X w B b sb n rm O lm E t (Eg t.1 t.2 x).1 (Ay (Ac x))):=by
 obtain⟨h',k,A,img,rs,r1,r2,st,rv,hL,hh,hne,ht,hrm,hO⟩:=h;have hm:=P8 hx;have h6:=Li x hm;have h1:=aP x;have hsz:=size_bytes (Ac x);have hroom:=hL.live.room;have hfe:=WW (S:=h') (A:=A) (s:=⟨(Ac x).toArray⟩) (by omega) (by omega);have wT:Ay (Ac x)=(((⟨(Ac x).toArray⟩:ByteArray).size+61)/62:Nat):=by unfold Ay;rw[hsz]
 have hsn:=ht.snoc hx;have hmap:(rs++[(⟨(Ac x).toArray⟩:ByteArray)]).map bl=rs.map bl++[Ac x]:=by rw[List.map_append];rfl
 have hall:=hL.live.all;refine(V.St.Pj ⟨(Ac x).toArray⟩ hL (by omega) (by have:=lW hL.live;omega) hB).mono ?_;rintro e w' ⟨q,rfl,hb,ho,hc⟩;refine⟨q,rfl,⟨hb,xR ho hL.row⟩,?_⟩;rcases hc with⟨rfl,hfit,st',rv',hL',_⟩|⟨rfl,hlm,st',hD⟩|⟨h0,Ka,hfit,hL'⟩
 · obtain⟨_,_,h9⟩:=V.DJ hfit;refine Or.inl ⟨rfl,by rw[wT,hrm];omega,h',k,_,img,_,r1,_,st',rv',hL',hh,hne,by rw[hmap];exact hsn,by rw[wT,hrm];omega,fun u hu=>?_⟩;rcases Pn.snoc hall (by rw[hmap];exact hsn) u hu with h|h
   · exact Or.inl (hO u h)
   · exact Or.inr h
 · by_cases hfit:V.Cu h' A ⟨(Ac x).toArray⟩=0
   · have hts:V.St.Qn h' A ⟨(Ac x).toArray⟩=[⟨(Ac x).toArray⟩]:=by unfold V.St.Qn;rw[if_pos hfit]
     obtain⟨_,_,h9⟩:=V.DJ hfit;rw[hts]at hD;refine Or.inr (Or.inl ⟨rfl,hlm,h',k,r1,_,⟨#[]⟩,st',hD,hh,hL.live.h2,hL.live.n2,fun s hs=>?_,hne,⟨_,img,rs++[⟨(Ac x).toArray⟩],by rw[←Cc,←hall];rfl,by rw[hmap];exact hsn⟩,fun h0=>absurd rfl h0,fun u hu=>?_⟩)
     · rw[←Cc,←hall]at hs;rcases FB.1 hs with h|h
       · exact hL.live.sizes s h
       · rw[CU.1 h];omega
     · rcases Pn.snoc hall (by rw[hmap];exact hsn) u hu with h|h
       · exact Or.inl (hO u h)
       · exact Or.inr ⟨by rw[wT,hrm];omega,h⟩
   · have hts:V.St.Qn h' A ⟨(Ac x).toArray⟩=[]:=by unfold V.St.Qn;rw[if_neg hfit]
     rw[hts,Ct]at hD;exact Or.inr (Or.inl ⟨rfl,hlm,h',k,r1,r2,⟨#[]⟩,st',hD,hh,hL.live.h2,hL.live.n2,by rw[←hall];exact hL.live.sizes,hne,⟨t,img,rs,hall.symm,ht⟩,fun h0=>absurd rfl h0,fun u hu=>Or.inl (hO u hu)⟩)
 · rw[hfe]at hfit;split at hfit
   · refine Or.inr (Or.inr ⟨hfit.symm,by rw[wT,hrm];omega,⟨h',k,A,img,rs,r1,r2,st,rv,hL',hh,hne,ht,hrm,hO⟩,fun j hj=>?_⟩);obtain⟨cs,T,fr,j1,j2,j3⟩:=hj;have hne2:=j3 rv (V.St.Ap.more hL.KW).2.1;have j4:=ho T j2 j cs fr (fun e=>hne2 e.symm) j1;refine⟨⟨cs,T,fr,j4,j2,fun rv' hr=>?_⟩,j4.trans j1.symm⟩;rw[(V.St.Ap.more hL'.KW).2.1]at hr;obtain rfl:=Cm hr;exact hne2
   · exact absurd hfit.symm h0
def zx (X:List Value)(w:World)(B b sb n:Nat)(rm:Int)(O:TI→Prop)(lm:Bool)(E:Nat)(t:TI)(q:Int)(w':World):Prop:=
 (Below B w w'∧Be w w')∧((q=0∧Ay (BI t.1 t.2)≤((n/2:Nat):Int)-1∧VL X w' B b sb n (((n/2:Nat):Int)-1-Ay (BI t.1 t.2)) (CG t) lm (E+1) t∧ko w w' sb)∨(q=13∧lm=true∧VD X w' B b sb n (fun u=>O u∨CG t u) E)∨(q=11∧((n/2:Nat):Int)-1<Ay (BI t.1 t.2)∧VL X w' B b sb n rm O lm E t))
def RnP (X:List Value)(w:World)(B b sb n:Nat)(rm:Int)(O:TI→Prop)(lm:Bool)(E:Nat)(t:TI)(e:Ending)(w':World):Prop:=
 ∃q:Int,e=.returned (.int .i64 q)∧zx X w B b sb n rm O lm E t q w'
theorem zx.from {q:Int}{w1:World}(h:zx X w1 B b sb n rm O lm E t q w')(hb:Below w.heap.size w w1)(hB:B≤w.heap.size)(hs:sb<w.heap.size):zx X w B b sb n rm O lm E t q w':=by
 obtain⟨⟨h1,h2⟩,h3⟩:=h;refine⟨⟨(hb.mono hB).trans h1,(Be.Ar hb).trans h2⟩,?_⟩;rcases h3 with⟨a,a2,a3,a4⟩|h3|h3
 · exact Or.inl ⟨a,a2,a3,(ko.below hb hs).trans a4⟩
 · exact Or.inr (Or.inl h3)
 · exact Or.inr (Or.inr h3)
theorem kU (h:VL X w B b sb n rm O lm E t)(hx:t.2≤9223372036854775807)(hE:E≤1000001)(hB:B≤w.heap.size) :
 Calls Tryz.prog 121 #[Aj sb,.string ⟨(BI t.1 t.2).toArray⟩] w (RnP X w B b sb n rm O lm E t):=by
 obtain⟨h',k,A,img,rs,r1,r2,st,rv,hL,hh,hne,ht,hrm,hO⟩:=h;have hg:Cq t:=ht.good;have h6:(BI t.1 t.2).length≤60000:=Jd hg;have h1:=Yo t.1 t.2;have hsz:=size_bytes (BI t.1 t.2);have hfe:=WW (S:=h') (A:=1) (s:=⟨(BI t.1 t.2).toArray⟩) (by omega) (by omega);have wT:Ay (BI t.1 t.2)=(((⟨(BI t.1 t.2).toArray⟩:ByteArray).size+61)/62:Nat):=by unfold Ay;rw[hsz]
 have hown:Cg (bl ⟨(BI t.1 t.2).toArray⟩) [] t:=Cg.own hg hx;have hall:=hL.live.all;refine(V.St.tX ⟨(BI t.1 t.2).toArray⟩ hL (by omega) (by omega) hB).mono ?_;rintro e w' ⟨q,rfl,hc⟩;refine⟨q,rfl,?_⟩;rcases hc with⟨rfl,hfit,hb,ho,st',rv',hL',hp,hrow⟩|⟨hb,ho,⟨rfl,hlm,st',hD⟩|⟨h0,Ka,hfit,hL'⟩⟩
 · obtain⟨_,_,h9⟩:=V.DJ hfit;refine⟨⟨hb,Ou ho⟩,Or.inl ⟨rfl,by rw[wT];omega,⟨h',!k,_,_,[],_,[],st',rv',hL',hh,by simp,hown,by rw[wT];omega,fun u hu=>Pn.all rfl hown u hu⟩,fun j hj=>?_⟩⟩;obtain⟨cs,T,fr,j1,j2,j3⟩:=hj;have j4:=ho T j2 j cs fr j1;refine⟨⟨cs,T,fr,j4,j2,fun lV hr=>?_⟩,j4.trans j1.symm⟩;rw[(V.St.Ap.more hL'.KW).2.1]at hr;obtain rfl:=Cm hr;rw[hrow];simp
 · refine⟨⟨hb,Ou ho⟩,Or.inr (Or.inl ⟨rfl,hlm,h',k,r1,r2,_,st',hD,hh,hL.live.h2,hL.live.n2,by rw[←hall];exact hL.live.sizes,hne,⟨t,img,rs,hall.symm,ht⟩,fun _=>⟨t,hown⟩,fun u hu=>?_⟩)⟩;rcases hu with⟨y,hy,hm⟩|⟨_,hm⟩
   · exact Or.inl (hO u (Or.inl ⟨y,hy,hm⟩))
   · exact Or.inr (hown.one hm)
 · refine⟨⟨hb,Ou ho⟩,?_⟩;rw[hfe]at hfit;split at hfit
   · exact Or.inr (Or.inr ⟨hfit.symm,by rw[wT];omega,h',k,A,img,rs,r1,r2,st,rv,hL',hh,hne,ht,hrm,hO⟩)
   · exact absurd hfit.symm h0
theorem sN (h:VL X w B b sb n rm O lm E t)(hB:B≤w.heap.size) :
 Calls Tryz.prog 33 #[Aj sb] w fun e w'=>∃q:Int,e=.returned (.int .i64 q)∧(Below B w w'∧Be w w')∧((q=0∧VL X w' B b sb n rm (CG t) lm E t)∨(q=13∧lm=true∧VD X w' B b sb n O E)):=by
 obtain⟨h',k,A,img,rs,r1,r2,st,rv,hL,hh,hne,ht,hrm,hO⟩:=h;have hall:=hL.live.all;refine(V.St.xQ hL hB).mono ?_;rintro e w' ⟨q,rfl,hb,ho,⟨rfl,st',hL'⟩|⟨rfl,hlm,st',hD⟩⟩
 · exact⟨0,rfl,⟨hb,Ou ho⟩,Or.inl ⟨rfl,h',k,A,img,rs,_,[],st',rv,hL',hh,by simp[hne],ht,hrm,fun u hu=>Pn.all hall.symm ht u hu⟩⟩
 · exact⟨13,rfl,⟨hb,Ou ho⟩,Or.inr ⟨rfl,hlm,h',k,r1,r2,⟨#[]⟩,st',hD,hh,hL.live.h2,hL.live.n2,by rw[←hall];exact hL.live.sizes,hne,⟨t,img,rs,hall.symm,ht⟩,fun h0=>absurd rfl h0,hO⟩⟩
theorem sP (h:VD X w B b sb n O E):Calls Tryz.prog 33 #[Aj sb] w fun e w'=>e=.returned (.int .i64 13)∧Below w.heap.size w w':=by
 obtain⟨F,S,A,E',img,rv,hv⟩:=h.at;exact V.St.fO hv
theorem VV (h:VL X w B b sb n rm O lm E t):Calls Tryz.prog 32 #[Aj sb] w fun e w'=>e=.returned (.bool false)∧w'=w:=by
 obtain⟨F,S,A,img,rv,hv,_⟩:=h.at;exact(V.St.mP hv).mono fun e w' ⟨h1,h2⟩=>⟨h1,h2.symm⟩
theorem bQ (h:VD X w B b sb n O E):Calls Tryz.prog 32 #[Aj sb] w fun e w'=>e=.returned (.bool true)∧w'=w:=by
 obtain⟨F,S,A,E',img,rv,hv⟩:=h.at;exact(V.St.mP hv).mono fun e w' ⟨h1,h2⟩=>⟨h1,h2.symm⟩
theorem sO (h:VL X w B b sb n rm O lm E t):Calls Tryz.prog 43 #[Aj sb] w fun e w'=>e=.returned (.int .i64 rm)∧Below w.heap.size w w':=by
 obtain⟨F,S,A,img,rv,hv,h1,h2,rfl⟩:=h.at;exact V.St.sK hv h1 h2
end
section
variable {B b sb n:Nat}{X:List Value}{rm sz:Int}{O:TI→Prop}{lm:Bool}{E:Nat}{t:TI}{w w':World}
set_option maxHeartbeats 2000000 in
theorem dQ {g1 g2:Nat}(x:De)(h:VL X w B b sb n rm O lm E t)(hx:(Eg t.1 t.2 x).2.2=0)(h1:w.heap[g1]?=some (.cells #[Aj sb] 27 (0,0)))(h2:w.heap[g2]?=some (.cells #[.string ⟨(Ac x).toArray⟩] 9 (0,0)))(hB:B≤w.heap.size) :
 Calls Tryz.prog 81 #[Aj g1,Aj g2] w (ApP X w B b sb n rm O lm E t (Eg t.1 t.2 x).1 (Ay (Ac x))):=by
 unfold ApP;have c1:w.drew.cell? ⟨g1,0,none⟩=some (Aj sb):=Av h1 0;have c2:w.drew.cell? ⟨g2,0,none⟩=some (.string ⟨(Ac x).toArray⟩):=Av h2 0;have e1:w.cell? ⟨g1,0,none⟩=some (Aj sb):=c1;have e2:w.cell? ⟨g2,0,none⟩=some (.string ⟨(Ac x).toArray⟩):=c2;have hdr:Below w.heap.size w w.drew:=CL (Ad _ _);have cA:=fG x (h.below hdr) hx hB;unfold ApP at cA;have HF:Hid (∀q w',sG X w.drew B b sb n rm O lm E t (Eg t.1 t.2 x).1 (Ay (Ac x)) q w'→sG X w B b sb n rm O lm E t (Eg t.1 t.2 x).1 (Ay (Ac x)) q w'):=Aa fun q w' hq=>hq.from hdr hB h.hB.2
 generalize Ay (Ac x)=f at *;generalize (Eg t.1 t.2 x).1=t' at *;generalize (⟨(Ac x).toArray⟩:ByteArray)=s at *;clear h hx h1 h2 hdr;go_enter Tryz.func81,Tryz.ntmps81;go_wp2_with fail;go_still_tail 4,(by kernel_rfl);change wpList _ _ _ _ _ w.drew;generalize w.drew=w1 at *;go_wp2_with (go_at_call 24;refine cA.mono ?_;rintro e w2 ⟨q,rfl,hq⟩;have HQ:=Aa (HF.out q w2 hq);clear hq);go_ret;exact⟨q,rfl,HQ.out⟩
set_option maxHeartbeats 2000000 in
theorem lI (h:VL X w B b sb n rm O lm E t)(ht:Nb w X t.1 t.2)(hx:t.2≤9223372036854775807)(hE:E≤1000001)(hB:B≤w.heap.size) :
 Calls Tryz.prog 82 #[Aj sb] w (RnP X w B b sb n rm O lm E t):=by
 unfold RnP;obtain⟨F,S,A,img,rv,hv,_⟩:=h.at;have hte:=ht.te hv;have cC:=xe.GL hte;have hc1:¬t.2<1:=by have:=ht.good.Md;omega
 have CE:Hid (∀W,Below w.heap.size w W→Calls Tryz.prog 72 #[QT sb] W fun e w'=>e=.returned (.string ⟨(BI t.1 t.2).toArray⟩)∧Below W.heap.size W w'):=Aa fun W hW=>xe.O6 (xe.below hte hW) hx
 have CR:Hid (∀W,Below w.heap.size w W→Calls Tryz.prog 121 #[Aj sb,.string ⟨(BI t.1 t.2).toArray⟩] W fun e w'=>∃q:Int,e=.returned (.int .i64 q)∧zx X w B b sb n rm O lm E t q w'):=Aa fun W hW=>(kU (h.below hW) hx hE (Al hB hW.size)).mono fun e w' ⟨q,he,hq⟩=>⟨q,he,hq.from hW hB h.hB.2⟩
 have HD0:Hid (Below w.heap.size w w.drew):=Aa (CL (Ad _ _));obtain⟨Q,hQ⟩:∃Q:Int→World→Prop,zx X w B b sb n rm O lm E t=Q:=⟨_,rfl⟩;rw[hQ]at CR ⊢;generalize (⟨(BI t.1 t.2).toArray⟩:ByteArray)=s at *;generalize t.2=nx at *;clear h ht hv hte hx hE hQ;go_enter Tryz.func82,Tryz.ntmps82;go_wp2_with (go_at_call 66;refine cC.mono ?_;rintro e w1 ⟨rfl,rfl⟩);go_region_with (first|(go_at_call 72;(refine(CE.out _ HD0.out).mono ?_);rintro e w2 ⟨rfl,hb2⟩;have HB3:=Aa (HD0.out.trans hb2))|(go_at_call 121;refine(CR.out _ HB3.out).mono ?_;rintro e w3 ⟨q,rfl,hq⟩))
 all_goals (try go_wp2)
 all_goals go_ret
 all_goals exact⟨q,rfl,hq⟩
theorem Oz {x:De}(hx:(Eg t.1 t.2 x).2.2=0)(h1:Ay (Ac x)≤rm):Dw t sz rm x=(((Eg t.1 t.2 x).1,rm-Ay (Ac x)),(Eg t.1 t.2 x).2.1,0):=by
 unfold Dw;rw[if_neg (by simpa using P8 hx),if_neg (by simpa using hx),if_pos h1]
theorem Wd {x:De}(hx:(Eg t.1 t.2 x).2.2=0)(h1:¬Ay (Ac x)≤rm)(h2:sz<Ay (BI t.1 t.2)):Dw t sz rm x=((t,rm),0,11):=by
 unfold Dw;rw[if_neg (by simpa using P8 hx),if_neg (by simpa using hx),if_neg h1,if_pos h2]
theorem Oy {x:De}(hx:(Eg t.1 t.2 x).2.2=0)(h1:¬Ay (Ac x)≤rm)(h2:Ay (BI t.1 t.2)≤sz)(h3:Ay (Ac x)≤sz-Ay (BI t.1 t.2)):Dw t sz rm x=(((Eg t.1 t.2 x).1,sz-Ay (BI t.1 t.2)-Ay (Ac x)),(Eg t.1 t.2 x).2.1,0):=by
 unfold Dw;rw[if_neg (by simpa using P8 hx),if_neg (by simpa using hx),if_neg h1,if_neg (by omega),if_pos h3]
theorem Sa {x:De}(hx:(Eg t.1 t.2 x).2.2=0)(h1:¬Ay (Ac x)≤rm)(h2:Ay (BI t.1 t.2)≤sz)(h3:¬Ay (Ac x)≤sz-Ay (BI t.1 t.2)):Dw t sz rm x=((t,sz-Ay (BI t.1 t.2)),0,11):=by
 unfold Dw;rw[if_neg (by simpa using P8 hx),if_neg (by simpa using hx),if_neg h1,if_neg (by omega),if_neg h3]
def jY (X:List Value)(w:World)(B b sb n:Nat)(sz rm:Int)(O:TI→Prop)(lm:Bool)(E:Nat)(t:TI)(x:De)(q:Int)(w':World):Prop:=
 (Below B w w'∧Be w w')∧∃(O':TI→Prop) (E':Nat),E'≤E+1∧(∀u,O' u→O u∨CG t u∨CG (Dw t sz rm x).1.1 u)∧((q=(Dw t sz rm x).2.2∧VL X w' B b sb n (Dw t sz rm x).1.2 O' lm E' (Dw t sz rm x).1.1)∨(q=13∧lm=true∧VD X w' B b sb n O' E'))
def KeP (X:List Value)(w:World)(B b sb n:Nat)(sz rm:Int)(O:TI→Prop)(lm:Bool)(E:Nat)(t:TI)(x:De)(e:Ending)(w':World):Prop:=
 ∃q:Int,e=.returned (.int .i64 q)∧jY X w B b sb n sz rm O lm E t x q w'
theorem jY.from {x:De}{q:Int}{w1:World}(h:jY X w1 B b sb n sz rm O lm E t x q w')(hb:Below w.heap.size w w1)(hB:B≤w.heap.size):jY X w B b sb n sz rm O lm E t x q w':=by
 obtain⟨⟨h1,h2⟩,h3⟩:=h;exact⟨⟨(hb.mono hB).trans h1,(Be.Ar hb).trans h2⟩,h3⟩
theorem nT {x:De}{q:Int}(hx:(Eg t.1 t.2 x).2.2=0)(hq:q≠11)(h:sG X w B b sb n rm O lm E t (Eg t.1 t.2 x).1 (Ay (Ac x)) q w'):jY X w B b sb n sz rm O lm E t x q w':=by
 obtain⟨h0,h⟩:=h;refine⟨h0,?_⟩;rcases h with⟨rfl,hf,hv⟩|⟨rfl,hl,hv⟩|⟨h1,_⟩
 · refine⟨fun u=>O u∨CG (Eg t.1 t.2 x).1 u,E,by omega,fun u hu=>?_,Or.inl ⟨?_,?_⟩⟩;rotate_left
   · rw[Oz hx hf]
   · rw[Oz hx hf];exact hv
   · rw[Oz hx hf];rcases hu with h|h
     · exact Or.inl h
     · exact Or.inr (Or.inr h)
 · refine⟨fun u=>O u∨(Ay (Ac x)≤rm∧CG (Eg t.1 t.2 x).1 u),E,by omega,fun u hu=>?_,Or.inr ⟨rfl,hl,hv⟩⟩;rcases hu with h|⟨hf,h⟩
   · exact Or.inl h
   · rw[Oz hx hf];exact Or.inr (Or.inr h)
 · exact absurd h1 hq
theorem nS {x:De}{q:Int}{w1:World}(hx:(Eg t.1 t.2 x).2.2=0)(hsz:sz=((n/2:Nat):Int)-1)(hf:¬Ay (Ac x)≤rm)(h0:Below B w w1∧Be w w1)(hq:q≠0)(h:zx X w1 B b sb n rm O lm E t q w'):jY X w B b sb n sz rm O lm E t x q w':=by
 obtain⟨h1,h⟩:=h;refine⟨⟨h0.1.trans h1.1,h0.2.trans h1.2⟩,?_⟩;rcases h with⟨h2,_⟩|⟨rfl,hl,hv⟩|⟨rfl,hk,hv⟩
 · exact absurd h2 hq
 · refine⟨fun u=>O u∨CG t u,E,by omega,fun u hu=>?_,Or.inr ⟨rfl,hl,hv⟩⟩;rcases hu with h|h
   · exact Or.inl h
   · exact Or.inr (Or.inl h)
 · subst hsz;exact⟨O,E,by omega,fun u hu=>Or.inl hu,Or.inl ⟨by rw[Wd hx hf hk],by rw[Wd hx hf hk];exact hv⟩⟩
theorem nU {x:De}{q:Int}{w1:World}(hx:(Eg t.1 t.2 x).2.2=0)(hf:¬Ay (Ac x)≤rm)(hk:Ay (BI t.1 t.2)≤sz)(h0:Below B w w1∧Be w w1)(h:sG X w1 B b sb n (sz-Ay (BI t.1 t.2)) (CG t) lm (E+1) t (Eg t.1 t.2 x).1 (Ay (Ac x)) q w'):jY X w B b sb n sz rm O lm E t x q w':=by
 obtain⟨h1,h⟩:=h;refine⟨⟨h0.1.trans h1.1,h0.2.trans h1.2⟩,?_⟩;rcases h with⟨rfl,hf2,hv⟩|⟨rfl,hl,hv⟩|⟨rfl,hf2,hv,_⟩
 · refine⟨fun u=>CG t u∨CG (Eg t.1 t.2 x).1 u,E+1,Ae _,fun u hu=>?_,Or.inl ⟨?_,?_⟩⟩;rotate_left
   · rw[Oy hx hf hk hf2]
   · rw[Oy hx hf hk hf2];exact hv
   · rw[Oy hx hf hk hf2];exact Or.inr hu
 · refine⟨fun u=>CG t u∨(Ay (Ac x)≤sz-Ay (BI t.1 t.2)∧CG (Eg t.1 t.2 x).1 u),E+1,Ae _,fun u hu=>?_,Or.inr ⟨rfl,hl,hv⟩⟩;rcases hu with h|⟨hf2,h⟩
   · exact Or.inr (Or.inl h)
   · rw[Oy hx hf hk hf2];exact Or.inr (Or.inr h)
 · exact⟨CG t,E+1,Ae _,fun u hu=>Or.inr (Or.inl hu),Or.inl ⟨by rw[Sa hx hf hk hf2],by rw[Sa hx hf hk hf2];exact hv⟩⟩
set_option maxHeartbeats 4000000 in
theorem Aaq {g1 g2:Nat}(x:De)(h:VL X w B b sb n rm O lm E t)(ht:Nb w X t.1 t.2)(hx:(Eg t.1 t.2 x).2.2=0)(hxm:t.2≤9223372036854775807)(hE:E≤1000000)(hsz:sz=((n/2:Nat):Int)-1)
 (h1:w.heap[g1]?=some (.cells #[Aj sb] 27 (0,0))) (h2:w.heap[g2]?=some (.cells #[.string ⟨(Ac x).toArray⟩] 9 (0,0))) (a1:Aw w sb g1) (a2:Aw w sb g2) (hB:B≤w.heap.size) :
 Calls Tryz.prog 83 #[.agg #[.func (.func 81) #[] #[Aj g1,Aj g2],.func (.func 82) #[Aj sb] #[]]] w (KeP X w B b sb n sz rm O lm E t x):=by
 unfold KeP;have hb0:Below w.heap.size w (w.alloc (.cells #[.func (.func 81) #[] #[Aj g1,Aj g2],.func (.func 82) #[Aj sb] #[]] 156)):=(Ad _ _).alloc (Ae _) _;have hsb:=h.hB.2;have hnew:=Ai w (.cells #[.func (.func 81) #[] #[Aj g1,Aj g2],.func (.func 82) #[Aj sb] #[]] 156);have hga:Aw (w.alloc (.cells #[.func (.func 81) #[] #[Aj g1,Aj g2],.func (.func 82) #[Aj sb] #[]] 156)) sb w.heap.size:=h.aw hb0 (Ae _) hnew (by decide);go_enter Tryz.func83,Tryz.ntmps83;go_upto_region 1 with fail;generalize (w.alloc (.cells #[.func (.func 81) #[] #[Aj g1,Aj g2],.func (.func 82) #[Aj sb] #[]] 156))=W at *;have hBW:B≤W.heap.size:=Al hB hb0.size;have hl1:=h.below hb0;have ht1:=ht.II (Be.Ar hb0);have cK:=dQ x hl1 hx (by rw[hb0.block g1 (Ab h1)];exact h1) (by rw[hb0.block g2 (Ab h2)];exact h2) hBW;unfold ApP at cK;have HAT:Hid (∀W',ko W W' sb→(W'.cell? ⟨w.heap.size,0,none⟩=some (.func (.func 81) #[] #[Aj g1,Aj g2])∧W'.cell? ⟨w.heap.size,1,none⟩=some (.func (.func 82) #[Aj sb] #[]))∧W'.heap[g1]?=some (.cells #[Aj sb] 27 (0,0))∧W'.heap[g2]?=some (.cells #[.string ⟨(Ac x).toArray⟩] 9 (0,0))):=Aa fun W' hk=>by
  have k0:=(hk w.heap.size hga).2.trans hnew;have k1:=(hk g1 (a1.below hb0 hsb).1).2.trans ((a1.below hb0 hsb).2.trans h1);have k2:=(hk g2 (a2.below hb0 hsb).1).2.trans ((a2.below hb0 hsb).2.trans h2);exact⟨⟨Av k0 0,Av k0 1⟩,k1,k2⟩
 have HT1:=Aa ht1;have Aba:Hid (Below B w W∧Be w W):=Aa ⟨hb0.mono hB,Be.Ar hb0⟩;have HX:=Aa hx;have QN:=Aa hsz;have HB:=Aa hBW;have Uh:Hid (∀q w',q≠11→sG X W B b sb n rm O lm E t (Eg t.1 t.2 x).1 (Ay (Ac x)) q w'→jY X w B b sb n sz rm O lm E t x q w'):=Aa fun q w' hq hp=>(nT hx hq hp).from hb0 hB
 obtain⟨⟨c0,c1⟩,_,_⟩:=HAT.out W (fun k hk=>⟨hk,rfl⟩);clear h ht hx hsz h1 h2 a1 a2 hb0 hnew hga hl1 ht1 hBW;go_upto_region 2 with(go_at_call 81;refine cK.mono ?_;rintro e w2 ⟨q,rfl,hq⟩;have HQ:=Aa hq;clear hq);clear c0 c1 cK;by_cases hq:q=11
 · subst hq;obtain⟨hp,hc⟩:=HQ.out;obtain⟨hnf,hl2,hk2⟩:¬Ay (Ac x)≤rm∧VL X w2 B b sb n rm O lm E t∧ko W w2 sb:=by
    rcases hc with⟨h1,_⟩|⟨h1,_⟩|⟨_,h2⟩
    · exact absurd h1 (by decide)
    · exact absurd h1 (by decide)
    · exact h2
   have ht2:=HT1.out.II hp.2;have hB2:=Al HB.out hp.1.size;have cR:=lI hl2 ht2 hxm (by omega) hB2;unfold RnP at cR;obtain⟨⟨c0,c1⟩,_,_⟩:=HAT.out w2 hk2;have HNF:=Aa hnf;have sw:=Aa hk2;have HT2:=Aa ht2;have HB2:=Aa hB2;have zP:Hid (Below B w w2∧Be w w2):=Aa ⟨Aba.out.1.trans hp.1,Aba.out.2.trans hp.2⟩;clear hp hc hnf hl2 hk2 ht2 hB2;go_upto_region 5 with(go_at_call 82;refine cR.mono ?_;rintro e w3 ⟨q2,rfl,hq2⟩;have J4:=Aa hq2;clear hq2);clear c0 c1 cR;by_cases hq2:q2=0
   · subst hq2;obtain⟨hp,hc⟩:=J4.out;obtain⟨hkk,hl3,hk3⟩:Ay (BI t.1 t.2)≤((n/2:Nat):Int)-1∧VL X w3 B b sb n (((n/2:Nat):Int)-1-Ay (BI t.1 t.2)) (CG t) lm (E+1) t∧ko w2 w3 sb:=by
      rcases hc with⟨_,h2⟩|⟨h1,_⟩|⟨h1,_⟩
      · exact h2
      · exact absurd h1 (by decide)
      · exact absurd h1 (by decide)
     obtain⟨⟨c0,c1⟩,k1,k2⟩:=HAT.out w3 (sw.out.trans hk3);have hB3:=Al HB2.out hp.1.size;have cK:=dQ x hl3 HX.out k1 k2 hB3;unfold ApP at cK;have Ex:Hid (∀q w',sG X w3 B b sb n (((n/2:Nat):Int)-1-Ay (BI t.1 t.2)) (CG t) lm (E+1) t (Eg t.1 t.2 x).1 (Ay (Ac x)) q w'→jY X w B b sb n sz rm O lm E t x q w'):=Aa fun q w' hp3=>by
      have h9:=QN.out;subst h9;exact nU HX.out (Int.not_le.2 HNF.out) hkk ⟨zP.out.1.trans hp.1,zP.out.2.trans hp.2⟩ hp3
     clear hp hc hkk hl3 hk3 k1 k2 hB3;go_wp2_with (go_at_call 81;refine cK.mono ?_;rintro e w4 ⟨q3,rfl,hq3⟩;have M5:=Aa (Ex.out q3 w4 hq3);clear hq3);go_ret;exact⟨q3,rfl,M5.out⟩
   · have hqz:(q2==0)=false:=A8.2 hq2;have HE:=Aa (nS HX.out QN.out (Int.not_le.2 HNF.out) zP.out hq2 J4.out);clear hq2;go_wp2;go_ret;exact⟨q2,rfl,HE.out⟩
 · have hqz:(q==11)=false:=A8.2 hq;have HE:=Aa (Uh.out q w2 hq HQ.out);clear hq;go_wp2;go_ret;exact⟨q,rfl,HE.out⟩
set_option maxHeartbeats 2000000 in
theorem yx (x:De)(h:VL X w B b sb n rm O lm E t)(ht:Nb w X t.1 t.2)(hx:(Eg t.1 t.2 x).2.2=0)(hxm:t.2≤9223372036854775807)(hE:E≤1000000)(hsz:sz=((n/2:Nat):Int)-1)(hB:B≤w.heap.size) :
 Calls Tryz.prog 37 #[Aj sb,.string ⟨(Ac x).toArray⟩] w (KeP X w B b sb n sz rm O lm E t x):=by
 unfold KeP;obtain⟨W,hW⟩:∃W,(w.alloc (.cells #[Aj sb] 27)).alloc (.cells #[.string ⟨(Ac x).toArray⟩] 9)=W:=⟨_,rfl⟩;have hbW:Below w.heap.size w W:=by rw[←hW];exact((Ad _ _).alloc (Ae _) _).alloc (by simp) _
 have h2:W.heap[w.heap.size+1]?=some (.cells #[.string ⟨(Ac x).toArray⟩] 9 (0,0)):=by
  rw[←hW];have:=Ai (w.alloc (.cells #[Aj sb] 27)) (.cells #[.string ⟨(Ac x).toArray⟩] 9);rwa[show(w.alloc (.cells #[Aj sb] 27)).heap.size=w.heap.size+1 by simp]at this
 have h1:W.heap[w.heap.size]?=some (.cells #[Aj sb] 27 (0,0)):=by
  rw[←hW,Cx _ _ _ (by simp)];exact Ai _ _
 have hBW:=Al hB hbW.size;have cR:=Aaq x (h.below hbW) (ht.II (Be.Ar hbW)) hx hxm hE hsz h1 h2 (h.aw hbW (Ae _) h1 (by decide)) (h.aw hbW (by omega) h2 (by decide)) hBW;unfold KeP at cR;have k1:W.cell? ⟨w.heap.size,0,none⟩=some (Aj sb):=Av h1 0;have HF:Hid (∀q w',jY X W B b sb n sz rm O lm E t x q w'→jY X w B b sb n sz rm O lm E t x q w'):=Aa fun q w' hq=>hq.from hbW hB
 generalize (⟨(Ac x).toArray⟩:ByteArray)=s at *;clear h ht hx hsz h1 h2 hBW hbW;go_enter Tryz.func37,Tryz.ntmps37;go_upto_region 1 with fail
 try rw[hW]
 clear hW;go_wp2_with (go_at_call 83;refine cR.mono ?_;rintro e w2 ⟨q,rfl,hq⟩;have HQ:=Aa (HF.out q w2 hq);clear hq);go_ret;exact⟨q,rfl,HQ.out⟩
end
end Go.Proofs.YtdmkhmeaphaapaaGreat
