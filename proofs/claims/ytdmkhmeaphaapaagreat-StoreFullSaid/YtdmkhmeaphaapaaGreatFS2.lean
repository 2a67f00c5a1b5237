/- Kit. -/
import Derived.Test.YtdmkhmeaphaapaaGreatFS1
import Derived.Test.YtdmkhmeaphaapaaGreatFX9
import Derived.Test.YtdmkhmeaphaapaaGreatFX4
import Derived.Test.YtdmkhmeaphaapaaGreatFW3
import Derived.Test.YtdmkhmeaphaapaaGreatFJ6
import Derived.Test.YtdmkhmeaphaapaaGreatFW2
import Derived.Test.YtdmkhmeaphaapaaGreatFQI
import Derived.Test.YtdmkhmeaphaapaaGreatFJ3
set_option maxRecDepth 100000
namespace Go.Proofs.YtdmkhmeaphaapaaGreat
open Go.RowKit Go.Sort
set_option linter.unusedVariables false
set_option linter.unusedSimpArgs false
def framesN (b:List UInt8):Int:=((b.length+61)/62:Nat)
def sdoI (t:TI)(sz rm:Int)(x:De):(TI×Int)×Int×Int:=
  if ¬May x then((t,rm),0,1)
  else if(deI t.1 t.2 x).2.2≠0 then((t,rm),0,(deI t.1 t.2 x).2.2)
  else if framesN (bytesL x)≤rm then(((deI t.1 t.2 x).1,rm-framesN (bytesL x)),(deI t.1 t.2 x).2.1,0)
  else if sz<framesN (imgI t.1 t.2) then((t,rm),0,11)
  else if framesN (bytesL x)≤sz-framesN (imgI t.1 t.2) then(((deI t.1 t.2 x).1,sz-framesN (imgI t.1 t.2)-framesN (bytesL x)),(deI t.1 t.2 x).2.1,0)
  else((t,sz-framesN (imgI t.1 t.2)),0,11)
structure SdW (w:World)(bS:Nat)(v:Value)(nx sz rm:Int)(x:De)(l:List Itm)(W:World):Prop where
  s:W.heap[bS]?=some (.cells #[v,.int .i64 nx,.int .i64 sz,.int .i64 rm] 33 (0,0))
  d:W.heap[bS+1]?=some (.cells ⟨deC x⟩ 38 (0,0))
  r:W.heap[bS+1+1]?=some (.cells #[.slice none 0 0,.int .i64 0,.int .i64 0,.int .i64 0] 33 (0,0))
  i:ItmsT W v l
  b:Below bS w W
section
variable {w W W':World}{bS:Nat}{v:Value}{nx sz rm:Int}{x:De}{l:List Itm}
theorem SdW.below (h:SdW w bS v nx sz rm x l W)(hb:Below W.heap.size W W'):SdW w bS v nx sz rm x l W':=
  ⟨(hb.block _ (lt_of_get h.s)).trans h.s,(hb.block _ (lt_of_get h.d)).trans h.d,(hb.block _ (lt_of_get h.r)).trans h.r,h.i.kept hb,h.b.trans (hb.mono (Nat.le_of_lt (lt_of_get h.s)))⟩
end
end Go.Proofs.YtdmkhmeaphaapaaGreat
namespace Go.Proofs.YtdmkhmeaphaapaaGreat
open Go.RowKit Go.Sort
set_option linter.unusedVariables false
def bl (s:ByteArray):List UInt8:=s.data.toList
def MoB (x:List ByteArray)(t:TI):Prop:=∃img rs,x=img::rs∧Mounts (bl img) (rs.map bl) t
theorem MoB.pre {a b:List ByteArray}{t:TI}(h:MoB (a++b) t)(ha:a≠[]):∃u,MoB a u:=by
  obtain⟨img,rs,h1,h2⟩:=h;cases a with
  | nil=>exact absurd rfl ha
  | cons x a =>
    rw[List.cons_append]at h1;obtain⟨rfl,rfl⟩:=List.cons.inj h1;rw[List.map_append]at h2;obtain⟨u,hu⟩:=h2.pre;exact⟨u,x,a,rfl,hu⟩
def OutO (r1 r2:List ByteArray)(fresh:ByteArray):TI→Prop:=fun u=>(∃y,y <+: r2∧MoB (r1++y) u)∨(fresh.size≠0∧Mounts (bl fresh) [] u)
def KnD (w:World)(B b n:Nat)(t:TI)(rm:Int)(E:Nat):Prop:=
  ∃k img rs st,V.Dev B w b st∧V.KnX n (n/2) k E img rs st∧Mounts (bl img) (rs.map bl) t∧rm=((n/2:Nat):Int)-((1+(V.layB (V.recs (img::rs))).length:Nat):Int)
section
variable {B b vb n h:Nat}{k:Bool}{E A:Nat}{img fresh:ByteArray}{rs r1 r2:List ByteArray}{lm:Bool}{st:V.St}{rv:Value}{w:World}
theorem kn_restart (hd:V.DeadS n h k E r1 r2 fresh st)(hh:n/2=h)(h2:2≤h)(hn:n≤400)(hs:∀s∈r1++r2,1≤s.size∧s.size≤60000)(hne:r1≠[])(hf:∃t,MoB (r1++r2) t)(hg:fresh.size≠0→∃t,Mounts (bl fresh) [] t)
    {w':World} (l:List Int) (hD:V.Dev B w' b (V.restartSt st l)):∃t rm E',KnD w' B b n t rm E'∧OutO r1 r2 fresh t∧E'≤E+1:=by
  obtain⟨k',E',img',rs',hk,hE,hy⟩:=hd.kn l hh h2 hn hs hne;subst hh;rcases hy with⟨y,hy,he⟩|⟨h0,rfl,rfl⟩
  · obtain⟨t,ht⟩:=hf;obtain⟨z,rfl⟩:=hy;rw[←List.append_assoc]at ht;obtain⟨u,i2,r',e2,hu⟩:=ht.pre (by intro e;exact hne (List.append_eq_nil_iff.1 e).1);rw[←he]at e2;obtain⟨rfl,rfl⟩:=List.cons.inj e2;exact⟨u,_,E',⟨k',_,_,_,hD,hk,hu,rfl⟩,Or.inl ⟨y,List.prefix_append _ _,_,_,he.symm,hu⟩,hE⟩
  · obtain⟨t,ht⟩:=hg h0;exact⟨t,_,E',⟨k',_,_,_,hD,hk,ht,rfl⟩,Or.inr ⟨h0,ht⟩,hE⟩
end
theorem OutO.snoc {r1 r2:List ByteArray}{s:ByteArray}{t':TI}{img:ByteArray}{rs:List ByteArray}(hall:img::rs=r1++r2)(ht:Mounts (bl img) ((rs++[s]).map bl) t'):∀u,OutO r1 (r2++[s]) ⟨#[]⟩ u→OutO r1 r2 ⟨#[]⟩ u∨Like t' u:=fun u hu=>by
  rcases hu with⟨y,hy,hm⟩|⟨h0,_⟩
  · rcases List.prefix_concat_iff.1 hy with rfl|hy
    · refine Or.inr ?_;obtain⟨i2,r',e2,hu⟩:=hm;rw[←List.append_assoc,←hall]at e2;obtain⟨rfl,rfl⟩:=List.cons.inj e2.symm;exact ht.one hu
    · exact Or.inl (Or.inl ⟨y,hy,hm⟩)
  · exact absurd rfl h0
theorem OutO.all {r:List ByteArray}{t:TI}{img:ByteArray}{rs:List ByteArray}(hall:r=img::rs)(ht:Mounts (bl img) (rs.map bl) t):∀u,OutO r [] ⟨#[]⟩ u→Like t u:=fun u hu=>by
  rcases hu with⟨y,hy,hm⟩|⟨h0,_⟩
  · obtain rfl:=List.prefix_nil.1 hy;rw[List.append_nil,hall]at hm;obtain⟨i2,r',e2,hu⟩:=hm;obtain⟨rfl,rfl⟩:=List.cons.inj e2;exact ht.one hu
  · exact absurd rfl h0
end Go.Proofs.YtdmkhmeaphaapaaGreat
namespace Go.Proofs.YtdmkhmeaphaapaaGreat
open Go.RowKit Go.Sort
set_option linter.unusedVariables false
set_option linter.unusedSimpArgs false
def refTs:List TypeId:=[195,31,105,33,41]
def keepTs:List TypeId:=[195,31,105,33,41,96,112,3]
def Spares (w w':World):Prop:=∀T∈keepTs,∀(k:Nat) (cs:Array Value) (fr:Nat×Nat),w.heap[k]?=some (.cells cs T fr)→w'.heap[k]?=some (.cells cs T fr)
theorem Spares.trans {a b c:World}(h:Spares a b)(h':Spares b c):Spares a c:=fun T hT k cs fr hk=>h' T hT k cs fr (h T hT k cs fr hk)
theorem Spares.ofBelow {a b:World}(h:Below a.heap.size a b):Spares a b:=fun T hT k cs fr hk=>by rw[h.block k (lt_of_get hk)];exact hk
theorem ItmsT.spares {w w':World}{v:Value}{l:List Itm}(h:ItmsT w v l)(hk:Spares w w')(hs:w.heap.size≤w'.heap.size):ItmsT w' v l:=by
  have hb:∀g,v.ownBlock=some g→w'.heap[g]?=w.heap[g]?:=fun g hg=>by
    obtain⟨cs,hc⟩:=h.2 g hg;rw[hk _ (by simp[keepTs]) _ _ _ hc,hc]
  exact⟨h.1.only hs hb,fun g hg=>by
    obtain⟨cs,hc⟩:=h.2 g hg;exact⟨cs,hk _ (by simp[keepTs]) _ _ _ hc⟩⟩
theorem theSpares {w w':World}{b:Nat}{l:List Itm}{nx:Int}{S:Nat→Prop}(h:theTree.Is w b l nx S)(hk:Spares w w')(hs:w.heap.size≤w'.heap.size):theTree.Is w' b l nx S:=by
  refine theTree.kept h hs fun k hS=>?_
  obtain⟨R,u,v,ys,hm,ho,hg,rfl⟩:=h;have key:∃T cs',w.heap[k]?=some (.cells cs' T (0,0))∧(T=96∨T=112∨T=3):=by
    rcases hS with rfl|⟨n,hn,hg⟩|hg
    · obtain⟨cs',h1,_⟩:=hm.cells;exact⟨_,cs',h1,Or.inl rfl⟩
    · obtain⟨cs',h1⟩:=ownsRow_typ (hm.rows n hn) hg;exact⟨_,cs',h1,Or.inr (Or.inl rfl)⟩
    · obtain⟨cs',h1⟩:=ownsRow_typ hm.own hg;exact⟨_,cs',h1,Or.inr (Or.inr rfl)⟩
  obtain⟨T,cs',h1,h2⟩:=key;rw[h1];exact hk T (by rcases h2 with rfl|rfl|rfl<;>simp[keepTs]) _ _ _ h1
theorem off_below {w w':World}(h:Below w.heap.size w w')(ex:List TypeId):Off ex w w':=fun T hT k cs fr hk=>by rw[h.block k (lt_of_get hk)];exact hk
theorem sdo_like {a b:TI}(h:Like a b)(ha:GoodTI a)(hb:GoodTI b)(sz rm:Int)(x:De) :
    (sdoI b sz rm x).2=(sdoI a sz rm x).2∧(sdoI b sz rm x).1.2=(sdoI a sz rm x).1.2∧Like (sdoI a sz rm x).1.1 (sdoI b sz rm x).1.1:=by
  obtain⟨h1,h2⟩:=like_de h ha hb x;have h3:imgI b.1 b.2=imgI a.1 a.2:=by
    have h4:=h.2;obtain⟨a1,a2⟩:=a;obtain⟨b1,b2⟩:=b;simp only at h4 ⊢;subst h4;exact img_twin ha hb h.1
  unfold sdoI;rw[h3,h1];by_cases h5:¬May x
  · rw[if_pos h5,if_pos h5];exact⟨rfl,rfl,h⟩
  · rw[if_neg h5,if_neg h5];by_cases h6:(deI a.1 a.2 x).2.2≠0
    · rw[if_pos h6,if_pos h6];exact⟨rfl,rfl,h⟩
    · rw[if_neg h6,if_neg h6];by_cases h7:framesN (bytesL x)≤rm
      · rw[if_pos h7,if_pos h7];exact⟨rfl,rfl,h2⟩
      · rw[if_neg h7,if_neg h7];by_cases h8:sz<framesN (imgI a.1 a.2)
        · rw[if_pos h8,if_pos h8];exact⟨rfl,rfl,h⟩
        · rw[if_neg h8,if_neg h8];by_cases h9:framesN (bytesL x)≤sz-framesN (imgI a.1 a.2)
          · rw[if_pos h9,if_pos h9];exact⟨rfl,rfl,h2⟩
          · rw[if_neg h9,if_neg h9];exact⟨rfl,rfl,h⟩
theorem sdo_grow (a:TI)(sz rm:Int)(x:De):a.2≤(sdoI a sz rm x).1.1.2∧(sdoI a sz rm x).1.1.2≤a.2+1:=by
  have h2:=deI_grow a x;unfold sdoI
  repeat' split
  all_goals first|exact h2|exact⟨Int.le_refl _,by show a.2≤a.2+1;omega⟩
theorem sdo_err {a:TI}{sz rm:Int}{x:De}(h:(sdoI a sz rm x).2.2≠0):(sdoI a sz rm x).1.1=a:=by
  unfold sdoI at h ⊢;split
  · rfl
  · rename_i h1;rw[if_neg h1]at h;split
    · rfl
    · rename_i h2;rw[if_neg h2]at h;split
      · rename_i h3;rw[if_pos h3]at h;exact absurd rfl h
      · rename_i h3;rw[if_neg h3]at h;split
        · rfl
        · rename_i h4;rw[if_neg h4]at h;split
          · rename_i h5;rw[if_pos h5]at h;exact absurd rfl h
          · rfl
structure StC where
  Live:World→Nat→Nat→Nat→Nat→TI→Int→(TI→Prop)→Bool→Nat→Prop
  Over:World→Nat→Nat→Nat→Nat→(TI→Prop)→Nat→Prop
  Kn:World→Nat→Nat→Nat→TI→Int→Nat→Prop
  good:∀{w B b sb n t rm O lm E},Live w B b sb n t rm O lm E→GoodTI t∧0≤rm∧rm≤400
  off:∀{w w' B b sb n t rm O lm E},Live w B b sb n t rm O lm E→Off refTs w w'→w.heap.size≤w'.heap.size→Live w' B b sb n t rm O lm E
  offO:∀{w w' B b sb n O E},Over w B b sb n O E→Off refTs w w'→w.heap.size≤w'.heap.size→Over w' B b sb n O E
  weak:∀{w B b sb n t rm O O' lm E},Live w B b sb n t rm O lm E→(∀u,O u→O' u)→Live w B b sb n t rm O' lm E
  weakO:∀{w B b sb n O O' E},Over w B b sb n O E→(∀u,O u→O' u)→Over w B b sb n O' E
  format:∀{w B b n},V.Dev B w b (V.stNew n)→4≤n→n≤400→B≤w.heap.size→Calls Tryz.prog 29 #[ptrV b] w fun e w'=>e=.returned (.int .i64 0)∧Kn w' B b n ([],1) (((n/2:Nat):Int)-2) 1∧Below B w w'∧Spares w w'
  mount:∀{w B b n t rm E},Kn w B b n t rm E→t.2≤9223372036854775000→B≤w.heap.size→Calls Tryz.prog 27 #[ptrV b] w fun e w'=>∃sb t',e=.returned (.tuple #[ptrV sb,.int .i64 0])∧Live w' B b sb n t' rm (Like t') false E∧Like t t'∧Below B w w'∧Spares w w'
  again:∀{w B b sb n t rm O E},Live w B b sb n t rm O false E→t.2≤9223372036854775000→B≤w.heap.size→Calls Tryz.prog 27 #[ptrV b] w fun e w'=>∃sb2 t',e=.returned (.tuple #[ptrV sb2,.int .i64 0])∧Live w' B b sb n t rm (Like t) false E∧Live w' B b sb2 n t' rm (Like t') false E∧Like t t'∧Below B w w'∧Spares w w'
  kn:∀{w B b sb n t rm O E},Live w B b sb n t rm O false E→∃k img rs st t',V.Dev B w b st∧V.KnX n (n/2) k E img rs st∧Mounts (bl img) (rs.map bl) t'∧Like t t'
  mountOk:∀{w B b n k E img rs st t},V.Dev B w b st→V.KnX n (n/2) k E img rs st→Mounts (bl img) (rs.map bl) t→t.2≤9223372036854775000→B≤w.heap.size→Calls Tryz.prog 27 #[ptrV b] w fun e w'=>∃sb t' rm,e=.returned (.tuple #[ptrV sb,.int .i64 0])∧Live w' B b sb n t' rm (Like t') false E∧Like t t'∧Below B w w'∧Spares w w'
  mountNo:∀{w B b n k E img rs st},V.Dev B w b st→V.KnX n (n/2) k E img rs st→NoMount (bl img) (rs.map bl)→(∀A:TI,GoodTI A→A.2≤9223372036854775807→imgI A.1 A.2=bl img→A.2≤9223372036854775000)→B≤w.heap.size→Calls Tryz.prog 27 #[ptrV b] w fun e w'=>e=.returned (.tuple #[.pointer none,.int .i64 2])∧Below B w w'∧Spares w w'
  tree:∀{w B b sb n t rm O lm E},Live w B b sb n t rm O lm E→Calls Tryz.prog 20 #[ptrV sb] w fun e w'=>∃tb S,e=.returned (ptrV tb)∧theTree.Is w' tb t.1 t.2 S∧(∀k,S k→w.heap.size≤k)∧Below w.heap.size w w'
  room:∀{w B b sb n t rm O lm E},Live w B b sb n t rm O lm E→Calls Tryz.prog 18 #[ptrV sb] w fun e w'=>e=.returned (.int .i64 rm)∧Below w.heap.size w w'
  over:∀{w B b sb n t rm O lm E},Live w B b sb n t rm O lm E→Calls Tryz.prog 12 #[ptrV sb] w fun e w'=>e=.returned (.bool false)∧Below w.heap.size w w'
  overO:∀{w B b sb n O E},Over w B b sb n O E→Calls Tryz.prog 12 #[ptrV sb] w fun e w'=>e=.returned (.bool true)∧Below w.heap.size w w'
  sync:∀{w B b sb n t rm O lm E},Live w B b sb n t rm O lm E→B≤w.heap.size→Calls Tryz.prog 13 #[ptrV sb] w fun e w'=>Below B w w'∧Spares w w'∧((e=.returned (.int .i64 0)∧Live w' B b sb n t rm (Like t) lm E)∨(lm=true∧e=.returned (.int .i64 13)∧Over w' B b sb n O E))
  syncO:∀{w B b sb n O E},Over w B b sb n O E→B≤w.heap.size→Calls Tryz.prog 13 #[ptrV sb] w fun e w'=>e=.returned (.int .i64 13)∧Below w.heap.size w w'
  do':∀{w B b sb n t rm O lm E} (x:De),Live w B b sb n t rm O lm E→x.s.size≤9223372036854775807→x.ns.size≤9223372036854775807→t.2≤9223372036854775000→E≤1000000→B≤w.heap.size →
    Calls Tryz.prog 14 #[ptrV sb,deV x] w fun e w'=>Below B w w'∧Spares w w'∧∃O' E',E'≤E+1∧(∀u,O' u→O u∨Like t u∨Like (sdoI t (((n/2:Nat):Int)-1) rm x).1.1 u) ∧
      ((e=.returned (.tuple #[.int .i64 (sdoI t (((n/2:Nat):Int)-1) rm x).2.1,.int .i64 (sdoI t (((n/2:Nat):Int)-1) rm x).2.2])∧Live w' B b sb n (sdoI t (((n/2:Nat):Int)-1) rm x).1.1 (sdoI t (((n/2:Nat):Int)-1) rm x).1.2 O' lm E') ∨
       (lm=true∧e=.returned (.tuple #[.int .i64 0,.int .i64 13])∧Over w' B b sb n O' E'))
  doO:∀{w B b sb n O E} (x:De),Over w B b sb n O E→B≤w.heap.size→Calls Tryz.prog 14 #[ptrV sb,deV x] w fun e w'=>e=.returned (.tuple #[.int .i64 0,.int .i64 13])∧Below w.heap.size w w'
  cut:∀{w B b sb n t rm O lm E} {N:Int},Live w B b sb n t rm O lm E→-9223372036854775808≤N→N≤9223372036854775807→Calls Tryz.prog 11 #[ptrV b,.int .i64 N] w fun e w'=>e=.returned (.tuple #[])∧Live w' B b sb n t rm O true E∧Below B w w'∧Spares w w'
  cutO:∀{w B b sb n O E} {N:Int},Over w B b sb n O E→-9223372036854775808≤N→N≤9223372036854775807→Calls Tryz.prog 11 #[ptrV b,.int .i64 N] w fun e w'=>e=.returned (.tuple #[])∧Over w' B b sb n O E∧Below B w w'∧Spares w w'
  restart:∀{w B b sb n t rm O lm E} (v:Value) (l:List Int),Live w B b sb n t rm O lm E→V.NumsIs w v l→l.length≤9223372036854775807→B≤w.heap.size→Calls Tryz.prog 42 #[ptrV b,v] w fun e w'=>e=.returned (.tuple #[])∧(∃t' rm' E',Kn w' B b n t' rm' E'∧O t'∧E'≤E+1)∧Below B w w'∧Spares w w'
  restartO:∀{w B b sb n O E} (v:Value) (l:List Int),Over w B b sb n O E→V.NumsIs w v l→l.length≤9223372036854775807→B≤w.heap.size→Calls Tryz.prog 42 #[ptrV b,v] w fun e w'=>e=.returned (.tuple #[])∧(∃t' rm' E',Kn w' B b n t' rm' E'∧O t'∧E'≤E+1)∧Below B w w'∧Spares w w'
namespace StC
variable (S:StC)
variable {w w':World}{B b sb n:Nat}{t:TI}{rm:Int}{O:TI→Prop}{lm:Bool}{E:Nat}
theorem below (h:S.Live w B b sb n t rm O lm E)(hb:Below w.heap.size w w'):S.Live w' B b sb n t rm O lm E:=S.off h (off_below hb _) hb.size
end StC
theorem like_new {t:TI}(h:Like ([],1) t):t.2=1:=h.2.symm
set_option maxHeartbeats 4000000 in
theorem opened13_c (S:StC){w:World}{B b n:Nat}(hd:V.Dev B w b (V.stNew n))(h4:4≤n)(hn:n≤400)(hB:B≤w.heap.size) :
    Calls Tryz.prog 9 #[ptrV b] w fun e w'=>∃sb t,e=.returned (ptrV sb)∧S.Live w' B b sb n t (((n/2:Nat):Int)-2) (Like t) false 1∧Like ([],1) t∧Below B w w'∧Spares w w':=by
  have cF:=S.format hd h4 hn hB;clear hd;go_enter Tryz.func9,Tryz.ntmps9;go_upto_region 3 with(go_at_call 29;refine cF.mono ?_;rintro e w1 ⟨rfl,hk1,hb1,hp1⟩);have cM:=S.mount hk1 (by decide) (Nat.le_trans hB hb1.size);have HB1:=Lib.hid hb1;have HP1:=Lib.hid hp1;clear hk1 hb1 hp1 cF;go_wp2_with (go_at_call 27;refine cM.mono ?_;rintro e w2 ⟨sb,t,rfl,hl,hlk,hb2,hp2⟩);go_ret;exact⟨sb,t,rfl,hl,hlk,HB1.out.trans hb2,HP1.out.trans hp2⟩
def deed1:De:=⟨1,0,0,⟨#[97]⟩,⟨#[]⟩,false,0⟩
theorem may_deed1:May deed1:=by
  unfold May deed1;decide
theorem frames_deed1:framesN (bytesL deed1)=1:=by
  unfold framesN bytesL deed1;decide
theorem do_deed1:(deI [] 1 deed1).2=(1,0):=by
  unfold deI;rw[if_pos may_deed1];unfold doI;rw[if_pos (by decide)];show(linkI [] 1 0 ⟨#[97]⟩ false 0).2=(1,0)
  rw[awake_link]
theorem sdo_deed1:(sdoI ([],1) 9 8 deed1).2=(1,0)∧(sdoI ([],1) 9 8 deed1).1.2=7:=by
  have h0:=do_deed1;unfold sdoI;rw[if_neg (fun h=>h may_deed1),if_neg (fun h=>h (by rw[h0])),frames_deed1,if_pos (by decide),h0];exact⟨rfl,rfl⟩
theorem goodTI_nil:GoodTI ([],1):=goodT_nil
set_option maxHeartbeats 4000000 in
theorem awake13_c (S:StC)(w:World):Calls Tryz.prog 6 #[] w fun e w'=>e=.returned (.bool true)∧Below w.heap.size w w':=by
  have cN:=V.new_c 20 w;unfold V.NewPost at cN;rw[show V.sizeI 20=20 from rfl]at cN;go_enter Tryz.func6,Tryz.ntmps6;go_upto_region 2 with(first
    | (go_at_call 8;refine cN.mono ?_;rintro e w1 ⟨b,rfl,hd,hb1,_⟩;have cO:=opened13_c S hd (by decide) (by decide) hb1.size;have HB1:=Lib.hid hb1;clear hb1 hd cN)
    | (go_at_call 9;refine cO.mono ?_;rintro e w2 ⟨sb,t,rfl,hl,hlk,hb2,hp2⟩))
  have hg:=(S.good hl).1;have h1:=sdo_like hlk goodTI_nil hg 9 8 deed1;obtain⟨h2,h3⟩:=sdo_deed1;have HB2:=Lib.hid (HB1.out.trans hb2);have cD:=S.do' deed1 hl (by decide) (by decide) (by rw[like_new hlk];decide) (by decide) HB2.out.size;have hr2:(sdoI t 9 8 deed1).2=(1,0):=h1.1.trans h2;have hr3:(sdoI t 9 8 deed1).1.2=7:=h1.2.1.trans h3;rw[show(((20/2:Nat):Int)-1)=9 from rfl,show(((20/2:Nat):Int)-2)=8 from rfl,hr2,hr3]at cD;unfold deV deed1 at cD;simp only at cD;clear hl hlk hb2 hp2 hg h1 h2 h3 hr2 hr3 HB1 cO;go_upto_region 5 with(go_at_call 14;refine cD.mono ?_;rintro e w3 ⟨hb3,hp3,O',E',hE',hO',⟨rfl,hl3⟩|⟨h0,_⟩⟩;rotate_left;· exact absurd h0 (by decide));have cR:=S.room hl3;have HB3:=Lib.hid (HB2.out.trans hb3);clear hl3 hO' hb3 hp3 cD;go_wp2_with (go_at_call 18;refine cR.mono ?_;rintro e w4 ⟨rfl,hb4⟩);go_ret;exact⟨rfl,HB3.out.trans (hb4.mono HB3.out.size)⟩
end Go.Proofs.YtdmkhmeaphaapaaGreat
namespace Go.Proofs.YtdmkhmeaphaapaaGreat
open Go.RowKit Go.Sort
set_option linter.unusedVariables false
section
variable {B b vb n h:Nat}{k:Bool}{E A:Nat}{img fresh:ByteArray}{rs r1 r2:List ByteArray}{lm:Bool}{st:V.St}{rv:Value}{W W':World}
theorem rowAt_ref {l:List ByteArray}{v:Value}(h:V.RowAt B W v l)(ho:V.Off refTs W W'):V.RowAt B W' v l:=by
  rcases h with h|⟨g,off,cap,cur,hv,hB,h1,h2,hg,h3,h4⟩
  · exact Or.inl h
  · exact Or.inr ⟨g,off,cap,cur,hv,hB,h1,h2,ho _ (by decide) _ _ _ hg,h3,h4⟩
end
end Go.Proofs.YtdmkhmeaphaapaaGreat
namespace Go.Proofs.YtdmkhmeaphaapaaGreat
open Go.RowKit Go.Sort
set_option linter.unusedVariables false
theorem NoMount.more {img:List UInt8}{rs ss:List (List UInt8)}(h:NoMount img rs):NoMount img (rs++ss):=fun t ht=>by
  obtain⟨u,hu⟩:=ht.pre;exact h u hu
theorem runD_cook:∀{C t:TI} (ds:List De),runD C ds=some t→C.2≤t.2
  | C,t,[],h=>by
    obtain rfl:=Option.some.inj h;exact Int.le_refl _
  | C,t,x::ds,h=>by
    rw[runD_cons]at h;split at h
    · have h3:=deI_grow C x;have h4:=runD_cook ds h;omega
    · cases h
theorem Mounts.cook {img:List UInt8}{rs:List (List UInt8)}{t:TI}(h:Mounts img rs t):∀A:TI,GoodTI A→A.2≤9223372036854775807→imgI A.1 A.2=img→A.2≤t.2:=fun A hA hx he=>by
  obtain⟨C,ds,c1,c2,c3,c4,c5,c6⟩:=h;obtain⟨h1,_,_⟩:=twin_img c1 hA c2 hx (he.trans c3.symm);have h2:=runD_cook ds c6;omega
end Go.Proofs.YtdmkhmeaphaapaaGreat
