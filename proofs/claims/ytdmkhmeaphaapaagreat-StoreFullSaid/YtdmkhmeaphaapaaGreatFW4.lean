/- Kit. -/
import Derived.Test.YtdmkhmeaphaapaaGreatFW1
import Derived.WalkKit
import Derived.WalkSpells
import Derived.IntWalk
import Derived.Handy
import Derived.ProofKit
import Derived.Lib.Hide
import Derived.Lib.Builder
import Derived.Lib.AppendStr
import Derived.Lib.UnsafeStr
import Derived.Laws.Externs
import Derived.Laws.NewBlocks
import Derived.Below
import Derived.Shelf.RegionOpenPlain
import Derived.KernelRfl
import Derived.Test.YtdmkhmeaphaapaaGreatFW2
import Derived.Test.YtdmkhmeaphaapaaGreatFW3
import Derived.Test.YtdmkhmeaphaapaaGreatFShelf
import Derived.Lib.Repeat
import Derived.Laws.ResultCell
import Derived.Laws.Bits64
set_option maxRecDepth 100000
namespace Go.Proofs.YtdmkhmeaphaapaaGreat.V
open Go.RowKit
set_option linter.unusedVariables false
theorem sizeBuilder:(Tryz.prog.info? 146).map (·.size)=some 2:=by kernel_rfl
theorem infoByteBu:(Tryz.prog.info? 5).map (fun i=>(i.zero,i.size,i.bytes))=some (some (.int .u8 0),1,1):=by kernel_rfl
theorem cellsByte:Tryz.prog.cellsOf 5=1:=by kernel_rfl
def Bld (T:TypeId)(R:List Value)(B b:Nat)(p:Value)(bs:List Value)(w:World):Prop:=
  B≤b∧∃v,w.heap[b]?=some (.cells ⟨p::v::R⟩ T (0,0))∧w.ownsRow B 5 1 v bs.length bs∧v.ownBlock≠some b
def IsBld (T:TypeId)(R:List Value)(B b:Nat)(bs:List Value)(w:World):Prop:=
  Bld T R B b (.pointer none) bs w∨Bld T R B b (.pointer (some ⟨b,0,none⟩)) bs w
structure HasBld (T:TypeId)(n:Nat):Prop where
  ne8:T≠5
  lies:liesAt Tryz.prog Tryz.prog.depth T ((n+2)/Tryz.prog.cellsOf T) 0 146 1=true
def KeptT (T0:TypeId)(w w':World):Prop:=∀(k:Nat) (cs:Array Value) (fr:Nat×Nat),w.heap[k]?=some (.cells cs T0 fr)→w'.heap[k]?=some (.cells cs T0 fr)
theorem KeptT.refl {T0:TypeId}(w:World):KeptT T0 w w:=fun _ _ _ h=>h
theorem KeptT.trans {T0:TypeId}{a b c:World}(h:KeptT T0 a b)(h':KeptT T0 b c):KeptT T0 a c:=fun k cs fr hk=>h' k cs fr (h k cs fr hk)
theorem KeptT.set {T0:TypeId}{w:World}{b j:Nat}{cs:Array Value}{T:TypeId}{fr:Nat×Nat}(hb:w.heap[b]?=some (.cells cs T fr))(hT:T0≠T)(x:Value):KeptT T0 w (w.setCell ⟨b,j,none⟩ x):=fun k cs' fr' hk=>by
  by_cases e:k=b
  · subst e;rw[hb]at hk;simp only[Option.some.injEq,Obj.cells.injEq]at hk;exact absurd hk.2.1.symm hT
  · rw[show(w.setCell ⟨b,j,none⟩ x).heap[k]?=w.heap[k]? from Below.heap_setCell _ _ _ _ (fun h=>e h)];exact hk
theorem KeptT.alloc {T0:TypeId}{w:World}(o:Obj):KeptT T0 w (w.alloc o):=fun k cs fr hk=>by
  rw[Lib.alloc_old w o k (lt_of_get hk)];exact hk
theorem KeptT.below {T0:TypeId}{w w':World}(h:Below w.heap.size w w'):KeptT T0 w w':=fun k cs fr hk=>by rw[h.block k (lt_of_get hk)];exact hk
theorem KeptT.grown {T0:TypeId}{w w':World}{v:Value}{B n:Nat}{xs:List Value}(h:w.grownBy w' v.ownBlock)(hown:w.ownsRow B 5 1 v n xs)(h8:T0≠5):KeptT T0 w w':=fun k cs fr hk=>by
  rw[h.block k (lt_of_get hk) (fun e=>Lib.ownBlock_ne hown hk h8 e.symm)];exact hk
theorem KeptT.cell {T0:TypeId}{w w':World}(h:KeptT T0 w w'){k j:Nat}{cs:Array Value}{fr:Nat×Nat}(hk:w.heap[k]?=some (.cells cs T0 fr)):w'.cell? ⟨k,j,none⟩=cs[j]?:=Lib.cell_of_heap (h k cs fr hk) j
def Fr (T:TypeId)(w w':World):Prop:=∀T0:TypeId,T0≠5→T0≠T→KeptT T0 w w'
theorem Bld.cell0 {T:TypeId}{R:List Value}{B b:Nat}{p:Value}{bs:List Value}{w:World}(h:Bld T R B b p bs w):w.cell? ⟨b,0,none⟩=some p:=by
  obtain⟨_,v,hb,_⟩:=h;rw[Lib.cell_of_heap hb];rfl
theorem Bld.shape {T:TypeId}{R:List Value}{B b:Nat}{p:Value}{bs:List Value}{w:World}(h:Bld T R B b p bs w):w.shape? b=some (T,R.length+2):=by
  obtain⟨_,v,hb,_⟩:=h;simp[World.shape?,hb]
theorem Bld.lt {T:TypeId}{R:List Value}{B b:Nat}{p:Value}{bs:List Value}{w:World}(h:Bld T R B b p bs w):b<w.heap.size:=by
  obtain⟨_,v,hb,_⟩:=h;exact lt_of_get hb
theorem Bld.frozen0 {T:TypeId}{R:List Value}{B b:Nat}{p:Value}{bs:List Value}{w:World}(h:Bld T R B b p bs w):w.frozen? ⟨b,0,none⟩=false:=by
  obtain⟨_,v,hb,_⟩:=h;exact Lib.frozen_of_heap hb 0
theorem Bld.used {T:TypeId}{R:List Value}{B b:Nat}{p:Value}{bs:List Value}{w:World}(h:Bld T R B b p bs w)(q:Value):Bld T R B b q bs (w.setCell ⟨b,0,none⟩ q):=by
  have hlt:=h.lt;obtain⟨hB,v,hb,hown,hne⟩:=h;refine⟨hB,v,?_,?_,hne⟩
  · simp[World.setCell,Array.getElem?_modify,hb]
  · refine hown.kept (row:=some b) ⟨rfl,rfl,rfl,by simp[World.setCell],fun k _ hk=>Below.heap_setCell _ _ _ _ (fun e=>hk (by simp[e]))⟩ ?_;exact Or.inr hne
theorem Bld.put {T:TypeId}{R:List Value}{B b:Nat}{p v v':Value}{bs':List Value}{w:World}(hB:B≤b)(hb:w.heap[b]?=some (.cells ⟨p::v::R⟩ T (0,0)))(hown:w.ownsRow B 5 1 v' bs'.length bs')(hT:T≠5) :
    Bld T R B b p bs' (w.setCell ⟨b,1,none⟩ v'):=by
  have hne:=Lib.ownBlock_ne hown hb hT;refine⟨hB,v',?_,?_,hne⟩
  · simp[World.setCell,Array.getElem?_modify,hb]
  · exact hown.kept (row:=some b) ⟨rfl,rfl,rfl,by simp[World.setCell],fun k _ hk=>Below.heap_setCell _ _ _ _ (fun e=>hk (by simp[e]))⟩ (Or.inr hne)
set_option maxHeartbeats 1000000 in
theorem copyCheck_used (b:Nat)(w:World)(h0:w.cell? ⟨b,0,none⟩=some (.pointer (some ⟨b,0,none⟩))) :
    Calls Tryz.prog 156 #[.pointer (some ⟨b,0,none⟩)] w fun e w'=>e=.returned (.tuple #[])∧w'=w:=by
  obtain⟨j,hj,_⟩:=Option.map_eq_some_iff.1 sizeBuilder;go_enter Tryz.func156,Tryz.ntmps156;go_wp2;rw[Lib.run_neq_ptr_same w _ Tryz.underlying144 hj];go_wp2;go_end0;exact⟨rfl,rfl⟩
set_option maxHeartbeats 1000000 in
theorem copyCheck_fresh (T:TypeId)(n:Nat)(b:Nat)(w:World)(h0:w.cell? ⟨b,0,none⟩=some (.pointer none))(hsh:w.shape? b=some (T,n+2))(hl:liesAt Tryz.prog Tryz.prog.depth T ((n+2)/Tryz.prog.cellsOf T) 0 146 1=true)(hfz:w.frozen? ⟨b,0,none⟩=false) :
    Calls Tryz.prog 156 #[.pointer (some ⟨b,0,none⟩)] w fun e w'=>e=.returned (.tuple #[])∧w'=w.setCell ⟨b,0,none⟩ (.pointer (some ⟨b,0,none⟩)):=by
  obtain⟨j,hj,hjs⟩:=Option.map_eq_some_iff.1 sizeBuilder;go_enter Tryz.func156,Tryz.ntmps156;go_wp2;rw[Lib.run_to_unsafe w ⟨b,0,none⟩ Tryz.underlying144 Tryz.underlying256 hj (by rw[hjs];decide) hsh (Nat.zero_lt_succ _)];simp only[Result.andThen];rw[Oper.upon_value];go_wp2;rw[run_callFunc_extern Tryz.func180 (by kernel_rfl) (by kernel_rfl) (by kernel_rfl) (e:=Extern.AbiNoEscape.same) (by kernel_rfl)];rw[Lib.run_noEscape];simp only[Result.andThen];rw[Oper.upon_value];go_wp2;rw[Lib.run_from_unsafe w ⟨b,0,none⟩ Tryz.underlying256 Tryz.underlying144 hj hsh hl];simp only[Result.andThen];rw[Oper.upon_value];go_wp2;go_end0;exact⟨rfl,rfl⟩
theorem copyCheck_c {T:TypeId}{R:List Value}(hT:HasBld T R.length)(B b:Nat)(bs:List Value)(w:World)(h:IsBld T R B b bs w) :
    Calls Tryz.prog 156 #[.pointer (some ⟨b,0,none⟩)] w fun e w'=>e=.returned (.tuple #[])∧(Bld T R B b (.pointer (some ⟨b,0,none⟩)) bs w'∧Below B w w'∧Fr T w w'):=by
  rcases h with h|h
  · refine(copyCheck_fresh T R.length b w h.cell0 h.shape hT.lies h.frozen0).mono ?_;rintro e w' ⟨rfl,rfl⟩;refine⟨rfl,h.used _,(Below.refl B w).setCell (p:=⟨b,0,none⟩) h.1 _,?_⟩;obtain⟨_,v,hb,_⟩:=h;exact fun T0 h8 hT0=>KeptT.set hb hT0 _
  · refine(copyCheck_used b w h.cell0).mono ?_;rintro e w' ⟨rfl,rfl⟩;exact⟨rfl,h,Below.refl B _,fun T0 h8 hT0=>KeptT.refl _⟩
set_option maxHeartbeats 2000000 in
theorem wstr_c {T:TypeId}{R:List Value}(hT:HasBld T R.length)(B b:Nat)(bs:List Value)(s:ByteArray)(w:World)(h:IsBld T R B b bs w)(hlen:bs.length+s.size≤140737488355328)(hBw:B≤w.heap.size) :
    Calls Tryz.prog 118 #[.pointer (some ⟨b,0,none⟩),.string s] w fun e w'=>e=.returned (.tuple #[.int .i64 s.size,.nilIface])∧(Bld T R B b (.pointer (some ⟨b,0,none⟩)) (bs++Lib.strCells s) w'∧Below B w w'∧Fr T w w'):=by
  obtain⟨i0,hi,hz0,hz1,hz2⟩:=info_parts infoByteBu;have HT:=Lib.hid hT;clear hT;go_enter Tryz.func118,Tryz.ntmps118;go_wp2_with (go_at_call 156;refine(copyCheck_c HT.out B b bs _ h).mono ?_);rintro e w1 ⟨rfl,h1,hb1,hk1⟩;obtain⟨hB,v,hbk,hown,hne⟩:=h1;have c0:w1.cell? ⟨b,0,none⟩=some (.pointer (some ⟨b,0,none⟩)):=by rw[Lib.cell_of_heap hbk];rfl
  have c1:w1.cell? ⟨b,1,none⟩=some v:=by rw[Lib.cell_of_heap hbk];rfl
  go_wp2_with (at_builtin;refine Lib.wpList_append_own_string _ rfl _ _ 121 9 rfl B 5 i0 Tryz.underlying121 Tryz.underlying9 hi hz0 hz1 hz2 _ _ _ rfl hown s rfl ?c3 ?c4 ?c5 ?_)
  case c3=>unfold maxLen;omega
  case c4=>omega
  case c5=>have:=hb1.size;omega
  intro v' w2 hown' hgrow _;have hlt:b<w1.heap.size:=lt_of_get hbk;have hb2:w2.heap[b]?=some (.cells ⟨.pointer (some ⟨b,0,none⟩)::v::R⟩ T (0,0)):=by
    rw[hgrow.block b hlt (fun e=>hne e.symm)];exact hbk
  have d0:w2.cell? ⟨b,0,none⟩=some (.pointer (some ⟨b,0,none⟩)):=by rw[Lib.cell_of_heap hb2];rfl
  have d1:w2.cell? ⟨b,1,none⟩=some v:=by rw[Lib.cell_of_heap hb2];rfl
  have f1:w2.frozen? ⟨b,1,none⟩=false:=Lib.frozen_of_heap hb2 1;obtain⟨ao,n',cap,rfl⟩:∃ao n' cap,v'=.slice ao n' cap:=by
    rcases hown'.2 with⟨hv,_⟩|⟨g,cap,cur,hv,_⟩
    · exact⟨_,_,_,hv⟩
    · exact⟨_,_,_,hv⟩
  go_wp2;go_ret2;refine⟨rfl,?_,?_,?_⟩
  · exact Bld.put hB hb2 (bs':=bs++Lib.strCells s) (by simpa[Lib.strCells_length]using hown') HT.out.ne8
  · exact(hb1.grown hgrow (by have:=hb1.size;omega) (fun k hk=>(hown.lt k hk).1)).setCell (p:=⟨b,1,none⟩) hB _
  · exact fun T0 h8 hT0=>((hk1 T0 h8 hT0).trans (KeptT.grown hgrow hown h8)).trans (KeptT.set hb2 hT0 _)
theorem unsafeString_none (W:World)(q:Option Addr):(Builtin.unsafeString_ #[223,3] 9 #[.pointer q,.int .i64 0]).run Tryz.prog W=.ok (.string .empty) W:=
  Lib.run_unsafeString_none W _ _ _ q
set_option maxHeartbeats 2000000 in
theorem str_some {T:TypeId}{R:List Value}(B b:Nat)(l:List UInt8)(w:World)(h:IsBld T R B b (Lib.byteCells l) w)(h0:l≠[]) :
    Calls Tryz.prog 119 #[.pointer (some ⟨b,0,none⟩)] w fun e w'=>e=.returned (.string ⟨l.toArray⟩)∧Below B w w':=by
  obtain⟨p,hB,v,hbk,hown,hne⟩:∃p,Bld T R B b p (Lib.byteCells l) w:=by
    rcases h with h|h
    · exact⟨_,h⟩
    · exact⟨_,h⟩
  have hl0:l.length≠0:=by simpa using h0
  rw[Lib.byteCells_length]at hown;obtain⟨g,cap,cur,rfl,hbg,hg,hnc,hcm,hcs,htake⟩:∃g cap cur,v=.slice (some ⟨g,0,none⟩) l.length cap∧B≤g∧w.heap[g]?=some (.cells cur 5 (0,0))∧l.length≤cap∧cap≤maxLen∧cur.size=cap*1∧cur.toList.take (l.length*1)=Lib.byteCells l:=by
    rcases hown.2 with⟨_,hz⟩|⟨g,cap,cur,hv,r⟩
    · exact absurd hz hl0
    · exact⟨g,cap,cur,hv,r⟩
  have c1:w.drew.cell? ⟨b,1,none⟩=some (.slice (some ⟨g,0,none⟩) l.length cap):=by
    have:w.drew.heap[b]?=some (.cells ⟨p::.slice (some ⟨g,0,none⟩) l.length cap::R⟩ T (0,0)):=hbk;rw[Lib.cell_of_heap this];rfl
  have hSD:(Builtin.unsafeSliceData_ #[121] 223 #[.slice (some ⟨g,0,none⟩) l.length cap]).run Tryz.prog w.drew=.ok (.pointer (some ⟨g,0,none⟩)) w.drew:=
    Lib.run_unsafeSliceData_row _ _ _ _ _ _ (by omega)
  have hUS:(Builtin.unsafeString_ #[223,3] 9 #[.pointer (some ⟨g,0,none⟩),.int .i64 l.length]).run Tryz.prog w.drew=.ok (.string ⟨l.toArray⟩) (w.drew.freeze ⟨g,0,none⟩ l.length):=by
    refine Lib.run_unsafeString_row w.drew 223 3 9 5 Tryz.underlying223 cellsByte g cur.size (by have hg':w.drew.heap[g]?=some (.cells cur 5 (0,0)):=hg;simp[World.shape?,hg']) l h0 (by omega) (by unfold maxLen at hcm;omega) ?_;intro j x hx;have:=hown.cells (g:=g) rfl j (.int .u8 x.toNat) (by simp[Lib.byteCells,hx]);exact this
  have mixed:Tryz.prog.follows .mixedOrders=true:=by kernel_rfl
  go_enter Tryz.func119,Tryz.ntmps119;go_wp2;go_region_o
  all_goals (go_wp2;go_ret;exact⟨rfl,Lib.below_freeze (Below.drew (Below.refl B w)) (p:=⟨g,0,none⟩) hbg _⟩)
set_option maxHeartbeats 2000000 in
theorem str_nil {T:TypeId}{R:List Value}(B b:Nat)(p:Value)(w:World)(hbk:w.heap[b]?=some (.cells ⟨p::.slice none 0 0::R⟩ T (0,0))) :
    Calls Tryz.prog 119 #[.pointer (some ⟨b,0,none⟩)] w fun e w'=>e=.returned (.string ⟨#[]⟩)∧Below B w w':=by
  have hUS:=unsafeString_none;have c1:w.drew.cell? ⟨b,1,none⟩=some (.slice none 0 0):=by
    have:w.drew.heap[b]?=some (.cells ⟨p::.slice none 0 0::R⟩ T (0,0)):=hbk;rw[Lib.cell_of_heap this];rfl
  have hSD:(Builtin.unsafeSliceData_ #[121] 223 #[.slice none 0 0]).run Tryz.prog w.drew=.ok (.pointer none) w.drew:=rfl;have mixed:Tryz.prog.follows .mixedOrders=true:=by kernel_rfl
  go_enter Tryz.func119,Tryz.ntmps119;go_wp2;go_region_o
  all_goals (go_wp2;go_ret;exact⟨rfl,Below.drew (Below.refl B w)⟩)
set_option maxHeartbeats 2000000 in
theorem str_noroom {T:TypeId}{R:List Value}(B b g:Nat)(p:Value)(cur:Array Value)(w:World)(hBw:B≤w.heap.size)(hbk:w.heap[b]?=some (.cells ⟨p::.slice (some ⟨g,0,none⟩) 0 0::R⟩ T (0,0)))(hg:w.heap[g]?=some (.cells cur 5 (0,0))) :
    Calls Tryz.prog 119 #[.pointer (some ⟨b,0,none⟩)] w fun e w'=>e=.returned (.string ⟨#[]⟩)∧Below B w w':=by
  have hUS:=unsafeString_none;have hlt:b<w.heap.size:=lt_of_get hbk;have c1:w.drew.cell? ⟨b,1,none⟩=some (.slice (some ⟨g,0,none⟩) 0 0):=by
    have:w.drew.heap[b]?=some (.cells ⟨p::.slice (some ⟨g,0,none⟩) 0 0::R⟩ T (0,0)):=hbk;rw[Lib.cell_of_heap this];rfl
  have hSD:(Builtin.unsafeSliceData_ #[121] 223 #[.slice (some ⟨g,0,none⟩) 0 0]).run Tryz.prog w.drew=.ok (.pointer (some ⟨w.drew.heap.size,0,none⟩)) (w.drew.alloc (.view ⟨g,0,none⟩ 5)):=
    Lib.run_unsafeSliceData_zero w.drew _ _ 5 Tryz.underlying223 ⟨g,0,none⟩ 0 (5,cur.size) (by have hg':w.drew.heap[g]?=some (.cells cur 5 (0,0)):=hg;simp[World.shape?,hg'])
  have c2:(w.drew.alloc (.view ⟨g,0,none⟩ 5)).cell? ⟨b,1,none⟩=some (.slice (some ⟨g,0,none⟩) 0 0):=by
    have:(w.drew.alloc (.view ⟨g,0,none⟩ 5)).heap[b]?=_:=(Lib.alloc_old w.drew _ b hlt).trans hbk;rw[Lib.cell_of_heap this];rfl
  have c3:(w.alloc (.view ⟨g,0,none⟩ 5)).drew.cell? ⟨b,1,none⟩=some (.slice (some ⟨g,0,none⟩) 0 0):=c2;have c0:w.cell? ⟨b,1,none⟩=some (.slice (some ⟨g,0,none⟩) 0 0):=c1;have mixed:Tryz.prog.follows .mixedOrders=true:=by kernel_rfl
  go_enter Tryz.func119,Tryz.ntmps119;go_wp2;go_region_o
  all_goals (go_wp2;go_ret;exact⟨rfl,(Below.drew (Below.refl B w)).alloc hBw _⟩)
set_option maxHeartbeats 2000000 in
theorem str_room {T:TypeId}{R:List Value}(B b g cap:Nat)(p:Value)(w:World)(hc0:cap≠0)(hbk:w.heap[b]?=some (.cells ⟨p::.slice (some ⟨g,0,none⟩) 0 cap::R⟩ T (0,0))) :
    Calls Tryz.prog 119 #[.pointer (some ⟨b,0,none⟩)] w fun e w'=>e=.returned (.string ⟨#[]⟩)∧Below B w w':=by
  have hUS:=unsafeString_none;have c1:w.drew.cell? ⟨b,1,none⟩=some (.slice (some ⟨g,0,none⟩) 0 cap):=by
    have:w.drew.heap[b]?=some (.cells ⟨p::.slice (some ⟨g,0,none⟩) 0 cap::R⟩ T (0,0)):=hbk;rw[Lib.cell_of_heap this];rfl
  have hSD:(Builtin.unsafeSliceData_ #[121] 223 #[.slice (some ⟨g,0,none⟩) 0 cap]).run Tryz.prog w.drew=.ok (.pointer (some ⟨g,0,none⟩)) w.drew:=
    Lib.run_unsafeSliceData_row _ _ _ _ _ _ hc0
  clear hc0;have mixed:Tryz.prog.follows .mixedOrders=true:=by kernel_rfl
  go_enter Tryz.func119,Tryz.ntmps119;go_wp2;go_region_o
  all_goals (go_wp2;go_ret;exact⟨rfl,Below.drew (Below.refl B w)⟩)
theorem str_c {T:TypeId}{R:List Value}(B b:Nat)(l:List UInt8)(w:World)(h:IsBld T R B b (Lib.byteCells l) w)(hBw:B≤w.heap.size) :
    Calls Tryz.prog 119 #[.pointer (some ⟨b,0,none⟩)] w fun e w'=>e=.returned (.string ⟨l.toArray⟩)∧Below B w w':=by
  cases l with
  | cons x r=>exact str_some B b (x::r) w h (by simp)
  | nil =>
    obtain⟨p,hB,v,hbk,hown,hne⟩:∃p,Bld T R B b p [] w:=by
      rcases h with h|h
      · exact⟨_,h⟩
      · exact⟨_,h⟩
    rcases hown.2 with⟨rfl,_⟩|⟨g,cap,cur,rfl,hbg,hg,_,_,_,_⟩
    · exact str_nil B b p w hbk
    · by_cases hc0:cap=0
      · subst hc0;exact str_noroom B b g p cur w hBw hbk hg
      · exact str_room B b g cap p w hc0 hbk
theorem hasBuilder:HasBld 146 0:=⟨by decide,by kernel_rfl⟩
theorem bld_fresh (w:World):IsBld 146 [] w.heap.size w.heap.size [] (w.alloc (.cells #[.pointer none,.slice none 0 0] 146)):=
  Or.inl ⟨Nat.le_refl _,.slice none 0 0,heap_alloc_new w _,World.ownsRow_nil _ _ _ _,by simp[Value.ownBlock]⟩
theorem IsBld.below {T:TypeId}{R:List Value}{B b:Nat}{bs:List Value}{w w':World}(h:IsBld T R B b bs w)(hb:Below w.heap.size w w'):IsBld T R B b bs w':=by
  have key:∀p,Bld T R B b p bs w→Bld T R B b p bs w':=by
    rintro p ⟨hB,v,hbk,hown,hne⟩;refine⟨hB,v,by rw[hb.block b (lt_of_get hbk)];exact hbk,hown.kept (row:=none) ⟨hb.os,hb.tape,hb.output,hb.size,fun k hk _=>hb.block k hk⟩ ?_,hne⟩;cases h:v.ownBlock with
    | none=>exact Or.inl rfl
    | some x=>exact Or.inr (by simp)
  rcases h with h|h
  · exact Or.inl (key _ h)
  · exact Or.inr (key _ h)
end Go.Proofs.YtdmkhmeaphaapaaGreat.V
namespace Go.Proofs.YtdmkhmeaphaapaaGreat.V
open Go.RowKit Go.Sort
set_option linter.unusedVariables false
def framesI (n:Int):Int:=if n<1 then 0 else(n-1)/62+1
theorem framesI_nat (n:Nat):framesI n=((n+61)/62:Nat):=by
  unfold framesI;split
  · have:n=0:=by omega
    subst this;rfl
  · omega
set_option maxHeartbeats 1000000 in
theorem frames_n (n:Int)(w:World)(h:n≤9223372036854775807):Calls Tryz.prog 133 #[.int .i64 n] w fun e w'=>e=.returned (.int .i64 (framesI n))∧w=w':=by
  unfold framesI;by_cases h1:n<1
  · rw[if_pos h1];go_enter Tryz.func133,Tryz.ntmps133;go_wp2;go_ret;exact⟨rfl,rfl⟩
  · rw[if_neg h1];obtain⟨k,hk⟩:∃k:Nat,n=k+1:=⟨(n-1).toNat,by omega⟩;subst hk;have hs:IntKind.i64.wrap ((k:Int)+1-1)=(k:Int):=by rw[IntKind.wrap_i64];omega
    obtain⟨q,hq⟩:∃q:Nat,k/62=q:=⟨_,rfl⟩;have hq1:(k:Int).tdiv 62=(q:Int):=by rw[Int.tdiv_eq_ediv_of_nonneg (by omega)];omega
    have hq2:(k:Int)/62=(q:Int):=by omega
    have hq3:IntKind.i64.wrap (q:Int)=(q:Int):=by rw[IntKind.wrap_i64];omega
    have hq4:IntKind.i64.wrap ((q:Int)+1)=(q:Int)+1:=by rw[IntKind.wrap_i64];omega
    rw[show(k:Int)+1-1=(k:Int) by omega,hq2];go_enter Tryz.func133,Tryz.ntmps133;go_wp2;go_ret;exact⟨rfl,rfl⟩
theorem repeat_0 (n:Nat):Lib.repeatL [0] n=List.replicate n 0:=by
  induction n with
  | zero=>rfl
  | succ n ih=>rw[Lib.repeatL,ih];rfl
theorem zero64_eq:(⟨(List.replicate 64 0).toArray⟩:ByteArray)=zero64:=by
  unfold zero64;congr 1
set_option maxHeartbeats 1000000 in
theorem noughts_c (w:World):Calls Tryz.prog 163 #[] w fun e w'=>e=.returned (.string zero64)∧Below w.heap.size w w':=by
  have hR:∀w1,Calls Tryz.prog 185 #[.string ⟨#[0]⟩,.int .i64 64] w1 fun e w'=>e=.returned (.string zero64)∧Below w1.heap.size w1 w':=fun w1=>by
    have:=Tryz.strings_Repeat ⟨#[0]⟩ 64 w1 (by omega) (by show 1*64≤_;omega);rw[show(⟨#[0]⟩:ByteArray).data.toList=[0] from rfl,repeat_0,zero64_eq]at this;exact this
  go_enter Tryz.func163,Tryz.ntmps163;go_wp2_with fail;refine(hR _).mono ?_;rintro e w1 ⟨rfl,hb⟩;have HB:=Lib.hid hb;clear hb hR;go_wp2;go_ret;exact⟨rfl,HB.out⟩
theorem grown_of_belowB {w w':World}(hb:Below w.heap.size w w')(row:Option Nat):w.grownBy w' row:=⟨hb.os,hb.tape,hb.output,hb.size,fun k hk _=>hb.block k hk⟩
theorem or_shift (a b:Nat)(hb:b<256):(a*256) ||| b=a*256+b:=by
  have:=Nat.two_pow_add_eq_or_of_lt (i:=8) (b:=b) (by simpa using hb) a;rw[show 2^8*a=a*256 by omega]at this;exact this.symm
set_option maxHeartbeats 1000000 in
theorem has_c (b:Option Addr)(fr sz at_ cnt:Int)(w:World)(h:-9223372036854775808≤sz-at_∧sz-at_≤9223372036854775807) :
    Calls Tryz.prog 132 #[.agg #[.pointer b,.int .i64 fr,.int .i64 sz],.int .i64 at_,.int .i64 cnt] w fun e w'=>e=.returned (.bool (decide (cnt≤sz-at_)))∧Below w.heap.size w w':=by
  have hw:IntKind.i64.wrap (sz-at_)=sz-at_:=by rw[IntKind.wrap_i64];omega
  by_cases hc:cnt≤sz-at_
  · rw[decide_eq_true hc];go_enter Tryz.func132,Tryz.ntmps132;go_wp2;go_ret;exact⟨rfl,(Below.refl _ _).alloc (Nat.le_refl _) _⟩
  · rw[decide_eq_false hc];go_enter Tryz.func132,Tryz.ntmps132;go_wp2;go_ret;exact⟨rfl,(Below.refl _ _).alloc (Nat.le_refl _) _⟩
set_option maxHeartbeats 1000000 in
theorem bget_c (B b:Nat)(st:St)(fr sz at_ i:Int)(w:World)(h:Dev B w b st)(hg:Good st)(hi:fr+at_=i)(ha:-9223372036854775808≤i∧i≤9223372036854775807) :
    Calls Tryz.prog 162 #[.agg #[.pointer (some ⟨b,0,none⟩),.int .i64 fr,.int .i64 sz],.int .i64 at_] w fun e w'=>e=.returned (.tuple #[.string (if askI st.now.length st.lim st.left i=0 then st.now.getD i.toNat ⟨#[]⟩ else⟨#[]⟩),.int .i64 (askI st.now.length st.lim st.left i)])∧Below w.heap.size w w':=by
  have cG:Hid (∀W,Below w.heap.size w W→Calls Tryz.prog 91 #[.pointer (some ⟨b,0,none⟩),.int .i64 i] W (GetPost B st i W)):=Lib.hid (fun W hW=>get_c B b st i W (h.below hW) hg);unfold GetPost at cG;have hw:IntKind.i64.wrap (fr+at_)=i:=by rw[hi,IntKind.wrap_i64];omega
  generalize (if askI st.now.length st.lim st.left i=0 then st.now.getD i.toNat ⟨#[]⟩ else⟨#[]⟩)=s at *;generalize askI st.now.length st.lim st.left i=q at *;clear h hg hi ha;go_enter Tryz.func162,Tryz.ntmps162;go_wp2_with fail;refine(cG.out _ ((Below.refl _ _).alloc (Nat.le_refl _) _)).mono ?_;rintro e w1 ⟨rfl,rfl⟩;go_wp2;go_ret2;exact⟨rfl,(Below.refl _ _).alloc (Nat.le_refl _) _⟩
set_option maxHeartbeats 1000000 in
theorem bput_c (B b:Nat)(st:St)(fr sz at_ i:Int)(s:ByteArray)(w:World)(h:Dev B w b st)(hg:Good st)(hp:st.pend.length≤1000)(hB:B≤w.heap.size)(hi:fr+at_=i)(ha:-9223372036854775808≤i∧i≤9223372036854775807) :
    Calls Tryz.prog 135 #[.agg #[.pointer (some ⟨b,0,none⟩),.int .i64 fr,.int .i64 sz],.int .i64 at_,.string s] w (PutPost B b st i s w):=by
  have cG:Hid (∀W,Below w.heap.size w W→Calls Tryz.prog 165 #[.pointer (some ⟨b,0,none⟩),.int .i64 i,.string s] W (PutPost B b st i s W)):=Lib.hid (fun W hW=>put_c B b st i s W (h.below hW) hg hp (Nat.le_trans hB hW.size));unfold PutPost at cG ⊢;have hw:IntKind.i64.wrap (fr+at_)=i:=by rw[hi,IntKind.wrap_i64];omega
  generalize (if putI st i s=0 then putSt st i.toNat s else st)=st1 at *;generalize putI st i s=q at *;clear h hg hi ha;go_enter Tryz.func135,Tryz.ntmps135;go_wp2_with fail;refine(cG.out _ ((Below.refl _ _).alloc (Nat.le_refl _) _)).mono ?_;rintro e w1 ⟨rfl,hd,hb,ho⟩;have HD:=Lib.hid hd;have HB1:Hid (Below B w w1):=Lib.hid (((Below.refl B w).alloc hB _).trans hb);have HO1:Hid (Off devTs w w1):=Lib.hid (((Off.refl _ w).alloc _).trans ho);clear hd hb ho;go_wp2;go_ret;exact⟨rfl,HD.out,HB1.out,HO1.out⟩
def openI (st:St)(fr sz:Int):Int:=if askI st.now.length st.lim st.left fr=0 then(if sz<1∨st.now.length-fr<sz then 1 else 0) else askI st.now.length st.lim st.left fr
set_option maxHeartbeats 1000000 in
theorem open_ok (B b:Nat)(st:St)(fr sz:Int)(w:World)(h:Dev B w b st)(hg:Good st)(ho:openI st fr sz=0) :
    Calls Tryz.prog 130 #[.pointer (some ⟨b,0,none⟩),.int .i64 fr,.int .i64 sz] w fun e w'=>e=.returned (.tuple #[.agg #[.pointer (some ⟨b,0,none⟩),.int .i64 fr,.int .i64 sz],.int .i64 0])∧Below w.heap.size w w':=by
  have cG:Hid (∀W,Below w.heap.size w W→Calls Tryz.prog 91 #[.pointer (some ⟨b,0,none⟩),.int .i64 fr] W (GetPost B st fr W)):=Lib.hid (fun W hW=>get_c B b st fr W (h.below hW) hg);have cS:Hid (∀W,Below w.heap.size w W→Calls Tryz.prog 90 #[.pointer (some ⟨b,0,none⟩)] W fun e w'=>e=.returned (.int .i64 st.now.length)∧W=w'):=Lib.hid (fun W hW=>by
    obtain⟨a,cap,h0⟩:=(h.below hW).nowCell;exact size_c b _ cap a W h0)
  unfold GetPost at cG;unfold openI at ho;split at ho
  case isFalse hn=>exact absurd ho hn
  rename_i hq;obtain⟨k,rfl,hk⟩:=ask_zero hq;rw[hq,if_pos rfl]at cG;generalize st.now.getD (k:Int).toNat ⟨#[]⟩=s at *;have hf:=hg.few;generalize st.now.length=n at *;split at ho
  · cases ho
  rename_i hsz;have h1:¬sz<1:=by omega
  have hw:IntKind.i64.wrap ((n:Int)-(k:Int))=(n:Int)-(k:Int):=by rw[IntKind.wrap_i64];omega
  have h2:¬((n:Int)-(k:Int)<sz):=by omega
  clear h hg ho hsz hq;go_enter Tryz.func130,Tryz.ntmps130;go_wp2_with fail;refine(cG.out _ ((Below.refl _ _).alloc (Nat.le_refl _) _)).mono ?_;rintro e w1 ⟨rfl,rfl⟩;go_wp2_with fail;refine(cS.out _ ((Below.refl _ _).alloc (Nat.le_refl _) _)).mono ?_;rintro e w1 ⟨rfl,rfl⟩;go_wp2
  (try simp only[Exit.inBlock,Exit.then])
  refine bodyPost_ret (v:=.tuple #[.agg #[.pointer (some ⟨b,0,none⟩),.int .i64 k,.int .i64 sz],.int .i64 0]) ?_ rfl ⟨rfl,?_⟩
  · rw[results_cell_tmp rfl];go_simp
  · first|exact(Below.refl _ _).alloc (Nat.le_refl _) _|exact((Below.refl _ _).alloc (Nat.le_refl _) _).setCells (Nat.le_refl _) _ _
set_option maxHeartbeats 1000000 in
theorem open_no (B b:Nat)(st:St)(fr sz q:Int)(w:World)(h:Dev B w b st)(hg:Good st)(ho:openI st fr sz=q)(hne:q≠0) :
    Calls Tryz.prog 130 #[.pointer (some ⟨b,0,none⟩),.int .i64 fr,.int .i64 sz] w fun e w'=>e=.returned (.tuple #[.agg #[.pointer none,.int .i64 0,.int .i64 0],.int .i64 q])∧Below w.heap.size w w':=by
  have cG:Hid (∀W,Below w.heap.size w W→Calls Tryz.prog 91 #[.pointer (some ⟨b,0,none⟩),.int .i64 fr] W (GetPost B st fr W)):=Lib.hid (fun W hW=>get_c B b st fr W (h.below hW) hg);have cS:Hid (∀W,Below w.heap.size w W→Calls Tryz.prog 90 #[.pointer (some ⟨b,0,none⟩)] W fun e w'=>e=.returned (.int .i64 st.now.length)∧W=w'):=Lib.hid (fun W hW=>by
    obtain⟨a,cap,h0⟩:=(h.below hW).nowCell;exact size_c b _ cap a W h0)
  unfold GetPost at cG;unfold openI at ho;by_cases hq:askI st.now.length st.lim st.left fr=0
  · rw[if_pos hq]at ho;obtain⟨k,rfl,hk⟩:=ask_zero hq;rw[hq,if_pos rfl]at cG;generalize st.now.getD (k:Int).toNat ⟨#[]⟩=s at *;have hf:=hg.few;generalize st.now.length=n at *;split at ho
    case isFalse=>exact absurd ho.symm hne
    rename_i hsz;subst ho;have hw:IntKind.i64.wrap ((n:Int)-(k:Int))=(n:Int)-(k:Int):=by rw[IntKind.wrap_i64];omega
    clear h hg hq hne;by_cases h1:sz<1
    · clear hsz cS;go_enter Tryz.func130,Tryz.ntmps130;go_wp2_with fail;refine(cG.out _ ((Below.refl _ _).alloc (Nat.le_refl _) _)).mono ?_;rintro e w1 ⟨rfl,rfl⟩;go_wp2
      (try simp only[Exit.inBlock,Exit.then])
      refine bodyPost_ret (v:=.tuple #[.agg #[.pointer none,.int .i64 0,.int .i64 0],.int .i64 1]) ?_ rfl ⟨rfl,?_⟩
      · rw[results_cell_tmp rfl];go_simp
      · first|exact(Below.refl _ _).alloc (Nat.le_refl _) _|exact((Below.refl _ _).alloc (Nat.le_refl _) _).setCells (Nat.le_refl _) _ _
    · have h2:(n:Int)-(k:Int)<sz:=by omega
      clear hsz;go_enter Tryz.func130,Tryz.ntmps130;go_wp2_with fail;refine(cG.out _ ((Below.refl _ _).alloc (Nat.le_refl _) _)).mono ?_;rintro e w1 ⟨rfl,rfl⟩;go_wp2_with fail;refine(cS.out _ ((Below.refl _ _).alloc (Nat.le_refl _) _)).mono ?_;rintro e w1 ⟨rfl,rfl⟩;go_wp2
      (try simp only[Exit.inBlock,Exit.then])
      refine bodyPost_ret (v:=.tuple #[.agg #[.pointer none,.int .i64 0,.int .i64 0],.int .i64 1]) ?_ rfl ⟨rfl,?_⟩
      · rw[results_cell_tmp rfl];go_simp
      · first|exact(Below.refl _ _).alloc (Nat.le_refl _) _|exact((Below.refl _ _).alloc (Nat.le_refl _) _).setCells (Nat.le_refl _) _ _
  · rw[if_neg hq]at ho;rw[if_neg hq,ho]at cG;have hne2:(q==0)=false:=by simpa using hne
    clear h hg hq ho cS;go_enter Tryz.func130,Tryz.ntmps130;go_wp2_with fail;refine(cG.out _ ((Below.refl _ _).alloc (Nat.le_refl _) _)).mono ?_;rintro e w1 ⟨rfl,rfl⟩;go_wp2
    (try simp only[Exit.inBlock,Exit.then])
    refine bodyPost_ret (v:=.tuple #[.agg #[.pointer none,.int .i64 0,.int .i64 0],.int .i64 q]) ?_ rfl ⟨rfl,?_⟩
    · rw[results_cell_tmp rfl];go_simp
    · first|exact(Below.refl _ _).alloc (Nat.le_refl _) _|exact((Below.refl _ _).alloc (Nat.le_refl _) _).setCells (Nat.le_refl _) _ _
end Go.Proofs.YtdmkhmeaphaapaaGreat.V
namespace Go.Proofs.YtdmkhmeaphaapaaGreat.V
open Go.RowKit Go.Sort
set_option linter.unusedVariables false
theorem bits_or_i64 (a b:Nat)(ha:a<9223372036854775808)(hb:b<9223372036854775808):bits .or .i64 (a:Int) (b:Int)=((a ||| b:Nat):Int):=by
  have hx:a ||| b<2^63:=Nat.or_lt_two_pow (by omega) (by omega)
  have h1:(BitVec.ofInt 64 (a:Int)).toNat=a:=by
    rw[BitVec.ofInt_natCast,BitVec.toNat_ofNat];exact Nat.mod_eq_of_lt (by omega)
  have h2:(BitVec.ofInt 64 (b:Int)).toNat=b:=by
    rw[BitVec.ofInt_natCast,BitVec.toNat_ofNat];exact Nat.mod_eq_of_lt (by omega)
  show IntKind.i64.wrap ((BitVec.ofInt 64 (a:Int) ||| BitVec.ofInt 64 (b:Int)).toNat:Int)=_
  rw[BitVec.toNat_or,h1,h2,IntKind.wrap_i64];omega
set_option maxHeartbeats 1000000 in
theorem left_c (x:ByteArray)(w:World)(hs:x.size=64):Calls Tryz.prog 181 #[.string x] w fun e w'=>e=.returned (.int .i64 (saysB x.data.toList))∧Below w.heap.size w w':=by
  obtain⟨K,hK⟩:∃K,saysB x.data.toList=K:=⟨_,rfl⟩;rw[hK];have HK:=Lib.hid hK;clear hK;have hi0:(0:Int)<(x.size:Int):=by omega
  have hi1:(1:Int)<(x.size:Int):=by omega
  go_enter Tryz.func181,Tryz.ntmps181;go_wp2;go_quiet (fail);have hx0:x.data.toList.getD 0 0=x[0]'(by omega):=by
    rw[List.getD_eq_getElem?_getD,List.getElem?_eq_getElem (by rw[Array.length_toList];show 0<x.size;omega)];rfl
  have hx1:x.data.toList.getD 1 0=x[1]'(by omega):=by
    rw[List.getD_eq_getElem?_getD,List.getElem?_eq_getElem (by rw[Array.length_toList];show 1<x.size;omega)];rfl
  have hsay:saysB x.data.toList=(x[0]'(by omega)).toNat*256+(x[1]'(by omega)).toNat:=by unfold saysB;rw[hx0,hx1]
  have hlt0:=UInt8.toNat_lt (x[0]'(by omega));have hlt1:=UInt8.toNat_lt (x[1]'(by omega));clear hx0 hx1;generalize (x[0]'(by omega)).toNat=A at *;generalize (x[1]'(by omega)).toNat=C at *;obtain⟨hw1,hw2,hw3,hw4,hK6⟩:=says_num A C hlt0 hlt1;have hKv:K=A*256+C:=HK.out.symm.trans hsay;have hor:bits BinOp.or IntKind.i64 ((A:Int)*256) (C:Int)=(K:Int):=by
    rw[hKv];have:=bits_or_i64 (A*256) C (by omega) (by omega);rw[or_shift A C hlt1]at this;rw[←this];congr 1
  rw[hw1,hw2,hw3,hor];clear hw1 hw2 hw3 hw4 hK6 hor hlt0 hlt1 hi0 hi1 hKv hsay;have HB0:Hid (Below w.heap.size w (w.drewN nq)):=Lib.hid (Below.drewS (Below.refl _ _) nq);go_wp2;go_ret;exact⟨rfl,HB0.out⟩
set_option maxHeartbeats 4000000 in
theorem equal_c (u v:Value)(la lb:List ByteArray)(w:World)(hu:StrsIs w u la)(hv:StrsIs w v lb)(hla:la.length≤9223372036854775807)(hlb:lb.length≤9223372036854775807)(b:Bool)(hb:b=true↔la=lb) :
    Calls Tryz.prog 184 #[u,v] w fun e w'=>e=.returned (.bool b)∧Below w.heap.size w w':=by
  have HBF:=Lib.hid hb;obtain⟨a1,c1,rfl⟩:=hu.len;obtain⟨a2,c2,rfl⟩:=hv.len;obtain⟨n,hn⟩:∃n,la.length=n:=⟨_,rfl⟩;obtain⟨m,hm⟩:∃m,lb.length=m:=⟨_,rfl⟩;have HU:=Lib.hid hu;have HV:=Lib.hid hv;have HN:=Lib.hid hn;have HM:=Lib.hid hm;rw[hn]at hla ⊢;rw[hm]at hlb ⊢;clear hb hu hv hn hm;by_cases hnm:n=m
  · subst hnm;go_enter Tryz.func184,Tryz.ntmps184;go_wp2;go_loopw [13] (fun iv wr=>∃i:Nat,i≤n∧iv=.int .i64 i∧la.take i=lb.take i∧Below w.heap.size w wr) (fun iv _=>n-(intOf iv).toNat)
    case atStart=>exact⟨0,by omega,rfl,rfl,Below.refl _ _⟩
    case round =>
      obtain⟨i,hi,rfl,ht,hbw⟩:=hrel;have HT:=Lib.hid ht;have HBW:=Lib.hid hbw;by_cases hin:i<n
      · have hiz:(i:Int)<(n:Int):=by omega
        obtain⟨x,hx⟩:∃x,la[i]?=some x:=⟨_,List.getElem?_eq_getElem (by rw[HN.out];exact hin)⟩;obtain⟨y,hy⟩:∃y,lb[i]?=some y:=⟨_,List.getElem?_eq_getElem (by rw[HM.out];exact hin)⟩;have hu9:=HU.out.kept hbw;rw[HN.out]at hu9;have hv9:=HV.out.kept hbw;rw[HM.out]at hv9;obtain⟨g1,o1,rfl,_,k1⟩:=hu9.at hx;obtain⟨g2,o2,rfl,_,k2⟩:=hv9.at hy;have d1:wr.drew.cell? ⟨g1,o1+i,none⟩=some (.string x):=k1;have d2:wr.drew.cell? ⟨g2,o2+i,none⟩=some (.string y):=k2;have HXL:=Lib.hid hx;have HYL:=Lib.hid hy;clear hu9 hv9 ht hbw hx hy;by_cases hxy:x=y
        · subst hxy;have HTN:Hid (la.take (i+1)=lb.take (i+1)):=Lib.hid (by rw[List.take_add_one,List.take_add_one,HXL.out,HYL.out,HT.out]);go_wp2
          try (go_quiet (fail);go_wp2)
          go_roundw
          case rel=>exact⟨i+1,by omega,by first|rfl|go_num,HTN.out,by first|exact HBW.out|exact HBW.out.drew|exact Below.drewS HBW.out _⟩
          case measure=>simp[intOf];omega
        · have hne:=toList_ne hxy;have hbf:b=false:=by
            cases b
            · rfl
            · have he:=HBF.out.1 rfl;have h1:=HXL.out;rw[he,HYL.out]at h1;exact absurd (Option.some.inj h1).symm hxy
          subst hbf;clear hxy;go_wp2
          try (go_quiet (fail);go_wp2)
          go_ret;exact⟨rfl,by first|exact HBW.out|exact HBW.out.drew|exact Below.drewS HBW.out _⟩
      · have hge:¬((i:Int)<(n:Int)):=by omega
        have hbt:b=true:=HBF.out.2 (by
          have h1:=HT.out;rwa[List.take_of_length_le (by rw[HN.out];omega),List.take_of_length_le (by rw[HM.out];omega)]at h1)
        subst hbt;clear ht hbw;go_wp2;go_ret;exact⟨rfl,HBW.out⟩
  · have hbf:b=false:=by
      cases b
      · rfl
      · have he:=HBF.out.1 rfl;exact absurd (by rw[←HN.out,←HM.out,he]) hnm
    subst hbf;have hnz:((n:Int)==(m:Int))=false:=by rw[beq_eq_false_iff_ne];omega
    have hnz2:(n==m)=false:=by rw[beq_eq_false_iff_ne];exact hnm
    go_enter Tryz.func184,Tryz.ntmps184;go_wp2;go_ret;exact⟨rfl,Below.refl _ _⟩
end Go.Proofs.YtdmkhmeaphaapaaGreat.V
namespace Go.Proofs.YtdmkhmeaphaapaaGreat.V
open Go.RowKit Go.Sort
set_option linter.unusedVariables false
def bcells (l:List UInt8):List Value:=l.map fun x=>Value.int .u8 (x.toNat:Int)
theorem bcells_one (l:List UInt8):∀v∈bcells l,v.oneCell'=true:=fun v hv=>by
  obtain⟨x,_,rfl⟩:=List.mem_map.1 hv;rfl
theorem wpList_copy_str {P:Program}{w:World}{ops:Array Oper}{rest:List Oper}{o:Oper}{a:Act}{Q:Exit→Act→World→Prop}(hgd:o.guard=none)(d s:Operand)(dT sT:TypeId)
    (ho:o.op=.call { callee:=.builtin .copy,args:=#[d,s],argTypes:=#[dT,sT] }) (elem:TypeId) (hu:P.underlying dT=some (.slice elem)) (hz:∀w,(Go.sizeOf elem).run P w=.ok 1 w)
    (b off dLen dCap n:Nat) (hd:a.eval d=.slice (some ⟨b,off,none⟩) dLen dCap) (t:ByteArray) (hx:a.eval s=.string t) (hn:Nat.min t.size dLen=n)
    (C D:List Value) (T:TypeId) (hb:w.heap[b]?=some (.cells C.toArray T (0,0))) (hfit:off+n≤C.length) (hD:C.take off++bcells (t.data.toList.take n)++C.drop (off+n)=D)
    (h:∀w',w'.heap[b]?=some (.cells D.toArray T (0,0))→(∀(B:Nat) (w0:World),Below B w0 w→B≤b→Below B w0 w')→wpList P ops Q rest (a.put o.dst (goInt n)) w'):wpList P ops Q (o::rest) a w:=by
  refine wpList_plain hgd fun K hK=>?_
  have hl:(bcells (t.data.toList.take n)).length=n:=by
    unfold bcells;rw[List.length_map,List.length_take];have h1:t.data.toList.length=t.size:=Array.length_toList;have h2:n≤t.size:=by rw[←hn];exact Nat.min_le_left _ _
    omega
  have hth:=there_of_block hb off n (by simpa using hfit);have hst:=run_storeCells_cells (P:=P) b off (bcells (t.data.toList.take n)) 0 w (by rw[hl];exact fun j hj=>by simpa using (hth j hj).1) (by rw[hl];exact fun j hj=>by simpa using (hth j hj).2) (bcells_one _);have hrun:(Builtin.copy_ #[dT,sT] o.type #[.slice (some ⟨b,off,none⟩) dLen dCap,.string t]).run P w=.ok (goInt n) (w.setCells b off (bcells (t.data.toList.take n))):=by
    simp[Builtin.copy_,run_underlying hu,Builtin.lenOf,Builtin.firstCells,hz,hn];rw[show(List.map (fun x=>Value.int IntKind.u8 (x.toNat:Int)) t.data.toList).take n=bcells (t.data.toList.take n) by unfold bcells;rw[List.map_take]];rw[hst];rfl
  unfold Oper.wp;simp[execOp,ho,resolve,invoke,builtin,hd,hx,hrun,Result.andThen];refine hK _ _ (h _ ?_ (fun B w0 hB hBb=>Below.setCells hB hBb _ _));have h9:=heap_setCells_at b T (bcells (t.data.toList.take n)) off w C hb (by rw[hl];exact hfit);rw[hl,hD]at h9;exact h9
theorem wpL_copy {P:Program}{ops:Array Oper}{rest:List Oper}{dd:Option Tmp}{TT:TypeId}{pos:String}{af:Array Edge}{a:Act}{w:World}{Q:Exit→Act→World→Prop}{d s:Operand}{dT sT:TypeId}(elem:TypeId)(b off dLen dCap n:Nat)(t:ByteArray)(C D:List Value)(T:TypeId)
    (hd:a.eval d=.slice (some ⟨b,off,none⟩) dLen dCap) (hx:a.eval s=.string t) (hb:w.heap[b]?=some (.cells C.toArray T (0,0)))
    (hu:P.underlying dT=some (.slice elem)) (hz:∀w,(Go.sizeOf elem).run P w=.ok 1 w) (hn:Nat.min t.size dLen=n) (hfit:off+n≤C.length) (hD:C.take off++bcells (t.data.toList.take n)++C.drop (off+n)=D)
    (h:∀w',w'.heap[b]?=some (.cells D.toArray T (0,0))→(∀(B:Nat) (w0:World),Below B w0 w→B≤b→Below B w0 w')→wpList P ops Q rest (a.put dd (goInt n)) w') :
    wpList P ops Q ({ dst:=dd,op:=.call { callee:=.builtin .copy,args:=#[d,s],argTypes:=#[dT,sT] },type:=TT,pos:=pos,after:=af,guard:=none }::rest) a w:=
  wpList_copy_str rfl d s dT sT rfl elem hu hz b off dLen dCap n hd t hx hn C D T hb hfit hD h
theorem two_drop {α:Type}(x y z:α)(k n:Nat):([x,y]++List.replicate k z).drop (2+n)=List.replicate (k-n) z:=by
  rw[Nat.add_comm 2];show(List.replicate k z).drop n=_
  rw[List.drop_replicate]
theorem conv_arr {W:World}{g:Nat}{T:TypeId}{l:List UInt8}(hl:l.length=64)(h:W.heap[g]?=some (.cells (bcells l).toArray T (0,0))):(convert 121 9 (.slice (some ⟨g,0,none⟩) 64 64)).run Tryz.prog W=.ok (.string ⟨l.toArray⟩) W:=by
  have h9:=run_convert_bytes_back (P:=Tryz.prog) W 121 9 5 ⟨g,0,none⟩ 64 l Tryz.underlying121 Tryz.underlying5 Tryz.underlying9 (fun j hj=>by
    rw[Addr.add_mid,Nat.zero_add,cell_of_row _ _ _ _ _ _ h];unfold bcells;simp[hj])
  rw[hl]at h9;exact h9
set_option maxHeartbeats 4000000 in
theorem framed_c (s:ByteArray)(w:World)(hs:s.size≤60000):Calls Tryz.prog 164 #[.string s] w fun e w'=>e=.returned (.string ⟨(frameB s.data.toList).toArray⟩)∧Below w.heap.size w w':=by
  obtain⟨m,hm⟩:∃m,s.size=m:=⟨_,rfl⟩;have hml:s.data.toList.length=m:=by rw[Array.length_toList];exact hm
  have HD:Hid ([Value.int .u8 ((m:Int)/256),Value.int .u8 ((m:Int)%256)]++bcells (s.data.toList.take (min m 62))++List.replicate (62-min m 62) (Value.int .u8 0)=bcells (frameB s.data.toList)):=Lib.hid (by
    have h1:=frame_cells s.data.toList;unfold bcells;rw[h1,hml,UInt8.toNat_ofNat',UInt8.toNat_ofNat',Nat.mod_eq_of_lt (by omega),Nat.mod_eq_of_lt (by omega),List.length_take,hml];have h2:s.data.toList.take (min m 62)=s.data.toList.take 62:=by
      by_cases h:m≤62
      · rw[Nat.min_eq_left h,List.take_of_length_le (by omega),List.take_of_length_le (by omega)]
      · rw[Nat.min_eq_right (by omega)]
    rw[h2,Nat.min_comm];congr 2)
  have HFL:Hid ((frameB s.data.toList).length=64):=Lib.hid (frameB_length _);generalize frameB s.data.toList=F at *;have HM:=Lib.hid hm;rw[hm]at hs;go_enter Tryz.func164,Tryz.ntmps164;have HN:Hid (Nat.min s.size 62=min m 62):=Lib.hid (by rw[HM.out]);have HX:Hid (([Value.int .u8 ((m:Int)/256),Value.int .u8 ((m:Int)%256)]++List.replicate 62 (Value.int .u8 0)).take 2++bcells (s.data.toList.take (min m 62))++([Value.int .u8 ((m:Int)/256),Value.int .u8 ((m:Int)%256)]++List.replicate 62 (Value.int .u8 0)).drop (2+min m 62)=bcells F):=Lib.hid (by
    rw[←HD.out,two_drop];rfl)
  have HF2:Hid (2+min m 62≤([Value.int .u8 ((m:Int)/256),Value.int .u8 ((m:Int)%256)]++List.replicate 62 (Value.int .u8 0)).length):=Lib.hid (by simp;omega);go_wp2_with ((with_reducible refine wpL_copy 5 w.heap.size 2 62 62 (min m 62) s ([Value.int .u8 ((m:Int)/256),Value.int .u8 ((m:Int)%256)]++List.replicate 62 (Value.int .u8 0)) (bcells F) 164 ?_ ?_ ?_ ?_ ?_ ?_ ?_ ?_ ?_);exact rfl;exact rfl;exact heap_alloc_new _ _;exact Tryz.underlying121;exact sizeByte7;exact HN.out;exact HF2.out;exact HX.out);intro w2 hrow hbel;have hcv:=conv_arr HFL.out hrow;have HB:Hid (Below w.heap.size w w2):=Lib.hid (hbel _ _ ((Below.refl _ _).alloc (Nat.le_refl _) _) (Nat.le_refl _));clear hbel hrow;go_wp2;go_ret;exact⟨rfl,HB.out⟩
end Go.Proofs.YtdmkhmeaphaapaaGreat.V
namespace Go.Proofs.YtdmkhmeaphaapaaGreat.V
open Go.RowKit Go.Sort
set_option linter.unusedVariables false
def strLen:Value→Nat
  | .string s=>s.size
  | _=>0
theorem strLen_str (s:ByteArray):strLen (.string s)=s.size:=rfl
theorem extract_tail (R:ByteArray)(j q:Nat)(hq:R.size=q)(hj:j=min 62 q):(R.extract j q).data.toList=R.data.toList.drop 62:=by
  rw[ByteArray.data_extract,Array.toList_extract];show(R.data.toList.drop j).take (q-j)=_
  have hl:R.data.toList.length=q:=by rw[Array.length_toList];exact hq
  by_cases h:62≤q
  · rw[hj,Nat.min_eq_left h,List.take_of_length_le (by rw[List.length_drop,hl];omega)]
  · rw[hj,Nat.min_eq_right (by omega),List.drop_eq_nil_of_le (by omega),List.drop_eq_nil_of_le (by omega),List.take_nil]
theorem size_nil {R:ByteArray}(h:R.size≠0):R.data.toList≠[]:=fun e=>h (by
  have:=congrArg List.length e;rw[Array.length_toList]at this;exact this)
set_option maxHeartbeats 8000000 in
theorem frames_c (s:ByteArray)(w:World)(hs:s.size≤60000):Calls Tryz.prog 134 #[.string s] w (CutPost s w):=by
  unfold CutPost;obtain⟨n,hn⟩:∃n,s.size=n:=⟨_,rfl⟩;have HN:=Lib.hid hn;rw[hn]at hs;obtain⟨i0,hi0,hz0,hz1,hz2⟩:=info_parts Tryz.infoStr7;obtain⟨w1,hm,hown,hgrow⟩:=run_make_own (P:=Tryz.prog) w w.heap.size 59 9 i0 (.string ⟨#[]⟩) 1 Tryz.underlying59 hi0 hz0 hz1 .i64 .i64 ((n+61)/62) (by rw[hz2];omega) (by unfold maxLen;omega) (Nat.le_refl _);have cF:=frames_n n w (by omega);rw[framesI_nat]at cF;have HO0:=Lib.hid hown;have HB0:Hid (Below w.heap.size w w1):=Lib.hid ((Below.refl _ _).grown hgrow (Nat.le_refl _) (fun k hk=>by cases hk));clear hown hgrow;generalize (n+61)/62=kf at *;go_enter Tryz.func134,Tryz.ntmps134;go_wp2_with fail;refine cF.mono ?_;rintro e w0 ⟨rfl,rfl⟩;clear cF;go_wp2;clear hm;go_loopw [4,3] (fun rv ov wr=>∃(R:ByteArray) (out:List (List UInt8)),R.size≤n∧rv=.string R∧out++cutB R.data.toList=cutB s.data.toList∧(∃o,o=ov∧wr.ownsRow w.heap.size 9 1 o out.length (frV out))∧Below w.heap.size w wr) (fun rv _ _=>strLen rv)
  case atStart=>exact⟨s,[],by omega,rfl,rfl,⟨_,rfl,HO0.out⟩,HB0.out⟩
  case round =>
    obtain⟨R,out,hR,rfl,hc,⟨ov,rfl,hown⟩,hb⟩:=hrel;have HC:=Lib.hid hc;have HO:=Lib.hid hown;have HB:=Lib.hid hb;clear hc hown hb;obtain⟨q,hq⟩:∃q,R.size=q:=⟨_,rfl⟩;have HQ:=Lib.hid hq;rw[hq]at hR;by_cases hq0:q=0
    · have hRe:R=⟨#[]⟩:=by
        cases R with
        | mk d =>
          congr 1;exact Array.eq_empty_of_size_eq_zero (by rw[←hq0,←hq];rfl)
      subst hRe;have HE2:Hid (cutB s.data.toList=out):=Lib.hid (by
        rw[←HC.out];show out++cutB []=out
        rw[cutB_nil,List.append_nil])
      go_wp2;go_ret;exact⟨_,rfl,by rw[HE2.out];exact HO.out,HB.out⟩
    · have hne:(R.toList==(⟨#[]⟩:ByteArray).toList)=false:=toList_ne (fun e=>hq0 (by rw[←hq,e];rfl));have hne2:(R.toList==[])=false:=by
        rw[ByteArray.toList_eq,beq_eq_false_iff_ne];exact size_nil (by rw[hq];exact hq0)
      have hne3:R≠⟨#[]⟩:=fun e=>hq0 (by rw[←hq,e];rfl)
      have cFr:=fun W=>framed_c R W (by omega)
      obtain⟨F,hF⟩:∃F,frameB R.data.toList=F:=⟨_,rfl⟩;have HF:=Lib.hid hF;rw[hF]at cFr;clear hF;obtain⟨j,hj⟩:∃j,min 62 q=j:=⟨_,rfl⟩;have hjz:min (62:Int) (q:Int)=(j:Int):=by omega
      have hj0:(0:Int)≤(j:Int):=by omega
      have hjq:(j:Int)≤(q:Int):=by omega
      have HOL:Hid (out.length≤2000):=Lib.hid (by
        have h1:=congrArg List.length HC.out;rw[List.length_append,cutB_length s.data.toList]at h1;have h2:s.data.toList.length=n:=by rw[Array.length_toList];exact HN.out
        rw[h2]at h1;omega)
      have HJ:=Lib.hid hj;clear hj;go_wp2_with fail;refine(cFr _).mono ?_;rintro e w2 ⟨rfl,hb2⟩;have hown1:=HO.out.kept (grown_of_belowB hb2 none) (by cases h:ov.ownBlock with|none=>exact Or.inl rfl|some x=>exact Or.inr (by simp));have HO2:=Lib.hid hown1;have HB2:Hid (Below w.heap.size w w2):=Lib.hid (HB.out.trans (hb2.mono HB.out.size));have HA3:Hid ((w2.alloc (.cells #[.string ⟨F.toArray⟩] 9)).ownsRow w.heap.size 9 1 ov out.length (frV out)):=Lib.hid (HO2.out.alloc _);clear hown1 hb2 cFr;go_wp2_with (at_builtin;refine wpList_append_own _ rfl _ _ 59 rfl w.heap.size 9 i0 (.string ⟨#[]⟩) 1 16 Tryz.underlying59 hi0 hz0 hz1 hz2 rfl (by decide) _ _ _ rfl HA3.out ⟨w2.heap.size,0,none⟩ 1 1 [.string ⟨F.toArray⟩] rfl rfl ?c1 ?c2 ?c3 ?c4 ?c5 ?_)
      case c1 =>
        intro j u hj
        match j,hj with
        | 0,hj=>simp at hj;subst hj;simp[Addr.add]
      case c2=>intro u hu;simp at hu;subst hu;rfl
      case c3=>have:=HOL.out;unfold maxLen;omega
      case c4=>have:=HOL.out;omega
      case c5=>have h1:=HB2.out.size;simp;omega
      intro v' w3 hown' hgrow _;have HO3:=Lib.hid hown';have HG3:=Lib.hid hgrow;clear hown' hgrow;go_wp2;go_roundw
      case rel =>
        refine⟨R.extract j q,out++[F],?_,by first|rfl|(congr 1),?_,⟨_,rfl,?_⟩,?_⟩
        · have h1:=extract_tail R j q HQ.out HJ.out.symm;have h2:(R.extract j q).size=(R.extract j q).data.toList.length:=by rw[Array.length_toList];rfl
          have h3:R.data.toList.length=q:=by rw[Array.length_toList];exact HQ.out
          rw[h2,h1,List.length_drop,h3];omega
        · rw[←HC.out,extract_tail R j q HQ.out HJ.out.symm,cutB_cons (r:=R.data.toList) (size_nil (by rw[HQ.out];exact hq0)),HF.out,List.append_assoc];rfl
        · have:=HO3.out;simpa[frV]using this
        · exact(HB2.out.alloc HB2.out.size _).grown HG3.out (by have:=HB2.out.size;simp;omega) (fun j hj=>(HO2.out.lt j hj).1)
      case measure =>
        rw[strLen_str,strLen_str];have h1:=extract_tail R j q HQ.out HJ.out.symm;have h2:(R.extract j q).size=(R.extract j q).data.toList.length:=by rw[Array.length_toList];rfl
        have h3:R.data.toList.length=q:=by rw[Array.length_toList];exact HQ.out
        have h4:=HQ.out;rw[h2,h1,List.length_drop,h3];omega
end Go.Proofs.YtdmkhmeaphaapaaGreat.V
namespace Go.Proofs.YtdmkhmeaphaapaaGreat.V
open Go.RowKit Go.Sort
set_option linter.unusedVariables false
theorem strCells_eqB (s:ByteArray):Lib.strCells s=Lib.byteCells s.data.toList:=by
  unfold Lib.strCells Lib.byteCells;simp
theorem byteCells_appB (a b:List UInt8):Lib.byteCells (a++b)=Lib.byteCells a++Lib.byteCells b:=by
  unfold Lib.byteCells;simp
theorem byteCells_lenB (a:List UInt8):(Lib.byteCells a).length=a.length:=by
  unfold Lib.byteCells;simp
theorem extract_two {y:ByteArray}(h:y.size=64):(y.extract 2 64).data.toList=y.data.toList.drop 2:=by
  rw[ByteArray.data_extract,Array.toList_extract];show(y.data.toList.drop 2).take (64-2)=_
  rw[List.take_of_length_le (by
    rw[List.length_drop,Array.length_toList];show y.size-2≤_
    omega)]
set_option maxHeartbeats 4000000 in
theorem joined_c (v:Value)(l:List ByteArray)(w:World)(hv:StrsIs w v l)(hl:∀x∈l,x.size=64)(hn:l.length≤2000) :
    Calls Tryz.prog 183 #[v] w fun e w'=>e=.returned (.string ⟨(gatherB (bytesL l)).toArray⟩)∧Below w.heap.size w w':=by
  obtain⟨a1,c1,rfl⟩:=hv.len;obtain⟨n,hN⟩:∃n,l.length=n:=⟨_,rfl⟩;obtain⟨G,hG⟩:∃G,gatherB (bytesL l)=G:=⟨_,rfl⟩;rw[hG];have HG:=Lib.hid hG;have HU:=Lib.hid hv;have HN:=Lib.hid hN;have HL:=Lib.hid hl;rw[hN]at hv hn ⊢;clear hv hl hN hG;go_enter Tryz.func183,Tryz.ntmps183;go_wp2;go_loopw [8] (fun iv wr=>∃i:Nat,i≤n∧iv=.int .i64 i∧IsBld 146 [] w.heap.size w.heap.size (Lib.byteCells (gatherB (bytesL (l.take i)))) wr∧Below w.heap.size w wr) (fun iv _=>n-(intOf iv).toNat)
  case atStart=>exact⟨0,by omega,rfl,bld_fresh w,(Below.refl _ _).alloc (Nat.le_refl _) _⟩
  case round =>
    obtain⟨i,hi,rfl,hbu,hbel⟩:=hrel;have HB:=Lib.hid hbu;have HBW:=Lib.hid hbel;clear hbu;by_cases hin:i<n
    · have hiz:(i:Int)<(n:Int):=by omega
      obtain⟨y,hy⟩:∃y,l[i]?=some y:=⟨_,List.getElem?_eq_getElem (by rw[HN.out];exact hin)⟩;have hu9:=HU.out.kept hbel;rw[HN.out]at hu9;obtain⟨g2,o2,rfl,_,k2⟩:=hu9.at hy;have hys:y.size=64:=HL.out y (List.mem_of_getElem? hy);have h2y:(2:Int)≤(y.size:Int):=by omega
      have HM:Hid (Lib.byteCells (gatherB (bytesL (l.take i)))++Lib.strCells (y.extract 2 64)=Lib.byteCells (gatherB (bytesL (l.take (i+1))))):=Lib.hid (by
        rw[strCells_eqB,extract_two hys,←byteCells_appB,gather_take_succ hy])
      have HS:Hid (∀W,IsBld 146 [] w.heap.size w.heap.size (Lib.byteCells (gatherB (bytesL (l.take i)))) W→Below w.heap.size w W→Calls Tryz.prog 118 #[.pointer (some ⟨w.heap.size,0,none⟩),.string (y.extract 2 64)] W fun e w'=>e=.returned (.tuple #[.int .i64 (y.extract 2 64).size,.nilIface])∧IsBld 146 [] w.heap.size w.heap.size (Lib.byteCells (gatherB (bytesL (l.take (i+1))))) w'∧Below w.heap.size w w'):=Lib.hid (fun W hW hWb=>by
        refine(wstr_c hasBuilder w.heap.size w.heap.size _ (y.extract 2 64) W hW ?_ hWb.size).mono ?_
        · rw[byteCells_lenB,gatherB_length (fun f hf=>bytesL_all HL.out f (by
            obtain⟨x,hx,rfl⟩:=List.mem_map.1 hf;exact List.mem_map.2 ⟨x,List.mem_of_mem_take hx,rfl⟩))]
          have h1:(y.extract 2 64).size=(y.data.toList.drop 2).length:=by rw[←extract_two hys,Array.length_toList];rfl
          have h4:y.data.toList.length=64:=by rw[Array.length_toList];exact hys
          rw[h1,List.length_drop,h4];have h2:(bytesL (l.take i)).length≤i:=by unfold bytesL;rw[List.length_map];exact List.length_take_le _ _
          omega
        · rintro e w' ⟨rfl,hb1,hb2,_⟩;rw[HM.out]at hb1;exact⟨rfl,Or.inr hb1,hWb.trans hb2⟩)
      have HYS:=Lib.hid hys;have HE:Hid (y.extract 2 y.size=y.extract 2 64):=Lib.hid (by rw[hys]);clear hy hu9 hbel;go_wp2_with fail
      try rw[hys]
      refine(HS.out _ HB.out HBW.out).mono ?_;rintro e w2 ⟨rfl,hb2,hbel2⟩;have HB2:=Lib.hid hb2;have HBW2:=Lib.hid hbel2;clear hb2 hbel2;go_wp2;go_roundw
      case rel=>exact⟨i+1,by omega,by first|rfl|go_num,HB2.out,HBW2.out⟩
      case measure=>simp[intOf];omega
    · have hiz:¬((i:Int)<(n:Int)):=by omega
      have HBE:Hid (IsBld 146 [] w.heap.size w.heap.size (Lib.byteCells G) wr):=Lib.hid (by
        have h1:=HB.out;rw[List.take_of_length_le (by rw[HN.out];omega),HG.out]at h1;exact h1)
      clear hbel;go_wp2_with fail;refine(str_c w.heap.size w.heap.size G wr HBE.out HBW.out.size).mono ?_;rintro e w2 ⟨rfl,hb2⟩;have HBW2:Hid (Below w.heap.size w w2):=Lib.hid (HBW.out.trans hb2);clear hb2;go_wp2;go_ret;exact⟨rfl,HBW2.out⟩
end Go.Proofs.YtdmkhmeaphaapaaGreat.V
namespace Go.Proofs.YtdmkhmeaphaapaaGreat.V
open Go.RowKit Go.Sort
set_option linter.unusedVariables false
theorem ask_ok {st:St}{k:Nat}(hgo:goneB st=false)(hk:k<st.now.length):askI st.now.length st.lim st.left k=0:=by
  unfold goneB at hgo;unfold askI;rw[hgo,if_neg (by simp),if_neg (by omega)]
def strRow (M:List ByteArray):Array Value:=(M.map Value.string).toArray
theorem strRow_set (M:List ByteArray)(i:Nat)(x:ByteArray):(strRow M).setIfInBounds i (.string x)=strRow (M.set i x):=by
  unfold strRow;apply Array.ext';rw[Array.toList_setIfInBounds,List.toList_toArray,List.toList_toArray,List.map_set]
theorem strRow_get {M:List ByteArray}{i:Nat}{x:ByteArray}(h:M[i]?=some x):(strRow M)[i]?=some (.string x):=by
  unfold strRow;rw[List.getElem?_toArray,List.getElem?_map,h];rfl
theorem run_new_strs (n:Nat)(hn:n≤1000000)(W:World):(Instr.makeSlice 59 (.int .i64 n) (.int .i64 n)).run Tryz.prog W=.ok (.slice (some ⟨W.heap.size,0,none⟩) n n) (W.alloc (.cells (strRow (List.replicate n ⟨#[]⟩)) 9)):=by
  obtain⟨i0,hi0,hz0,hz1,hz2⟩:=info_parts Tryz.infoStr7;have:=run_make (P:=Tryz.prog) W 59 9 i0 (.string ⟨#[]⟩) Tryz.underlying59 hi0 hz0 .i64 .i64 n n (by omega) (by omega) (by rw[hz2];omega) (by omega);rw[hz1,Int.toNat_natCast]at this;refine this.trans ?_;congr 3;unfold strRow;apply Array.ext_getElem?;intro i;simp[madeCells,Value.cells];by_cases h:i<n
  · simp[h,Nat.mod_one]
  · simp[h]
theorem set_fill {α:Type}{L:List α}{i K:Nat}{x z:α}(hx:L[i]?=some x)(hi:i<K):(L.take i++List.replicate (K-i) z).set i x=L.take (i+1)++List.replicate (K-(i+1)) z:=by
  have hl:(L.take i).length=i:=by
    rw[List.length_take];have:=(List.getElem?_eq_some_iff.1 hx).1;omega
  rw[List.set_append,if_neg (by omega),hl,Nat.sub_self,show K-i=(K-(i+1))+1 by omega,List.replicate_succ,List.set_cons_zero,List.take_add_one,hx];simp
set_option maxHeartbeats 4000000 in
theorem getAll_c (B b:Nat)(st:St)(F A K:Nat)(sz:Int)(w:World)(h:Dev B w b st)(hg:Good st)(hgo:goneB st=false)(hK:F+A+K≤st.now.length) :
    Calls Tryz.prog 182 #[.agg #[.pointer (some ⟨b,0,none⟩),.int .i64 F,.int .i64 sz],.int .i64 A,.int .i64 K] w fun e w'=>∃v,e=.returned (.tuple #[v,.int .i64 0])∧StrsIs w' v ((st.now.drop (F+A)).take K)∧Below w.heap.size w w':=by
  have hf:=hg.few;obtain⟨L,hL⟩:∃L,(st.now.drop (F+A)).take K=L:=⟨_,rfl⟩;rw[hL];have HLL:Hid (L.length=K):=Lib.hid (by rw[←hL,List.length_take,List.length_drop];omega);have hget:∀i x,L[i]?=some x→i<K∧st.now.getD (F+(A+i)) ⟨#[]⟩=x:=fun i x hx=>by
    have hi:i<K:=by have:=(List.getElem?_eq_some_iff.1 hx).1;have:=HLL.out;omega
    rw[←hL,List.getElem?_take,if_pos hi,List.getElem?_drop]at hx;refine⟨hi,?_⟩;rw[List.getD_eq_getElem?_getD,show F+(A+i)=F+A+i by omega,hx];rfl
  have cG:Hid (∀(i:Nat) (x:ByteArray),L[i]?=some x→∀W,Below w.heap.size w W→Calls Tryz.prog 162 #[.agg #[.pointer (some ⟨b,0,none⟩),.int .i64 F,.int .i64 sz],.int .i64 ((A:Int)+(i:Int))] W fun e w'=>e=.returned (.tuple #[.string x,.int .i64 0])∧Below W.heap.size W w'):=Lib.hid (fun i x hx W hW=>by
    obtain⟨hi,hx2⟩:=hget i x hx;have h1:=bget_c B b st F sz ((A:Int)+(i:Int)) ((F+(A+i):Nat):Int) W (h.below hW) hg (by omega) (by omega);rw[ask_ok hgo (by omega),if_pos rfl,Int.toNat_natCast,hx2]at h1;exact h1)
  have hm:=run_new_strs K (by omega);have hAK:A+K≤4096:=by omega
  clear h hg hgo hK hf hL hget;go_enter Tryz.func182,Tryz.ntmps182;go_wp2;obtain⟨W0,hW0⟩:∃W0,w.alloc (.cells #[.pointer (some ⟨b,0,none⟩),.int .i64 F,.int .i64 sz] 218)=W0:=⟨_,rfl⟩;have HB0:Hid (Below w.heap.size w W0):=Lib.hid (by rw[←hW0];exact(Below.refl _ _).alloc (Nat.le_refl _) _);have HS0:Hid (W0.heap.size=w.heap.size+1):=Lib.hid (by rw[←hW0];simp);have HC0:Hid (W0.heap[w.heap.size]?=some (.cells #[.pointer (some ⟨b,0,none⟩),.int .i64 F,.int .i64 sz] 218 (0,0))):=Lib.hid (by rw[←hW0];exact heap_alloc_new _ _);have hgS:w.heap.size+1=W0.heap.size:=HS0.out.symm
  try rw[hW0]
  try rw[hgS]
  clear hW0 hm;go_loopw [16] (fun iv wr=>∃i:Nat,i≤K∧iv=.int .i64 i∧wr.heap[W0.heap.size]?=some (.cells (strRow (L.take i++List.replicate (K-i) ⟨#[]⟩)) 9 (0,0))∧Below W0.heap.size W0 wr) (fun iv _=>K-(intOf iv).toNat)
  case atStart=>exact⟨0,by omega,rfl,heap_alloc_new _ _,(Below.refl _ _).alloc (Nat.le_refl _) _⟩
  case round =>
    obtain⟨i,hi,rfl,hrow,hbel⟩:=hrel;have HR:=Lib.hid hrow;have HB:=Lib.hid hbel;have HBW:Hid (Below w.heap.size w wr):=Lib.hid (HB0.out.trans (hbel.mono (by rw[HS0.out];omega)));by_cases hiK:i<K
    · have hiz:(i:Int)<(K:Int):=by omega
      obtain⟨x,hx⟩:∃x,L[i]?=some x:=⟨_,List.getElem?_eq_getElem (by rw[HLL.out];exact hiK)⟩;have hbox:wr.heap[w.heap.size]?=some (.cells #[.pointer (some ⟨b,0,none⟩),.int .i64 F,.int .i64 sz] 218 (0,0)):=by
        rw[hbel.block _ (by rw[HS0.out];omega)];exact HC0.out
      have k0:wr.cell? ⟨w.heap.size,0,none⟩=some (.pointer (some ⟨b,0,none⟩)):=by rw[cell_of_row _ _ _ _ _ _ hbox];rfl
      have k1:wr.cell? ⟨w.heap.size,1,none⟩=some (.int .i64 F):=by rw[cell_of_row _ _ _ _ _ _ hbox];rfl
      have k2:wr.cell? ⟨w.heap.size,2,none⟩=some (.int .i64 sz):=by rw[cell_of_row _ _ _ _ _ _ hbox];rfl
      have hAi:IntKind.i64.wrap ((A:Int)+(i:Int))=(A:Int)+(i:Int):=by rw[IntKind.wrap_i64];omega
      have HX:=Lib.hid hx;clear hx hbox hbel hrow;go_wp2_with fail;refine(cG.out i x HX.out _ HBW.out).mono ?_;rintro e w2 ⟨rfl,hb2⟩;have hrow2:w2.heap[W0.heap.size]?=some (.cells (strRow (L.take i++List.replicate (K-i) ⟨#[]⟩)) 9 (0,0)):=by rw[hb2.block _ (lt_of_get HR.out)];exact HR.out
      have HR2:=Lib.hid hrow2;have HB2:Hid (Below W0.heap.size W0 w2):=Lib.hid (HB.out.trans (hb2.mono HB.out.size));have hfz:w2.frozen? ⟨W0.heap.size,i,none⟩=false:=frozen_of_row _ _ _ _ _ hrow2;obtain⟨y,hcy⟩:∃y,w2.cell? ⟨W0.heap.size,i,none⟩=some (.string y):=by
        rw[cell_of_row _ _ _ _ _ _ hrow2];obtain⟨y,hy⟩:∃y,(L.take i++List.replicate (K-i) (⟨#[]⟩:ByteArray))[i]?=some y:=⟨_,List.getElem?_eq_getElem (by rw[List.length_append,List.length_take,List.length_replicate,HLL.out];omega)⟩;exact⟨y,strRow_get hy⟩
      have HR3:Hid ((w2.setCell ⟨W0.heap.size,i,none⟩ (.string x)).heap[W0.heap.size]?=some (.cells (strRow (L.take (i+1)++List.replicate (K-(i+1)) ⟨#[]⟩)) 9 (0,0))):=Lib.hid (by
        rw[heap_setCell_same w2 _ i _ _ _ hrow2,strRow_set,set_fill HX.out hiK])
      have HB3:Hid (Below W0.heap.size W0 (w2.setCell ⟨W0.heap.size,i,none⟩ (.string x))):=Lib.hid (HB2.out.setCell (p:=⟨W0.heap.size,i,none⟩) (Nat.le_refl _) _);clear hb2 hrow2 k0 k1 k2;go_wp2;go_roundw
      case rel=>exact⟨i+1,by omega,by first|rfl|go_num,HR3.out,HB3.out⟩
      case measure=>simp[intOf];omega
    · have hiz:¬((i:Int)<(K:Int)):=by omega
      have HE:Hid (StrsIs wr (.slice (some ⟨W0.heap.size,0,none⟩) K K) L):=Lib.hid (Or.inr ⟨W0.heap.size,0,K,lt_of_get hrow,by rw[HLL.out],fun j s hj=>by
        rw[Nat.zero_add,cell_of_row _ _ _ _ _ _ hrow];refine strRow_get ?_;have hjl:=(List.getElem?_eq_some_iff.1 hj).1;have h9:=HLL.out;rw[List.take_of_length_le (by omega),List.getElem?_append_left hjl];exact hj⟩)
      clear hrow hbel;go_wp2;go_ret2;exact⟨_,rfl,HE.out,HBW.out⟩
end Go.Proofs.YtdmkhmeaphaapaaGreat.V
