/- Kit. -/
import Derived.Lib.MapLaws
import Derived.Test.YtdmkhmeaphaapaaGreatFQ1
import Derived.IntWalk
import Derived.Laws.Bits64
import Derived.WalkKit
import Derived.WalkSpells
import Derived.Handy
import Derived.ProofKit
import Derived.Lib.Hide
import Derived.Lib.Builder
import Derived.Lib.AppendStr
import Derived.Lib.UnsafeStr
import Derived.Laws.Externs
import Derived.Laws.NewBlocks
import Derived.Below
import Derived.Shelf.RegionOpenPlain
import Derived.KernelRfl
import Derived.StillTailTactics
import Derived.Test.YtdmkhmeaphaapaaGreatFShelf
set_option maxRecDepth 100000
namespace Go.Proofs.YtdmkhmeaphaapaaGreat
set_option linter.unusedVariables false
abbrev ptV (b:Nat):Value:=.pointer (some ⟨b,0,none⟩)
structure De where
  k:Int
  d:Int
  dt:Int
  s:ByteArray
  ns:ByteArray
  isD:Bool
  sh:Int
deriving DecidableEq,Inhabited
def deV (x:De):Value:=.agg #[.int .i64 x.k,.int .i64 x.d,.int .i64 x.dt,.string x.s,.string x.ns,.bool x.isD,.int .i64 x.sh]
def deC (x:De):List Value:=[.int .i64 x.k,.int .i64 x.d,.int .i64 x.dt,.string x.s,.string x.ns,.bool x.isD,.int .i64 x.sh]
def noDe:De:=⟨0,0,0,⟨#[]⟩,⟨#[]⟩,false,0⟩
def May (x:De):Prop:=(x.k=1∨x.k=2∨x.k=3)∧(x.k=3∨(x.dt=0∧x.ns=⟨#[]⟩))∧(x.k=3→x.isD=false)∧(x.k=2→x.sh=0) ∧
  (0≤x.d∧x.d<65536)∧(0≤x.dt∧x.dt<65536)∧x.s.size<256∧x.ns.size<256∧(0≤x.sh∧x.sh≤1000000)
instance (x:De):Decidable (May x):=inferInstanceAs (Decidable (_∧_))
def beB (n:Nat):Nat→List UInt8
  | 0=>[]
  | k+1=>UInt8.ofNat (n/256^k)::beB n k
theorem beB_len (n:Nat):∀k,(beB n k).length=k
  | 0=>rfl
  | k+1=>by simp[beB,beB_len n k]
def nameB (s:ByteArray):List UInt8:=beB s.size 1++s.data.toList
theorem nameB_len (s:ByteArray):(nameB s).length=s.size+1:=by
  unfold nameB;rw[List.length_append,beB_len,Array.length_toList];show 1+s.size=_
  omega
def boolN (t:Bool):Nat:=if t=true then 1 else 0
def dirB (x:De):List UInt8:=if x.k=3 then [] else beB (boolN x.isD) 1
def toB (x:De):List UInt8:=if x.k=3 then beB x.dt.toNat 2++nameB x.ns else []
def shB (x:De):List UInt8:=if x.k=2 then [] else beB x.sh.toNat 4
def bytesL (x:De):List UInt8:=beB x.k.toNat 1++(beB x.d.toNat 2++(nameB x.s++(dirB x++(toB x++shB x))))
def rdN (k:Nat)(l:List UInt8):Nat:=(l.take k).foldl (fun n b=>n*256+b.toNat) 0
def nmL (l:List UInt8):ByteArray:=⟨((l.drop 1).take (rdN 1 l)).toArray⟩
def nmR (l:List UInt8):List UInt8:=(l.drop 1).drop (rdN 1 l)
def decL (l:List UInt8):De:=
  let k:=rdN 1 l
  let d:=rdN 2 (l.drop 1)
  let s:=nmL ((l.drop 1).drop 2)
  let r:=nmR ((l.drop 1).drop 2)
  if k=1 then⟨k,d,0,s,⟨#[]⟩,decide (rdN 1 r=1),rdN 4 (r.drop 1)⟩
  else if k=2 then⟨k,d,0,s,⟨#[]⟩,decide (rdN 1 r=1),0⟩
  else if k=3 then⟨k,d,rdN 2 r,s,nmL (r.drop 2),false,rdN 4 (nmR (r.drop 2))⟩
  else⟨k,d,0,s,⟨#[]⟩,false,0⟩
theorem u8_of (n:Nat):(UInt8.ofNat n).toNat=n%256:=by simp
theorem beB_drop (n k:Nat)(r:List UInt8):(beB n k++r).drop k=r:=by
  have:=List.drop_left (l₁:=beB n k) (l₂:=r);rwa[beB_len]at this
theorem beB_take (n k:Nat)(r:List UInt8):(beB n k++r).take k=beB n k:=by
  have:=List.take_left (l₁:=beB n k) (l₂:=r);rwa[beB_len]at this
theorem rd1 (n:Nat)(h:n<256)(r:List UInt8):rdN 1 (beB n 1++r)=n:=by
  unfold rdN;rw[beB_take];simp[beB];omega
theorem rd2 (n:Nat)(h:n<65536)(r:List UInt8):rdN 2 (beB n 2++r)=n:=by
  unfold rdN;rw[beB_take];simp[beB];omega
theorem rd4 (n:Nat)(h:n<4294967296)(r:List UInt8):rdN 4 (beB n 4++r)=n:=by
  unfold rdN;rw[beB_take];simp[beB];omega
theorem nm_l (s:ByteArray)(h:s.size<256)(r:List UInt8):nmL (nameB s++r)=s:=by
  unfold nmL nameB;rw[List.append_assoc,rd1 _ h,beB_drop,List.take_left' (by rw[Array.length_toList];rfl)]
theorem nm_r (s:ByteArray)(h:s.size<256)(r:List UInt8):nmR (nameB s++r)=r:=by
  unfold nmR nameB;rw[List.append_assoc,rd1 _ h,beB_drop,List.drop_left' (by rw[Array.length_toList];rfl)]
theorem decL_bytes (x:De)(h:May x)(r:List UInt8):decL (bytesL x++r)=x:=by
  obtain⟨k,d,dt,s,ns,isD,sh⟩:=x;obtain⟨h1,h2,h3,h4,h5,h6,h7,h8,h9⟩:=h;simp only at h1 h2 h3 h4 h5 h6 h7 h8 h9;obtain⟨d,rfl⟩:∃n:Nat,d=n:=⟨d.toNat,by omega⟩;obtain⟨dt,rfl⟩:∃n:Nat,dt=n:=⟨dt.toNat,by omega⟩;obtain⟨sh,rfl⟩:∃n:Nat,sh=n:=⟨sh.toNat,by omega⟩;unfold bytesL decL;simp only[List.append_assoc,Int.toNat_natCast];have hk:∃q:Nat,k=q∧(q=1∨q=2∨q=3):=⟨k.toNat,by omega,by omega⟩;obtain⟨q,rfl,hq⟩:=hk;rw[Int.toNat_natCast,rd1 q (by omega),beB_drop,rd2 d (by omega),beB_drop,nm_l s h7,nm_r s h7];unfold dirB toB shB;simp only[Int.toNat_natCast];rcases hq with rfl|rfl|rfl
  · obtain⟨e1,e2⟩:=h2.resolve_left (by decide);have e1':dt=0:=by omega
    subst e1' e2;simp only[reduceIte,List.nil_append,show ¬((1:Nat):Int)=3 by decide,show ¬((1:Nat):Int)=2 by decide];rw[rd1 _ (by unfold boolN;split<;>omega),beB_drop,rd4 sh (by omega)];cases isD<;>simp[boolN]
  · obtain⟨e1,e2⟩:=h2.resolve_left (by decide);have e1':dt=0:=by omega
    have e3:sh=0:=by have:=h4 rfl;omega
    subst e1' e2 e3;simp only[reduceIte,List.nil_append,show((2:Nat):Int)=2 from rfl,show ¬(2:Int)=3 by decide,show ¬(2:Nat)=1 by decide];rw[rd1 _ (by unfold boolN;split<;>omega)];cases isD<;>simp[boolN]
  · obtain rfl:isD=false:=h3 rfl;simp only[reduceIte,List.nil_append,List.append_assoc,show ¬(3:Nat)=1 by decide,show ¬(3:Nat)=2 by decide,show((3:Nat):Int)=3 from rfl,show ¬(3:Int)=2 by decide];rw[rd2 dt (by omega),beB_drop,nm_l ns h8,nm_r ns h8,rd4 sh (by omega)]
theorem bytes_first {a b:De}(ha:May a)(hb:May b){r:List UInt8}(h:bytesL b=bytesL a++r):a=b:=by
  have h1:=decL_bytes a ha r;have h2:=decL_bytes b hb [];rw[List.append_nil,h]at h2;rw[←h1,h2]
theorem bytesL_len (x:De)(h:May x):(bytesL x).length≤600:=by
  obtain⟨_,_,_,_,_,_,h7,h8,_⟩:=h;have e1:(nameB x.s).length≤256:=by rw[nameB_len];omega
  have e2:(nameB x.ns).length≤256:=by rw[nameB_len];omega
  have e3:(dirB x).length≤1:=by unfold dirB;split<;>simp[beB_len]
  have e4:(toB x).length≤258:=by unfold toB;split<;>simp[beB_len]<;>omega
  have e5:(shB x).length≤4:=by unfold shB;split<;>simp[beB_len]
  unfold bytesL;simp only[List.length_append,beB_len];omega
end Go.Proofs.YtdmkhmeaphaapaaGreat
namespace Go.Proofs.YtdmkhmeaphaapaaGreat
open Go.RowKit Go.Sort
set_option linter.unusedVariables false
def foldB (n:Nat)(l:List UInt8):Nat:=l.foldl (fun n b=>n*256+b.toNat) n
theorem foldB_lt (l:List UInt8):∀n m,n<256^m→foldB n l<256^(m+l.length):=by
  unfold foldB
  induction l with
  | nil=>intro n m h;exact h
  | cons x r ih =>
    intro n m h;rw[List.foldl_cons,List.length_cons,show m+(r.length+1)=(m+1)+r.length by omega];apply ih;have:=UInt8.toNat_lt x;rw[Nat.pow_succ];omega
theorem rdN_lt (k:Nat)(l:List UInt8):rdN k l<256^k:=by
  have h1:rdN k l<256^(0+(l.take k).length):=foldB_lt (l.take k) 0 0 (by decide);have h2:(l.take k).length≤k:=by rw[List.length_take];omega
  exact Nat.lt_of_lt_of_le h1 (Nat.pow_le_pow_right (by decide) (by omega))
theorem or_byte (a c:Nat)(hc:c<256):a*256 ||| c=a*256+c:=by
  have:=Nat.two_pow_add_eq_or_of_lt (i:=8) (b:=c) (by omega) a;rw[Nat.mul_comm a 256];exact this.symm
theorem bits_or_byte (a c:Nat)(ha:a<72057594037927936)(hc:c<256):bits .or .i64 (wrap64 ((a:Int)*256)) (c:Int)=wrap64 ((a*256+c:Nat):Int):=by
  have hw:∀z:Int,BitVec.ofInt 64 (wrap64 z)=BitVec.ofInt 64 z:=fun z=>by
    apply BitVec.eq_of_toInt_eq;rw[BitVec.toInt_ofInt,BitVec.toInt_ofInt];unfold wrap64;simp only[Int.bmod_def];omega
  have h1:(BitVec.ofInt 64 (wrap64 ((a:Int)*256))).toNat=a*256:=by
    rw[hw,show((a:Int)*256)=((a*256:Nat):Int) by omega,BitVec.ofInt_natCast,BitVec.toNat_ofNat];exact Nat.mod_eq_of_lt (by omega)
  have h2:(BitVec.ofInt 64 (c:Int)).toNat=c:=by
    rw[BitVec.ofInt_natCast,BitVec.toNat_ofNat];exact Nat.mod_eq_of_lt (by omega)
  show IntKind.i64.wrap ((BitVec.ofInt 64 (wrap64 ((a:Int)*256)) ||| BitVec.ofInt 64 (c:Int)).toNat:Int)=_
  rw[BitVec.toNat_or,h1,h2,or_byte a c hc,IntWalk.i64_left]
def valI (k:Nat)(l:List UInt8):Int:=wrap64 (rdN k l:Int)
theorem valI_small (k:Nat)(l:List UInt8)(hk:k≤7):valI k l=(rdN k l:Int):=by
  have h1:=rdN_lt k l;have h2:256^k≤256^7:=Nat.pow_le_pow_right (by decide) hk;exact IntWalk.wrap64_in _ (by omega)
def nmP (l:List UInt8):Bool:=decide (l.length<1)||decide ((l.drop 1).length<rdN 1 l)
end Go.Proofs.YtdmkhmeaphaapaaGreat
namespace Go.Proofs.YtdmkhmeaphaapaaGreat
open Go.RowKit
set_option linter.unusedVariables false
theorem sizeBuilder:(Tryz.prog.info? 146).map (·.size)=some 2:=by kernel_rfl
theorem infoByteBu:(Tryz.prog.info? 5).map (fun i=>(i.zero,i.size,i.bytes))=some (some (.int .u8 0),1,1):=by kernel_rfl
theorem cellsByte:Tryz.prog.cellsOf 5=1:=by kernel_rfl
def Bld (T:TypeId)(R:List Value)(B b:Nat)(p:Value)(bs:List Value)(w:World):Prop:=
  B≤b∧∃v,w.heap[b]?=some (.cells ⟨p::v::R⟩ T (0,0))∧w.ownsRow B 5 1 v bs.length bs∧v.ownBlock≠some b
def IsBld (T:TypeId)(R:List Value)(B b:Nat)(bs:List Value)(w:World):Prop:=
  Bld T R B b (.pointer none) bs w∨Bld T R B b (.pointer (some ⟨b,0,none⟩)) bs w
structure HasBld (T:TypeId)(n:Nat):Prop where
  ne8:T≠5
  lies:liesAt Tryz.prog Tryz.prog.depth T ((n+2)/Tryz.prog.cellsOf T) 0 146 1=true
def KeptT (T0:TypeId)(w w':World):Prop:=∀(k:Nat) (cs:Array Value) (fr:Nat×Nat),w.heap[k]?=some (.cells cs T0 fr)→w'.heap[k]?=some (.cells cs T0 fr)
theorem KeptT.refl {T0:TypeId}(w:World):KeptT T0 w w:=fun _ _ _ h=>h
theorem KeptT.trans {T0:TypeId}{a b c:World}(h:KeptT T0 a b)(h':KeptT T0 b c):KeptT T0 a c:=fun k cs fr hk=>h' k cs fr (h k cs fr hk)
theorem KeptT.set {T0:TypeId}{w:World}{b j:Nat}{cs:Array Value}{T:TypeId}{fr:Nat×Nat}(hb:w.heap[b]?=some (.cells cs T fr))(hT:T0≠T)(x:Value):KeptT T0 w (w.setCell ⟨b,j,none⟩ x):=fun k cs' fr' hk=>by
  by_cases e:k=b
  · subst e;rw[hb]at hk;simp only[Option.some.injEq,Obj.cells.injEq]at hk;exact absurd hk.2.1.symm hT
  · rw[show(w.setCell ⟨b,j,none⟩ x).heap[k]?=w.heap[k]? from Below.heap_setCell _ _ _ _ (fun h=>e h)];exact hk
theorem KeptT.alloc {T0:TypeId}{w:World}(o:Obj):KeptT T0 w (w.alloc o):=fun k cs fr hk=>by
  rw[Lib.alloc_old w o k (lt_of_get hk)];exact hk
theorem KeptT.below {T0:TypeId}{w w':World}(h:Below w.heap.size w w'):KeptT T0 w w':=fun k cs fr hk=>by rw[h.block k (lt_of_get hk)];exact hk
theorem KeptT.grown {T0:TypeId}{w w':World}{v:Value}{B n:Nat}{xs:List Value}(h:w.grownBy w' v.ownBlock)(hown:w.ownsRow B 5 1 v n xs)(h8:T0≠5):KeptT T0 w w':=fun k cs fr hk=>by
  rw[h.block k (lt_of_get hk) (fun e=>Lib.ownBlock_ne hown hk h8 e.symm)];exact hk
theorem KeptT.cell {T0:TypeId}{w w':World}(h:KeptT T0 w w'){k j:Nat}{cs:Array Value}{fr:Nat×Nat}(hk:w.heap[k]?=some (.cells cs T0 fr)):w'.cell? ⟨k,j,none⟩=cs[j]?:=Lib.cell_of_heap (h k cs fr hk) j
def FrB (T:TypeId)(w w':World):Prop:=∀T0:TypeId,T0≠5→T0≠T→KeptT T0 w w'
theorem Bld.cell0 {T:TypeId}{R:List Value}{B b:Nat}{p:Value}{bs:List Value}{w:World}(h:Bld T R B b p bs w):w.cell? ⟨b,0,none⟩=some p:=by
  obtain⟨_,v,hb,_⟩:=h;rw[Lib.cell_of_heap hb];rfl
theorem Bld.shape {T:TypeId}{R:List Value}{B b:Nat}{p:Value}{bs:List Value}{w:World}(h:Bld T R B b p bs w):w.shape? b=some (T,R.length+2):=by
  obtain⟨_,v,hb,_⟩:=h;simp[World.shape?,hb]
theorem Bld.lt {T:TypeId}{R:List Value}{B b:Nat}{p:Value}{bs:List Value}{w:World}(h:Bld T R B b p bs w):b<w.heap.size:=by
  obtain⟨_,v,hb,_⟩:=h;exact lt_of_get hb
theorem Bld.frozen0 {T:TypeId}{R:List Value}{B b:Nat}{p:Value}{bs:List Value}{w:World}(h:Bld T R B b p bs w):w.frozen? ⟨b,0,none⟩=false:=by
  obtain⟨_,v,hb,_⟩:=h;exact Lib.frozen_of_heap hb 0
theorem Bld.used {T:TypeId}{R:List Value}{B b:Nat}{p:Value}{bs:List Value}{w:World}(h:Bld T R B b p bs w)(q:Value):Bld T R B b q bs (w.setCell ⟨b,0,none⟩ q):=by
  have hlt:=h.lt;obtain⟨hB,v,hb,hown,hne⟩:=h;refine⟨hB,v,?_,?_,hne⟩
  · simp[World.setCell,Array.getElem?_modify,hb]
  · refine hown.kept (row:=some b) ⟨rfl,rfl,rfl,by simp[World.setCell],fun k _ hk=>Below.heap_setCell _ _ _ _ (fun e=>hk (by simp[e]))⟩ ?_;exact Or.inr hne
theorem Bld.put {T:TypeId}{R:List Value}{B b:Nat}{p v v':Value}{bs':List Value}{w:World}(hB:B≤b)(hb:w.heap[b]?=some (.cells ⟨p::v::R⟩ T (0,0)))(hown:w.ownsRow B 5 1 v' bs'.length bs')(hT:T≠5) :
    Bld T R B b p bs' (w.setCell ⟨b,1,none⟩ v'):=by
  have hne:=Lib.ownBlock_ne hown hb hT;refine⟨hB,v',?_,?_,hne⟩
  · simp[World.setCell,Array.getElem?_modify,hb]
  · exact hown.kept (row:=some b) ⟨rfl,rfl,rfl,by simp[World.setCell],fun k _ hk=>Below.heap_setCell _ _ _ _ (fun e=>hk (by simp[e]))⟩ (Or.inr hne)
set_option maxHeartbeats 1000000 in
theorem copyCheck_used (b:Nat)(w:World)(h0:w.cell? ⟨b,0,none⟩=some (.pointer (some ⟨b,0,none⟩))) :
    Calls Tryz.prog 156 #[.pointer (some ⟨b,0,none⟩)] w fun e w'=>e=.returned (.tuple #[])∧w'=w:=by
  obtain⟨j,hj,_⟩:=Option.map_eq_some_iff.1 sizeBuilder;go_enter Tryz.func156,Tryz.ntmps156;go_wp2;rw[Lib.run_neq_ptr_same w _ Tryz.underlying144 hj];go_wp2;go_end0;exact⟨rfl,rfl⟩
set_option maxHeartbeats 1000000 in
theorem copyCheck_fresh (T:TypeId)(n:Nat)(b:Nat)(w:World)(h0:w.cell? ⟨b,0,none⟩=some (.pointer none))(hsh:w.shape? b=some (T,n+2))(hl:liesAt Tryz.prog Tryz.prog.depth T ((n+2)/Tryz.prog.cellsOf T) 0 146 1=true)(hfz:w.frozen? ⟨b,0,none⟩=false) :
    Calls Tryz.prog 156 #[.pointer (some ⟨b,0,none⟩)] w fun e w'=>e=.returned (.tuple #[])∧w'=w.setCell ⟨b,0,none⟩ (.pointer (some ⟨b,0,none⟩)):=by
  obtain⟨j,hj,hjs⟩:=Option.map_eq_some_iff.1 sizeBuilder;go_enter Tryz.func156,Tryz.ntmps156;go_wp2;rw[Lib.run_to_unsafe w ⟨b,0,none⟩ Tryz.underlying144 Tryz.underlying256 hj (by rw[hjs];decide) hsh (Nat.zero_lt_succ _)];simp only[Result.andThen];rw[Oper.upon_value];go_wp2;rw[run_callFunc_extern Tryz.func180 (by kernel_rfl) (by kernel_rfl) (by kernel_rfl) (e:=Extern.AbiNoEscape.same) (by kernel_rfl)];rw[Lib.run_noEscape];simp only[Result.andThen];rw[Oper.upon_value];go_wp2;rw[Lib.run_from_unsafe w ⟨b,0,none⟩ Tryz.underlying256 Tryz.underlying144 hj hsh hl];simp only[Result.andThen];rw[Oper.upon_value];go_wp2;go_end0;exact⟨rfl,rfl⟩
theorem copyCheck_c {T:TypeId}{R:List Value}(hT:HasBld T R.length)(B b:Nat)(bs:List Value)(w:World)(h:IsBld T R B b bs w) :
    Calls Tryz.prog 156 #[.pointer (some ⟨b,0,none⟩)] w fun e w'=>e=.returned (.tuple #[])∧(Bld T R B b (.pointer (some ⟨b,0,none⟩)) bs w'∧Below B w w'∧FrB T w w'):=by
  rcases h with h|h
  · refine(copyCheck_fresh T R.length b w h.cell0 h.shape hT.lies h.frozen0).mono ?_;rintro e w' ⟨rfl,rfl⟩;refine⟨rfl,h.used _,(Below.refl B w).setCell (p:=⟨b,0,none⟩) h.1 _,?_⟩;obtain⟨_,v,hb,_⟩:=h;exact fun T0 h8 hT0=>KeptT.set hb hT0 _
  · refine(copyCheck_used b w h.cell0).mono ?_;rintro e w' ⟨rfl,rfl⟩;exact⟨rfl,h,Below.refl B _,fun T0 h8 hT0=>KeptT.refl _⟩
set_option maxHeartbeats 2000000 in
theorem wstr_c {T:TypeId}{R:List Value}(hT:HasBld T R.length)(B b:Nat)(bs:List Value)(s:ByteArray)(w:World)(h:IsBld T R B b bs w)(hlen:bs.length+s.size≤140737488355328)(hBw:B≤w.heap.size) :
    Calls Tryz.prog 118 #[.pointer (some ⟨b,0,none⟩),.string s] w fun e w'=>e=.returned (.tuple #[.int .i64 s.size,.nilIface])∧(Bld T R B b (.pointer (some ⟨b,0,none⟩)) (bs++Lib.strCells s) w'∧Below B w w'∧FrB T w w'):=by
  obtain⟨i0,hi,hz0,hz1,hz2⟩:=info_parts infoByteBu;have HT:=Lib.hid hT;clear hT;go_enter Tryz.func118,Tryz.ntmps118;go_wp2_with (go_at_call 156;refine(copyCheck_c HT.out B b bs _ h).mono ?_);rintro e w1 ⟨rfl,h1,hb1,hk1⟩;obtain⟨hB,v,hbk,hown,hne⟩:=h1;have c0:w1.cell? ⟨b,0,none⟩=some (.pointer (some ⟨b,0,none⟩)):=by rw[Lib.cell_of_heap hbk];rfl
  have c1:w1.cell? ⟨b,1,none⟩=some v:=by rw[Lib.cell_of_heap hbk];rfl
  go_wp2_with (at_builtin;refine Lib.wpList_append_own_string _ rfl _ _ 121 9 rfl B 5 i0 Tryz.underlying121 Tryz.underlying9 hi hz0 hz1 hz2 _ _ _ rfl hown s rfl ?c3 ?c4 ?c5 ?_)
  case c3=>unfold maxLen;omega
  case c4=>omega
  case c5=>have:=hb1.size;omega
  intro v' w2 hown' hgrow _;have hlt:b<w1.heap.size:=lt_of_get hbk;have hb2:w2.heap[b]?=some (.cells ⟨.pointer (some ⟨b,0,none⟩)::v::R⟩ T (0,0)):=by
    rw[hgrow.block b hlt (fun e=>hne e.symm)];exact hbk
  have d0:w2.cell? ⟨b,0,none⟩=some (.pointer (some ⟨b,0,none⟩)):=by rw[Lib.cell_of_heap hb2];rfl
  have d1:w2.cell? ⟨b,1,none⟩=some v:=by rw[Lib.cell_of_heap hb2];rfl
  have f1:w2.frozen? ⟨b,1,none⟩=false:=Lib.frozen_of_heap hb2 1;obtain⟨ao,n',cap,rfl⟩:∃ao n' cap,v'=.slice ao n' cap:=by
    rcases hown'.2 with⟨hv,_⟩|⟨g,cap,cur,hv,_⟩
    · exact⟨_,_,_,hv⟩
    · exact⟨_,_,_,hv⟩
  go_wp2;go_ret2;refine⟨rfl,?_,?_,?_⟩
  · exact Bld.put hB hb2 (bs':=bs++Lib.strCells s) (by simpa[Lib.strCells_length]using hown') HT.out.ne8
  · exact(hb1.grown hgrow (by have:=hb1.size;omega) (fun k hk=>(hown.lt k hk).1)).setCell (p:=⟨b,1,none⟩) hB _
  · exact fun T0 h8 hT0=>((hk1 T0 h8 hT0).trans (KeptT.grown hgrow hown h8)).trans (KeptT.set hb2 hT0 _)
set_option maxHeartbeats 2000000 in
theorem wbyte_c {T:TypeId}{R:List Value}(hT:HasBld T R.length)(B b:Nat)(bs:List Value)(c:Int)(w:World)(h:IsBld T R B b bs w)(hlen:bs.length+1≤140737488355328)(hBw:B≤w.heap.size) :
    Calls Tryz.prog 117 #[.pointer (some ⟨b,0,none⟩),.int .u8 c] w fun e w'=>e=.returned .nilIface∧(Bld T R B b (.pointer (some ⟨b,0,none⟩)) (bs++[.int .u8 c]) w'∧Below B w w'∧FrB T w w'):=by
  obtain⟨i0,hi,hz0,hz1,hz2⟩:=info_parts infoByteBu;have HT:=Lib.hid hT;clear hT;go_enter Tryz.func117,Tryz.ntmps117;go_wp2_with (go_at_call 156;refine(copyCheck_c HT.out B b bs _ h).mono ?_);rintro e w1 ⟨rfl,h1,hb1,hk1⟩;obtain⟨hB,v,hbk,hown,hne⟩:=h1;have c0:w1.cell? ⟨b,0,none⟩=some (.pointer (some ⟨b,0,none⟩)):=by rw[Lib.cell_of_heap hbk];rfl
  have c1:w1.cell? ⟨b,1,none⟩=some v:=by rw[Lib.cell_of_heap hbk];rfl
  go_wp2_with (at_builtin;refine wpList_append_own _ rfl _ _ 121 rfl B 5 i0 (.int .u8 0) 1 1 Tryz.underlying121 hi hz0 hz1 hz2 rfl (by decide) _ _ _ rfl (hown.alloc _) ⟨w1.heap.size,0,none⟩ 1 1 [.int .u8 c] rfl rfl ?c1 ?c2 ?c3 ?c4 ?c5 ?_)
  case c1 =>
    intro j u hj
    match j,hj with
    | 0,hj=>simp at hj;subst hj;simp[Addr.add]
  case c2=>intro u hu;simp at hu;subst hu;rfl
  case c3=>unfold maxLen;omega
  case c4=>omega
  case c5=>have:=hb1.size;simp;omega
  intro v' w2 hown' hgrow _;have hlt:b<w1.heap.size:=lt_of_get hbk;have hb2:w2.heap[b]?=some (.cells ⟨.pointer (some ⟨b,0,none⟩)::v::R⟩ T (0,0)):=by
    rw[hgrow.block b (by simp;omega) (fun e=>hne e.symm),Lib.alloc_old w1 _ b hlt];exact hbk
  have d0:w2.cell? ⟨b,0,none⟩=some (.pointer (some ⟨b,0,none⟩)):=by rw[Lib.cell_of_heap hb2];rfl
  have d1:w2.cell? ⟨b,1,none⟩=some v:=by rw[Lib.cell_of_heap hb2];rfl
  have f1:w2.frozen? ⟨b,1,none⟩=false:=Lib.frozen_of_heap hb2 1;obtain⟨g,cap,rfl⟩:∃g cap,v'=.slice (some ⟨g,0,none⟩) (bs.length+1) cap:=by
    rcases hown'.2 with⟨_,h0⟩|⟨g,cap,cur,hv,_⟩
    · omega
    · exact⟨g,cap,hv⟩
  go_wp2;go_ret;refine⟨rfl,?_,?_,?_⟩
  · exact Bld.put hB hb2 (bs':=bs++[.int .u8 c]) (by simpa using hown') HT.out.ne8
  · exact((hb1.alloc (by have:=hb1.size;omega) _).grown hgrow (by have:=hb1.size;simp;omega) (fun k hk=>(hown.lt k hk).1)).setCell (p:=⟨b,1,none⟩) hB _
  · exact fun T0 h8 hT0=>(((hk1 T0 h8 hT0).trans (KeptT.alloc _)).trans (KeptT.grown hgrow (hown.alloc _) h8)).trans (KeptT.set hb2 hT0 _)
theorem unsafeString_none (W:World)(q:Option Addr):(Builtin.unsafeString_ #[223,3] 9 #[.pointer q,.int .i64 0]).run Tryz.prog W=.ok (.string .empty) W:=
  Lib.run_unsafeString_none W _ _ _ q
set_option maxHeartbeats 2000000 in
theorem str_some {T:TypeId}{R:List Value}(B b:Nat)(l:List UInt8)(w:World)(h:IsBld T R B b (Lib.byteCells l) w)(h0:l≠[]) :
    Calls Tryz.prog 119 #[.pointer (some ⟨b,0,none⟩)] w fun e w'=>e=.returned (.string ⟨l.toArray⟩)∧Below B w w':=by
  obtain⟨p,hB,v,hbk,hown,hne⟩:∃p,Bld T R B b p (Lib.byteCells l) w:=by
    rcases h with h|h
    · exact⟨_,h⟩
    · exact⟨_,h⟩
  have hl0:l.length≠0:=by simpa using h0
  rw[Lib.byteCells_length]at hown;obtain⟨g,cap,cur,rfl,hbg,hg,hnc,hcm,hcs,htake⟩:∃g cap cur,v=.slice (some ⟨g,0,none⟩) l.length cap∧B≤g∧w.heap[g]?=some (.cells cur 5 (0,0))∧l.length≤cap∧cap≤maxLen∧cur.size=cap*1∧cur.toList.take (l.length*1)=Lib.byteCells l:=by
    rcases hown.2 with⟨_,hz⟩|⟨g,cap,cur,hv,r⟩
    · exact absurd hz hl0
    · exact⟨g,cap,cur,hv,r⟩
  have c1:w.drew.cell? ⟨b,1,none⟩=some (.slice (some ⟨g,0,none⟩) l.length cap):=by
    have:w.drew.heap[b]?=some (.cells ⟨p::.slice (some ⟨g,0,none⟩) l.length cap::R⟩ T (0,0)):=hbk;rw[Lib.cell_of_heap this];rfl
  have hSD:(Builtin.unsafeSliceData_ #[121] 223 #[.slice (some ⟨g,0,none⟩) l.length cap]).run Tryz.prog w.drew=.ok (.pointer (some ⟨g,0,none⟩)) w.drew:=
    Lib.run_unsafeSliceData_row _ _ _ _ _ _ (by omega)
  have hUS:(Builtin.unsafeString_ #[223,3] 9 #[.pointer (some ⟨g,0,none⟩),.int .i64 l.length]).run Tryz.prog w.drew=.ok (.string ⟨l.toArray⟩) (w.drew.freeze ⟨g,0,none⟩ l.length):=by
    refine Lib.run_unsafeString_row w.drew 223 3 9 5 Tryz.underlying223 cellsByte g cur.size (by have hg':w.drew.heap[g]?=some (.cells cur 5 (0,0)):=hg;simp[World.shape?,hg']) l h0 (by omega) (by unfold maxLen at hcm;omega) ?_;intro j x hx;have:=hown.cells (g:=g) rfl j (.int .u8 x.toNat) (by simp[Lib.byteCells,hx]);exact this
  have mixed:Tryz.prog.follows .mixedOrders=true:=by kernel_rfl
  go_enter Tryz.func119,Tryz.ntmps119;go_wp2;go_region_o
  all_goals (go_wp2;go_ret;exact⟨rfl,Lib.below_freeze (Below.drew (Below.refl B w)) (p:=⟨g,0,none⟩) hbg _⟩)
set_option maxHeartbeats 2000000 in
theorem str_nil {T:TypeId}{R:List Value}(B b:Nat)(p:Value)(w:World)(hbk:w.heap[b]?=some (.cells ⟨p::.slice none 0 0::R⟩ T (0,0))) :
    Calls Tryz.prog 119 #[.pointer (some ⟨b,0,none⟩)] w fun e w'=>e=.returned (.string ⟨#[]⟩)∧Below B w w':=by
  have hUS:=unsafeString_none;have c1:w.drew.cell? ⟨b,1,none⟩=some (.slice none 0 0):=by
    have:w.drew.heap[b]?=some (.cells ⟨p::.slice none 0 0::R⟩ T (0,0)):=hbk;rw[Lib.cell_of_heap this];rfl
  have hSD:(Builtin.unsafeSliceData_ #[121] 223 #[.slice none 0 0]).run Tryz.prog w.drew=.ok (.pointer none) w.drew:=rfl;have mixed:Tryz.prog.follows .mixedOrders=true:=by kernel_rfl
  go_enter Tryz.func119,Tryz.ntmps119;go_wp2;go_region_o
  all_goals (go_wp2;go_ret;exact⟨rfl,Below.drew (Below.refl B w)⟩)
set_option maxHeartbeats 2000000 in
theorem str_noroom {T:TypeId}{R:List Value}(B b g:Nat)(p:Value)(cur:Array Value)(w:World)(hBw:B≤w.heap.size)(hbk:w.heap[b]?=some (.cells ⟨p::.slice (some ⟨g,0,none⟩) 0 0::R⟩ T (0,0)))(hg:w.heap[g]?=some (.cells cur 5 (0,0))) :
    Calls Tryz.prog 119 #[.pointer (some ⟨b,0,none⟩)] w fun e w'=>e=.returned (.string ⟨#[]⟩)∧Below B w w':=by
  have hUS:=unsafeString_none;have hlt:b<w.heap.size:=lt_of_get hbk;have c1:w.drew.cell? ⟨b,1,none⟩=some (.slice (some ⟨g,0,none⟩) 0 0):=by
    have:w.drew.heap[b]?=some (.cells ⟨p::.slice (some ⟨g,0,none⟩) 0 0::R⟩ T (0,0)):=hbk;rw[Lib.cell_of_heap this];rfl
  have hSD:(Builtin.unsafeSliceData_ #[121] 223 #[.slice (some ⟨g,0,none⟩) 0 0]).run Tryz.prog w.drew=.ok (.pointer (some ⟨w.drew.heap.size,0,none⟩)) (w.drew.alloc (.view ⟨g,0,none⟩ 5)):=
    Lib.run_unsafeSliceData_zero w.drew _ _ 5 Tryz.underlying223 ⟨g,0,none⟩ 0 (5,cur.size) (by have hg':w.drew.heap[g]?=some (.cells cur 5 (0,0)):=hg;simp[World.shape?,hg'])
  have c2:(w.drew.alloc (.view ⟨g,0,none⟩ 5)).cell? ⟨b,1,none⟩=some (.slice (some ⟨g,0,none⟩) 0 0):=by
    have:(w.drew.alloc (.view ⟨g,0,none⟩ 5)).heap[b]?=_:=(Lib.alloc_old w.drew _ b hlt).trans hbk;rw[Lib.cell_of_heap this];rfl
  have c3:(w.alloc (.view ⟨g,0,none⟩ 5)).drew.cell? ⟨b,1,none⟩=some (.slice (some ⟨g,0,none⟩) 0 0):=c2;have c0:w.cell? ⟨b,1,none⟩=some (.slice (some ⟨g,0,none⟩) 0 0):=c1;have mixed:Tryz.prog.follows .mixedOrders=true:=by kernel_rfl
  go_enter Tryz.func119,Tryz.ntmps119;go_wp2;go_region_o
  all_goals (go_wp2;go_ret;exact⟨rfl,(Below.drew (Below.refl B w)).alloc hBw _⟩)
set_option maxHeartbeats 2000000 in
theorem str_room {T:TypeId}{R:List Value}(B b g cap:Nat)(p:Value)(w:World)(hc0:cap≠0)(hbk:w.heap[b]?=some (.cells ⟨p::.slice (some ⟨g,0,none⟩) 0 cap::R⟩ T (0,0))) :
    Calls Tryz.prog 119 #[.pointer (some ⟨b,0,none⟩)] w fun e w'=>e=.returned (.string ⟨#[]⟩)∧Below B w w':=by
  have hUS:=unsafeString_none;have c1:w.drew.cell? ⟨b,1,none⟩=some (.slice (some ⟨g,0,none⟩) 0 cap):=by
    have:w.drew.heap[b]?=some (.cells ⟨p::.slice (some ⟨g,0,none⟩) 0 cap::R⟩ T (0,0)):=hbk;rw[Lib.cell_of_heap this];rfl
  have hSD:(Builtin.unsafeSliceData_ #[121] 223 #[.slice (some ⟨g,0,none⟩) 0 cap]).run Tryz.prog w.drew=.ok (.pointer (some ⟨g,0,none⟩)) w.drew:=
    Lib.run_unsafeSliceData_row _ _ _ _ _ _ hc0
  clear hc0;have mixed:Tryz.prog.follows .mixedOrders=true:=by kernel_rfl
  go_enter Tryz.func119,Tryz.ntmps119;go_wp2;go_region_o
  all_goals (go_wp2;go_ret;exact⟨rfl,Below.drew (Below.refl B w)⟩)
theorem str_c {T:TypeId}{R:List Value}(B b:Nat)(l:List UInt8)(w:World)(h:IsBld T R B b (Lib.byteCells l) w)(hBw:B≤w.heap.size) :
    Calls Tryz.prog 119 #[.pointer (some ⟨b,0,none⟩)] w fun e w'=>e=.returned (.string ⟨l.toArray⟩)∧Below B w w':=by
  cases l with
  | cons x r=>exact str_some B b (x::r) w h (by simp)
  | nil =>
    obtain⟨p,hB,v,hbk,hown,hne⟩:∃p,Bld T R B b p [] w:=by
      rcases h with h|h
      · exact⟨_,h⟩
      · exact⟨_,h⟩
    rcases hown.2 with⟨rfl,_⟩|⟨g,cap,cur,rfl,hbg,hg,_,_,_,_⟩
    · exact str_nil B b p w hbk
    · by_cases hc0:cap=0
      · subst hc0;exact str_noroom B b g p cur w hBw hbk hg
      · exact str_room B b g cap p w hc0 hbk
theorem hasBuilder:HasBld 146 0:=⟨by decide,by kernel_rfl⟩
theorem bld_fresh (w:World):IsBld 146 [] w.heap.size w.heap.size [] (w.alloc (.cells #[.pointer none,.slice none 0 0] 146)):=
  Or.inl ⟨Nat.le_refl _,.slice none 0 0,heap_alloc_new w _,World.ownsRow_nil _ _ _ _,by simp[Value.ownBlock]⟩
theorem IsBld.below {T:TypeId}{R:List Value}{B b:Nat}{bs:List Value}{w w':World}(h:IsBld T R B b bs w)(hb:Below w.heap.size w w'):IsBld T R B b bs w':=by
  have key:∀p,Bld T R B b p bs w→Bld T R B b p bs w':=by
    rintro p ⟨hB,v,hbk,hown,hne⟩;refine⟨hB,v,by rw[hb.block b (lt_of_get hbk)];exact hbk,hown.kept (row:=none) ⟨hb.os,hb.tape,hb.output,hb.size,fun k hk _=>hb.block k hk⟩ ?_,hne⟩;cases h:v.ownBlock with
    | none=>exact Or.inl rfl
    | some x=>exact Or.inr (by simp)
  rcases h with h|h
  · exact Or.inl (key _ h)
  · exact Or.inr (key _ h)
end Go.Proofs.YtdmkhmeaphaapaaGreat
namespace Go.Proofs.YtdmkhmeaphaapaaGreat
open Go.RowKit Go.Sort
set_option linter.unusedVariables false
abbrev WrB (T:TypeId):=IsBld T []
def WrPost (T:TypeId)(B b:Nat)(w:World)(l:List UInt8)(e:Ending)(w':World):Prop:=e=.returned (.tuple #[])∧WrB T B b (Lib.byteCells l) w'∧Below B w w'∧FrB T w w'
theorem FrB.refl {T:TypeId}(w:World):FrB T w w:=fun _ _ _=>KeptT.refl _
theorem FrB.trans {T:TypeId}{a b c:World}(h:FrB T a b)(h':FrB T b c):FrB T a c:=fun T0 h1 h2=>(h T0 h1 h2).trans (h' T0 h1 h2)
theorem byteCells_snoc (u:List UInt8)(x:UInt8):Lib.byteCells u++[.int .u8 x.toNat]=Lib.byteCells (u++[x]):=by simp[Lib.byteCells]
set_option maxHeartbeats 4000000 in
theorem number_c {T:TypeId}(hT:HasBld T 0)(B b n k:Nat)(l:List UInt8)(w:World)(h:WrB T B b (Lib.byteCells l) w)(hn:n≤9223372036854775807)(hk:k≤8)(hl:l.length≤1000000)(hBw:B≤w.heap.size) :
    Calls Tryz.prog 75 #[ptV b,.int .i64 (n:Int),.int .i64 (k:Int)] w (WrPost T B b w (l++beB n k)):=by
  unfold WrPost;have cW:Hid (∀(u:List UInt8) (c:Int) (W:World),WrB T B b (Lib.byteCells u) W→u.length≤1000008→B≤W.heap.size→Calls Tryz.prog 117 #[.pointer (some ⟨b,0,none⟩),.int .u8 c] W fun e w'=>e=.returned .nilIface∧(Bld T [] B b (.pointer (some ⟨b,0,none⟩)) (Lib.byteCells u++[.int .u8 c]) w'∧Below B W w'∧FrB T W w')):=
    Lib.hid fun u c W hu hul hB=>wbyte_c hT B b (Lib.byteCells u) c W hu (by rw[Lib.byteCells_length];omega) hB
  have H:=Lib.hid h;clear h hT;go_enter Tryz.func75,Tryz.ntmps75;go_wp2;go_loopw [6] (fun iv wr=>∃(z:Int) (j:Nat) (u:List UInt8),iv=.int .i64 z∧z+1=j∧j≤k∧WrB T B b (Lib.byteCells u) wr∧u++beB n j=l++beB n k∧Below B w wr∧FrB T w wr) (fun iv _=>(intOf iv+1).toNat)
  case atStart=>exact⟨(k:Int)-1,k,l,by first|rfl|go_num,by omega,Nat.le_refl _,H.out,rfl,Below.refl _ _,FrB.refl _⟩
  case round =>
    obtain⟨z,j,u,rfl,hz,hj,hu,hul,hb,hf⟩:=hrel;have HU:=Lib.hid hu;have HUL:=Lib.hid hul;have HB:=Lib.hid hb;have HF:=Lib.hid hf;have hlen:=congrArg List.length hul;rw[List.length_append,List.length_append,beB_len,beB_len]at hlen;have hbs:=hb.size;have hu4:u.length≤1000008:=by omega
    have hBr:B≤wr.heap.size:=by omega
    have cWW:=cW.out u;have HUL4:=Lib.hid hu4;have HBR:=Lib.hid hBr;clear hu hul hb hf hlen hbs hu4 hBr;cases j with
    | zero =>
      obtain rfl:z=-1:=by omega
      clear hz;go_wp2;go_end0;refine⟨rfl,?_,HB.out,HF.out⟩;have h9:=HUL.out;simp only[beB,List.append_nil]at h9;rw[←h9];exact HU.out
    | succ i =>
      have hcase:(i=0∧z=0)∨(i=1∧z=1)∨(i=2∧z=2)∨(i=3∧z=3)∨(i=4∧z=4)∨(i=5∧z=5)∨(i=6∧z=6)∨(i=7∧z=7):=by omega
      clear hz;have hw0:IntKind.i64.wrap 0=0:=by decide
      have hw8:IntKind.i64.wrap 8=8:=by decide
      have hw16:IntKind.i64.wrap 16=16:=by decide
      have hw24:IntKind.i64.wrap 24=24:=by decide
      have hw32:IntKind.i64.wrap 32=32:=by decide
      have hw40:IntKind.i64.wrap 40=40:=by decide
      have hw48:IntKind.i64.wrap 48=48:=by decide
      have hw56:IntKind.i64.wrap 56=56:=by decide
      rcases hcase with⟨rfl,rfl⟩|⟨rfl,rfl⟩|⟨rfl,rfl⟩|⟨rfl,rfl⟩|⟨rfl,rfl⟩|⟨rfl,rfl⟩|⟨rfl,rfl⟩|⟨rfl,rfl⟩
      · have hx:(n:Int)%256=((UInt8.ofNat (n/256^0)).toNat:Int):=by rw[u8_of];omega
        have HX:=Lib.hid hx;have HU2:Hid (u++[UInt8.ofNat (n/256^0)]++beB n 0=l++beB n k):=Lib.hid (by rw[List.append_assoc];exact HUL.out);clear hx;go_wp2_with fail;go_still_tail 8,(by kernel_rfl);change wpList _ _ _ _ _ wr.drew;have hd:Below B wr wr.drew:=Below.drew (Below.refl _ _);have HW2:Hid (WrB T B b (Lib.byteCells u) wr.drew):=Lib.hid (HU.out.below (Below.drew (Below.refl _ _)));have HB2:Hid (Below B w wr.drew):=Lib.hid (HB.out.trans hd);have HF2:Hid (FrB T w wr.drew):=Lib.hid (HF.out.trans fun T0 _ _=>KeptT.below (Below.drew (Below.refl _ _)));have HS2:Hid (B≤wr.drew.heap.size):=Lib.hid HBR.out;clear hd;generalize wr.drew=w2 at *;go_wp2_with (go_at_call 117;refine(cWW _ w2 HW2.out HUL4.out HS2.out).mono ?_;rintro e w3 ⟨rfl,hw3,hb3,hf3⟩;have HW3:=Lib.hid hw3;have HB3:=Lib.hid (HB2.out.trans hb3);have HF3:=Lib.hid (HF2.out.trans hf3);clear hw3 hb3 hf3);go_roundw
        case rel=>exact⟨_,0,_,rfl,by first|rfl|decide,by omega,by have h9:=HW3.out;rw[HX.out,byteCells_snoc]at h9;exact Or.inr h9,HU2.out,HB3.out,HF3.out⟩
        case measure=>simp[intOf]<;>omega
      · have hx:(n:Int)/256%256=((UInt8.ofNat (n/256^1)).toNat:Int):=by rw[u8_of];omega
        have HX:=Lib.hid hx;have HU2:Hid (u++[UInt8.ofNat (n/256^1)]++beB n 1=l++beB n k):=Lib.hid (by rw[List.append_assoc];exact HUL.out);clear hx;go_wp2_with fail;go_still_tail 8,(by kernel_rfl);change wpList _ _ _ _ _ wr.drew;have hd:Below B wr wr.drew:=Below.drew (Below.refl _ _);have HW2:Hid (WrB T B b (Lib.byteCells u) wr.drew):=Lib.hid (HU.out.below (Below.drew (Below.refl _ _)));have HB2:Hid (Below B w wr.drew):=Lib.hid (HB.out.trans hd);have HF2:Hid (FrB T w wr.drew):=Lib.hid (HF.out.trans fun T0 _ _=>KeptT.below (Below.drew (Below.refl _ _)));have HS2:Hid (B≤wr.drew.heap.size):=Lib.hid HBR.out;clear hd;generalize wr.drew=w2 at *;go_wp2_with (go_at_call 117;refine(cWW _ w2 HW2.out HUL4.out HS2.out).mono ?_;rintro e w3 ⟨rfl,hw3,hb3,hf3⟩;have HW3:=Lib.hid hw3;have HB3:=Lib.hid (HB2.out.trans hb3);have HF3:=Lib.hid (HF2.out.trans hf3);clear hw3 hb3 hf3);go_roundw
        case rel=>exact⟨_,1,_,rfl,by first|rfl|decide,by omega,by have h9:=HW3.out;rw[HX.out,byteCells_snoc]at h9;exact Or.inr h9,HU2.out,HB3.out,HF3.out⟩
        case measure=>simp[intOf]<;>omega
      · have hx:(n:Int)/65536%256=((UInt8.ofNat (n/256^2)).toNat:Int):=by rw[u8_of];omega
        have HX:=Lib.hid hx;have HU2:Hid (u++[UInt8.ofNat (n/256^2)]++beB n 2=l++beB n k):=Lib.hid (by rw[List.append_assoc];exact HUL.out);clear hx;go_wp2_with fail;go_still_tail 8,(by kernel_rfl);change wpList _ _ _ _ _ wr.drew;have hd:Below B wr wr.drew:=Below.drew (Below.refl _ _);have HW2:Hid (WrB T B b (Lib.byteCells u) wr.drew):=Lib.hid (HU.out.below (Below.drew (Below.refl _ _)));have HB2:Hid (Below B w wr.drew):=Lib.hid (HB.out.trans hd);have HF2:Hid (FrB T w wr.drew):=Lib.hid (HF.out.trans fun T0 _ _=>KeptT.below (Below.drew (Below.refl _ _)));have HS2:Hid (B≤wr.drew.heap.size):=Lib.hid HBR.out;clear hd;generalize wr.drew=w2 at *;go_wp2_with (go_at_call 117;refine(cWW _ w2 HW2.out HUL4.out HS2.out).mono ?_;rintro e w3 ⟨rfl,hw3,hb3,hf3⟩;have HW3:=Lib.hid hw3;have HB3:=Lib.hid (HB2.out.trans hb3);have HF3:=Lib.hid (HF2.out.trans hf3);clear hw3 hb3 hf3);go_roundw
        case rel=>exact⟨_,2,_,rfl,by first|rfl|decide,by omega,by have h9:=HW3.out;rw[HX.out,byteCells_snoc]at h9;exact Or.inr h9,HU2.out,HB3.out,HF3.out⟩
        case measure=>simp[intOf]<;>omega
      · have hx:(n:Int)/16777216%256=((UInt8.ofNat (n/256^3)).toNat:Int):=by rw[u8_of];omega
        have HX:=Lib.hid hx;have HU2:Hid (u++[UInt8.ofNat (n/256^3)]++beB n 3=l++beB n k):=Lib.hid (by rw[List.append_assoc];exact HUL.out);clear hx;go_wp2_with fail;go_still_tail 8,(by kernel_rfl);change wpList _ _ _ _ _ wr.drew;have hd:Below B wr wr.drew:=Below.drew (Below.refl _ _);have HW2:Hid (WrB T B b (Lib.byteCells u) wr.drew):=Lib.hid (HU.out.below (Below.drew (Below.refl _ _)));have HB2:Hid (Below B w wr.drew):=Lib.hid (HB.out.trans hd);have HF2:Hid (FrB T w wr.drew):=Lib.hid (HF.out.trans fun T0 _ _=>KeptT.below (Below.drew (Below.refl _ _)));have HS2:Hid (B≤wr.drew.heap.size):=Lib.hid HBR.out;clear hd;generalize wr.drew=w2 at *;go_wp2_with (go_at_call 117;refine(cWW _ w2 HW2.out HUL4.out HS2.out).mono ?_;rintro e w3 ⟨rfl,hw3,hb3,hf3⟩;have HW3:=Lib.hid hw3;have HB3:=Lib.hid (HB2.out.trans hb3);have HF3:=Lib.hid (HF2.out.trans hf3);clear hw3 hb3 hf3);go_roundw
        case rel=>exact⟨_,3,_,rfl,by first|rfl|decide,by omega,by have h9:=HW3.out;rw[HX.out,byteCells_snoc]at h9;exact Or.inr h9,HU2.out,HB3.out,HF3.out⟩
        case measure=>simp[intOf]<;>omega
      · have hx:(n:Int)/4294967296%256=((UInt8.ofNat (n/256^4)).toNat:Int):=by rw[u8_of];omega
        have HX:=Lib.hid hx;have HU2:Hid (u++[UInt8.ofNat (n/256^4)]++beB n 4=l++beB n k):=Lib.hid (by rw[List.append_assoc];exact HUL.out);clear hx;go_wp2_with fail;go_still_tail 8,(by kernel_rfl);change wpList _ _ _ _ _ wr.drew;have hd:Below B wr wr.drew:=Below.drew (Below.refl _ _);have HW2:Hid (WrB T B b (Lib.byteCells u) wr.drew):=Lib.hid (HU.out.below (Below.drew (Below.refl _ _)));have HB2:Hid (Below B w wr.drew):=Lib.hid (HB.out.trans hd);have HF2:Hid (FrB T w wr.drew):=Lib.hid (HF.out.trans fun T0 _ _=>KeptT.below (Below.drew (Below.refl _ _)));have HS2:Hid (B≤wr.drew.heap.size):=Lib.hid HBR.out;clear hd;generalize wr.drew=w2 at *;go_wp2_with (go_at_call 117;refine(cWW _ w2 HW2.out HUL4.out HS2.out).mono ?_;rintro e w3 ⟨rfl,hw3,hb3,hf3⟩;have HW3:=Lib.hid hw3;have HB3:=Lib.hid (HB2.out.trans hb3);have HF3:=Lib.hid (HF2.out.trans hf3);clear hw3 hb3 hf3);go_roundw
        case rel=>exact⟨_,4,_,rfl,by first|rfl|decide,by omega,by have h9:=HW3.out;rw[HX.out,byteCells_snoc]at h9;exact Or.inr h9,HU2.out,HB3.out,HF3.out⟩
        case measure=>simp[intOf]<;>omega
      · have hx:(n:Int)/1099511627776%256=((UInt8.ofNat (n/256^5)).toNat:Int):=by rw[u8_of];omega
        have HX:=Lib.hid hx;have HU2:Hid (u++[UInt8.ofNat (n/256^5)]++beB n 5=l++beB n k):=Lib.hid (by rw[List.append_assoc];exact HUL.out);clear hx;go_wp2_with fail;go_still_tail 8,(by kernel_rfl);change wpList _ _ _ _ _ wr.drew;have hd:Below B wr wr.drew:=Below.drew (Below.refl _ _);have HW2:Hid (WrB T B b (Lib.byteCells u) wr.drew):=Lib.hid (HU.out.below (Below.drew (Below.refl _ _)));have HB2:Hid (Below B w wr.drew):=Lib.hid (HB.out.trans hd);have HF2:Hid (FrB T w wr.drew):=Lib.hid (HF.out.trans fun T0 _ _=>KeptT.below (Below.drew (Below.refl _ _)));have HS2:Hid (B≤wr.drew.heap.size):=Lib.hid HBR.out;clear hd;generalize wr.drew=w2 at *;go_wp2_with (go_at_call 117;refine(cWW _ w2 HW2.out HUL4.out HS2.out).mono ?_;rintro e w3 ⟨rfl,hw3,hb3,hf3⟩;have HW3:=Lib.hid hw3;have HB3:=Lib.hid (HB2.out.trans hb3);have HF3:=Lib.hid (HF2.out.trans hf3);clear hw3 hb3 hf3);go_roundw
        case rel=>exact⟨_,5,_,rfl,by first|rfl|decide,by omega,by have h9:=HW3.out;rw[HX.out,byteCells_snoc]at h9;exact Or.inr h9,HU2.out,HB3.out,HF3.out⟩
        case measure=>simp[intOf]<;>omega
      · have hx:(n:Int)/281474976710656%256=((UInt8.ofNat (n/256^6)).toNat:Int):=by rw[u8_of];omega
        have HX:=Lib.hid hx;have HU2:Hid (u++[UInt8.ofNat (n/256^6)]++beB n 6=l++beB n k):=Lib.hid (by rw[List.append_assoc];exact HUL.out);clear hx;go_wp2_with fail;go_still_tail 8,(by kernel_rfl);change wpList _ _ _ _ _ wr.drew;have hd:Below B wr wr.drew:=Below.drew (Below.refl _ _);have HW2:Hid (WrB T B b (Lib.byteCells u) wr.drew):=Lib.hid (HU.out.below (Below.drew (Below.refl _ _)));have HB2:Hid (Below B w wr.drew):=Lib.hid (HB.out.trans hd);have HF2:Hid (FrB T w wr.drew):=Lib.hid (HF.out.trans fun T0 _ _=>KeptT.below (Below.drew (Below.refl _ _)));have HS2:Hid (B≤wr.drew.heap.size):=Lib.hid HBR.out;clear hd;generalize wr.drew=w2 at *;go_wp2_with (go_at_call 117;refine(cWW _ w2 HW2.out HUL4.out HS2.out).mono ?_;rintro e w3 ⟨rfl,hw3,hb3,hf3⟩;have HW3:=Lib.hid hw3;have HB3:=Lib.hid (HB2.out.trans hb3);have HF3:=Lib.hid (HF2.out.trans hf3);clear hw3 hb3 hf3);go_roundw
        case rel=>exact⟨_,6,_,rfl,by first|rfl|decide,by omega,by have h9:=HW3.out;rw[HX.out,byteCells_snoc]at h9;exact Or.inr h9,HU2.out,HB3.out,HF3.out⟩
        case measure=>simp[intOf]<;>omega
      · have hx:(n:Int)/72057594037927936=((UInt8.ofNat (n/256^7)).toNat:Int):=by rw[u8_of];omega
        have HX:=Lib.hid hx;have HU2:Hid (u++[UInt8.ofNat (n/256^7)]++beB n 7=l++beB n k):=Lib.hid (by rw[List.append_assoc];exact HUL.out);clear hx;go_wp2_with fail;go_still_tail 8,(by kernel_rfl);change wpList _ _ _ _ _ wr.drew;have hd:Below B wr wr.drew:=Below.drew (Below.refl _ _);have HW2:Hid (WrB T B b (Lib.byteCells u) wr.drew):=Lib.hid (HU.out.below (Below.drew (Below.refl _ _)));have HB2:Hid (Below B w wr.drew):=Lib.hid (HB.out.trans hd);have HF2:Hid (FrB T w wr.drew):=Lib.hid (HF.out.trans fun T0 _ _=>KeptT.below (Below.drew (Below.refl _ _)));have HS2:Hid (B≤wr.drew.heap.size):=Lib.hid HBR.out;clear hd;generalize wr.drew=w2 at *;go_wp2_with (go_at_call 117;refine(cWW _ w2 HW2.out HUL4.out HS2.out).mono ?_;rintro e w3 ⟨rfl,hw3,hb3,hf3⟩;have HW3:=Lib.hid hw3;have HB3:=Lib.hid (HB2.out.trans hb3);have HF3:=Lib.hid (HF2.out.trans hf3);clear hw3 hb3 hf3);go_roundw
        case rel=>exact⟨_,7,_,rfl,by first|rfl|decide,by omega,by have h9:=HW3.out;rw[HX.out,byteCells_snoc]at h9;exact Or.inr h9,HU2.out,HB3.out,HF3.out⟩
        case measure=>simp[intOf]<;>omega
set_option maxHeartbeats 2000000 in
theorem wname_c {T:TypeId}(hT:HasBld T 0)(B b:Nat)(s:ByteArray)(l:List UInt8)(w:World)(h:WrB T B b (Lib.byteCells l) w)(hs:s.size≤255)(hl:l.length≤999000)(hBw:B≤w.heap.size) :
    Calls Tryz.prog 76 #[ptV b,.string s] w (WrPost T B b w (l++nameB s)):=by
  unfold WrPost;have cN:=number_c hT B b s.size 1 l w h (by omega) (by omega) (by omega) hBw;unfold WrPost at cN;have cW:Hid (∀(u:List UInt8) (W:World),WrB T B b (Lib.byteCells u) W→u.length≤1000008→B≤W.heap.size→Calls Tryz.prog 118 #[.pointer (some ⟨b,0,none⟩),.string s] W fun e w'=>e=.returned (.tuple #[.int .i64 s.size,.nilIface])∧(Bld T [] B b (.pointer (some ⟨b,0,none⟩)) (Lib.byteCells u++Lib.strCells s) w'∧Below B W w'∧FrB T W w')):=
    Lib.hid fun u W hu hul hB=>wstr_c hT B b (Lib.byteCells u) s W hu (by rw[Lib.byteCells_length];omega) hB
  have hl2:(l++beB s.size 1).length≤1000008:=by rw[List.length_append,beB_len];omega
  have HL2:=Lib.hid hl2;have HBW:=Lib.hid hBw;clear h hl2 hT;go_enter Tryz.func76,Tryz.ntmps76;go_wp2_with (first|(go_at_call 75;refine cN.mono ?_;rintro e w1 ⟨rfl,h1,hb1,hf1⟩;have cWW:=cW.out _ w1 h1 HL2.out (Nat.le_trans HBW.out hb1.size);have HB1:=Lib.hid hb1;have HF1:=Lib.hid hf1;clear h1 hb1 hf1)|(go_at_call 118;refine cWW.mono ?_;rintro e w2 ⟨rfl,h2,hb2,hf2⟩;have HW2:=Lib.hid h2;have HB2:=Lib.hid (HB1.out.trans hb2);have HF2:=Lib.hid (HF1.out.trans hf2);clear h2 hb2 hf2));go_end0;refine⟨rfl,Or.inr ?_,HB2.out,HF2.out⟩;have h9:=HW2.out;unfold nameB;rw[←List.append_assoc];have e9:Lib.byteCells (l++beB s.size 1++s.data.toList)=Lib.byteCells (l++beB s.size 1)++Lib.strCells s:=by simp[Lib.byteCells,Lib.strCells]
  rw[e9];exact h9
set_option maxHeartbeats 2000000 in
theorem wflag_c {T:TypeId}(hT:HasBld T 0)(B b:Nat)(t:Bool)(l:List UInt8)(w:World)(h:WrB T B b (Lib.byteCells l) w)(hl:l.length≤999000)(hBw:B≤w.heap.size) :
    Calls Tryz.prog 77 #[ptV b,.bool t] w (WrPost T B b w (l++beB (boolN t) 1)):=by
  have cN:=number_c hT B b (boolN t) 1 l w h (by unfold boolN;split<;>omega) (by omega) (by omega) hBw;unfold WrPost at cN ⊢;clear h hT;cases t with
  | true =>
    go_enter Tryz.func77,Tryz.ntmps77;go_wp2_with (go_at_call 75;refine cN.mono ?_;rintro e w1 ⟨rfl,h1⟩;have H1:=Lib.hid h1;clear h1);go_end0;exact⟨rfl,H1.out⟩
  | false =>
    go_enter Tryz.func77,Tryz.ntmps77;go_wp2_with (go_at_call 75;refine cN.mono ?_;rintro e w1 ⟨rfl,h1⟩;have H1:=Lib.hid h1;clear h1);go_end0;exact⟨rfl,H1.out⟩
set_option maxHeartbeats 2000000 in
theorem wtext_c {T:TypeId}(B b:Nat)(l:List UInt8)(w:World)(h:WrB T B b (Lib.byteCells l) w)(hBw:B≤w.heap.size) :
    Calls Tryz.prog 78 #[ptV b] w fun e w'=>e=.returned (.string ⟨l.toArray⟩)∧Below B w w':=by
  have cS:=str_c B b l w h hBw;clear h;go_enter Tryz.func78,Tryz.ntmps78;go_wp2_with (go_at_call 119;refine cS.mono ?_;rintro e w1 ⟨rfl,h1⟩;have H1:=Lib.hid h1;clear h1);go_ret;exact⟨rfl,H1.out⟩
end Go.Proofs.YtdmkhmeaphaapaaGreat
namespace Go.Proofs.YtdmkhmeaphaapaaGreat
open Go.RowKit Go.Sort
set_option linter.unusedVariables false
def RdIs (T:TypeId)(b:Nat)(l:List UInt8)(p:Bool)(w:World):Prop:=w.heap[b]?=some (.cells #[.string ⟨l.toArray⟩,.bool p] T (0,0))
theorem rd_grown_trans {a w w':World}{row:Option Nat}(h:a.grownBy w row)(k:w.grownBy w' row):a.grownBy w' row:=
  ⟨k.os.trans h.os,k.tape.trans h.tape,k.output.trans h.output,Nat.le_trans h.size k.size,fun j hj hn=>(k.block j (Nat.lt_of_lt_of_le hj h.size) hn).trans (h.block j hj hn)⟩
theorem rd_grown_set (w:World)(b i:Nat)(v:Value):w.grownBy (w.setCell ⟨b,i,none⟩ v) (some b):=
  have h:=(Below.refl b w).setCell (p:=⟨b,i,none⟩) (Nat.le_refl _) v
  ⟨h.os,h.tape,h.output,h.size,fun j hj hn=>Below.heap_setCell w ⟨b,i,none⟩ v j fun e=>hn (by rw[show j=b from e])⟩
theorem rd_grown_below {w w':World}(h:Below w.heap.size w w')(row:Option Nat):w.grownBy w' row:=⟨h.os,h.tape,h.output,h.size,fun j hj _=>h.block j hj⟩
theorem rd_grown_to_below {w w':World}{b:Nat}(h:w.grownBy w' (some b))(hb:b≤w.heap.size):Below b w w':=(Below.refl b w).grown h hb fun k hk=>Nat.le_of_eq (Option.some.inj hk)
def RdPost (T:TypeId)(b:Nat)(w:World)(l:List UInt8)(p:Bool)(v:Value)(e:Ending)(w':World):Prop:=e=.returned v∧RdIs T b l p w'∧w.grownBy w' (some b)
theorem rd_grown_fr {T:TypeId}{b:Nat}{l:List UInt8}{p:Bool}{w w':World}(h:RdIs T b l p w)(hg:w.grownBy w' (some b)):FrB T w w':=fun T0 _ h2 k cs fr hk=>by
  rw[hg.block k (lt_of_get hk) (fun e=>by
    obtain rfl:=Option.some.inj e;rw[h]at hk;injection hk with hk;injection hk with _ h3 _;exact h2 h3.symm)]
  exact hk
theorem RdIs.set {T:TypeId}{b:Nat}{l:List UInt8}{p:Bool}{w:World}(h:RdIs T b l p w)(m:List UInt8):RdIs T b m p (w.setCell ⟨b,0,none⟩ (.string ⟨m.toArray⟩))∧w.grownBy (w.setCell ⟨b,0,none⟩ (.string ⟨m.toArray⟩)) (some b):=by
  refine⟨?_,rd_grown_set w b 0 _⟩;unfold RdIs at *;rw[heap_setCell_same _ b 0 _ _ _ h];rfl
theorem RdIs.mark {T:TypeId}{b:Nat}{l:List UInt8}{p:Bool}{w:World}(h:RdIs T b l p w)(q:Bool):RdIs T b l q (w.setCell ⟨b,1,none⟩ (.bool q))∧w.grownBy (w.setCell ⟨b,1,none⟩ (.bool q)) (some b):=by
  refine⟨?_,rd_grown_set w b 1 _⟩;unfold RdIs at *;rw[heap_setCell_same _ b 1 _ _ _ h];rfl
theorem text_take (l:List UInt8)(k:Nat)(h:k≤l.length):(⟨l.toArray⟩:ByteArray).extract 0 k=⟨(l.take k).toArray⟩:=by
  apply ByteArray.ext;rw[ByteArray.data_extract];apply Array.toList_inj.1;rw[Array.toList_extract,List.extract_eq_take_drop];simp only[List.drop_zero,Nat.sub_zero]
theorem text_drop (l:List UInt8)(k:Nat)(h:k≤l.length):(⟨l.toArray⟩:ByteArray).extract k l.length=⟨(l.drop k).toArray⟩:=by
  apply ByteArray.ext;rw[ByteArray.data_extract];apply Array.toList_inj.1;rw[Array.toList_extract,List.extract_eq_take_drop];exact List.take_of_length_le (by rw[List.length_drop];exact Nat.le_refl _)
set_option maxHeartbeats 2000000 in
theorem takeD_c {T:TypeId}(b k:Nat)(l:List UInt8)(p:Bool)(w:World)(h:RdIs T b l p w)(hk:k≤255)(hl:l.length≤100000) :
    Calls Tryz.prog 97 #[ptV b,.int .i64 (k:Int)] w (RdPost T b w (l.drop k) (p||decide (l.length<k)) (.string ⟨(l.take k).toArray⟩)):=by
  unfold RdPost;have c0:w.cell? ⟨b,0,none⟩=some (.string ⟨l.toArray⟩):=Lib.cell_of_heap h 0;have f0:w.frozen? ⟨b,0,none⟩=false:=Lib.frozen_of_heap h 0;have f1:w.frozen? ⟨b,1,none⟩=false:=Lib.frozen_of_heap h 1;have d1:w.cell? ⟨b,1,none⟩=some (.bool p):=Lib.cell_of_heap h 1;have hsz:(⟨l.toArray⟩:ByteArray).size=l.length:=rfl;by_cases hlt:l.length<k
  · have H:=Lib.hid (h.mark true);have hi:(l.length:Int)<(k:Int):=by omega
    have e1:=text_take l l.length (Nat.le_refl _);have e2:=text_drop l l.length (Nat.le_refl _);rw[List.take_of_length_le (Nat.le_refl _)]at e1;rw[List.drop_of_length_le (Nat.le_refl _)]at e2;have c1:(w.setCell ⟨b,1,none⟩ (.bool true)).cell? ⟨b,0,none⟩=some (.string ⟨l.toArray⟩):=Lib.cell_of_heap H.out.1 0;have g0:(w.setCell ⟨b,1,none⟩ (.bool true)).frozen? ⟨b,0,none⟩=false:=Lib.frozen_of_heap H.out.1 0;have HE:=Lib.hid (And.intro e1 e2);rw[decide_eq_true hlt,Bool.or_true,List.drop_of_length_le (show l.length≤k by omega),List.take_of_length_le (show l.length≤k by omega)];clear h e1 e2;go_enter Tryz.func97,Tryz.ntmps97;go_wp2_with fail;go_ret;have h9:=H.out.1.set [];have e1:=HE.out.1;refine⟨by first|rfl|(rw[←e1];rfl)|(rw[e1];rfl),h9.1,rd_grown_trans H.out.2 h9.2⟩
  · have hi:¬(l.length:Int)<(k:Int):=by omega
    have e1:=text_take l k (by omega);have e2:=text_drop l k (by omega);have H:=Lib.hid h;have HE:=Lib.hid (And.intro e1 e2);rw[decide_eq_false hlt,Bool.or_false];clear h e1 e2;go_enter Tryz.func97,Tryz.ntmps97;go_wp2_with fail;go_ret;have e1:=HE.out.1;have e2:=HE.out.2;have h9:=H.out.set (l.drop k);rw[e2];exact⟨by first|rfl|(rw[←e1];rfl)|(rw[e1];rfl),h9.1,h9.2⟩
theorem deClone_c (s:ByteArray)(w:World)(hs:s.size≤281474976710656):Calls Tryz.prog 55 #[.string s] w fun e w'=>e=.returned (.string s)∧Below w.heap.size w w':=by
  have cC:=Tryz.stringslite_Clone s w hs;go_enter Tryz.func55,Tryz.ntmps55;go_wp2_with fail;refine cC.mono ?_;rintro e w1 ⟨rfl,hb⟩;have HB:=Lib.hid hb;clear hb cC;go_wp2;go_ret;exact⟨rfl,HB.out⟩
set_option maxHeartbeats 2000000 in
theorem rnumber_c {T:TypeId}(b k:Nat)(l:List UInt8)(p:Bool)(w:World)(h:RdIs T b l p w)(hk:k≤8)(hl:l.length≤100000) :
    Calls Tryz.prog 57 #[ptV b,.int .i64 (k:Int)] w (RdPost T b w (l.drop k) (p||decide (l.length<k)) (.int .i64 (valI k l))):=by
  have cT:=takeD_c b k l p w h (by omega) hl;obtain⟨X,hX⟩:∃X,rdN k l=X:=⟨_,rfl⟩;unfold valI;rw[hX];obtain⟨s,hs⟩:∃s:ByteArray,(⟨(l.take k).toArray⟩:ByteArray)=s:=⟨_,rfl⟩;have hst:s.data.toList=l.take k:=by rw[←hs]
  have hX2:foldB 0 s.data.toList=X:=by rw[hst];exact hX
  obtain⟨m,hm⟩:∃m,s.size=m:=⟨_,rfl⟩;have hm4:m≤8:=by
    have:s.data.toList.length=s.size:=Array.length_toList;rw[←hm,←this,hst,List.length_take];omega
  rw[hs]at cT;generalize (p||decide (l.length<k))=P at *;have HX:=Lib.hid hX2;have HM:=Lib.hid hm;unfold RdPost at cT ⊢;clear h hX hX2 hst hs hl hk;go_enter Tryz.func57,Tryz.ntmps57;go_wp2_with (go_at_call 97;refine cT.mono ?_;rintro e w1 ⟨rfl,h1⟩;have H1:=Lib.hid h1;clear h1);go_loopw [5,13] (fun nv iv wr=>∃i a:Nat,i≤m∧iv=.int .i64 i∧nv=.int .i64 (wrap64 (a:Int))∧a<256^i∧foldB a (s.data.toList.drop i)=X∧wr=w1) (fun _ iv _=>m-(intOf iv).toNat)
  case atStart=>exact⟨0,0,by omega,rfl,by rw[IntWalk.wrap64_in _ (by omega)];rfl,by decide,HX.out,rfl⟩
  case round =>
    obtain⟨i,a,hi,rfl,rfl,ha,hf,rfl⟩:=hrel;have HF:=Lib.hid hf;have HA:=Lib.hid ha;clear hf ha;by_cases him:i<m
    · have hiz:(i:Int)<(m:Int):=by omega
      have hi0:(0:Int)≤(i:Int):=by omega
      have hlt:i<s.size:=by rw[hm];exact him
      have hi2:(i:Int)<(s.size:Int):=by omega
      have hp:256^i≤72057594037927936:=Nat.le_trans (Nat.pow_le_pow_right (by decide) (show i≤7 by omega)) (by decide);have ha7:a<72057594037927936:=Nat.lt_of_lt_of_le HA.out hp;have hwa:wrap64 (a:Int)=(a:Int):=IntWalk.wrap64_in _ (by omega);rw[hwa];have hb8:=UInt8.toNat_lt (s[i]'hlt);have hv:=bits_or_byte a (s[i]'hlt).toNat ha7 hb8;have HV:=Lib.hid hv;clear hv hwa;go_wp2_with fail;have hv:=HV.out;refine⟨⟨i+1,a*256+(s[i]'hlt).toNat,by omega,by first|rfl|(congr 1),by rw[hv],?_,?_,trivial⟩,?_⟩
      · have ha16:=HA.out;rw[Nat.pow_succ];omega
      · have h9:=HF.out;rw[List.drop_eq_getElem_cons (by rw[Array.length_toList];exact hlt)]at h9;exact h9
      · simp[intOf];omega
    · have hiz:¬(i:Int)<(m:Int):=by omega
      have hE:Hid (a=X):=Lib.hid (by
        have h9:=HF.out;rw[List.drop_of_length_le (by rw[Array.length_toList];show s.size≤i;omega)]at h9;exact h9)
      go_wp2_with fail;go_ret;rw[hE.out];exact⟨rfl,H1.out⟩
set_option maxHeartbeats 2000000 in
theorem rname_c {T:TypeId}(b:Nat)(l:List UInt8)(p:Bool)(w:World)(h:RdIs T b l p w)(hl:l.length≤100000) :
    Calls Tryz.prog 58 #[ptV b] w (RdPost T b w (nmR l) (p||nmP l) (.string (nmL l))):=by
  have cN:=rnumber_c b 1 l p w h (by omega) hl;rw[valI_small 1 l (by omega)]at cN;have hr:rdN 1 l≤255:=by have:=rdN_lt 1 l;omega
  have cT:Hid (∀W,RdIs T b (l.drop 1) (p||decide (l.length<1)) W→Calls Tryz.prog 97 #[ptV b,.int .i64 (rdN 1 l:Int)] W (RdPost T b W (nmR l) (p||nmP l) (.string (nmL l)))):=Lib.hid fun W hW=>by
    have h9:=takeD_c b (rdN 1 l) (l.drop 1) _ W hW hr (by rw[List.length_drop];omega);rw[Bool.or_assoc]at h9;exact h9
  have hsz:(nmL l).size≤281474976710656:=by
    show(nmL l).data.size≤_
    unfold nmL;rw[←Array.length_toList];simp only[List.length_take,List.length_drop];omega
  have cC:=fun W=>deClone_c (nmL l) W hsz
  generalize nmL l=R at *;generalize nmR l=M at *;generalize (p||nmP l)=PP at *;generalize (p||decide (l.length<1))=P1 at *;generalize rdN 1 l=K at *;unfold RdPost at cN cT ⊢;have hK:wrap64 (K:Int)=K:=IntWalk.wrap64_in _ (by omega);clear h hr hsz;go_enter Tryz.func58,Tryz.ntmps58;go_wp2_with (first|(go_at_call 57;refine cN.mono ?_;rintro e w1 ⟨rfl,h1,hb1⟩;have cTT:=cT.out w1 h1;have HB1:=Lib.hid hb1;clear h1 hb1)|(go_at_call 97;refine cTT.mono ?_;rintro e w2 ⟨rfl,h2,hb2⟩;have H2:=Lib.hid h2;have HB2:=Lib.hid (rd_grown_trans HB1.out hb2);clear h2 hb2)|(go_at_call 55;refine(cC _).mono ?_;rintro e w3 ⟨rfl,hb3⟩;have HB3:=Lib.hid hb3;clear hb3));go_ret;refine⟨rfl,(HB3.out.block _ (lt_of_get H2.out)).trans H2.out,rd_grown_trans HB2.out (rd_grown_below HB3.out _)⟩
set_option maxHeartbeats 2000000 in
theorem rflag_c {T:TypeId}(b:Nat)(l:List UInt8)(p:Bool)(w:World)(h:RdIs T b l p w)(hl:l.length≤100000) :
    Calls Tryz.prog 60 #[ptV b] w (RdPost T b w (l.drop 1) (p||decide (l.length<1)) (.bool (decide (rdN 1 l=1)))):=by
  have cN:=rnumber_c b 1 l p w h (by omega) hl;rw[valI_small 1 l (by omega)]at cN;generalize l.drop 1=M at *;generalize rdN 1 l=K at *;generalize (p||decide (l.length<1))=P1 at *;unfold RdPost at cN ⊢;clear h;have hK:((K:Int)==1)=decide (K=1):=by
    rw[Bool.eq_iff_iff,beq_iff_eq,decide_eq_true_eq];omega
  have HK:=Lib.hid hK;clear hK;go_enter Tryz.func60,Tryz.ntmps60;go_wp2_with (go_at_call 57;refine cN.mono ?_;rintro e w1 ⟨rfl,h1⟩;have H1:=Lib.hid h1;clear h1);go_ret;exact⟨by first|rfl|(go_simp;exact HK.out)|(simp;exact HK.out),H1.out⟩
set_option maxHeartbeats 2000000 in
theorem rpast_c {T:TypeId}(b:Nat)(l:List UInt8)(p:Bool)(w:World)(h:RdIs T b l p w) :
    Calls Tryz.prog 176 #[ptV b] w fun e w'=>e=.returned (.bool p)∧w'=w:=by
  have c1:w.cell? ⟨b,1,none⟩=some (.bool p):=Lib.cell_of_heap h 1;clear h;go_enter Tryz.func176,Tryz.ntmps176;go_wp2_with fail;go_ret;exact⟨rfl,rfl⟩
set_option maxHeartbeats 2000000 in
theorem newReader_c (s:ByteArray)(w:World) :
    Calls Tryz.prog 56 #[.string s] w fun e w'=>e=.returned (.agg #[.string s,.bool false])∧Below w.heap.size w w':=by
  go_enter Tryz.func56,Tryz.ntmps56;go_wp2_with fail
  (try simp only[Exit.inBlock,Exit.then])
  exact bodyPost_ret (results_cell_row Tryz.results56 _ _ _ _ _ _ _ rfl (heap_alloc_new _ _) Tryz.underlying123 rfl (by kernel_rfl)) rfl ⟨rfl,(Below.refl _ _).alloc (Nat.le_refl _) _⟩
end Go.Proofs.YtdmkhmeaphaapaaGreat
