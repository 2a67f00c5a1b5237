/- Kit. -/
import Derived.Lib.MapLaws
import Derived.Test.YtdmkhmeaphaapaaGreatCZ1
import Derived.IntWalk
import Derived.Laws.Bits64
import Derived.WalkKit
import Derived.WalkSpells
import Derived.Handy
import Derived.ProofKit
import Derived.Lib.Hide
import Derived.Lib.Builder
import Derived.Lib.AppendStr
import Derived.Lib.UnsafeStr
import Derived.Laws.Externs
import Derived.Laws.NewBlocks
import Derived.Below
import Derived.Shelf.RegionOpenPlain
import Derived.KernelRfl
import Derived.StillTailTactics
import Derived.Test.YtdmkhmeaphaapaaGreatCZ5
import Derived.Test.YtdmkhmeaphaapaaGreatCZ0
set_option maxRecDepth 100000
set_option linter.unusedVariables false
set_option linter.unusedSimpArgs false
namespace Go.Proofs.YtdmkhmeaphaapaaGreat
abbrev DF (b:Nat):Value:=.pointer (some ⟨b,0,none⟩)
structure De where
 k:Int
 d:Int
 dt:Int
 s:ByteArray
 ns:ByteArray
 Bg:Bool
 sh:Int
deriving DecidableEq,Inhabited
def Ga (x:De):Value:=.agg #[.int .i64 x.k,.int .i64 x.d,.int .i64 x.dt,.string x.s,.string x.ns,.bool x.Bg,.int .i64 x.sh]
def Qk (x:De):List Value:=[.int .i64 x.k,.int .i64 x.d,.int .i64 x.dt,.string x.s,.string x.ns,.bool x.Bg,.int .i64 x.sh]
def O6:De:=⟨0,0,0,⟨#[]⟩,⟨#[]⟩,false,0⟩
def May (x:De):Prop:=(x.k=1∨x.k=2∨x.k=3)∧(x.k=3∨(x.dt=0∧x.ns=⟨#[]⟩))∧(x.k=3→x.Bg=false)∧(x.k=2→x.sh=0) ∧
 (0≤x.d∧x.d<65536)∧(0≤x.dt∧x.dt<65536)∧x.s.size<256∧x.ns.size<256∧(0≤x.sh∧x.sh≤1000000)
instance (x:De):Decidable (May x):=inferInstanceAs (Decidable (_∧_))
def BB (n:Nat):Nat→List UInt8
 | 0=>[]
 | k+1=>UInt8.ofNat (n/256^k)::BB n k
theorem Ah (n:Nat):∀k,(BB n k).length=k
 | 0=>rfl
 | k+1=>by simp[BB,Ah n k]
def EU (s:ByteArray):List UInt8:=BB s.size 1++s.data.toList
theorem BP (s:ByteArray):(EU s).length=s.size+1:=by
 unfold EU;rw[A7,Ah,BQ];show 1+s.size=_
 omega
def DI (t:Bool):Nat:=if t=true then 1 else 0
def kX (x:De):List UInt8:=if x.k=3 then [] else BB (DI x.Bg) 1
def toB (x:De):List UInt8:=if x.k=3 then BB x.dt.toNat 2++EU x.ns else []
def shB (x:De):List UInt8:=if x.k=2 then [] else BB x.sh.toNat 4
def Ac (x:De):List UInt8:=BB x.k.toNat 1++(BB x.d.toNat 2++(EU x.s++(kX x++(toB x++shB x))))
def FD (k:Nat)(l:List UInt8):Nat:=(l.take k).foldl (fun n b=>n*256+b.toNat) 0
def Rc (l:List UInt8):ByteArray:=⟨((l.drop 1).take (FD 1 l)).toArray⟩
def YG (l:List UInt8):List UInt8:=(l.drop 1).drop (FD 1 l)
def Pq (l:List UInt8):De:=
 let k:=FD 1 l
 let d:=FD 2 (l.drop 1)
 let s:=Rc ((l.drop 1).drop 2)
 let r:=YG ((l.drop 1).drop 2)
 if k=1 then⟨k,d,0,s,⟨#[]⟩,decide (FD 1 r=1),FD 4 (r.drop 1)⟩
 else if k=2 then⟨k,d,0,s,⟨#[]⟩,decide (FD 1 r=1),0⟩
 else if k=3 then⟨k,d,FD 2 r,s,Rc (r.drop 2),false,FD 4 (YG (r.drop 2))⟩
 else⟨k,d,0,s,⟨#[]⟩,false,0⟩
theorem Ju (n:Nat):(UInt8.ofNat n).toNat=n%256:=by simp
theorem IQ (n k:Nat)(r:List UInt8):(BB n k++r).drop k=r:=by
 have:=List.drop_left (l₁:=BB n k) (l₂:=r);rwa[Ah]at this
theorem ML (n k:Nat)(r:List UInt8):(BB n k++r).take k=BB n k:=by
 have:=List.take_left (l₁:=BB n k) (l₂:=r);rwa[Ah]at this
theorem zW (n:Nat)(h:n<256)(r:List UInt8):FD 1 (BB n 1++r)=n:=by
 unfold FD;rw[ML];simp[BB];omega
theorem rd2 (n:Nat)(h:n<65536)(r:List UInt8):FD 2 (BB n 2++r)=n:=by
 unfold FD;rw[ML];simp[BB];omega
theorem rd4 (n:Nat)(h:n<4294967296)(r:List UInt8):FD 4 (BB n 4++r)=n:=by
 unfold FD;rw[ML];simp[BB];omega
theorem Aaa (s:ByteArray)(h:s.size<256)(r:List UInt8):Rc (EU s++r)=s:=by
 unfold Rc EU;rw[Ch,zW _ h,IQ,List.take_left' (by rw[BQ];rfl)]
theorem z8 (s:ByteArray)(h:s.size<256)(r:List UInt8):YG (EU s++r)=r:=by
 unfold YG EU;rw[Ch,zW _ h,IQ,List.drop_left' (by rw[BQ];rfl)]
theorem Ol (x:De)(h:May x)(r:List UInt8):Pq (Ac x++r)=x:=by
 obtain⟨k,d,dt,s,ns,Bg,sh⟩:=x;obtain⟨h1,h2,h3,h4,h5,h6,h7,h8,h9⟩:=h;simp only at h1 h2 h3 h4 h5 h6 h7 h8 h9;obtain⟨d,rfl⟩:∃n:Nat,d=n:=⟨d.toNat,by omega⟩;obtain⟨dt,rfl⟩:∃n:Nat,dt=n:=⟨dt.toNat,by omega⟩;obtain⟨sh,rfl⟩:∃n:Nat,sh=n:=⟨sh.toNat,by omega⟩;unfold Ac Pq;simp only[List.append_assoc,Int.toNat_natCast];have hk:∃q:Nat,k=q∧(q=1∨q=2∨q=3):=⟨k.toNat,by omega,by omega⟩;obtain⟨q,rfl,hq⟩:=hk;rw[DY,zW q (by omega),IQ,rd2 d (by omega),IQ,Aaa s h7,z8 s h7];unfold kX toB shB;simp only[Int.toNat_natCast];rcases hq with rfl|rfl|rfl
 · obtain⟨e1,e2⟩:=h2.resolve_left (by decide);have e1':dt=0:=by omega
   subst e1' e2;simp only[reduceIte,List.nil_append,show ¬((1:Nat):Int)=3 by decide,show ¬((1:Nat):Int)=2 by decide];rw[zW _ (by unfold DI;split<;>omega),IQ,rd4 sh (by omega)];cases Bg<;>simp[DI]
 · obtain⟨e1,e2⟩:=h2.resolve_left (by decide);have e1':dt=0:=by omega
   have e3:sh=0:=by have:=h4 rfl;omega
   subst e1' e2 e3;simp only[reduceIte,List.nil_append,show((2:Nat):Int)=2 from rfl,show ¬(2:Int)=3 by decide,show ¬(2:Nat)=1 by decide];rw[zW _ (by unfold DI;split<;>omega)];cases Bg<;>simp[DI]
 · obtain rfl:Bg=false:=h3 rfl;simp only[reduceIte,List.nil_append,List.append_assoc,show ¬(3:Nat)=1 by decide,show ¬(3:Nat)=2 by decide,show((3:Nat):Int)=3 from rfl,show ¬(3:Int)=2 by decide];rw[rd2 dt (by omega),IQ,Aaa ns h8,z8 ns h8,rd4 sh (by omega)]
theorem ZC {a b:De}(ha:May a)(hb:May b){r:List UInt8}(h:Ac b=Ac a++r):a=b:=by
 have h1:=Ol a ha r;have h2:=Ol b hb [];rw[Cz,h]at h2;rw[←h1,h2]
theorem Ud (x:De)(h:May x):(Ac x).length≤600:=by
 obtain⟨_,_,_,_,_,_,h7,h8,_⟩:=h;have e1:(EU x.s).length≤256:=by rw[BP];omega
 have e2:(EU x.ns).length≤256:=by rw[BP];omega
 have e3:(kX x).length≤1:=by unfold kX;split<;>simp[Ah]
 have e4:(toB x).length≤258:=by unfold toB;split<;>simp[Ah]<;>omega
 have e5:(shB x).length≤4:=by unfold shB;split<;>simp[Ah]
 unfold Ac;simp only[List.length_append,Ah];omega
end Go.Proofs.YtdmkhmeaphaapaaGreat
namespace Go.Proofs.YtdmkhmeaphaapaaGreat
open Go.RowKit Go.Sort
def gX (n:Nat)(l:List UInt8):Nat:=l.foldl (fun n b=>n*256+b.toNat) n
theorem qR (l:List UInt8):∀n m,n<256^m→gX n l<256^(m+l.length):=by
 unfold gX
 induction l with
 | nil=>intro n m h;exact h
 | cons x r ih =>
  intro n m h;rw[List.foldl_cons,GY,show m+(r.length+1)=(m+1)+r.length by omega];apply ih;have:=UInt8.toNat_lt x;rw[Nat.pow_succ];omega
theorem P7 (k:Nat)(l:List UInt8):FD k l<256^k:=by
 have h1:FD k l<256^(0+(l.take k).length):=qR (l.take k) 0 0 (by decide);have h2:(l.take k).length≤k:=by rw[Cc];omega
 exact Nat.lt_of_lt_of_le h1 (Nat.pow_le_pow_right (by decide) (by omega))
theorem vW (a c:Nat)(hc:c<256):a*256 ||| c=a*256+c:=by
 have:=Nat.two_pow_add_eq_or_of_lt (i:=8) (b:=c) (by omega) a;rw[Nat.mul_comm a 256];exact this.symm
theorem XF (a c:Nat)(ha:a<72057594037927936)(hc:c<256):bits .or .i64 (wrap64 ((a:Int)*256)) (c:Int)=wrap64 ((a*256+c:Nat):Int):=by
 have hw:∀z:Int,BitVec.ofInt 64 (wrap64 z)=BitVec.ofInt 64 z:=fun z=>by
  apply BitVec.eq_of_toInt_eq;rw[BitVec.toInt_ofInt,BitVec.toInt_ofInt];unfold wrap64;simp only[Int.bmod_def];omega
 have h1:(BitVec.ofInt 64 (wrap64 ((a:Int)*256))).toNat=a*256:=by
  rw[hw,show((a:Int)*256)=((a*256:Nat):Int) by omega,BitVec.ofInt_natCast,BitVec.toNat_ofNat];exact Nat.mod_eq_of_lt (by omega)
 have h2:(BitVec.ofInt 64 (c:Int)).toNat=c:=by
  rw[BitVec.ofInt_natCast,BitVec.toNat_ofNat];exact Nat.mod_eq_of_lt (by omega)
 show IntKind.i64.wrap ((BitVec.ofInt 64 (wrap64 ((a:Int)*256)) ||| BitVec.ofInt 64 (c:Int)).toNat:Int)=_
 rw[BitVec.toNat_or,h1,h2,vW a c hc,IntWalk.i64_left]
def RY (k:Nat)(l:List UInt8):Int:=wrap64 (FD k l:Int)
theorem GI (k:Nat)(l:List UInt8)(hk:k≤7):RY k l=(FD k l:Int):=by
 have h1:=P7 k l;have h2:256^k≤256^7:=Nat.pow_le_pow_right (by decide) hk;exact IntWalk.wrap64_in _ (by omega)
def nmP (l:List UInt8):Bool:=decide (l.length<1)||decide ((l.drop 1).length<FD 1 l)
end Go.Proofs.YtdmkhmeaphaapaaGreat
namespace Go.Proofs.YtdmkhmeaphaapaaGreat
open Go.RowKit
theorem sizeBuilder:(Tryz.prog.info? 146).map (·.size)=some 2:=by kernel_rfl
theorem N7:(Tryz.prog.info? 5).map (fun i=>(i.zero,i.size,i.bytes))=some (some (.int .u8 0),1,1):=by kernel_rfl
theorem cellsByte:Tryz.prog.cellsOf 5=1:=by kernel_rfl
def PR (T:TypeId)(R:List Value)(B b:Nat)(p:Value)(bs:List Value)(w:World):Prop:=
 B≤b∧∃v,w.heap[b]?=some (.cells ⟨p::v::R⟩ T (0,0))∧w.ownsRow B 5 1 v bs.length bs∧v.ownBlock≠some b
def H8 (T:TypeId)(R:List Value)(B b:Nat)(bs:List Value)(w:World):Prop:=
 PR T R B b (.pointer none) bs w∨PR T R B b (.pointer (some ⟨b,0,none⟩)) bs w
structure JO (T:TypeId)(n:Nat):Prop where
 ne8:T≠5
 lies:liesAt Tryz.prog Tryz.prog.depth T ((n+2)/Tryz.prog.cellsOf T) 0 146 1=true
def Dl (T0:TypeId)(w w':World):Prop:=∀(k:Nat) (cs:Array Value) (fr:Nat×Nat),w.heap[k]?=some (.cells cs T0 fr)→w'.heap[k]?=some (.cells cs T0 fr)
theorem Dl.refl {T0:TypeId}(w:World):Dl T0 w w:=fun _ _ _ h=>h
theorem Dl.trans {T0:TypeId}{a b c:World}(h:Dl T0 a b)(h':Dl T0 b c):Dl T0 a c:=fun k cs fr hk=>h' k cs fr (h k cs fr hk)
theorem Dl.set {T0:TypeId}{w:World}{b j:Nat}{cs:Array Value}{T:TypeId}{fr:Nat×Nat}(hb:w.heap[b]?=some (.cells cs T fr))(hT:T0≠T)(x:Value):Dl T0 w (w.setCell ⟨b,j,none⟩ x):=fun k cs' fr' hk=>by
 by_cases e:k=b
 · subst e;rw[hb]at hk;simp only[Option.some.injEq,Obj.cells.injEq]at hk;exact absurd hk.2.1.symm hT
 · rw[show(w.setCell ⟨b,j,none⟩ x).heap[k]?=w.heap[k]? from Bw _ _ _ _ (fun h=>e h)];exact hk
theorem Dl.alloc {T0:TypeId}{w:World}(o:Obj):Dl T0 w (w.alloc o):=fun k cs fr hk=>by
 rw[Lib.alloc_old w o k (Ab hk)];exact hk
theorem Dl.below {T0:TypeId}{w w':World}(h:Below w.heap.size w w'):Dl T0 w w':=fun k cs fr hk=>by rw[h.block k (Ab hk)];exact hk
theorem Dl.grown {T0:TypeId}{w w':World}{v:Value}{B n:Nat}{xs:List Value}(h:w.grownBy w' v.ownBlock)(hown:w.ownsRow B 5 1 v n xs)(h8:T0≠5):Dl T0 w w':=fun k cs fr hk=>by
 rw[h.block k (Ab hk) (fun e=>Lib.ownBlock_ne hown hk h8 e.symm)];exact hk
def Jg (T:TypeId)(w w':World):Prop:=∀T0:TypeId,T0≠5→T0≠T→Dl T0 w w'
theorem PR.cell0 {T:TypeId}{R:List Value}{B b:Nat}{p:Value}{bs:List Value}{w:World}(h:PR T R B b p bs w):w.cell? ⟨b,0,none⟩=some p:=by
 obtain⟨_,v,hb,_⟩:=h;rw[Ap hb];rfl
theorem PR.shape {T:TypeId}{R:List Value}{B b:Nat}{p:Value}{bs:List Value}{w:World}(h:PR T R B b p bs w):w.shape? b=some (T,R.length+2):=by
 obtain⟨_,v,hb,_⟩:=h;simp[World.shape?,hb]
theorem PR.lt {T:TypeId}{R:List Value}{B b:Nat}{p:Value}{bs:List Value}{w:World}(h:PR T R B b p bs w):b<w.heap.size:=by
 obtain⟨_,v,hb,_⟩:=h;exact Ab hb
theorem PR.frozen0 {T:TypeId}{R:List Value}{B b:Nat}{p:Value}{bs:List Value}{w:World}(h:PR T R B b p bs w):w.frozen? ⟨b,0,none⟩=false:=by
 obtain⟨_,v,hb,_⟩:=h;exact BA hb 0
theorem PR.used {T:TypeId}{R:List Value}{B b:Nat}{p:Value}{bs:List Value}{w:World}(h:PR T R B b p bs w)(q:Value):PR T R B b q bs (w.setCell ⟨b,0,none⟩ q):=by
 have hlt:=h.lt;obtain⟨hB,v,hb,hown,hne⟩:=h;refine⟨hB,v,?_,?_,hne⟩
 · simp[World.setCell,Array.getElem?_modify,hb]
 · refine hown.kept (row:=some b) ⟨rfl,rfl,rfl,by simp[World.setCell],fun k _ hk=>Bw _ _ _ _ (fun e=>hk (by simp[e]))⟩ ?_;exact Or.inr hne
theorem PR.put {T:TypeId}{R:List Value}{B b:Nat}{p v v':Value}{bs':List Value}{w:World}(hB:B≤b)(hb:w.heap[b]?=some (.cells ⟨p::v::R⟩ T (0,0)))(hown:w.ownsRow B 5 1 v' bs'.length bs')(hT:T≠5) :
 PR T R B b p bs' (w.setCell ⟨b,1,none⟩ v'):=by
 have hne:=Lib.ownBlock_ne hown hb hT;refine⟨hB,v',?_,?_,hne⟩
 · simp[World.setCell,Array.getElem?_modify,hb]
 · exact hown.kept (row:=some b) ⟨rfl,rfl,rfl,by simp[World.setCell],fun k _ hk=>Bw _ _ _ _ (fun e=>hk (by simp[e]))⟩ (Or.inr hne)
set_option maxHeartbeats 1000000 in
theorem MH (b:Nat)(w:World)(h0:w.cell? ⟨b,0,none⟩=some (.pointer (some ⟨b,0,none⟩))) :
 Calls Tryz.prog 156 #[.pointer (some ⟨b,0,none⟩)] w fun e w'=>e=.returned (.tuple #[])∧w'=w:=by
 obtain⟨j,hj,_⟩:=Option.map_eq_some_iff.1 sizeBuilder;go_enter Tryz.func156,Tryz.ntmps156;go_wp2;rw[Lib.run_neq_ptr_same w _ Tryz.underlying144 hj];go_wp2;go_end0;exact⟨rfl,rfl⟩
set_option maxHeartbeats 1000000 in
theorem LP (T:TypeId)(n:Nat)(b:Nat)(w:World)(h0:w.cell? ⟨b,0,none⟩=some (.pointer none))(hsh:w.shape? b=some (T,n+2))(hl:liesAt Tryz.prog Tryz.prog.depth T ((n+2)/Tryz.prog.cellsOf T) 0 146 1=true)(hfz:w.frozen? ⟨b,0,none⟩=false) :
 Calls Tryz.prog 156 #[.pointer (some ⟨b,0,none⟩)] w fun e w'=>e=.returned (.tuple #[])∧w'=w.setCell ⟨b,0,none⟩ (.pointer (some ⟨b,0,none⟩)):=by
 obtain⟨j,hj,hjs⟩:=Option.map_eq_some_iff.1 sizeBuilder;go_enter Tryz.func156,Tryz.ntmps156;go_wp2;rw[Lib.run_to_unsafe w ⟨b,0,none⟩ Tryz.underlying144 Tryz.underlying256 hj (by rw[hjs];decide) hsh (Nat.zero_lt_succ _)];simp only[Result.andThen];rw[Oper.upon_value];go_wp2;rw[run_callFunc_extern Tryz.func180 (by kernel_rfl) (by kernel_rfl) (by kernel_rfl) (e:=Extern.AbiNoEscape.same) (by kernel_rfl)];rw[Lib.run_noEscape];simp only[Result.andThen];rw[Oper.upon_value];go_wp2;rw[Lib.run_from_unsafe w ⟨b,0,none⟩ Tryz.underlying256 Tryz.underlying144 hj hsh hl];simp only[Result.andThen];rw[Oper.upon_value];go_wp2;go_end0;exact⟨rfl,rfl⟩
theorem J9 {T:TypeId}{R:List Value}(hT:JO T R.length)(B b:Nat)(bs:List Value)(w:World)(h:H8 T R B b bs w) :
 Calls Tryz.prog 156 #[.pointer (some ⟨b,0,none⟩)] w fun e w'=>e=.returned (.tuple #[])∧(PR T R B b (.pointer (some ⟨b,0,none⟩)) bs w'∧Below B w w'∧Jg T w w'):=by
 rcases h with h|h
 · refine(LP T R.length b w h.cell0 h.shape hT.lies h.frozen0).mono ?_;rintro e w' ⟨rfl,rfl⟩;refine⟨rfl,h.used _,(Ad B w).setCell (p:=⟨b,0,none⟩) h.1 _,?_⟩;obtain⟨_,v,hb,_⟩:=h;exact fun T0 h8 hT0=>Dl.set hb hT0 _
 · refine(MH b w h.cell0).mono ?_;rintro e w' ⟨rfl,rfl⟩;exact⟨rfl,h,Ad B _,fun T0 h8 hT0=>Dl.refl _⟩
set_option maxHeartbeats 2000000 in
theorem ah {T:TypeId}{R:List Value}(hT:JO T R.length)(B b:Nat)(bs:List Value)(s:ByteArray)(w:World)(h:H8 T R B b bs w)(hlen:bs.length+s.size≤140737488355328)(hBw:B≤w.heap.size) :
 Calls Tryz.prog 118 #[.pointer (some ⟨b,0,none⟩),.string s] w fun e w'=>e=.returned (.tuple #[.int .i64 s.size,.nilIface])∧(PR T R B b (.pointer (some ⟨b,0,none⟩)) (bs++Lib.strCells s) w'∧Below B w w'∧Jg T w w'):=by
 obtain⟨i0,hi,hz0,hz1,hz2⟩:=info_parts N7;have HT:=Aa hT;clear hT;go_enter Tryz.func118,Tryz.ntmps118;go_wp2_with (go_at_call 156;refine(J9 HT.out B b bs _ h).mono ?_);rintro e w1 ⟨rfl,h1,hb1,hk1⟩;obtain⟨hB,v,hbk,hown,hne⟩:=h1;have c0:w1.cell? ⟨b,0,none⟩=some (.pointer (some ⟨b,0,none⟩)):=by rw[Ap hbk];rfl
 have c1:w1.cell? ⟨b,1,none⟩=some v:=by rw[Ap hbk];rfl
 go_wp2_with (at_builtin;refine Lib.wpList_append_own_string _ rfl _ _ 121 9 rfl B 5 i0 Tryz.underlying121 Tryz.underlying9 hi hz0 hz1 hz2 _ _ _ rfl hown s rfl ?c3 ?c4 ?c5 ?_)
 case c3=>unfold maxLen;omega
 case c4=>omega
 case c5=>have:=hb1.size;omega
 intro v' w2 hown' hgrow _;have hlt:b<w1.heap.size:=Ab hbk;have hb2:w2.heap[b]?=some (.cells ⟨.pointer (some ⟨b,0,none⟩)::v::R⟩ T (0,0)):=by
  rw[hgrow.block b hlt (fun e=>hne e.symm)];exact hbk
 have d0:w2.cell? ⟨b,0,none⟩=some (.pointer (some ⟨b,0,none⟩)):=by rw[Ap hb2];rfl
 have d1:w2.cell? ⟨b,1,none⟩=some v:=by rw[Ap hb2];rfl
 have f1:w2.frozen? ⟨b,1,none⟩=false:=BA hb2 1;obtain⟨ao,n',cap,rfl⟩:∃ao n' cap,v'=.slice ao n' cap:=by
  rcases hown'.2 with⟨hv,_⟩|⟨g,cap,cur,hv,_⟩
  · exact⟨_,_,_,hv⟩
  · exact⟨_,_,_,hv⟩
 go_wp2;go_ret2;refine⟨rfl,?_,?_,?_⟩
 · exact PR.put hB hb2 (bs':=bs++Lib.strCells s) (by simpa[Lib.strCells_length]using hown') HT.out.ne8
 · exact(hb1.grown hgrow (by have:=hb1.size;omega) (fun k hk=>(hown.lt k hk).1)).setCell (p:=⟨b,1,none⟩) hB _
 · exact fun T0 h8 hT0=>((hk1 T0 h8 hT0).trans (Dl.grown hgrow hown h8)).trans (Dl.set hb2 hT0 _)
set_option maxHeartbeats 2000000 in
theorem u6 {T:TypeId}{R:List Value}(hT:JO T R.length)(B b:Nat)(bs:List Value)(c:Int)(w:World)(h:H8 T R B b bs w)(hlen:bs.length+1≤140737488355328)(hBw:B≤w.heap.size) :
 Calls Tryz.prog 117 #[.pointer (some ⟨b,0,none⟩),.int .u8 c] w fun e w'=>e=.returned .nilIface∧(PR T R B b (.pointer (some ⟨b,0,none⟩)) (bs++[.int .u8 c]) w'∧Below B w w'∧Jg T w w'):=by
 obtain⟨i0,hi,hz0,hz1,hz2⟩:=info_parts N7;have HT:=Aa hT;clear hT;go_enter Tryz.func117,Tryz.ntmps117;go_wp2_with (go_at_call 156;refine(J9 HT.out B b bs _ h).mono ?_);rintro e w1 ⟨rfl,h1,hb1,hk1⟩;obtain⟨hB,v,hbk,hown,hne⟩:=h1;have c0:w1.cell? ⟨b,0,none⟩=some (.pointer (some ⟨b,0,none⟩)):=by rw[Ap hbk];rfl
 have c1:w1.cell? ⟨b,1,none⟩=some v:=by rw[Ap hbk];rfl
 go_wp2_with (at_builtin;refine wpList_append_own _ rfl _ _ 121 rfl B 5 i0 (.int .u8 0) 1 1 Tryz.underlying121 hi hz0 hz1 hz2 rfl (by decide) _ _ _ rfl (hown.alloc _) ⟨w1.heap.size,0,none⟩ 1 1 [.int .u8 c] rfl rfl ?c1 ?c2 ?c3 ?c4 ?c5 ?_)
 case c1 =>
  intro j u hj
  match j,hj with
  | 0,hj=>simp at hj;subst hj;simp[Addr.add]
 case c2=>intro u hu;simp at hu;subst hu;rfl
 case c3=>unfold maxLen;omega
 case c4=>omega
 case c5=>have:=hb1.size;simp;omega
 intro v' w2 hown' hgrow _;have hlt:b<w1.heap.size:=Ab hbk;have hb2:w2.heap[b]?=some (.cells ⟨.pointer (some ⟨b,0,none⟩)::v::R⟩ T (0,0)):=by
  rw[hgrow.block b (by simp;omega) (fun e=>hne e.symm),Lib.alloc_old w1 _ b hlt];exact hbk
 have d0:w2.cell? ⟨b,0,none⟩=some (.pointer (some ⟨b,0,none⟩)):=by rw[Ap hb2];rfl
 have d1:w2.cell? ⟨b,1,none⟩=some v:=by rw[Ap hb2];rfl
 have f1:w2.frozen? ⟨b,1,none⟩=false:=BA hb2 1;obtain⟨g,cap,rfl⟩:∃g cap,v'=.slice (some ⟨g,0,none⟩) (bs.length+1) cap:=by
  rcases hown'.2 with⟨_,h0⟩|⟨g,cap,cur,hv,_⟩
  · omega
  · exact⟨g,cap,hv⟩
 go_wp2;go_ret;refine⟨rfl,?_,?_,?_⟩
 · exact PR.put hB hb2 (bs':=bs++[.int .u8 c]) (by simpa using hown') HT.out.ne8
 · exact((hb1.alloc (by have:=hb1.size;omega) _).grown hgrow (by have:=hb1.size;simp;omega) (fun k hk=>(hown.lt k hk).1)).setCell (p:=⟨b,1,none⟩) hB _
 · exact fun T0 h8 hT0=>(((hk1 T0 h8 hT0).trans (Dl.alloc _)).trans (Dl.grown hgrow (hown.alloc _) h8)).trans (Dl.set hb2 hT0 _)
theorem unsafeString_none (W:World)(q:Option Addr):(Builtin.unsafeString_ #[223,3] 9 #[.pointer q,.int .i64 0]).run Tryz.prog W=.ok (.string .empty) W:=
 Lib.run_unsafeString_none W _ _ _ q
set_option maxHeartbeats 2000000 in
theorem nI {T:TypeId}{R:List Value}(B b:Nat)(l:List UInt8)(w:World)(h:H8 T R B b (Lib.byteCells l) w)(h0:l≠[]) :
 Calls Tryz.prog 119 #[.pointer (some ⟨b,0,none⟩)] w fun e w'=>e=.returned (.string ⟨l.toArray⟩)∧Below B w w':=by
 obtain⟨p,hB,v,hbk,hown,hne⟩:∃p,PR T R B b p (Lib.byteCells l) w:=by
  rcases h with h|h
  · exact⟨_,h⟩
  · exact⟨_,h⟩
 have hl0:l.length≠0:=by simpa using h0
 rw[Lib.byteCells_length]at hown;obtain⟨g,cap,cur,rfl,hbg,hg,hnc,hcm,hcs,htake⟩:∃g cap cur,v=.slice (some ⟨g,0,none⟩) l.length cap∧B≤g∧w.heap[g]?=some (.cells cur 5 (0,0))∧l.length≤cap∧cap≤maxLen∧cur.size=cap*1∧cur.toList.take (l.length*1)=Lib.byteCells l:=by
  rcases hown.2 with⟨_,hz⟩|⟨g,cap,cur,hv,r⟩
  · exact absurd hz hl0
  · exact⟨g,cap,cur,hv,r⟩
 have c1:w.drew.cell? ⟨b,1,none⟩=some (.slice (some ⟨g,0,none⟩) l.length cap):=by
  have:w.drew.heap[b]?=some (.cells ⟨p::.slice (some ⟨g,0,none⟩) l.length cap::R⟩ T (0,0)):=hbk;rw[Ap this];rfl
 have hSD:(Builtin.unsafeSliceData_ #[121] 223 #[.slice (some ⟨g,0,none⟩) l.length cap]).run Tryz.prog w.drew=.ok (.pointer (some ⟨g,0,none⟩)) w.drew:=
  Lib.run_unsafeSliceData_row _ _ _ _ _ _ (by omega)
 have hUS:(Builtin.unsafeString_ #[223,3] 9 #[.pointer (some ⟨g,0,none⟩),.int .i64 l.length]).run Tryz.prog w.drew=.ok (.string ⟨l.toArray⟩) (w.drew.freeze ⟨g,0,none⟩ l.length):=by
  refine Lib.run_unsafeString_row w.drew 223 3 9 5 Tryz.underlying223 cellsByte g cur.size (by have hg':w.drew.heap[g]?=some (.cells cur 5 (0,0)):=hg;simp[World.shape?,hg']) l h0 (by omega) (by unfold maxLen at hcm;omega) ?_;intro j x hx;have:=hown.cells (g:=g) rfl j (.int .u8 x.toNat) (by simp[Lib.byteCells,hx]);exact this
 have mixed:Tryz.prog.follows .mixedOrders=true:=by kernel_rfl
 go_enter Tryz.func119,Tryz.ntmps119;go_wp2;go_region_o
 all_goals (go_wp2;go_ret;exact⟨rfl,Lib.below_freeze (Cy (Ad B w)) (p:=⟨g,0,none⟩) hbg _⟩)
set_option maxHeartbeats 2000000 in
theorem vD {T:TypeId}{R:List Value}(B b:Nat)(p:Value)(w:World)(hbk:w.heap[b]?=some (.cells ⟨p::.slice none 0 0::R⟩ T (0,0))) :
 Calls Tryz.prog 119 #[.pointer (some ⟨b,0,none⟩)] w fun e w'=>e=.returned (.string ⟨#[]⟩)∧Below B w w':=by
 have hUS:=unsafeString_none;have c1:w.drew.cell? ⟨b,1,none⟩=some (.slice none 0 0):=by
  have:w.drew.heap[b]?=some (.cells ⟨p::.slice none 0 0::R⟩ T (0,0)):=hbk;rw[Ap this];rfl
 have hSD:(Builtin.unsafeSliceData_ #[121] 223 #[.slice none 0 0]).run Tryz.prog w.drew=.ok (.pointer none) w.drew:=rfl;have mixed:Tryz.prog.follows .mixedOrders=true:=by kernel_rfl
 go_enter Tryz.func119,Tryz.ntmps119;go_wp2;go_region_o
 all_goals (go_wp2;go_ret;exact⟨rfl,Cy (Ad B w)⟩)
set_option maxHeartbeats 2000000 in
theorem aJ {T:TypeId}{R:List Value}(B b g:Nat)(p:Value)(cur:Array Value)(w:World)(hBw:B≤w.heap.size)(hbk:w.heap[b]?=some (.cells ⟨p::.slice (some ⟨g,0,none⟩) 0 0::R⟩ T (0,0)))(hg:w.heap[g]?=some (.cells cur 5 (0,0))) :
 Calls Tryz.prog 119 #[.pointer (some ⟨b,0,none⟩)] w fun e w'=>e=.returned (.string ⟨#[]⟩)∧Below B w w':=by
 have hUS:=unsafeString_none;have hlt:b<w.heap.size:=Ab hbk;have c1:w.drew.cell? ⟨b,1,none⟩=some (.slice (some ⟨g,0,none⟩) 0 0):=by
  have:w.drew.heap[b]?=some (.cells ⟨p::.slice (some ⟨g,0,none⟩) 0 0::R⟩ T (0,0)):=hbk;rw[Ap this];rfl
 have hSD:(Builtin.unsafeSliceData_ #[121] 223 #[.slice (some ⟨g,0,none⟩) 0 0]).run Tryz.prog w.drew=.ok (.pointer (some ⟨w.drew.heap.size,0,none⟩)) (w.drew.alloc (.view ⟨g,0,none⟩ 5)):=
  Lib.run_unsafeSliceData_zero w.drew _ _ 5 Tryz.underlying223 ⟨g,0,none⟩ 0 (5,cur.size) (by have hg':w.drew.heap[g]?=some (.cells cur 5 (0,0)):=hg;simp[World.shape?,hg'])
 have c2:(w.drew.alloc (.view ⟨g,0,none⟩ 5)).cell? ⟨b,1,none⟩=some (.slice (some ⟨g,0,none⟩) 0 0):=by
  have:(w.drew.alloc (.view ⟨g,0,none⟩ 5)).heap[b]?=_:=(Lib.alloc_old w.drew _ b hlt).trans hbk;rw[Ap this];rfl
 have c3:(w.alloc (.view ⟨g,0,none⟩ 5)).drew.cell? ⟨b,1,none⟩=some (.slice (some ⟨g,0,none⟩) 0 0):=c2;have c0:w.cell? ⟨b,1,none⟩=some (.slice (some ⟨g,0,none⟩) 0 0):=c1;have mixed:Tryz.prog.follows .mixedOrders=true:=by kernel_rfl
 go_enter Tryz.func119,Tryz.ntmps119;go_wp2;go_region_o
 all_goals (go_wp2;go_ret;exact⟨rfl,(Cy (Ad B w)).alloc hBw _⟩)
set_option maxHeartbeats 2000000 in
theorem nJ {T:TypeId}{R:List Value}(B b g cap:Nat)(p:Value)(w:World)(hc0:cap≠0)(hbk:w.heap[b]?=some (.cells ⟨p::.slice (some ⟨g,0,none⟩) 0 cap::R⟩ T (0,0))) :
 Calls Tryz.prog 119 #[.pointer (some ⟨b,0,none⟩)] w fun e w'=>e=.returned (.string ⟨#[]⟩)∧Below B w w':=by
 have hUS:=unsafeString_none;have c1:w.drew.cell? ⟨b,1,none⟩=some (.slice (some ⟨g,0,none⟩) 0 cap):=by
  have:w.drew.heap[b]?=some (.cells ⟨p::.slice (some ⟨g,0,none⟩) 0 cap::R⟩ T (0,0)):=hbk;rw[Ap this];rfl
 have hSD:(Builtin.unsafeSliceData_ #[121] 223 #[.slice (some ⟨g,0,none⟩) 0 cap]).run Tryz.prog w.drew=.ok (.pointer (some ⟨g,0,none⟩)) w.drew:=
  Lib.run_unsafeSliceData_row _ _ _ _ _ _ hc0
 clear hc0;have mixed:Tryz.prog.follows .mixedOrders=true:=by kernel_rfl
 go_enter Tryz.func119,Tryz.ntmps119;go_wp2;go_region_o
 all_goals (go_wp2;go_ret;exact⟨rfl,Cy (Ad B w)⟩)
theorem yx {T:TypeId}{R:List Value}(B b:Nat)(l:List UInt8)(w:World)(h:H8 T R B b (Lib.byteCells l) w)(hBw:B≤w.heap.size) :
 Calls Tryz.prog 119 #[.pointer (some ⟨b,0,none⟩)] w fun e w'=>e=.returned (.string ⟨l.toArray⟩)∧Below B w w':=by
 cases l with
 | cons x r=>exact nI B b (x::r) w h (by simp)
 | nil =>
  obtain⟨p,hB,v,hbk,hown,hne⟩:∃p,PR T R B b p [] w:=by
   rcases h with h|h
   · exact⟨_,h⟩
   · exact⟨_,h⟩
  rcases hown.2 with⟨rfl,_⟩|⟨g,cap,cur,rfl,hbg,hg,_,_,_,_⟩
  · exact vD B b p w hbk
  · by_cases hc0:cap=0
    · subst hc0;exact aJ B b g p cur w hBw hbk hg
    · exact nJ B b g cap p w hc0 hbk
theorem H8.below {T:TypeId}{R:List Value}{B b:Nat}{bs:List Value}{w w':World}(h:H8 T R B b bs w)(hb:Below w.heap.size w w'):H8 T R B b bs w':=by
 have key:∀p,PR T R B b p bs w→PR T R B b p bs w':=by
  rintro p ⟨hB,v,hbk,hown,hne⟩;refine⟨hB,v,by rw[hb.block b (Ab hbk)];exact hbk,hown.kept (row:=none) ⟨hb.os,hb.tape,hb.output,hb.size,fun k hk _=>hb.block k hk⟩ ?_,hne⟩;cases h:v.ownBlock with
  | none=>exact Or.inl rfl
  | some x=>exact Or.inr (by simp)
 rcases h with h|h
 · exact Or.inl (key _ h)
 · exact Or.inr (key _ h)
end Go.Proofs.YtdmkhmeaphaapaaGreat
namespace Go.Proofs.YtdmkhmeaphaapaaGreat
open Go.RowKit Go.Sort
abbrev Rk (T:TypeId):=H8 T []
def Gd (T:TypeId)(B b:Nat)(w:World)(l:List UInt8)(e:Ending)(w':World):Prop:=e=.returned (.tuple #[])∧Rk T B b (Lib.byteCells l) w'∧Below B w w'∧Jg T w w'
theorem Jg.refl {T:TypeId}(w:World):Jg T w w:=fun _ _ _=>Dl.refl _
theorem Jg.trans {T:TypeId}{a b c:World}(h:Jg T a b)(h':Jg T b c):Jg T a c:=fun T0 h1 h2=>(h T0 h1 h2).trans (h' T0 h1 h2)
theorem byteCells_snoc (u:List UInt8)(x:UInt8):Lib.byteCells u++[.int .u8 x.toNat]=Lib.byteCells (u++[x]):=by simp[Lib.byteCells]
set_option maxHeartbeats 4000000 in
theorem KE {T:TypeId}(hT:JO T 0)(B b n k:Nat)(l:List UInt8)(w:World)(h:Rk T B b (Lib.byteCells l) w)(hn:n≤9223372036854775807)(hk:k≤8)(hl:l.length≤1000000)(hBw:B≤w.heap.size) :
 Calls Tryz.prog 75 #[DF b,.int .i64 (n:Int),.int .i64 (k:Int)] w (Gd T B b w (l++BB n k)):=by
 unfold Gd;have cW:Hid (∀(u:List UInt8) (c:Int) (W:World),Rk T B b (Lib.byteCells u) W→u.length≤1000008→B≤W.heap.size→Calls Tryz.prog 117 #[.pointer (some ⟨b,0,none⟩),.int .u8 c] W fun e w'=>e=.returned .nilIface∧(PR T [] B b (.pointer (some ⟨b,0,none⟩)) (Lib.byteCells u++[.int .u8 c]) w'∧Below B W w'∧Jg T W w')):=
  Aa fun u c W hu hul hB=>u6 hT B b (Lib.byteCells u) c W hu (by rw[Lib.byteCells_length];omega) hB
 have H:=Aa h;clear h hT;go_enter Tryz.func75,Tryz.ntmps75;go_wp2;go_loopw [6] (fun iv wr=>∃(z:Int) (j:Nat) (u:List UInt8),iv=.int .i64 z∧z+1=j∧j≤k∧Rk T B b (Lib.byteCells u) wr∧u++BB n j=l++BB n k∧Below B w wr∧Jg T w wr) (fun iv _=>(intOf iv+1).toNat)
 case atStart=>exact⟨(k:Int)-1,k,l,by first|rfl|go_num,by omega,Ae _,H.out,rfl,Ad _ _,Jg.refl _⟩
 case round =>
  obtain⟨z,j,u,rfl,hz,hj,hu,hul,hb,hf⟩:=hrel;have HU:=Aa hu;have xX:=Aa hul;have HB:=Aa hb;have HF:=Aa hf;have hlen:=Gu List.length hul;rw[A7,A7,Ah,Ah]at hlen;have hbs:=hb.size;have yB:u.length≤1000008:=by omega
  have hBr:B≤wr.heap.size:=by omega
  have uN:=cW.out u;have ZQ:=Aa yB;have zG:=Aa hBr;clear hu hul hb hf hlen hbs yB hBr;cases j with
  | zero =>
   obtain rfl:z=-1:=by omega
   clear hz;go_wp2;go_end0;refine⟨rfl,?_,HB.out,HF.out⟩;have h9:=xX.out;simp only[BB,List.append_nil]at h9;rw[←h9];exact HU.out
  | succ i =>
   have hcase:(i=0∧z=0)∨(i=1∧z=1)∨(i=2∧z=2)∨(i=3∧z=3)∨(i=4∧z=4)∨(i=5∧z=5)∨(i=6∧z=6)∨(i=7∧z=7):=by omega
   clear hz;have hw0:IntKind.i64.wrap 0=0:=by decide
   have hw8:IntKind.i64.wrap 8=8:=by decide
   have hw16:IntKind.i64.wrap 16=16:=by decide
   have Ade:IntKind.i64.wrap 24=24:=by decide
   have hw32:IntKind.i64.wrap 32=32:=by decide
   have Adc:IntKind.i64.wrap 40=40:=by decide
   have Adb:IntKind.i64.wrap 48=48:=by decide
   have Ada:IntKind.i64.wrap 56=56:=by decide
   rcases hcase with⟨rfl,rfl⟩|⟨rfl,rfl⟩|⟨rfl,rfl⟩|⟨rfl,rfl⟩|⟨rfl,rfl⟩|⟨rfl,rfl⟩|⟨rfl,rfl⟩|⟨rfl,rfl⟩
   · have hx:(n:Int)%256=((UInt8.ofNat (n/256^0)).toNat:Int):=by rw[Ju];omega
     have HX:=Aa hx;have dV:Hid (u++[UInt8.ofNat (n/256^0)]++BB n 0=l++BB n k):=Aa (by rw[Ch];exact xX.out);clear hx;go_wp2_with fail;go_still_tail 8,(by kernel_rfl);change wpList _ _ _ _ _ wr.drew;have hd:Below B wr wr.drew:=Cy (Ad _ _);have HW2:Hid (Rk T B b (Lib.byteCells u) wr.drew):=Aa (HU.out.below (Cy (Ad _ _)));have HB2:Hid (Below B w wr.drew):=Aa (HB.out.trans hd);have Qs:Hid (Jg T w wr.drew):=Aa (HF.out.trans fun T0 _ _=>Dl.below (Cy (Ad _ _)));have HS2:Hid (B≤wr.drew.heap.size):=Aa zG.out;clear hd;generalize wr.drew=w2 at *;go_wp2_with (go_at_call 117;refine(uN _ w2 HW2.out ZQ.out HS2.out).mono ?_;rintro e w3 ⟨rfl,hw3,hb3,hf3⟩;have HW3:=Aa hw3;have HB3:=Aa (HB2.out.trans hb3);have Ex:=Aa (Qs.out.trans hf3);clear hw3 hb3 hf3);go_roundw
     case rel=>exact⟨_,0,_,rfl,by first|rfl|decide,by omega,by have h9:=HW3.out;rw[HX.out,byteCells_snoc]at h9;exact Or.inr h9,dV.out,HB3.out,Ex.out⟩
     case measure=>simp[intOf]<;>omega
   · have hx:(n:Int)/256%256=((UInt8.ofNat (n/256^1)).toNat:Int):=by rw[Ju];omega
     have HX:=Aa hx;have dV:Hid (u++[UInt8.ofNat (n/256^1)]++BB n 1=l++BB n k):=Aa (by rw[Ch];exact xX.out);clear hx;go_wp2_with fail;go_still_tail 8,(by kernel_rfl);change wpList _ _ _ _ _ wr.drew;have hd:Below B wr wr.drew:=Cy (Ad _ _);have HW2:Hid (Rk T B b (Lib.byteCells u) wr.drew):=Aa (HU.out.below (Cy (Ad _ _)));have HB2:Hid (Below B w wr.drew):=Aa (HB.out.trans hd);have Qs:Hid (Jg T w wr.drew):=Aa (HF.out.trans fun T0 _ _=>Dl.below (Cy (Ad _ _)));have HS2:Hid (B≤wr.drew.heap.size):=Aa zG.out;clear hd;generalize wr.drew=w2 at *;go_wp2_with (go_at_call 117;refine(uN _ w2 HW2.out ZQ.out HS2.out).mono ?_;rintro e w3 ⟨rfl,hw3,hb3,hf3⟩;have HW3:=Aa hw3;have HB3:=Aa (HB2.out.trans hb3);have Ex:=Aa (Qs.out.trans hf3);clear hw3 hb3 hf3);go_roundw
     case rel=>exact⟨_,1,_,rfl,by first|rfl|decide,by omega,by have h9:=HW3.out;rw[HX.out,byteCells_snoc]at h9;exact Or.inr h9,dV.out,HB3.out,Ex.out⟩
     case measure=>simp[intOf]<;>omega
   · have hx:(n:Int)/65536%256=((UInt8.ofNat (n/256^2)).toNat:Int):=by rw[Ju];omega
     have HX:=Aa hx;have dV:Hid (u++[UInt8.ofNat (n/256^2)]++BB n 2=l++BB n k):=Aa (by rw[Ch];exact xX.out);clear hx;go_wp2_with fail;go_still_tail 8,(by kernel_rfl);change wpList _ _ _ _ _ wr.drew;have hd:Below B wr wr.drew:=Cy (Ad _ _);have HW2:Hid (Rk T B b (Lib.byteCells u) wr.drew):=Aa (HU.out.below (Cy (Ad _ _)));have HB2:Hid (Below B w wr.drew):=Aa (HB.out.trans hd);have Qs:Hid (Jg T w wr.drew):=Aa (HF.out.trans fun T0 _ _=>Dl.below (Cy (Ad _ _)));have HS2:Hid (B≤wr.drew.heap.size):=Aa zG.out;clear hd;generalize wr.drew=w2 at *;go_wp2_with (go_at_call 117;refine(uN _ w2 HW2.out ZQ.out HS2.out).mono ?_;rintro e w3 ⟨rfl,hw3,hb3,hf3⟩;have HW3:=Aa hw3;have HB3:=Aa (HB2.out.trans hb3);have Ex:=Aa (Qs.out.trans hf3);clear hw3 hb3 hf3);go_roundw
     case rel=>exact⟨_,2,_,rfl,by first|rfl|decide,by omega,by have h9:=HW3.out;rw[HX.out,byteCells_snoc]at h9;exact Or.inr h9,dV.out,HB3.out,Ex.out⟩
     case measure=>simp[intOf]<;>omega
   · have hx:(n:Int)/16777216%256=((UInt8.ofNat (n/256^3)).toNat:Int):=by rw[Ju];omega
     have HX:=Aa hx;have dV:Hid (u++[UInt8.ofNat (n/256^3)]++BB n 3=l++BB n k):=Aa (by rw[Ch];exact xX.out);clear hx;go_wp2_with fail;go_still_tail 8,(by kernel_rfl);change wpList _ _ _ _ _ wr.drew;have hd:Below B wr wr.drew:=Cy (Ad _ _);have HW2:Hid (Rk T B b (Lib.byteCells u) wr.drew):=Aa (HU.out.below (Cy (Ad _ _)));have HB2:Hid (Below B w wr.drew):=Aa (HB.out.trans hd);have Qs:Hid (Jg T w wr.drew):=Aa (HF.out.trans fun T0 _ _=>Dl.below (Cy (Ad _ _)));have HS2:Hid (B≤wr.drew.heap.size):=Aa zG.out;clear hd;generalize wr.drew=w2 at *;go_wp2_with (go_at_call 117;refine(uN _ w2 HW2.out ZQ.out HS2.out).mono ?_;rintro e w3 ⟨rfl,hw3,hb3,hf3⟩;have HW3:=Aa hw3;have HB3:=Aa (HB2.out.trans hb3);have Ex:=Aa (Qs.out.trans hf3);clear hw3 hb3 hf3);go_roundw
     case rel=>exact⟨_,3,_,rfl,by first|rfl|decide,by omega,by have h9:=HW3.out;rw[HX.out,byteCells_snoc]at h9;exact Or.inr h9,dV.out,HB3.out,Ex.out⟩
     case measure=>simp[intOf]<;>omega
   · have hx:(n:Int)/4294967296%256=((UInt8.ofNat (n/256^4)).toNat:Int):=by rw[Ju];omega
     have HX:=Aa hx;have dV:Hid (u++[UInt8.ofNat (n/256^4)]++BB n 4=l++BB n k):=Aa (by rw[Ch];exact xX.out);clear hx;go_wp2_with fail;go_still_tail 8,(by kernel_rfl);change wpList _ _ _ _ _ wr.drew;have hd:Below B wr wr.drew:=Cy (Ad _ _);have HW2:Hid (Rk T B b (Lib.byteCells u) wr.drew):=Aa (HU.out.below (Cy (Ad _ _)));have HB2:Hid (Below B w wr.drew):=Aa (HB.out.trans hd);have Qs:Hid (Jg T w wr.drew):=Aa (HF.out.trans fun T0 _ _=>Dl.below (Cy (Ad _ _)));have HS2:Hid (B≤wr.drew.heap.size):=Aa zG.out;clear hd;generalize wr.drew=w2 at *;go_wp2_with (go_at_call 117;refine(uN _ w2 HW2.out ZQ.out HS2.out).mono ?_;rintro e w3 ⟨rfl,hw3,hb3,hf3⟩;have HW3:=Aa hw3;have HB3:=Aa (HB2.out.trans hb3);have Ex:=Aa (Qs.out.trans hf3);clear hw3 hb3 hf3);go_roundw
     case rel=>exact⟨_,4,_,rfl,by first|rfl|decide,by omega,by have h9:=HW3.out;rw[HX.out,byteCells_snoc]at h9;exact Or.inr h9,dV.out,HB3.out,Ex.out⟩
     case measure=>simp[intOf]<;>omega
   · have hx:(n:Int)/1099511627776%256=((UInt8.ofNat (n/256^5)).toNat:Int):=by rw[Ju];omega
     have HX:=Aa hx;have dV:Hid (u++[UInt8.ofNat (n/256^5)]++BB n 5=l++BB n k):=Aa (by rw[Ch];exact xX.out);clear hx;go_wp2_with fail;go_still_tail 8,(by kernel_rfl);change wpList _ _ _ _ _ wr.drew;have hd:Below B wr wr.drew:=Cy (Ad _ _);have HW2:Hid (Rk T B b (Lib.byteCells u) wr.drew):=Aa (HU.out.below (Cy (Ad _ _)));have HB2:Hid (Below B w wr.drew):=Aa (HB.out.trans hd);have Qs:Hid (Jg T w wr.drew):=Aa (HF.out.trans fun T0 _ _=>Dl.below (Cy (Ad _ _)));have HS2:Hid (B≤wr.drew.heap.size):=Aa zG.out;clear hd;generalize wr.drew=w2 at *;go_wp2_with (go_at_call 117;refine(uN _ w2 HW2.out ZQ.out HS2.out).mono ?_;rintro e w3 ⟨rfl,hw3,hb3,hf3⟩;have HW3:=Aa hw3;have HB3:=Aa (HB2.out.trans hb3);have Ex:=Aa (Qs.out.trans hf3);clear hw3 hb3 hf3);go_roundw
     case rel=>exact⟨_,5,_,rfl,by first|rfl|decide,by omega,by have h9:=HW3.out;rw[HX.out,byteCells_snoc]at h9;exact Or.inr h9,dV.out,HB3.out,Ex.out⟩
     case measure=>simp[intOf]<;>omega
   · have hx:(n:Int)/281474976710656%256=((UInt8.ofNat (n/256^6)).toNat:Int):=by rw[Ju];omega
     have HX:=Aa hx;have dV:Hid (u++[UInt8.ofNat (n/256^6)]++BB n 6=l++BB n k):=Aa (by rw[Ch];exact xX.out);clear hx;go_wp2_with fail;go_still_tail 8,(by kernel_rfl);change wpList _ _ _ _ _ wr.drew;have hd:Below B wr wr.drew:=Cy (Ad _ _);have HW2:Hid (Rk T B b (Lib.byteCells u) wr.drew):=Aa (HU.out.below (Cy (Ad _ _)));have HB2:Hid (Below B w wr.drew):=Aa (HB.out.trans hd);have Qs:Hid (Jg T w wr.drew):=Aa (HF.out.trans fun T0 _ _=>Dl.below (Cy (Ad _ _)));have HS2:Hid (B≤wr.drew.heap.size):=Aa zG.out;clear hd;generalize wr.drew=w2 at *;go_wp2_with (go_at_call 117;refine(uN _ w2 HW2.out ZQ.out HS2.out).mono ?_;rintro e w3 ⟨rfl,hw3,hb3,hf3⟩;have HW3:=Aa hw3;have HB3:=Aa (HB2.out.trans hb3);have Ex:=Aa (Qs.out.trans hf3);clear hw3 hb3 hf3);go_roundw
     case rel=>exact⟨_,6,_,rfl,by first|rfl|decide,by omega,by have h9:=HW3.out;rw[HX.out,byteCells_snoc]at h9;exact Or.inr h9,dV.out,HB3.out,Ex.out⟩
     case measure=>simp[intOf]<;>omega
   · have hx:(n:Int)/72057594037927936=((UInt8.ofNat (n/256^7)).toNat:Int):=by rw[Ju];omega
     have HX:=Aa hx;have dV:Hid (u++[UInt8.ofNat (n/256^7)]++BB n 7=l++BB n k):=Aa (by rw[Ch];exact xX.out);clear hx;go_wp2_with fail;go_still_tail 8,(by kernel_rfl);change wpList _ _ _ _ _ wr.drew;have hd:Below B wr wr.drew:=Cy (Ad _ _);have HW2:Hid (Rk T B b (Lib.byteCells u) wr.drew):=Aa (HU.out.below (Cy (Ad _ _)));have HB2:Hid (Below B w wr.drew):=Aa (HB.out.trans hd);have Qs:Hid (Jg T w wr.drew):=Aa (HF.out.trans fun T0 _ _=>Dl.below (Cy (Ad _ _)));have HS2:Hid (B≤wr.drew.heap.size):=Aa zG.out;clear hd;generalize wr.drew=w2 at *;go_wp2_with (go_at_call 117;refine(uN _ w2 HW2.out ZQ.out HS2.out).mono ?_;rintro e w3 ⟨rfl,hw3,hb3,hf3⟩;have HW3:=Aa hw3;have HB3:=Aa (HB2.out.trans hb3);have Ex:=Aa (Qs.out.trans hf3);clear hw3 hb3 hf3);go_roundw
     case rel=>exact⟨_,7,_,rfl,by first|rfl|decide,by omega,by have h9:=HW3.out;rw[HX.out,byteCells_snoc]at h9;exact Or.inr h9,dV.out,HB3.out,Ex.out⟩
     case measure=>simp[intOf]<;>omega
set_option maxHeartbeats 2000000 in
theorem eQ {T:TypeId}(hT:JO T 0)(B b:Nat)(s:ByteArray)(l:List UInt8)(w:World)(h:Rk T B b (Lib.byteCells l) w)(hs:s.size≤255)(hl:l.length≤999000)(hBw:B≤w.heap.size) :
 Calls Tryz.prog 76 #[DF b,.string s] w (Gd T B b w (l++EU s)):=by
 unfold Gd;have cN:=KE hT B b s.size 1 l w h (by omega) (by omega) (by omega) hBw;unfold Gd at cN;have cW:Hid (∀(u:List UInt8) (W:World),Rk T B b (Lib.byteCells u) W→u.length≤1000008→B≤W.heap.size→Calls Tryz.prog 118 #[.pointer (some ⟨b,0,none⟩),.string s] W fun e w'=>e=.returned (.tuple #[.int .i64 s.size,.nilIface])∧(PR T [] B b (.pointer (some ⟨b,0,none⟩)) (Lib.byteCells u++Lib.strCells s) w'∧Below B W w'∧Jg T W w')):=
  Aa fun u W hu hul hB=>ah hT B b (Lib.byteCells u) s W hu (by rw[Lib.byteCells_length];omega) hB
 have hl2:(l++BB s.size 1).length≤1000008:=by rw[A7,Ah];omega
 have HL2:=Aa hl2;have FU:=Aa hBw;clear h hl2 hT;go_enter Tryz.func76,Tryz.ntmps76;go_wp2_with (first|(go_at_call 75;refine cN.mono ?_;rintro e w1 ⟨rfl,h1,hb1,hf1⟩;have uN:=cW.out _ w1 h1 HL2.out (Ao FU.out hb1.size);have HB1:=Aa hb1;have UD:=Aa hf1;clear h1 hb1 hf1)|(go_at_call 118;refine uN.mono ?_;rintro e w2 ⟨rfl,h2,hb2,hf2⟩;have HW2:=Aa h2;have HB2:=Aa (HB1.out.trans hb2);have Qs:=Aa (UD.out.trans hf2);clear h2 hb2 hf2));go_end0;refine⟨rfl,Or.inr ?_,HB2.out,Qs.out⟩;have h9:=HW2.out;unfold EU;rw[←Ch];have e9:Lib.byteCells (l++BB s.size 1++s.data.toList)=Lib.byteCells (l++BB s.size 1)++Lib.strCells s:=by simp[Lib.byteCells,Lib.strCells]
 rw[e9];exact h9
set_option maxHeartbeats 2000000 in
theorem eT {T:TypeId}(hT:JO T 0)(B b:Nat)(t:Bool)(l:List UInt8)(w:World)(h:Rk T B b (Lib.byteCells l) w)(hl:l.length≤999000)(hBw:B≤w.heap.size) :
 Calls Tryz.prog 77 #[DF b,.bool t] w (Gd T B b w (l++BB (DI t) 1)):=by
 have cN:=KE hT B b (DI t) 1 l w h (by unfold DI;split<;>omega) (by omega) (by omega) hBw;unfold Gd at cN ⊢;clear h hT;cases t with
 | true =>
  go_enter Tryz.func77,Tryz.ntmps77;go_wp2_with (go_at_call 75;refine cN.mono ?_;rintro e w1 ⟨rfl,h1⟩;have H1:=Aa h1;clear h1);go_end0;exact⟨rfl,H1.out⟩
 | false =>
  go_enter Tryz.func77,Tryz.ntmps77;go_wp2_with (go_at_call 75;refine cN.mono ?_;rintro e w1 ⟨rfl,h1⟩;have H1:=Aa h1;clear h1);go_end0;exact⟨rfl,H1.out⟩
set_option maxHeartbeats 2000000 in
theorem Ws {T:TypeId}(B b:Nat)(l:List UInt8)(w:World)(h:Rk T B b (Lib.byteCells l) w)(hBw:B≤w.heap.size) :
 Calls Tryz.prog 78 #[DF b] w fun e w'=>e=.returned (.string ⟨l.toArray⟩)∧Below B w w':=by
 have cS:=yx B b l w h hBw;clear h;go_enter Tryz.func78,Tryz.ntmps78;go_wp2_with (go_at_call 119;refine cS.mono ?_;rintro e w1 ⟨rfl,h1⟩;have H1:=Aa h1;clear h1);go_ret;exact⟨rfl,H1.out⟩
def Ej (T:TypeId)(b:Nat)(l:List UInt8)(p:Bool)(w:World):Prop:=w.heap[b]?=some (.cells #[.string ⟨l.toArray⟩,.bool p] T (0,0))
theorem Db {a w w':World}{row:Option Nat}(h:a.grownBy w row)(k:w.grownBy w' row):a.grownBy w' row:=
 ⟨k.os.trans h.os,k.tape.trans h.tape,k.output.trans h.output,Ao h.size k.size,fun j hj hn=>(k.block j (Nat.lt_of_lt_of_le hj h.size) hn).trans (h.block j hj hn)⟩
theorem OY (w:World)(b i:Nat)(v:Value):w.grownBy (w.setCell ⟨b,i,none⟩ v) (some b):=
 have h:=(Ad b w).setCell (p:=⟨b,i,none⟩) (Ae _) v
 ⟨h.os,h.tape,h.output,h.size,fun j hj hn=>Bw w ⟨b,i,none⟩ v j fun e=>hn (by rw[show j=b from e])⟩
theorem FY {w w':World}(h:Below w.heap.size w w')(row:Option Nat):w.grownBy w' row:=⟨h.os,h.tape,h.output,h.size,fun j hj _=>h.block j hj⟩
theorem OX {w w':World}{b:Nat}(h:w.grownBy w' (some b))(hb:b≤w.heap.size):Below b w w':=(Ad b w).grown h hb fun k hk=>Nat.le_of_eq (BS hk)
def Ew (T:TypeId)(b:Nat)(w:World)(l:List UInt8)(p:Bool)(v:Value)(e:Ending)(w':World):Prop:=e=.returned v∧Ej T b l p w'∧w.grownBy w' (some b)
theorem Yu {T:TypeId}{b:Nat}{l:List UInt8}{p:Bool}{w w':World}(h:Ej T b l p w)(hg:w.grownBy w' (some b)):Jg T w w':=fun T0 _ h2 k cs fr hk=>by
 rw[hg.block k (Ab hk) (fun e=>by
  obtain rfl:=BS e;rw[h]at hk;injection hk with hk;injection hk with _ h3 _;exact h2 h3.symm)]
 exact hk
theorem Ej.set {T:TypeId}{b:Nat}{l:List UInt8}{p:Bool}{w:World}(h:Ej T b l p w)(m:List UInt8):Ej T b m p (w.setCell ⟨b,0,none⟩ (.string ⟨m.toArray⟩))∧w.grownBy (w.setCell ⟨b,0,none⟩ (.string ⟨m.toArray⟩)) (some b):=by
 refine⟨?_,OY w b 0 _⟩;unfold Ej at *;rw[Bn _ b 0 _ _ _ h];rfl
theorem Ej.mark {T:TypeId}{b:Nat}{l:List UInt8}{p:Bool}{w:World}(h:Ej T b l p w)(q:Bool):Ej T b l q (w.setCell ⟨b,1,none⟩ (.bool q))∧w.grownBy (w.setCell ⟨b,1,none⟩ (.bool q)) (some b):=by
 refine⟨?_,OY w b 1 _⟩;unfold Ej at *;rw[Bn _ b 1 _ _ _ h];rfl
theorem U9 (l:List UInt8)(k:Nat)(h:k≤l.length):(⟨l.toArray⟩:ByteArray).extract 0 k=⟨(l.take k).toArray⟩:=by
 apply ByteArray.ext;rw[ByteArray.data_extract];apply Array.toList_inj.1;rw[Array.toList_extract,List.extract_eq_take_drop];simp only[List.drop_zero,Nat.sub_zero]
theorem Va (l:List UInt8)(k:Nat)(h:k≤l.length):(⟨l.toArray⟩:ByteArray).extract k l.length=⟨(l.drop k).toArray⟩:=by
 apply ByteArray.ext;rw[ByteArray.data_extract];apply Array.toList_inj.1;rw[Array.toList_extract,List.extract_eq_take_drop];exact CV (by rw[Ea];exact Ae _)
set_option maxHeartbeats 2000000 in
theorem fo {T:TypeId}(b k:Nat)(l:List UInt8)(p:Bool)(w:World)(h:Ej T b l p w)(hk:k≤255)(hl:l.length≤9223372036854775807) :
 Calls Tryz.prog 97 #[DF b,.int .i64 (k:Int)] w (Ew T b w (l.drop k) (p||decide (l.length<k)) (.string ⟨(l.take k).toArray⟩)):=by
 unfold Ew;have c0:w.cell? ⟨b,0,none⟩=some (.string ⟨l.toArray⟩):=Ap h 0;have f0:w.frozen? ⟨b,0,none⟩=false:=BA h 0;have f1:w.frozen? ⟨b,1,none⟩=false:=BA h 1;have d1:w.cell? ⟨b,1,none⟩=some (.bool p):=Ap h 1;have hsz:(⟨l.toArray⟩:ByteArray).size=l.length:=rfl;by_cases hlt:l.length<k
 · have H:=Aa (h.mark true);have hi:(l.length:Int)<(k:Int):=by omega
   have e1:=U9 l l.length (Ae _);have e2:=Va l l.length (Ae _);rw[CV (Ae _)]at e1;rw[JW (Ae _)]at e2;have c1:(w.setCell ⟨b,1,none⟩ (.bool true)).cell? ⟨b,0,none⟩=some (.string ⟨l.toArray⟩):=Ap H.out.1 0;have g0:(w.setCell ⟨b,1,none⟩ (.bool true)).frozen? ⟨b,0,none⟩=false:=BA H.out.1 0;have HE:=Aa (And.intro e1 e2);rw[A8 hlt,Bool.or_true,JW (show l.length≤k by omega),CV (show l.length≤k by omega)];clear h e1 e2;go_enter Tryz.func97,Tryz.ntmps97;go_wp2_with fail;go_ret;have h9:=H.out.1.set [];have e1:=HE.out.1;refine⟨by first|rfl|(rw[←e1];rfl)|(rw[e1];rfl),h9.1,Db H.out.2 h9.2⟩
 · have hi:¬(l.length:Int)<(k:Int):=by omega
   have e1:=U9 l k (by omega);have e2:=Va l k (by omega);have H:=Aa h;have HE:=Aa (And.intro e1 e2);rw[Bb hlt,Bool.or_false];clear h e1 e2;go_enter Tryz.func97,Tryz.ntmps97;go_wp2_with fail;go_ret;have e1:=HE.out.1;have e2:=HE.out.2;have h9:=H.out.set (l.drop k);rw[e2];exact⟨by first|rfl|(rw[←e1];rfl)|(rw[e1];rfl),h9.1,h9.2⟩
theorem lg (s:ByteArray)(w:World)(hs:s.size≤281474976710656):Calls Tryz.prog 55 #[.string s] w fun e w'=>e=.returned (.string s)∧Below w.heap.size w w':=by
 have cC:=Tryz.stringslite_Clone s w hs;go_enter Tryz.func55,Tryz.ntmps55;go_wp2_with fail;refine cC.mono ?_;rintro e w1 ⟨rfl,hb⟩;have HB:=Aa hb;clear hb cC;go_wp2;go_ret;exact⟨rfl,HB.out⟩
set_option maxHeartbeats 2000000 in
theorem M3 {T:TypeId}(b k:Nat)(l:List UInt8)(p:Bool)(w:World)(h:Ej T b l p w)(hk:k≤8)(hl:l.length≤9223372036854775807) :
 Calls Tryz.prog 57 #[DF b,.int .i64 (k:Int)] w (Ew T b w (l.drop k) (p||decide (l.length<k)) (.int .i64 (RY k l))):=by
 have cT:=fo b k l p w h (by omega) hl;obtain⟨X,hX⟩:∃X,FD k l=X:=⟨_,rfl⟩;unfold RY;rw[hX];obtain⟨s,hs⟩:∃s:ByteArray,(⟨(l.take k).toArray⟩:ByteArray)=s:=⟨_,rfl⟩;have hst:s.data.toList=l.take k:=by rw[←hs]
 have hX2:gX 0 s.data.toList=X:=by rw[hst];exact hX
 obtain⟨m,hm⟩:∃m,s.size=m:=⟨_,rfl⟩;have hm4:m≤8:=by
  have:s.data.toList.length=s.size:=BQ;rw[←hm,←this,hst,Cc];omega
 rw[hs]at cT;generalize (p||decide (l.length<k))=P at *;have HX:=Aa hX2;have HM:=Aa hm;unfold Ew at cT ⊢;clear h hX hX2 hst hs hl hk;go_enter Tryz.func57,Tryz.ntmps57;go_wp2_with (go_at_call 97;refine cT.mono ?_;rintro e w1 ⟨rfl,h1⟩;have H1:=Aa h1;clear h1);go_loopw [5,13] (fun nv iv wr=>∃i a:Nat,i≤m∧iv=.int .i64 i∧nv=.int .i64 (wrap64 (a:Int))∧a<256^i∧gX a (s.data.toList.drop i)=X∧wr=w1) (fun _ iv _=>m-(intOf iv).toNat)
 case atStart=>exact⟨0,0,by omega,rfl,by rw[IntWalk.wrap64_in _ (by omega)];rfl,by decide,HX.out,rfl⟩
 case round =>
  obtain⟨i,a,hi,rfl,rfl,ha,hf,rfl⟩:=hrel;have HF:=Aa hf;have HA:=Aa ha;clear hf ha;by_cases him:i<m
  · have hiz:(i:Int)<(m:Int):=by omega
    have hi0:(0:Int)≤(i:Int):=by omega
    have hlt:i<s.size:=by rw[hm];exact him
    have hi2:(i:Int)<(s.size:Int):=by omega
    have hp:256^i≤72057594037927936:=Ao (Nat.pow_le_pow_right (by decide) (show i≤7 by omega)) (by decide);have ha7:a<72057594037927936:=Nat.lt_of_lt_of_le HA.out hp;have hwa:wrap64 (a:Int)=(a:Int):=IntWalk.wrap64_in _ (by omega);rw[hwa];have EK:=UInt8.toNat_lt (s[i]'hlt);have hv:=XF a (s[i]'hlt).toNat ha7 EK;have HV:=Aa hv;clear hv hwa;go_wp2_with fail;have hv:=HV.out;refine⟨⟨i+1,a*256+(s[i]'hlt).toNat,by omega,by first|rfl|(congr 1),by rw[hv],?_,?_,trivial⟩,?_⟩
    · have ha16:=HA.out;rw[Nat.pow_succ];omega
    · have h9:=HF.out;rw[List.drop_eq_getElem_cons (by rw[BQ];exact hlt)]at h9;exact h9
    · simp[intOf];omega
  · have hiz:¬(i:Int)<(m:Int):=by omega
    have hE:Hid (a=X):=Aa (by
     have h9:=HF.out;rw[JW (by rw[BQ];show s.size≤i;omega)]at h9;exact h9)
    go_wp2_with fail;go_ret;rw[hE.out];exact⟨rfl,H1.out⟩
set_option maxHeartbeats 2000000 in
theorem fG {T:TypeId}(b:Nat)(l:List UInt8)(p:Bool)(w:World)(h:Ej T b l p w)(hl:l.length≤9223372036854775807) :
 Calls Tryz.prog 58 #[DF b] w (Ew T b w (YG l) (p||nmP l) (.string (Rc l))):=by
 have cN:=M3 b 1 l p w h (by omega) hl;rw[GI 1 l (by omega)]at cN;have hr:FD 1 l≤255:=by have:=P7 1 l;omega
 have cT:Hid (∀W,Ej T b (l.drop 1) (p||decide (l.length<1)) W→Calls Tryz.prog 97 #[DF b,.int .i64 (FD 1 l:Int)] W (Ew T b W (YG l) (p||nmP l) (.string (Rc l)))):=Aa fun W hW=>by
  have h9:=fo b (FD 1 l) (l.drop 1) _ W hW hr (by rw[Ea];omega);rw[Bool.or_assoc]at h9;exact h9
 have hsz:(Rc l).size≤281474976710656:=by
  show(Rc l).data.size≤_
  unfold Rc;rw[←BQ];simp only[List.length_take,List.length_drop];omega
 have cC:=fun W=>lg (Rc l) W hsz
 generalize Rc l=R at *;generalize YG l=M at *;generalize (p||nmP l)=PP at *;generalize (p||decide (l.length<1))=P1 at *;generalize FD 1 l=K at *;unfold Ew at cN cT ⊢;have hK:wrap64 (K:Int)=K:=IntWalk.wrap64_in _ (by omega);clear h hr hsz;go_enter Tryz.func58,Tryz.ntmps58;go_wp2_with (first|(go_at_call 57;refine cN.mono ?_;rintro e w1 ⟨rfl,h1,hb1⟩;have cTT:=cT.out w1 h1;have HB1:=Aa hb1;clear h1 hb1)|(go_at_call 97;refine cTT.mono ?_;rintro e w2 ⟨rfl,h2,hb2⟩;have H2:=Aa h2;have HB2:=Aa (Db HB1.out hb2);clear h2 hb2)|(go_at_call 55;refine(cC _).mono ?_;rintro e w3 ⟨rfl,hb3⟩;have HB3:=Aa hb3;clear hb3));go_ret;refine⟨rfl,(HB3.out.block _ (Ab H2.out)).trans H2.out,Db HB2.out (FY HB3.out _)⟩
set_option maxHeartbeats 2000000 in
theorem fH {T:TypeId}(b:Nat)(l:List UInt8)(p:Bool)(w:World)(h:Ej T b l p w)(hl:l.length≤9223372036854775807) :
 Calls Tryz.prog 60 #[DF b] w (Ew T b w (l.drop 1) (p||decide (l.length<1)) (.bool (decide (FD 1 l=1)))):=by
 have cN:=M3 b 1 l p w h (by omega) hl;rw[GI 1 l (by omega)]at cN;generalize l.drop 1=M at *;generalize FD 1 l=K at *;generalize (p||decide (l.length<1))=P1 at *;unfold Ew at cN ⊢;clear h;have hK:((K:Int)==1)=decide (K=1):=by
  rw[Bool.eq_iff_iff,beq_iff_eq,LU];omega
 have HK:=Aa hK;clear hK;go_enter Tryz.func60,Tryz.ntmps60;go_wp2_with (go_at_call 57;refine cN.mono ?_;rintro e w1 ⟨rfl,h1⟩;have H1:=Aa h1;clear h1);go_ret;exact⟨by first|rfl|(go_simp;exact HK.out)|(simp;exact HK.out),H1.out⟩
set_option maxHeartbeats 2000000 in
theorem fC {T:TypeId}(b:Nat)(l:List UInt8)(p:Bool)(w:World)(h:Ej T b l p w) :
 Calls Tryz.prog 176 #[DF b] w fun e w'=>e=.returned (.bool p)∧w'=w:=by
 have c1:w.cell? ⟨b,1,none⟩=some (.bool p):=Ap h 1;clear h;go_enter Tryz.func176,Tryz.ntmps176;go_wp2_with fail;go_ret;exact⟨rfl,rfl⟩
set_option maxHeartbeats 2000000 in
theorem IA (s:ByteArray)(w:World) :
 Calls Tryz.prog 56 #[.string s] w fun e w'=>e=.returned (.agg #[.string s,.bool false])∧Below w.heap.size w w':=by
 go_enter Tryz.func56,Tryz.ntmps56;go_wp2_with fail
 (try simp only[Exit.inBlock,Exit.then])
 exact Bv (results_cell_row Tryz.results56 _ _ _ _ _ _ _ rfl (Ai _ _) Tryz.underlying123 rfl (by kernel_rfl)) rfl ⟨rfl,(Ad _ _).alloc (Ae _) _⟩
theorem Jj {T:TypeId}(b k:Nat)(l:List UInt8)(p:Bool)(w:World)(h:Ej T b l p w)(hk:k≤8)(hl:l.length≤100000) :
 Calls Tryz.prog 57 #[DF b,.int .i64 (k:Int)] w (Ew T b w (l.drop k) (p||decide (l.length<k)) (.int .i64 (RY k l))):=
 M3 b k l p w h hk (Ao hl (by decide))
theorem vO {T:TypeId}(b:Nat)(l:List UInt8)(p:Bool)(w:World)(h:Ej T b l p w)(hl:l.length≤100000) :
 Calls Tryz.prog 58 #[DF b] w (Ew T b w (YG l) (p||nmP l) (.string (Rc l))):=
 fG b l p w h (Ao hl (by decide))
theorem vP {T:TypeId}(b:Nat)(l:List UInt8)(p:Bool)(w:World)(h:Ej T b l p w)(hl:l.length≤100000) :
 Calls Tryz.prog 60 #[DF b] w (Ew T b w (l.drop 1) (p||decide (l.length<1)) (.bool (decide (FD 1 l=1)))):=
 fH b l p w h (Ao hl (by decide))
end Go.Proofs.YtdmkhmeaphaapaaGreat
