/- Kit. -/
import Derived.Test.YtdmkhmeaphaapaaGreatCZ23
import Derived.WalkKit
import Derived.WalkSpells
import Derived.IntWalk
import Derived.Handy
import Derived.ProofKit
import Derived.Lib.Hide
import Derived.Lib.Builder
import Derived.Lib.AppendStr
import Derived.Lib.UnsafeStr
import Derived.Laws.Externs
import Derived.Laws.NewBlocks
import Derived.Below
import Derived.Shelf.RegionOpenPlain
import Derived.KernelRfl
import Derived.Test.YtdmkhmeaphaapaaGreatCZ26
import Derived.Test.YtdmkhmeaphaapaaGreatCZ24
import Derived.Test.YtdmkhmeaphaapaaGreatCZ5
import Derived.Lib.Repeat
import Derived.Laws.ResultCell
import Derived.Laws.Bits64
import Derived.Test.YtdmkhmeaphaapaaGreatCZ14
import Derived.Test.YtdmkhmeaphaapaaGreatCZ0
set_option maxRecDepth 100000
set_option linter.unusedVariables false
set_option linter.unusedSimpArgs false
namespace Go.Proofs.YtdmkhmeaphaapaaGreat.V
open Go.RowKit
def Fr (T:TypeId)(w w':World):Prop:=∀T0:TypeId,T0≠5→T0≠T→Dl T0 w w'
theorem J9 {T:TypeId}{R:List Value}(hT:JO T R.length)(B b:Nat)(bs:List Value)(w:World)(h:H8 T R B b bs w) :
 Calls Tryz.prog 156 #[.pointer (some ⟨b,0,none⟩)] w fun e w'=>e=.returned (.tuple #[])∧(PR T R B b (.pointer (some ⟨b,0,none⟩)) bs w'∧Below B w w'∧Fr T w w'):=by
 rcases h with h|h
 · refine(LP T R.length b w h.cell0 h.shape hT.lies h.frozen0).mono ?_;rintro e w' ⟨rfl,rfl⟩;refine⟨rfl,h.used _,(Ad B w).setCell (p:=⟨b,0,none⟩) h.1 _,?_⟩;obtain⟨_,v,hb,_⟩:=h;exact fun T0 h8 hT0=>Dl.set hb hT0 _
 · refine(MH b w h.cell0).mono ?_;rintro e w' ⟨rfl,rfl⟩;exact⟨rfl,h,Ad B _,fun T0 h8 hT0=>Dl.refl _⟩
set_option maxHeartbeats 2000000 in
theorem ah {T:TypeId}{R:List Value}(hT:JO T R.length)(B b:Nat)(bs:List Value)(s:ByteArray)(w:World)(h:H8 T R B b bs w)(hlen:bs.length+s.size≤140737488355328)(hBw:B≤w.heap.size) :
 Calls Tryz.prog 118 #[.pointer (some ⟨b,0,none⟩),.string s] w fun e w'=>e=.returned (.tuple #[.int .i64 s.size,.nilIface])∧(PR T R B b (.pointer (some ⟨b,0,none⟩)) (bs++Lib.strCells s) w'∧Below B w w'∧Fr T w w'):=by
 obtain⟨i0,hi,hz0,hz1,hz2⟩:=info_parts N7;have HT:=Aa hT;clear hT;go_enter Tryz.func118,Tryz.ntmps118;go_wp2_with (go_at_call 156;refine(J9 HT.out B b bs _ h).mono ?_);rintro e w1 ⟨rfl,h1,hb1,hk1⟩;obtain⟨hB,v,hbk,hown,hne⟩:=h1;have c0:w1.cell? ⟨b,0,none⟩=some (.pointer (some ⟨b,0,none⟩)):=by rw[Ap hbk];rfl
 have c1:w1.cell? ⟨b,1,none⟩=some v:=by rw[Ap hbk];rfl
 go_wp2_with (at_builtin;refine Lib.wpList_append_own_string _ rfl _ _ 121 9 rfl B 5 i0 Tryz.underlying121 Tryz.underlying9 hi hz0 hz1 hz2 _ _ _ rfl hown s rfl ?c3 ?c4 ?c5 ?_)
 case c3=>unfold maxLen;omega
 case c4=>omega
 case c5=>have:=hb1.size;omega
 intro v' w2 hown' hgrow _;have hlt:b<w1.heap.size:=Ab hbk;have hb2:w2.heap[b]?=some (.cells ⟨.pointer (some ⟨b,0,none⟩)::v::R⟩ T (0,0)):=by
  rw[hgrow.block b hlt (fun e=>hne e.symm)];exact hbk
 have d0:w2.cell? ⟨b,0,none⟩=some (.pointer (some ⟨b,0,none⟩)):=by rw[Ap hb2];rfl
 have d1:w2.cell? ⟨b,1,none⟩=some v:=by rw[Ap hb2];rfl
 have f1:w2.frozen? ⟨b,1,none⟩=false:=BA hb2 1;obtain⟨ao,n',cap,rfl⟩:∃ao n' cap,v'=.slice ao n' cap:=by
  rcases hown'.2 with⟨hv,_⟩|⟨g,cap,cur,hv,_⟩
  · exact⟨_,_,_,hv⟩
  · exact⟨_,_,_,hv⟩
 go_wp2;go_ret2;refine⟨rfl,?_,?_,?_⟩
 · exact PR.put hB hb2 (bs':=bs++Lib.strCells s) (by simpa[Lib.strCells_length]using hown') HT.out.ne8
 · exact(hb1.grown hgrow (by have:=hb1.size;omega) (fun k hk=>(hown.lt k hk).1)).setCell (p:=⟨b,1,none⟩) hB _
 · exact fun T0 h8 hT0=>((hk1 T0 h8 hT0).trans (Dl.grown hgrow hown h8)).trans (Dl.set hb2 hT0 _)
theorem bU:JO 146 0:=⟨by decide,by kernel_rfl⟩
theorem lN (w:World):H8 146 [] w.heap.size w.heap.size [] (w.alloc (.cells #[.pointer none,.slice none 0 0] 146)):=
 Or.inl ⟨Ae _,.slice none 0 0,Ai w _,FV _ _ _ _,by simp[Value.ownBlock]⟩
end Go.Proofs.YtdmkhmeaphaapaaGreat.V
namespace Go.Proofs.YtdmkhmeaphaapaaGreat.V
open Go.RowKit Go.Sort
def RB (n:Int):Int:=if n<1 then 0 else(n-1)/62+1
theorem GU (n:Nat):RB n=((n+61)/62:Nat):=by
 unfold RB;split
 · have:n=0:=by omega
   subst this;rfl
 · omega
set_option maxHeartbeats 1000000 in
theorem KQ (n:Int)(w:World)(h:n≤9223372036854775807):Calls Tryz.prog 133 #[.int .i64 n] w fun e w'=>e=.returned (.int .i64 (RB n))∧w=w':=by
 unfold RB;by_cases h1:n<1
 · rw[if_pos h1];go_enter Tryz.func133,Tryz.ntmps133;go_wp2;go_ret;exact⟨rfl,rfl⟩
 · rw[if_neg h1];obtain⟨k,hk⟩:∃k:Nat,n=k+1:=⟨(n-1).toNat,by omega⟩;subst hk;have hs:IntKind.i64.wrap ((k:Int)+1-1)=(k:Int):=by rw[El];omega
   obtain⟨q,hq⟩:∃q:Nat,k/62=q:=⟨_,rfl⟩;have hq1:(k:Int).tdiv 62=(q:Int):=by rw[Int.tdiv_eq_ediv_of_nonneg (by omega)];omega
   have hq2:(k:Int)/62=(q:Int):=by omega
   have hq3:IntKind.i64.wrap (q:Int)=(q:Int):=by rw[El];omega
   have hq4:IntKind.i64.wrap ((q:Int)+1)=(q:Int)+1:=by rw[El];omega
   rw[show(k:Int)+1-1=(k:Int) by omega,hq2];go_enter Tryz.func133,Tryz.ntmps133;go_wp2;go_ret;exact⟨rfl,rfl⟩
theorem om (n:Nat):Lib.repeatL [0] n=List.replicate n 0:=by
 induction n with
 | zero=>rfl
 | succ n ih=>rw[Lib.repeatL,ih];rfl
theorem UZ:(⟨(List.replicate 64 0).toArray⟩:ByteArray)=BC:=by
 unfold BC;congr 1
set_option maxHeartbeats 1000000 in
theorem Vu (w:World):Calls Tryz.prog 163 #[] w fun e w'=>e=.returned (.string BC)∧Below w.heap.size w w':=by
 have hR:∀w1,Calls Tryz.prog 185 #[.string ⟨#[0]⟩,.int .i64 64] w1 fun e w'=>e=.returned (.string BC)∧Below w1.heap.size w1 w':=fun w1=>by
  have:=Tryz.strings_Repeat ⟨#[0]⟩ 64 w1 (by omega) (by show 1*64≤_;omega);rw[show(⟨#[0]⟩:ByteArray).data.toList=[0] from rfl,om,UZ]at this;exact this
 go_enter Tryz.func163,Tryz.ntmps163;go_wp2_with fail;refine(hR _).mono ?_;rintro e w1 ⟨rfl,hb⟩;have HB:=Aa hb;clear hb hR;go_wp2;go_ret;exact⟨rfl,HB.out⟩
theorem LJ {w w':World}(hb:Below w.heap.size w w')(row:Option Nat):w.grownBy w' row:=⟨hb.os,hb.tape,hb.output,hb.size,fun k hk _=>hb.block k hk⟩
theorem YE (a b:Nat)(hb:b<256):(a*256) ||| b=a*256+b:=by
 have:=Nat.two_pow_add_eq_or_of_lt (i:=8) (b:=b) (by simpa using hb) a;rw[show 2^8*a=a*256 by omega]at this;exact this.symm
set_option maxHeartbeats 1000000 in
theorem qG (b:Option Addr)(fr sz at_ cnt:Int)(w:World)(h:-9223372036854775808≤sz-at_∧sz-at_≤9223372036854775807) :
 Calls Tryz.prog 132 #[.agg #[.pointer b,.int .i64 fr,.int .i64 sz],.int .i64 at_,.int .i64 cnt] w fun e w'=>e=.returned (.bool (decide (cnt≤sz-at_)))∧Below w.heap.size w w':=by
 have hw:IntKind.i64.wrap (sz-at_)=sz-at_:=by rw[El];omega
 by_cases hc:cnt≤sz-at_
 · rw[A8 hc];go_enter Tryz.func132,Tryz.ntmps132;go_wp2;go_ret;exact⟨rfl,(Ad _ _).alloc (Ae _) _⟩
 · rw[Bb hc];go_enter Tryz.func132,Tryz.ntmps132;go_wp2;go_ret;exact⟨rfl,(Ad _ _).alloc (Ae _) _⟩
set_option maxHeartbeats 1000000 in
theorem XG (B b:Nat)(st:St)(fr sz at_ i:Int)(w:World)(h:Dev B w b st)(hg:Good st)(hi:fr+at_=i)(ha:-9223372036854775808≤i∧i≤9223372036854775807) :
 Calls Tryz.prog 162 #[.agg #[.pointer (some ⟨b,0,none⟩),.int .i64 fr,.int .i64 sz],.int .i64 at_] w fun e w'=>e=.returned (.tuple #[.string (if Fa st.now.length st.lim st.left i=0 then st.now.getD i.toNat ⟨#[]⟩ else⟨#[]⟩),.int .i64 (Fa st.now.length st.lim st.left i)])∧Below w.heap.size w w':=by
 have cG:Hid (∀W,Below w.heap.size w W→Calls Tryz.prog 91 #[.pointer (some ⟨b,0,none⟩),.int .i64 i] W (Hu B st i W)):=Aa (fun W hW=>Zg B b st i W (h.below hW) hg);unfold Hu at cG;have hw:IntKind.i64.wrap (fr+at_)=i:=by rw[hi,El];omega
 generalize (if Fa st.now.length st.lim st.left i=0 then st.now.getD i.toNat ⟨#[]⟩ else⟨#[]⟩)=s at *;generalize Fa st.now.length st.lim st.left i=q at *;clear h hg hi ha;go_enter Tryz.func162,Tryz.ntmps162;go_wp2_with fail;refine(cG.out _ ((Ad _ _).alloc (Ae _) _)).mono ?_;rintro e w1 ⟨rfl,rfl⟩;go_wp2;go_ret2;exact⟨rfl,(Ad _ _).alloc (Ae _) _⟩
set_option maxHeartbeats 1000000 in
theorem sS (B b:Nat)(st:St)(fr sz at_ i:Int)(s:ByteArray)(w:World)(h:Dev B w b st)(hg:Good st)(hp:st.pend.length≤1000)(hB:B≤w.heap.size)(hi:fr+at_=i)(ha:-9223372036854775808≤i∧i≤9223372036854775807) :
 Calls Tryz.prog 135 #[.agg #[.pointer (some ⟨b,0,none⟩),.int .i64 fr,.int .i64 sz],.int .i64 at_,.string s] w (ED B b st i s w):=by
 have cG:Hid (∀W,Below w.heap.size w W→Calls Tryz.prog 165 #[.pointer (some ⟨b,0,none⟩),.int .i64 i,.string s] W (ED B b st i s W)):=Aa (fun W hW=>Vn B b st i s W (h.below hW) hg hp (Ao hB hW.size));unfold ED at cG ⊢;have hw:IntKind.i64.wrap (fr+at_)=i:=by rw[hi,El];omega
 generalize (if Dq st i s=0 then BV st i.toNat s else st)=st1 at *;generalize Dq st i s=q at *;clear h hg hi ha;go_enter Tryz.func135,Tryz.ntmps135;go_wp2_with fail;refine(cG.out _ ((Ad _ _).alloc (Ae _) _)).mono ?_;rintro e w1 ⟨rfl,hd,hb,ho⟩;have HD:=Aa hd;have HB1:Hid (Below B w w1):=Aa (((Ad B w).alloc hB _).trans hb);have ZY:Hid (Off AZ w w1):=Aa (((Off.refl _ w).alloc _).trans ho);clear hd hb ho;go_wp2;go_ret;exact⟨rfl,HD.out,HB1.out,ZY.out⟩
def Du (st:St)(fr sz:Int):Int:=if Fa st.now.length st.lim st.left fr=0 then(if sz<1∨st.now.length-fr<sz then 1 else 0) else Fa st.now.length st.lim st.left fr
set_option maxHeartbeats 1000000 in
theorem Rv (B b:Nat)(st:St)(fr sz:Int)(w:World)(h:Dev B w b st)(hg:Good st)(ho:Du st fr sz=0) :
 Calls Tryz.prog 130 #[.pointer (some ⟨b,0,none⟩),.int .i64 fr,.int .i64 sz] w fun e w'=>e=.returned (.tuple #[.agg #[.pointer (some ⟨b,0,none⟩),.int .i64 fr,.int .i64 sz],.int .i64 0])∧Below w.heap.size w w':=by
 have cG:Hid (∀W,Below w.heap.size w W→Calls Tryz.prog 91 #[.pointer (some ⟨b,0,none⟩),.int .i64 fr] W (Hu B st fr W)):=Aa (fun W hW=>Zg B b st fr W (h.below hW) hg);have cS:Hid (∀W,Below w.heap.size w W→Calls Tryz.prog 90 #[.pointer (some ⟨b,0,none⟩)] W fun e w'=>e=.returned (.int .i64 st.now.length)∧W=w'):=Aa (fun W hW=>by
  obtain⟨a,cap,h0⟩:=(h.below hW).Rw;exact aO b _ cap a W h0)
 unfold Hu at cG;unfold Du at ho;split at ho
 case isFalse hn=>exact absurd ho hn
 rename_i hq;obtain⟨k,rfl,hk⟩:=PD hq;rw[hq,if_pos rfl]at cG;generalize st.now.getD (k:Int).toNat ⟨#[]⟩=s at *;have hf:=hg.few;generalize st.now.length=n at *;split at ho
 · cases ho
 rename_i hsz;have h1:¬sz<1:=by omega
 have hw:IntKind.i64.wrap ((n:Int)-(k:Int))=(n:Int)-(k:Int):=by rw[El];omega
 have h2:¬((n:Int)-(k:Int)<sz):=by omega
 clear h hg ho hsz hq;go_enter Tryz.func130,Tryz.ntmps130;go_wp2_with fail;refine(cG.out _ ((Ad _ _).alloc (Ae _) _)).mono ?_;rintro e w1 ⟨rfl,rfl⟩;go_wp2_with fail;refine(cS.out _ ((Ad _ _).alloc (Ae _) _)).mono ?_;rintro e w1 ⟨rfl,rfl⟩;go_wp2
 (try simp only[Exit.inBlock,Exit.then])
 refine Bv (v:=.tuple #[.agg #[.pointer (some ⟨b,0,none⟩),.int .i64 k,.int .i64 sz],.int .i64 0]) ?_ rfl ⟨rfl,?_⟩
 · rw[CZ rfl];go_simp
 · first|exact(Ad _ _).alloc (Ae _) _|exact((Ad _ _).alloc (Ae _) _).setCells (Ae _) _ _
set_option maxHeartbeats 1000000 in
theorem fM (B b:Nat)(st:St)(fr sz q:Int)(w:World)(h:Dev B w b st)(hg:Good st)(ho:Du st fr sz=q)(hne:q≠0) :
 Calls Tryz.prog 130 #[.pointer (some ⟨b,0,none⟩),.int .i64 fr,.int .i64 sz] w fun e w'=>e=.returned (.tuple #[.agg #[.pointer none,.int .i64 0,.int .i64 0],.int .i64 q])∧Below w.heap.size w w':=by
 have cG:Hid (∀W,Below w.heap.size w W→Calls Tryz.prog 91 #[.pointer (some ⟨b,0,none⟩),.int .i64 fr] W (Hu B st fr W)):=Aa (fun W hW=>Zg B b st fr W (h.below hW) hg);have cS:Hid (∀W,Below w.heap.size w W→Calls Tryz.prog 90 #[.pointer (some ⟨b,0,none⟩)] W fun e w'=>e=.returned (.int .i64 st.now.length)∧W=w'):=Aa (fun W hW=>by
  obtain⟨a,cap,h0⟩:=(h.below hW).Rw;exact aO b _ cap a W h0)
 unfold Hu at cG;unfold Du at ho;by_cases hq:Fa st.now.length st.lim st.left fr=0
 · rw[if_pos hq]at ho;obtain⟨k,rfl,hk⟩:=PD hq;rw[hq,if_pos rfl]at cG;generalize st.now.getD (k:Int).toNat ⟨#[]⟩=s at *;have hf:=hg.few;generalize st.now.length=n at *;split at ho
   case isFalse=>exact absurd ho.symm hne
   rename_i hsz;subst ho;have hw:IntKind.i64.wrap ((n:Int)-(k:Int))=(n:Int)-(k:Int):=by rw[El];omega
   clear h hg hq hne;by_cases h1:sz<1
   · clear hsz cS;go_enter Tryz.func130,Tryz.ntmps130;go_wp2_with fail;refine(cG.out _ ((Ad _ _).alloc (Ae _) _)).mono ?_;rintro e w1 ⟨rfl,rfl⟩;go_wp2
     (try simp only[Exit.inBlock,Exit.then])
     refine Bv (v:=.tuple #[.agg #[.pointer none,.int .i64 0,.int .i64 0],.int .i64 1]) ?_ rfl ⟨rfl,?_⟩
     · rw[CZ rfl];go_simp
     · first|exact(Ad _ _).alloc (Ae _) _|exact((Ad _ _).alloc (Ae _) _).setCells (Ae _) _ _
   · have h2:(n:Int)-(k:Int)<sz:=by omega
     clear hsz;go_enter Tryz.func130,Tryz.ntmps130;go_wp2_with fail;refine(cG.out _ ((Ad _ _).alloc (Ae _) _)).mono ?_;rintro e w1 ⟨rfl,rfl⟩;go_wp2_with fail;refine(cS.out _ ((Ad _ _).alloc (Ae _) _)).mono ?_;rintro e w1 ⟨rfl,rfl⟩;go_wp2
     (try simp only[Exit.inBlock,Exit.then])
     refine Bv (v:=.tuple #[.agg #[.pointer none,.int .i64 0,.int .i64 0],.int .i64 1]) ?_ rfl ⟨rfl,?_⟩
     · rw[CZ rfl];go_simp
     · first|exact(Ad _ _).alloc (Ae _) _|exact((Ad _ _).alloc (Ae _) _).setCells (Ae _) _ _
 · rw[if_neg hq]at ho;rw[if_neg hq,ho]at cG;have hne2:(q==0)=false:=by simpa using hne
   clear h hg hq ho cS;go_enter Tryz.func130,Tryz.ntmps130;go_wp2_with fail;refine(cG.out _ ((Ad _ _).alloc (Ae _) _)).mono ?_;rintro e w1 ⟨rfl,rfl⟩;go_wp2
   (try simp only[Exit.inBlock,Exit.then])
   refine Bv (v:=.tuple #[.agg #[.pointer none,.int .i64 0,.int .i64 0],.int .i64 q]) ?_ rfl ⟨rfl,?_⟩
   · rw[CZ rfl];go_simp
   · first|exact(Ad _ _).alloc (Ae _) _|exact((Ad _ _).alloc (Ae _) _).setCells (Ae _) _ _
theorem ZF (a b:Nat)(ha:a<9223372036854775808)(hb:b<9223372036854775808):bits .or .i64 (a:Int) (b:Int)=((a ||| b:Nat):Int):=by
 have hx:a ||| b<2^63:=Nat.or_lt_two_pow (by omega) (by omega)
 have h1:(BitVec.ofInt 64 (a:Int)).toNat=a:=by
  rw[BitVec.ofInt_natCast,BitVec.toNat_ofNat];exact Nat.mod_eq_of_lt (by omega)
 have h2:(BitVec.ofInt 64 (b:Int)).toNat=b:=by
  rw[BitVec.ofInt_natCast,BitVec.toNat_ofNat];exact Nat.mod_eq_of_lt (by omega)
 show IntKind.i64.wrap ((BitVec.ofInt 64 (a:Int) ||| BitVec.ofInt 64 (b:Int)).toNat:Int)=_
 rw[BitVec.toNat_or,h1,h2,El];omega
set_option maxHeartbeats 1000000 in
theorem Aag (x:ByteArray)(w:World)(hs:x.size=64):Calls Tryz.prog 181 #[.string x] w fun e w'=>e=.returned (.int .i64 (Gr x.data.toList))∧Below w.heap.size w w':=by
 obtain⟨K,hK⟩:∃K,Gr x.data.toList=K:=⟨_,rfl⟩;rw[hK];have HK:=Aa hK;clear hK;have hi0:(0:Int)<(x.size:Int):=by omega
 have hi1:(1:Int)<(x.size:Int):=by omega
 go_enter Tryz.func181,Tryz.ntmps181;go_wp2;go_quiet (fail);have hx0:x.data.toList.getD 0 0=x[0]'(by omega):=by
  rw[Gi,Co (by rw[BQ];show 0<x.size;omega)];rfl
 have hx1:x.data.toList.getD 1 0=x[1]'(by omega):=by
  rw[Gi,Co (by rw[BQ];show 1<x.size;omega)];rfl
 have Abu:Gr x.data.toList=(x[0]'(by omega)).toNat*256+(x[1]'(by omega)).toNat:=by unfold Gr;rw[hx0,hx1]
 have xg:=UInt8.toNat_lt (x[0]'(by omega));have hlt1:=UInt8.toNat_lt (x[1]'(by omega));clear hx0 hx1;generalize (x[0]'(by omega)).toNat=A at *;generalize (x[1]'(by omega)).toNat=C at *;obtain⟨hw1,hw2,hw3,hw4,hK6⟩:=nU A C xg hlt1;have hKv:K=A*256+C:=HK.out.symm.trans Abu;have hor:bits BinOp.or IntKind.i64 ((A:Int)*256) (C:Int)=(K:Int):=by
  rw[hKv];have:=ZF (A*256) C (by omega) (by omega);rw[YE A C hlt1]at this;rw[←this];congr 1
 rw[hw1,hw2,hw3,hor];clear hw1 hw2 hw3 hw4 hK6 hor xg hlt1 hi0 hi1 hKv Abu;have HB0:Hid (Below w.heap.size w (w.drewN nq)):=Aa (Below.VU (Ad _ _) nq);go_wp2;go_ret;exact⟨rfl,HB0.out⟩
set_option maxHeartbeats 4000000 in
theorem xJ (u v:Value)(la lb:List ByteArray)(w:World)(hu:Eo w u la)(hv:Eo w v lb)(hla:la.length≤9223372036854775807)(hlb:lb.length≤9223372036854775807)(b:Bool)(hb:b=true↔la=lb) :
 Calls Tryz.prog 184 #[u,v] w fun e w'=>e=.returned (.bool b)∧Below w.heap.size w w':=by
 have mf:=Aa hb;obtain⟨a1,c1,rfl⟩:=hu.len;obtain⟨a2,c2,rfl⟩:=hv.len;obtain⟨n,hn⟩:∃n,la.length=n:=⟨_,rfl⟩;obtain⟨m,hm⟩:∃m,lb.length=m:=⟨_,rfl⟩;have HU:=Aa hu;have HV:=Aa hv;have HN:=Aa hn;have HM:=Aa hm;rw[hn]at hla ⊢;rw[hm]at hlb ⊢;clear hb hu hv hn hm;by_cases hnm:n=m
 · subst hnm;go_enter Tryz.func184,Tryz.ntmps184;go_wp2;go_loopw [13] (fun iv wr=>∃i:Nat,i≤n∧iv=.int .i64 i∧la.take i=lb.take i∧Below w.heap.size w wr) (fun iv _=>n-(intOf iv).toNat)
   case atStart=>exact⟨0,by omega,rfl,rfl,Ad _ _⟩
   case round =>
    obtain⟨i,hi,rfl,ht,hbw⟩:=hrel;have HT:=Aa ht;have FU:=Aa hbw;by_cases hin:i<n
    · have hiz:(i:Int)<(n:Int):=by omega
      obtain⟨x,hx⟩:∃x,la[i]?=some x:=⟨_,Co (by rw[HN.out];exact hin)⟩;obtain⟨y,hy⟩:∃y,lb[i]?=some y:=⟨_,Co (by rw[HM.out];exact hin)⟩;have hu9:=HU.out.kept hbw;rw[HN.out]at hu9;have FQ:=HV.out.kept hbw;rw[HM.out]at FQ;obtain⟨g1,o1,rfl,_,k1⟩:=hu9.at hx;obtain⟨g2,o2,rfl,_,k2⟩:=FQ.at hy;have d1:wr.drew.cell? ⟨g1,o1+i,none⟩=some (.string x):=k1;have d2:wr.drew.cell? ⟨g2,o2+i,none⟩=some (.string y):=k2;have uP:=Aa hx;have HYL:=Aa hy;clear hu9 FQ ht hbw hx hy;by_cases hxy:x=y
      · subst hxy;have HTN:Hid (la.take (i+1)=lb.take (i+1)):=Aa (by rw[List.take_add_one,List.take_add_one,uP.out,HYL.out,HT.out]);go_wp2
        try (go_quiet (fail);go_wp2)
        go_roundw
        case rel=>exact⟨i+1,by omega,by first|rfl|go_num,HTN.out,by first|exact FU.out|exact FU.out.drew|exact Below.VU FU.out _⟩
        case measure=>simp[intOf];omega
      · have hne:=MV hxy;have hbf:b=false:=by
         cases b
         · rfl
         · have he:=mf.out.1 rfl;have h1:=uP.out;rw[he,HYL.out]at h1;exact absurd (BS h1).symm hxy
        subst hbf;clear hxy;go_wp2
        try (go_quiet (fail);go_wp2)
        go_ret;exact⟨rfl,by first|exact FU.out|exact FU.out.drew|exact Below.VU FU.out _⟩
    · have hge:¬((i:Int)<(n:Int)):=by omega
      have hbt:b=true:=mf.out.2 (by
       have h1:=HT.out;rwa[CV (by rw[HN.out];omega),CV (by rw[HM.out];omega)]at h1)
      subst hbt;clear ht hbw;go_wp2;go_ret;exact⟨rfl,FU.out⟩
 · have hbf:b=false:=by
    cases b
    · rfl
    · have he:=mf.out.1 rfl;exact absurd (by rw[←HN.out,←HM.out,he]) hnm
   subst hbf;have hnz:((n:Int)==(m:Int))=false:=by rw[Ba];omega
   have Acm:(n==m)=false:=by rw[Ba];exact hnm
   go_enter Tryz.func184,Tryz.ntmps184;go_wp2;go_ret;exact⟨rfl,Ad _ _⟩
def CY (l:List UInt8):List Value:=l.map fun x=>Value.int .u8 (x.toNat:Int)
theorem dF (l:List UInt8):∀v∈CY l,v.oneCell'=true:=fun v hv=>by
 obtain⟨x,_,rfl⟩:=CG.1 hv;rfl
theorem Q5 {P:Program}{w:World}{ops:Array Oper}{rest:List Oper}{o:Oper}{a:Act}{Q:Exit→Act→World→Prop}(hgd:o.guard=none)(d s:Operand)(dT sT:TypeId)
 (ho:o.op=.call { callee:=.builtin .copy,args:=#[d,s],argTypes:=#[dT,sT] }) (elem:TypeId) (hu:P.underlying dT=some (.slice elem)) (hz:∀w,(Go.sizeOf elem).run P w=.ok 1 w)
 (b off dLen dCap n:Nat) (hd:a.eval d=.slice (some ⟨b,off,none⟩) dLen dCap) (t:ByteArray) (hx:a.eval s=.string t) (hn:Nat.min t.size dLen=n)
 (C D:List Value) (T:TypeId) (hb:w.heap[b]?=some (.cells C.toArray T (0,0))) (hfit:off+n≤C.length) (hD:C.take off++CY (t.data.toList.take n)++C.drop (off+n)=D)
 (h:∀w',w'.heap[b]?=some (.cells D.toArray T (0,0))→(∀(B:Nat) (w0:World),Below B w0 w→B≤b→Below B w0 w')→wpList P ops Q rest (a.put o.dst (goInt n)) w'):wpList P ops Q (o::rest) a w:=by
 refine wpList_plain hgd fun K hK=>?_
 have hl:(CY (t.data.toList.take n)).length=n:=by
  unfold CY;rw[DW,Cc];have h1:t.data.toList.length=t.size:=BQ;have h2:n≤t.size:=by rw[←hn];exact Nat.min_le_left _ _
  omega
 have hth:=C9 hb off n (by simpa using hfit);have hst:=run_storeCells_cells (P:=P) b off (CY (t.data.toList.take n)) 0 w (by rw[hl];exact fun j hj=>by simpa using (hth j hj).1) (by rw[hl];exact fun j hj=>by simpa using (hth j hj).2) (dF _);have hrun:(Builtin.copy_ #[dT,sT] o.type #[.slice (some ⟨b,off,none⟩) dLen dCap,.string t]).run P w=.ok (goInt n) (w.setCells b off (CY (t.data.toList.take n))):=by
  simp[Builtin.copy_,run_underlying hu,Builtin.lenOf,Builtin.firstCells,hz,hn];rw[show(List.map (fun x=>Value.int IntKind.u8 (x.toNat:Int)) t.data.toList).take n=CY (t.data.toList.take n) by unfold CY;rw[List.map_take]];rw[hst];rfl
 unfold Oper.wp;simp[execOp,ho,resolve,invoke,builtin,hd,hx,hrun,Result.andThen];refine hK _ _ (h _ ?_ (fun B w0 hB hBb=>Below.setCells hB hBb _ _));have h9:=Cm b T (CY (t.data.toList.take n)) off w C hb (by rw[hl];exact hfit);rw[hl,hD]at h9;exact h9
theorem mU {P:Program}{ops:Array Oper}{rest:List Oper}{dd:Option Tmp}{TT:TypeId}{pos:String}{af:Array Edge}{a:Act}{w:World}{Q:Exit→Act→World→Prop}{d s:Operand}{dT sT:TypeId}(elem:TypeId)(b off dLen dCap n:Nat)(t:ByteArray)(C D:List Value)(T:TypeId)
 (hd:a.eval d=.slice (some ⟨b,off,none⟩) dLen dCap) (hx:a.eval s=.string t) (hb:w.heap[b]?=some (.cells C.toArray T (0,0)))
 (hu:P.underlying dT=some (.slice elem)) (hz:∀w,(Go.sizeOf elem).run P w=.ok 1 w) (hn:Nat.min t.size dLen=n) (hfit:off+n≤C.length) (hD:C.take off++CY (t.data.toList.take n)++C.drop (off+n)=D)
 (h:∀w',w'.heap[b]?=some (.cells D.toArray T (0,0))→(∀(B:Nat) (w0:World),Below B w0 w→B≤b→Below B w0 w')→wpList P ops Q rest (a.put dd (goInt n)) w') :
 wpList P ops Q ({ dst:=dd,op:=.call { callee:=.builtin .copy,args:=#[d,s],argTypes:=#[dT,sT] },type:=TT,pos:=pos,after:=af,guard:=none }::rest) a w:=
 Q5 rfl d s dT sT rfl elem hu hz b off dLen dCap n hd t hx hn C D T hb hfit hD h
theorem nu {α:Type}(x y z:α)(k n:Nat):([x,y]++List.replicate k z).drop (2+n)=List.replicate (k-n) z:=by
 rw[Nat.add_comm 2];show(List.replicate k z).drop n=_
 rw[List.drop_replicate]
theorem Zx {W:World}{g:Nat}{T:TypeId}{l:List UInt8}(hl:l.length=64)(h:W.heap[g]?=some (.cells (CY l).toArray T (0,0))):(convert 121 9 (.slice (some ⟨g,0,none⟩) 64 64)).run Tryz.prog W=.ok (.string ⟨l.toArray⟩) W:=by
 have h9:=run_convert_bytes_back (P:=Tryz.prog) W 121 9 5 ⟨g,0,none⟩ 64 l Tryz.underlying121 Tryz.underlying5 Tryz.underlying9 (fun j hj=>by
  rw[Addr.add_mid,Gh,AB _ _ _ _ _ _ h];unfold CY;simp[hj])
 rw[hl]at h9;exact h9
set_option maxHeartbeats 4000000 in
theorem qO (s:ByteArray)(w:World)(hs:s.size≤60000):Calls Tryz.prog 164 #[.string s] w fun e w'=>e=.returned (.string ⟨(Et s.data.toList).toArray⟩)∧Below w.heap.size w w':=by
 obtain⟨m,hm⟩:∃m,s.size=m:=⟨_,rfl⟩;have hml:s.data.toList.length=m:=by rw[BQ];exact hm
 have HD:Hid ([Value.int .u8 ((m:Int)/256),Value.int .u8 ((m:Int)%256)]++CY (s.data.toList.take (min m 62))++List.replicate (62-min m 62) (Value.int .u8 0)=CY (Et s.data.toList)):=Aa (by
  have h1:=QV s.data.toList;unfold CY;rw[h1,hml,UInt8.toNat_ofNat',UInt8.toNat_ofNat',Nat.mod_eq_of_lt (by omega),Nat.mod_eq_of_lt (by omega),Cc,hml];have h2:s.data.toList.take (min m 62)=s.data.toList.take 62:=by
   by_cases h:m≤62
   · rw[Nat.min_eq_left h,CV (by omega),CV (by omega)]
   · rw[Nat.min_eq_right (by omega)]
  rw[h2,Nat.min_comm];congr 2)
 have HFL:Hid ((Et s.data.toList).length=64):=Aa (Kq _);generalize Et s.data.toList=F at *;have HM:=Aa hm;rw[hm]at hs;go_enter Tryz.func164,Tryz.ntmps164;have HN:Hid (Nat.min s.size 62=min m 62):=Aa (by rw[HM.out]);have HX:Hid (([Value.int .u8 ((m:Int)/256),Value.int .u8 ((m:Int)%256)]++List.replicate 62 (Value.int .u8 0)).take 2++CY (s.data.toList.take (min m 62))++([Value.int .u8 ((m:Int)/256),Value.int .u8 ((m:Int)%256)]++List.replicate 62 (Value.int .u8 0)).drop (2+min m 62)=CY F):=Aa (by
  rw[←HD.out,nu];rfl)
 have Qs:Hid (2+min m 62≤([Value.int .u8 ((m:Int)/256),Value.int .u8 ((m:Int)%256)]++List.replicate 62 (Value.int .u8 0)).length):=Aa (by simp;omega);go_wp2_with ((with_reducible refine mU 5 w.heap.size 2 62 62 (min m 62) s ([Value.int .u8 ((m:Int)/256),Value.int .u8 ((m:Int)%256)]++List.replicate 62 (Value.int .u8 0)) (CY F) 164 ?_ ?_ ?_ ?_ ?_ ?_ ?_ ?_ ?_);exact rfl;exact rfl;exact Ai _ _;exact Tryz.underlying121;exact Vd;exact HN.out;exact Qs.out;exact HX.out);intro w2 hrow hbel;have hcv:=Zx HFL.out hrow;have HB:Hid (Below w.heap.size w w2):=Aa (hbel _ _ ((Ad _ _).alloc (Ae _) _) (Ae _));clear hbel hrow;go_wp2;go_ret;exact⟨rfl,HB.out⟩
def nL:Value→Nat
 | .string s=>s.size
 | _=>0
theorem Sj (s:ByteArray):nL (.string s)=s.size:=rfl
theorem Lm (R:ByteArray)(j q:Nat)(hq:R.size=q)(hj:j=min 62 q):(R.extract j q).data.toList=R.data.toList.drop 62:=by
 rw[ByteArray.data_extract,Array.toList_extract];show(R.data.toList.drop j).take (q-j)=_
 have hl:R.data.toList.length=q:=by rw[BQ];exact hq
 by_cases h:62≤q
 · rw[hj,Nat.min_eq_left h,CV (by rw[Ea,hl];omega)]
 · rw[hj,Nat.min_eq_right (by omega),List.drop_eq_nil_of_le (by omega),List.drop_eq_nil_of_le (by omega),List.take_nil]
theorem Yi {R:ByteArray}(h:R.size≠0):R.data.toList≠[]:=fun e=>h (by
 have:=Gu List.length e;rw[BQ]at this;exact this)
set_option maxHeartbeats 8000000 in
theorem Zi (s:ByteArray)(w:World)(hs:s.size≤60000):Calls Tryz.prog 134 #[.string s] w (RN s w):=by
 unfold RN;obtain⟨n,hn⟩:∃n,s.size=n:=⟨_,rfl⟩;have HN:=Aa hn;rw[hn]at hs;obtain⟨i0,hi0,hz0,hz1,hz2⟩:=info_parts Tryz.Mw;obtain⟨w1,hm,hown,hgrow⟩:=run_make_own (P:=Tryz.prog) w w.heap.size 59 9 i0 (.string ⟨#[]⟩) 1 Tryz.underlying59 hi0 hz0 hz1 .i64 .i64 ((n+61)/62) (by rw[hz2];omega) (by unfold maxLen;omega) (Ae _);have cF:=KQ n w (by omega);rw[GU]at cF;have HO0:=Aa hown;have HB0:Hid (Below w.heap.size w w1):=Aa ((Ad _ _).grown hgrow (Ae _) (fun k hk=>by cases hk));clear hown hgrow;generalize (n+61)/62=kf at *;go_enter Tryz.func134,Tryz.ntmps134;go_wp2_with fail;refine cF.mono ?_;rintro e w0 ⟨rfl,rfl⟩;clear cF;go_wp2;clear hm;go_loopw [4,3] (fun rv ov wr=>∃(R:ByteArray) (out:List (List UInt8)),R.size≤n∧rv=.string R∧out++Cs R.data.toList=Cs s.data.toList∧(∃o,o=ov∧wr.ownsRow w.heap.size 9 1 o out.length (UO out))∧Below w.heap.size w wr) (fun rv _ _=>nL rv)
 case atStart=>exact⟨s,[],by omega,rfl,rfl,⟨_,rfl,HO0.out⟩,HB0.out⟩
 case round =>
  obtain⟨R,out,hR,rfl,hc,⟨ov,rfl,hown⟩,hb⟩:=hrel;have HC:=Aa hc;have HO:=Aa hown;have HB:=Aa hb;clear hc hown hb;obtain⟨q,hq⟩:∃q,R.size=q:=⟨_,rfl⟩;have HQ:=Aa hq;rw[hq]at hR;by_cases hq0:q=0
  · have hRe:R=⟨#[]⟩:=by
     cases R with
     | mk d =>
      congr 1;exact Array.eq_empty_of_size_eq_zero (by rw[←hq0,←hq];rfl)
    subst hRe;have HE2:Hid (Cs s.data.toList=out):=Aa (by
     rw[←HC.out];show out++Cs []=out
     rw[IM,Cz])
    go_wp2;go_ret;exact⟨_,rfl,by rw[HE2.out];exact HO.out,HB.out⟩
  · have hne:(R.toList==(⟨#[]⟩:ByteArray).toList)=false:=MV (fun e=>hq0 (by rw[←hq,e];rfl));have hne2:(R.toList==[])=false:=by
     rw[ByteArray.toList_eq,Ba];exact Yi (by rw[hq];exact hq0)
    have Adj:R≠⟨#[]⟩:=fun e=>hq0 (by rw[←hq,e];rfl)
    have cFr:=fun W=>qO R W (by omega)
    obtain⟨F,hF⟩:∃F,Et R.data.toList=F:=⟨_,rfl⟩;have HF:=Aa hF;rw[hF]at cFr;clear hF;obtain⟨j,hj⟩:∃j,min 62 q=j:=⟨_,rfl⟩;have hjz:min (62:Int) (q:Int)=(j:Int):=by omega
    have hj0:(0:Int)≤(j:Int):=by omega
    have hjq:(j:Int)≤(q:Int):=by omega
    have HOL:Hid (out.length≤2000):=Aa (by
     have h1:=Gu List.length HC.out;rw[A7,Dp s.data.toList]at h1;have h2:s.data.toList.length=n:=by rw[BQ];exact HN.out
     rw[h2]at h1;omega)
    have HJ:=Aa hj;clear hj;go_wp2_with fail;refine(cFr _).mono ?_;rintro e w2 ⟨rfl,hb2⟩;have hown1:=HO.out.kept (LJ hb2 none) (by cases h:ov.ownBlock with|none=>exact Or.inl rfl|some x=>exact Or.inr (by simp));have JQ:=Aa hown1;have HB2:Hid (Below w.heap.size w w2):=Aa (HB.out.trans (hb2.mono HB.out.size));have Wo:Hid ((w2.alloc (.cells #[.string ⟨F.toArray⟩] 9)).ownsRow w.heap.size 9 1 ov out.length (UO out)):=Aa (JQ.out.alloc _);clear hown1 hb2 cFr;go_wp2_with (at_builtin;refine wpList_append_own _ rfl _ _ 59 rfl w.heap.size 9 i0 (.string ⟨#[]⟩) 1 16 Tryz.underlying59 hi0 hz0 hz1 hz2 rfl (by decide) _ _ _ rfl Wo.out ⟨w2.heap.size,0,none⟩ 1 1 [.string ⟨F.toArray⟩] rfl rfl ?c1 ?c2 ?c3 ?c4 ?c5 ?_)
    case c1 =>
     intro j u hj
     match j,hj with
     | 0,hj=>simp at hj;subst hj;simp[Addr.add]
    case c2=>intro u hu;simp at hu;subst hu;rfl
    case c3=>have:=HOL.out;unfold maxLen;omega
    case c4=>have:=HOL.out;omega
    case c5=>have h1:=HB2.out.size;simp;omega
    intro v' w3 hown' hgrow _;have Jf:=Aa hown';have HG3:=Aa hgrow;clear hown' hgrow;go_wp2;go_roundw
    case rel =>
     refine⟨R.extract j q,out++[F],?_,by first|rfl|(congr 1),?_,⟨_,rfl,?_⟩,?_⟩
     · have h1:=Lm R j q HQ.out HJ.out.symm;have h2:(R.extract j q).size=(R.extract j q).data.toList.length:=by rw[BQ];rfl
       have h3:R.data.toList.length=q:=by rw[BQ];exact HQ.out
       rw[h2,h1,Ea,h3];omega
     · rw[←HC.out,Lm R j q HQ.out HJ.out.symm,Dn (r:=R.data.toList) (Yi (by rw[HQ.out];exact hq0)),HF.out,Ch];rfl
     · have:=Jf.out;simpa[UO]using this
     · exact(HB2.out.alloc HB2.out.size _).grown HG3.out (by have:=HB2.out.size;simp;omega) (fun j hj=>(JQ.out.lt j hj).1)
    case measure =>
     rw[Sj,Sj];have h1:=Lm R j q HQ.out HJ.out.symm;have h2:(R.extract j q).size=(R.extract j q).data.toList.length:=by rw[BQ];rfl
     have h3:R.data.toList.length=q:=by rw[BQ];exact HQ.out
     have h4:=HQ.out;rw[h2,h1,Ea,h3];omega
theorem WE (s:ByteArray):Lib.strCells s=Lib.byteCells s.data.toList:=by
 unfold Lib.strCells Lib.byteCells;simp
theorem Uh (a b:List UInt8):Lib.byteCells (a++b)=Lib.byteCells a++Lib.byteCells b:=by
 unfold Lib.byteCells;simp
theorem Ug (a:List UInt8):(Lib.byteCells a).length=a.length:=by
 unfold Lib.byteCells;simp
theorem QW {y:ByteArray}(h:y.size=64):(y.extract 2 64).data.toList=y.data.toList.drop 2:=by
 rw[ByteArray.data_extract,Array.toList_extract];show(y.data.toList.drop 2).take (64-2)=_
 rw[CV (by
  rw[Ea,BQ];show y.size-2≤_
  omega)]
set_option maxHeartbeats 4000000 in
theorem qh (v:Value)(l:List ByteArray)(w:World)(hv:Eo w v l)(hl:∀x∈l,x.size=64)(hn:l.length≤2000) :
 Calls Tryz.prog 183 #[v] w fun e w'=>e=.returned (.string ⟨(Ca (Ac l)).toArray⟩)∧Below w.heap.size w w':=by
 obtain⟨a1,c1,rfl⟩:=hv.len;obtain⟨n,hN⟩:∃n,l.length=n:=⟨_,rfl⟩;obtain⟨G,hG⟩:∃G,Ca (Ac l)=G:=⟨_,rfl⟩;rw[hG];have HG:=Aa hG;have HU:=Aa hv;have HN:=Aa hN;have HL:=Aa hl;rw[hN]at hv hn ⊢;clear hv hl hN hG;go_enter Tryz.func183,Tryz.ntmps183;go_wp2;go_loopw [8] (fun iv wr=>∃i:Nat,i≤n∧iv=.int .i64 i∧H8 146 [] w.heap.size w.heap.size (Lib.byteCells (Ca (Ac (l.take i)))) wr∧Below w.heap.size w wr) (fun iv _=>n-(intOf iv).toNat)
 case atStart=>exact⟨0,by omega,rfl,lN w,(Ad _ _).alloc (Ae _) _⟩
 case round =>
  obtain⟨i,hi,rfl,hbu,hbel⟩:=hrel;have HB:=Aa hbu;have FU:=Aa hbel;clear hbu;by_cases hin:i<n
  · have hiz:(i:Int)<(n:Int):=by omega
    obtain⟨y,hy⟩:∃y,l[i]?=some y:=⟨_,Co (by rw[HN.out];exact hin)⟩;have hu9:=HU.out.kept hbel;rw[HN.out]at hu9;obtain⟨g2,o2,rfl,_,k2⟩:=hu9.at hy;have hys:y.size=64:=HL.out y (CU hy);have h2y:(2:Int)≤(y.size:Int):=by omega
    have HM:Hid (Lib.byteCells (Ca (Ac (l.take i)))++Lib.strCells (y.extract 2 64)=Lib.byteCells (Ca (Ac (l.take (i+1))))):=Aa (by
     rw[WE,QW hys,←Uh,Qh hy])
    have HS:Hid (∀W,H8 146 [] w.heap.size w.heap.size (Lib.byteCells (Ca (Ac (l.take i)))) W→Below w.heap.size w W→Calls Tryz.prog 118 #[.pointer (some ⟨w.heap.size,0,none⟩),.string (y.extract 2 64)] W fun e w'=>e=.returned (.tuple #[.int .i64 (y.extract 2 64).size,.nilIface])∧H8 146 [] w.heap.size w.heap.size (Lib.byteCells (Ca (Ac (l.take (i+1))))) w'∧Below w.heap.size w w'):=Aa (fun W hW hWb=>by
     refine(ah bU w.heap.size w.heap.size _ (y.extract 2 64) W hW ?_ hWb.size).mono ?_
     · rw[Ug,F7 (fun f hf=>Ot HL.out f (by
        obtain⟨x,hx,rfl⟩:=CG.1 hf;exact CG.2 ⟨x,List.mem_of_mem_take hx,rfl⟩))]
       have h1:(y.extract 2 64).size=(y.data.toList.drop 2).length:=by rw[←QW hys,BQ];rfl
       have h4:y.data.toList.length=64:=by rw[BQ];exact hys
       rw[h1,Ea,h4];have h2:(Ac (l.take i)).length≤i:=by unfold Ac;rw[DW];exact List.length_take_le _ _
       omega
     · rintro e w' ⟨rfl,hb1,hb2,_⟩;rw[HM.out]at hb1;exact⟨rfl,Or.inr hb1,hWb.trans hb2⟩)
    have HYS:=Aa hys;have HE:Hid (y.extract 2 y.size=y.extract 2 64):=Aa (by rw[hys]);clear hy hu9 hbel;go_wp2_with fail
    try rw[hys]
    refine(HS.out _ HB.out FU.out).mono ?_;rintro e w2 ⟨rfl,hb2,yM⟩;have HB2:=Aa hb2;have Aa3:=Aa yM;clear hb2 yM;go_wp2;go_roundw
    case rel=>exact⟨i+1,by omega,by first|rfl|go_num,HB2.out,Aa3.out⟩
    case measure=>simp[intOf];omega
  · have hiz:¬((i:Int)<(n:Int)):=by omega
    have GN:Hid (H8 146 [] w.heap.size w.heap.size (Lib.byteCells G) wr):=Aa (by
     have h1:=HB.out;rw[CV (by rw[HN.out];omega),HG.out]at h1;exact h1)
    clear hbel;go_wp2_with fail;refine(yx w.heap.size w.heap.size G wr GN.out FU.out.size).mono ?_;rintro e w2 ⟨rfl,hb2⟩;have Aa3:Hid (Below w.heap.size w w2):=Aa (FU.out.trans hb2);clear hb2;go_wp2;go_ret;exact⟨rfl,Aa3.out⟩
theorem E9 {st:St}{k:Nat}(hgo:BJ st=false)(hk:k<st.now.length):Fa st.now.length st.lim st.left k=0:=by
 unfold BJ at hgo;unfold Fa;rw[hgo,if_neg (by simp),if_neg (by omega)]
def Kl (M:List ByteArray):Array Value:=(M.map Value.string).toArray
theorem aL (M:List ByteArray)(i:Nat)(x:ByteArray):(Kl M).setIfInBounds i (.string x)=Kl (M.set i x):=by
 unfold Kl;apply Array.ext';rw[Array.toList_setIfInBounds,Iw,Iw,List.map_set]
theorem Si {M:List ByteArray}{i:Nat}{x:ByteArray}(h:M[i]?=some x):(Kl M)[i]?=some (.string x):=by
 unfold Kl;rw[Gp,GZ,h];rfl
theorem WL (n:Nat)(hn:n≤1000000)(W:World):(Instr.makeSlice 59 (.int .i64 n) (.int .i64 n)).run Tryz.prog W=.ok (.slice (some ⟨W.heap.size,0,none⟩) n n) (W.alloc (.cells (Kl (List.replicate n ⟨#[]⟩)) 9)):=by
 obtain⟨i0,hi0,hz0,hz1,hz2⟩:=info_parts Tryz.Mw;have:=run_make (P:=Tryz.prog) W 59 9 i0 (.string ⟨#[]⟩) Tryz.underlying59 hi0 hz0 .i64 .i64 n n (by omega) (by omega) (by rw[hz2];omega) (by omega);rw[hz1,DY]at this;refine this.trans ?_;congr 3;unfold Kl;apply Array.ext_getElem?;intro i;simp[madeCells,Value.cells];by_cases h:i<n
 · simp[h,Nat.mod_one]
 · simp[h]
theorem nQ {α:Type}{L:List α}{i K:Nat}{x z:α}(hx:L[i]?=some x)(hi:i<K):(L.take i++List.replicate (K-i) z).set i x=L.take (i+1)++List.replicate (K-(i+1)) z:=by
 have hl:(L.take i).length=i:=by
  rw[Cc];have:=(DL.1 hx).1;omega
 rw[List.set_append,if_neg (by omega),hl,Nat.sub_self,show K-i=(K-(i+1))+1 by omega,List.replicate_succ,mJ,List.take_add_one,hx];simp
set_option maxHeartbeats 4000000 in
theorem qN (B b:Nat)(st:St)(F A K:Nat)(sz:Int)(w:World)(h:Dev B w b st)(hg:Good st)(hgo:BJ st=false)(hK:F+A+K≤st.now.length) :
 Calls Tryz.prog 182 #[.agg #[.pointer (some ⟨b,0,none⟩),.int .i64 F,.int .i64 sz],.int .i64 A,.int .i64 K] w fun e w'=>∃v,e=.returned (.tuple #[v,.int .i64 0])∧Eo w' v ((st.now.drop (F+A)).take K)∧Below w.heap.size w w':=by
 have hf:=hg.few;obtain⟨L,hL⟩:∃L,(st.now.drop (F+A)).take K=L:=⟨_,rfl⟩;rw[hL];have XV:Hid (L.length=K):=Aa (by rw[←hL,Cc,Ea];omega);have hget:∀i x,L[i]?=some x→i<K∧st.now.getD (F+(A+i)) ⟨#[]⟩=x:=fun i x hx=>by
  have hi:i<K:=by have:=(DL.1 hx).1;have:=XV.out;omega
  rw[←hL,JR,if_pos hi,I5]at hx;refine⟨hi,?_⟩;rw[Gi,show F+(A+i)=F+A+i by omega,hx];rfl
 have cG:Hid (∀(i:Nat) (x:ByteArray),L[i]?=some x→∀W,Below w.heap.size w W→Calls Tryz.prog 162 #[.agg #[.pointer (some ⟨b,0,none⟩),.int .i64 F,.int .i64 sz],.int .i64 ((A:Int)+(i:Int))] W fun e w'=>e=.returned (.tuple #[.string x,.int .i64 0])∧Below W.heap.size W w'):=Aa (fun i x hx W hW=>by
  obtain⟨hi,hx2⟩:=hget i x hx;have h1:=XG B b st F sz ((A:Int)+(i:Int)) ((F+(A+i):Nat):Int) W (h.below hW) hg (by omega) (by omega);rw[E9 hgo (by omega),if_pos rfl,DY,hx2]at h1;exact h1)
 have hm:=WL K (by omega);have hAK:A+K≤4096:=by omega
 clear h hg hgo hK hf hL hget;go_enter Tryz.func182,Tryz.ntmps182;go_wp2;obtain⟨W0,hW0⟩:∃W0,w.alloc (.cells #[.pointer (some ⟨b,0,none⟩),.int .i64 F,.int .i64 sz] 218)=W0:=⟨_,rfl⟩;have HB0:Hid (Below w.heap.size w W0):=Aa (by rw[←hW0];exact(Ad _ _).alloc (Ae _) _);have XR:Hid (W0.heap.size=w.heap.size+1):=Aa (by rw[←hW0];simp);have Nn:Hid (W0.heap[w.heap.size]?=some (.cells #[.pointer (some ⟨b,0,none⟩),.int .i64 F,.int .i64 sz] 218 (0,0))):=Aa (by rw[←hW0];exact Ai _ _);have Oa:w.heap.size+1=W0.heap.size:=XR.out.symm
 try rw[hW0]
 try rw[Oa]
 clear hW0 hm;go_loopw [16] (fun iv wr=>∃i:Nat,i≤K∧iv=.int .i64 i∧wr.heap[W0.heap.size]?=some (.cells (Kl (L.take i++List.replicate (K-i) ⟨#[]⟩)) 9 (0,0))∧Below W0.heap.size W0 wr) (fun iv _=>K-(intOf iv).toNat)
 case atStart=>exact⟨0,by omega,rfl,Ai _ _,(Ad _ _).alloc (Ae _) _⟩
 case round =>
  obtain⟨i,hi,rfl,hrow,hbel⟩:=hrel;have HR:=Aa hrow;have HB:=Aa hbel;have FU:Hid (Below w.heap.size w wr):=Aa (HB0.out.trans (hbel.mono (by rw[XR.out];omega)));by_cases hiK:i<K
  · have hiz:(i:Int)<(K:Int):=by omega
    obtain⟨x,hx⟩:∃x,L[i]?=some x:=⟨_,Co (by rw[XV.out];exact hiK)⟩;have JU:wr.heap[w.heap.size]?=some (.cells #[.pointer (some ⟨b,0,none⟩),.int .i64 F,.int .i64 sz] 218 (0,0)):=by
     rw[hbel.block _ (by rw[XR.out];omega)];exact Nn.out
    have k0:wr.cell? ⟨w.heap.size,0,none⟩=some (.pointer (some ⟨b,0,none⟩)):=by rw[AB _ _ _ _ _ _ JU];rfl
    have k1:wr.cell? ⟨w.heap.size,1,none⟩=some (.int .i64 F):=by rw[AB _ _ _ _ _ _ JU];rfl
    have k2:wr.cell? ⟨w.heap.size,2,none⟩=some (.int .i64 sz):=by rw[AB _ _ _ _ _ _ JU];rfl
    have hAi:IntKind.i64.wrap ((A:Int)+(i:Int))=(A:Int)+(i:Int):=by rw[El];omega
    have HX:=Aa hx;clear hx JU hbel hrow;go_wp2_with fail;refine(cG.out i x HX.out _ FU.out).mono ?_;rintro e w2 ⟨rfl,hb2⟩;have hrow2:w2.heap[W0.heap.size]?=some (.cells (Kl (L.take i++List.replicate (K-i) ⟨#[]⟩)) 9 (0,0)):=by rw[hb2.block _ (Ab HR.out)];exact HR.out
    have HR2:=Aa hrow2;have HB2:Hid (Below W0.heap.size W0 w2):=Aa (HB.out.trans (hb2.mono HB.out.size));have hfz:w2.frozen? ⟨W0.heap.size,i,none⟩=false:=Fp _ _ _ _ _ hrow2;obtain⟨y,hcy⟩:∃y,w2.cell? ⟨W0.heap.size,i,none⟩=some (.string y):=by
     rw[AB _ _ _ _ _ _ hrow2];obtain⟨y,hy⟩:∃y,(L.take i++List.replicate (K-i) (⟨#[]⟩:ByteArray))[i]?=some y:=⟨_,Co (by rw[A7,Cc,JX,XV.out];omega)⟩;exact⟨y,Si hy⟩
    have HR3:Hid ((w2.setCell ⟨W0.heap.size,i,none⟩ (.string x)).heap[W0.heap.size]?=some (.cells (Kl (L.take (i+1)++List.replicate (K-(i+1)) ⟨#[]⟩)) 9 (0,0))):=Aa (by
     rw[Bn w2 _ i _ _ _ hrow2,aL,nQ HX.out hiK])
    have HB3:Hid (Below W0.heap.size W0 (w2.setCell ⟨W0.heap.size,i,none⟩ (.string x))):=Aa (HB2.out.setCell (p:=⟨W0.heap.size,i,none⟩) (Ae _) _);clear hb2 hrow2 k0 k1 k2;go_wp2;go_roundw
    case rel=>exact⟨i+1,by omega,by first|rfl|go_num,HR3.out,HB3.out⟩
    case measure=>simp[intOf];omega
  · have hiz:¬((i:Int)<(K:Int)):=by omega
    have HE:Hid (Eo wr (.slice (some ⟨W0.heap.size,0,none⟩) K K) L):=Aa (Or.inr ⟨W0.heap.size,0,K,Ab hrow,by rw[XV.out],fun j s hj=>by
     rw[Gh,AB _ _ _ _ _ _ hrow];refine Si ?_;have hjl:=(DL.1 hj).1;have h9:=XV.out;rw[CV (by omega),LG hjl];exact hj⟩)
    clear hrow hbel;go_wp2;go_ret2;exact⟨_,rfl,HE.out,FU.out⟩
end Go.Proofs.YtdmkhmeaphaapaaGreat.V
