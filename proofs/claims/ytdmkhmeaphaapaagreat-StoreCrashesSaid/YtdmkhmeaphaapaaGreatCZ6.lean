/- Kit. -/
import Derived.Lib.MapLaws
import Derived.Lib.TrimUEq
import Derived.Test.YtdmkhmeaphaapaaGreatProg
import Derived.WalkKit
import Derived.WalkSpells
import Derived.Lib.Hide
import Derived.Deep.QuietTactic
import Derived.Test.YtdmkhmeaphaapaaGreatCZ5
import Derived.IntWalk
import Derived.PlainAid
import Derived.Laws.RangeString
import Derived.LoopTactic
import Derived.BigQuiet
import Derived.WalkMore
import Derived.Lib.ValidLaws
import Derived.Laws.IdiomStrings
import Derived.Lib.OthersKept
import Derived.Laws.RangeAny
import Derived.Deep.WholeRow
import Derived.Deep.LoopGhost
import Derived.Test.YtdmkhmeaphaapaaGreatCZ1
import Derived.Test.YtdmkhmeaphaapaaGreatCZ0
set_option maxRecDepth 100000
set_option linter.unusedVariables false
set_option linter.unusedSimpArgs false
namespace Go.Proofs.YtdmkhmeaphaapaaGreat
open Go.Lib
def YW (r:Int):Bool:=decide ((0≤r∧r<55296)∨(57343<r∧r≤1114111))
theorem bH {r:Int}(h:(0≤r∧r<55296)∨(57343<r∧r≤1114111)):YW r=true:=A8 h
theorem Xh {r:Int}(h:¬((0≤r∧r<55296)∨(57343<r∧r≤1114111))):YW r=false:=Bb h
theorem Mv {r:Int}(h:YW r=true):(0≤r∧r<55296)∨(57343<r∧r≤1114111):=FL h
theorem jV (r:Int):Utf8.valid r=YW r:=by
 simp only[Utf8.valid,YW];by_cases h:(0≤r∧r<55296)∨(57343<r∧r≤1114111)
 · rw[A8 h];rcases h with h|h<;>simp<;>omega
 · rw[Bb h];simp;omega
theorem enc1 (n:Nat)(h:n<128):encodeRune (n:Int)=[UInt8.ofNat n]:=by
 unfold encodeRune;rw[encodeRuneZ_one (by omega) (by omega)];have e1:((n:Int)).toNat=n:=by omega
 simp only[List.map,e1]
theorem enc2 (n:Nat)(h:128≤n)(h':n<2048):encodeRune (n:Int)=[UInt8.ofNat (192+n/64),UInt8.ofNat (128+n%64)]:=by
 unfold encodeRune;rw[encodeRuneZ_two (by omega) (by omega)];have e1:(192+(n:Int)/64).toNat=192+n/64:=by omega
 have e2:(128+(n:Int)%64).toNat=128+n%64:=by omega
 simp only[List.map,e1,e2]
theorem enc3 (n:Nat)(h:2048≤n)(h':n<65536)(hr:n<55296∨57343<n):encodeRune (n:Int)=[UInt8.ofNat (224+n/4096),UInt8.ofNat (128+n/64%64),UInt8.ofNat (128+n%64)]:=by
 unfold encodeRune;rw[encodeRuneZ_three (by omega)];have e1:(224+(n:Int)/4096).toNat=224+n/4096:=by omega
 have e2:(128+(n:Int)/64%64).toNat=128+n/64%64:=by omega
 have e3:(128+(n:Int)%64).toNat=128+n%64:=by omega
 simp only[List.map,e1,e2,e3]
theorem enc4 (n:Nat)(h:65536≤n)(h':n≤1114111):encodeRune (n:Int)=[UInt8.ofNat (240+n/262144),UInt8.ofNat (128+n/4096%64),UInt8.ofNat (128+n/64%64),UInt8.ofNat (128+n%64)]:=by
 unfold encodeRune;rw[encodeRuneZ_four (by omega) (by omega)];have e1:(240+(n:Int)/262144).toNat=240+n/262144:=by omega
 have e2:(128+(n:Int)/4096%64).toNat=128+n/4096%64:=by omega
 have e3:(128+(n:Int)/64%64).toNat=128+n/64%64:=by omega
 have e4:(128+(n:Int)%64).toNat=128+n%64:=by omega
 simp only[List.map,e1,e2,e3,e4]
theorem UQ (r:Int)(h:YW r=true):(Utf8.encode r).data.toList=encodeRune r:=by
 have hv:=jV r;rw[h]at hv;have hr:=Mv h;obtain⟨n,rfl⟩:∃n:Nat,r=(n:Int):=⟨r.toNat,by omega⟩;have hn:((n:Int)).toNat=n:=by omega
 unfold Utf8.encode;simp only[hv,if_true,hn];by_cases h1:n<128
 · rw[if_pos h1,enc1 n h1]
 · rw[if_neg h1];by_cases h2:n<2048
   · rw[if_pos h2,enc2 n (by omega) h2]
   · rw[if_neg h2];by_cases h3:n<65536
     · rw[if_pos h3,enc3 n (by omega) h3 (by omega)]
     · rw[if_neg h3,enc4 n (by omega) (by omega)]
theorem OE (n:Nat)(h:n<256):(UInt8.ofNat n).toNat=n:=by simp;omega
theorem Ab9 (r:Int)(h:YW r=true)(t:List UInt8):decodeL (encodeRune r++t)=(r.toNat,(encodeRune r).length):=by
 have hr:=Mv h;obtain⟨n,rfl⟩:∃n:Nat,r=(n:Int):=⟨r.toNat,by omega⟩;have hn:((n:Int)).toNat=n:=by omega
 rw[decodeL_N,hn];by_cases h1:n<128
 · rw[enc1 n h1];simp only[List.cons_append,List.nil_append,List.getD_cons_zero,List.length_cons,List.length_nil];rw[OE n (by omega)];unfold decodeN;rw[if_pos h1]
 · by_cases h2:n<2048
   · rw[enc2 n (by omega) h2];simp only[List.cons_append,List.nil_append,List.getD_cons_zero,List.getD_cons_succ,List.length_cons,List.length_nil];rw[OE (192+n/64) (by omega),OE (128+n%64) (by omega)];unfold decodeN;rw[if_neg (by omega),if_pos (by omega),if_pos (by omega)];exact Prod.ext (by simp only;omega) rfl
   · by_cases h3:n<65536
     · rw[enc3 n (by omega) h3 (by omega)];simp only[List.cons_append,List.nil_append,List.getD_cons_zero,List.getD_cons_succ,List.length_cons,List.length_nil];rw[OE (224+n/4096) (by omega),OE (128+n/64%64) (by omega),OE (128+n%64) (by omega)];unfold decodeN;rw[if_neg (by omega),if_neg (by omega),if_pos (by omega),if_pos (by omega)];exact Prod.ext (by simp only;omega) rfl
     · rw[enc4 n (by omega) (by omega)];simp only[List.cons_append,List.nil_append,List.getD_cons_zero,List.getD_cons_succ,List.length_cons,List.length_nil];rw[OE (240+n/262144) (by omega),OE (128+n/4096%64) (by omega),OE (128+n/64%64) (by omega),OE (128+n%64) (by omega)];unfold decodeN;rw[if_neg (by omega),if_neg (by omega),if_neg (by omega),if_pos (by omega),if_pos (by omega)];exact Prod.ext (by simp only;omega) rfl
end Go.Proofs.YtdmkhmeaphaapaaGreat
namespace Go.Proofs.YtdmkhmeaphaapaaGreat
open Go.RowKit
set_option maxHeartbeats 400000 in
theorem Me (r:Int)(w:World) :
 Calls Tryz.prog 217 #[.int .i32 r] w fun e w'=>e=.returned (.bool (YW r))∧w=w':=by
 by_cases h1:0≤r
 · by_cases h2:r<55296
   · rw[bH (by omega)];go_enter Tryz.func217,Tryz.ntmps217;go_wp2;go_ret;exact⟨rfl,rfl⟩
   · by_cases h3:57343<r
     · by_cases h4:r≤1114111
       · rw[bH (by omega)];go_enter Tryz.func217,Tryz.ntmps217;go_wp2;go_ret;exact⟨rfl,rfl⟩
       · rw[Xh (by omega)];go_enter Tryz.func217,Tryz.ntmps217;go_wp2;go_ret;exact⟨rfl,rfl⟩
     · rw[Xh (by omega)];go_enter Tryz.func217,Tryz.ntmps217;go_wp2;go_ret;exact⟨rfl,rfl⟩
 · have h3:¬57343<r:=by omega
   rw[Xh (by omega)];go_enter Tryz.func217,Tryz.ntmps217;go_wp2;go_ret;exact⟨rfl,rfl⟩
end Go.Proofs.YtdmkhmeaphaapaaGreat
namespace Go.Proofs.YtdmkhmeaphaapaaGreat
open Go.RowKit
theorem below_drewN' {B:Nat}{a w:World}(h:Below B a w):∀q,Below B a (w.drewN q)
 | 0=>h
 | q+1=>(below_drewN' h q).drew
end Go.Proofs.YtdmkhmeaphaapaaGreat
namespace Go.Proofs.YtdmkhmeaphaapaaGreat
open Go.RowKit Go.Lib
def Ux (s:ByteArray):Prop:=∀(j:Nat) b,s.data.toList[j]?=some b→b.toNat<128
theorem Ux.at' {s:ByteArray}(h:Ux s)(j:Nat)(hj:j<s.size):(s[j]'hj).toNat<128:=by
 refine h j (s[j]'hj) ?_;rw[Co (by simpa using hj)];simp[ByteArray.getElem_eq_getElem_data]
def j6 (s:ByteArray)(r:Int):Int:=if 0≤r∧r<128 then Lib.indexByte s.data.toList r.toNat.toUInt8 else -1
theorem index_none:∀(l:List UInt8) (c:UInt8),(∀x∈l,x≠c)→Lib.indexByte l c=-1
 | [],_,_=>rfl
 | x::l,c,h=>by
  have h1:(x==c)=false:=by rw[Ba];exact h x (by simp)
  have h2:=index_none l c (fun y hy=>h y (by simp[hy]));unfold Lib.indexByte;rw[h1,h2];rfl
theorem Pb (b:ByteArray):b.data.toList.length=b.size:=by simp
theorem Xe {b:ByteArray}{l:List UInt8}{x:UInt8}(he:b.data.toList=l++[x])(hx:128≤x.toNat):128≤Go.PlainAid.bt b (b.size-1):=by
 have hs:b.size=l.length+1:=by rw[←Pb,he];simp
 have hk:b.size-1<b.size:=by omega
 have h2:=Go.PlainAid.get_bt b _ hk;have h3:b[b.size-1]'hk=x:=by
  have h4:b.data.toList[b.size-1]?=some x:=by rw[he,hs];simp
  rw[Co (by simpa using hk)]at h4;have:=BS h4;rw[←this];simp[ByteArray.getElem_eq_getElem_data]
 rw[h3]at h2;omega
theorem Zq {r:Int}(h:YW r=true)(h1:128≤r):2≤(Utf8.encode r).size∧(Utf8.encode r).size≤4∧128≤Go.PlainAid.bt (Utf8.encode r) ((Utf8.encode r).size-1):=by
 have he:=UQ r h;have hi:=Mv h;have hz:=Pb (Utf8.encode r);obtain⟨n,rfl⟩:∃n:Nat,r=(n:Int):=⟨r.toNat,by omega⟩;by_cases h2:n<2048
 · have e:=enc2 n (by omega) h2;rw[e]at he;refine⟨by rw[←hz,he];simp,by rw[←hz,he];simp,Xe (l:=[UInt8.ofNat (192+n/64)]) he (by rw[OE _ (by omega)];omega)⟩
 · by_cases h3:n<65536
   · have e:=enc3 n (by omega) h3 (by omega);rw[e]at he;refine⟨by rw[←hz,he];simp,by rw[←hz,he];simp,Xe (l:=[UInt8.ofNat (224+n/4096),UInt8.ofNat (128+n/64%64)]) he (by rw[OE _ (by omega)];omega)⟩
   · have e:=enc4 n (by omega) (by omega);rw[e]at he;refine⟨by rw[←hz,he];simp,by rw[←hz,he];simp,Xe (l:=[UInt8.ofNat (240+n/262144),UInt8.ofNat (128+n/4096%64),UInt8.ofNat (128+n/64%64)]) he (by rw[OE _ (by omega)];omega)⟩
set_option maxHeartbeats 1000000 in
theorem wV (s:ByteArray)(has:Ux s)(hs:s.size≤1000)(w:World) :
 Calls Tryz.prog 212 #[.string s,.int .i32 65533] w fun e w'=>e=.returned (.int .i64 (-1))∧Below w.heap.size w w':=by
 have HA:=Aa has;clear has;have hb0:∀p,Below w.heap.size w (w.iter s p):=fun p=>(Ad _ _).alloc (Ae _) _
 go_enter Tryz.func212,Tryz.ntmps212;go_wp2;go_loopw [5] (fun _ w'=>∃pos:Nat,w'=w.iter s pos∧pos≤s.size) (fun _ w'=>s.size-w'.iterPos w.heap.size)
 case atStart=>exact⟨0,rfl,by omega⟩
 case round =>
  obtain⟨pos,rfl,hp0⟩:=hrel;by_cases hp:pos<s.size
  · have h8:=HA.out.at' pos hp;have hnx:∀ty,(Instr.next (.pointer (some ⟨w.heap.size,0,none⟩)) true ty).run Tryz.prog (w.iter s pos)=_:=fun ty=>run_next_ascii w s pos ty hp h8
    obtain⟨A,hA⟩:∃A:Nat,(s[pos]'hp).toNat=A:=⟨_,rfl⟩;rw[hA]at h8;simp only[hA]at hnx;have hne:((A:Int)==65533)=false:=by rw[Ba];omega
    clear hA;go_wp2;go_roundw
    case rel=>exact⟨pos+1,rfl,by omega⟩
    case measure=>simp;omega
  · have hnx:∀ty,(Instr.next (.pointer (some ⟨w.heap.size,0,none⟩)) true ty).run Tryz.prog (w.iter s pos)=_:=fun ty=>run_next_end w s pos ty hp
    go_wp2;go_ret;exact⟨rfl,hb0 _⟩
set_option maxHeartbeats 2000000 in
theorem qw (s:ByteArray){r:Int}(has:Ux s)(hs:s.size≤1000)(h4:(Utf8.encode r).size≤s.size)(hr:YW r=true)(h1:128≤r)(h2:¬r=65533)(w:World) :
 Calls Tryz.prog 212 #[.string s,.int .i32 r] w fun e w'=>e=.returned (.int .i64 (-1))∧Below w.heap.size w w':=by
 obtain⟨hn2,Kv,hb⟩:=Zq hr h1;have cV:=Me r;rw[hr]at cV;have hi:=Mv hr;obtain⟨n,hn⟩:∃n,(Utf8.encode r).size=n+1:=⟨(Utf8.encode r).size-1,by omega⟩;have hn1:(Utf8.encode r).size-1=n:=by omega
 rw[hn1]at hb;obtain⟨x,hx⟩:∃x:Int,Go.PlainAid.bt s n=x:=⟨_,rfl⟩;obtain⟨y,hy⟩:∃y:Int,Go.PlainAid.bt (Utf8.encode r) n=y:=⟨_,rfl⟩;have Acd:y≤255:=by rw[←hy];exact Go.PlainAid.bt_le (Utf8.encode r) n
 rw[hy]at hb;have hxl:x<128:=by
  have h5:=has.at' n (by omega);have h6:=Go.PlainAid.get_bt s n (by omega);omega
 have hB:=Go.PlainAid.get_bt s;have hB':=Go.PlainAid.get_bt (Utf8.encode r);have hxy:(x !=y)=true:=by rw[bne_iff_ne];omega
 have hz:((Utf8.encode r).size:Int)=(n:Int)+1:=by omega
 have hw1:IntKind.i64.wrap ((n:Int)+1-1)=(n:Int):=by rw[El];omega
 have hw2:IntKind.i64.wrap ((n:Int)+1)=(n:Int)+1:=by rw[El];omega
 have hlt:(n:Int)<(s.size:Int):=by omega
 have hle:(n:Int)+1≤(s.size:Int):=by omega
 have n0:(0:Int)≤(n:Int):=by omega
 have nn1:(n:Int)<(n:Int)+1:=by omega
 have nn2:n<(Utf8.encode r).size:=by omega
 have nn3:(n:Int)<((Utf8.encode r).size:Int):=by omega
 have nn4:n<n+1:=by omega
 have n1:(0:Int)≤(n:Int)+1:=by omega
 have nt:((n:Int)).toNat=n:=by omega
 have nt1:((n:Int)+1).toNat=n+1:=by omega
 have e1:¬(r<128):=by omega
 have e2:(r==65533)=false:=by rw[Ba];exact h2
 have r0:(0:Int)≤r:=by omega
 have cI:∀w,Calls Tryz.prog 216 #[.string (s.extract (n+1) s.size),.int .u8 y] w fun e w'=>e=.returned (.int .i64 (-1))∧w'=w:=fun w=>by
  have h7:=Tryz.strings_IndexByte (s.extract (n+1) s.size) y w;rw[index_none _ _ (fun z hz'=>by
   have h8:z∈s.data.toList:=by
    rw[show(s.extract (n+1) s.size).data.toList=s.data.toList.drop (n+1) by simp[List.take_of_length_le]]at hz';exact List.mem_of_mem_drop hz'
   obtain⟨j,hj,h9⟩:=List.getElem_of_mem h8;have h10:=has j z (by rw[Co hj,h9]);intro h11;rw[h11]at h10;have:(y.toNat.toUInt8).toNat=y.toNat:=by simp;omega
   omega)]at h7
  exact h7
 clear has hr h1 h2 hi hn2 Kv hn1 Acd h4;go_enter Tryz.func212,Tryz.ntmps212;go_wp2_with (first|(go_at_call 217;refine(cV _).mono ?_;rintro e w' ⟨rfl,rfl⟩));go_step3;go_wp2_with fail;refine wp_loop_rounds 1 ?_;rw[rounds_succ];go_wp2_with fail;go_step3;go_wp2_with fail;go_quiet (fail);have HBq:Hid (Below w.heap.size w (w.drewN nq)):=Aa (below_drewN' (Ad _ _) nq);generalize w.drewN nq=wq at *;go_wp2_with fail;go_quiet ((go_at_call 216;exact Calls.quiet_of_same ((cI _).mono fun _ _ h=>⟨h.1,h.2⟩)));go_wp2_with fail;simp only[Exit.noGoto,Exit.inBlock,Exit.then];go_ret;exact⟨rfl,below_drewN' HBq.out _⟩
set_option maxHeartbeats 2000000 in
theorem qx (s:ByteArray){r:Int}(h4:s.size<(Utf8.encode r).size)(hr:YW r=true)(h1:128≤r)(h2:¬r=65533)(w:World) :
 Calls Tryz.prog 212 #[.string s,.int .i32 r] w fun e w'=>e=.returned (.int .i64 (-1))∧Below w.heap.size w w':=by
 obtain⟨hn2,Kv,hb⟩:=Zq hr h1;have cV:=Me r;rw[hr]at cV;have hi:=Mv hr;obtain⟨n,hn⟩:∃n,(Utf8.encode r).size=n+1:=⟨(Utf8.encode r).size-1,by omega⟩;have hn3:n≤3:=by omega
 have n0:(0:Int)≤(n:Int):=by omega
 have hz:((Utf8.encode r).size:Int)=(n:Int)+1:=by omega
 have hw1:IntKind.i64.wrap ((n:Int)+1-1)=(n:Int):=by rw[El];omega
 have hge:¬((n:Int)<(s.size:Int)):=by omega
 have e1:¬(r<128):=by omega
 have e2:(r==65533)=false:=by rw[Ba];exact h2
 have r0:(0:Int)≤r:=by omega
 clear hr h1 h2 hi hn2 Kv h4 hb hn;go_enter Tryz.func212,Tryz.ntmps212;go_wp2_with (first|(go_at_call 217;refine(cV _).mono ?_;rintro e w' ⟨rfl,rfl⟩));go_step3;go_wp2_with fail;refine wp_loop_rounds 1 ?_;rw[rounds_succ];go_wp2_with fail;rw[Exit.noGoto_ret];go_ret;exact⟨rfl,Ad _ _⟩
theorem wU (s:ByteArray)(has:Ux s)(hs:s.size≤1000)(r:Int)(hr:YW r=true)(h1:128≤r)(h2:¬r=65533)(w:World) :
 Calls Tryz.prog 212 #[.string s,.int .i32 r] w fun e w'=>e=.returned (.int .i64 (-1))∧Below w.heap.size w w':=by
 by_cases h4:(Utf8.encode r).size≤s.size
 · exact qw s has hs h4 hr h1 h2 w
 · exact qx s (by omega) hr h1 h2 w
theorem j5 (s:ByteArray)(has:Ux s)(hs:s.size≤1000)(r:Int)(w:World) :
 Calls Tryz.prog 212 #[.string s,.int .i32 r] w fun e w'=>e=.returned (.int .i64 (j6 s r))∧Below w.heap.size w w':=by
 unfold j6;by_cases h0:0≤r∧r<128
 · rw[if_pos h0];refine(Tryz.strings_IndexRune_ascii s r w h0.1 h0.2).mono ?_;rintro e w' ⟨rfl,rfl⟩;exact⟨rfl,Ad _ _⟩
 · rw[if_neg h0];by_cases hb:r=65533
   · subst hb;exact wV s has hs w
   · cases hr:YW r with
     | true=>exact wU s has hs r hr (by have:=Mv hr;omega) hb w
     | false =>
      have cV:=Me r;rw[hr]at cV;have hb':(r==65533)=false:=by rw[Ba];exact hb
      by_cases hn:r<0
      · have hn':¬(0≤r):=by omega
        clear hr hb h0;go_enter Tryz.func212,Tryz.ntmps212;go_wp2_with (first|(go_at_call 217;refine(cV _).mono ?_;rintro e w' ⟨rfl,rfl⟩));go_ret;exact⟨rfl,Ad _ _⟩
      · have hn':0≤r:=by omega
        have hn2:¬(r<128):=by omega
        clear hr hb h0 hn;go_enter Tryz.func212,Tryz.ntmps212;go_wp2_with (first|(go_at_call 217;refine(cV _).mono ?_;rintro e w' ⟨rfl,rfl⟩));go_ret;exact⟨rfl,Ad _ _⟩
end Go.Proofs.YtdmkhmeaphaapaaGreat
namespace Go.Proofs.YtdmkhmeaphaapaaGreat
open Go.Lib
def gB (l:List UInt8)(i:Nat):Nat:=(l.getD i 0).toNat
def bf (s:Nat)(l:List UInt8):Nat:=
 if s=1 then gB l 0
 else if s=2 then gB l 0%32*64+gB l 1%64
 else if s=3 then(gB l 0%16*64+gB l 1%64)*64+gB l 2%64
 else((gB l 0%8*64+gB l 1%64)*64+gB l 2%64)*64+gB l 3%64
def Hit (s:Nat)(l:List UInt8):Prop:=s≤l.length∧YW (bf s l:Int)=true∧encodeRune (bf s l:Int)=l.take s
def J4 (l:List UInt8):Nat×Nat:=if l=[] then(0,0) else if(decodeL l).1=65533∧(decodeL l).2=1 then(0,0) else decodeL l
theorem VY (l:List UInt8)(hne:l≠[]):YW ((decodeL l).1:Int)=true:=by
 rw[decodeL_N];have h0:(l.getD 0 0).toNat<256:=UInt8.toNat_lt _;apply bH;unfold decodeN
 repeat' split
 all_goals (simp only;omega)
theorem pE {l:List UInt8}(hne:l≠[])(hg:¬((decodeL l).1=65533∧(decodeL l).2=1)):1≤(decodeL l).2∧(decodeL l).2≤4∧Hit (decodeL l).2 l:=by
 have he:=encode_decode l hne hg;have hr:=VY l hne;have hw:=decodeL_width l;have hl:=decodeL_le l hne;have hi:=Mv hr;generalize hc:(decodeL l).1=c at *;generalize hk:(decodeL l).2=k at *;have hlen:(encodeRune (c:Int)).length=k:=by rw[he,Cc];omega
 have h4:=(encodeRuneZ_length (c:Int)).2;have h4':k≤4:=by rw[←hlen];simpa[encodeRune]using h4
 refine⟨hw,h4',hl,?_⟩;have Acn:bf k l=c:=by
  have hgd:∀i,i<k→gB l i=gB (encodeRune (c:Int)) i:=by
   intro i hik;unfold gB;rw[he,Gi,Gi,JR,if_pos hik]
  by_cases h1:c<128
  · have e:=enc1 c h1;have hk1:k=1:=by rw[←hlen,e];rfl
    subst hk1;unfold bf;rw[if_pos rfl,hgd 0 (by omega),e];exact OE c (by omega)
  · by_cases h2:c<2048
    · have e:=enc2 c (by omega) h2;have hk1:k=2:=by rw[←hlen,e];rfl
      subst hk1;unfold bf;rw[if_neg (by omega),if_pos rfl,hgd 0 (by omega),hgd 1 (by omega),e];have a0:gB [UInt8.ofNat (192+c/64),UInt8.ofNat (128+c%64)] 0=192+c/64:=OE _ (by omega);have a1:gB [UInt8.ofNat (192+c/64),UInt8.ofNat (128+c%64)] 1=128+c%64:=OE _ (by omega);rw[a0,a1];omega
    · by_cases h3:c<65536
      · have e:=enc3 c (by omega) h3 (by omega);have hk1:k=3:=by rw[←hlen,e];rfl
        subst hk1;unfold bf;rw[if_neg (by omega),if_neg (by omega),if_pos rfl,hgd 0 (by omega),hgd 1 (by omega),hgd 2 (by omega),e];have a0:gB [UInt8.ofNat (224+c/4096),UInt8.ofNat (128+c/64%64),UInt8.ofNat (128+c%64)] 0=224+c/4096:=OE _ (by omega);have a1:gB [UInt8.ofNat (224+c/4096),UInt8.ofNat (128+c/64%64),UInt8.ofNat (128+c%64)] 1=128+c/64%64:=OE _ (by omega);have a2:gB [UInt8.ofNat (224+c/4096),UInt8.ofNat (128+c/64%64),UInt8.ofNat (128+c%64)] 2=128+c%64:=OE _ (by omega);rw[a0,a1,a2];omega
      · have e:=enc4 c (by omega) (by omega);have hk1:k=4:=by rw[←hlen,e];rfl
        subst hk1;unfold bf;rw[if_neg (by omega),if_neg (by omega),if_neg (by omega),hgd 0 (by omega),hgd 1 (by omega),hgd 2 (by omega),hgd 3 (by omega),e];have a0:gB [UInt8.ofNat (240+c/262144),UInt8.ofNat (128+c/4096%64),UInt8.ofNat (128+c/64%64),UInt8.ofNat (128+c%64)] 0=240+c/262144:=OE _ (by omega);have a1:gB [UInt8.ofNat (240+c/262144),UInt8.ofNat (128+c/4096%64),UInt8.ofNat (128+c/64%64),UInt8.ofNat (128+c%64)] 1=128+c/4096%64:=OE _ (by omega);have a2:gB [UInt8.ofNat (240+c/262144),UInt8.ofNat (128+c/4096%64),UInt8.ofNat (128+c/64%64),UInt8.ofNat (128+c%64)] 2=128+c/64%64:=OE _ (by omega);have a3:gB [UInt8.ofNat (240+c/262144),UInt8.ofNat (128+c/4096%64),UInt8.ofNat (128+c/64%64),UInt8.ofNat (128+c%64)] 3=128+c%64:=OE _ (by omega);rw[a0,a1,a2,a3];omega
 rw[Acn];exact⟨hr,he⟩
theorem YH (l:List UInt8):J4 l=(0,0)∨(l≠[]∧J4 l=decodeL l∧YW ((J4 l).1:Int)=true∧1≤(J4 l).2∧(J4 l).2≤4∧(J4 l).2≤l.length∧encodeRune ((J4 l).1:Int)=l.take (J4 l).2):=by
 by_cases hne:l=[]
 · left;unfold J4;rw[if_pos hne]
 · by_cases hg:(decodeL l).1=65533∧(decodeL l).2=1
   · left;unfold J4;rw[if_neg hne,if_pos hg]
   · right;have e:J4 l=decodeL l:=by unfold J4;rw[if_neg hne,if_neg hg]
     obtain⟨a,b,c⟩:=pE hne hg;rw[e];exact⟨hne,rfl,VY l hne,a,b,decodeL_le l hne,encode_decode l hne hg⟩
theorem jI {l:List UInt8}(hne:l≠[]):J4 l=if(decodeL l).1=65533∧(decodeL l).2=1 then(0,0) else decodeL l:=by unfold J4;rw[if_neg hne]
end Go.Proofs.YtdmkhmeaphaapaaGreat
namespace Go.Proofs.YtdmkhmeaphaapaaGreat
open Go.RowKit Go.Lib
theorem Aaf {w:World}{k:Nat}{o:Obj}(hk:w.heap[k]?=some o):k<w.heap.size:=(Array.getElem?_eq_some_iff.1 hk).1
theorem RF {b:ByteArray}{k:Nat}(hk:k<b.size):b.data.toList[k]?=some (b[k]'hk)∧Go.PlainAid.bt b k=((b[k]'hk).toNat:Int):=by
 refine⟨?_,(Go.PlainAid.get_bt b k hk).symm⟩;rw[Co (by simpa using hk)];simp[ByteArray.getElem_eq_getElem_data]
theorem rF {r:Int}(h:YW r=true)(h1:128≤r):∀x∈encodeRune r,128≤x.toNat:=by
 have hi:=Mv h;obtain⟨n,rfl⟩:∃n:Nat,r=(n:Int):=⟨r.toNat,by omega⟩;by_cases h2:n<2048
 · rw[enc2 n (by omega) h2];intro x hx;simp only[List.mem_cons,List.not_mem_nil,or_false]at hx;rcases hx with rfl|rfl<;>rw[OE _ (by omega)]<;>omega
 · by_cases h3:n<65536
   · rw[enc3 n (by omega) h3 (by omega)];intro x hx;simp only[List.mem_cons,List.not_mem_nil,or_false]at hx;rcases hx with rfl|rfl|rfl<;>rw[OE _ (by omega)]<;>omega
   · rw[enc4 n (by omega) (by omega)];intro x hx;simp only[List.mem_cons,List.not_mem_nil,or_false]at hx;rcases hx with rfl|rfl|rfl|rfl<;>rw[OE _ (by omega)]<;>omega
/-- What a range over bytes finds at a place: a byte of ASCII, or a character above it that swallows none of ASCII. -/
theorem ja {b : ByteArray} {pos : Nat} (hp : pos < b.size) :
    (Go.PlainAid.bt b pos < 128 ∧ ((Utf8.decode b pos).1 : Int) = Go.PlainAid.bt b pos ∧ (Utf8.decode b pos).2 = 1) ∨
    (128 ≤ (Utf8.decode b pos).1 ∧ 1 ≤ (Utf8.decode b pos).2 ∧ pos + (Utf8.decode b pos).2 ≤ b.size ∧ ∀ k, pos ≤ k → k < pos + (Utf8.decode b pos).2 → 128 ≤ Go.PlainAid.bt b k) := by
  have hB := (RF hp).2
  by_cases h8 : Go.PlainAid.bt b pos < 128
  · left
    have h9 := decode_ascii b pos hp (by omega)
    rw [h9]
    exact ⟨h8, hB.symm, rfl⟩
  · right
    have hdd := Lib.decodeL_drop b pos
    have hz := Pb b
    have hne : b.data.toList.drop pos ≠ [] := by
      intro h
      have := Gu List.length h
      rw [Ea, yt] at this
      omega
    have hat : ∀ k, pos ≤ k → k < b.size → (b.data.toList.drop pos)[k - pos]? = some (UInt8.ofNat (Go.PlainAid.bt b k).toNat) := fun k h1 h2 => by
      rw [I5, show pos + (k - pos) = k by omega, (RF h2).1, (RF h2).2]
      simp
    rcases YH (b.data.toList.drop pos) with h0 | ⟨_, hd, hR, h1, h4, hle, he⟩
    · rw [jI hne, hdd] at h0
      by_cases hb : (Utf8.decode b pos).1 = 65533 ∧ (Utf8.decode b pos).2 = 1
      · rw [hb.1, hb.2]
        exact ⟨by omega, by omega, by omega, fun k h1 h2 => by have : k = pos := by omega
                                                               subst this; omega⟩
      · rw [if_neg hb] at h0
        exfalso
        have hw := (decode_high b pos hp (by omega)).2
        rw [h0] at hw
        exact absurd hw (by decide)
    · rw [hd, hdd] at hR h1 h4 hle he
      rw [Ea, hz] at hle
      have hmem : ∀ k, pos ≤ k → k < pos + (Utf8.decode b pos).2 → UInt8.ofNat (Go.PlainAid.bt b k).toNat ∈ encodeRune ((Utf8.decode b pos).1 : Int) := fun k h1 h2 => by
        rw [he]
        have h3 := hat k h1 (by omega)
        refine CU (i := k - pos) ?_
        rw [JR, if_pos (by omega)]
        exact h3
      have hge : 128 ≤ (Utf8.decode b pos).1 := by
        by_cases hge : 128 ≤ (Utf8.decode b pos).1
        · exact hge
        · exfalso
          have h5 := hmem pos (Ae _) (by omega)
          rw [enc1 _ (by omega)] at h5
          simp only [List.mem_cons, List.not_mem_nil, or_false] at h5
          have h6 := Gu UInt8.toNat h5
          have h7 := Go.PlainAid.bt_le b pos
          have h8' := Go.PlainAid.bt_nonneg b pos
          rw [OE _ (by omega), OE _ (by omega)] at h6
          omega
      refine ⟨hge, h1, by omega, fun k h5 h6 => ?_⟩
      have h7 := rF hR (by omega) _ (hmem k h5 h6)
      have h8' := Go.PlainAid.bt_le b k
      have h9 := Go.PlainAid.bt_nonneg b k
      rw [OE _ (by omega)] at h7
      omega
def ny:ByteArray:=⟨#[0,47]⟩
theorem Sb:Ux ny:=by
 intro j b h;have:b∈ny.data.toList:=CU h;simp[ny]at this;rcases this with rfl|rfl<;>decide
def Od (b:ByteArray):Bool:=(List.range b.size).any fun k=>decide (Go.PlainAid.bt b k=0∨Go.PlainAid.bt b k=47)
theorem Y9 {b:ByteArray}{k:Nat}(hk:k<b.size)(h:Go.PlainAid.bt b k=0∨Go.PlainAid.bt b k=47):Od b=true:=by
 unfold Od;rw[List.any_eq_true];exact⟨k,List.mem_range.2 hk,A8 h⟩
theorem gT {b:ByteArray}(h:∀k,k<b.size→¬(Go.PlainAid.bt b k=0∨Go.PlainAid.bt b k=47)):Od b=false:=by
 unfold Od;rw[List.any_eq_false];intro k hk;simpa using h k (List.mem_range.1 hk)
theorem wT (r:Int):(0≤j6 ny r)↔(r=0∨r=47):=by
 unfold j6;by_cases h:0≤r∧r<128
 · rw[if_pos h];obtain⟨n,rfl⟩:∃n:Nat,r=(n:Int):=⟨r.toNat,by omega⟩;have key:∀m:Nat,m<128→((0≤Lib.indexByte ny.data.toList m.toUInt8)↔(m=0∨m=47)):=by decide +kernel
   have:=key n (by omega);rw[show((n:Int)).toNat=n by omega,this];omega
 · rw[if_neg h];omega
def Kj (b:ByteArray)(w:World)(e:Ending)(w':World):Prop:=∃x:Int,e=.returned (.int .i64 x)∧decide (0≤x)=Od b∧Below w.heap.size w w'
def NoZ (b:ByteArray)(pos:Nat):Prop:=∀k,k<pos→¬(Go.PlainAid.bt b k=0∨Go.PlainAid.bt b k=47)
set_option maxHeartbeats 1000000 in
theorem lT (b:ByteArray)(hs:b.size≤8)(w:World):Calls Tryz.prog 209 #[.string b,.string ⟨#[0,47]⟩] w (Kj b w):=by
 have h8:¬((8:Int)<(b.size:Int)):=by omega
 have cI:=fun r w=>j5 ⟨#[0,47]⟩ Sb (by decide) r w
 have HI:Hid (∀r,(0≤j6 ⟨#[0,47]⟩ r)↔(r=0∨r=47)):=Aa wT;unfold Kj;go_enter Tryz.func209,Tryz.ntmps209;go_wp2_with (first|(go_at_call 213;refine(Tryz.strings_shouldUseASCIISet _ _).mono ?_;rintro e w' ⟨rfl,hw⟩;rw[hw,Bb h8]));go_loopg [9] b.size (fun g _ wr=>∃pos:Nat,pos+g=b.size∧wr.heap[w.heap.size]?=some (.stringIter b pos)∧NoZ b pos∧Below w.heap.size w wr)
 case atStart=>exact⟨0,by omega,World.iter_heap w b 0,fun k hk=>by omega,(Ad _ _).alloc (Ae _) _⟩
 case round =>
  obtain⟨pos,hpg,hit,hno,hbel⟩:=hrel;have HN:=Aa hno;clear hno;by_cases hp:pos<b.size
  · have hnx:∀ty,(Instr.next (.pointer (some ⟨w.heap.size,0,none⟩)) true ty).run Tryz.prog wr=_:=fun ty=>run_next_any_at wr w.heap.size b pos ty hit hp
    have hst:=ja hp;obtain⟨R,hR⟩:∃R,(Utf8.decode b pos).1=R:=⟨_,rfl⟩;obtain⟨K,hK⟩:∃K,(Utf8.decode b pos).2=K:=⟨_,rfl⟩;rw[hR,hK]at hnx hst;have hbi:Below w.heap.size w (wr.iterAt w.heap.size b (pos+K)):=below_iterAt hbel (Ae _) b _;have hit2:(wr.iterAt w.heap.size b (pos+K)).heap[w.heap.size]?=some (.stringIter b (pos+K)):=iterAt_heap wr _ b pos _ hit;generalize wr.iterAt w.heap.size b (pos+K)=wi at *;have cR:=cI (R:Int) wi;obtain⟨y,hy⟩:∃y,j6 ⟨#[0,47]⟩ (R:Int)=y:=⟨_,rfl⟩;have gI:=HI.out (R:Int);rw[hy]at cR gI;have hK1:1≤K∧pos+K≤b.size:=by rcases hst with h|h<;>omega
    by_cases h0:0≤y
    · have HX:Hid (Od b=true):=Aa (by
       rcases hst with h|h
       · exact Y9 hp (by have:=gI.1 h0;omega)
       · have:=gI.1 h0;omega)
      have AcR:Hid ((0:Int)≤(pos:Int)):=Aa (by omega);clear hst hR hK hy gI;go_wp2_with (first|(go_at_call 212;refine cR.mono ?_;rintro e w2 ⟨rfl,hb2⟩));go_ret;exact⟨_,rfl,by rw[HX.out,A8 AcR.out],hbi.trans (hb2.mono hbi.size)⟩
    · have HX:Hid (NoZ b (pos+K)):=Aa (fun k hk=>by
       by_cases hkp:k<pos
       · exact HN.out k hkp
       · rcases hst with h|h
         · have e:k=pos:=by omega
           subst e;rw[←h.2.1];exact fun h9=>h0 (gI.2 h9)
         · have:=h.2.2.2 k (by omega) hk;omega)
      clear hst hR hK hy gI;go_wp2_with (first|(go_at_call 212;refine cR.mono ?_;rintro e w2 ⟨rfl,hb2⟩));go_roundg (b.size-(pos+K))
      case measure=>omega
      case rel=>exact⟨pos+K,by omega,by rw[hb2.block _ (Aaf hit2)];exact hit2,HX.out,hbi.trans (hb2.mono hbi.size)⟩
  · have hnx:∀ty,(Instr.next (.pointer (some ⟨w.heap.size,0,none⟩)) true ty).run Tryz.prog wr=_:=fun ty=>run_next_end_at wr w.heap.size b pos ty hit hp
    have HX:Hid (Od b=false):=Aa (gT fun k hk=>HN.out k (by omega));go_wp2;go_ret;exact⟨_,rfl,by rw[HX.out];rfl,hbel⟩
theorem gG:(Tryz.prog.info? 292).map (fun i=>(i.zero,i.size))=some (some (.agg (Array.replicate 256 (.bool false))),256):=by kernel_rfl
set_option maxHeartbeats 2000000 in
theorem tC (b:ByteArray)(hs:8<b.size)(hs':b.size≤9223372036854775807)(w:World):Calls Tryz.prog 209 #[.string b,.string ⟨#[0,47]⟩] w (Kj b w):=by
 have h8:(8:Int)<(b.size:Int):=by omega
 have hM:=fun w=>Tryz.strings_makeASCIISet (zero_of_info gG).1 ⟨#[0,47]⟩ w (by decide) Sb
 have hz:=Lib.setCells_size (⟨#[0,47]⟩:ByteArray).data.toList;have hat:∀x:UInt8,(Lib.setCells (⟨#[0,47]⟩:ByteArray).data.toList)[x.toNat]?=some (.bool ((⟨#[0,47]⟩:ByteArray).data.toList.contains x)):=fun x=>Lib.setCells_at _ x
 have HC:Hid (∀x:UInt8,(Lib.setCells (⟨#[0,47]⟩:ByteArray).data.toList)[x.toNat]?=some (.bool (decide (x.toNat=0∨x.toNat=47)))):=Aa fun x=>by
  rw[hat x];congr 2;have key:∀n:Nat,n<256→(⟨#[0,47]⟩:ByteArray).data.toList.contains (UInt8.ofNat n)=decide (n=0∨n=47):=by decide +kernel
  have:=key x.toNat x.toNat_lt;rw[UInt8.ofNat_toNat]at this;exact this
 have hs1:=Lib.setCells_one (⟨#[0,47]⟩:ByteArray).data.toList;generalize Lib.setCells (⟨#[0,47]⟩:ByteArray).data.toList=SC at *;have Nk:(storeCells ⟨w.heap.size+1,0,none⟩ SC.toList 0).run Tryz.prog ((w.alloc (.cells SC 292)).alloc (.cells Tryz.zeroCells292 292))=.ok () ((w.alloc (.cells SC 292)).alloc (.cells SC 292)):=by
  have:=run_storeCells_new (P:=Tryz.prog) (w.alloc (.cells SC 292)) 292 Tryz.zeroCells292 SC (by rw[hz];exact(zero_of_info gG).2) (by rw[hz];rfl) hs1;rw[show(w.alloc (.cells SC 292)).heap.size=w.heap.size+1 from by simp]at this;exact this
 clear hat;unfold Kj;go_enter Tryz.func209,Tryz.ntmps209;go_wp2_with (first
  | (go_at_call 213;refine(Tryz.strings_shouldUseASCIISet _ _).mono ?_;rintro e w' ⟨rfl,hw⟩;rw[hw,A8 h8])
  | (go_at_call 214;refine(hM _).mono ?_;rintro e w' ⟨rfl,hw⟩;rw[hw]))
 have hcell:∀x:UInt8,((w.alloc (.cells SC 292)).alloc (.cells SC 292)).cell? ⟨w.heap.size+1,x.toNat,none⟩=some (.bool (decide (x.toNat=0∨x.toNat=47))):=fun x=>by
  rw[World.cell?_alloc_at _ _ _ _ (by simp)];exact HC.out x
 have eu:=Aa hcell;have mI:Hid (Below w.heap.size w ((w.alloc (.cells SC 292)).alloc (.cells SC 292))):=Aa (((Ad _ _).alloc (Ae _) _).alloc (by simp) _);clear hcell Nk hM hs1 hz;generalize (w.alloc (.cells SC 292)).alloc (.cells SC 292)=W at *;go_wp2;go_loopg [8] b.size (fun g iv wr=>∃i:Nat,i+g=b.size∧iv=.int .i64 i∧wr=W∧NoZ b i)
 case atStart=>exact⟨0,by omega,rfl,rfl,fun k hk=>by omega⟩
 case round =>
  obtain⟨i,hig,rfl,rfl,hno⟩:=hrel;have HN:=Aa hno;clear hno;by_cases hi:i<b.size
  · have hiz:(i:Int)<(b.size:Int):=by omega
    obtain⟨x,hx⟩:∃x:UInt8,b[i]'hi=x:=⟨_,rfl⟩;have hbx:=(RF hi).2;rw[hx]at hbx;have hcx:=eu.out x;by_cases h0:x.toNat=0∨x.toNat=47
    · rw[A8 h0]at hcx;have HX:Hid (Od b=true):=Aa (Y9 hi (by rw[hbx];omega));have HP:Hid ((0:Int)≤(i:Int)):=Aa (by omega);clear hbx h0;go_wp2_with (first|(go_at_call 215;refine(Tryz.asciiSet_contains _ x _ _ hcx).mono ?_;rintro e w' ⟨rfl,hw⟩;rw[hw]));go_ret;exact⟨_,rfl,by rw[HX.out,A8 HP.out],mI.out⟩
    · rw[Bb h0]at hcx;have HX:Hid (NoZ b (i+1)):=Aa (fun k hk=>by
       by_cases hk':k<i
       · exact HN.out k hk'
       · have e:k=i:=by omega
         subst e;rw[hbx];omega)
      clear hbx h0;go_wp2_with (first|(go_at_call 215;refine(Tryz.asciiSet_contains _ x _ _ hcx).mono ?_;rintro e w' ⟨rfl,hw⟩;rw[hw]));go_roundg (b.size-(i+1))
      case measure=>omega
      case rel=>exact⟨i+1,by omega,by first|rfl|simp,rfl,HX.out⟩
  · have hie:i=b.size:=by omega
    have HX:Hid (Od b=false):=Aa (gT fun k hk=>HN.out k (by omega));have hiz:¬((i:Int)<(b.size:Int)):=by omega
    clear hie hi hig;go_wp2;go_ret;exact⟨_,rfl,by rw[HX.out];rfl,mI.out⟩
theorem qI (b:ByteArray)(hs:b.size≤9223372036854775807)(w:World):Calls Tryz.prog 199 #[.string b,.string ⟨#[0,47]⟩] w fun e w'=>e=.returned (.bool (Od b))∧Below w.heap.size w w':=by
 have c:Calls Tryz.prog 209 #[.string b,.string ⟨#[0,47]⟩] w (Kj b w):=by
  by_cases h:b.size≤8
  · exact lT b h w
  · exact tC b (by omega) hs w
 clear hs;go_enter Tryz.func199,Tryz.ntmps199;go_wp2_with fail;refine c.mono ?_;rintro e w' ⟨x,rfl,hx,hb⟩;have HX:=Aa hx;clear hx;go_wp2;go_ret;exact⟨by rw[←HX.out];rfl,hb⟩
theorem kC (b:ByteArray):Hg b=(!(decide (b.toList=[46])||(decide (b.toList=[46,46])||Od b))&&(decide (1≤b.size)&&decide (b.size≤255))):=by
 have h1:(List.range b.size).all (fun k=>decide (Go.PlainAid.bt b k≠0∧Go.PlainAid.bt b k≠47))=!Od b:=by
  unfold Od;rw[List.not_any_eq_all_not];congr 1;funext k;by_cases h:Go.PlainAid.bt b k=0∨Go.PlainAid.bt b k=47
  · rw[A8 h,Bb (by omega)];rfl
  · rw[Bb h,A8 (by omega)];rfl
 have h2:decide (b.toList≠[])=decide (1≤b.size):=by
  rw[decide_eq_decide,ByteArray.toList_eq];have:=Pb b;constructor
  · intro h;have:=List.length_pos_iff.2 h;omega
  · intro h h3;rw[h3]at this;simp at this;omega
 unfold Hg;rw[h1,h2];generalize Od b=z;generalize decide (1≤b.size)=x;generalize decide (b.size≤255)=y;by_cases p1:b.toList=[46]
 · rw[A8 p1,Bb (fun h=>h p1)];cases z<;>cases x<;>cases y<;>rfl
 · rw[Bb p1,A8 p1];by_cases p2:b.toList=[46,46]
   · rw[A8 p2,Bb (fun h=>h p2)];cases z<;>cases x<;>cases y<;>rfl
   · rw[Bb p2,A8 p2];cases z<;>cases x<;>cases y<;>rfl
theorem rA (b:ByteArray)(hs:b.size≤9223372036854775807)(w:World):Calls Tryz.prog 187 #[.string b] w fun e w'=>e=.returned (.bool (Hg b))∧Below w.heap.size w w':=by
 have cA:=qI b hs w;have HX:Hid (Hg b=_):=Aa (kC b);by_cases p1:b.toList=[46]
 · have HY:Hid (Hg b=false):=Aa (by rw[HX.out,A8 p1];rfl);clear HX cA;go_enter Tryz.func187,Tryz.ntmps187;go_wp2;go_ret;exact⟨by rw[HY.out];rfl,Ad _ _⟩
 · have q1:(b.toList==[46])=false:=by rw[Ba];exact p1
   by_cases p2:b.toList=[46,46]
   · have HY:Hid (Hg b=false):=Aa (by rw[HX.out,Bb p1,A8 p2];rfl);clear HX cA p1;go_enter Tryz.func187,Tryz.ntmps187;go_wp2;go_ret;exact⟨by rw[HY.out];rfl,Ad _ _⟩
   · have q2:(b.toList==[46,46])=false:=by rw[Ba];exact p2
     cases hz:Od b with
     | true =>
      have HY:Hid (Hg b=false):=Aa (by rw[HX.out,Bb p1,Bb p2,hz];rfl);rw[hz]at cA;clear HX p1 p2 hz;go_enter Tryz.func187,Tryz.ntmps187;go_wp2_with (first|(go_at_call 199;refine cA.mono ?_;rintro e w' ⟨rfl,hb⟩));go_ret;exact⟨by rw[HY.out];rfl,hb⟩
     | false =>
      have HY:Hid (Hg b=(decide (1≤b.size)&&decide (b.size≤255))):=Aa (by rw[HX.out,Bb p1,Bb p2,hz];rfl);rw[hz]at cA;clear HX p1 p2 hz;by_cases h1:1≤b.size
      · have h1z:(1:Int)≤(b.size:Int):=by omega
        have HW:Hid (Hg b=decide ((b.size:Int)≤255)):=Aa (by rw[HY.out,A8 h1,Bool.true_and,decide_eq_decide];omega);clear HY;go_enter Tryz.func187,Tryz.ntmps187;go_wp2_with (first|(go_at_call 199;refine cA.mono ?_;rintro e w' ⟨rfl,hb⟩));go_ret;exact⟨by rw[HW.out];rfl,hb⟩
      · have h1z:¬((1:Int)≤(b.size:Int)):=by omega
        have HW:Hid (Hg b=false):=Aa (by rw[HY.out,Bb h1];rfl);clear HY;go_enter Tryz.func187,Tryz.ntmps187;go_wp2_with (first|(go_at_call 199;refine cA.mono ?_;rintro e w' ⟨rfl,hb⟩));go_ret;exact⟨by rw[HW.out];rfl,hb⟩
end Go.Proofs.YtdmkhmeaphaapaaGreat
