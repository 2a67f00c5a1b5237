/- Kit. -/
import Derived.Lib.Hide
import Derived.Test.YtdmkhmeaphaapaaGreatProg
import Derived.WalkKit
import Derived.WalkSpells
import Derived.IntWalk
import Derived.ProofKit
import Derived.Below
import Derived.Sort.WalkC
import Derived.LoopTactic
import Derived.Deep.LoopGhost
import Derived.Deep.QuietTactic
import Derived.BigQuiet
import Derived.PlainAid
import Derived.Test.YtdmkhmeaphaapaaGreatCZ23
import Derived.Lib.LazyBuf
import Derived.OwnWalk
import Derived.Deep.CutRange
import Derived.Test.YtdmkhmeaphaapaaGreatCZ0
set_option maxRecDepth 100000
set_option linter.unusedVariables false
set_option linter.unusedSimpArgs false
namespace Go.Proofs.YtdmkhmeaphaapaaGreat.V
def Et (r:List UInt8):List UInt8:=UInt8.ofNat (r.length/256)::UInt8.ofNat (r.length%256)::(r.take 62++List.replicate (62-(r.take 62).length) 0)
theorem Kq (r:List UInt8):(Et r).length=64:=by
 simp[Et];omega
def Cs (r:List UInt8):List (List UInt8):=if h:r=[] then [] else Et r::Cs (r.drop 62)
termination_by r.length
decreasing_by
 have:=List.length_pos_iff.2 h;simp;omega
theorem IM:Cs []=[]:=by unfold Cs;rw[dif_pos rfl]
theorem Dn {r:List UInt8}(h:r≠[]):Cs r=Et r::Cs (r.drop 62):=by
 conv=>lhs;unfold Cs
 rw[dif_neg h]
theorem TY (r:List UInt8):∀f∈Cs r,f.length=64:=by
 induction h:r.length using Nat.strongRecOn generalizing r with
 | ind n ih =>
  intro f hf;by_cases h0:r=[]
  · rw[h0,IM]at hf;cases hf
  · rw[Dn h0]at hf;rcases Em.1 hf with rfl|hf
    · exact Kq r
    · have:=List.length_pos_iff.2 h0;exact ih (r.drop 62).length (by simp;omega) _ rfl f hf
theorem Dp (r:List UInt8):(Cs r).length=(r.length+61)/62:=by
 induction h:r.length using Nat.strongRecOn generalizing r with
 | ind n ih =>
  by_cases h0:r=[]
  · subst h0;rw[IM];simp at h;subst h;rfl
  · have hp:=List.length_pos_iff.2 h0;rw[Dn h0,GY,ih (r.drop 62).length (by simp;omega) _ rfl];simp;omega
def Ca (l:List (List UInt8)):List UInt8:=l.flatMap (·.drop 2)
theorem Zh (r:List UInt8)(t:List (List UInt8)):(Ca (Cs r++t)).take r.length=r:=by
 induction h:r.length using Nat.strongRecOn generalizing r with
 | ind n ih =>
  by_cases h0:r=[]
  · subst h0;simp at h;subst h;simp
  · have hp:=List.length_pos_iff.2 h0;rw[Dn h0,List.cons_append];show((Et r).drop 2++Ca (Cs (r.drop 62)++t)).take n=r
    have hd:(Et r).drop 2=r.take 62++List.replicate (62-(r.take 62).length) 0:=rfl;rw[hd];by_cases hs:r.length≤62
    · rw[Ch,List.take_append,List.take_take];rw[Cc,Nat.min_eq_right hs];rw[show n-r.length=0 by omega,List.take_zero,Cz,CV (by omega)]
    · have h62:(r.take 62).length=62:=by rw[Cc];omega
      rw[h62,Nat.sub_self,List.replicate_zero,Cz,List.take_append,h62];rw[CV (by rw[h62];omega)];have:=ih (r.drop 62).length (by simp;omega) (r.drop 62) rfl;rw[show n-62=(r.drop 62).length by simp;omega,this,List.take_append_drop]
theorem F7 {l:List (List UInt8)}(h:∀f∈l,f.length=64):(Ca l).length=62*l.length:=by
 induction l with
 | nil=>rfl
 | cons f l ih =>
  show(f.drop 2++Ca l).length=_
  rw[A7,Ea,h f (by simp),ih (fun g hg=>h g (by simp[hg])),GY];omega
def Gr (f:List UInt8):Nat:=(f.getD 0 0).toNat*256+(f.getD 1 0).toNat
theorem J3 {r:List UInt8}(h:r.length<65536):Gr (Et r)=r.length:=by
 unfold Gr Et;simp;omega
def Es (l:List (List UInt8)):List UInt8:=
 if Gr (l.headD [])>60000∨(Ca l).length<Gr (l.headD []) then [] else
 if Cs ((Ca l).take (Gr (l.headD []))) <+: l then(Ca l).take (Gr (l.headD [])) else []
theorem oZ {r:List UInt8}{l:List (List UInt8)}(h0:r≠[])(h1:r.length≤60000)(h:Cs r <+: l)(hl:∀f∈l,f.length=64):Es l=r:=by
 obtain⟨t,rfl⟩:=h;have hh:Gr ((Cs r++t).headD [])=r.length:=by
  rw[Dn h0];exact J3 (by omega)
 have hg:=Zh r t;have hlen:r.length≤(Ca (Cs r++t)).length:=by
  have:=Gu List.length hg;rw[Cc]at this;omega
 unfold Es;rw[hh,hg,if_neg (by omega),if_pos (List.prefix_append _ _)]
theorem KD {r:List UInt8}{l:List (List UInt8)}(h:Es l=r)(h0:r≠[]):r.length≤60000∧Cs r <+: l:=by
 unfold Es at h;split at h
 · exact absurd h.symm h0
 · rename_i hn;split at h
   · rename_i hp;subst h;refine⟨?_,hp⟩;rw[Cc];omega
   · exact absurd h.symm h0
def DZ (l:List (List UInt8)):List (List UInt8):=if h:l=[]∨Es l=[] then [] else Es l::DZ (l.drop (Cs (Es l)).length)
termination_by l.length
decreasing_by
 have h1:Es l≠[]:=fun e=>h (Or.inr e)
 have h2:0<l.length:=List.length_pos_iff.2 (fun e=>h (Or.inl e));rw[Dn h1];simp;omega
theorem GJ {l:List (List UInt8)}(h:l=[]∨Es l=[]):DZ l=[]:=by
 unfold DZ;rw[dif_pos h]
theorem Sz {r:List UInt8}{t:List (List UInt8)}(h0:r≠[])(h1:r.length≤60000)(ht:∀f∈t,f.length=64):DZ (Cs r++t)=r::DZ t:=by
 have ho:Es (Cs r++t)=r:=oZ h0 h1 (List.prefix_append _ _) (fun f hf=>by
  rcases EI.1 hf with hf|hf
  · exact TY r f hf
  · exact ht f hf)
 have hne:Cs r++t≠[]:=by rw[Dn h0];simp
 conv=>lhs;unfold DZ
 rw[dif_neg (by
  rintro(e|e)
  · exact hne e
  · rw[ho]at e;exact h0 e),ho]
 congr 1;rw[List.drop_left]
def BZ (rs:List (List UInt8)):List (List UInt8):=rs.flatMap Cs
theorem Tm (rs:List (List UInt8)):∀f∈BZ rs,f.length=64:=fun f hf=>by
 obtain⟨r,_,h⟩:=List.mem_flatMap.1 hf;exact TY r f h
theorem Vf (rs:List (List UInt8))(t:List (List UInt8))(h:∀r∈rs,r≠[]∧r.length≤60000)(ht:∀f∈t,f.length=64):DZ (BZ rs++t)=rs++DZ t:=by
 induction rs with
 | nil=>rfl
 | cons r rs ih =>
  have hr:=h r (by simp);show DZ ((Cs r++BZ rs)++t)=_
  rw[Ch,Sz hr.1 hr.2 (fun f hf=>by
   rcases EI.1 hf with hf|hf
   · exact Tm rs f hf
   · exact ht f hf),ih (fun q hq=>h q (by simp[hq]))]
  rfl
def FM:List UInt8:=List.replicate 64 0
theorem P8 (t:List (List UInt8)):Es (FM::t)=[]:=by
 unfold Es;have:Gr ((FM::t).headD [])=0:=by
  show Gr FM=0
  decide +kernel
 rw[this];split
 · rfl
 · rw[List.take_zero,IM,if_pos (List.nil_prefix)]
theorem TG {r:List UInt8}(h0:r≠[])(h1:r.length≤60000):Et r≠FM:=fun e=>by
 have h2:=Gu Gr e;rw[J3 (by omega)]at h2;have h3:Gr FM=0:=by decide +kernel
 rw[h3]at h2;exact h0 (Kw h2)
def DN:List (List UInt8)→List (List UInt8)→Prop
 | [],[]=>True
 | f::fs,g::gs=>(g=f∨g=FM)∧DN fs gs
 | _,_=>False
theorem DN.length:∀{fs gs:List (List UInt8)},DN fs gs→gs.length=fs.length
 | [],[],_=>rfl
 | f::fs,g::gs,h=>by rw[GY,GY,DN.length h.2]
 | [],g::gs,h=>h.elim
 | f::fs,[],h=>h.elim
theorem DN.split:∀(fs:List (List UInt8)) {fs' gs:List (List UInt8)},DN (fs++fs') gs→∃a b,gs=a++b∧DN fs a∧DN fs' b
 | [],fs',gs,h=>⟨[],gs,rfl,trivial,h⟩
 | f::fs,fs',[],h=>h.elim
 | f::fs,fs',g::gs,h=>by
  obtain⟨a,b,rfl,h1,h2⟩:=DN.split fs h.2;exact⟨g::a,b,rfl,⟨h.1,h1⟩,h2⟩
theorem DN.sizes:∀{fs gs:List (List UInt8)},DN fs gs→(∀f∈fs,f.length=64)→∀g∈gs,g.length=64
 | [],[],_,_=>fun g hg=>by cases hg
 | f::fs,g::gs,h,hf=>fun x hx=>by
  rcases Em.1 hx with rfl|hx
  · rcases h.1 with e|e
    · rw[e];exact hf f (by simp)
    · rw[e];rfl
  · exact DN.sizes h.2 (fun y hy=>hf y (by simp[hy])) x hx
 | [],g::gs,h,_=>h.elim
 | f::fs,[],h,_=>h.elim
theorem pR:∀(r q:List UInt8) {a t:List (List UInt8)},r.length≤60000→q.length=r.length→DN (Cs r) a→Cs q <+: a++t→a=Cs r:=by
 intro r
 induction h:r.length using Nat.strongRecOn generalizing r with
 | ind n ih =>
  intro q a t h1 hq hl hp;by_cases h0:r=[]
  · subst h0;rw[IM]at hl ⊢;cases a with
    | nil=>rfl
    | cons g gs=>exact hl.elim
  · have hpos:=List.length_pos_iff.2 h0;have hq0:q≠[]:=fun e=>by rw[e]at hq;simp at hq;omega
    rw[Dn h0]at hl ⊢;rw[Dn hq0]at hp;cases a with
    | nil=>exact hl.elim
    | cons g gs =>
     rw[List.cons_append]at hp;obtain⟨hg,hp2⟩:=List.cons_prefix_cons.1 hp;have hgf:g=Et r:=by
      rcases hl.1 with e|e
      · exact e
      · rw[e]at hg;exact absurd hg (TG hq0 (by omega))
     rw[hgf,ih (r.drop 62).length (by simp;omega) (r.drop 62) rfl (q.drop 62) (by simp;omega) (by simp;omega) hl.2 hp2]
theorem jQ (rs:List (List UInt8)):∀(a t:List (List UInt8)),(∀r∈rs,r≠[]∧r.length≤60000)→DN (BZ rs) a→(∀f∈t,f=FM)→DZ (a++t) <+: rs:=by
 induction rs with
 | nil =>
  intro a t _ hl ht;have ha:a=[]:=by
   cases a with
   | nil=>rfl
   | cons g gs=>exact hl.elim
  subst ha;rw[G5,GJ (by
   cases t with
   | nil=>exact Or.inl rfl
   | cons g gs=>rw[ht g (by simp)];exact Or.inr (P8 gs))]
  exact List.nil_prefix
 | cons r rs ih =>
  intro a t hr hl ht;obtain⟨h0,h1⟩:=hr r (by simp);obtain⟨a1,a2,rfl,hl1,hl2⟩:=DN.split (Cs r) (fs':=BZ rs) hl;have hs2:∀f∈a2++t,f.length=64:=fun f hf=>by
   rcases EI.1 hf with hf|hf
   · exact hl2.sizes (Tm rs) f hf
   · rw[ht f hf];rfl
  by_cases he:a1=Cs r
  · subst he;rw[Ch,Sz h0 h1 hs2];exact List.cons_prefix_cons.2 ⟨rfl,ih a2 t (fun q hq=>hr q (by simp[hq])) hl2 ht⟩
  · rw[Ch,GJ (Or.inr ?_)]
    · exact List.nil_prefix
    · apply Js;intro hne;obtain⟨hq1,hq2⟩:=KD (l:=a1++(a2++t)) rfl hne;have hh:Cs r=Et r::Cs (r.drop 62):=Dn h0;rw[hh]at hl1;cases a1 with
      | nil=>exact hl1.elim
      | cons g gs =>
       rcases hl1.1 with e|e
       · generalize Es ((g::gs)++(a2++t))=q at *;have hlen:q.length=r.length:=by
          have hq3:=hq2;rw[Dn hne,List.cons_append]at hq3;have hg:=(List.cons_prefix_cons.1 hq3).1;rw[e]at hg;have h7:=Gu Gr hg;rw[J3 (by omega),J3 (by omega)]at h7;exact h7
         exact he (pR r q h1 hlen (by rw[hh];exact hl1) hq2)
       · rw[e,List.cons_append]at hne;exact hne (P8 _)
end Go.Proofs.YtdmkhmeaphaapaaGreat.V
namespace Go.Proofs.YtdmkhmeaphaapaaGreat.V
open Go.RowKit Go.Sort
def Eo (w:World)(v:Value)(l:List ByteArray):Prop:=
 (l=[]∧∃a cap,v=.slice a 0 cap) ∨
 (∃g off cap,g<w.heap.size∧v=.slice (some ⟨g,off,none⟩) l.length cap∧∀j s,l[j]?=some s→w.cell? ⟨g,off+j,none⟩=some (.string s))
theorem Eo.kept {w w':World}{v:Value}{l:List ByteArray}(h:Eo w v l)(hb:Below w.heap.size w w'):Eo w' v l:=by
 rcases h with h|⟨g,off,cap,hg,hv,hc⟩
 · exact Or.inl h
 · exact Or.inr ⟨g,off,cap,by have:=hb.size;omega,hv,fun j s hj=>by rw[hb.cell (p:=⟨g,off+j,none⟩) hg];exact hc j s hj⟩
theorem Eo.len {w:World}{v:Value}{l:List ByteArray}(h:Eo w v l):∃a cap,v=.slice a l.length cap:=by
 rcases h with⟨rfl,a,cap,hv⟩|⟨g,off,cap,hg,hv,hc⟩
 · exact⟨a,cap,hv⟩
 · exact⟨_,cap,hv⟩
theorem Eo.at {w:World}{a:Option Addr}{n cap:Nat}{l:List ByteArray}(h:Eo w (.slice a n cap) l){j:Nat}{s:ByteArray}(hj:l[j]?=some s):∃g off,a=some ⟨g,off,none⟩∧g<w.heap.size∧w.cell? ⟨g,off+j,none⟩=some (.string s):=by
 rcases h with⟨rfl,_⟩|⟨g,off,cap',hg,hv,hc⟩
 · cases hj
 · injection hv with h1 h2 h3;exact⟨g,off,h1,hg,hc j s hj⟩
theorem MV {x y:ByteArray}(h:x≠y):(x.toList==y.toList)=false:=by
 rw[Ba];intro e;apply h;rw[ByteArray.toList_eq,ByteArray.toList_eq]at e;cases x;cases y
 congr 1;exact Array.ext' e
theorem Below.VU {B:Nat}{a w:World}(h:Below B a w)(q:Nat):Below B a (w.drewN q):=by
 induction q with
 | zero=>exact h
 | succ q ih=>exact ih.drew
def Q4:Array Value:=(List.replicate 64 (Value.int .u8 0)).toArray
theorem Tryz.VI:(Tryz.prog.info? 5).map (fun i=>(i.zero,i.size,i.bytes))=some (some (.int .u8 0),1,1):=by kernel_rfl
theorem Tryz.Mw:(Tryz.prog.info? 9).map (fun i=>(i.zero,i.size,i.bytes))=some (some (.string ⟨#[]⟩),1,16):=by kernel_rfl
theorem Aae (W:World):(Instr.makeSlice 121 (.int .i64 64) (.int .i64 64)).run Tryz.prog W=.ok (.slice (some ⟨W.heap.size,0,none⟩) 64 64) (W.alloc (.cells Q4 5)):=by
 obtain⟨i0,hi0,hz0,hz1,hz2⟩:=info_parts Tryz.VI;have:=run_make (P:=Tryz.prog) W 121 5 i0 (.int .u8 0) Tryz.underlying121 hi0 hz0 .i64 .i64 64 64 (by omega) (by omega) (by rw[hz2];decide) (by omega);rw[hz1,show(64:Int).toNat=64 from rfl]at this;rw[this];congr 3;unfold madeCells Q4;apply Array.ext';simp[Value.cells];rfl
theorem Vd (W:World):(Go.sizeOf 5).run Tryz.prog W=.ok 1 W:=by
 obtain⟨i0,hi0,hz0,hz1,hz2⟩:=info_parts Tryz.VI;simp[sizeOf,typeInfo,hi0,hz1]
def UO (l:List (List UInt8)):List Value:=l.map fun f=>Value.string ⟨f.toArray⟩
theorem QV (r:List UInt8):(Et r).map (fun b=>Value.int .u8 (b.toNat:Int))=[Value.int .u8 ((UInt8.ofNat (r.length/256)).toNat:Int),Value.int .u8 ((UInt8.ofNat (r.length%256)).toNat:Int)]++(r.take 62).map (fun b=>Value.int .u8 (b.toNat:Int))++List.replicate (62-(r.take 62).length) (Value.int .u8 0):=by
 simp[Et]
def RN (s:ByteArray)(w:World)(e:Ending)(w':World):Prop:=∃v,e=.returned v∧w'.ownsRow w.heap.size 9 1 v (Cs s.data.toList).length (UO (Cs s.data.toList))∧Below w.heap.size w w'
set_option maxHeartbeats 8000000 in
theorem AaL (s:ByteArray)(w:World)(hs:s.size≤65000):Calls Tryz.prog 40 #[.string s] w (RN s w):=by
 unfold RN;obtain⟨n,hn⟩:∃n,s.size=n:=⟨_,rfl⟩;have HN:=Aa hn;have Acs:=Aae;rw[hn]at hs;obtain⟨i0,hi0,hz0,hz1,hz2⟩:=info_parts Tryz.Mw;go_enter Tryz.func40,Tryz.ntmps40;go_wp2;go_loopw [4,3] (fun iv ov wr=>∃(P:Nat) (out:List (List UInt8)),P≤n+61∧iv=.int .i64 P∧out++Cs (s.data.toList.drop P)=Cs s.data.toList∧(∃o,o=ov∧wr.ownsRow w.heap.size 9 1 o out.length (UO out))∧Below w.heap.size w wr) (fun iv _ _=>n+62-(intOf iv).toNat)
 case atStart=>exact⟨0,[],by omega,rfl,by simp,⟨_,rfl,rfl,Or.inl ⟨rfl,rfl⟩⟩,Ad _ _⟩
 case round =>
  obtain⟨P,out,hP,rfl,hc,⟨ov,rfl,hown⟩,hb⟩:=hrel;have HC:=Aa hc;have HO:=Aa hown;have HB:=Aa hb;clear hc hown hb;by_cases hPn:P<n
  · have hPz:(P:Int)<(n:Int):=by omega
    obtain⟨m,hm⟩:∃m:Nat,n-P=m:=⟨_,rfl⟩;have hsub:IntKind.i64.wrap ((n:Int)-(P:Int))=(m:Int):=by rw[El];omega
    have hA:(m:Int)/256=((m/256:Nat):Int):=by omega
    have hA2:(m:Int).tdiv 256=((m/256:Nat):Int):=by rw[Int.tdiv_eq_ediv_of_nonneg (by omega)];exact hA
    have hB:(m:Int)%256=((m%256:Nat):Int):=by omega
    have hB2:(m:Int).tmod 256=((m%256:Nat):Int):=by rw[Int.tmod_eq_emod_of_nonneg (by omega)];exact hB
    have hAl:m/256<256:=by omega
    have hBl:m%256<256:=by omega
    have HM:=Aa hm;clear hm;generalize hq1:m/256=A at *;generalize hq2:m%256=C at *;have ZV:=Aa hq1;have Kh:=Aa hq2;clear hq1 hq2;have hAw:IntKind.u8.wrap (A:Int)=A:=by rw[IntKind.wrap_u8];omega
    have hBw:IntKind.u8.wrap (C:Int)=C:=by rw[IntKind.wrap_u8];omega
    have hAi:IntKind.i64.wrap (A:Int)=A:=by rw[El];omega
    have hz:∀j,j<64→(Q4)[j]?=some (.int .u8 0):=fun j hj=>by
     unfold Q4;rw[Gp,List.getElem?_replicate,if_pos hj]
    have cz0:(wr.alloc (.cells Q4 5)).cell? ⟨wr.heap.size,0,none⟩=some (.int .u8 0):=by rw[AB _ _ _ _ _ _ (Ai _ _)];exact hz 0 (by decide)
    have cz1:(wr.alloc (.cells (Q4.setIfInBounds 0 (.int .u8 (A:Int))) 5)).cell? ⟨wr.heap.size,1,none⟩=some (.int .u8 0):=by
     rw[AB _ _ _ _ _ _ (Ai _ _),LF (by decide)];exact hz 1 (by decide)
    clear hz;obtain⟨E,hE⟩:∃E:Nat,min (P+62) n=E:=⟨_,rfl⟩;have AdB:IntKind.i64.wrap ((P:Int)+62)=(P:Int)+62:=by rw[El];omega
    have hmin:min ((P:Int)+62) (n:Int)=(E:Int):=by omega
    have hPE:(P:Int)≤(E:Int):=by omega
    have hEn:(E:Int)≤(n:Int):=by omega
    have hP0:(0:Int)≤(P:Int):=by omega
    have HE:=Aa hE;have HTB:Hid ((s.extract P E).data.toList=(s.data.toList.drop P).take 62):=Aa (by
     rw[ByteArray.data_extract,Array.toList_extract];show(s.data.toList.drop P).take (E-P)=_
     by_cases h:P+62≤n
     · rw[show E-P=62 by omega]
     · have hlen:(s.data.toList.drop P).length=n-P:=by
        rw[Ea,BQ];have:=HN.out;show s.size-P=_
        omega
       rw[CV (by omega),CV (by omega)])
    have HTS:Hid ((s.extract P E).size=((s.data.toList.drop P).take 62).length):=Aa (by rw[←HTB.out,BQ];rfl);have y7:Hid ((s.extract P E).size≤62):=Aa (by rw[HTS.out,Cc];omega);have eu:Hid (((Q4.setIfInBounds 0 (Value.int .u8 (A:Int))).setIfInBounds 1 (Value.int .u8 (C:Int)))=(Value.int .u8 (A:Int)::Value.int .u8 (C:Int)::List.replicate 62 (Value.int .u8 0)).toArray):=Aa (by
     unfold Q4;apply Array.ext';rw[Array.toList_setIfInBounds,Array.toList_setIfInBounds,Iw,Iw];rfl)
    clear hE;go_upto_region 8 with fail;clear cz0 cz1 Acs;have Rm:Hid (w.heap.size≤wr.heap.size):=Aa HB.out.size;have Nw:Hid ((wr.alloc (.cells ((Q4.setIfInBounds 0 (Value.int .u8 (A:Int))).setIfInBounds 1 (Value.int .u8 (C:Int))) 5)).heap[wr.heap.size]?=some (.cells (Value.int .u8 (A:Int)::Value.int .u8 (C:Int)::List.replicate 62 (Value.int .u8 0)).toArray 5 (0,0))):=Aa (by rw[eu.out];exact Ai _ _);have HB1:Hid (Below w.heap.size w (wr.alloc (.cells ((Q4.setIfInBounds 0 (Value.int .u8 (A:Int))).setIfInBounds 1 (Value.int .u8 (C:Int))) 5))):=Aa (HB.out.alloc HB.out.size _);have ZY:Hid ((wr.alloc (.cells ((Q4.setIfInBounds 0 (Value.int .u8 (A:Int))).setIfInBounds 1 (Value.int .u8 (C:Int))) 5)).ownsRow w.heap.size 9 1 ov out.length (UO out)):=Aa (HO.out.kept (row:=none) ⟨rfl,rfl,rfl,by simp,fun k hk _=>Ct wr _ _ hk⟩ (by cases h:ov.ownBlock with|none=>exact Or.inl rfl|some x=>exact Or.inr (by simp)));have Ht:Hid (ov.ownBlock≠some wr.heap.size):=Aa (fun e=>by have:=(HO.out.lt _ e).2;omega);generalize wr.alloc (.cells ((Q4.setIfInBounds 0 (Value.int .u8 (A:Int))).setIfInBounds 1 (Value.int .u8 (C:Int))) 5)=W1 at *;generalize wr.heap.size=gb at *;have hth:W1.there gb 2 62:=C9 Nw.out 2 62 (by simp);have HTC:Hid (∀j,j<(s.extract P E).size→(W1.drew.cell? ⟨gb,2+j,none⟩).isSome=true):=Aa (fun j hj=>(hth j (by have:=y7.out;omega)).1);have HTF:Hid (∀j,j<(s.extract P E).size→W1.drew.frozen? ⟨gb,2+j,none⟩=false):=Aa (fun j hj=>(hth j (by have:=y7.out;omega)).2);clear hth;go_region_held3 (fun _=>True) (trivial) (first|(refine step_copy_string rfl _ _ 121 9 rfl 5 Tryz.underlying121 Vd gb 2 62 62 rfl (s.extract P E) rfl y7.out HTC.out HTF.out ?_));have HB2:Hid (Below w.heap.size w (W1.drew.setCells gb 2 ((s.extract P E).data.toList.map fun x=>Value.int .u8 (x.toNat:Int)))):=Aa (Below.setCells (show Below w.heap.size w W1.drew from HB1.out.trans ⟨rfl,rfl,rfl,Ae _,fun _ _=>rfl⟩) Rm.out 2 _);have JQ:Hid ((W1.drew.setCells gb 2 ((s.extract P E).data.toList.map fun x=>Value.int .u8 (x.toNat:Int))).ownsRow w.heap.size 9 1 ov out.length (UO out)):=Aa ((show W1.drew.ownsRow w.heap.size 9 1 ov out.length (UO out) from ZY.out).kept (row:=some gb) ⟨(Below.setCells (Ad 0 W1.drew) (Nat.zero_le _) 2 _).os,(Below.setCells (Ad 0 W1.drew) (Nat.zero_le _) 2 _).tape,(Below.setCells (Ad 0 W1.drew) (Nat.zero_le _) 2 _).output,by rw[size_setCells];exact Ae _,fun k _ hne=>Cq gb _ 2 _ k (fun e=>hne (by rw[e]))⟩ (Or.inr Ht.out));have HC2:Hid ((W1.drew.setCells gb 2 ((s.extract P E).data.toList.map fun x=>Value.int .u8 (x.toNat:Int))).heap[gb]?=some (.cells ((Et (s.data.toList.drop P)).map fun b=>Value.int .u8 (b.toNat:Int)).toArray 5 (0,0))):=Aa (by
     have h9:=Cm gb 5 ((s.extract P E).data.toList.map fun x=>Value.int .u8 (x.toNat:Int)) 2 W1.drew _ Nw.out (by
      have:=y7.out;have h8:(s.extract P E).data.toList.length=(s.extract P E).size:=by rw[BQ];rfl
      simp only[List.length_map,List.length_cons,List.length_replicate,h8];omega)
     rw[h9,QV];have hl:(s.data.toList.drop P).length=m:=by
      rw[Ea,BQ];have h1:=HN.out;have h2:=HM.out;show s.size-P=m
      rw[h1];exact h2
     have e1:((UInt8.ofNat A).toNat:Int)=A:=by rw[UInt8.toNat_ofNat',Nat.mod_eq_of_lt (by omega)]
     have e2:((UInt8.ofNat C).toNat:Int)=C:=by rw[UInt8.toNat_ofNat',Nat.mod_eq_of_lt (by omega)]
     rw[hl,ZV.out,Kh.out,e1,e2,HTB.out];have h62:((s.data.toList.drop P).take 62).length≤62:=by rw[Cc];omega
     generalize (s.data.toList.drop P).take 62=l62 at *;generalize hR:List.replicate 62 (Value.int .u8 0)=R;simp[Nat.add_comm 2];rw[←hR,List.drop_replicate])
    generalize (W1.drew.setCells gb 2 ((s.extract P E).data.toList.map fun x=>Value.int .u8 (x.toNat:Int)))=W2 at *;have hcv:(convert 121 9 (.slice (some ⟨gb,0,none⟩) 64 64)).run Tryz.prog W2=.ok (.string ⟨(Et (s.data.toList.drop P)).toArray⟩) W2:=by
     have h9:=run_convert_bytes_back (P:=Tryz.prog) W2 121 9 5 ⟨gb,0,none⟩ 64 (Et (s.data.toList.drop P)) Tryz.underlying121 Tryz.underlying5 Tryz.underlying9 (fun j hj=>by
      rw[Addr.add_mid,Gh,AB _ _ _ _ _ _ HC2.out];simp[hj])
     rw[Kq]at h9;exact h9
    generalize hF:Et (s.data.toList.drop P)=F at *;have HF:=Aa hF;clear hF;have Wo:Hid ((W2.alloc (.cells #[.string ⟨F.toArray⟩] 9)).ownsRow w.heap.size 9 1 ov out.length (UO out)):=Aa (JQ.out.alloc _);have HOL:Hid (out.length≤2000):=Aa (by
     have h1:=Gu List.length HC.out;rw[A7,Dp s.data.toList]at h1;have h2:s.data.toList.length=n:=by rw[BQ];exact HN.out
     rw[h2]at h1;omega)
    go_wp2_with (at_builtin;refine wpList_append_own _ rfl _ _ 59 rfl w.heap.size 9 i0 (.string ⟨#[]⟩) 1 16 Tryz.underlying59 hi0 hz0 hz1 hz2 rfl (by decide) _ _ _ rfl Wo.out ⟨W2.heap.size,0,none⟩ 1 1 [.string ⟨F.toArray⟩] rfl rfl ?c1 ?c2 ?c3 ?c4 ?c5 ?_)
    case c1 =>
     intro j u hj
     match j,hj with
     | 0,hj=>simp at hj;subst hj;simp[Addr.add]
    case c2=>intro u hu;simp at hu;subst hu;rfl
    case c3=>have:=HOL.out;unfold maxLen;omega
    case c4=>have:=HOL.out;omega
    case c5=>have h1:=HB2.out.size;simp;omega
    intro v' w3 hown' hgrow _;have Jf:=Aa hown';have HG3:=Aa hgrow;clear hown' hgrow;go_wp2;go_roundw
    case rel =>
     refine⟨P+62,out++[F],by omega,by go_num,?_,⟨_,rfl,?_⟩,?_⟩
     · rw[←HC.out,Dn (r:=s.data.toList.drop P) (by
        intro h;have h1:=Gu List.length h;rw[Ea,BQ]at h1;have h2:s.data.size=n:=HN.out;simp at h1;omega),List.drop_drop,HF.out,Ch]
       rfl
     · have:=Jf.out;simpa[UO]using this
     · exact(HB2.out.alloc HB2.out.size _).grown HG3.out (by have:=HB2.out.size;simp;omega) (fun j hj=>(JQ.out.lt j hj).1)
    case measure=>simp[intOf];omega
  · have hge:¬((P:Int)<(n:Int)):=by omega
    have HE2:Hid (Cs s.data.toList=out):=Aa (by
     rw[←HC.out,List.drop_eq_nil_of_le (by rw[BQ];have h2:s.data.size=n:=HN.out;omega),IM,Cz])
    go_wp2;go_ret;exact⟨_,rfl,by rw[HE2.out];exact HO.out,HB.out⟩
def Ac (l:List ByteArray):List (List UInt8):=l.map fun s=>s.data.toList
theorem Ot {l:List ByteArray}(h:∀x∈l,x.size=64):∀f∈Ac l,f.length=64:=by
 intro f hf;obtain⟨x,hx,rfl⟩:=CG.1 hf;rw[BQ];exact h x hx
theorem Qh {l:List ByteArray}{i:Nat}{s:ByteArray}(h:l[i]?=some s):Ca (Ac (l.take (i+1)))=Ca (Ac (l.take i))++s.data.toList.drop 2:=by
 rw[List.take_add_one,h];simp[Ac,Ca]
theorem nU (A C:Nat)(hA:A<256)(hC:C<256):wrap64 (A:Int)=A∧wrap64 (C:Int)=C∧wrap64 ((A:Int)*256)=A*256∧wrap64 ((A:Int)*256+C)=((A*256+C:Nat):Int)∧A*256+C<65536:=by
 unfold wrap64;omega
theorem OI {w:World}{base:Nat}{v:Value}{L:List (List UInt8)}(h:w.ownsRow base 9 1 v L.length (UO L)):Eo w v (L.map fun f=>⟨f.toArray⟩):=by
 rcases h.2 with⟨rfl,h0⟩|⟨g,cap,cur,rfl,hb,hg,h1,h2,h3,h4⟩
 · exact Or.inl ⟨by rw[List.length_eq_zero_iff.1 h0];rfl,none,0,rfl⟩
 · refine Or.inr ⟨g,0,cap,(Array.getElem?_eq_some_iff.1 hg).1,by rw[DW],fun j s hj=>?_⟩;rw[Gh,AB _ _ _ _ _ _ hg];rw[GZ]at hj;obtain⟨f,hf,rfl⟩:=Option.map_eq_some_iff.1 hj;have hjl:=(DL.1 hf).1;have h5:(cur.toList.take (L.length*1))[j]?=some (.string ⟨f.toArray⟩):=by rw[h4];unfold UO;rw[GZ,hf];rfl
   rw[JR,if_pos (by omega)]at h5;simpa using h5
theorem QX (l:List ByteArray)(p:Nat):Ac (l.drop p)=(Ac l).drop p:=by
 unfold Ac;rw[List.map_drop]
theorem vY {l:List (List UInt8)}(h:Es l≠[]):(Cs (Es l)).length≤l.length:=(KD rfl h).2.length_le
theorem NT {l:List (List UInt8)}(h:Es l≠[])(h0:l≠[]):DZ l=Es l::DZ (l.drop (Cs (Es l)).length):=by
 conv=>lhs;unfold DZ
 rw[dif_neg (by rintro(e|e);exact h0 e;exact h e)]
def QP (N:Nat):Nat→List UInt8
 | 0=>List.replicate 64 0
 | k+1=>((QP N k).set (7-k) (UInt8.ofNat (N/256^k%256))).set (8+(7-k)) (UInt8.ofNat (255-N/256^k%256))
theorem Pj (N:Nat):∀k,(QP N k).length=64
 | 0=>by simp[QP]
 | k+1=>by rw[QP,List.length_set,List.length_set,Pj N k]
def C8 (N:Nat):ByteArray:=⟨(if N=0 then List.replicate 64 0 else QP N 8).toArray⟩
end Go.Proofs.YtdmkhmeaphaapaaGreat.V
