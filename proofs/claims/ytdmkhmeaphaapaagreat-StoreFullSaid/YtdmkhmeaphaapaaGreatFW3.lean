/- Kit. -/
import Derived.Lib.Hide
import Derived.Test.YtdmkhmeaphaapaaGreatProg
import Derived.WalkKit
import Derived.WalkSpells
import Derived.IntWalk
import Derived.ProofKit
import Derived.Below
import Derived.Sort.WalkC
import Derived.LoopTactic
import Derived.Deep.LoopGhost
import Derived.Deep.QuietTactic
import Derived.BigQuiet
import Derived.PlainAid
import Derived.Test.YtdmkhmeaphaapaaGreatFW1
import Derived.Lib.LazyBuf
import Derived.OwnWalk
import Derived.Deep.CutRange
set_option maxRecDepth 100000
namespace Go.Proofs.YtdmkhmeaphaapaaGreat.V
set_option linter.unusedVariables false
def frameB (r:List UInt8):List UInt8:=UInt8.ofNat (r.length/256)::UInt8.ofNat (r.length%256)::(r.take 62++List.replicate (62-(r.take 62).length) 0)
theorem frameB_length (r:List UInt8):(frameB r).length=64:=by
  simp[frameB];omega
def cutB (r:List UInt8):List (List UInt8):=if h:r=[] then [] else frameB r::cutB (r.drop 62)
termination_by r.length
decreasing_by
  have:=List.length_pos_iff.2 h;simp;omega
theorem cutB_nil:cutB []=[]:=by unfold cutB;rw[dif_pos rfl]
theorem cutB_cons {r:List UInt8}(h:r≠[]):cutB r=frameB r::cutB (r.drop 62):=by
  conv=>lhs;unfold cutB
  rw[dif_neg h]
theorem cutB_all (r:List UInt8):∀f∈cutB r,f.length=64:=by
  induction h:r.length using Nat.strongRecOn generalizing r with
  | ind n ih =>
    intro f hf;by_cases h0:r=[]
    · rw[h0,cutB_nil]at hf;cases hf
    · rw[cutB_cons h0]at hf;rcases List.mem_cons.1 hf with rfl|hf
      · exact frameB_length r
      · have:=List.length_pos_iff.2 h0;exact ih (r.drop 62).length (by simp;omega) _ rfl f hf
theorem cutB_length (r:List UInt8):(cutB r).length=(r.length+61)/62:=by
  induction h:r.length using Nat.strongRecOn generalizing r with
  | ind n ih =>
    by_cases h0:r=[]
    · subst h0;rw[cutB_nil];simp at h;subst h;rfl
    · have hp:=List.length_pos_iff.2 h0;rw[cutB_cons h0,List.length_cons,ih (r.drop 62).length (by simp;omega) _ rfl];simp;omega
def gatherB (l:List (List UInt8)):List UInt8:=l.flatMap (·.drop 2)
theorem gatherB_cut (r:List UInt8)(t:List (List UInt8)):(gatherB (cutB r++t)).take r.length=r:=by
  induction h:r.length using Nat.strongRecOn generalizing r with
  | ind n ih =>
    by_cases h0:r=[]
    · subst h0;simp at h;subst h;simp
    · have hp:=List.length_pos_iff.2 h0;rw[cutB_cons h0,List.cons_append];show((frameB r).drop 2++gatherB (cutB (r.drop 62)++t)).take n=r
      have hd:(frameB r).drop 2=r.take 62++List.replicate (62-(r.take 62).length) 0:=rfl;rw[hd];by_cases hs:r.length≤62
      · rw[List.append_assoc,List.take_append,List.take_take];rw[List.length_take,Nat.min_eq_right hs];rw[show n-r.length=0 by omega,List.take_zero,List.append_nil,List.take_of_length_le (by omega)]
      · have h62:(r.take 62).length=62:=by rw[List.length_take];omega
        rw[h62,Nat.sub_self,List.replicate_zero,List.append_nil,List.take_append,h62];rw[List.take_of_length_le (by rw[h62];omega)];have:=ih (r.drop 62).length (by simp;omega) (r.drop 62) rfl;rw[show n-62=(r.drop 62).length by simp;omega,this,List.take_append_drop]
theorem gatherB_length {l:List (List UInt8)}(h:∀f∈l,f.length=64):(gatherB l).length=62*l.length:=by
  induction l with
  | nil=>rfl
  | cons f l ih =>
    show(f.drop 2++gatherB l).length=_
    rw[List.length_append,List.length_drop,h f (by simp),ih (fun g hg=>h g (by simp[hg])),List.length_cons];omega
def saysB (f:List UInt8):Nat:=(f.getD 0 0).toNat*256+(f.getD 1 0).toNat
theorem saysB_frame {r:List UInt8}(h:r.length<65536):saysB (frameB r)=r.length:=by
  unfold saysB frameB;simp;omega
def oneB (l:List (List UInt8)):List UInt8:=
  if saysB (l.headD [])>60000∨(gatherB l).length<saysB (l.headD []) then [] else
  if cutB ((gatherB l).take (saysB (l.headD []))) <+: l then(gatherB l).take (saysB (l.headD [])) else []
theorem oneB_cut {r:List UInt8}{l:List (List UInt8)}(h0:r≠[])(h1:r.length≤60000)(h:cutB r <+: l)(hl:∀f∈l,f.length=64):oneB l=r:=by
  obtain⟨t,rfl⟩:=h;have hh:saysB ((cutB r++t).headD [])=r.length:=by
    rw[cutB_cons h0];exact saysB_frame (by omega)
  have hg:=gatherB_cut r t;have hlen:r.length≤(gatherB (cutB r++t)).length:=by
    have:=congrArg List.length hg;rw[List.length_take]at this;omega
  unfold oneB;rw[hh,hg,if_neg (by omega),if_pos (List.prefix_append _ _)]
theorem oneB_some {r:List UInt8}{l:List (List UInt8)}(h:oneB l=r)(h0:r≠[]):r.length≤60000∧cutB r <+: l:=by
  unfold oneB at h;split at h
  · exact absurd h.symm h0
  · rename_i hn;split at h
    · rename_i hp;subst h;refine⟨?_,hp⟩;rw[List.length_take];omega
    · exact absurd h.symm h0
def scanB (l:List (List UInt8)):List (List UInt8):=if h:l=[]∨oneB l=[] then [] else oneB l::scanB (l.drop (cutB (oneB l)).length)
termination_by l.length
decreasing_by
  have h1:oneB l≠[]:=fun e=>h (Or.inr e)
  have h2:0<l.length:=List.length_pos_iff.2 (fun e=>h (Or.inl e));rw[cutB_cons h1];simp;omega
theorem scanB_stop {l:List (List UInt8)}(h:l=[]∨oneB l=[]):scanB l=[]:=by
  unfold scanB;rw[dif_pos h]
theorem scanB_step {r:List UInt8}{t:List (List UInt8)}(h0:r≠[])(h1:r.length≤60000)(ht:∀f∈t,f.length=64):scanB (cutB r++t)=r::scanB t:=by
  have ho:oneB (cutB r++t)=r:=oneB_cut h0 h1 (List.prefix_append _ _) (fun f hf=>by
    rcases List.mem_append.1 hf with hf|hf
    · exact cutB_all r f hf
    · exact ht f hf)
  have hne:cutB r++t≠[]:=by rw[cutB_cons h0];simp
  conv=>lhs;unfold scanB
  rw[dif_neg (by
    rintro(e|e)
    · exact hne e
    · rw[ho]at e;exact h0 e),ho]
  congr 1;rw[List.drop_left]
def layB (rs:List (List UInt8)):List (List UInt8):=rs.flatMap cutB
theorem layB_all (rs:List (List UInt8)):∀f∈layB rs,f.length=64:=fun f hf=>by
  obtain⟨r,_,h⟩:=List.mem_flatMap.1 hf;exact cutB_all r f h
theorem scanB_lay (rs:List (List UInt8))(t:List (List UInt8))(h:∀r∈rs,r≠[]∧r.length≤60000)(ht:∀f∈t,f.length=64):scanB (layB rs++t)=rs++scanB t:=by
  induction rs with
  | nil=>rfl
  | cons r rs ih =>
    have hr:=h r (by simp);show scanB ((cutB r++layB rs)++t)=_
    rw[List.append_assoc,scanB_step hr.1 hr.2 (fun f hf=>by
      rcases List.mem_append.1 hf with hf|hf
      · exact layB_all rs f hf
      · exact ht f hf),ih (fun q hq=>h q (by simp[hq]))]
    rfl
def zeroF:List UInt8:=List.replicate 64 0
theorem oneB_zero (t:List (List UInt8)):oneB (zeroF::t)=[]:=by
  unfold oneB;have:saysB ((zeroF::t).headD [])=0:=by
    show saysB zeroF=0
    decide +kernel
  rw[this];split
  · rfl
  · rw[List.take_zero,cutB_nil,if_pos (List.nil_prefix)]
theorem frame_not_zero {r:List UInt8}(h0:r≠[])(h1:r.length≤60000):frameB r≠zeroF:=fun e=>by
  have h2:=congrArg saysB e;rw[saysB_frame (by omega)]at h2;have h3:saysB zeroF=0:=by decide +kernel
  rw[h3]at h2;exact h0 (List.eq_nil_of_length_eq_zero h2)
def LostF:List (List UInt8)→List (List UInt8)→Prop
  | [],[]=>True
  | f::fs,g::gs=>(g=f∨g=zeroF)∧LostF fs gs
  | _,_=>False
theorem LostF.length:∀{fs gs:List (List UInt8)},LostF fs gs→gs.length=fs.length
  | [],[],_=>rfl
  | f::fs,g::gs,h=>by rw[List.length_cons,List.length_cons,LostF.length h.2]
  | [],g::gs,h=>h.elim
  | f::fs,[],h=>h.elim
theorem LostF.split:∀(fs:List (List UInt8)) {fs' gs:List (List UInt8)},LostF (fs++fs') gs→∃a b,gs=a++b∧LostF fs a∧LostF fs' b
  | [],fs',gs,h=>⟨[],gs,rfl,trivial,h⟩
  | f::fs,fs',[],h=>h.elim
  | f::fs,fs',g::gs,h=>by
    obtain⟨a,b,rfl,h1,h2⟩:=LostF.split fs h.2;exact⟨g::a,b,rfl,⟨h.1,h1⟩,h2⟩
theorem LostF.sizes:∀{fs gs:List (List UInt8)},LostF fs gs→(∀f∈fs,f.length=64)→∀g∈gs,g.length=64
  | [],[],_,_=>fun g hg=>by cases hg
  | f::fs,g::gs,h,hf=>fun x hx=>by
    rcases List.mem_cons.1 hx with rfl|hx
    · rcases h.1 with e|e
      · rw[e];exact hf f (by simp)
      · rw[e];rfl
    · exact LostF.sizes h.2 (fun y hy=>hf y (by simp[hy])) x hx
  | [],g::gs,h,_=>h.elim
  | f::fs,[],h,_=>h.elim
theorem lost_one:∀(r q:List UInt8) {a t:List (List UInt8)},r.length≤60000→q.length=r.length→LostF (cutB r) a→cutB q <+: a++t→a=cutB r:=by
  intro r
  induction h:r.length using Nat.strongRecOn generalizing r with
  | ind n ih =>
    intro q a t h1 hq hl hp;by_cases h0:r=[]
    · subst h0;rw[cutB_nil]at hl ⊢;cases a with
      | nil=>rfl
      | cons g gs=>exact hl.elim
    · have hpos:=List.length_pos_iff.2 h0;have hq0:q≠[]:=fun e=>by rw[e]at hq;simp at hq;omega
      rw[cutB_cons h0]at hl ⊢;rw[cutB_cons hq0]at hp;cases a with
      | nil=>exact hl.elim
      | cons g gs =>
        rw[List.cons_append]at hp;obtain⟨hg,hp2⟩:=List.cons_prefix_cons.1 hp;have hgf:g=frameB r:=by
          rcases hl.1 with e|e
          · exact e
          · rw[e]at hg;exact absurd hg (frame_not_zero hq0 (by omega))
        rw[hgf,ih (r.drop 62).length (by simp;omega) (r.drop 62) rfl (q.drop 62) (by simp;omega) (by simp;omega) hl.2 hp2]
theorem lost_scan (rs:List (List UInt8)):∀(a t:List (List UInt8)),(∀r∈rs,r≠[]∧r.length≤60000)→LostF (layB rs) a→(∀f∈t,f=zeroF)→scanB (a++t) <+: rs:=by
  induction rs with
  | nil =>
    intro a t _ hl ht;have ha:a=[]:=by
      cases a with
      | nil=>rfl
      | cons g gs=>exact hl.elim
    subst ha;rw[List.nil_append,scanB_stop (by
      cases t with
      | nil=>exact Or.inl rfl
      | cons g gs=>rw[ht g (by simp)];exact Or.inr (oneB_zero gs))]
    exact List.nil_prefix
  | cons r rs ih =>
    intro a t hr hl ht;obtain⟨h0,h1⟩:=hr r (by simp);obtain⟨a1,a2,rfl,hl1,hl2⟩:=LostF.split (cutB r) (fs':=layB rs) hl;have hs2:∀f∈a2++t,f.length=64:=fun f hf=>by
      rcases List.mem_append.1 hf with hf|hf
      · exact hl2.sizes (layB_all rs) f hf
      · rw[ht f hf];rfl
    by_cases he:a1=cutB r
    · subst he;rw[List.append_assoc,scanB_step h0 h1 hs2];exact List.cons_prefix_cons.2 ⟨rfl,ih a2 t (fun q hq=>hr q (by simp[hq])) hl2 ht⟩
    · rw[List.append_assoc,scanB_stop (Or.inr ?_)]
      · exact List.nil_prefix
      · apply Classical.byContradiction;intro hne;obtain⟨hq1,hq2⟩:=oneB_some (l:=a1++(a2++t)) rfl hne;have hh:cutB r=frameB r::cutB (r.drop 62):=cutB_cons h0;rw[hh]at hl1;cases a1 with
        | nil=>exact hl1.elim
        | cons g gs =>
          rcases hl1.1 with e|e
          · generalize oneB ((g::gs)++(a2++t))=q at *;have hlen:q.length=r.length:=by
              have hq3:=hq2;rw[cutB_cons hne,List.cons_append]at hq3;have hg:=(List.cons_prefix_cons.1 hq3).1;rw[e]at hg;have h7:=congrArg saysB hg;rw[saysB_frame (by omega),saysB_frame (by omega)]at h7;exact h7
            exact he (lost_one r q h1 hlen (by rw[hh];exact hl1) hq2)
          · rw[e,List.cons_append]at hne;exact hne (oneB_zero _)
end Go.Proofs.YtdmkhmeaphaapaaGreat.V
namespace Go.Proofs.YtdmkhmeaphaapaaGreat.V
open Go.RowKit Go.Sort
set_option linter.unusedVariables false
def StrsIs (w:World)(v:Value)(l:List ByteArray):Prop:=
  (l=[]∧∃a cap,v=.slice a 0 cap) ∨
  (∃g off cap,g<w.heap.size∧v=.slice (some ⟨g,off,none⟩) l.length cap∧∀j s,l[j]?=some s→w.cell? ⟨g,off+j,none⟩=some (.string s))
theorem StrsIs.kept {w w':World}{v:Value}{l:List ByteArray}(h:StrsIs w v l)(hb:Below w.heap.size w w'):StrsIs w' v l:=by
  rcases h with h|⟨g,off,cap,hg,hv,hc⟩
  · exact Or.inl h
  · exact Or.inr ⟨g,off,cap,by have:=hb.size;omega,hv,fun j s hj=>by rw[hb.cell (p:=⟨g,off+j,none⟩) hg];exact hc j s hj⟩
theorem StrsIs.len {w:World}{v:Value}{l:List ByteArray}(h:StrsIs w v l):∃a cap,v=.slice a l.length cap:=by
  rcases h with⟨rfl,a,cap,hv⟩|⟨g,off,cap,hg,hv,hc⟩
  · exact⟨a,cap,hv⟩
  · exact⟨_,cap,hv⟩
theorem StrsIs.at {w:World}{a:Option Addr}{n cap:Nat}{l:List ByteArray}(h:StrsIs w (.slice a n cap) l){j:Nat}{s:ByteArray}(hj:l[j]?=some s):∃g off,a=some ⟨g,off,none⟩∧g<w.heap.size∧w.cell? ⟨g,off+j,none⟩=some (.string s):=by
  rcases h with⟨rfl,_⟩|⟨g,off,cap',hg,hv,hc⟩
  · cases hj
  · injection hv with h1 h2 h3;exact⟨g,off,h1,hg,hc j s hj⟩
theorem toList_ne {x y:ByteArray}(h:x≠y):(x.toList==y.toList)=false:=by
  rw[beq_eq_false_iff_ne];intro e;apply h;rw[ByteArray.toList_eq,ByteArray.toList_eq]at e;cases x;cases y
  congr 1;exact Array.ext' e
theorem Below.drewS {B:Nat}{a w:World}(h:Below B a w)(q:Nat):Below B a (w.drewN q):=by
  induction q with
  | zero=>exact h
  | succ q ih=>exact ih.drew
end Go.Proofs.YtdmkhmeaphaapaaGreat.V
namespace Go.Proofs.YtdmkhmeaphaapaaGreat.V
open Go.RowKit Go.Sort
set_option linter.unusedVariables false
theorem Tryz.infoByte7:(Tryz.prog.info? 5).map (fun i=>(i.zero,i.size,i.bytes))=some (some (.int .u8 0),1,1):=by kernel_rfl
theorem Tryz.infoStr7:(Tryz.prog.info? 9).map (fun i=>(i.zero,i.size,i.bytes))=some (some (.string ⟨#[]⟩),1,16):=by kernel_rfl
theorem sizeByte7 (W:World):(Go.sizeOf 5).run Tryz.prog W=.ok 1 W:=by
  obtain⟨i0,hi0,hz0,hz1,hz2⟩:=info_parts Tryz.infoByte7;simp[sizeOf,typeInfo,hi0,hz1]
def frV (l:List (List UInt8)):List Value:=l.map fun f=>Value.string ⟨f.toArray⟩
theorem frame_cells (r:List UInt8):(frameB r).map (fun b=>Value.int .u8 (b.toNat:Int))=[Value.int .u8 ((UInt8.ofNat (r.length/256)).toNat:Int),Value.int .u8 ((UInt8.ofNat (r.length%256)).toNat:Int)]++(r.take 62).map (fun b=>Value.int .u8 (b.toNat:Int))++List.replicate (62-(r.take 62).length) (Value.int .u8 0):=by
  simp[frameB]
def CutPost (s:ByteArray)(w:World)(e:Ending)(w':World):Prop:=∃v,e=.returned v∧w'.ownsRow w.heap.size 9 1 v (cutB s.data.toList).length (frV (cutB s.data.toList))∧Below w.heap.size w w'
end Go.Proofs.YtdmkhmeaphaapaaGreat.V
namespace Go.Proofs.YtdmkhmeaphaapaaGreat.V
open Go.RowKit Go.Sort
set_option linter.unusedVariables false
def bytesL (l:List ByteArray):List (List UInt8):=l.map fun s=>s.data.toList
theorem bytesL_all {l:List ByteArray}(h:∀x∈l,x.size=64):∀f∈bytesL l,f.length=64:=by
  intro f hf;obtain⟨x,hx,rfl⟩:=List.mem_map.1 hf;rw[Array.length_toList];exact h x hx
theorem gather_take_succ {l:List ByteArray}{i:Nat}{s:ByteArray}(h:l[i]?=some s):gatherB (bytesL (l.take (i+1)))=gatherB (bytesL (l.take i))++s.data.toList.drop 2:=by
  rw[List.take_add_one,h];simp[bytesL,gatherB]
theorem says_num (A C:Nat)(hA:A<256)(hC:C<256):wrap64 (A:Int)=A∧wrap64 (C:Int)=C∧wrap64 ((A:Int)*256)=A*256∧wrap64 ((A:Int)*256+C)=((A*256+C:Nat):Int)∧A*256+C<65536:=by
  unfold wrap64;omega
theorem strs_of_owns {w:World}{base:Nat}{v:Value}{L:List (List UInt8)}(h:w.ownsRow base 9 1 v L.length (frV L)):StrsIs w v (L.map fun f=>⟨f.toArray⟩):=by
  rcases h.2 with⟨rfl,h0⟩|⟨g,cap,cur,rfl,hb,hg,h1,h2,h3,h4⟩
  · exact Or.inl ⟨by rw[List.length_eq_zero_iff.1 h0];rfl,none,0,rfl⟩
  · refine Or.inr ⟨g,0,cap,(Array.getElem?_eq_some_iff.1 hg).1,by rw[List.length_map],fun j s hj=>?_⟩;rw[Nat.zero_add,cell_of_row _ _ _ _ _ _ hg];rw[List.getElem?_map]at hj;obtain⟨f,hf,rfl⟩:=Option.map_eq_some_iff.1 hj;have hjl:=(List.getElem?_eq_some_iff.1 hf).1;have h5:(cur.toList.take (L.length*1))[j]?=some (.string ⟨f.toArray⟩):=by rw[h4];unfold frV;rw[List.getElem?_map,hf];rfl
    rw[List.getElem?_take,if_pos (by omega)]at h5;simpa using h5
end Go.Proofs.YtdmkhmeaphaapaaGreat.V
namespace Go.Proofs.YtdmkhmeaphaapaaGreat.V
open Go.RowKit Go.Sort
set_option linter.unusedVariables false
theorem bytesL_drop (l:List ByteArray)(p:Nat):bytesL (l.drop p)=(bytesL l).drop p:=by
  unfold bytesL;rw[List.map_drop]
theorem oneB_le {l:List (List UInt8)}(h:oneB l≠[]):(cutB (oneB l)).length≤l.length:=(oneB_some rfl h).2.length_le
theorem scanB_next {l:List (List UInt8)}(h:oneB l≠[])(h0:l≠[]):scanB l=oneB l::scanB (l.drop (cutB (oneB l)).length):=by
  conv=>lhs;unfold scanB
  rw[dif_neg (by rintro(e|e);exact h0 e;exact h e)]
end Go.Proofs.YtdmkhmeaphaapaaGreat.V
namespace Go.Proofs.YtdmkhmeaphaapaaGreat.V
open Go.RowKit Go.Sort
set_option linter.unusedVariables false
def headK (N:Nat):Nat→List UInt8
  | 0=>List.replicate 64 0
  | k+1=>((headK N k).set (7-k) (UInt8.ofNat (N/256^k%256))).set (8+(7-k)) (UInt8.ofNat (255-N/256^k%256))
theorem headK_length (N:Nat):∀k,(headK N k).length=64
  | 0=>by simp[headK]
  | k+1=>by rw[headK,List.length_set,List.length_set,headK_length N k]
def headB (N:Nat):ByteArray:=⟨(if N=0 then List.replicate 64 0 else headK N 8).toArray⟩
end Go.Proofs.YtdmkhmeaphaapaaGreat.V
