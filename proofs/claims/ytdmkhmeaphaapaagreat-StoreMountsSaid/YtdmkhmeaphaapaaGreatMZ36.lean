/- Kit. -/
import Derived.Test.YtdmkhmeaphaapaaGreatMZ35
import Derived.Laws.ResultCell
import Derived.Test.YtdmkhmeaphaapaaGreatMZ0
import Derived.Test.YtdmkhmeaphaapaaGreatMZ25
import Derived.Test.YtdmkhmeaphaapaaGreatMZ33
set_option maxRecDepth 100000
set_option linter.unusedVariables false
set_option linter.unusedSimpArgs false
namespace Go.Proofs.YtdmkhmeaphaapaaGreat
open Go.RowKit Go.Sort
def qL (ts:List TI)(t:TI):Prop:=∃u,ts[ts.length-1]?=some u∧CG t u
section
variable {O O':TI→Prop}{ts:List TI}{sV:Nat}{t t' u:TI}
theorem qL.pos (h:qL ts t):ts≠[]:=by
 rintro rfl;obtain⟨u,h1,_⟩:=h;cases h1
end
def AbU (ts:List TI)(sV i:Nat):Prop:=sV<ts.length∧ts.length≤1+i∧∀u∈ts,Cq u∧u.2≤1+i
section
variable (S:qG)
variable {S}
variable {B b sb:Nat}{W W':World}{ts:List TI}{sV:Nat}{T:TI}{rm:Int}{i:Nat}
end
set_option maxHeartbeats 4000000 in
theorem Aag (w:World):Calls Tryz.prog 10 #[.int .i64 (120:Int)] w fun e w'=>e=.returned (.tuple #[Ot (.slice none 0 0) 1 59 58,.bool true])∧Below w.heap.size w w':=by
 have cN:=dJ;unfold Bo at cN;have HB0:Hid (Below w.heap.size w (w.alloc (.cells #[.slice none 0 0,.int .i64 0,.int .i64 0,.int .i64 0] 33))):=Aa ((Ad _ w).alloc (Ae _) _);have Uf:Hid ((w.alloc (.cells #[.slice none 0 0,.int .i64 0,.int .i64 0,.int .i64 0] 33)).heap[w.heap.size]?=some (.cells #[.slice none 0 0,.int .i64 0,.int .i64 0,.int .i64 0] 33 (0,0))):=Aa (Ai _ _);go_enter Tryz.func10,Tryz.ntmps10;go_upto_region 4 with fail;generalize (w.alloc (.cells #[.slice none 0 0,.int .i64 0,.int .i64 0,.int .i64 0] 33))=W0 at *;generalize hbS:w.heap.size=bS at *;have Zl:=Aa hbS;clear hbS;have HR:Hid (∀W:World,Below W0.heap.size W0 W→W.heap[bS]?=some (.cells #[.slice none 0 0,.int .i64 0,.int .i64 0,.int .i64 0] 33 (0,0))∧Below bS w W):=Aa (fun W hW=>⟨(hW.block _ (Ab Uf.out)).trans Uf.out,HB0.out.trans (hW.mono (by have:=HB0.out.size;have:=Zl.out;omega))⟩);go_wp2_with (go_at_call 30;refine(cN _).mono ?_;rintro e w1 ⟨rfl,hb1⟩;obtain⟨hr1,hb1'⟩:=HR.out _ hb1;obtain⟨⟨s0,s1,s2,s3⟩,f0,f1,f2,f3⟩:=CB hr1)
 (try simp only[Exit.inBlock,Exit.then])
 have hp:=F8 (a:=1) (b:=59) (c:=58) hr1 (Bi.nil w1);have Zd:=Aa hp.1;have Qi:Hid (Below bS w ((((w1.setCell ⟨bS,0,none⟩ (.slice none 0 0)).setCell ⟨bS,1,none⟩ (.int .i64 1)).setCell ⟨bS,2,none⟩ (.int .i64 59)).setCell ⟨bS,3,none⟩ (.int .i64 58))):=Aa (D7 hb1' (Ae _));clear hp hr1 hb1 hb1' s0 s1 s2 s3 f0 f1 f2 f3;generalize ((((w1.setCell ⟨bS,0,none⟩ (.slice none 0 0)).setCell ⟨bS,1,none⟩ (.int .i64 1)).setCell ⟨bS,2,none⟩ (.int .i64 59)).setCell ⟨bS,3,none⟩ (.int .i64 58))=W9 at *;obtain⟨⟨z0,z1,z2,z3⟩,_⟩:=CB Zd.out;refine Br (v:=.tuple #[Ot (.slice none 0 0) 1 59 58,.bool true]) ?_ rfl ⟨rfl,by first|exact Qi.out|(rw[Zl.out];exact Qi.out)⟩;rw[CX rfl];go_simp
set_option maxHeartbeats 4000000 in
theorem ZT (w:World):Calls Tryz.prog 10 #[.int .i64 (4000:Int)] w fun e w'=>e=.returned (.tuple #[Ot (.slice none 0 0) 1 1999 1998,.bool true])∧Below w.heap.size w w':=by
 have cN:=dJ;unfold Bo at cN;have HB0:Hid (Below w.heap.size w (w.alloc (.cells #[.slice none 0 0,.int .i64 0,.int .i64 0,.int .i64 0] 33))):=Aa ((Ad _ w).alloc (Ae _) _);have Uf:Hid ((w.alloc (.cells #[.slice none 0 0,.int .i64 0,.int .i64 0,.int .i64 0] 33)).heap[w.heap.size]?=some (.cells #[.slice none 0 0,.int .i64 0,.int .i64 0,.int .i64 0] 33 (0,0))):=Aa (Ai _ _);go_enter Tryz.func10,Tryz.ntmps10;go_upto_region 4 with fail;generalize (w.alloc (.cells #[.slice none 0 0,.int .i64 0,.int .i64 0,.int .i64 0] 33))=W0 at *;generalize hbS:w.heap.size=bS at *;have Zl:=Aa hbS;clear hbS;have HR:Hid (∀W:World,Below W0.heap.size W0 W→W.heap[bS]?=some (.cells #[.slice none 0 0,.int .i64 0,.int .i64 0,.int .i64 0] 33 (0,0))∧Below bS w W):=Aa (fun W hW=>⟨(hW.block _ (Ab Uf.out)).trans Uf.out,HB0.out.trans (hW.mono (by have:=HB0.out.size;have:=Zl.out;omega))⟩);go_wp2_with (go_at_call 30;refine(cN _).mono ?_;rintro e w1 ⟨rfl,hb1⟩;obtain⟨hr1,hb1'⟩:=HR.out _ hb1;obtain⟨⟨s0,s1,s2,s3⟩,f0,f1,f2,f3⟩:=CB hr1)
 (try simp only[Exit.inBlock,Exit.then])
 have hp:=F8 (a:=1) (b:=1999) (c:=1998) hr1 (Bi.nil w1);have Zd:=Aa hp.1;have Qi:Hid (Below bS w ((((w1.setCell ⟨bS,0,none⟩ (.slice none 0 0)).setCell ⟨bS,1,none⟩ (.int .i64 1)).setCell ⟨bS,2,none⟩ (.int .i64 1999)).setCell ⟨bS,3,none⟩ (.int .i64 1998))):=Aa (D7 hb1' (Ae _));clear hp hr1 hb1 hb1' s0 s1 s2 s3 f0 f1 f2 f3;generalize ((((w1.setCell ⟨bS,0,none⟩ (.slice none 0 0)).setCell ⟨bS,1,none⟩ (.int .i64 1)).setCell ⟨bS,2,none⟩ (.int .i64 1999)).setCell ⟨bS,3,none⟩ (.int .i64 1998))=W9 at *;obtain⟨⟨z0,z1,z2,z3⟩,_⟩:=CB Zd.out;refine Br (v:=.tuple #[Ot (.slice none 0 0) 1 1999 1998,.bool true]) ?_ rfl ⟨rfl,by first|exact Qi.out|(rw[Zl.out];exact Qi.out)⟩;rw[CX rfl];go_simp
end Go.Proofs.YtdmkhmeaphaapaaGreat
namespace Go.Proofs.YtdmkhmeaphaapaaGreat
open Go.RowKit Go.Sort
def rX (gd:Bool)(img:ByteArray)(rs:List ByteArray)(T:TI):Prop:=
 (gd=true→∃t,Cg (bl img) (rs.map bl) t∧CG t T)∧(gd=false→G8 (bl img) (rs.map bl))
theorem qp (x:List UInt8):bl ⟨x.toArray⟩=x:=by
 unfold bl;simp
theorem G8.more {img:List UInt8}{rs ss:List (List UInt8)}(h:G8 img rs):G8 img (rs++ss):=fun t ht=>by
 obtain⟨u,hu⟩:=ht.pre;exact h u hu
theorem jN {x y:De}(hx:May x)(hy:May y)(h:Ac x=Ac y):x=y:=by
 have h1:=NY (a:=[x]) (b:=[y]) (fun z hz=>by rw[CU.1 hz];exact hx) (fun z hz=>by rw[CU.1 hz];exact hy) (by rw[List.map_singleton,List.map_singleton,h]);exact(List.cons.inj h1).1
theorem rX.deed {gd:Bool}{img:ByteArray}{rs:List ByteArray}{T:TI}(h:rX gd img rs T)(hg:Cq T){x:De}(hx:May x) :
 rX (gd&&decide ((Eg T.1 T.2 x).2.2=0)) img (rs++[⟨(Ac x).toArray⟩]) (Eg T.1 T.2 x).1:=by
 have hm:(rs++[(⟨(Ac x).toArray⟩:ByteArray)]).map bl=rs.map bl++[Ac x]:=by
  rw[List.map_append,List.map_singleton,qp]
 unfold rX;rw[hm];cases gd with
 | false =>
  rw[Bool.false_and];exact⟨fun h0=>absurd h0 (by decide),fun _=>(h.2 rfl).more⟩
 | true =>
  obtain⟨t,h1,h2⟩:=h.1 rfl;obtain⟨k1,k2⟩:=Ri h2 h1.good hg x;rw[Bool.true_and];by_cases h0:(Eg T.1 T.2 x).2.2=0
  · refine⟨fun _=>⟨_,h1.snoc (by rw[←k1];exact h0),k2⟩,fun hf=>?_⟩;rw[AX h0]at hf;cases hf
  · refine⟨fun hf=>?_,fun _=>U8 (ss:=[]) h1 (fun y hy he=>?_)⟩
    · rw[A7 h0]at hf;cases hf
    · rw[jN hy hx he,←k1];exact h0
theorem rX.bad {gd:Bool}{img:ByteArray}{rs:List ByteArray}{T:TI}(h:rX gd img rs T){s:ByteArray}(hs:∀x,May x→Ac x≠bl s):rX false img (rs++[s]) T:=by
 have hm:(rs++[s]).map bl=rs.map bl++[bl s]:=by rw[List.map_append,List.map_singleton]
 unfold rX;rw[hm];refine⟨fun h0=>absurd h0 (by decide),fun _=>?_⟩;cases gd with
 | false=>exact(h.2 rfl).more
 | true =>
  obtain⟨t,h1,h2⟩:=h.1 rfl;exact U8 (ss:=[]) h1 (fun y hy he=>absurd he (hs y hy))
theorem UR:∀{C t:TI} (ds:List De),IZ C ds=some t→C.2≤t.2
 | C,t,[],h=>by
  obtain rfl:=Cm h;exact Int.le_refl _
 | C,t,x::ds,h=>by
  rw[I9]at h;split at h
  · have h3:=O9 C x;have h4:=UR ds h;omega
  · cases h
theorem Cg.GL {img:List UInt8}{rs:List (List UInt8)}{t:TI}(h:Cg img rs t):∀A:TI,Cq A→A.2≤9223372036854775807→BI A.1 A.2=img→A.2≤t.2:=fun A hA hx he=>by
 obtain⟨C,ds,c1,c2,c3,c4,c5,c6⟩:=h;obtain⟨h1,_,_⟩:=RJ c1 hA c2 hx (he.trans c3.symm);have h2:=UR ds c6;omega
theorem fZ {T:TI}{sz rm:Int}{x:De}(hx:May x)(hr:100≤rm) :
 Dw T sz rm x=(((Eg T.1 T.2 x).1,if(Eg T.1 T.2 x).2.2=0 then rm-Ay (Ac x) else rm),(Eg T.1 T.2 x).2.1,(Eg T.1 T.2 x).2.2):=by
 have hf:Ay (Ac x)≤rm:=by
  have h1:=Li x hx;unfold Ay;omega
 unfold Dw;rw[if_neg (by simpa using hx)];by_cases h0:(Eg T.1 T.2 x).2.2=0
 · rw[if_neg (by simpa using h0),if_pos hf,if_pos h0,h0]
 · obtain⟨h1,h2⟩:=zo T x h0;rw[if_pos h0,if_neg h0,h1,h2]
section
variable {B b vb n h:Nat}{k:Bool}{E A:Nat}{img fresh:ByteArray}{rs r1 r2:List ByteArray}{lm:Bool}{st:V.St}{rv:Value}{W W':World}
theorem UT {l:List ByteArray}{v:Value}(h:V.Cw B W v l)(ho:V.Off Nj W W'):V.Cw B W' v l:=by
 rcases h with h|⟨g,off,cap,cur,hv,hB,h1,h2,hg,h3,h4⟩
 · exact Or.inl h
 · exact Or.inr ⟨g,off,cap,cur,hv,hB,h1,h2,ho _ (by decide) _ _ _ hg,h3,h4⟩
theorem iC (hL:V.DR B b vb n h k E A img rs r1 r2 lm st rv W)(ho:V.Off Nj W W'):V.DR B b vb n h k E A img rs r1 r2 lm st rv W':=
 ⟨hL.live,hL.dev.off ho (by decide) (by decide) (by decide),V.Af.off hL.KW ho (by decide),UT hL.row ho,hL.hvb⟩
end
end Go.Proofs.YtdmkhmeaphaapaaGreat
namespace Go.Proofs.YtdmkhmeaphaapaaGreat
open Go.RowKit Go.Sort
structure CrI (S:qG)(w:World)(B b r sb:Nat)(ts:List TI)(sV:Nat)(T:TI)(vT:Value)(rm:Int)(k:Nat)(W:World):Prop where
 ok:AbU ts sV k
 rf:W.heap[r]?=some (.cells #[vT,.int .i64 T.2,.int .i64 59,.int .i64 rm] 33 (0,0))
 it:Bi W vT T.1
 gd:Cq T
 nx:T.2≤1+k
 wH:0≤rm∧rm≤400
 bl:Below w.heap.size w W
 sz:B≤W.heap.size
section
variable {S:qG}{w:World}{B b r sb:Nat}{ts:List TI}{sV:Nat}{T:TI}{vT:Value}{rm:Int}{k:Nat}{W W':World}
end
theorem mV {w:World}{g:Nat}{a0 a1 a2 a3:Value}{ex:List TypeId}(hg:w.heap[g]?=some (.cells #[a0,a1,a2,a3] 33 (0,0)))(ht:33∈ex)(x y z u:Value):Off ex w ((((w.setCell ⟨g,0,none⟩ x).setCell ⟨g,1,none⟩ y).setCell ⟨g,2,none⟩ z).setCell ⟨g,3,none⟩ u):=fun T hT k cs fr hk=>by
 rw[OO (fun e=>by
  subst e;rw[hk]at hg;injection hg with hg;injection hg with _ h3 _;exact hT (h3▸ht))]
 exact hk
theorem CrI.sV {S:qG}{w:World}{B b r sb:Nat}{ts:List TI}{sV:Nat}{T:TI}{vT:Value}{rm:Int}{k:Nat}{W:World}(h:CrI S w B b r sb ts sV T vT rm k W){Aap:Nat}(hs:Aap<ts.length):CrI S w B b r sb ts Aap T vT rm k W:=
 ⟨⟨hs,h.ok.2⟩,h.rf,h.it,h.gd,h.nx,h.wH,h.bl,h.sz⟩
theorem fV (W:World)(q:Nat)(x y z u:Value):((((W.setCell ⟨q,0,none⟩ x).setCell ⟨q,1,none⟩ y).setCell ⟨q,2,none⟩ z).setCell ⟨q,3,none⟩ u).heap.size=W.heap.size:=by simp[World.setCell]
end Go.Proofs.YtdmkhmeaphaapaaGreat
