/- Kit. -/
import Derived.Test.YtdmkhmeaphaapaaGreatCZ1
import Derived.Deep.AppendLies
import Derived.Deep.RegionLaw
import Derived.Deep.RegionHeld3
import Derived.Test.YtdmkhmeaphaapaaGreatCZ0
set_option maxRecDepth 100000
set_option linter.unusedVariables false
set_option linter.unusedSimpArgs false
namespace Go.Proofs.YtdmkhmeaphaapaaGreat
open Go.RowKit Go.Sort
def Ec (s:ByteArray)(sh:Int):Int:=if Hg s=true then(if sh<0∨1000000<sh then 1 else 0) else 3
theorem il (s:ByteArray)(hs:s.size≤9223372036854775807)(sh:Int)(w:World):Calls Tryz.prog 122 #[.string s,.int .i64 sh] w fun e w'=>e=.returned (.int .i64 (Ec s sh))∧w'=w:=by
 have cG:=jk s hs w;obtain⟨E,hE⟩:∃E,Ec s sh=E:=⟨_,rfl⟩;rw[hE];unfold Ec at hE;cases hg:Hg s with
 | false =>
  rw[hg]at cG hE;rw[if_neg (by simp)]at hE;subst hE;clear hg;go_enter Tryz.func122,Tryz.ntmps122;go_wp2_with fail;refine cG.mono ?_;rintro e w1 ⟨rfl,rfl⟩;clear cG;go_wp2;go_ret;exact⟨rfl,rfl⟩
 | true =>
  rw[hg]at cG hE;rw[if_pos rfl]at hE;clear hg;by_cases h1:sh<0
  · rw[if_pos (Or.inl h1)]at hE;subst hE;have h1d:decide (sh<0)=true:=A8 h1;go_enter Tryz.func122,Tryz.ntmps122;go_wp2_with fail;refine cG.mono ?_;rintro e w1 ⟨rfl,rfl⟩;clear cG;go_wp2;go_ret;exact⟨rfl,rfl⟩
  · have h1d:decide (sh<0)=false:=Bb h1;by_cases h2:1000000<sh
    · rw[if_pos (Or.inr h2)]at hE;subst hE;have h2d:decide (1000000<sh)=true:=A8 h2;go_enter Tryz.func122,Tryz.ntmps122;go_wp2_with fail;refine cG.mono ?_;rintro e w1 ⟨rfl,rfl⟩;clear cG;go_wp2;go_ret;exact⟨rfl,rfl⟩
    · rw[if_neg (by omega)]at hE;subst hE;have h2d:decide (1000000<sh)=false:=Bb h2;go_enter Tryz.func122,Tryz.ntmps122;go_wp2_with fail;refine cG.mono ?_;rintro e w1 ⟨rfl,rfl⟩;clear cG;go_wp2;go_ret;exact⟨rfl,rfl⟩
def Dq (l:List Az)(nx d:Int)(e:Br):List Az:=l++[⟨d,{ e with Al:=nx }⟩]
theorem M4 {B:Nat}{T:TypeId}{c:Nat}{w:World}{v:Value}{n:Nat}{xs:List Value}(ho:w.ownsRow B T c v n xs){b:Nat}(hb:b<B)(o:Nat)(x:Value):(w.setCell ⟨b,o,none⟩ x).ownsRow B T c v n xs:=
 World.ownsRow.kept (row:=some b) ho ⟨rfl,rfl,rfl,by simp[World.setCell],fun k hk hne=>Bw w ⟨b,o,none⟩ x k (fun e=>hne (by rw[e]))⟩ (Or.inr (fun e=>by have:=(ho.lt b e).1;omega))
theorem GG {B:Nat}{W0 W:World}{o:Obj}(h:Below B W0 W)(hB:B≤W0.heap.size):Below B W0 (W.alloc o):=h.alloc (Ao hB h.size) o
theorem dE {B:Nat}{W0 W:World}{x y:Value}(h:Below B W0 W):Below B W0 ((W.setCell ⟨B,0,none⟩ x).setCell ⟨B,1,none⟩ y):=(h.setCell (p:=⟨B,0,none⟩) (Ae _) _).setCell (p:=⟨B,1,none⟩) (Ae _) _
theorem Dc {B:Nat}{T:TypeId}{c:Nat}{w7:World}{v:Value}{n:Nat}{xs:List Value}(ho:w7.ownsRow B T c v n xs):∃a k cp,v=.slice a k cp:=by
 rcases ho.2 with⟨h,_⟩|⟨g,cap,cur,h,_⟩
 · exact⟨_,_,_,h⟩
 · exact⟨_,_,_,h⟩
def IU (l:List Az)(nx:Int)(w0:World)(e:Ending)(w':World):Prop:=∃v',e=.returned (Bq v' nx)∧Bi w' v' l∧(∀g,v'.ownBlock=some g→w0.heap.size≤g)∧Below w0.heap.size w0 w'
set_option maxHeartbeats 8000000 in
theorem fJ (v:Value)(l:List Az)(nx d:Int)(e:Br)(w:World)(hv:MP w v l)(hl:l.length≤1000)(hnx:nx+1≤9223372036854775807)(Xo:0≤nx) :
 Calls Tryz.prog 124 #[Bq v nx,.int .i64 d,Di e] w (IU (Dq l nx d e) (nx+1) w):=by
 unfold IU;obtain⟨nm,nd,dr,ck,sh⟩:=e;have HPU:Hid (Dq l nx d ⟨nm,nd,dr,ck,sh⟩=l++[(Az.mk d (Br.mk nm nd dr nx sh))]):=Aa rfl;obtain⟨a,cap,rfl⟩:=hv.len;obtain⟨m,hm⟩:∃m,l.length=m:=⟨_,rfl⟩;have HM:=Aa hm;rw[hm]at hv hl ⊢;have HV:=Aa hv;unfold Bq Di;clear hv hm;go_enter Tryz.func124,Tryz.ntmps124;go_upto_region 2 with fail;have s1:(w.alloc (.cells #[.slice a m cap,.int .i64 nx] 31)).heap.size=w.heap.size+1:=by simp
 have s2:((w.alloc (.cells #[.slice a m cap,.int .i64 nx] 31)).alloc (.cells #[.string nm,.int .i64 nd,.bool dr,.int .i64 nx,.int .i64 sh] 112)).heap.size=w.heap.size+1+1:=by simp
 have HT:Hid (DC (((w.alloc (.cells #[.slice a m cap,.int .i64 nx] 31)).alloc (.cells #[.string nm,.int .i64 nd,.bool dr,.int .i64 nx,.int .i64 sh] 112)).alloc (.cells #[.slice none 0 0,.int .i64 0] 31)) w.heap.size (.slice a m cap) nx):=Aa (by
  unfold DC;rw[Ct _ _ _ (by rw[s2];omega),Ct _ _ _ (by rw[s1];omega)];exact Ai _ _)
 have HE:Hid ((((w.alloc (.cells #[.slice a m cap,.int .i64 nx] 31)).alloc (.cells #[.string nm,.int .i64 nd,.bool dr,.int .i64 nx,.int .i64 sh] 112)).alloc (.cells #[.slice none 0 0,.int .i64 0] 31)).heap[w.heap.size+1]?=some (.cells #[.string nm,.int .i64 nd,.bool dr,.int .i64 nx,.int .i64 sh] 112 (0,0))):=Aa (by
  rw[Ct _ _ _ (by rw[s2];omega),←s1];exact Ai _ _)
 have iw:Hid ((((w.alloc (.cells #[.slice a m cap,.int .i64 nx] 31)).alloc (.cells #[.string nm,.int .i64 nd,.bool dr,.int .i64 nx,.int .i64 sh] 112)).alloc (.cells #[.slice none 0 0,.int .i64 0] 31)).heap[w.heap.size+1+1]?=some (.cells #[.slice none 0 0,.int .i64 0] 31 (0,0))):=Aa (by
  rw[←s2];exact Ai _ _)
 have HB0:Hid (Below w.heap.size w (((w.alloc (.cells #[.slice a m cap,.int .i64 nx] 31)).alloc (.cells #[.string nm,.int .i64 nd,.bool dr,.int .i64 nx,.int .i64 sh] 112)).alloc (.cells #[.slice none 0 0,.int .i64 0] 31))):=Aa ((((Ad _ w).alloc (Ae _) _).alloc (by rw[s1];omega) _).alloc (by rw[s2];omega) _);generalize ((w.alloc (.cells #[.slice a m cap,.int .i64 nx] 31)).alloc (.cells #[.string nm,.int .i64 nd,.bool dr,.int .i64 nx,.int .i64 sh] 112)).alloc (.cells #[.slice none 0 0,.int .i64 0] 31)=W0 at *;clear s1 s2;have mq:=Aa (AL.kept HV.out HB0.out);clear HV;have HV:=mq;clear mq;generalize Tw:w.heap.size=bT at *;have Wn:=Aa Tw;clear Tw;have c0:W0.drew.cell? ⟨bT,0,none⟩=some (.slice a m cap):=HT.out.l.1;have c1:W0.drew.cell? ⟨bT,1,none⟩=some (.int .i64 nx):=HT.out.l.2;obtain⟨⟨e0,e1,e2,e3,e4⟩,_⟩:=Aj (W:=W0.drew) HE.out;have HR:Hid (∀W:World,Below W0.heap.size W0 W→W.cell? ⟨bT+1+1,0,none⟩=some (.slice none 0 0)∧W.cell? ⟨bT+1+1,1,none⟩=some (.int .i64 0)∧W.frozen? ⟨bT+1+1,0,none⟩=false∧W.frozen? ⟨bT+1+1,1,none⟩=false):=Aa (fun W hW=>by
  have h:=(hW.block _ (Ab iw.out)).trans iw.out;exact⟨Ap h 0,Ap h 1,BA h 0,BA h 1⟩)
 have hwr:IntKind.i64.wrap (nx+1)=nx+1:=by rw[El];omega
 have hlen1:0+l.length≤100000:=by have:=HM.out;omega
 have QO:0+l.length+[((Az.mk d (Br.mk nm nd dr nx sh)):Az)].length≤100000:=by have:=HM.out;simp;omega
 have iC:Hid (Below W0.heap.size W0 ((W0.alloc (.cells #[] 195)).alloc (.cells #[.int .i64 d,.string nm,.int .i64 nd,.bool dr,.int .i64 nx,.int .i64 sh] 195)).drew):=Aa (((((Ad _ W0).alloc (Ae _) _).alloc (by simp) _)).drew);have zf:Hid (World.ownsRow ((W0.alloc (.cells #[] 195)).alloc (.cells #[.int .i64 d,.string nm,.int .i64 nd,.bool dr,.int .i64 nx,.int .i64 sh] 195)).drew W0.heap.size 195 6 (.slice (some ⟨W0.heap.size,0,none⟩) 0 0) 0 []):=Aa (Io (show((W0.alloc _).alloc _).heap[W0.heap.size]?=_ by rw[Ct _ _ _ (by simp)];exact Ai _ _) (by omega));have zu:Hid ((((W0.alloc (.cells #[] 195)).alloc (.cells #[.int .i64 d,.string nm,.int .i64 nd,.bool dr,.int .i64 nx,.int .i64 sh] 195)).drew).heap[W0.heap.size+1]?=some (.cells (KM (Az.mk d (Br.mk nm nd dr nx sh))).toArray 195 (0,0))):=Aa (show((W0.alloc _).alloc _).heap[W0.heap.size+1]?=_ from heap_alloc2_new _ _ _);have HVa:=Aa (HV.out.kept iC.out);have zl:Hid (W0.heap.size≤(((W0.alloc (.cells #[] 195)).alloc (.cells #[.int .i64 d,.string nm,.int .i64 nd,.bool dr,.int .i64 nx,.int .i64 sh] 195)).drew).heap.size):=Aa iC.out.size;have iB:Hid (Below W0.heap.size W0 (W0.alloc (.cells #[] 195)).drew):=Aa ((((Ad _ W0).alloc (Ae _) _)).drew);have ze:Hid (World.ownsRow (W0.alloc (.cells #[] 195)).drew W0.heap.size 195 6 (.slice (some ⟨W0.heap.size,0,none⟩) 0 0) 0 []):=Aa (Io (show(W0.alloc _).heap[W0.heap.size]?=_ from Ai _ _) (by omega));have HVb:=Aa (HV.out.kept iB.out);have zk:Hid (W0.heap.size≤((W0.alloc (.cells #[] 195)).drew).heap.size):=Aa iB.out.size;have iA:Hid (Below W0.heap.size W0 ((W0.alloc (.cells #[.int .i64 d,.string nm,.int .i64 nd,.bool dr,.int .i64 nx,.int .i64 sh] 195)).alloc (.cells #[] 195)).drew):=Aa (((((Ad _ W0).alloc (Ae _) _).alloc (by simp) _)).drew);have zb:Hid (World.ownsRow ((W0.alloc (.cells #[.int .i64 d,.string nm,.int .i64 nd,.bool dr,.int .i64 nx,.int .i64 sh] 195)).alloc (.cells #[] 195)).drew W0.heap.size 195 6 (.slice (some ⟨W0.heap.size+1,0,none⟩) 0 0) 0 []):=Aa (Io (show((W0.alloc _).alloc _).heap[W0.heap.size+1]?=_ from heap_alloc2_new _ _ _) (by omega));have zt:Hid ((((W0.alloc (.cells #[.int .i64 d,.string nm,.int .i64 nd,.bool dr,.int .i64 nx,.int .i64 sh] 195)).alloc (.cells #[] 195)).drew).heap[W0.heap.size]?=some (.cells (KM (Az.mk d (Br.mk nm nd dr nx sh))).toArray 195 (0,0))):=Aa (show((W0.alloc _).alloc _).heap[W0.heap.size]?=_ by rw[Ct _ _ _ (by simp)];exact Ai _ _);have HVc:=Aa (HV.out.kept iA.out);have zi:Hid (W0.heap.size≤(((W0.alloc (.cells #[.int .i64 d,.string nm,.int .i64 nd,.bool dr,.int .i64 nx,.int .i64 sh] 195)).alloc (.cells #[] 195)).drew).heap.size):=Aa iA.out.size;have HBd:Hid (Below W0.heap.size W0 (W0.alloc (.cells #[.int .i64 d,.string nm,.int .i64 nd,.bool dr,.int .i64 nx,.int .i64 sh] 195)).drew):=Aa ((((Ad _ W0).alloc (Ae _) _)).drew);have PN:Hid (bT+1+1≤W0.heap.size):=Aa (by have:=Ab iw.out;omega);have Nj:Hid (∀W:World,Below (bT+1+1) W0 W→Below (bT+1+1) W0 W∧W.cell? ⟨bT,0,none⟩=some (.slice a m cap)∧W.cell? ⟨bT,1,none⟩=some (.int .i64 nx)∧W.cell? ⟨bT+1,0,none⟩=some (.string nm)∧W.cell? ⟨bT+1,1,none⟩=some (.int .i64 nd)∧W.cell? ⟨bT+1,2,none⟩=some (.bool dr)∧W.cell? ⟨bT+1,3,none⟩=some (.int .i64 nx)∧W.cell? ⟨bT+1,4,none⟩=some (.int .i64 sh)):=Aa (fun W hW =>
  ⟨hW,by rw[hW.cell (p:=⟨bT,0,none⟩) (by show bT<_;omega)];exact c0,by rw[hW.cell (p:=⟨bT,1,none⟩) (by show bT<_;omega)];exact c1,by rw[hW.cell (p:=⟨bT+1,0,none⟩) (by show bT+1<_;omega)];exact e0,by rw[hW.cell (p:=⟨bT+1,1,none⟩) (by show bT+1<_;omega)];exact e1,by rw[hW.cell (p:=⟨bT+1,2,none⟩) (by show bT+1<_;omega)];exact e2,by rw[hW.cell (p:=⟨bT+1,3,none⟩) (by show bT+1<_;omega)];exact e3,by rw[hW.cell (p:=⟨bT+1,4,none⟩) (by show bT+1<_;omega)];exact e4⟩)
 clear c0 c1 e0 e1 e2 e3 e4;go_region_held3 (fun W=>Below (bT+1+1) W0 W∧W.cell? ⟨bT,0,none⟩=some (.slice a m cap)∧W.cell? ⟨bT,1,none⟩=some (.int .i64 nx)∧W.cell? ⟨bT+1,0,none⟩=some (.string nm)∧W.cell? ⟨bT+1,1,none⟩=some (.int .i64 nd)∧W.cell? ⟨bT+1,2,none⟩=some (.bool dr)∧W.cell? ⟨bT+1,3,none⟩=some (.int .i64 nx)∧W.cell? ⟨bT+1,4,none⟩=some (.int .i64 sh)) (first|assumption|(refine Nj.out _ ?_;first|assumption|exact(iC.out.mono PN.out)|exact(iB.out.mono PN.out)|exact(iA.out.mono PN.out)|exact(HBd.out.mono PN.out)|exact(Ad _ _).drew|exact Cy ‹_›|exact GG ‹_› PN.out|exact dE ‹_›)) (first
  | (refine Bf Lh rfl _ _ rfl W0.heap.size (.slice (some ⟨W0.heap.size,0,none⟩) 0 0) 0 [] rfl zf.out (.slice a m cap) l (FI l) (fun x _=>JE x) rfl HVa.out hlen1 zl.out ?_;intro v7 w7 QN Tv qB;have Er:Below W0.heap.size W0 w7:=iC.out.grown Tv zl.out (fun j hj=>(zf.out.lt j hj).1);have Uz:=Er.mono PN.out;obtain⟨a7,k7,c7,hv7⟩:=Dc QN;subst hv7;have RA:w7.heap[W0.heap.size+1]?=some (.cells (KM (Az.mk d (Br.mk nm nd dr nx sh))).toArray 195 (0,0)):=by rw[Tv.block _ (Ab zu.out) (fun e=>by have e2:W0.heap.size+1=W0.heap.size:=BS e;omega)];exact zu.out)
  | (refine Bf Lh rfl _ _ rfl W0.heap.size (.slice (some ⟨W0.heap.size,0,none⟩) 0 0) 0 [] rfl ze.out (.slice a m cap) l (FI l) (fun x _=>JE x) rfl HVb.out hlen1 zk.out ?_;intro v7 w7 QN Tv qB;have Er:Below W0.heap.size W0 w7:=iB.out.grown Tv zk.out (fun j hj=>(ze.out.lt j hj).1);have Uz:=Er.mono PN.out;obtain⟨a7,k7,c7,hv7⟩:=Dc QN;subst hv7;have Tx:=Er.alloc Er.size (.cells #[.int .i64 d,.string nm,.int .i64 nd,.bool dr,.int .i64 nx,.int .i64 sh] 195);have Y3:=QN.alloc (.cells #[.int .i64 d,.string nm,.int .i64 nd,.bool dr,.int .i64 nx,.int .i64 sh] 195);have RA:(w7.alloc (.cells #[.int .i64 d,.string nm,.int .i64 nd,.bool dr,.int .i64 nx,.int .i64 sh] 195)).heap[w7.heap.size]?=some (.cells (KM (Az.mk d (Br.mk nm nd dr nx sh))).toArray 195 (0,0)):=Ai _ _)
  | (refine Bf Lh rfl _ _ rfl W0.heap.size (.slice (some ⟨W0.heap.size+1,0,none⟩) 0 0) 0 [] rfl zb.out (.slice a m cap) l (FI l) (fun x _=>JE x) rfl HVc.out hlen1 zi.out ?_;intro v7 w7 QN Tv qB;have Er:Below W0.heap.size W0 w7:=iA.out.grown Tv zi.out (fun j hj=>(zb.out.lt j hj).1);have Uz:=Er.mono PN.out;obtain⟨a7,k7,c7,hv7⟩:=Dc QN;subst hv7;have RA:w7.heap[W0.heap.size]?=some (.cells (KM (Az.mk d (Br.mk nm nd dr nx sh))).toArray 195 (0,0)):=by rw[Tv.block _ (Ab zt.out) (fun e=>by have e2:W0.heap.size=W0.heap.size+1:=BS e;omega)];exact zt.out)
  | (refine Bf Lh rfl _ _ rfl W0.heap.size _ (0+l.length) ([]++l.flatMap KM) rfl QN _ [((Az.mk d (Br.mk nm nd dr nx sh)):Az)] (FI _) (fun x _=>JE x) rfl (AL.block (FI _) RA) QO Er.size ?_;intro v8 w8 Fz F6 JS;have EK:Below W0.heap.size W0 w8:=Er.grown F6 Er.size (fun j hj=>(QN.lt j hj).1);have hq8:=EK.mono PN.out;obtain⟨z0,z1,y0,y1⟩:=HR.out w8 EK;obtain⟨a8,k8,c8,N9⟩:=Dc Fz;subst N9)
  | (refine Bf Lh rfl _ _ rfl W0.heap.size _ (0+l.length) ([]++l.flatMap KM) rfl Y3 _ [((Az.mk d (Br.mk nm nd dr nx sh)):Az)] (FI _) (fun x _=>JE x) rfl (AL.block (FI _) RA) QO Tx.size ?_;intro v8 w8 Fz F6 JS;have EK:Below W0.heap.size W0 w8:=Tx.grown F6 Tx.size (fun j hj=>(Y3.lt j hj).1);have hq8:=EK.mono PN.out;obtain⟨z0,z1,y0,y1⟩:=HR.out w8 EK;obtain⟨a8,k8,c8,N9⟩:=Dc Fz;subst N9))
 all_goals
  have Aaq:bT+1+1<W0.heap.size:=Ab iw.out;have H7:World.ownsRow w8 W0.heap.size 195 6 (.slice a8 k8 c8) (l++[(Az.mk d (Br.mk nm nd dr nx sh))]).length ((l++[(Az.mk d (Br.mk nm nd dr nx sh))]).flatMap KM):=by
   have:=Fz;rw[Gh,G5]at this;rw[A7,FB];exact this
  have HX:Hid (Bi ((w8.setCell ⟨bT+1+1,0,none⟩ (.slice a8 k8 c8)).setCell ⟨bT+1+1,1,none⟩ (.int .i64 (nx+1))) (.slice a8 k8 c8) (l++[(Az.mk d (Br.mk nm nd dr nx sh))])):=Aa (Bi.own (M4 (M4 H7 Aaq 0 _) Aaq 1 _) rfl);have h8:w8.heap[bT+1+1]?=some (.cells #[.slice none 0 0,.int .i64 0] 31 (0,0)):=(EK.block _ Aaq).trans iw.out;have HZ:Hid (((w8.setCell ⟨bT+1+1,0,none⟩ (.slice a8 k8 c8)).setCell ⟨bT+1+1,1,none⟩ (.int .i64 (nx+1))).heap[bT+1+1]?=some (.cells #[.slice a8 k8 c8,.int .i64 (nx+1)] 31 (0,0))):=Aa (by
   rw[Bn _ (bT+1+1) 1 _ _ _ (Bn _ (bT+1+1) 0 _ _ _ h8)];rfl)
  have GN:Hid (Below bT w ((w8.setCell ⟨bT+1+1,0,none⟩ (.slice a8 k8 c8)).setCell ⟨bT+1+1,1,none⟩ (.int .i64 (nx+1)))):=Aa (((HB0.out.trans (EK.mono (by omega))).setCell (p:=⟨bT+1+1,0,none⟩) (by show bT≤bT+1+1;omega) _).setCell (p:=⟨bT+1+1,1,none⟩) (by show bT≤bT+1+1;omega) _);have HOW:Hid (∀j,(Value.slice a8 k8 c8).ownBlock=some j→W0.heap.size≤j):=Aa (fun j hj=>(Fz.lt j hj).1);clear Fz H7 EK h8 z0 z1 y0 y1;go_wp2;refine Bv (results_cell_row Tryz.results124 _ _ _ _ _ _ _ rfl HZ.out Tryz.underlying31 rfl (by kernel_rfl)) rfl ⟨_,rfl,?_,?_,?_⟩
  · rw[HPU.out];exact HX.out
  · intro j hj;have:=HOW.out j hj;have:=Wn.out;omega
  · rw[Wn.out];exact GN.out
theorem dh {l:List Az}{i:Nat}{x:Az}(h:l[i]?=some x)(d:Int)(s:ByteArray):Bu (l.take (i+1)) d s=Bu (l.take i) d s++(if x.BD=d∧x.e.name=s then [] else [x]):=by
 unfold Bu;rw[GQ h,List.filter_append];congr 1;by_cases h1:x.BD=d<;>by_cases h2:x.e.name=s<;>simp[h1,h2]
theorem Zr (l:List Az)(d:Int)(s:ByteArray):(Bu l d s).length≤l.length:=List.length_filter_le _ _
theorem BN {W:World}{b:Nat}{v0 v1:Value}{T:TypeId}(h:W.heap[b]?=some (.cells #[v0,v1] T (0,0))) :
 (W.cell? ⟨b,0,none⟩=some v0∧W.cell? ⟨b,1,none⟩=some v1)∧(W.frozen? ⟨b,0,none⟩=false∧W.frozen? ⟨b,1,none⟩=false):=
 ⟨⟨by rw[AB _ _ _ _ _ _ h];rfl,by rw[AB _ _ _ _ _ _ h];rfl⟩,⟨Fp _ _ _ _ _ h,Fp _ _ _ _ _ h⟩⟩
theorem NB:(Tryz.prog.info? 31).map (·.size)=some 2:=by kernel_rfl
set_option maxHeartbeats 8000000 in
theorem Zt (v:Value)(l:List Az)(nx d:Int)(s:ByteArray)(w:World)(hv:MP w v l)(hl:l.length≤1000) :
 Calls Tryz.prog 125 #[Bq v nx,.int .i64 d,.string s] w (IU (Bu l d s) nx w):=by
 unfold IU;obtain⟨a,cap,rfl⟩:=hv.len;obtain⟨m,hm⟩:∃m,l.length=m:=⟨_,rfl⟩;have HM:=Aa hm;rw[hm]at hv hl ⊢;have HV:=Aa hv;unfold Bq;clear hv hm;have s1:(w.alloc (.cells #[.slice a m cap,.int .i64 nx] 31)).heap.size=w.heap.size+1:=by simp
 have s2:((w.alloc (.cells #[.slice a m cap,.int .i64 nx] 31)).alloc (.cells #[.slice none 0 0,.int .i64 0] 31)).heap.size=w.heap.size+1+1:=by simp
 have HT:Hid (DC (((w.alloc (.cells #[.slice a m cap,.int .i64 nx] 31)).alloc (.cells #[.slice none 0 0,.int .i64 0] 31)).alloc (.cells #[.slice none 0 0,.int .i64 nx] 31)) w.heap.size (.slice a m cap) nx):=Aa (by
  unfold DC;rw[Ct _ _ _ (by rw[s2];omega),Ct _ _ _ (by rw[s1];omega)];exact Ai _ _)
 have HR:Hid ((((w.alloc (.cells #[.slice a m cap,.int .i64 nx] 31)).alloc (.cells #[.slice none 0 0,.int .i64 0] 31)).alloc (.cells #[.slice none 0 0,.int .i64 nx] 31)).heap[w.heap.size+1]?=some (.cells #[.slice none 0 0,.int .i64 0] 31 (0,0))):=Aa (by
  rw[Ct _ _ _ (by rw[s2];omega),←s1];exact Ai _ _)
 have HO:Hid ((((w.alloc (.cells #[.slice a m cap,.int .i64 nx] 31)).alloc (.cells #[.slice none 0 0,.int .i64 0] 31)).alloc (.cells #[.slice none 0 0,.int .i64 nx] 31)).heap[w.heap.size+1+1]?=some (.cells #[.slice none 0 0,.int .i64 nx] 31 (0,0))):=Aa (by
  rw[←s2];exact Ai _ _)
 have HB:Hid (Below w.heap.size w (((w.alloc (.cells #[.slice a m cap,.int .i64 nx] 31)).alloc (.cells #[.slice none 0 0,.int .i64 0] 31)).alloc (.cells #[.slice none 0 0,.int .i64 nx] 31))):=Aa ((((Ad _ w).alloc (Ae _) _).alloc (by rw[s1];omega) _).alloc (by rw[s2];omega) _);go_enter Tryz.func125,Tryz.ntmps125;go_upto_region 2 with fail;generalize ((w.alloc (.cells #[.slice a m cap,.int .i64 nx] 31)).alloc (.cells #[.slice none 0 0,.int .i64 0] 31)).alloc (.cells #[.slice none 0 0,.int .i64 nx] 31)=W0 at *;clear s1 s2;generalize Tw:w.heap.size=bT at *;have Wn:=Aa Tw;clear Tw;have hbs:bT+1+1<W0.heap.size:=Ab HO.out;obtain⟨BO,hBO⟩:∃BO,W0.heap.size=BO:=⟨_,rfl⟩;rw[hBO]at hbs;go_wp2;go_loopw [8] (fun iv wr=>∃(i:Nat) (vo:Value),i≤m∧iv=.int .i64 i∧DC wr bT (.slice a m cap) nx∧wr.heap[bT+1]?=some (.cells #[.slice none 0 0,.int .i64 0] 31 (0,0))∧wr.heap[bT+1+1]?=some (.cells #[vo,.int .i64 nx] 31 (0,0))∧wr.ownsRow BO 195 6 vo (Bu (l.take i) d s).length ((Bu (l.take i) d s).flatMap KM)∧Below bT w wr∧BO≤wr.heap.size) (fun iv _=>m-(intOf iv).toNat)
 case atStart=>exact⟨0,_,by omega,rfl,HT.out,HR.out,HO.out,FV _ _ _ _,HB.out,by omega⟩
 case round =>
  obtain⟨i,vo,hi,rfl,ht,hr,ho,hrow,hb,hsz⟩:=hrel;clear HT HR HO HB;have HT:=Aa ht;have HR:=Aa hr;have HO:=Aa ho;have HW:=Aa hrow;have HB:=Aa hb;have hlt1:=Ab hr;clear ht hr ho hrow hb;obtain⟨c0,c1⟩:=HT.out.l;by_cases him:i<m
  · have hiz:(i:Int)<(m:Int):=by omega
    obtain⟨x,hx⟩:∃x,l[i]?=some x:=⟨_,Co (by rw[HM.out];omega)⟩;obtain⟨g,off,rfl,hg,hrg⟩:=HV.out.at hx;have HD:=Aa (dh hx d s);have hdl:=Zr (l.take i) d s;rw[Cc]at hdl;have HDL:Hid ((Bu (l.take i) d s).length≤1000):=Aa (by omega);have HGX:Hid (∀W:World,Below bT w W→(W.cell? ⟨g,off+i*6,none⟩=some (.int .i64 x.BD)∧W.cell? ⟨g,off+i*6+1,none⟩=some (.string x.e.name)∧W.cell? ⟨g,off+i*6+2,none⟩=some (.int .i64 x.e.node)∧W.cell? ⟨g,off+i*6+3,none⟩=some (.bool x.e.dir)∧W.cell? ⟨g,off+i*6+4,none⟩=some (.int .i64 x.e.Al)∧W.cell? ⟨g,off+i*6+5,none⟩=some (.int .i64 x.e.short))):=Aa (fun W hW=>Qf (DJ hrg hg (by rw[Wn.out];exact hW)));obtain⟨d0,d1,d2,d3,d4,d5⟩:=HGX.out _ HB.out;clear hx hrg hdl;by_cases hin:x.BD=d∧x.e.name=s
    · have HD2:Hid (Bu (l.take (i+1)) d s=Bu (l.take i) d s):=Aa (by rw[HD.out,if_pos hin,Cz]);obtain⟨h1,h2⟩:=hin;rw[h1]at d0;rw[h2]at d1;clear HD;go_wp2;go_roundw
      case rel=>exact⟨i+1,vo,by omega,by first|rfl|go_num,HT.out,HR.out,HO.out,by rw[HD2.out];exact HW.out,HB.out,by omega⟩
      case measure=>simp[intOf];omega
    · have HD2:Hid (Bu (l.take (i+1)) d s=Bu (l.take i) d s++[x]):=Aa (by rw[HD.out,if_neg hin]);clear HD;have hcond:x.BD=d∨¬x.BD=d:=Decidable.em _;rcases hcond with hc|hc
      · have hc2:=Rs (fun h2=>hin ⟨hc,h2⟩);have hc3:(x.e.name.toList !=s.toList)=true:=by rw[bne,hc2];rfl
        clear hin;subst hc;go_upto_region 6 with fail;have hbel:Below BO wr (wr.alloc (.cells #[.int .i64 x.BD,.string x.e.name,.int .i64 x.e.node,.bool x.e.dir,.int .i64 x.e.Al,.int .i64 x.e.short] 195)).drew:=((Ad _ wr).alloc hsz _).drew;have Aa4:=Aa hbel;have NJ:Hid (World.ownsRow (wr.alloc (.cells #[.int .i64 x.BD,.string x.e.name,.int .i64 x.e.node,.bool x.e.dir,.int .i64 x.e.Al,.int .i64 x.e.short] 195)).drew BO 195 6 vo (Bu (l.take i) x.BD s).length ((Bu (l.take i) x.BD s).flatMap KM)):=Aa (HW.out.alloc _);have HI:Hid ((wr.alloc (.cells #[.int .i64 x.BD,.string x.e.name,.int .i64 x.e.node,.bool x.e.dir,.int .i64 x.e.Al,.int .i64 x.e.short] 195)).drew.heap[wr.heap.size]?=some (.cells (KM x).toArray 195 (0,0))):=Aa (show(wr.alloc _).heap[wr.heap.size]?=_ from Ai _ _);have Qr:Hid (BO≤(wr.alloc (.cells #[.int .i64 x.BD,.string x.e.name,.int .i64 x.e.node,.bool x.e.dir,.int .i64 x.e.Al,.int .i64 x.e.short] 195)).drew.heap.size):=Aa (by have:=hbel.size;omega);have q0:wr.drew.cell? ⟨bT+1+1,0,none⟩=some vo:=(BN HO.out).1.1;have q1:(wr.alloc (.cells #[.int .i64 x.BD,.string x.e.name,.int .i64 x.e.node,.bool x.e.dir,.int .i64 x.e.Al,.int .i64 x.e.short] 195)).drew.cell? ⟨bT+1+1,0,none⟩=some vo:=by rw[hbel.cell (p:=⟨bT+1+1,0,none⟩) (by show bT+1+1<BO;omega)];exact(BN HO.out).1.1
        have Nj:Hid (∀W:World,Below (bT+1+1) wr W→Below (bT+1+1) wr W∧W.cell? ⟨bT,0,none⟩=some (.slice (some ⟨g,off,none⟩) m cap)∧W.cell? ⟨g,off+i*6,none⟩=some (.int .i64 x.BD)∧W.cell? ⟨g,off+i*6+1,none⟩=some (.string x.e.name)∧W.cell? ⟨g,off+i*6+2,none⟩=some (.int .i64 x.e.node)∧W.cell? ⟨g,off+i*6+3,none⟩=some (.bool x.e.dir)∧W.cell? ⟨g,off+i*6+4,none⟩=some (.int .i64 x.e.Al)∧W.cell? ⟨g,off+i*6+5,none⟩=some (.int .i64 x.e.short)):=Aa (fun W hW =>
         ⟨hW,by rw[hW.cell (p:=⟨bT,0,none⟩) (by show bT<_;omega)];exact HT.out.l.1,HGX.out W (HB.out.trans (hW.mono (by omega)))⟩)
        have hlen1:(Bu (l.take i) x.BD s).length+[x].length≤100000:=by have:=HDL.out;simp;omega
        have HZ:Hid (∀W:World,Below BO wr W→(W.cell? ⟨bT+1+1,0,none⟩=some vo∧W.frozen? ⟨bT+1+1,0,none⟩=false)):=Aa (fun W hW=>⟨by rw[hW.cell (p:=⟨bT+1+1,0,none⟩) (by show bT+1+1<BO;omega)];exact(BN HO.out).1.1,by rw[hW.frozen (p:=⟨bT+1+1,0,none⟩) (by show bT+1+1<BO;omega)];exact(BN HO.out).2.1⟩);clear hbel c0 c1 d0 d1 d2 d3 d4 d5;have hs0:=Nj.out wr.drew ((Ad _ _).drew);obtain⟨t0,t1,t2,t3,t4,t5,t6,t7⟩:=hs0;go_region_law ((refine Bf Lh rfl _ _ rfl BO vo _ _ rfl NJ.out _ [x] (FI _) (fun y _=>JE y) rfl (AL.block (FI _) HI.out) hlen1 Qr.out ?_;intro v8 w8 Fz F6 JS;have EK:Below BO wr w8:=Aa4.out.grown F6 Qr.out (fun j hj=>(NJ.out.lt j hj).1);have hq8:=EK.mono (show bT+1+1≤BO by omega);obtain⟨z0,y0⟩:=HZ.out w8 EK;obtain⟨a8,k8,c8,N9⟩:=Dc Fz;subst N9))
        all_goals
         have H7:World.ownsRow w8 BO 195 6 (.slice a8 k8 c8) (Bu (l.take (i+1)) x.BD s).length ((Bu (l.take (i+1)) x.BD s).flatMap KM):=by
          rw[HD2.out,A7,FB];exact Fz
         have dU:=Aa (M4 H7 (show bT+1+1<BO by omega) 0 (.slice a8 k8 c8));have X6:Hid (DC (w8.setCell ⟨bT+1+1,0,none⟩ (.slice a8 k8 c8)) bT (.slice (some ⟨g,off,none⟩) m cap) nx):=Aa (by
          unfold DC;rw[Bw _ _ _ _ (by show bT≠bT+1+1;omega),EK.block _ (by omega)];exact HT.out)
         have KZ:Hid ((w8.setCell ⟨bT+1+1,0,none⟩ (.slice a8 k8 c8)).heap[bT+1]?=some (.cells #[.slice none 0 0,.int .i64 0] 31 (0,0))):=Aa (by
          rw[Bw _ _ _ _ (by show bT+1≠bT+1+1;omega),EK.block _ (by omega)];exact HR.out)
         have HO9:Hid ((w8.setCell ⟨bT+1+1,0,none⟩ (.slice a8 k8 c8)).heap[bT+1+1]?=some (.cells #[.slice a8 k8 c8,.int .i64 nx] 31 (0,0))):=Aa (by
          rw[Bn _ (bT+1+1) 0 _ _ _ ((EK.block _ (by omega)).trans HO.out)];rfl)
         have aa:Hid (Below bT w (w8.setCell ⟨bT+1+1,0,none⟩ (.slice a8 k8 c8))):=Aa ((HB.out.trans (EK.mono (by omega))).setCell (p:=⟨bT+1+1,0,none⟩) (by show bT≤bT+1+1;omega) _);have LW:BO≤(w8.setCell ⟨bT+1+1,0,none⟩ (.slice a8 k8 c8)).heap.size:=by have:=EK.size;simp[World.setCell];omega
         have HS9:=Aa LW;clear Fz H7 EK hq8 LW F6 JS;go_wp2;go_roundw
         case rel=>exact⟨i+1,_,by omega,by first|rfl|go_num,X6.out,KZ.out,HO9.out,dU.out,aa.out,HS9.out⟩
         case measure=>simp[intOf];omega
      have hc2:(x.BD==d)=false:=by rw[Ba];exact hc
      have hc3:(x.BD !=d)=true:=by rw[bne,hc2];rfl
      clear hin;go_upto_region 6 with fail;have hbel:Below BO wr (wr.alloc (.cells #[.int .i64 x.BD,.string x.e.name,.int .i64 x.e.node,.bool x.e.dir,.int .i64 x.e.Al,.int .i64 x.e.short] 195)).drew:=((Ad _ wr).alloc hsz _).drew;have Aa4:=Aa hbel;have NJ:Hid (World.ownsRow (wr.alloc (.cells #[.int .i64 x.BD,.string x.e.name,.int .i64 x.e.node,.bool x.e.dir,.int .i64 x.e.Al,.int .i64 x.e.short] 195)).drew BO 195 6 vo (Bu (l.take i) d s).length ((Bu (l.take i) d s).flatMap KM)):=Aa (HW.out.alloc _);have HI:Hid ((wr.alloc (.cells #[.int .i64 x.BD,.string x.e.name,.int .i64 x.e.node,.bool x.e.dir,.int .i64 x.e.Al,.int .i64 x.e.short] 195)).drew.heap[wr.heap.size]?=some (.cells (KM x).toArray 195 (0,0))):=Aa (show(wr.alloc _).heap[wr.heap.size]?=_ from Ai _ _);have Qr:Hid (BO≤(wr.alloc (.cells #[.int .i64 x.BD,.string x.e.name,.int .i64 x.e.node,.bool x.e.dir,.int .i64 x.e.Al,.int .i64 x.e.short] 195)).drew.heap.size):=Aa (by have:=hbel.size;omega);have q0:wr.drew.cell? ⟨bT+1+1,0,none⟩=some vo:=(BN HO.out).1.1;have q1:(wr.alloc (.cells #[.int .i64 x.BD,.string x.e.name,.int .i64 x.e.node,.bool x.e.dir,.int .i64 x.e.Al,.int .i64 x.e.short] 195)).drew.cell? ⟨bT+1+1,0,none⟩=some vo:=by rw[hbel.cell (p:=⟨bT+1+1,0,none⟩) (by show bT+1+1<BO;omega)];exact(BN HO.out).1.1
      have Nj:Hid (∀W:World,Below (bT+1+1) wr W→Below (bT+1+1) wr W∧W.cell? ⟨bT,0,none⟩=some (.slice (some ⟨g,off,none⟩) m cap)∧W.cell? ⟨g,off+i*6,none⟩=some (.int .i64 x.BD)∧W.cell? ⟨g,off+i*6+1,none⟩=some (.string x.e.name)∧W.cell? ⟨g,off+i*6+2,none⟩=some (.int .i64 x.e.node)∧W.cell? ⟨g,off+i*6+3,none⟩=some (.bool x.e.dir)∧W.cell? ⟨g,off+i*6+4,none⟩=some (.int .i64 x.e.Al)∧W.cell? ⟨g,off+i*6+5,none⟩=some (.int .i64 x.e.short)):=Aa (fun W hW =>
       ⟨hW,by rw[hW.cell (p:=⟨bT,0,none⟩) (by show bT<_;omega)];exact HT.out.l.1,HGX.out W (HB.out.trans (hW.mono (by omega)))⟩)
      have hlen1:(Bu (l.take i) d s).length+[x].length≤100000:=by have:=HDL.out;simp;omega
      have HZ:Hid (∀W:World,Below BO wr W→(W.cell? ⟨bT+1+1,0,none⟩=some vo∧W.frozen? ⟨bT+1+1,0,none⟩=false)):=Aa (fun W hW=>⟨by rw[hW.cell (p:=⟨bT+1+1,0,none⟩) (by show bT+1+1<BO;omega)];exact(BN HO.out).1.1,by rw[hW.frozen (p:=⟨bT+1+1,0,none⟩) (by show bT+1+1<BO;omega)];exact(BN HO.out).2.1⟩);clear hbel c0 c1 d0 d1 d2 d3 d4 d5;have hs0:=Nj.out wr.drew ((Ad _ _).drew);obtain⟨t0,t1,t2,t3,t4,t5,t6,t7⟩:=hs0;go_region_law ((refine Bf Lh rfl _ _ rfl BO vo _ _ rfl NJ.out _ [x] (FI _) (fun y _=>JE y) rfl (AL.block (FI _) HI.out) hlen1 Qr.out ?_;intro v8 w8 Fz F6 JS;have EK:Below BO wr w8:=Aa4.out.grown F6 Qr.out (fun j hj=>(NJ.out.lt j hj).1);have hq8:=EK.mono (show bT+1+1≤BO by omega);obtain⟨z0,y0⟩:=HZ.out w8 EK;obtain⟨a8,k8,c8,N9⟩:=Dc Fz;subst N9))
      all_goals
       have H7:World.ownsRow w8 BO 195 6 (.slice a8 k8 c8) (Bu (l.take (i+1)) d s).length ((Bu (l.take (i+1)) d s).flatMap KM):=by
        rw[HD2.out,A7,FB];exact Fz
       have dU:=Aa (M4 H7 (show bT+1+1<BO by omega) 0 (.slice a8 k8 c8));have X6:Hid (DC (w8.setCell ⟨bT+1+1,0,none⟩ (.slice a8 k8 c8)) bT (.slice (some ⟨g,off,none⟩) m cap) nx):=Aa (by
        unfold DC;rw[Bw _ _ _ _ (by show bT≠bT+1+1;omega),EK.block _ (by omega)];exact HT.out)
       have KZ:Hid ((w8.setCell ⟨bT+1+1,0,none⟩ (.slice a8 k8 c8)).heap[bT+1]?=some (.cells #[.slice none 0 0,.int .i64 0] 31 (0,0))):=Aa (by
        rw[Bw _ _ _ _ (by show bT+1≠bT+1+1;omega),EK.block _ (by omega)];exact HR.out)
       have HO9:Hid ((w8.setCell ⟨bT+1+1,0,none⟩ (.slice a8 k8 c8)).heap[bT+1+1]?=some (.cells #[.slice a8 k8 c8,.int .i64 nx] 31 (0,0))):=Aa (by
        rw[Bn _ (bT+1+1) 0 _ _ _ ((EK.block _ (by omega)).trans HO.out)];rfl)
       have aa:Hid (Below bT w (w8.setCell ⟨bT+1+1,0,none⟩ (.slice a8 k8 c8))):=Aa ((HB.out.trans (EK.mono (by omega))).setCell (p:=⟨bT+1+1,0,none⟩) (by show bT≤bT+1+1;omega) _);have LW:BO≤(w8.setCell ⟨bT+1+1,0,none⟩ (.slice a8 k8 c8)).heap.size:=by have:=EK.size;simp[World.setCell];omega
       have HS9:=Aa LW;clear Fz H7 EK hq8 LW F6 JS;go_wp2;go_roundw
       case rel=>exact⟨i+1,_,by omega,by first|rfl|go_num,X6.out,KZ.out,HO9.out,dU.out,aa.out,HS9.out⟩
       case measure=>simp[intOf];omega
  · have hiz:¬(i:Int)<(m:Int):=by omega
    have HA:Hid (l.take i=l):=Aa (CV (by rw[HM.out];omega));rw[HA.out]at HW;obtain⟨a8,k8,c8,N9⟩:=Dc HW.out;subst N9;obtain⟨⟨q0,q1⟩,_⟩:=BN HO.out;obtain⟨⟨r0,r1⟩,⟨f0,f1⟩⟩:=BN HR.out;have dU:=Aa (M4 (M4 HW.out (show bT+1<BO by omega) 0 (.slice a8 k8 c8)) (show bT+1<BO by omega) 1 (.int .i64 nx));have HX:=Aa (Bi.own dU.out rfl);have HZ:Hid (((wr.setCell ⟨bT+1,0,none⟩ (.slice a8 k8 c8)).setCell ⟨bT+1,1,none⟩ (.int .i64 nx)).heap[bT+1]?=some (.cells #[.slice a8 k8 c8,.int .i64 nx] 31 (0,0))):=Aa (by
     rw[Bn _ (bT+1) 1 _ _ _ (Bn _ (bT+1) 0 _ _ _ HR.out)];rfl)
    have aa:Hid (Below bT w ((wr.setCell ⟨bT+1,0,none⟩ (.slice a8 k8 c8)).setCell ⟨bT+1,1,none⟩ (.int .i64 nx))):=Aa ((HB.out.setCell (p:=⟨bT+1,0,none⟩) (by show bT≤bT+1;omega) _).setCell (p:=⟨bT+1,1,none⟩) (by show bT≤bT+1;omega) _);go_wp2;refine Bv (results_cell_row Tryz.results125 _ _ _ _ _ _ _ rfl HZ.out Tryz.underlying31 rfl NB) rfl ⟨_,rfl,HX.out,?_,?_⟩
    · intro j hj;have:=(HW.out.lt j hj).1;have:=Wn.out;omega
    · rw[Wn.out];exact aa.out
def F8 (l:List Az):Nat→Nat→Nat
 | 0,_=>0
 | k+1,n=>if AP l n=0 then n else F8 l k (n+1)
def Hl (l:List Az):Nat:=F8 l 200 1
theorem VN (l:List Az):∀k n,F8 l k n=0∨(n≤F8 l k n∧F8 l k n<n+k)
 | 0,n=>Or.inl rfl
 | k+1,n=>by
  unfold F8;split
  · right;omega
  · rcases VN l k (n+1) with h|h
    · exact Or.inl h
    · right;omega
def D7 (l:List Az)(nx d:Int)(s:ByteArray)(Bg:Bool)(sh:Int):(List Az×Int)×Int×Int:=
 if A9 l d≠0 then((l,nx),0,A9 l d)
 else if Ec s sh≠0 then((l,nx),0,Ec s sh)
 else if(BK l d s).2=0 then((l,nx),0,6)
 else if Hl l=0 then((l,nx),0,12)
 else((Dq l nx d ⟨s,Hl l,Bg,0,sh⟩,nx+1),Hl l,0)
structure Fr (w:World)(b:Nat)(v:Value)(nx:Int)(l:List Az)(W:World):Prop where
 t:DC W b v nx
 r:W.heap[b+1]?=some (.cells #[.slice none 0 0,.int .i64 0] 31 (0,0))
 i:Bi W v l
 bel:Below b w W
 sz:w.heap.size=b
theorem Fr.below {w W W':World}{b:Nat}{v:Value}{nx:Int}{l:List Az}(h:Fr w b v nx l W)(hb:Below W.heap.size W W'):Fr w b v nx l W':=
 ⟨h.t.below hb,by rw[hb.block _ (Ab h.r)];exact h.r,h.i.kept hb,h.bel.trans (hb.mono (by have:=h.bel.size;have:=h.sz;omega)),h.sz⟩
theorem Fr.cells {w W:World}{b:Nat}{v:Value}{nx:Int}{l:List Az}(h:Fr w b v nx l W):W.cell? ⟨b,0,none⟩=some v∧W.cell? ⟨b,1,none⟩=some (.int .i64 nx)∧W.cell? ⟨b+1,0,none⟩=some (.slice none 0 0)∧W.cell? ⟨b+1,1,none⟩=some (.int .i64 0)∧W.frozen? ⟨b+1,0,none⟩=false∧W.frozen? ⟨b+1,1,none⟩=false:=
 ⟨h.t.l.1,h.t.l.2,(BN h.r).1.1,(BN h.r).1.2,(BN h.r).2.1,(BN h.r).2.2⟩
theorem Fr.done {w W:World}{b:Nat}{v:Value}{nx:Int}{l:List Az}(h:Fr w b v nx l W){v8:Value}{nx8:Int}{l8:List Az}(h8:Bi W v8 l8)(hb:v8.ownBlock≠some (b+1)) :
 ((W.setCell ⟨b+1,0,none⟩ v8).setCell ⟨b+1,1,none⟩ (.int .i64 nx8)).heap[b+1]?=some (.cells #[v8,.int .i64 nx8] 31 (0,0))∧Bi ((W.setCell ⟨b+1,0,none⟩ v8).setCell ⟨b+1,1,none⟩ (.int .i64 nx8)) v8 l8∧Below w.heap.size w ((W.setCell ⟨b+1,0,none⟩ v8).setCell ⟨b+1,1,none⟩ (.int .i64 nx8)):=by
 refine⟨?_,(h8.set hb 0 _).set hb 1 _,?_⟩
 · rw[Bn _ (b+1) 1 _ _ _ (Bn _ (b+1) 0 _ _ _ h.r)];rfl
 · rw[h.sz];exact(h.bel.setCell (p:=⟨b+1,0,none⟩) (D9 _) _).setCell (p:=⟨b+1,1,none⟩) (D9 _) _
theorem Fr.own {w W:World}{b:Nat}{v:Value}{nx:Int}{l:List Az}(h:Fr w b v nx l W):v.ownBlock≠some (b+1):=fun e=>by
 obtain⟨cs,hc⟩:=h.i.2 _ e;exact Ci hc h.r (by decide) rfl
theorem cZ (w:World)(v:Value)(nx:Int)(l:List Az)(hv:Bi w v l):Fr w w.heap.size v nx l ((w.alloc (.cells #[v,.int .i64 nx] 31)).alloc (.cells #[.slice none 0 0,.int .i64 0] 31)):=by
 have hb:Below w.heap.size w ((w.alloc (.cells #[v,.int .i64 nx] 31)).alloc (.cells #[.slice none 0 0,.int .i64 0] 31)):=((Ad _ w).alloc (Ae _) _).alloc (by simp) _;refine⟨?_,heap_alloc2_new _ _ _,hv.kept hb,hb,rfl⟩;unfold DC;rw[Ct _ _ _ (by simp)];exact Ai _ _
theorem Bt {fn:Func}{p u q:Tmp}{ty:TypeId}(h:fn.results=#[.cell p ty,.tmp u,.tmp q])(tmps:Array Value)(P:Program)(w:World) :
 (results fn tmps).run P w =
  ((asAddr (tmps.getD p undef)).run P w).andThen fun a w₁=>((loadVar ty a).run P w₁).andThen fun v w₂=>.ok (.tuple #[v,tmps.getD u undef,tmps.getD q undef]) w₂:=by
 simp only[results,h];simp[Sem.run_bind,Result.andThen]
def KY (r:(List Az×Int)×Int×Int)(w0:World)(e:Ending)(w':World):Prop:=∃v',e=.returned (.tuple #[Bq v' r.1.2,.int .i64 r.2.1,.int .i64 r.2.2])∧Bi w' v' r.1.1∧Below w0.heap.size w0 w'
set_option maxHeartbeats 8000000 in
theorem pX (v:Value)(l:List Az)(nx d:Int)(s:ByteArray)(Bg:Bool)(sh:Int)(w:World)(hv:Bi w v l)(hl:l.length≤999)(hs:s.size≤9223372036854775807)(hnx:nx+1≤9223372036854775807)(Xo:0≤nx) :
 Calls Tryz.prog 84 #[Bq v nx,.int .i64 d,.string s,.bool Bg,.int .i64 sh] w (KY (D7 l nx d s Bg sh) w):=by
 unfold KY;obtain⟨R,hR⟩:∃R,D7 l nx d s Bg sh=R:=⟨_,rfl⟩;rw[hR];unfold D7 at hR;have HRR:=Aa hR;obtain⟨a,cap,rfl⟩:=hv.1.len;have cL:=fun W (h:Bi W (.slice a l.length cap) l)=>O9 (.slice a l.length cap) l nx d W h.1 (by omega)
 have cF:=fun W (h:Bi W (.slice a l.length cap) l)=>Pm (.slice a l.length cap) l nx d s W h.1 (by omega)
 have cK:=fun(n:Nat) W (h:Bi W (.slice a l.length cap) l)=>Ms (.slice a l.length cap) l nx n W h.1 (by omega)
 have cP:=fun(n:Nat) W (h:Bi W (.slice a l.length cap) l)=>fJ (.slice a l.length cap) l nx d ⟨s,n,Bg,0,sh⟩ W h.1 (by omega) hnx Xo
 have cB:=fun W=>il s hs sh W
 obtain⟨m,hm⟩:∃m,l.length=m:=⟨_,rfl⟩;simp only[hm]at cL cF cK cP;rw[hm]at hv ⊢;have ZZ:=Aa (cZ w _ nx l hv);unfold Bq at cL cF cK cP ⊢;unfold Di at cP;clear hv hm hR hl;go_enter Tryz.func84,Tryz.ntmps84;go_upto_region 1 with fail;generalize (w.alloc (.cells #[.slice a m cap,.int .i64 nx] 31)).alloc (.cells #[.slice none 0 0,.int .i64 0] 31)=W0 at *;generalize Tw:w.heap.size=bT at *;have Wn:=Aa Tw;clear Tw;have ZB:=cL W0 ZZ.out.i;unfold PL at ZB;obtain⟨t0,t1,r0,r1,f0,f1⟩:=ZZ.out.cells;have Xq:A9 l d=0∨A9 l d≠0:=Decidable.em _;have zx:=Aa (YO l d);go_upto_region 2 with(go_at_call 69;refine ZB.mono ?_;rintro e w1 ⟨lv,rfl,hlv,hb1⟩;have UD:=Aa (ZZ.out.below hb1);clear hlv hb1);clear cL ZB ZZ t0 t1 r0 r1 f0 f1;obtain⟨t0,t1,r0,r1,f0,f1⟩:=UD.out.cells;rcases Xq with Xq|Xq
 · have zm:=Aa Xq;rw[Xq];have cB1:=cB w1;have TB:Ec s sh=0∨Ec s sh≠0:=Decidable.em _;rcases TB with TB|TB
   · have HBZ:=Aa TB;rw[TB]at cB1;have cF1:=cF w1 UD.out.i;unfold K6 at cF1;clear TB Xq;go_upto_region 7 with(first|(go_at_call 122;refine cB1.mono ?_;rintro e w2 ⟨rfl,rfl⟩)|(go_at_call 123;refine cF1.mono ?_;rintro e w3 ⟨rfl,hb3⟩;have Ex:=Aa (UD.out.below hb3);clear hb3));clear cF cF1 cB cB1 UD t0 t1 r0 r1 f0 f1;obtain⟨t0,t1,r0,r1,f0,f1⟩:=Ex.out.cells;have Xt:(BK l d s).2=0∨(BK l d s).2≠0:=Decidable.em _;rcases Xt with Xt|Xt
     · rw[Xt];have KZ:Hid (R=((l,nx),0,6)):=Aa (by rw[←HRR.out,if_neg (by rw[zm.out];simp),if_neg (by rw[HBZ.out];simp),if_pos Xt]);clear Xt cK cP;obtain⟨hz,hi,hb⟩:=Ex.out.done (nx8:=nx) Ex.out.i Ex.out.own;have HZ:=Aa hz;have HI:=Aa hi;have GN:=Aa hb;clear hz hi hb;go_wp2;refine Bv (v:=.tuple #[Bq (.slice a m cap) (nx),.int .i64 (0),.int .i64 (6)]) ?_ rfl ?_
       · rw[Bt rfl];go_simp;rfl
       · rw[KZ.out];exact⟨_,rfl,HI.out,GN.out⟩
     · have hz:((BK l d s).2==0)=false:=by rw[Ba];exact Xt
       have HFZ:=Aa Xt;generalize (BK l d s).2=FE at *;clear Xt;go_wp2;go_loopw [15] (fun iv wr=>∃n:Nat,1≤n∧n≤201∧iv=.int .i64 n∧F8 l (201-n) n=Hl l∧Fr w bT (.slice a m cap) nx l wr) (fun iv _=>201-(intOf iv).toNat)
       case atStart=>exact⟨1,by omega,by omega,rfl,rfl,Ex.out⟩
       case round =>
        obtain⟨n,hn1,hn2,rfl,hgo,hfr⟩:=hrel;clear Ex t0 t1 r0 r1 f0 f1;have Ht:=Aa hgo;have Ex:=Aa hfr;obtain⟨t0,t1,r0,r1,f0,f1⟩:=hfr.cells;have ic:=cK n wr hfr.i;clear hgo hfr;by_cases hn:n≤200
        · have hnz:(n:Int)≤200:=by omega
          have HST:Hid (Hl l=if AP l n=0 then n else F8 l (201-(n+1)) (n+1)):=Aa (by
           rw[←Ht.out,show 201-n=(200-n)+1 by omega,show 201-(n+1)=200-n by omega];rfl)
          have hK:AP l n=0∨AP l n≠0:=Decidable.em _;rcases hK with hK|hK
          · have HFN:Hid (Hl l=n):=Aa (by rw[HST.out,if_pos hK]);rw[hK]at ic;clear hK Ht;go_upto_region 13 with(go_at_call 107;refine ic.mono ?_;rintro e w5 ⟨rfl,hb5⟩;have l7:=Aa (Ex.out.below hb5);clear hb5);clear Ex t0 t1 r0 r1 f0 f1;obtain⟨t0,t1,r0,r1,f0,f1⟩:=l7.out.cells;have cP1:=cP n w5 l7.out.i;unfold IU Bq at cP1;have KZ:Hid (R=((Dq l nx d ⟨s,n,Bg,0,sh⟩,nx+1),(n:Int),0)):=Aa (by
             rw[←HRR.out,if_neg (by rw[zm.out];simp),if_neg (by rw[HBZ.out];simp),if_neg HFZ.out,if_neg (by rw[HFN.out];omega),HFN.out])
            go_wp2_with (go_at_call 124;refine cP1.mono ?_;rintro e w8 ⟨v8,rfl,Oz,kr,EK⟩;obtain⟨a8,c8,N9⟩:=Oz.1.len;have uW:=Aa (l7.out.below EK);obtain⟨hz,hi,hb⟩:=uW.out.done (nx8:=nx+1) Oz (fun e=>by have h1:=kr _ e;have h2:=Ab l7.out.r;omega);have HZ:=Aa hz;have HI:=Aa hi;have GN:=Aa hb;obtain⟨q0,q1,y0,y1,x0,x1⟩:=uW.out.cells;generalize (Dq l nx d ⟨s,n,Bg,0,sh⟩).length=L8 at N9;subst N9;clear hz hi hb Oz kr EK);refine Bv (v:=.tuple #[Bq (.slice a8 L8 c8) (nx+1),.int .i64 n,.int .i64 0]) ?_ rfl ?_
            · rw[Bt rfl];go_simp;rfl
            · rw[KZ.out];exact⟨_,rfl,HI.out,GN.out⟩
          · have HFN:Hid (F8 l (201-(n+1)) (n+1)=Hl l):=Aa (by rw[HST.out,if_neg hK]);have hKz:(AP l n==0)=false:=by rw[Ba];exact hK
            clear hK Ht;go_wp2_with (go_at_call 107;refine ic.mono ?_;rintro e w5 ⟨rfl,hb5⟩;have l7:=Aa (Ex.out.below hb5);clear hb5);go_roundw
            case rel=>exact⟨n+1,by omega,by omega,by first|rfl|go_num,HFN.out,l7.out⟩
            case measure=>simp[intOf];omega
        · have hnz:¬(n:Int)≤200:=by omega
          have HFN:Hid (Hl l=0):=Aa (by
           rw[←Ht.out,show 201-n=0 by omega];rfl)
          have KZ:Hid (R=((l,nx),0,12)):=Aa (by rw[←HRR.out,if_neg (by rw[zm.out];simp),if_neg (by rw[HBZ.out];simp),if_neg HFZ.out,if_pos HFN.out]);clear ic;obtain⟨hz,hi,hb⟩:=Ex.out.done (nx8:=nx) Ex.out.i Ex.out.own;have HZ:=Aa hz;have HI:=Aa hi;have GN:=Aa hb;clear hz hi hb;go_wp2;refine Bv (v:=.tuple #[Bq (.slice a m cap) (nx),.int .i64 (0),.int .i64 (12)]) ?_ rfl ?_
          · rw[Bt rfl];go_simp;rfl
          · rw[KZ.out];exact⟨_,rfl,HI.out,GN.out⟩
   · have hz:(Ec s sh==0)=false:=by rw[Ba];exact TB
     have hz2:(Ec s sh !=0)=true:=by rw[bne,hz];rfl
     have KZ:Hid (R=((l,nx),0,Ec s sh)):=Aa (by rw[←HRR.out,if_neg (by rw[zm.out];simp),if_pos TB]);generalize Ec s sh=BE at *;clear Xq TB cF cK cP;go_upto_region 5 with(go_at_call 122;refine cB1.mono ?_;rintro e w2 ⟨rfl,rfl⟩);have HK:Hid (∀(W:World) (x y:Value),(W.cell? ⟨bT,0,none⟩=some (.slice a m cap)∧W.cell? ⟨bT,1,none⟩=some (.int .i64 nx))→(((W.setCell ⟨bT+1,0,none⟩ x).setCell ⟨bT+1,1,none⟩ y).cell? ⟨bT,0,none⟩=some (.slice a m cap)∧((W.setCell ⟨bT+1,0,none⟩ x).setCell ⟨bT+1,1,none⟩ y).cell? ⟨bT,1,none⟩=some (.int .i64 nx))):=Aa (fun W x y h=>by
      have e:((W.setCell ⟨bT+1,0,none⟩ x).setCell ⟨bT+1,1,none⟩ y).heap[bT]?=W.heap[bT]?:=by rw[Bw _ _ _ _ (by show bT≠bT+1;omega),Bw _ _ _ _ (by show bT≠bT+1;omega)]
      exact⟨by rw[Fj (w:=W) (a:=⟨bT,0,none⟩) e];exact h.1,by rw[Fj (w:=W) (a:=⟨bT,1,none⟩) e];exact h.2⟩)
     have uV:Hid (Fr w bT (.slice a m cap) nx l w2.drew):=Aa (UD.out.below (Ad _ _).drew);have u0:w2.drew.cell? ⟨bT,0,none⟩=some (.slice a m cap):=t0;have u1:w2.drew.cell? ⟨bT,1,none⟩=some (.int .i64 nx):=t1;have v0:w2.drew.cell? ⟨bT+1,0,none⟩=some (.slice none 0 0):=r0;have v1:w2.drew.cell? ⟨bT+1,1,none⟩=some (.int .i64 0):=r1;have g0:w2.drew.frozen? ⟨bT+1,0,none⟩=false:=f0;have g1:w2.drew.frozen? ⟨bT+1,1,none⟩=false:=f1;go_region_held3 (fun W=>W.cell? ⟨bT,0,none⟩=some (.slice a m cap)∧W.cell? ⟨bT,1,none⟩=some (.int .i64 nx)) (first|exact⟨‹_›,‹_›⟩|exact HK.out _ _ _ ⟨‹_›,‹_›⟩|assumption|(constructor<;>assumption)) ((go_at_call 122;refine(cB _).mono ?_;rintro e w9 ⟨rfl,rfl⟩))
     all_goals
      obtain⟨hz,hi,hb⟩:=uV.out.done (nx8:=nx) uV.out.i uV.out.own;have HZ:=Aa hz;have HI:=Aa hi;have GN:=Aa hb;clear hz hi hb;go_wp2;refine Bv (v:=.tuple #[Bq (.slice a m cap) nx,.int .i64 0,.int .i64 BE]) ?_ rfl ?_
      · rw[Bt rfl];go_simp;rfl
      · rw[KZ.out];exact⟨_,rfl,HI.out,GN.out⟩
 · have hz:(A9 l d==0)=false:=by rw[Ba];exact Xq
   have hz2:(A9 l d !=0)=true:=by rw[bne,hz];rfl
   have KZ:Hid (R=((l,nx),0,A9 l d)):=Aa (by rw[←HRR.out,if_pos Xq]);clear cF cK cP cB;obtain⟨hz,hi,hb⟩:=UD.out.done (nx8:=nx) UD.out.i UD.out.own;have HZ:=Aa hz;have HI:=Aa hi;have GN:=Aa hb;clear hz hi hb;go_wp2;refine Bv (v:=.tuple #[Bq (.slice a m cap) (nx),.int .i64 (0),.int .i64 (A9 l d)]) ?_ rfl ?_
   · rw[Bt rfl];go_simp;rfl
   · rw[KZ.out];exact⟨_,rfl,HI.out,GN.out⟩
theorem Am {B:Nat}{a w:World}(h:Below B a w):∀q,Below B a (w.drewN q)
 | 0=>h
 | q+1=>(Am h q).drew
def J6 (l:List Az)(n:Int):Bool:=l.any fun x=>decide (x.BD=n)
theorem bR (x:Az)(l:List Az)(n:Int):J6 (x::l) n=(decide (x.BD=n)||J6 l n):=rfl
def BM (l:List Az)(nx d:Int)(s:ByteArray)(Bg:Bool):(List Az×Int)×Int:=
 if(BK l d s).2≠0 then((l,nx),(BK l d s).2)
 else if Bg=true∧(BK l d s).1.dir=false then((l,nx),8)
 else if Bg=false∧(BK l d s).1.dir=true then((l,nx),7)
 else if J6 l (BK l d s).1.node=true then((l,nx),9)
 else((Bu l d s,nx),0)
def Qo (r:(List Az×Int)×Int)(w0:World)(e:Ending)(w':World):Prop:=∃v',e=.returned (.tuple #[Bq v' r.1.2,.int .i64 r.2])∧Bi w' v' r.1.1∧Below w0.heap.size w0 w'
set_option maxHeartbeats 8000000 in
theorem ay (v:Value)(l:List Az)(nx d:Int)(s:ByteArray)(Bg:Bool)(w:World)(hv:Bi w v l)(hl:l.length≤999) :
 Calls Tryz.prog 85 #[Bq v nx,.int .i64 d,.string s,.bool Bg] w (Qo (BM l nx d s Bg) w):=by
 unfold Qo;obtain⟨R,hR⟩:∃R,BM l nx d s Bg=R:=⟨_,rfl⟩;rw[hR];unfold BM at hR;have HRR:=Aa hR;obtain⟨a,cap,rfl⟩:=hv.1.len;have cF:=fun W (h:Bi W (.slice a l.length cap) l)=>Pm (.slice a l.length cap) l nx d s W h.1 (by omega)
 have cD:=fun W (h:Bi W (.slice a l.length cap) l)=>Zt (.slice a l.length cap) l nx d s W h.1 (by omega)
 obtain⟨m,hm⟩:∃m,l.length=m:=⟨_,rfl⟩;have HM:=Aa hm;simp only[hm]at cF cD;rw[hm]at hv hl ⊢;have ZZ:=Aa (cZ w _ nx l hv);unfold Bq at cF cD ⊢;clear hv hm hR;go_enter Tryz.func85,Tryz.ntmps85;go_upto_region 1 with fail;generalize (w.alloc (.cells #[.slice a m cap,.int .i64 nx] 31)).alloc (.cells #[.slice none 0 0,.int .i64 0] 31)=W0 at *;generalize Tw:w.heap.size=bT at *;have Wn:=Aa Tw;clear Tw;have lH:=cF W0 ZZ.out.i;unfold K6 Di at lH;obtain⟨t0,t1,r0,r1,f0,f1⟩:=ZZ.out.cells;generalize hFI:BK l d s=F at *;clear hFI;obtain⟨⟨nm,nd,dr,ck,sh⟩,FE⟩:=F;simp only at lH HRR;go_upto_region 2 with(go_at_call 123;refine lH.mono ?_;rintro e w1 ⟨rfl,hb1⟩;have UD:=Aa (ZZ.out.below hb1);clear hb1);clear cF lH ZZ t0 t1 r0 r1 f0 f1;have LQ:Hid (Fr w bT (.slice a m cap) nx l (w1.alloc (.cells #[.string nm,.int .i64 nd,.bool dr,.int .i64 ck,.int .i64 sh] 112))):=Aa (UD.out.below ((Ad _ w1).alloc (Ae _) _));have HEB:Hid ((w1.alloc (.cells #[.string nm,.int .i64 nd,.bool dr,.int .i64 ck,.int .i64 sh] 112)).heap[w1.heap.size]?=some (.cells #[.string nm,.int .i64 nd,.bool dr,.int .i64 ck,.int .i64 sh] 112 (0,0))):=Aa (Ai _ _);generalize w1.alloc (.cells #[.string nm,.int .i64 nd,.bool dr,.int .i64 ck,.int .i64 sh] 112)=W2 at *;generalize w1.heap.size=bX at *;clear UD;obtain⟨t0,t1,r0,r1,f0,f1⟩:=LQ.out.cells;obtain⟨⟨x0,x1,x2,x3,x4⟩,_⟩:=Aj HEB.out;by_cases Xt:FE=0
 · have HR1:Hid ((if Bg=true∧dr=false then((l,nx),(8:Int)) else if Bg=false∧dr=true then((l,nx),7) else if J6 l nd=true then((l,nx),9) else((Bu l d s,nx),0))=R):=Aa (by rw[←HRR.out,if_neg (show ¬FE≠0 by rw[Xt];simp)]);subst Xt;clear HRR;by_cases h8:Bg=true∧dr=false
   · have KZ:Hid (R=((l,nx),8)):=Aa (by rw[←HR1.out,if_pos h8]);obtain⟨rfl,rfl⟩:=h8;clear cD;obtain⟨hz,hi,hb⟩:=LQ.out.done (nx8:=nx) LQ.out.i LQ.out.own;have HZ:=Aa hz;have HI:=Aa hi;have GN:=Aa hb;clear hz hi hb;go_wp2;refine Bv (v:=.tuple #[Bq (.slice a m cap) (nx),.int .i64 (8)]) ?_ rfl ?_
     · rw[CZ rfl];go_simp;rfl
     · rw[KZ.out];exact⟨_,rfl,HI.out,GN.out⟩
   · by_cases h7:Bg=false∧dr=true
     · have KZ:Hid (R=((l,nx),7)):=Aa (by rw[←HR1.out,if_neg h8,if_pos h7]);obtain⟨rfl,rfl⟩:=h7;clear cD h8;obtain⟨hz,hi,hb⟩:=LQ.out.done (nx8:=nx) LQ.out.i LQ.out.own;have HZ:=Aa hz;have HI:=Aa hi;have GN:=Aa hb;clear hz hi hb;go_wp2;refine Bv (v:=.tuple #[Bq (.slice a m cap) (nx),.int .i64 (7)]) ?_ rfl ?_
       · rw[CZ rfl];go_simp;rfl
       · rw[KZ.out];exact⟨_,rfl,HI.out,GN.out⟩
     · have HR2:Hid ((if J6 l nd=true then((l,nx),(9:Int)) else((Bu l d s,nx),0))=R):=Aa (by rw[←HR1.out,if_neg h8,if_neg h7]);have hdd:dr=Bg:=by
        cases Bg<;>cases dr<;>simp_all
       subst hdd;clear h8 h7 HR1;have Abn:dr=true∨dr=false:=by cases dr<;>simp
       rcases Abn with rfl|rfl
       all_goals
        go_upto_region 8 with fail;generalize hW2:W2=W3 at *;clear hW2;go_wp2;go_loopw [12] (fun iv wr=>∃i:Nat,i≤m∧iv=.int .i64 i∧J6 (l.drop i) nd=J6 l nd∧Fr w bT (.slice a m cap) nx l wr∧wr.cell? ⟨bX,1,none⟩=some (.int .i64 nd)) (fun iv _=>m-(intOf iv).toNat)
        case atStart=>exact⟨0,by omega,rfl,rfl,LQ.out,x1⟩
        case round =>
         obtain⟨i,hi,rfl,hgo,hfr,hx1⟩:=hrel;clear LQ t0 t1 r0 r1 f0 f1 x0 x1 x2 x3 x4 HEB;have Ht:=Aa hgo;have LQ:=Aa hfr;obtain⟨t0,t1,r0,r1,f0,f1⟩:=hfr.cells;clear hgo hfr;by_cases him:i<m
         · have hiz:(i:Int)<(m:Int):=by omega
           obtain⟨x,hx⟩:∃x,l[i]?=some x:=⟨_,Co (by rw[HM.out];omega)⟩;obtain⟨g,off,rfl,hg,hrg⟩:=LQ.out.i.1.at hx;have d0:=(Qf hrg).1;have HG:Hid (J6 l nd=(decide (x.BD=nd)||J6 (l.drop (i+1)) nd)):=Aa (by rw[←Ht.out,DK hx,bR]);clear hx hrg;generalize x.BD=BD at *;by_cases hin:BD=nd
           · subst hin;have KZ:Hid (R=((l,nx),9)):=Aa (by rw[←HR2.out,if_pos (by rw[HG.out];simp)]);go_wp2;go_quiet (fail);have HFQ:=Aa (LQ.out.below (Am (Ad _ _) nq));generalize wr.drewN nq=wq at *;clear LQ t0 t1 r0 r1 f0 f1 d0 hx1;obtain⟨t0,t1,r0,r1,f0,f1⟩:=HFQ.out.cells;clear cD;obtain⟨hz,hi,hb⟩:=HFQ.out.done (nx8:=nx) HFQ.out.i HFQ.out.own;have HZ:=Aa hz;have HI:=Aa hi;have GN:=Aa hb;clear hz hi hb;go_wp2;refine Bv (v:=.tuple #[Bq (.slice (some ⟨g,off,none⟩) m cap) (nx),.int .i64 (9)]) ?_ rfl ?_
             · rw[CZ rfl];go_simp;rfl
             · rw[KZ.out];exact⟨_,rfl,HI.out,GN.out⟩
           · have HGN:Hid (J6 (l.drop (i+1)) nd=J6 l nd):=Aa (by rw[HG.out,Bb hin,Bool.false_or]);have e1:(BD==nd)=false:=by rw[Ba];exact hin
             go_wp2;go_quiet (fail);have HFQ:=Aa (LQ.out.below (Am (Ad _ _) nq));have hxq:(wr.drewN nq).cell? ⟨bX,1,none⟩=some (.int .i64 nd):=by
              rw[(Am (Ad wr.heap.size wr) nq).cell (p:=⟨bX,1,none⟩) (World.block_lt_of_cell? wr ⟨bX,1,none⟩ hx1)];exact hx1
             have HXQ:=Aa hxq;clear hxq;go_wp2;go_roundw
             case rel=>exact⟨i+1,by omega,by first|rfl|go_num,HGN.out,HFQ.out,HXQ.out⟩
             case measure=>simp[intOf];omega
         · have hiz:¬(i:Int)<(m:Int):=by omega
           have HGN:Hid (J6 l nd=false):=Aa (by
            rw[←Ht.out,JW (by rw[HM.out];omega)];rfl)
           have KZ:Hid (R=((Bu l d s,nx),0)):=Aa (by rw[←HR2.out,if_neg (by rw[HGN.out];simp)]);have cD1:=cD wr LQ.out.i;unfold IU Bq at cD1;clear cD;go_wp2_with (go_at_call 125;refine cD1.mono ?_;rintro e w8 ⟨v8,rfl,Oz,kr,EK⟩;obtain⟨a8,c8,N9⟩:=Oz.1.len;have uW:=Aa (LQ.out.below EK);obtain⟨hz,hi,hb⟩:=uW.out.done (nx8:=nx) Oz (fun e=>by have h1:=kr _ e;have h2:=Ab LQ.out.r;omega);have HZ:=Aa hz;have HI:=Aa hi;have GN:=Aa hb;obtain⟨q0,q1,y0,y1,z0,z1⟩:=uW.out.cells;generalize (Bu l d s).length=L8 at N9;subst N9;clear hz hi hb Oz kr EK);refine Bv (v:=.tuple #[Bq (.slice a8 L8 c8) nx,.int .i64 0]) ?_ rfl ?_
           · rw[CZ rfl];go_simp;rfl
           · rw[KZ.out];exact⟨_,rfl,HI.out,GN.out⟩
 · have KZ:Hid (R=((l,nx),FE)):=Aa (by rw[←HRR.out,if_pos Xt]);have hz:(FE==0)=false:=by rw[Ba];exact Xt
   have hz2:(FE !=0)=true:=by rw[bne,hz];rfl
   clear cD;obtain⟨hz,hi,hb⟩:=LQ.out.done (nx8:=nx) LQ.out.i LQ.out.own;have HZ:=Aa hz;have HI:=Aa hi;have GN:=Aa hb;clear hz hi hb;go_wp2;refine Bv (v:=.tuple #[Bq (.slice a m cap) (nx),.int .i64 (FE)]) ?_ rfl ?_
   · rw[CZ rfl];go_simp;rfl
   · rw[KZ.out];exact⟨_,rfl,HI.out,GN.out⟩
end Go.Proofs.YtdmkhmeaphaapaaGreat
